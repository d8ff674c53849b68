import PyProof.Rows.All
import Wide.All
import OpenK.KLine
import OpenK.KWalk
import OpenK.KOwn
import KE.RegKIsAll
import KE.IntBitsLaws
import KE.KItem
import Wide.FinOn
import Lean
import PyProof.EqAt
import PyProof.EqKinds
import PyProof.TupleCall
import PyProof.Draws
import PyProof.EnumMake
import PyProof.ZipIter
import PyProof.Rows.SumAny
import KE.KRevIter
import PyProof.StrCalls2
import KE.KRevSl
import KE.LcSums
import PyProof.Rows.SetFrom
import PyProof.DictIter
import PyProof.CollectWalk
import PyProof.Rows.SortRev
import PySem.Challenge.RW_shortpurse_k31_who_stays
set_option autoImplicit true
set_option relaxedAutoImplicit true
set_option compiler.extract_closed false
set_option genSizeOfSpec false
set_option Elab.async false
set_option linter.all false
set_option maxRecDepth 100000
set_option maxHeartbeats 4000000
def Qa:=@List.length_map
def Qb:=@List.getElem?_eq_getElem
def Qc:=@List.mem_of_getElem?
def Qd:=@List.getElem?_eq_some_iff
def Qe:=@List.mem_cons_self
def Qf:=@List.mem_cons_of_mem
def Qg:=@PySem.wpAny_bind
def Qh:=@List.getElem?_map
def Qi:=@PySem.Heap.get?_push_of_some
def Qj:=@List.mem_map
def Qk:=@List.getD_eq_getElem?_getD
def Ql:=@List.map_cons
def Qm:=@List.map_map
def Qn:=@List.mem_cons
def Qo:=@List.pairwise_cons
def Qp:=@List.not_mem_nil
def Qq:=@PySem.wpAny_pure
def Qr:=@PySem.Heap.lt_size
def Qt:=@List.getElem?_zipWith
def Qu:=@Nat.le_refl
def Qv:=@List.mem_singleton
def Qw:=@PySem.Heap.get?_push_size
def Qx:=@List.mem_iff_getElem?
def Qy:=@List.length_cons
def Qz:=@of_decide_eq_true
def QA:=@Bool.false_ne_true
def QB:=@List.length_append
def QC:=@List.length_zipWith
def QD:=@List.getElem?_eq_none
def QE:=@List.length_replicate
def QF:=@Rat.le_of_lt
def QG:=@List.map_congr_left
def QH:=@if_pos
def QI:=@List.mem_append_right
def QJ:=@List.size_toArray
def QK:=@Option.some.inj
def QL:=@List.sum_cons
def QM:=@List.map_append
def QN:=@Nat.ne_of_lt
def QO:=@List.pairwise_iff_getElem
def QP:=@if_neg
def QQ:=@List.take_of_length_le
def QR:=@Rat.le_refl
def QS:=@List.getElem_of_mem
def QT:=@Rat.mul_nonneg
def QU:=@List.mem_filter
def QV:=@PySem.Heap.size_push
def QW:=@Nat.le_trans
def QX:=@List.getElem?_replicate
def QY:=@List.mem_append
def QZ:=@decide_eq_true
def Ta:=@Nat.lt_of_lt_of_le
def Tb:=@List.getElem_zipWith
def Tc:=@decide_eq_false
def Td:=@Nat.lt_succ_self
def Te:=@PySem.wpAny_callSpecial?_slot
def Tf:=@List.getElem_mem
def Tg:=@Rat.intCast_mul
def Th:=@Rat.intCast_le_intCast
def Ti:=@List.getElem?_zip_eq_some
def Tj:=@Int.toNat_natCast
def Tn:=@List.ext_getElem?
def To:=@List.getLast?_eq_some_getLast
def Tp:=@Rat.not_lt
def Tq:=@PySem.Heap.SameBut.update
def Tr:=@List.take_add_one
def Ts:=@PySem.wpAny_call_entry
def Tt:=@List.pairwise_map
def Tu:=@PySem.Heap.get?_update_other
def Tv:=@List.cons_append
def Tw:=@Int.fmod_eq_emod_of_nonneg
def Tx:=@Nat.lt_succ_of_lt
def Tz:=@List.length_drop
def TB:=@Rat.mul_inv_cancel
def TC:=@List.ext_getElem
def TF:=@PyProof.Rows.callWith_type1
def TH:=@List.replicate_succ
def TK:=@List.length_reverse
def TL:=@List.getElem_replicate
def TM:=@Nat.min_self
def TN:=@Int.fdiv_eq_ediv_of_nonneg
def TQ:=@List.getElem?_append_right
def TR:=@List.length_take
def TU:=@List.all_eq_true
def TV:=@PySem.Heap.get?_update_self
def TX:=@List.length_singleton
def TY:=@Rat.le_trans
def TZ:=@List.getLast?_cons_cons
def jaa:=@List.getElem?_eq_none_iff
def jab:=@List.zipWith_cons_cons
def jac:=@List.pairwise_append
def jad:=@List.mem_of_mem_tail
def jae:=@List.nodup_cons
def jaf:=@List.flatten_cons
def jag:=@List.length_filter_le
def jah:=@Rat.div_def
def jai:=@PySem.wpAny_newObj_type
def jaj:=@List.append_assoc
def jak:=@List.mem_append_left
def jal:=@List.mem_of_getLast?
def jam:=@PySem.wpAny_field
def jan:=@Nat.lt_irrefl
def jao:=@Int.emod_lt_of_pos
def jap:=@List.dropLast_concat_getLast
def jaq:=@Array.length_toList
def jar:=@Nat.zero_le
def jas:=@Bool.and_eq_true
def jat:=@Rat.not_le
def jau:=@List.pairwise_singleton
def jav:=@Nat.le_succ
def jaw:=@PySem.wpAny_pyIter_tuple
def jax:=@PySem.wpAny_Call_Name_kw
def jay:=@List.getElem?_drop
def jaz:=@PySem.W.kia_one
def jaA:=@List.getElem?_append_left
def jaB:=@List.getLast?_eq_getElem?
def jaC:=@PySem.wpAny_seqItems
def jaD:=@PySem.wpAny_holding
def jaE:=@Bool.false_eq_true
def jaF:=@Int.emod_nonneg
def jaG:=@PySem.W.mg_of
def jaH:=@PySem.Around.under_plainId
def jaI:=@Nat.ne_of_gt
def jaJ:=@List.map_nil
def jaK:=@List.getElem_map
def jaL:=@PySem.wpAny_pyIter_list
def jaM:=@PySem.mem_of_lookup
def jaN:=@List.length_range
def jaO:=@List.getLast?_map
def jaP:=@List.length_pos_iff
def jaQ:=@PySem.wpAny_attempt
def jaR:=@List.nil_append
def jaS:=@Rat.le_antisymm
def jaT:=@Option.isSome_iff_exists
def jaU:=@PySem.wpAny_setField_rec
def jaV:=@List.lookup_cons
def jaW:=@List.length_tail
def jaX:=@Rat.lt_irrefl
def jaY:=@List.mem_singleton_self
def jaZ:=@PyProof.Rows.F.plain_set_update_loop
def jba:=@beq_eq_false_iff_ne
def jbb:=@List.filterMap_cons
def jbc:=@List.append_nil
def jbd:=@List.map_const'
def jbe:=@Rat.intCast_sub
def jbf:=@PySem.codeAny_builtin
def jbg:=@List.length_pos_of_mem
def jbh:=@PySem.F.slot_tuple_iterator_next
def jbi:=@Array.getElem?_eq_some_iff
def jbj:=@List.filter_cons
def jbk:=@Rat.divInt_mul_divInt
def jbl:=@List.Pairwise.sublist
def jbm:=@List.mem_range
def jbn:=@PySem.wpAny_setField
def jbo:=@PySem.wpAny_passesOwn
def jbp:=@List.Sublist.refl
def jbq:=@List.length_filterMap_le
def jbr:=@Int.le_of_lt
def jbs:=@Int.mul_le_mul_of_nonneg_right
def jbt:=@Int.le_trans
def jbu:=@Rat.mul_pos
def jbv:=@PySem.wpAny_setEntries_of
def jbw:=@PySem.SeqAt.canLay_of_shaped
def jbx:=@Rat.intCast_lt_intCast
def jby:=@List.drop_eq_nil_of_le
def jbz:=@List.map_replicate
def jbA:=@Int.gcd_pos_of_ne_zero_right
def jbB:=@List.of_mem_zip
def jbC:=@PySem.wpAny_loadPart'
def jbD:=@Int.le_refl
def jbE:=@PySem.F.called_set
def jbF:=@PySem.wpAny_setState_of
def jbG:=@List.Pairwise.imp
def jbH:=@List.getElem?_set_ne
def jbI:=@List.drop_eq_getElem_cons
def jbJ:=@List.mem_reverse
def jbK:=@List.zipWith_map
def jbL:=@List.map_zipWith
def jbM:=@Nat.le_of_lt
def jbN:=@PySem.wpAny_comprehension_free
def jbO:=@Rat.divInt_eq_divInt_iff
def jbP:=@Nat.zero_add
def jbQ:=@Rat.zero_mul
def jbR:=@List.mem_filterMap
def jbS:=@Bool.eq_iff_iff
def jbT:=@PySem.W.callWith_K
def jbU:=@List.length_set
def jbV:=@PySem.Obj.data_mapFields
def jbW:=@Rat.num_divInt_den
def jbX:=@Int.natCast_pow
def jbY:=@List.getLast?_cons
def jbZ:=@PySem.wpAny_truthy_bool
def jca:=@PySem.wpAny_rule
def jcb:=@Int.mul_one
def jcc:=@PySem.codeAny_mono
def jcd:=@Nat.le_of_ble_eq_true
abbrev Frg:=PySem.W.Frag
abbrev Pn:=List (PySem.Addr×PySem.Obj)
set_option exponentiation.threshold 2000
local macro_rules|`(⋯)=>`(by omega)
local macro_rules|`(nofun)=>`(by decide)
local macro_rules|`(‹$h:ident›)=>`(by simpa using $h)
local macro_rules|`(‹()›)=>`(by walk_at "dats")
local macro_rules|`(tactic|walk_at "f")=>`(tactic|first|exact .inl rfl|exact .inr rfl|assumption)
local macro_rules|`(tactic|walk_at "o")=>`(tactic|first|exact Or.inl rfl|exact Or.inr rfl)
local macro_rules|`(tactic|walk_at "v")=>`(tactic|first|exact Or.inl rfl|exact Or.inr (Or.inl rfl)|exact Or.inr (Or.inr rfl))
local macro_rules|`(tactic|walk_at "l")=>`(tactic|first|decide|exact Qu _|omega)
namespace L2
open PySem PySem.Spec PyProof.Rows
abbrev Key:=Sum Int Str
def keyIs:Key->Value->Bool
 | .inl k,v=>Value.isInt k v
 | .inr x,v=>Value.isStrOf x v
def keyH (w:World):Key->Int
 | .inl k=>hashInt k
 | .inr x=>hashStr w x
theorem xr:∀{k:Key} {v:Value},keyIs k v=true->(∃i t,k=Sum.inl i/\v=Value.int i t)\/(∃x t,k=Sum.inr x/\v=Value.str x t)
 | .inl i,v,h=>by
   obtain ⟨t,e⟩:=Value.isInt_shape (k:=i) (v:=v) h;exact .inl ⟨i,t,rfl,e⟩
 | .inr x,v,h=>by
   obtain ⟨t,e⟩:=Value.isStrOf_shape (x:=x) (v:=v) h;exact .inr ⟨x,t,rfl,e⟩
def key_ll (a b:Int):decide ((Sum.inl a:Key)=Sum.inl b)=(a==b):=by
 by_cases e:a=b
 ·subst e;simp
 ·have h:¬(Sum.inl a:Key)=Sum.inl b:=λq=>e (Sum.inl.inj q);rw [Tc h];exact (jba.mpr e).symm
def key_rr (a b:Str):decide ((Sum.inr a:Key)=Sum.inr b)=decide (a=b):=by
 by_cases e:a=b
 ·subst e;simp
 ·have h:¬(Sum.inr a:Key)=Sum.inr b:=λq=>e (Sum.inr.inj q);rw [Tc h,Tc e]
def key_lr (a:Int) (b:Str):decide ((Sum.inl a:Key)=Sum.inr b)=false:=Tc (λq=>nomatch q)
def key_rl (a:Str) (b:Int):decide ((Sum.inr a:Key)=Sum.inl b)=false:=Tc (λq=>nomatch q)
noncomputable def Ck (prog:Program) (w:World):PySem.KeyKind prog w Key where
 is:=keyIs
 hash:=keyH w
 inj:=λv a b ha q=>by
  rcases xr ha with ⟨i,t,rfl,rfl⟩|⟨x,t,rfl,rfl⟩
  ·rcases xr q with ⟨j,u,rfl,e⟩|⟨y,u,rfl,e⟩
   ·injection e with g _;rw [g]
   ·exact nomatch e
  ·rcases xr q with ⟨j,u,rfl,e⟩|⟨y,u,rfl,e⟩
   ·exact nomatch e
   ·injection e with g _;rw [g]
 byValue:=λk v h=>by
  rcases xr h with ⟨i,t,rfl,rfl⟩|⟨x,t,rfl,rfl⟩<;>rfl
 pyHash:=λm h=>by
  rcases xr m with ⟨i,t,rfl,rfl⟩|⟨x,t,rfl,rfl⟩
  ·exact wpAny_pyHash_int h
  ·exact wpAny_pyHash_str h
 eqBool:=λr m h=>by
  rcases xr r with ⟨i,t,rfl,rfl⟩|⟨x,t,rfl,rfl⟩
  ·rcases xr m with ⟨j,u,rfl,rfl⟩|⟨y,u,rfl,rfl⟩
   ·rw [key_ll] at h;exact wpAny_eqBool_int h
   ·rw [key_lr] at h;exact SeqAt.EqAt.int_str i t y u _ _ _ _ h
  ·rcases xr m with ⟨j,u,rfl,rfl⟩|⟨y,u,rfl,rfl⟩
   ·rw [key_rl] at h;exact SeqAt.EqAt.str_int x t j u _ _ _ _ h
   ·rw [key_rr] at h;exact wpAny_eqBool_str h
 «strs»:=λk x t v h=>by
  rcases xr h with ⟨i,u,rfl,e⟩|⟨y,u,rfl,e⟩
  ·exact nomatch e
  ·injection e with g _
   subst g;cases v<;>rfl
inductive V where
 |non|bl (b:Bool)|int (i:Int)|str (x:Str)|byt (b:Array UInt8)|flt (b:UInt64)|ref (a:Addr)|ty (n:String)
 deriving DecidableEq
def ZQ:V->Value->Prop
 | .non,u=>u=Value.none
 | .bl b,u=>u=Value.bool b
 | .int i,u=>∃t,u=Value.int i t
 | .str x,u=>∃t,u=Value.str x t
 | .byt b,u=>∃t,u=Value.bytes b t
 | .flt b,u=>∃t,u=Value.float b t
 | .ref a,u=>u=Value.ref a
 | .ty n,u=>u=Value.type n
abbrev xD:List V->List Value->Prop:=Paired ZQ
def xD.length {xs:List V} {us:List Value} (r:xD xs us):xs.length=us.length:=Paired.length r
theorem xD.get:∀{xs:List V} {us:List Value} {i:Nat} {x:V},xD xs us->xs[i]? =some x->∃u,us[i]? =some u/\ZQ x u
 |_,_,_,_, .nil,e=>by simp at e
 |_,_,0,_, .cons r _,e=>by simp at e;subst e;exact ⟨_,rfl,r⟩
 |_,_,i+1,x, .cons _ t,e=>by
  obtain ⟨u,m,g⟩:=xD.get (i:=i) (x:=x) t ‹e›;exact ⟨u,by simpa using m,g⟩
theorem xD.set {x:V} {u:Value} (r:ZQ x u):∀{xs:List V} {us:List Value} (i:Nat),xD xs us->xD (xs.set i x) (us.set i u)
 |_,_,_, .nil=> .nil
 |_,_,0, .cons _ t=> .cons r t
 |_,_,i+1, .cons q t=> .cons q (xD.set r i t)
def xD.append {xs ys:List V} {us ws:List Value} (h:xD xs us) (s:xD ys ws):xD (xs++ys) (us++ws):=by
 induction h with
 |nil=>exact s
 |cons r t g=>exact .cons r g
theorem xD.take:∀{xs:List V} {us:List Value} (n:Nat),xD xs us->xD (xs.take n) (us.take n)
 |_,_,0,_=> .nil
 |_,_,_+1, .nil=> .nil
 |_,_,n+1, .cons r t=> .cons r (xD.take n t)
theorem xD.drop:∀{xs:List V} {us:List Value} (n:Nat),xD xs us->xD (xs.drop n) (us.drop n)
 |_,_,0,r=>r
 |_,_,_+1, .nil=> .nil
 |_,_,n+1, .cons _ t=>xD.drop n t
def Ec:Option V->Option Value->Prop
 |some v,some u=>ZQ v u
 |none,none=>True
 |_,_=>False
def KV {κ:Type}:List (κ×V)->List (κ×Value)->Prop:=Paired λ(p:κ×V) (q:κ×Value)=>p.1=q.1/\ZQ p.2 q.2
noncomputable def kV:Key->V
 | .inl i=> .int i
 | .inr x=> .str x
inductive HO where
 |lst (xs:List V)
 |tup (xs:List V)
 |dK (kvs:List (Key×V))|dT (kvs:List (List Key×V))
 |set (S:Int->Bool) (n:Nat)
 |ins (C dx:Addr) (fs:List (Str×V))
 |own (x:Addr)
 |xd (fs:List (Str×V))
 |met (f x:Addr)
 |rng (lo hi:Int)
 |frz (o:Obj) (u:HO)
 |tbl (ps:Array Value)
 |ext (φ:Heap->Prop)
abbrev Hp:=Addr->Option HO
noncomputable def upd (H:Hp) (a:Addr) (o:HO):Hp:=λb=>if b=a then some o else H b
def yM {H:Hp} {a:Addr} {o:HO}:upd H a o a=some o:=by unfold upd;rw [QH rfl]
def yh {H:Hp} {a b:Addr} {o:HO} (h:b≠a):upd H a o b=H b:=by unfold upd;rw [QP h]
def yj {H:Hp} {a b:Addr} {o:HO} (h:H a=some o) (h':H b=none):a≠b:=by
 intro e;subst e;rw [h] at h';cases h'
section
variable (P:Program) (w:World)
def ZY (H:Hp) (h:Heap) (a:Addr):HO->Prop
 | .lst xs=>xs.length<=sizeLine/\∃(its:List Value) (n:Nat),xD xs its/\h.get? a=some {cls:= .type "list",data:= .seq its.toArray n}
 | .tup xs=>xs.length<=sizeLine/\∃its:List Value,xD xs its/\IsTup h a its.toArray
 | .dK g=>g.length<=sizeLine/\(a==sysModules)=false/\∃vs,KV g vs/\h.DictOf (Ck P w) a vs
 | .dT g=>g.length<=sizeLine/\(a==sysModules)=false/\∃xs:List (List Key×Addr×Value),
  Paired (λ(p:List Key×V) (q:List Key×Addr×Value)=>p.1=q.1/\H q.2.1=some (.tup (p.1.map kV))/\ZQ p.2 q.2.2) g xs/\
  ∃o es ep,h.get? a=some o/\o.ExactDict/\o.data= .dict es ep/\es.toList=xs.map (entryOfKey (tupleKind (Ck P w)))/\(xs.map (·.1)).Nodup
 | .set S n=>h.SetOf (intKind P w) a S n
 | .ins C r fs=>H r=some (.own a)/\fs.length<=1000/\r≠a/\h.get? a=some (PySem.W.instObj C r)/\
  ∃m,h.Ns1 r m/\(∀f,Ec (fs.lookup f) (m f))/\PySem.Within m (fs.map (·.1))
 | .own _=>∃o,h.get? a=some o
 | .xd fs=>∃m,h.Ns1 a m/\∀f,Ec (fs.lookup f) (m f)
 | .rng lo z=>∃t u v,h.get? a=some {cls:= .type "range",data:= .fields #[.int lo t, .int z u, .int 1 v]}
 | .frz o u=>h.get? a=some o/\ZY H h a u
 | .tbl ps=>h.get? a=some {cls:= .none,data:= .fields ps}
 | .met f x=>h.get? a=some (PySem.W.methodObj (.ref f) (.ref x))
 | .ext φ=>φ h/\(∃o,h.get? a=some o)/\∀y s:Heap,φ y->(∀o,y.get? a=some o->s.get? a=some o)->φ s
def HOk (H:Hp) (h:Heap):Prop:=∀a o,H a=some o->ZY P w H h a o
end
section
variable {P:Program} {w:World} {H H':Hp} {h h':Heap} {a:Addr} {o:HO}
def ZY.lt (x:ZY P w H h a o):a<h.objs.size:=by
 cases o with
 |lst xs=>obtain ⟨_,_,_,_,e⟩:=x;exact Qr e
 |tup xs=>obtain ⟨_,_,_,p⟩:=x;exact p.lt
 |dK g=>obtain ⟨_,_,_,_,o,_,_,e,_⟩:=x;exact Qr e
 |dT g=>obtain ⟨_,_,_,_,o,_,_,e,_⟩:=x;exact Qr e
 |set S n=>obtain ⟨o,_,_,_,e,_⟩:=x;exact Qr e
 |ins C r fs=>obtain ⟨_,_,_,e,_⟩:=x;exact Qr e
 |own y=>obtain ⟨_,e⟩:=x;exact Qr e
 |xd fs=>obtain ⟨_,⟨_,_,_,e,_⟩,_⟩:=x;exact Qr e
 |rng lo q=>obtain ⟨_,_,_,e⟩:=x;exact Qr e
 |frz m u=>obtain ⟨e,_⟩:=x;exact Qr e
 |tbl ps=>exact Qr (show h.get? a=some _ from x)
 |met f y=>exact Qr (show h.get? a=some _ from x)
 |ext φ=>obtain ⟨_,⟨_,e⟩,_⟩:=x;exact Qr e
theorem Paired.mapP {α β:Type} {F G:α->β->Prop}:∀{l₁:List α} {l₂:List β},Paired F l₁ l₂->(∀a b,F a b->G a b)->Paired G l₁ l₂
 |_,_, .nil,_=> .nil
 |_,_, .cons r t,f=> .cons (f _ _ r) (Paired.mapP t f)
def ZY.stay (x:ZY P w H h a o) (k:∀b u,(b=a\/H b=some (.own a))->h.get? b=some u->h'.get? b=some u)
 (G:∀b,H b=some (.own a)->H' b=some (.own a)) (ht:∀b xs,H b=some (.tup xs)->H' b=some (.tup xs)):ZY P w H' h' a o:=by
 induction o with
 |lst xs=>obtain ⟨z,its,n,r,e⟩:=x;exact ⟨z,its,n,r,k _ _ (.inl rfl) e⟩
 |tup xs=>obtain ⟨z,its,r,g,e,c⟩:=x;exact ⟨z,its,r,g,k _ _ (.inl rfl) e,c⟩
 |dK A=>obtain ⟨z,y,vs,r,g,es,ep,e,c⟩:=x;exact ⟨z,y,vs,r,g,es,ep,k _ _ (.inl rfl) e,c⟩
 |dT A=>
  obtain ⟨z,y,xs,r,g,es,ep,e,c⟩:=x;exact ⟨z,y,xs,Paired.mapP r λp q z=>⟨z.1,ht _ _ z.2.1,z.2.2⟩,g,es,ep,k _ _ (.inl rfl) e,c⟩
 |set S n=>obtain ⟨g,es,ep,t,e,c⟩:=x;exact ⟨g,es,ep,t,k _ _ (.inl rfl) e,c⟩
 |ins C K fs=>
  obtain ⟨d,z,ne,e,s,⟨m,es,ep,I,c⟩,r⟩:=x;exact ⟨G _ d,z,ne,k _ _ (.inl rfl) e,s,⟨m,es,ep,k _ _ (.inr d) I,c⟩,r⟩
 |own y=>obtain ⟨g,e⟩:=x;exact ⟨g,k _ _ (.inl rfl) e⟩
 |xd fs=>obtain ⟨s,⟨m,es,ep,e,c⟩,r⟩:=x;exact ⟨s,⟨m,es,ep,k _ _ (.inl rfl) e,c⟩,r⟩
 |rng lo J=>obtain ⟨t,u,v,e⟩:=x;exact ⟨t,u,v,k _ _ (.inl rfl) e⟩
 |frz g u D=>obtain ⟨e,q⟩:=x;exact ⟨k _ _ (.inl rfl) e,D q⟩
 |tbl ps=>
  have e:h.get? a=some {cls:= .none,data:= .fields ps}:=x;show h'.get? a=some {cls:= .none,data:= .fields ps};exact k a _ (.inl rfl) e
 |met f y=>
  have e:h.get? a=some (PySem.W.methodObj (.ref f) (.ref y)):=x;show h'.get? a=some (PySem.W.methodObj (.ref f) (.ref y));exact k a _ (.inl rfl) e
 |ext φ=>obtain ⟨p,⟨o,e⟩,st⟩:=x;exact ⟨st _ _ p λo q=>k _ _ (.inl rfl) q,⟨o,k _ _ (.inl rfl) e⟩,st⟩
def HOk.lt (x:HOk P w H h) (e:H a=some o):a<h.objs.size:=(x a o e).lt
def HOk.fresh (x:HOk P w H h) (e:h.objs.size<=a):H a=none:=by
 cases q:H a with
 |none=>rfl
 |some u=>exact absurd (Ta (x.lt q) e) (jan _)
def HOk.kept (x:HOk P w H h) (k:∀b u,h.get? b=some u->h'.get? b=some u):HOk P w H h':=λa o e=>
 (x a o e).stay (λb u _ q=>k b u q) (λ_ q=>q) λ_ _ q=>q
def HOk.laid (x:HOk P w H h) (k:∀b u,h.get? b=some u->h'.get? b=some u) (hp:h.objs.size<=a) (new:ZY P w (upd H a o) h' a o):HOk P w (upd H a o) h':=λb u e=>by
 have hn:=x.fresh hp
 by_cases g:b=a
 ·subst g;rw [yM] at e;cases e;exact new
 ·rw [yh g] at e;exact (x b u e).stay (λc v _ q=>k c v q) (λc q=>by rw [yh (yj q hn)];exact q) λc xs q=>by rw [yh (yj q hn)];exact q
end
def Rd (H:Hp) (a:Addr) (u:HO):Prop:=H a=some u\/∃o,H a=some (.frz o u)
def Rd.ok {P:Program} {w:World} {H:Hp} {h:Heap} {a:Addr} {u:HO} (r:Rd H a u) (x:HOk P w H h):ZY P w H h a u:=by
 rcases r with r|⟨o,r⟩
 ·exact x a u r
 ·obtain ⟨_,q⟩:=x a _ r;exact q
def Mut:Option HO->Prop
 |some (.lst _)=>True
 |some (.dK _)=>True
 |some (.dT _)=>True
 |some (.set _ _)=>True
 |some (.ins _ _ _)=>True
 |some (.ext _)=>True
 |_=>False
section
variable {P:Program} {w:World} {H:Hp} {h h':Heap} {x e:Addr} {o':HO}
def HOk.write (ok:HOk P w H h) (s:Mut (H x)) (he:e=x\/H e=some (.own x)) (k:∀b u,b≠e->h.get? b=some u->h'.get? b=some u) (I:∃u,h'.get? e=some u)
 (new:ZY P w (upd H x o') h' x o'):HOk P w (upd H x o') h':=λb u q=>by
 have g:∀c y,H c=some (.own y)->c≠x:=λc y r z=>by subst z;rw [r] at s;exact s
 have m:∀c xs,H c=some (.tup xs)->c≠x:=λc xs r z=>by subst z;rw [r] at s;exact s
 by_cases A:b=x
 ·subst A;rw [yM] at q;cases q;exact new
 ·rw [yh A] at q
  by_cases C:b=e
  ·have D:H b=some (.own x):=by
    rcases he with z|z
    ·exact absurd (C.trans z) A
    ·rw [C];exact z
   rw [q] at D;cases D;obtain ⟨v,G⟩:=I;exact ⟨v,by rw [C];exact G⟩
  ·refine (ok b u q).stay (λc v t r=>k c v ?_ r) (λc r=>by rw [yh (g c b r)];exact r) λc xs r=>by rw [yh (m c xs r)];exact r
   rcases t with rfl|t
   ·exact C
   ·rintro rfl
    rcases he with z|z
    ·exact g c b t z
    ·rw [t] at z;cases z;exact A rfl
end
structure Un (fs ex:List Addr) (H H':Hp) (h h':Heap):Prop where
 keep:∀b o,h.get? b=some o->H b=none->b∉fs->b∉ex->h'.get? b=some o
 slot:∀b o,h.get? b=some o->H b=none->b∈fs->b∉ex->∃sl,h'.get? b=some {o with slots:=sl}
 free:∀b o,h.get? b=some o->H b=none->b∉ex->H' b=none
 there:∀b o,h.get? b=some o->b∉ex->∃o',h'.get? b=some o'
 tups:∀b xs,H b=some (.tup xs)->H' b=some (.tup xs)
 frzs:∀b o u,H b=some (.frz o u)->H' b=some (.frz o u)
 tbls:∀b ps,H b=some (.tbl ps)->∃more,H' b=some (.tbl (ps++more))
section
variable {fs fs' ex ex':List Addr} {H H1 H2:Hp} {h h1 h2 h':Heap} {a x e:Addr} {o:HO}
def Un.any (u:Un fs ex H H1 h h1) {b:Addr} {g:Obj} (q:h.get? b=some g) (n:H b=none) (m:b∉ex):∃s,h1.get? b=some {g with slots:=s}:=by
 by_cases r:b∈fs
 ·exact u.slot b g q n r m
 ·exact ⟨g.slots,u.keep b g q n r m⟩
def Un.trans (a:Un fs ex H H1 h h1) (b:Un fs ex H1 H2 h1 h2):Un fs ex H H2 h h2 where
 keep:=λc g q n s m=>b.keep c g (a.keep c g q n s m) (a.free c g q n m) s m
 slot:=λc g q n s m=>by
  obtain ⟨z,r⟩:=a.slot c g q n s m;obtain ⟨y,u⟩:=b.slot c _ r (a.free c g q n m) s m;exact ⟨y,u⟩
 free:=λc g q n m=>by
  obtain ⟨t,r⟩:=a.there c g q m;exact b.free c t r (a.free c g q n m) m
 there:=λc g q m=>by
  obtain ⟨t,r⟩:=a.there c g q m;exact b.there c t r m
 tups:=λc xs q=>b.tups c xs (a.tups c xs q)
 frzs:=λc g xs q=>b.frzs c g xs (a.frzs c g xs q)
 tbls:=λc ps q=>by
  obtain ⟨w,r⟩:=a.tbls c ps q;obtain ⟨m2,u⟩:=b.tbls c _ r;exact ⟨w++m2,by rw [u,Array.append_assoc]⟩
def Un.kept (k:∀b u,h.get? b=some u->h'.get? b=some u):Un fs ex H H h h':=
 ⟨λb g q _ _ _=>k b g q,λb g q _ _ _=>⟨g.slots,k b g q⟩,λ_ _ _ n _=>n,λb g q _=>⟨g,k b g q⟩,λ_ _ q=>q,λ_ _ _ q=>q,λ_ ps q=>⟨#[],by rw [q];simp⟩⟩
def Un.refl:Un fs ex H H h h:=Un.kept λ_ _ q=>q
def Un.laid (k:∀b u,h.get? b=some u->h'.get? b=some u) (hp:h.objs.size<=a) (hn:H a=none):Un fs ex H (upd H a o) h h' where
 keep:=λb u q _ _ _=>k b u q
 slot:=λb u q _ _ _=>⟨u.slots,k b u q⟩
 free:=λb u q n _=>by rw [yh (QN (Ta (Qr q) hp))];exact n
 there:=λb u q _=>⟨u,k b u q⟩
 tups:=λb xs q=>by rw [yh (yj q hn)];exact q
 frzs:=λb u xs q=>by rw [yh (yj q hn)];exact q
 tbls:=λb ps q=>⟨#[],by rw [yh (yj q hn),q];simp⟩
def Un.write (g:Mut (H x)) (he:e=x\/H e=some (.own x)) (k:∀b u,b≠e->h.get? b=some u->h'.get? b=some u) (w:∃u,h'.get? e=some u):Un fs ex H (upd H x o) h h':=by
 have m:∀b,H b=none->b≠x:=λb n z=>by subst z;rw [n] at g;exact g
 have s:∀b,H b=none->b≠e:=λb n z=>by
  subst z
  rcases he with r|r
  ·exact m b n r
  ·rw [n] at r;cases r
 have hm:∀b u,H b=some u->¬Mut (some u)->b≠x:=λb u q nm z=>by subst z;rw [q] at g;exact nm g
 refine ⟨λb u q n _ _=>k b u (s b n) q,λb u q n _ _=>⟨u.slots,k b u (s b n) q⟩,λb u q n _=>by rw [yh (m b n)];exact n,λb u q _=>?_,
  λb xs q=>by rw [yh (hm b _ q λz=>z)];exact q,λb u xs q=>by rw [yh (hm b _ q λz=>z)];exact q,λb ps q=>⟨#[],by rw [yh (hm b _ q λz=>z),q];simp⟩⟩
 by_cases t:b=e
 ·subst t;exact w
 ·exact ⟨u,k b u t q⟩
end
noncomputable def trk (h:Heap) (H:Hp):List Addr:=(List.range h.objs.size).filter λa=>(H a).isSome
noncomputable def Gr (h:Heap) (H:Hp):Heap:=PySem.W.hideAll h (trk h H)
def CM (h:Heap) (H:Hp):(Gr h H).objs.size=h.objs.size:=PySem.W.hideAll_size _ _
def Gq {h:Heap} {H:Hp} {b:Addr} {o:Obj} (e:h.get? b=some o) (n:H b=none):(Gr h H).get? b=some o:=
 PySem.W.hideAll_get _ e λhm=>by
  have q:(H b).isSome=true:=(QU.mp hm).2;rw [n] at q;simp at q
def Jl {h:Heap} {H:Hp} {b:Addr} {o:Obj} (e:(Gr h H).get? b=some o):h.get? b=some o/\H b=none:=by
 have g:h.get? b=some o:=PySem.W.of_hideAll (trk h H) e;refine ⟨g,?_⟩
 cases q:H b with
 |none=>rfl
 |some x=>
  have hm:b∈trk h H:=QU.mpr ⟨jbm.mpr (Qr g),by simp [q]⟩;have z:(Gr h H).get? b=none:=PySem.W.hideAll_none (trk h H) hm;rw [z] at e;cases e
noncomputable def JY (g h:Heap) (L:Addr):List (Addr×Obj):=(List.range h.objs.size).filterMap λa=>if a=L\/(g.get? a).isSome=true then none else (h.get? a).map λo=>(a,o)
noncomputable def rest (g h:Heap) (L d:Addr):List (Addr×Obj):=(JY g h L).filter λp=>decide (p.1≠d)
structure Mod (K:Frg) (mg:Str->Option Value) (base:Heap):Prop where
 kin:K.In base
 glob:base.Ns mainGlobals mg
 blt:∃mb,base.Ns builtinsNs mb/\∀x:Str,x≠"__name__"->mb x=bootBuiltins x
 nolimit:base.NoLimit
structure Cx where
 prog:Program
 w:World
 K:Frg
 mg:Str->Option Value
 base:Heap
 A:Around
 N:List Str
 s₀:Shared
 H₀:Hp
 env:Env
 outer:List Env
 stack:List Env
 ex:List Addr
 fn:Str->Bool
 calm:Bool
 pn:List (Addr×Obj)
 xe:Value->Shared->Prop
noncomputable def frs (l:List Env):List Addr:=l.filterMap (·.frame)
noncomputable abbrev Cx.fs (X:Cx):List Addr:=frs X.outer
def Vis (sc:Scope) (x:Str):Prop:=sc.names.lookup x=some .local\/sc.names.lookup x=some .cell\/sc.names.lookup x=some .free
def Loc (sc:Scope) (x:Str):Prop:=sc.names.lookup x=some .local\/sc.names.lookup x=some .cell
def Look (env:Env) (h:Heap) (m:Str->Option Value) (x:Str) (u:Value):Prop:=
 (env.kindOf x=some .local/\m x=some u)\/((env.kindOf x=some .cell\/env.kindOf x=some .free)/\∃c,env.cells.lookup x=some c/\h.IsCell c (some u))
structure Cx.Ok (X:Cx):Prop where
 mod:Mod X.K X.mg X.base
 kind:X.env.scope.kind= .function
 glob:X.env.globals=mainGlobals
 blt:X.env.builtins=builtinsNs
 above:X.s₀.heap.objs.size<=X.env.locals
 inj:∀x y c,X.env.cells.lookup x=some c->X.env.cells.lookup y=some c->x=y
 has:∀x,(X.env.kindOf x=some .cell\/X.env.kindOf x=some .free)->∃c,X.env.cells.lookup x=some c
 cab:∀x c,X.fn x=true->X.env.cells.lookup x=some c->X.s₀.heap.objs.size<=c
 hd:X.calm=true->X.A.handled=none
 frames:X.A.frames=some X.stack
 stk:X.stack=X.outer\/(X.stack=X.env::X.outer/\X.env.frame=some X.env.locals)
 exf:∀b∈X.ex,b≠X.env.locals/\∀x c,X.env.cells.lookup x=some c->c≠b
 bs:∀b o,X.base.get? b=some o->X.s₀.heap.get? b=some o/\X.H₀ b=none
 bsz:X.base.objs.size<=X.s₀.heap.objs.size
 noex:∀b o,X.base.get? b=some o->b∉X.ex
 exfs:∀b∈X.ex,b∉X.fs
 funs:X.s₀.heap.FunFrames X.base X.outer
 frf:∀b∈X.fs,X.H₀ b=none
structure Inv (X:Cx) (pins:Pn) (σ:List (Option V)) (H:Hp) (s:Shared):Prop where
 ok:X.Ok
 os:s.os=X.s₀.os
 bare:AllBare s.gens
 base:Un X.fs X.ex X.H₀ H X.s₀.heap s.heap
 loc:∃m,s.heap.Ns X.env.locals m/\∀(i:Nat) (x:Str) (v:V),X.N[i]? =some x->σ[i]? =some (some v)->Vis X.env.scope x->∃u,ZQ v u/\Look X.env s.heap m x u
 cell:∀x c,X.env.cells.lookup x=some c->∃v,s.heap.IsCell c v
 free:H X.env.locals=none
 freeC:∀x c,X.env.cells.lookup x=some c->H c=none
 pin:∀p∈X.pn++pins,s.heap.get? p.1=some p.2/\H p.1=none/\p.1≠X.env.locals/\p.1∉X.fs/\∀v,p.2.data≠ .cell v
 hok:HOk X.prog X.w H s.heap
 len:σ.length=X.N.length
section
variable {X:Cx} {pins:Pn} {σ:List (Option V)} {H H':Hp} {s:Shared} {h':Heap}
def Cx.Ok.nofr (ok:X.Ok) {b:Addr} {o:Obj} (e:X.base.get? b=some o):b∉X.fs:=λg=>by
 have:=(ok.funs.mem g).1;rw [e] at this;cases this
def Inv.bs (I:Inv X pins σ H s):∀b o,X.base.get? b=some o->s.heap.get? b=some o/\H b=none:=λb o e=>
 ⟨I.base.keep b o (I.ok.bs b o e).1 (I.ok.bs b o e).2 (I.ok.nofr e) (I.ok.noex b o e),I.base.free b o (I.ok.bs b o e).1 (I.ok.bs b o e).2 (I.ok.noex b o e)⟩
def Inv.bk (I:Inv X pins σ H s):∀b o,X.base.get? b=some o->s.heap.get? b=some o:=λb o e=>(I.bs b o e).1
def Inv.mod (I:Inv X pins σ H s):Mod X.K X.mg X.base:=I.ok.mod
def Inv.kIn (I:Inv X pins σ H s):X.K.In s.heap:=I.ok.mod.kin.keeps I.bk
def Inv.lt (I:Inv X pins σ H s):X.env.locals<s.heap.objs.size:=by
 obtain ⟨_,hn,_⟩:=I.loc;exact hn.lt
def Inv.sz (I:Inv X pins σ H s):X.s₀.heap.objs.size<=s.heap.objs.size:=QW I.ok.above (jbM I.lt)
def Inv.nofs (I:Inv X pins σ H s) {a:Addr} (h:s.heap.objs.size<=a):a∉X.fs:=λm=>by
 obtain ⟨_,o,g,_⟩:=I.ok.funs.mem m;exact absurd (Ta (Qr g) (QW I.sz h)) (jan _)
def Inv.cne (I:Inv X pins σ H s):∀x c,X.env.cells.lookup x=some c->c≠X.env.locals:=λx c e z=>by
 obtain ⟨v,o,g,hd⟩:=I.cell x c e;obtain ⟨m,⟨t,es,ep,q,r,_⟩,_⟩:=I.loc;rw [z,q] at g;cases g;rw [r] at hd;cases hd
def Inv.funs (I:Inv X pins σ H s):s.heap.FunFrames X.base X.outer:=by
 have all:∀(l:List Env),(∀b∈frs l,b∈X.fs)->X.s₀.heap.FunFrames X.base l->s.heap.FunFrames X.base l:=by
  intro l
  induction l with
  |nil=>intro _ _;trivial
  |cons env r t=>
   intro q w;obtain ⟨y,⟨L,o,hf,hn,u,hd⟩,hr⟩:=w;have m:L∈X.fs:=q L (by unfold frs;rw [jbb,hf];exact Qe);obtain ⟨A,e⟩:=I.base.slot L o u (I.ok.frf L m) m λz=>I.ok.exfs L z m;exact ⟨y,⟨L,_,hf,hn,e,hd⟩,t (λb g=>q b (by unfold frs;rw [jbb,hf];exact Qf _ g)) hr⟩
 exact all X.outer (λ_ g=>g) I.ok.funs
def Inv.stack (I:Inv X pins σ H s):s.heap.FunFrames X.base X.stack:=by
 rcases I.ok.stk with e|⟨e,hf⟩
 ·rw [e];exact I.funs
 ·rw [e];obtain ⟨m,hn,_⟩:=I.loc;refine .cons (by rw [I.ok.kind];decide) hf hn ?_ I.funs;exact Heap.get?_none_of_le (QW I.ok.bsz I.ok.above)
def Inv.stkSub (I:Inv X pins σ H s):∀b∈frs X.stack,b∈X.env.locals::X.fs:=λb g=>by
 rcases I.ok.stk with e|⟨e,hf⟩
 ·rw [e] at g;exact Qf _ g
 ·rw [e] at g;unfold frs at g;rw [jbb,hf] at g;exact g
def Inv.stkFree (I:Inv X pins σ H s):∀b∈frs X.stack,H b=none:=λb g=>by
 rcases Qn.mp (I.stkSub b g) with e|g
 ·rw [e];exact I.free
 ·obtain ⟨_,o,m,_⟩:=I.ok.funs.mem g;exact I.base.free b o m (I.ok.frf b g) λz=>I.ok.exfs b z g
def Inv.step {g':Array GenState} {t':Nat} {d':Drawn} {ch:List Addr} (I:Inv X pins σ H s)
 (L:∀b∈ch,(b∈X.ex\/X.s₀.heap.objs.size<=b)/\b≠X.env.locals/\(∀x c,X.env.cells.lookup x=some c->c≠b)/\∀p∈X.pn++pins,p.1≠b)
 (keep:∀b o,b≠X.env.locals->b∉X.fs->b∉ch->s.heap.get? b=some o->H b=none->h'.get? b=some o)
 (slot:∀b o,b≠X.env.locals->b∈X.fs->b∉ch->s.heap.get? b=some o->H b=none->∃M,h'.get? b=some {o with slots:=M}) (free:∀b o,b∉ch->s.heap.get? b=some o->H b=none->H' b=none)
 (there:∀b o,b∉ch->s.heap.get? b=some o->∃G,h'.get? b=some G)
 (tups:∀b xs,H b=some (.tup xs)->H' b=some (.tup xs)) (frzs:∀b o u,H b=some (.frz o u)->H' b=some (.frz o u)) (tbls:∀b ps,H b=some (.tbl ps)->∃more,H' b=some (.tbl (ps++more)))
 (ns:∀m,s.heap.Ns X.env.locals m->h'.Ns X.env.locals m) (hok:HOk X.prog X.w H' h') (T:AllBare g'):
 Inv X pins σ H' {s with heap:=h',gens:=g',drawn:=d',toks:=t'}:=by
 have J:∀b o,X.s₀.heap.get? b=some o->b≠X.env.locals:=λb o e=>QN (Ta (Qr e) I.ok.above)
 have y:∀b o,X.s₀.heap.get? b=some o->b∉X.ex->b∉ch:=λb o e g C=>by
  rcases (L b C).1 with z|z
  ·exact g z
  ·exact absurd (Ta (Qr e) z) (jan _)
 have cellK:∀x c,X.env.cells.lookup x=some c->∀v,s.heap.IsCell c v->h'.IsCell c v:=λx c e v ⟨o,D,hd⟩=>by
  have t:c∉ch:=λz=>(L c z).2.2.1 x c e rfl
  by_cases N:c∈X.fs
  ·obtain ⟨M,q⟩:=slot c o (I.cne x c e) N t D (I.freeC x c e);exact ⟨_,q,hd⟩
  ·exact ⟨o,keep c o (I.cne x c e) N t D (I.freeC x c e),hd⟩
 refine ⟨I.ok,I.os,T,⟨λb o e n C g=>?_,λb o e n C g=>?_,λb o e n g=>?_,λb o e g=>?_,λb xs e=>tups b xs (I.base.tups b xs e),λb o xs e=>frzs b o xs (I.base.frzs b o xs e),λb ps e=>?_⟩,?_,λx c e=>?_,?_,λx c e=>?_,λp hp=>?_,hok,I.len⟩
 ·exact keep b o (J b o e) C (y b o e g) (I.base.keep b o e n C g) (I.base.free b o e n g)
 ·obtain ⟨M,A⟩:=I.base.slot b o e n C g;obtain ⟨Y,K⟩:=slot b _ (J b o e) C (y b o e g) A (I.base.free b o e n g);exact ⟨Y,K⟩
 ·obtain ⟨G,A⟩:=I.base.there b o e g;exact free b G (y b o e g) A (I.base.free b o e n g)
 ·obtain ⟨G,A⟩:=I.base.there b o e g;exact there b G (y b o e g) A
 ·obtain ⟨O,A⟩:=I.base.tbls b ps e;obtain ⟨m2,K⟩:=tbls b _ A;exact ⟨O++m2,by rw [K,Array.append_assoc]⟩
 ·obtain ⟨m,hn,P⟩:=I.loc;refine ⟨m,ns m hn,λi x v A K U=>?_⟩;obtain ⟨u,r,l⟩:=P i x v A K U;refine ⟨u,r,?_⟩
  rcases l with l|⟨k,c,e,z⟩
  ·exact .inl l
  ·exact .inr ⟨k,c,e,cellK x c e _ z⟩
 ·obtain ⟨v,z⟩:=I.cell x c e;exact ⟨v,cellK x c e v z⟩
 ·obtain ⟨m,⟨o,_,_,D,_⟩,_⟩:=I.loc;exact free _ o (λz=>(L _ z).2.1 rfl) D I.free
 ·obtain ⟨v,o,D,hd⟩:=I.cell x c e;exact free c o (λz=>(L c z).2.2.1 x c e rfl) D (I.freeC x c e)
 ·obtain ⟨e,n,ne,nf,d⟩:=I.pin p hp;have t:p.1∉ch:=λz=>(L p.1 z).2.2.2 p hp rfl;exact ⟨keep p.1 p.2 ne nf t e n,free p.1 p.2 t e n,ne,nf,d⟩
def Inv.un {t':Nat} (I:Inv X pins σ H s) (u:Un X.fs [] H H' s.heap h') (hok:HOk X.prog X.w H' h'):Inv X pins σ H' {s with heap:=h',toks:=t'}:=by
 obtain ⟨m,⟨o,es,ep,t,r⟩,_⟩:=id I.loc;obtain ⟨G,C⟩:=u.any t I.free (by simp)
 exact I.step (g':=s.gens) (d':=s.drawn) (ch:=[]) (λ_ z=>nomatch z) (λb o _ g _ e n=>u.keep b o e n g (by simp)) (λb o _ g _ e n=>u.slot b o e n g (by simp)) (λb o _ e n=>u.free b o e n (by simp)) (λb o _ e=>u.there b o e (by simp)) u.tups u.frzs u.tbls (λK hm=>by
  obtain ⟨J,q,D,y,A⟩:=hm;rw [t] at y;cases y
  exact ⟨_,q,D,C,A⟩) hok I.bare
def Inv.call {g':Array GenState} {t':Nat} {d':Drawn} {ch:List Addr} (I:Inv X pins σ H s) (u:Un (frs X.stack) ch H H' s.heap h') (hok:HOk X.prog X.w H' h') (G:AllBare g')
 (C:∀b∈ch,(b∈X.ex\/X.s₀.heap.objs.size<=b)/\b≠X.env.locals/\(∀x c,X.env.cells.lookup x=some c->c≠b)/\∀p∈X.pn++pins,p.1≠b):
 Inv X pins σ H' {s with heap:=h',gens:=g',drawn:=d',toks:=t'}:=by
 obtain ⟨m,⟨o,es,ep,y,r⟩,_⟩:=id I.loc;obtain ⟨L,q⟩:=u.any y I.free λz=>(C _ z).2.1 rfl
 exact I.step (ch:=ch) C (λb o q J g e n=>u.keep b o e n (λz=>(Qn.mp (I.stkSub b z)).elim q J) g) (λb o _ _ g e n=>u.any e n g) (λb o g e n=>u.free b o e n g) (λb o g e=>u.there b o e g) u.tups u.frzs u.tbls (λN hm=>by
  obtain ⟨M,t,K,A,D⟩:=hm;rw [y] at A;cases A
  exact ⟨_,t,K,q,D⟩) hok G
def Inv.turned {t':Nat} {it:Addr} (I:Inv X pins σ H s) (k:∀b o,b≠it->s.heap.get? b=some o->h'.get? b=some o) (hn:H it=none) (w:it≠X.env.locals)
 (G:it∈X.ex\/X.s₀.heap.objs.size<=it) (D:∀x c,X.env.cells.lookup x=some c->c≠it) (C:∀p∈X.pn++pins,p.1≠it):Inv X pins σ H {s with heap:=h',toks:=t'}:=by
 have t:∀b u,H b=some u->b≠it:=λb u e z=>by rw [z,hn] at e;cases e
 refine I.step (g':=s.gens) (d':=s.drawn) (ch:=[it]) (λb A=>?_) (λb o _ _ g e _=>k b o (λz=>g (by simp [z])) e) (λb o _ _ g e _=>⟨o.slots,k b o (λz=>g (by simp [z])) e⟩) (λ_ _ _ _ n=>n)
  (λb o g e=>⟨o,k b o (λz=>g (by simp [z])) e⟩) (λ_ _ e=>e) (λ_ _ _ e=>e) (λb ps e=>⟨#[],by rw [e];simp⟩) (λm hm=>?_) (λb u e=>?_) I.bare
 ·have e:b=it:=by simpa using A
  subst e;exact ⟨G,w,D,C⟩
 ·obtain ⟨o,es,ep,y,r⟩:=hm;exact ⟨o,es,ep,k _ o (Ne.symm w) y,r⟩
 ·refine (I.hok b u e).stay (λc v g q=>k c v ?_ q) (λ_ q=>q) λ_ _ q=>q
  rcases g with z|z
  ·rw [z];exact t b u e
  ·exact t c _ z
def Inv.tok (I:Inv X pins σ H s) (t:Nat):Inv X pins σ H {s with toks:=t}:=I.un (h':=s.heap) (t':=t) Un.refl I.hok
def Inv.kept {t':Nat} (I:Inv X pins σ H s) (k:∀b u,s.heap.get? b=some u->h'.get? b=some u):Inv X pins σ H {s with heap:=h',toks:=t'}:=I.un (Un.kept k) (I.hok.kept k)
def Inv.laid {a:Addr} {o:HO} {t':Nat} (I:Inv X pins σ H s) (k:∀b u,s.heap.get? b=some u->h'.get? b=some u) (hp:s.heap.objs.size<=a) (new:ZY X.prog X.w (upd H a o) h' a o):
 Inv X pins σ (upd H a o) {s with heap:=h',toks:=t'}:=I.un (Un.laid k hp (I.hok.fresh hp)) (I.hok.laid k hp new)
def Inv.write {x e:Addr} {o:HO} {t':Nat} (I:Inv X pins σ H s) (g:Mut (H x)) (he:e=x\/H e=some (.own x)) (k:∀b u,b≠e->s.heap.get? b=some u->h'.get? b=some u) (m:∃u,h'.get? e=some u)
 (new:ZY X.prog X.w (upd H x o) h' x o):Inv X pins σ (upd H x o) {s with heap:=h',toks:=t'}:=I.un (Un.write g he k m) (I.hok.write g he k m new)
def Inv.weak {σ':List (Option V)} (I:Inv X pins σ H s) (g:σ'.length=σ.length) (w:∀(i:Nat) v,σ'[i]? =some (some v)->σ[i]? =some (some v)):Inv X pins σ' H s:=
 ⟨I.ok,I.os,I.bare,I.base,let ⟨m,hn,u⟩:=I.loc;⟨m,hn,λi x v t r q=>u i x v t (w i v r) q⟩,I.cell,I.free,I.freeC,I.pin,I.hok,g.trans I.len⟩
def Inv.pins_of {g:List (Addr×Obj)} (I:Inv X pins σ H s) (h:∀p∈g,s.heap.get? p.1=some p.2/\H p.1=none/\p.1≠X.env.locals/\p.1∉X.fs/\∀v,p.2.data≠ .cell v):Inv X g σ H s:=
 ⟨I.ok,I.os,I.bare,I.base,I.loc,I.cell,I.free,I.freeC,λp hp=>(QY.mp hp).elim (λz=>I.pin p (jak _ z)) (h p),I.hok,I.len⟩
def tm {N:List Str} (g:N.Nodup) {i j:Nat} {x:Str} (a:N[i]? =some x) (b:N[j]? =some x):i=j:=by
 obtain ⟨t,q⟩:=Qd.mp a;obtain ⟨r,m⟩:=Qd.mp b;exact (List.getElem_inj g).mp (q.trans m.symm)
def nh {M:Model} {A:Around} {E:Value->Shared->Prop} {i:Nat} {x:Str} {v:V} {u:Value} {Q:Unit->Shared->Prop} (I:Inv X pins σ H s) (hN:X.N.Nodup) (K:X.N[i]? =some x) (D:Loc X.env.scope x) (r:ZQ v u)
 (h:∀s',Inv X pins (σ.set i (some v)) H s'->(∃a,Heap.SameBut a s.heap s'.heap/\(a=X.env.locals\/X.env.cells.lookup x=some a))->Q () s') (hf:X.fn x=true\/X.env.scope.names.lookup x=some .local:=by walk_at "f"):wpAny M A (storeName X.env x u) Q E s:=by
 obtain ⟨m,hn,hl⟩:=id I.loc;have SY:(X.env.scope.kind== .class||(X.env.scope.kind== .module && X.env.locals !=X.env.globals))=false:=by rw [I.ok.kind];rfl
 have Kσ:i<σ.length:=by rw [I.len];exact (Qd.mp K).1
 have cne:=I.cne
 have tracked:∀{a:Addr} {h':Heap},(∃o,s.heap.get? a=some o/\H a=none)->Heap.SameBut a s.heap h'->HOk X.prog X.w H h':=λ{a h'} ha g b ob e=>by
  obtain ⟨_,_,NK⟩:=ha;refine (I.hok b ob e).stay (λc T C q=>(g.2 c ?_).trans q) (λ_ q=>q) λ_ _ q=>q
  rintro rfl
  rcases C with rfl|C
  ·rw [NK] at e;cases e
  ·rw [NK] at C;cases C
 rcases D with J|J
 ·refine wpAny_storeName_local J hn (λh' hn' g=>?_) SY;obtain ⟨oL,_,_,hoL,_⟩:=id hn;refine h _ ⟨I.ok,I.os,I.bare,⟨λb o e n O D=>?_,λb o e n O D=>?_,I.base.free,λb o e D=>?_,I.base.tups,I.base.frzs,I.base.tbls⟩,⟨_,hn',λj y Y t G e3=>?_⟩,λy c e=>?_,I.free,I.freeC,λp hp=>?_,tracked ⟨oL,hoL,I.free⟩ g,by simpa using I.len⟩ ⟨_,g, .inl rfl⟩
  ·exact (g.2 b (QN (Ta (Qr e) I.ok.above))).trans (I.base.keep b o e n O D)
  ·obtain ⟨sl,t⟩:=I.base.slot b o e n O D;exact ⟨sl,(g.2 b (QN (Ta (Qr e) I.ok.above))).trans t⟩
  ·obtain ⟨o',t⟩:=I.base.there b o e D;exact ⟨o',(g.2 b (QN (Ta (Qr e) I.ok.above))).trans t⟩
  ·by_cases L:j=i
   ·subst L;rw [K] at t;cases t;rw [List.getElem?_set_self Kσ] at G;cases G;exact ⟨u,r, .inl ⟨J,by simp⟩⟩
   ·rw [jbH (Ne.symm L)] at G;obtain ⟨Z,r',q⟩:=hl j y Y t G e3;refine ⟨Z,r',?_⟩
    rcases q with ⟨k,e⟩|⟨k,c,e,z⟩
    ·refine .inl ⟨k,?_⟩;have:y≠x:=λe=>L (tm hN t (e▸K));simp [this,e]
    ·exact .inr ⟨k,c,e,z.sameBut g (cne y c e)⟩
  ·obtain ⟨T,z⟩:=I.cell y c e;exact ⟨T,z.sameBut g (cne y c e)⟩
  ·obtain ⟨e,n,ne,nf,d⟩:=I.pin p hp;exact ⟨(g.2 p.1 ne).trans e,n,ne,nf,d⟩
 ·have SM:X.fn x=true:=by
   rcases hf with z|z
   ·exact z
   ·rw [z] at J;cases J
  obtain ⟨c,C⟩:=I.ok.has x (.inl J);obtain ⟨T,z⟩:=I.cell x c C;refine wpAny_storeName_cell I.ok.kind J C z (λh' LK g=>?_);obtain ⟨oc,P,Sr⟩:=id z;refine h {s with heap:=h'} ⟨I.ok,I.os,I.bare,⟨λb o e n O D=>?_,λb o e n O D=>?_,I.base.free,λb o e D=>?_,I.base.tups,I.base.frzs,I.base.tbls⟩,⟨m,hn.sameBut g (Ne.symm (cne x c C)),λj y Y t G e3=>?_⟩,λy U e=>?_,I.free,I.freeC,λp hp=>?_,tracked ⟨oc,P,I.freeC x c C⟩ g,by simpa using I.len⟩ ⟨c,g, .inr C⟩
  ·exact (g.2 b (QN (Ta (Qr e) (I.ok.cab x c SM C)))).trans (I.base.keep b o e n O D)
  ·obtain ⟨sl,t⟩:=I.base.slot b o e n O D;exact ⟨sl,(g.2 b (QN (Ta (Qr e) (I.ok.cab x c SM C)))).trans t⟩
  ·obtain ⟨o',t⟩:=I.base.there b o e D;exact ⟨o',(g.2 b (QN (Ta (Qr e) (I.ok.cab x c SM C)))).trans t⟩
  ·by_cases L:j=i
   ·subst L;rw [K] at t;cases t;rw [List.getElem?_set_self Kσ] at G;cases G;exact ⟨u,r, .inr ⟨.inl J,c,C,LK⟩⟩
   ·rw [jbH (Ne.symm L)] at G;obtain ⟨Z,r',q⟩:=hl j y Y t G e3;refine ⟨Z,r',?_⟩
    rcases q with q|⟨k,U,e,z'⟩
    ·exact .inl q
    ·refine .inr ⟨k,U,e,z'.sameBut g ?_⟩
     rintro rfl
     exact L (tm hN t (I.ok.inj _ _ _ e C▸K))
  ·by_cases Rq:U=c
   ·subst Rq;exact ⟨_,LK⟩
   ·obtain ⟨w2,z2⟩:=I.cell y U e;exact ⟨w2,z2.sameBut g Rq⟩
  ·obtain ⟨e,n,ne,nf,d⟩:=I.pin p hp;refine ⟨(g.2 p.1 ?_).trans e,n,ne,nf,d⟩;intro q;rw [q,P] at e;have q':oc=p.2:=QK e;exact d T (by rw [<-q'];exact Sr)
def Uq {M:Model} {A:Around} {E:Value->Shared->Prop} {i:Nat} {x:Str} {v:V} {u:Value} {Q:Unit->Shared->Prop} (I:Inv X pins σ H s) (q:X.N.Nodup) (m:X.N[i]? =some x) (g:Loc X.env.scope x) (r:ZQ v u)
 (h:∀s',Inv X pins (σ.set i (some v)) H s'->Q () s') (hf:X.fn x=true\/X.env.scope.names.lookup x=some .local:=by walk_at "f"):wpAny M A (storeName X.env x u) Q E s:=
 nh I q m g r (λs' t _=>h s' t) hf
def Inv.call' {s':Shared} {ch:List Addr} (I:Inv X pins σ H s) (m:s'.os=s.os) (u:Un (frs X.stack) ch H H' s.heap s'.heap) (hok:HOk X.prog X.w H' s'.heap) (q:AllBare s'.gens)
 (r:∀b∈ch,(b∈X.ex\/X.s₀.heap.objs.size<=b)/\b≠X.env.locals/\(∀x c,X.env.cells.lookup x=some c->c≠b)/\∀p∈X.pn++pins,p.1≠b):Inv X pins σ H' s':=by
 obtain ⟨h',g',d',t',g⟩:=s';have e:g=s.os:=m;subst e;exact I.call (g':=g') (t':=t') (d':=d') u hok q r
end
abbrev XK:=Value->Option Addr->Hp->Prop
abbrev St:=List (Option V)
abbrev VK:=V->Hp->Prop
abbrev TE:=St->Hp->VK->Prop
abbrev TT:=St->Hp->(Bool->Hp->Prop)->Prop
abbrev TA:=St->Hp->(List V->Hp->Prop)->Prop
structure Ends where
 nx:St->Hp->Prop
 rt:VK
 bk:St->Hp->Prop:=λ_ _=>False
 ct:St->Hp->Prop:=λ_ _=>False
abbrev TS:=Ends->St->Hp->Prop
def EP (X:Cx) (pins:Pn) (σ:St) (Q:VK) (u:Value) (s':Shared):Prop:=∃v H',Inv X pins σ H' s'/\ZQ v u/\Q v H'
def TP (X:Cx) (pins:Pn) (σ:St) (Q:Bool->Hp->Prop) (b:Bool) (s':Shared):Prop:=∃H',Inv X pins σ H' s'/\Q b H'
def AP (X:Cx) (pins:Pn) (σ:St) (Q:List V->Hp->Prop) (us:List Value) (s':Shared):Prop:=∃vs H',Inv X pins σ H' s'/\xD vs us/\Q vs H'
def SP (X:Cx) (pins:Pn) (D:Ends) (f:Flow) (s':Shared):Prop:=
 match f with
 | .next=>∃σ' H',Inv X pins σ' H' s'/\D.nx σ' H'
 | .brk=>∃σ' H',Inv X pins σ' H' s'/\D.bk σ' H'
 | .cont=>∃σ' H',Inv X pins σ' H' s'/\D.ct σ' H'
 | .ret u=>∃v σ' H',Inv X pins σ' H' s'/\ZQ v u/\D.rt v H'
def PE (X:Cx) (e:Expr) (t:TE):Prop:=
 ∀(pins:Pn) (s:Shared) (σ:St) (H:Hp) (Q:VK),Inv X pins σ H s->t σ H Q->wpAny (model X.prog X.w) X.A (eval e X.env) (EP X pins σ Q) X.xe s
def PT (X:Cx) (e:Expr) (t:TT):Prop:=
 ∀(pins:Pn) (s:Shared) (σ:St) (H:Hp) (Q:Bool->Hp->Prop),Inv X pins σ H s->t σ H Q->wpAny (model X.prog X.w) X.A (isTrue e X.env (eval e X.env)) (TP X pins σ Q) X.xe s
def PW (X:Cx) (e:Expr) (t:TT):Prop:=
 ∀(whole:Sem Value) (pins:Pn) (s:Shared) (σ:St) (H:Hp) (Q:Bool->Hp->Prop),Inv X pins σ H s->t σ H Q->wpAny (model X.prog X.w) X.A (isTrue e X.env whole) (TP X pins σ Q) X.xe s
def PW.pt {X:Cx} {e:Expr} {t:TT} (h:PW X e t):PT X e t:=h _
def PA (X:Cx) (es:List Expr) (t:TA):Prop:=
 ∀(pos:Pos) (pins:Pn) (s:Shared) (σ:St) (H:Hp) (Q:List V->Hp->Prop),Inv X pins σ H s->t σ H Q->wpAny (model X.prog X.w) X.A (spliced (backTo pos (starEach es X.env))) (AP X pins σ Q) X.xe s
def PS (X:Cx) (st:Stmt) (t:TS):Prop:=
 ∀(pins:Pn) (s:Shared) (σ:St) (H:Hp) (D:Ends),Inv X pins σ H s->t D σ H->wpAny (model X.prog X.w) X.A (exec st X.env) (SP X pins D) X.xe s
def PSs (X:Cx) (st:List Stmt) (t:TS):Prop:=
 ∀(pins:Pn) (s:Shared) (σ:St) (H:Hp) (D:Ends),Inv X pins σ H s->t D σ H->wpAny (model X.prog X.w) X.A (execs st X.env) (SP X pins D) X.xe s
def thn {α:Type} {t:Sem α} {Q g:α->Shared->Prop} {M:Model} {A:Around} {E:Value->Shared->Prop} {s:Shared} (h:wpAny M A t Q E s) (m:∀a s,Q a s->g a s):wpAny M A t g E s:=wpAny_mono h m λ_ _ x=>x
section
variable {X:Cx}
def tVar (i:Nat):TE:=λσ H Q=>∃v,σ[i]? =some (some v)/\Q v H
def tC (v:V):TE:=λ_ H Q=>Q v H
def pe_var {i:Nat} {x:Str} {pos:Pos} (z:X.N[i]? =some x) (w:Vis X.env.scope x) (hd:(x==("__debug__":Str))=false:=by decide) (A:(x==("__classdict__":Str))=false:=by decide):PE X (.Name x pos) (tVar i):=by
 intro pins s σ H Q I h;obtain ⟨v,e,h⟩:=h;obtain ⟨m,hn,y⟩:=I.loc;obtain ⟨u,r,l⟩:=y i x v z e w;have fin:EP X pins σ Q u s:=⟨v,H,I,r,h⟩
 rcases l with ⟨g,hm⟩|⟨g,c,q,t⟩
 ·exact wpAny_Name (wpAny_loadName_local I.ok.kind g hn hm fin) hd
 ·rcases g with g|g
  ·exact wpAny_Name (wpAny_loadName_cell I.ok.kind g q t fin) hd
  ·exact wpAny_Name (wpAny_loadName_free I.ok.kind g q t fin A) hd
def tj {i j pos}:PE X (.Constant (.int i) j pos) (tC (.int i)):=λ_ _ _ H _ I h=>wpAny_Constant_int ⟨.int i,H,I.tok _,⟨_,rfl⟩,h⟩
def pe_bl {b j pos}:PE X (.Constant (.bool b) j pos) (tC (.bl b)):=λ_ _ _ H _ I h=>Constant_bool ⟨.bl b,H,I,rfl,h⟩
def pe_str {x j pos}:PE X (.Constant (.str x) j pos) (tC (.str x)):=λ_ _ _ H _ I h=>Calls.Constant_str ⟨.str x,H,I.tok _,⟨_,rfl⟩,h⟩
def Gl (X:Cx) (x:Str):Prop:=X.env.kindOf x=some .globalImplicit
def fU {E:Value->Shared->Prop} {pins:Pn} {s:Shared} {σ:St} {H:Hp} {x:Str} {u:Value} {pos:Pos} {Q:Value->Shared->Prop} (I:Inv X pins σ H s) (g:Gl X x) (hm:X.mg x=some u) (h:Q u s)
 (hd:(x==("__debug__":Str))=false:=by decide):wpAny (model X.prog X.w) X.A (eval (.Name x pos) X.env) Q E s:=
 Calls.Name_function_global I.ok.kind g (Calls.loadGlobal_global (by rw [I.ok.glob];exact I.mod.glob.keeps I.bk) hm h) hd
def WR {E:Value->Shared->Prop} {pins:Pn} {s:Shared} {σ:St} {H:Hp} {x:Str} {u:Value} {pos:Pos} {Q:Value->Shared->Prop} (I:Inv X pins σ H s) (m:Gl X x) (hm:X.mg x=none) (g:bootBuiltins x=some u) (h:Q u s)
 (hn:x≠"__name__":=by decide) (hd:(x==("__debug__":Str))=false:=by decide):wpAny (model X.prog X.w) X.A (eval (.Name x pos) X.env) Q E s:=by
 obtain ⟨t,r,q⟩:=I.mod.blt;exact Calls.Name_function_global I.ok.kind m (Calls.loadGlobal_builtin (by rw [I.ok.glob];exact I.mod.glob.keeps I.bk) hm (by rw [I.ok.blt];exact r.keeps I.bk) ((q x hn).trans g) h) hd
def IZ {x:Str} {v:V} {u:Value} {pos:Pos} (g:Gl X x) (hm:X.mg x=some u) (r:ZQ v u) (hd:(x==("__debug__":Str))=false:=by decide):PE X (.Name x pos) (tC v):=
 λ_ _ _ H _ I h=>fU I g hm ⟨v,H,I,r,h⟩ hd
def pe_bltn {x:Str} {v:V} {u:Value} {pos:Pos} (m:Gl X x) (hm:X.mg x=none) (g:bootBuiltins x=some u) (r:ZQ v u) (hn:x≠"__name__":=by decide) (hd:(x==("__debug__":Str))=false:=by decide):PE X (.Name x pos) (tC v):=
 λ_ _ _ H _ I h=>WR I m hm g ⟨v,H,I,r,h⟩ hn hd
variable {a b:Expr} {ta tb:TE} {pos:Pos}
def tB (t:TE):TT:=λσ H Q=>t σ H λx H1=>∃c,x= .bl c/\Q c H1
def pt_val {e:Expr} {t:TE} (h:PE X e t) (he:∀whole,isTrue e X.env whole=(do let v<-whole;standAt e.pos;holding [v] (truthy v)):=by intro _;rfl):PT X e (tB t):=by
 intro pins s σ H Q I hw;refine isTrue_plain (thn (h pins s σ H _ I hw) ?_) (he _);rintro v s1 ⟨x,H1,r,g,m⟩;obtain ⟨d,rfl,q⟩:=m;cases g;exact jbZ ⟨H1,r,q⟩
variable {tA tB':TT} {rest:List Expr}
def tAnd (t u:TT):TT:=λσ H Q=>t σ H λc H1=>if c=true then u σ H1 Q else Q false H1
def tOr (t u:TT):TT:=λσ H Q=>t σ H λc H1=>if c=true then Q true H1 else u σ H1 Q
def tNot (t:TT):TT:=λσ H Q=>t σ H λc H1=>Q (!c) H1
def pw_and1 (ha:PT X a tA):PW X (.BoolOp .And [a] pos) tA:=by
 intro wh pins s σ H Q I h;refine isTrue_and (thn (ha pins s σ H Q I h) λc s1 e=>?_)
 cases c with
 |true=>exact isTrue_and_nil e
 |false=>exact e
def pw_or1 (ha:PT X a tA):PW X (.BoolOp .Or [a] pos) tA:=by
 intro wh pins s σ H Q I h;refine isTrue_or (thn (ha pins s σ H Q I h) λc s1 e=>?_)
 cases c with
 |false=>exact isTrue_or_nil e
 |true=>exact e
def pw_and (ha:PT X a tA) (r:PW X (.BoolOp .And (b::rest) pos) tB'):PW X (.BoolOp .And (a::b::rest) pos) (tAnd tA tB'):=by
 intro wh pins s σ H Q I h;refine isTrue_and (thn (ha pins s σ H _ I h) λc s1 q=>?_);obtain ⟨H1,m,g⟩:=q
 cases c with
 |true=>exact r wh pins s1 σ H1 Q m g
 |false=>exact ⟨H1,m,g⟩
def pw_or (ha:PT X a tA) (r:PW X (.BoolOp .Or (b::rest) pos) tB'):PW X (.BoolOp .Or (a::b::rest) pos) (tOr tA tB'):=by
 intro wh pins s σ H Q I h;refine isTrue_or (thn (ha pins s σ H _ I h) λc s1 q=>?_);obtain ⟨H1,m,g⟩:=q
 cases c with
 |true=>exact ⟨H1,m,g⟩
 |false=>exact r wh pins s1 σ H1 Q m g
def pt_not (ha:PT X a tA):PT X (.UnaryOp .Not a pos) (tNot tA):=by
 intro pins s σ H Q I h;exact isTrue_not (ha pins s σ H (λc H1=>Q (!c) H1) I h)
def tAndV (ta tb:TE):TE:=λσ H Q=>ta σ H λx H1=>∃c,x= .bl c/\if c=true then tb σ H1 Q else Q (.bl false) H1
def tNotV (ta:TE):TE:=λσ H Q=>ta σ H λx H1=>∃c,x= .bl c/\Q (.bl (!c)) H1
def pe_one {op} {t:TE} (h:PE X a t):PE X (.BoolOp op [a] pos) t:=λpins s σ H Q I hw=>BoolOp_one (h pins s σ H Q I hw)
def pe_and (ha:PE X a ta) (t:PE X (.BoolOp .And (b::rest) pos) tb):PE X (.BoolOp .And (a::b::rest) pos) (tAndV ta tb):=by
 intro pins s σ H Q I h;refine BoolOp_and (thn (ha pins s σ H _ I h) λv s1 r=>?_);obtain ⟨x,H1,m,q,g⟩:=r;obtain ⟨c,rfl,g⟩:=g;cases q;refine jbZ ?_
 cases c with
 |true=>exact t pins s1 σ H1 Q m g
 |false=>exact ⟨.bl false,H1,m,rfl,g⟩
def pe_not (ha:PE X a ta):PE X (.UnaryOp .Not a pos) (tNotV ta):=by
 intro pins s σ H Q I h;refine UnaryOp_ (thn (ha pins s σ H _ I h) λv s1 q=>?_);obtain ⟨x,H1,r,m,g⟩:=q;obtain ⟨c,rfl,g⟩:=g;cases m;exact not_of (jbZ ⟨.bl (!c),H1,r,rfl,g⟩)
end
def SqL (K:Frg) (H:Hp) (a:Addr) (xs:List V):Prop:=
 Rd H a (.lst xs)\/
  ∃(o:Obj) (its:Array Value) (n:Nat),K.lookup a=some o/\o.cls= .type "list"/\o.dict=none/\o.data= .seq its n/\its.size<=sizeLine/\xD xs its.toList
def SqT (K:Frg) (H:Hp) (a:Addr) (xs:List V):Prop:=
 Rd H a (.tup xs)\/
  ∃(o:Obj) (its:Array Value) (n:Nat),K.lookup a=some o/\o.cls= .type "tuple"/\o.data= .seq its n/\its.size<=sizeLine/\xD xs its.toList
noncomputable def absV:Value->Option V
 | .none=>some .non
 | .bool b=>some (.bl b)
 | .int i _=>some (.int i)
 | .str x _=>some (.str x)
 | .bytes b _=>some (.byt b)
 | .float b _=>some (.flt b)
 | .ref a=>some (.ref a)
 | .type n=>some (.ty n)
 |_=>none
def ZQ.abs {x:V} {u:Value} (r:ZQ x u):absV u=some x:=by
 cases x with
 |non=>cases r;rfl
 |bl _=>cases r;rfl
 |int _=>obtain ⟨t,rfl⟩:=r;rfl
 |str _=>obtain ⟨t,rfl⟩:=r;rfl
 |byt _=>obtain ⟨t,rfl⟩:=r;rfl
 |flt _=>obtain ⟨t,rfl⟩:=r;rfl
 |ref _=>cases r;rfl
 |ty _=>cases r;rfl
def ZQ.inj {x y:V} {u:Value} (r:ZQ x u) (q:ZQ y u):x=y:=QK (r.abs.symm.trans q.abs)
def xD.inj {xs ys:List V} {us:List Value} (h:xD xs us) (g:xD ys us):xs=ys:=by
 induction h generalizing ys with
 |nil=>cases g;rfl
 |cons r t q=>
  cases g with
  |cons m t'=>rw [r.inj m,q t']
section
variable {X:Cx} {pins:Pn} {σ:St} {H:Hp} {s:Shared} {a:Addr} {xs ys:List V}
def SqL.of {K:Frg} (h:H a=some (.lst xs)):SqL K H a xs:= .inl (.inl h)
def SqT.of {K:Frg} (h:H a=some (.tup xs)):SqT K H a xs:= .inl (.inl h)
def Inv.list (I:Inv X pins σ H s) (h:SqL X.K H a xs):∃its:List Value,xD xs its/\PlainL s.heap a its.toArray/\xs.length<=sizeLine:=by
 rcases h with h|⟨o,its,n,m,q,hd,g,hz,r⟩
 ·obtain ⟨z,its,n,r,e⟩:=h.ok I.hok;exact ⟨its,r,⟨_,n,e,rfl,rfl,rfl⟩,z⟩
 ·refine ⟨its.toList,r,⟨o,n,I.kIn a o m,q,hd,by simpa using g⟩,?_⟩;have e:=r.length;simp only [jaq] at e;omega
def Inv.tuple (I:Inv X pins σ H s) (h:SqT X.K H a xs):∃its:List Value,xD xs its/\IsTup s.heap a its.toArray/\xs.length<=sizeLine:=by
 rcases h with h|⟨o,its,n,m,q,g,hz,r⟩
 ·obtain ⟨z,its,r,p⟩:=h.ok I.hok;exact ⟨its,r,p,z⟩
 ·refine ⟨its.toList,r,⟨o,I.kIn a o m,q,n,by simpa using g⟩,?_⟩;have e:=r.length;simp only [jaq] at e;omega
def Inv.list_inj (I:Inv X pins σ H s) (h:SqL X.K H a xs) (h':SqL X.K H a ys):xs=ys:=by
 obtain ⟨its,r,⟨o,n,e,_,_,d⟩,_⟩:=I.list h;obtain ⟨its',m,⟨t,u,g,_,_,d'⟩,_⟩:=I.list h';rw [e] at g;cases g;rw [d] at d'
 injection d' with q _
 have:its=its':=by simpa using congrArg Array.toList q
 subst this;exact r.inj m
def Inv.tuple_inj (I:Inv X pins σ H s) (h:SqT X.K H a xs) (h':SqT X.K H a ys):xs=ys:=by
 obtain ⟨its,r,⟨o,e,_,n,d⟩,_⟩:=I.tuple h;obtain ⟨its',m,⟨t,g,_,u,d'⟩,_⟩:=I.tuple h';rw [e] at g;cases g;rw [d] at d'
 injection d' with q _
 have:its=its':=by simpa using congrArg Array.toList q
 subst this;exact r.inj m
end
noncomputable abbrev Cx.wish (X:Cx) (E:Value->Shared->Prop):Cx:={X with xe:=E}
noncomputable abbrev Cx.nox (X:Cx):Cx:=X.wish λ_ _=>False
def Cx.Ok.wish {X:Cx} (ok:X.Ok) (E:Value->Shared->Prop):(X.wish E).Ok:=
 ⟨ok.mod,ok.kind,ok.glob,ok.blt,ok.above,ok.inj,ok.has,ok.cab,ok.hd,ok.frames,ok.stk,ok.exf,ok.bs,ok.bsz,ok.noex,ok.exfs,ok.funs,ok.frf⟩
def Cx.Ok.unwish {X:Cx} {E:Value->Shared->Prop} (ok:(X.wish E).Ok):X.Ok:=
 ⟨ok.mod,ok.kind,ok.glob,ok.blt,ok.above,ok.inj,ok.has,ok.cab,ok.hd,ok.frames,ok.stk,ok.exf,ok.bs,ok.bsz,ok.noex,ok.exfs,ok.funs,ok.frf⟩
section
variable {X:Cx} {pins:Pn} {σ:St} {H:Hp} {s:Shared} {E:Value->Shared->Prop}
def Inv.wish (I:Inv X pins σ H s) (E:Value->Shared->Prop):Inv (X.wish E) pins σ H s:=⟨I.ok.wish E,I.os,I.bare,I.base,I.loc,I.cell,I.free,I.freeC,I.pin,I.hok,I.len⟩
def Inv.unwish (I:Inv (X.wish E) pins σ H s):Inv X pins σ H s:=⟨I.ok.unwish,I.os,I.bare,I.base,I.loc,I.cell,I.free,I.freeC,I.pin,I.hok,I.len⟩
def SP.unwish {D:Ends} {f:Flow} {s':Shared} (h:SP (X.wish E) pins D f s'):SP X pins D f s':=by
 cases f with
 |next=>obtain ⟨σ',H',I,q⟩:=h;exact ⟨σ',H',I.unwish,q⟩
 |brk=>obtain ⟨σ',H',I,q⟩:=h;exact ⟨σ',H',I.unwish,q⟩
 |cont=>obtain ⟨σ',H',I,q⟩:=h;exact ⟨σ',H',I.unwish,q⟩
 |ret u=>obtain ⟨v,σ',H',I,r,q⟩:=h;exact ⟨v,σ',H',I.unwish,r,q⟩
def PSs.nox {st:List Stmt} {t:TS} (h:PSs X.nox st t):PSs X st t:=λpins s σ H D I hw=>
 wpAny_mono (h pins s σ H D (I.wish _) hw) (λ_ _ q=>q.unwish) λ_ _ z=>False.elim z
end
section
variable {X:Cx} {st:Stmt} {rest:List Stmt} {t u:TS} {e:Expr} {te:TE} {pos:Pos}
def tNext:TS:=λD σ H=>D.nx σ H
def tSeq (t u:TS):TS:=λD σ H=>t {D with nx:=u D} σ H
def BC:PSs X [] tNext:=λ_ _ σ H _ I h=>wpAny_execs_nil ⟨σ,H,I,h⟩
def sZ (m:PS X st t) (g:PSs X rest u):PSs X (st::rest) (tSeq t u):=by
 intro pins s σ H D I h;refine wpAny_execs_cons (thn (m pins s σ H {D with nx:=u D} I h) λf s1 q=>?_)
 cases f with
 |next=>
  obtain ⟨σ',H',r,q⟩:=q;exact g pins s1 σ' H' D r q
 |ret v=>exact q
 |brk=>exact q
 |cont=>exact q
def fj (g:PS X st t):PSs X [st] t:=by
 intro pins s σ H D I h;refine wpAny_execs_cons (thn (g pins s σ H D I h) λf s1 q=>?_)
 cases f with
 |next=>exact wpAny_execs_nil q
 |ret v=>exact q
 |brk=>exact q
 |cont=>exact q
def Inv.quiet {pins:Pn} {σ:St} {H:Hp} {s:Shared} (I:Inv X pins σ H s):interactive X.env=false:=by simp [interactive,I.ok.kind]
def tDrop (te:TE):TS:=λD σ H=>te σ H λ_ H1=>D.nx σ H1
def ps_expr (he:PE X e te) (m:swapsWith e none pos.line X.env=pure false:=by rfl):PS X (.Expr e pos) (tDrop te):=by
 intro pins s σ H D I h;refine wpAny_Expr_any (thn (he pins s σ H _ I h) ?_) I.quiet m;rintro v s1 ⟨x,H1,q,r,g⟩;exact ⟨σ,H1,q,g⟩
def tRet (te:TE):TS:=λD σ H=>te σ H D.rt
def ps_ret (he:PE X e te):PS X (.Return (some e) pos) (tRet te):=by
 intro pins s σ H D I h;refine wpAny_Return_some (thn (he pins s σ H _ I h) ?_);rintro v s1 ⟨x,H1,q,g,m⟩;exact ⟨x,σ,H1,q,g,m⟩
def tIfS (c:TT) (t u:TS):TS:=λD σ H=>c σ H λb H1=>if b=true then t D σ H1 else u D σ H1
def ps_if {c:Expr} {a b:List Stmt} {g:TT} (w:PT X c g) (ha:PSs X a t) (y:PSs X b u):PS X (.If c a b pos) (tIfS g t u):=by
 intro pins s σ H D I h;refine wpAny_If (thn (w pins s σ H _ I h) λd s1 r=>?_);obtain ⟨H1,q,m⟩:=r
 cases d with
 |true=>exact ha pins s1 σ H1 D q m
 |false=>exact y pins s1 σ H1 D q m
def tNever:TS:=λ_ _ _=>False
def td:PS X st tNever:=λ_ _ _ _ _ _ h=>h.elim
end
abbrev TG:=V->St->Hp->(St->Hp->Prop)->Prop
abbrev TGs:=List V->St->Hp->(St->Hp->Prop)->Prop
def PG (X:Cx) (target:Expr) (t:TG):Prop:=
 ∀(pins:Pn) (s:Shared) (σ:St) (H:Hp) (v:V) (u:Value) (Q:St->Hp->Prop),Inv X pins σ H s->ZQ v u->t v σ H Q->
  wpAny (model X.prog X.w) X.A (assign target X.env u) (λ_ s'=>∃σ' H',Inv X pins σ' H' s'/\Q σ' H') X.xe s
def PGs (X:Cx) (g:List Expr) (t:TGs):Prop:=
 ∀(pins:Pn) (s:Shared) (σ:St) (H:Hp) (vs:List V) (us:List Value) (Q:St->Hp->Prop),Inv X pins σ H s->xD vs us->t vs σ H Q->
  wpAny (model X.prog X.w) X.A (assignInOrder ((assignEach g X.env).map (·.2)) us) (λ_ s'=>∃σ' H',Inv X pins σ' H' s'/\Q σ' H') X.xe s
abbrev TSet:=V->V->V->Hp->(Hp->Prop)->Prop
def PSet (X:Cx) (t:TSet):Prop:=
 ∀(pins:Pn) (s:Shared) (σ:St) (H:Hp) (o i v:V) (g m u:Value) (Q:Hp->Prop),Inv X pins σ H s->ZQ o g->ZQ i m->ZQ v u->t o i v H Q->
  wpAny (model X.prog X.w) X.A (setItem g m u) (λ_ s'=>∃H',Inv X pins σ H' s'/\Q H') X.xe s
abbrev TIp:=V->V->Hp->VK->Prop
def PIp (X:Cx) (op:Operator) (t:TIp):Prop:=
 ∀(pins:Pn) (s:Shared) (σ:St) (H:Hp) (x y:V) (v u:Value) (Q:VK),Inv X pins σ H s->ZQ x v->ZQ y u->t x y H Q->
  wpAny (model X.prog X.w) X.A (inplaceOp op v u) (EP X pins σ Q) X.xe s
section
variable {X:Cx} {pos:Pos}
def lT (i:Nat):TG:=λv σ H Q=>Q (σ.set i (some v)) H
def qF {i:Nat} {x:Str} (q:X.N.Nodup) (m:X.N[i]? =some x) (g:Loc X.env.scope x) (hf:X.fn x=true\/X.env.scope.names.lookup x=some .local:=by walk_at "f"):PG X (.Name x pos) (lT i):=by
 intro pins s σ H v u Q I r h;exact wpAny_assign_Name (Uq I q m g r (λs' t=>⟨_,H,t,h⟩) hf)
def gNil:TGs:=λvs σ H Q=>vs=[]/\Q σ H
def gCons (t:TG) (u:TGs):TGs:=λvs σ H Q=>∃v r,vs=v::r/\t v σ H λσ' H'=>u r σ' H' Q
def pgs_nil:PGs X [] gNil:=by
 intro pins s σ H vs us Q I r h;obtain ⟨e,h⟩:=h;subst e;cases r;exact assignInOrder_nil ⟨σ,H,I,h⟩
def pgs_cons {e:Expr} {es:List Expr} {t:TG} {u:TGs} (z:PG X e t) (y:PGs X es u)
 (q:(assignEach (e::es) X.env).map (·.2)=assign e X.env::(assignEach es X.env).map (·.2):=by rfl):PGs X (e::es) (gCons t u):=by
 intro pins s σ H vs us Q I r h;obtain ⟨v,D,A,h⟩:=h;subst A
 cases r with
 |cons r g=>
  rw [q];refine assignInOrder_cons (thn (z pins s σ H _ _ _ I r h) λ_ s1 w=>?_);obtain ⟨σ1,H1,C,m⟩:=w;exact y pins s1 σ1 H1 _ _ Q C g m
def gTup (K:Frg) (n:Nat) (t:TGs):TG:=λv σ H Q=>∃a xs,v= .ref a/\SqT K H a xs/\xs.length=n/\t xs σ H Q
def pg_tup {es:List Expr} {k:Nat} {t:TGs} {n:Nat} (y:X.calm=true) (h:PGs X es t)
 (hn:(assignEach es X.env).length=n:=by rfl) (A:(assignEach es X.env).findIdx? (·.1)=none:=by rfl):PG X (.Tuple es k pos) (gTup X.K n t):=by
 intro pins s σ H v u Q I r hw;obtain ⟨a,xs,z,q,w,hw⟩:=hw;subst z;cases r;obtain ⟨its,g,ht,hz⟩:=I.tuple q;refine assign_Tuple_tuple (I.ok.hd y) ht (by simp [hn,<-w,g.length]) A λh' m=>?_;have C:Inv X pins σ H {s with heap:=h'}:=I.kept (t':=s.toks) λb o e=>m b o (QN (Qr e)) e;exact h pins _ σ H xs _ Q C ‹g› hw
def gSub (to g:TE) (t:TSet):TG:=λv σ H Q=>to σ H λo H1=>g σ H1 λi q=>t o i v q λm=>Q σ m
def pg_sub {o i:Expr} {to w:TE} {t:TSet} (K:PE X o to) (L:PE X i w) (J:PSet X t)
 (ha:∀v,assign (.Subscript o i pos) X.env v=(do
  let g<-holding [v] (eval o X.env)
  let m<-holding [v,g] (eval i X.env)
  standAt pos
  holding [v,g,m] (setItem g m v)
  release [v,g,m] []):=by intro _;rfl):PG X (.Subscript o i pos) (gSub to w t):=by
 intro pins s σ H v u Q I r h;rw [ha];refine Qg (jaD (thn (K pins s σ H _ I h) λg s1 q=>?_));obtain ⟨x,H1,O,A,G⟩:=q;refine Qg (jaD (thn (L pins s1 σ H1 _ O G) λm s2 q=>?_));obtain ⟨y,T,N,z,D⟩:=q;refine Qg (wpAny_standAt (Qg (jaD (thn (J pins s2 σ T x y v g m u _ N A z r D) λ_ s3 q=>?_))));obtain ⟨P,M,C⟩:=q;exact wpAny_release ⟨σ,P,M,C⟩
def Kk (m:TE) (g:TG):TS:=λD σ H=>m σ H λx H1=>g x σ H1 D.nx
def ps_asg {m e:Expr} {r:TE} {g:TG} (he:PE X e r) (y:PG X m g) (w:swapsWithSole [m] e pos.line X.env=pure false:=by rfl) (hw:swappedStores [m] e X.env=pure none:=by rfl)
 (z:(assignEach [m] X.env).map (·.2)=[assign m X.env]:=by rfl):PS X (.Assign [m] e pos) (Kk r g):=by
 intro pins s σ H D I h;refine wpAny_Assign_stores (thn (he pins s σ H _ I h) ?_) w hw;rintro v s1 ⟨x,H1,A,t,u⟩;rw [z];exact thn (y pins s1 σ H1 x v _ A t u) λ_ s2 q=>q
def ps_set {i:Nat} {x:Str} {e:Expr} {g:TE} {pos':Pos} (w:X.N.Nodup) (u:X.N[i]? =some x) (r:Loc X.env.scope x) (he:PE X e g) (t:swapsWith e (some (.Name x pos')) pos.line X.env=pure false:=by rfl) (hf:X.fn x=true\/X.env.scope.names.lookup x=some .local:=by walk_at "f"):
 PS X (.Assign [.Name x pos'] e pos) (Kk g (lT i)):=by
 intro pins s σ H D I h;refine wpAny_Assign_Name (thn (he pins s σ H _ I h) ?_) t;rintro v s1 ⟨y,H1,A,m,q⟩;exact Uq A w u r m (λs2 z=>⟨_,H1,z,q⟩) hf
def tPar (i j:Nat) (g:TA):TS:=λD σ H=>g σ H λvs H1=>∃v w,vs=[v,w]/\D.nx ((σ.set i (some v)).set j (some w)) H1
def ps_par {i j:Nat} {x y:Str} {a b:Expr} {u:TA} {t py pt:Pos} {kt k2 RS} (Z:X.calm=true) (G:X.N.Nodup) (U:X.N[i]? =some x) (T:X.N[j]? =some y) (SJ:i≠j)
 (C:X.env.scope.names.lookup x=some .local) (z:X.env.scope.names.lookup y=some .local) (ha:PA X [a,b] u)
 (hw:swappedStores [.Tuple [.Name x t, .Name y py] kt pt] (.Tuple [a,b] k2 RS) X.env=pure (some [x,y]))
 (P:swapsWithSole [.Tuple [.Name x t, .Name y py] kt pt] (.Tuple [a,b] k2 RS) pos.line X.env=pure false:=by rfl):
 PS X (.Assign [.Tuple [.Name x t, .Name y py] kt pt] (.Tuple [a,b] k2 RS) pos) (tPar i j u):=by
 intro pins s σ H D I h;rw [exec_Assign_arm];refine Qg (wpAny_standAt ?_);rw [P];refine Qg (Qq ?_);rw [QP nofun];refine Qg (Tuple_ (thn (ha _ pins s σ H _ I h) λus s1 Y=>?_));obtain ⟨vs,H1,I1,L,r⟩:=Y;obtain ⟨v,w,e1,r⟩:=r;subst e1
 obtain ⟨m,g,rfl,K,MM⟩:∃m g,us=[m,g]/\ZQ v m/\ZQ w g:=by
  cases L with
  |cons p q=>
   cases q with
   |cons O M=>
    cases M;exact ⟨_,_,rfl,p,O⟩
 refine jai ?_ (by show 2<=sizeLine;decide);have I2:Inv X pins σ H1 {s1 with heap:=s1.heap.push {cls:= .type "tuple",data:= .seq [m,g].toArray}}:=I1.kept (t':=s1.toks) λb o e=>Qi _ e;rw [hw];refine Qg (Qq ?_);show wpAny (model X.prog X.w) X.A (do rule "assign.swapped-stores";let items<-unpackItems (.ref s1.heap.objs.size) 2 none;assignInOrder [λv=>bindName X.env y v,λv=>bindName X.env x v] items.reverse;pure Flow.next) _ _ _;refine Qg (jca (Qg (unpackItems_tuple (items:=#[m,g]) (I.ok.hd Z) (IsTup.new s1.heap _) λh' LO=>?_)));have I3:=I2.kept (h':=h') (t':=s1.toks) λb o e=>LO b o (QN (Qr e)) e;show wpAny _ _ (assignInOrder [λv=>bindName X.env y v,λv=>bindName X.env x v] [g,m]>>=λ_=>pure Flow.next) _ _ _;refine Qg (assignInOrder_cons (wpAny_bindName (Uq I3 G T (.inl z) MM (λs2 I4=>?_) (.inr z))));refine assignInOrder_cons (wpAny_bindName (Uq I4 G U (.inl C) K (λs3 J=>assignInOrder_nil (Qq ?_)) (.inr C)));rw [List.set_comm _ _ (Ne.symm SJ)] at J;exact ⟨_,H1,J,r⟩
def tAug (i:Nat) (m:TE) (g:TIp):TS:=λD σ H=>∃x,σ[i]? =some (some x)/\m σ H λy H1=>g x y H1 λz q=>D.nx (σ.set i (some z)) q
def ps_aug {i:Nat} {x:Str} {e:Expr} {J:TE} {op:Operator} {G:TIp} {pos':Pos} (Z:X.N.Nodup) (K:X.N[i]? =some x) (t:Loc X.env.scope x) (he:PE X e J) (T:PIp X op G) (hf:X.fn x=true\/X.env.scope.names.lookup x=some .local:=by walk_at "f"):
 PS X (.AugAssign (.Name x pos') op e pos) (tAug i J G):=by
 intro pins s σ H D I h;obtain ⟨v,e1,h⟩:=h;obtain ⟨m,hn,U⟩:=I.loc
 have q:Vis X.env.scope x:=by rcases t with k|k;exact .inl k;exact .inr (.inl k)
 obtain ⟨u,r,l⟩:=U i x v K e1 q;refine wpAny_AugAssign_Name ?_
 have go:wpAny (model X.prog X.w) X.A (eval e X.env) (λw s₂=>wpAny (model X.prog X.w) X.A (inplaceOp op u w) (λr s₃=>wpAny (model X.prog X.w) X.A (storeName X.env x r) (λ_=>SP X pins D .next) X.xe s₃) X.xe s₂) X.xe s:=by
  refine thn (he pins s σ H _ I h) λw s1 C=>?_;obtain ⟨y,H1,I1,M,P⟩:=C;refine thn (T pins s1 σ H1 v y u w _ I1 r M P) λz s2 C=>?_;obtain ⟨zv,H2,I2,L,O⟩:=C;exact Uq I2 Z K t L (λs3 I3=>⟨_,H2,I3,O⟩) hf
 rcases l with ⟨g,hm⟩|⟨g,c,Y,MG⟩
 ·exact wpAny_loadName_local I.ok.kind g hn hm go
 ·rcases g with g|g
  ·exact wpAny_loadName_cell I.ok.kind g Y MG go
  ·rcases t with k|k
   ·have:X.env.scope.names.lookup x=some .free:=g;rw [k] at this;cases this
   ·have:X.env.scope.names.lookup x=some .free:=g;rw [k] at this;cases this
def ipI (f:Int->Int->Int):TIp:=λx y H Q=>∃i j,x= .int i/\y= .int j/\Q (.int (f i j)) H
def ip_add:PIp X .Add (ipI λi j=>i+j):=by
 intro pins s σ H x y v u Q I r1 r2 h;obtain ⟨i,j,m,g,q⟩:=h;subst m;subst g;obtain ⟨t,rfl⟩:=r1;obtain ⟨t',rfl⟩:=r2;exact iadd_int ⟨.int _,H,I.tok _,⟨_,rfl⟩,q⟩
end
section
variable {X:Cx} {pos:Pos}
def Ao (c:TT) (q:TS):TS:=λD σ H=>∃W:Nat->St->Hp->Prop,(∃m,W m σ H)/\∀m σ H,W m σ H->
 c σ H λb H1=>if b=true then ∃N:St->Hp->Prop,(∀σ' H',N σ' H'->∃g,g<m/\W g σ' H')/\q {D with nx:=N,ct:=N,bk:=D.nx} σ H1 else D.nx σ H1
def ps_while {c:Expr} {body:List Stmt} {z:TT} {C:TS} (hp:PassesOwn (model X.prog X.w) X.A X.env X.xe) (O:PT X c z) (P:PSs X body C):PS X (.While c body [] pos) (Ao z C):=by
 intro pins s σ H D I h;obtain ⟨W,⟨m0,L⟩,turn⟩:=h;refine wpAny_While (codeAny_whileLoop (λn s'=>∃σ' H',Inv X pins σ' H' s'/\W n σ' H') ?_ m0 ⟨σ,H,I,L⟩)
 rintro n s1 ⟨σ1,H1,I1,w1⟩
 refine jbo hp (thn (O pins s1 σ1 H1 _ I1 (turn n σ1 H1 w1)) λb s2 M=>?_);obtain ⟨K,J,q⟩:=M
 cases b with
 |true=>
  obtain ⟨N,G,q⟩:=q;rw [QH rfl];refine jbo hp (thn (P pins s2 σ1 K _ J q) λf s3 m=>?_)
  cases f with
  |next=>
   obtain ⟨σ3,g,y,t⟩:=m;obtain ⟨u,hm,r⟩:=G σ3 g t;exact ⟨u,hm,σ3,g,y,r⟩
  |cont=>
   obtain ⟨σ3,g,y,t⟩:=m;obtain ⟨u,hm,r⟩:=G σ3 g t;exact ⟨u,hm,σ3,g,y,r⟩
  |brk=>exact m
  |ret v=>exact m
 |false=>
  rw [QP QA];exact wpAny_execs_nil ⟨σ1,K,J,q⟩
end
structure It where
 go:Nat->Hp->Prop
 yld:Nat->Hp->V->Hp->Prop
 stop:Nat->Hp->Prop
def se (X:Cx) (pins:Pn) (H:Hp) (b:Addr):Prop:=
 H b=none/\b≠X.env.locals/\b∉X.fs/\(b∈X.ex\/X.s₀.heap.objs.size<=b)/\(∀x c,X.env.cells.lookup x=some c->c≠b)/\∀p∈X.pn++pins,p.1≠b
def Inv.fpOk {X:Cx} {pins:Pn} {σ:St} {H H':Hp} {s:Shared} {b:Addr} (I:Inv X pins σ H s) (g:s.heap.objs.size<=b) (hn:H' b=none):se X pins H' b:=by
 refine ⟨hn,jaI (Ta I.lt g),I.nofs g, .inr (QW I.sz g),λx c e z=>?_,λp hp z=>?_⟩
 ·obtain ⟨v,q⟩:=I.cell x c e;exact absurd (Ta q.lt (by rw [z];exact g)) (jan _)
 ·exact absurd (Ta (Qr (I.pin p hp).1) (by rw [z];exact g)) (jan _)
structure Turn (P:Program) (w:World) (K:Frg) (tg:Expr) (J:It) (fp:List Addr) (it:Addr) (tn:Nat->Heap->Prop):Prop where
 mem:it∈fp
 obj:∀i h,tn i h->∀b∈fp,∃o,h.get? b=some o/\∀v,o.data≠ .cell v
 keep:∀i h h',tn i h->(∀b∈fp,∀o,h.get? b=some o->h'.get? b=some o)->tn i h'
 item:∀(X:Cx),X.prog=P->X.w=w->X.K=K->X.calm=true->∀(i:Nat) (pins:Pn) (s:Shared) (σ:St) (H:Hp) (E:Value->Shared->Prop),Inv X pins σ H s->(∀b∈fp,se X pins H b)->tn i s.heap->J.go i H->
  wpAny (model P w) X.A (pyNext (.ref it)) (λr s1=>∃u,r=some u/\
   wpAny (model P w) X.A (letOwnedTupleGo tg (.ref it) u) (λ_ s2=>∃x H',Inv X pins σ H' s2/\ZQ x u/\J.yld i H x H'/\tn (i+1) s2.heap/\∀b∈fp,H' b=none) E s1) E s
 done:∀(X:Cx),X.prog=P->X.w=w->X.K=K->X.calm=true->∀(i:Nat) (pins:Pn) (s:Shared) (σ:St) (H:Hp) (E:Value->Shared->Prop),Inv X pins σ H s->(∀b∈fp,se X pins H b)->tn i s.heap->J.stop i H->
  wpAny (model P w) X.A (pyNext (.ref it)) (λr s1=>r=none/\Inv X pins σ H s1) E s
 self:∀(A:Around) (i:Nat) (s:Shared) (Q:Value->Shared->Prop) (E:Value->Shared->Prop),tn i s.heap->Q (.ref it) s->wpAny (model P w) A (pyIter (.ref it)) Q E s
abbrev TI:=St->Hp->(It->Hp->Prop)->Prop
def PIE (X:Cx) (pins:Pn) (σ:St) (r:Expr) (R:It->Hp->Prop) (g:Value) (s2:Shared):Prop:=
 ∃(it:Addr) (q:List Addr) (m:Nat->Heap->Prop) (J:It) (H':Hp),g= .ref it/\Inv X pins σ H' s2/\Turn X.prog X.w X.K r J q it m/\m 0 s2.heap/\(∀b∈q,se X pins H' b)/\R J H'
def PI (X:Cx) (m iter:Expr) (g:TI):Prop:=
 ∀(pins:Pn) (s:Shared) (σ:St) (H:Hp) (R:It->Hp->Prop),Inv X pins σ H s->g σ H R->
  wpAny (model X.prog X.w) X.A (eval iter X.env) (λv s1=>wpAny (model X.prog X.w) X.A (pyIter v) (PIE X pins σ m R) X.xe s1) X.xe s
def Gs {M:Model} {A:Around} {E:Value->Shared->Prop} {s:Shared} {m:Expr} {it:Addr} {u:Value} {o:Obj} {n:String} {vs:Array Value} {Q:Unit->Shared->Prop} (q:s.heap.get? it=some o) (r:o.cls= .type n) (hd:o.data= .fields vs)
 (hn:["enumerate","zip","dict_itemiterator","dict_reverseitemiterator","odict_iterator","itertools.zip_longest","itertools.pairwise"].contains n=false) (g:Q () s):wpAny M A (letOwnedTupleGo m (.ref it) u) Q E s:=by
 unfold letOwnedTupleGo
 cases m<;>first
  |exact Qq g
  |(cases u<;>first
   |exact Qq g
   |(refine Qg (wpAny_load q ?_)
     rw [r,hd];show wpAny M A (if (["enumerate","zip","dict_itemiterator","dict_reverseitemiterator","odict_iterator","itertools.zip_longest","itertools.pairwise"].contains n && vs[0]? ==some (rawInt _))=true then _ else _) Q E s;rw [QP (by intro h;rw [hn,Bool.false_and] at h;cases h)]
     exact Qq g))
def Itl (K:Frg) (a:Addr):It:=
 ⟨λi H=>∃xs x,SqL K H a xs/\xs[i]? =some x,λi H x H'=>H'=H/\∀xs,SqL K H a xs->xs[i]? =some x,λi H=>∃xs,SqL K H a xs/\xs.length<=i⟩
def Itt (K:Frg) (a:Addr):It:=
 ⟨λi H=>∃xs x,SqT K H a xs/\xs[i]? =some x,λi H x H'=>H'=H/\∀xs,SqT K H a xs->xs[i]? =some x,λi H=>∃xs,SqT K H a xs/\xs.length<=i⟩
def Itr (lo:Int) (n:Nat):It:=⟨λi _=>i<n,λi H x H'=>H'=H/\x= .int (lo+i),λi _=>n<=i⟩
def Am {P:Program} {w:World} {K:Frg} {C:Expr} (a it:Addr):Turn P w K C (Itl K a) [it] it (λi h=>h.IsListIter it a i) where
 mem:=by simp
 obj:=λi h st b g=>by
  have e:b=it:=by simpa using g
  subst e;obtain ⟨o,e,c,d⟩:=st;exact ⟨o,e,λv z=>by rw [d] at z;cases z⟩
 keep:=λi h h' st k=>st.at λo e=>k it (by simp) o e
 item:=by
  intro X hP hw hK hc i pins s σ H E I hf st hg;subst hP hw hK;obtain ⟨xs,x,m,r⟩:=hg;obtain ⟨its,q,p,hz⟩:=I.list m;obtain ⟨u,G,ru⟩:=q.get r;obtain ⟨f0,f1,f2,y,f4,t⟩:=hf it (by simp);refine wpAny_pyNext_list_item st p.isList (x:=u) ‹G› λh' A sb=>?_;have L:Inv X pins σ H {s with heap:=h'}:=I.turned (t':=s.toks) (λb o g e=>(sb.2 b g).trans e) f0 f1 y f4 t;obtain ⟨o,e,c,d⟩:=id A;exact ⟨u,rfl,Gs (s:={s with heap:=h'}) e c d nofun ⟨x,H,L,ru,⟨rfl,λys D=>by rw [I.list_inj D m];exact r⟩,A,λb g=>(hf b g).1⟩⟩
 done:=by
  intro X hP hw hK hc i pins s σ H E I hf st hg;subst hP hw hK;obtain ⟨xs,m,r⟩:=hg;obtain ⟨its,q,p,hz⟩:=I.list m;obtain ⟨f0,f1,f2,y,f4,t⟩:=hf it (by simp);have M:=q.length;exact wpAny_pyNext_list_end (I.ok.hd hc) st p.isList (by simp;omega) λh' J=>⟨rfl,I.turned (t':=s.toks) (λb o g e=>J b o g e) f0 f1 y f4 t⟩
 self:=λ_ _ _ _ _ st h=>wpAny_pyIter_listiter st h
def uN {P:Program} {w:World} {K:Frg} {C:Expr} (a it:Addr):Turn P w K C (Itt K a) [it] it (λi h=>h.IsTupleIter it a i) where
 mem:=by simp
 obj:=λi h st b g=>by
  have e:b=it:=by simpa using g
  subst e;obtain ⟨o,e,c,d⟩:=st;exact ⟨o,e,λv z=>by rw [d] at z;cases z⟩
 keep:=λi h h' st k=>st.at λo e=>k it (by simp) o e
 item:=by
  intro X hP hw hK hc i pins s σ H E I hf st hg;subst hP hw hK;obtain ⟨xs,x,m,r⟩:=hg;obtain ⟨its,q,p,hz⟩:=I.tuple m;obtain ⟨u,G,ru⟩:=q.get r;obtain ⟨f0,f1,f2,y,f4,t⟩:=hf it (by simp);refine wpAny_pyNext_tuple_item st (show s.heap.IsTuple a its.toArray from p) (x:=u) ‹G› λh' A sb=>?_;have L:Inv X pins σ H {s with heap:=h'}:=I.turned (t':=s.toks) (λb o g e=>(sb.2 b g).trans e) f0 f1 y f4 t;obtain ⟨o,e,c,d⟩:=id A;exact ⟨u,rfl,Gs (s:={s with heap:=h'}) e c d nofun ⟨x,H,L,ru,⟨rfl,λys D=>by rw [I.tuple_inj D m];exact r⟩,A,λb g=>(hf b g).1⟩⟩
 done:=by
  intro X hP hw hK hc i pins s σ H E I hf st hg;subst hP hw hK;obtain ⟨xs,m,r⟩:=hg;obtain ⟨its,q,p,hz⟩:=I.tuple m;obtain ⟨f0,f1,f2,y,f4,t⟩:=hf it (by simp);have M:=q.length;exact wpAny_pyNext_tuple_end (I.ok.hd hc) st (show s.heap.IsTuple a its.toArray from p) (by simp;omega) λh' J=>⟨rfl,I.turned (t':=s.toks) (λb o g e=>J b o g e) f0 f1 y f4 t⟩
 self:=λ_ _ _ _ _ st h=>wpAny_pyIter_tupleiter st h
def uO {P:Program} {w:World} {K:Frg} {y:Expr} (it:Addr) (lo:Int) (n:Nat):Turn P w K y (Itr lo n) [it] it (λi h=>IsRangeIter h it (lo+(i:Nat)*1) ((n:Int) - (i:Nat)) 1) where
 mem:=by simp
 obj:=λi h st b g=>by
  have e:b=it:=by simpa using g
  subst e
  exact ⟨_,st,λv z=>by
   have u:Data.fields _=Data.cell v:=z
   cases u⟩
 keep:=λi h h' st k=>k it (by simp) _ st
 item:=by
  intro X hP hw hK hc i pins s σ H E I hf st hg;subst hP hw hK;obtain ⟨f0,f1,f2,q,f4,m⟩:=hf it (by simp);have W:=Walks.range (prog:=X.prog) (w:=X.w) (I.ok.hd hc) it lo 1 n;refine W.item i s _ _ hg st λv h' tk C r A=>?_;obtain ⟨t,rfl⟩:=C;have G:Inv X pins σ H {s with heap:=h',toks:=tk}:=I.turned (λb o g e=>A b o ‹g› e) f0 f1 q f4 m;refine ⟨_,rfl,Gs (s:={s with heap:=h',toks:=tk}) (n:="range_iterator") r rfl rfl nofun ⟨.int (lo+i),H,G,⟨t,?_⟩,⟨rfl,rfl⟩,r,λb g=>(hf b g).1⟩⟩;rw [jcb]
 done:=by
  intro X hP hw hK hc i pins s σ H E I hf st hg;subst hP hw hK;obtain ⟨f0,f1,f2,q,f4,m⟩:=hf it (by simp);exact wpAny_pyNext_range_end (I.ok.hd hc) st (by have:n<=i:=hg;omega) λh' D=>⟨rfl,I.turned (t':=s.toks) (λb o g e=>D b o g e) f0 f1 q f4 m⟩
 self:=λ_ _ _ _ _ st h=>wpAny_pyIter_rangeiter st h
section
variable {X:Cx} {tg:Expr}
def iList (K:Frg) (g:TE):TI:=λσ H R=>g σ H λx H1=>∃a,x= .ref a/\(∃xs,SqL K H1 a xs)/\R (Itl K a) H1
def iTup (K:Frg) (g:TE):TI:=λσ H R=>g σ H λx H1=>∃a,x= .ref a/\(∃xs,SqT K H1 a xs)/\R (Itt K a) H1
def kZ {l:Expr} {m:TE} (w:PE X l m):PI X tg l (iList X.K m):=by
 intro pins s σ H R I h;refine thn (w pins s σ H _ I h) λv s1 y=>?_;obtain ⟨x,H1,g,r,t⟩:=y;obtain ⟨a,e,⟨xs,u⟩,q⟩:=t;subst e;cases r;obtain ⟨its,A,p,hz⟩:=g.list u;refine jaL p.isList ?_;refine ⟨s1.heap.objs.size,[s1.heap.objs.size],_,_,H1,rfl,g.kept (t':=s1.toks) λb o e=>Qi _ e,Am a _,⟨_,Qw _ rfl,rfl,rfl⟩,λb z=>?_,q⟩;have e:b=s1.heap.objs.size:=by simpa using z
 subst e;exact g.fpOk (Qu _) (g.hok.fresh (Qu _))
def pi_tup {l:Expr} {m:TE} (w:PE X l m):PI X tg l (iTup X.K m):=by
 intro pins s σ H R I h;refine thn (w pins s σ H _ I h) λv s1 y=>?_;obtain ⟨x,H1,g,r,t⟩:=y;obtain ⟨a,e,⟨xs,u⟩,q⟩:=t;subst e;cases r;obtain ⟨its,A,p,hz⟩:=g.tuple u;refine jaw (show s1.heap.IsTuple a its.toArray from p) ?_;refine ⟨s1.heap.objs.size,[s1.heap.objs.size],_,_,H1,rfl,g.kept (t':=s1.toks) λb o e=>Qi _ e,uN a _,⟨_,Qw _ rfl,rfl,rfl⟩,λb z=>?_,q⟩;have e:b=s1.heap.objs.size:=by simpa using z
 subst e;exact g.fpOk (Qu _) (g.hok.fresh (Qu _))
def Fd {pins:Pn} {σ:St} {H:Hp} {s:Shared} {R:It->Hp->Prop} {E:Value->Shared->Prop} {lo g:Int} {t u v:Tok} {tk:Nat} (I:Inv X pins σ H s) (D: -(2 ^ 62)<=lo) (C:lo<2 ^ 62) (z: -(2 ^ 62)<=g) (y:g<2 ^ 62)
 (q:R (Itr lo (g - lo).toNat) H):wpAny (model X.prog X.w) X.A (pyIter (.ref s.heap.objs.size)) (PIE X pins σ tg R) E {s with heap:=s.heap.push {cls:= .type "range",data:= .fields #[.int lo t, .int g u, .int 1 v]},toks:=tk}:=by
 refine wpAny_pyIter_range (IsRange.new ..) (small_one D C z y) ?_;have m:Inv X pins σ H {s with heap:=s.heap.push {cls:= .type "range",data:= .fields #[.int lo t, .int g u, .int 1 v]},toks:=tk}:=I.kept λb o e=>Qi _ e
 refine ⟨(s.heap.push {cls:= .type "range",data:= .fields #[.int lo t, .int g u, .int 1 v]}).objs.size,[(s.heap.push {cls:= .type "range",data:= .fields #[.int lo t, .int g u, .int 1 v]}).objs.size],_,_,H,rfl,
  m.kept (t':=tk) λb o e=>Qi _ e,uO _ lo (g - lo).toNat,?_,λb r=>?_,q⟩
 ·have J:lo+((0:Nat):Int)*1=lo:=by simp
  have G:(((g - lo).toNat:Nat):Int) - ((0:Nat):Int)=Builtin.Range.rangeSize lo g 1:=by rw [rangeSize_one];split<;>omega
  show IsRangeIter _ _ (lo+((0:Nat):Int)*1) ((((g - lo).toNat:Nat):Int) - ((0:Nat):Int)) 1;rw [J,G];exact Qw _ rfl
 ·have e:b=(s.heap.push {cls:= .type "range",data:= .fields #[.int lo t, .int g u, .int 1 v]}).objs.size:=by simpa using r
  subst e;exact m.fpOk (Qu _) (m.hok.fresh (Qu _))
def iRng1 (g:TA):TI:=λσ H R=>g σ H λvs H1=>∃j:Int,vs=[.int j]/\ -(2 ^ 62)<=j/\j<2 ^ 62/\R (Itr 0 j.toNat) H1
def pi_range1 {a:Expr} {m:TA} {p pos:Pos} (A:Gl X "range") (hm:X.mg "range"=none) (ha:PA X [a] m) (z:starEach [a] X.env=[(false,eval a X.env)]:=by rfl):PI X tg (.Call (.Name "range" p) [a] [] pos) (iRng1 m):=by
 intro pins s σ H R I h;refine Call_ (WR I A hm boot_range (TF (thn (ha pos pins s σ H _ I h) ?_) z rfl));rintro us s1 ⟨vs,H1,C,w,g⟩;obtain ⟨j,e,g,y,q⟩:=g;subst e
 cases w with
 |cons r u=>
  cases u;obtain ⟨t,rfl⟩:=r;exact call_range_1 (Fd C ⋯ ⋯ g y ‹q›)
def tFor (r:TI) (g:TG) (s:TS):TS:=λD σ H=>r σ H λJ H1=>∃W:Nat->Nat->St->Hp->Prop,(∃m,W 0 m σ H1)/\∀i m σ H,W i m σ H->
 (J.stop i H/\D.nx σ H)\/(J.go i H/\∃N:St->Hp->Prop,(∀σ' H',N σ' H'->∃q,q<m/\W (i+1) q σ' H')/\∀x H',J.yld i H x H'->g x σ H' λσ2 H2=>s {D with nx:=N,ct:=N,bk:=D.nx} σ2 H2)
def jk (g:List Addr) (h:Heap):List (Addr×Obj):=g.filterMap λb=>(h.get? b).map λo=>(b,o)
def Yl {g:List Addr} {h:Heap} {b:Addr} {o:Obj} (m:b∈g) (e:h.get? b=some o):(b,o)∈jk g h:=jbR.mpr ⟨b,m,by rw [e];rfl⟩
def Cf {g:List Addr} {h:Heap} {p:Addr×Obj} (hp:p∈jk g h):p.1∈g/\h.get? p.1=some p.2:=by
 obtain ⟨b,m,e⟩:=jbR.mp hp
 cases q:h.get? b with
 |none=>rw [q] at e;cases e
 |some o=>
  rw [q] at e;have r:(b,o)=p:=QK e;subst r;exact ⟨m,q⟩
def Inv.pinned {pins:Pn} {σ:St} {H:Hp} {s:Shared} {g:List Addr} (I:Inv X pins σ H s) (hf:∀b∈g,se X pins H b) (r:∀b∈g,∃o,s.heap.get? b=some o/\∀v,o.data≠ .cell v):Inv X (pins++jk g s.heap) σ H s:=
 I.pins_of λp hp=>(QY.mp hp).elim (λz=>I.pin p (QI _ z)) λz=>by
  obtain ⟨m,e⟩:=Cf z;obtain ⟨f0,f1,f2,_⟩:=hf p.1 m;obtain ⟨o,q,d⟩:=r p.1 m;rw [e] at q;cases q;exact ⟨e,f0,f1,f2,d⟩
def Inv.unpinned {pins pl:List (Addr×Obj)} {σ:St} {H:Hp} {s:Shared} (I:Inv X (pins++pl) σ H s):Inv X pins σ H s:=I.pins_of λp hp=>I.pin p (QI _ (jak _ hp))
def ps_for {iter:Expr} {body:List Stmt} {U:TI} {g:TG} {Z:TS} {pos:Pos} (hp:PassesOwn (model X.prog X.w) X.A X.env X.xe) (hc:X.calm=true) (hi:PI X tg iter U) (hg:PG X tg g) (t:PSs X body Z)
 (hs:∀x,foldedSetIterable iter X.env x=pure x:=by intro _;rfl):PS X (.For tg iter body [] pos) (tFor U g Z):=by
 intro pins s σ H D I h;refine wpAny_For (thn (hi pins s σ H _ I h) λv s1 h1=>thn h1 λitv s2 h2=>?_) hs;obtain ⟨it,L,Y,J,H2,e,I2,T,Mf,f2,W,⟨m0,w0⟩,turn⟩:=h2;subst e;have q:∀{H':Hp},(∀b∈L,H' b=none)->∀b∈L,se X pins H' b:=λhn b t=>⟨hn b t,(f2 b t).2⟩;refine codeAny_forLoop_any (λn s'=>∃i σ' H',Inv X pins σ' H' s'/\Y i s'.heap/\(∀b∈L,H' b=none)/\W i n σ' H') ?_ m0 ⟨0,σ,H2,I2,Mf,λb t=>(f2 b t).1,w0⟩
 rintro n s3 ⟨i,σ3,H3,I3,st3,fr3,w3⟩
 rcases turn i n σ3 H3 w3 with ⟨stop,qn⟩|⟨go,N,hN,step⟩
 ·refine jbo hp (thn (T.done X rfl rfl rfl hc i pins s3 σ3 H3 X.xe I3 (q fr3) st3 stop) λr s4 G=>?_);obtain ⟨hr,I4⟩:=G;subst hr;exact wpAny_execs_nil ⟨σ3,H3,I4,qn⟩
 ·refine jbo hp (thn (T.item X rfl rfl rfl hc i pins s3 σ3 H3 X.xe I3 (q fr3) st3 go) λr s4 G=>?_);obtain ⟨u,hr,h4⟩:=G;subst hr;refine jbo hp (thn h4 λ_ s5 G=>?_);obtain ⟨x,H5,I5,r5,y5,O,Om⟩:=G;have P:=I5.pinned (q Om) (T.obj _ _ O);refine jbo hp (thn (hg _ s5 σ3 H5 x u _ P r5 (step x H5 y5)) λ_ s6 G=>?_);obtain ⟨σ6,H6,I6,q6⟩:=G;refine jbo hp (thn (t _ s6 σ6 H6 _ I6 q6) λf M C=>?_)
  have again:∀{σ7:St} {z:Hp},Inv X (pins++jk L s5.heap) σ7 z M->N σ7 z->∃m,m<n/\∃i σ' H',Inv X pins σ' H' M/\Y i M.heap/\(∀b∈L,H' b=none)/\W i m σ' H':=λ{σ7 z} y K=>by
   obtain ⟨m',hm,w7⟩:=hN σ7 z K;refine ⟨m',hm,i+1,σ7,z,y.unpinned,T.keep _ _ _ O λb t o e=>(y.pin (b,o) (QI _ (QI _ (Yl t e)))).1,λb t=>?_,w7⟩;obtain ⟨o,e,d⟩:=T.obj _ _ O b t;exact (y.pin (b,o) (QI _ (QI _ (Yl t e)))).2.1
  cases f with
  |next=>obtain ⟨σ7,z,y,K⟩:=C;exact again y K
  |cont=>obtain ⟨σ7,z,y,K⟩:=C;exact again y K
  |brk=>obtain ⟨σ7,z,y,C⟩:=C;exact ⟨σ7,z,y.unpinned,C⟩
  |ret v=>obtain ⟨x7,σ7,z,y,r7,C⟩:=C;exact ⟨x7,σ7,z,y.unpinned,r7,C⟩
end
abbrev R2:=V->V->Hp->VK->Prop
def OpR (X:Cx) (f:Value->Value->Sem Value) (r:R2):Prop:=
 ∀(pins:Pn) (s:Shared) (σ:St) (H:Hp) (x y:V) (v u:Value) (Q:VK),Inv X pins σ H s->ZQ x v->ZQ y u->r x y H Q->
  wpAny (model X.prog X.w) X.A (f v u) (EP X pins σ Q) X.xe s
def UnR (X:Cx) (f:Value->Sem Value) (r:V->Hp->VK->Prop):Prop:=
 ∀(pins:Pn) (s:Shared) (σ:St) (H:Hp) (x:V) (v:Value) (Q:VK),Inv X pins σ H s->ZQ x v->r x H Q->
  wpAny (model X.prog X.w) X.A (f v) (EP X pins σ Q) X.xe s
def Ve (X:Cx) (f:Value) (r:List V->Hp->VK->Prop):Prop:=
 ∀(pins:Pn) (s:Shared) (σ:St) (H:Hp) (xs:List V) (us:List Value) (Q:VK),Inv X pins σ H s->xD xs us->r xs H Q->
  wpAny (model X.prog X.w) X.A (call f us) (EP X pins σ Q) X.xe s
def tOp (r:R2) (m g:TE):TE:=λσ H Q=>m σ H λx H1=>g σ H1 λy q=>r x y q Q
def tUn (r:V->Hp->VK->Prop) (g:TE):TE:=λσ H Q=>g σ H λx H1=>r x H1 Q
def rI (C:Int->Int->Prop) (g:Int->Int->V):R2:=λx y H Q=>∃i j,x= .int i/\y= .int j/\C i j/\Q (g i j) H
def rI0 (g:Int->Int->V):R2:=λx y H Q=>∃i j,x= .int i/\y= .int j/\Q (g i j) H
def rU (g:Int->V):V->Hp->VK->Prop:=λx H Q=>∃i,x= .int i/\Q (g i) H
section
variable {X:Cx} {a b c:Expr} {ta tb tc:TE} {pos:Pos}
def binT (ha:PE X a ta) (C:PE X b tb) {pins:Pn} {s:Shared} {σ:St} {H:Hp} {R:V->V->Hp->Prop} (I:Inv X pins σ H s)
 (h:ta σ H λx H1=>tb σ H1 λy g=>R x y g) {Q:Value->Shared->Prop} {f:Value->Value->Sem Value}
 (hf:∀v u s2 x y g,Inv X pins σ g s2->ZQ x v->ZQ y u->R x y g->wpAny (model X.prog X.w) X.A (f v u) Q X.xe s2):
 wpAny (model X.prog X.w) X.A (eval a X.env) (λv s₁=>wpAny (model X.prog X.w) X.A (eval b X.env) (λu s₂=>wpAny (model X.prog X.w) X.A (f v u) Q X.xe s₂) X.xe s₁) X.xe s:=by
 refine thn (ha pins s σ H _ I h) λv s1 m=>?_;obtain ⟨x,H1,G,r,z⟩:=m;refine thn (C pins s1 σ H1 _ G z) λu s2 m=>?_;obtain ⟨y,g,D,q,t⟩:=m;exact hf v u s2 x y g D r q t
def pe_op {op:Operator} {r:R2} (t:OpR X (binaryOp op) r) (ha:PE X a ta) (w:PE X b tb):PE X (.BinOp a op b pos) (tOp r ta tb):=by
 intro pins s σ H Q I h;exact wpAny_BinOp (binT ha w I h λv u s2 x y A z m g q=>t pins s2 σ A x y v u Q z m g q)
def pe_un {op:UnaryOp} {r:V->Hp->VK->Prop} (q:UnR X (unaryOp op) r) (ha:PE X a ta):PE X (.UnaryOp op a pos) (tUn r ta):=by
 intro pins s σ H Q I h;refine UnaryOp_ (thn (ha pins s σ H _ I h) ?_);rintro v s1 ⟨x,H1,t,g,m⟩;exact q pins s1 σ H1 x v Q t g m
def opI {f:Value->Value->Sem Value} {C:Int->Int->Prop} {g:Int->Int->Int}
 (rule:∀(i j:Int) (t u:Tok) (s:Shared) (Q:Value->Shared->Prop) (E:Value->Shared->Prop),C i j->Q (.int (g i j) s.toks) {s with toks:=s.toks+1}->wpAny (model X.prog X.w) X.A (f (.int i t) (.int j u)) Q E s):
 OpR X f (rI C λi j=> .int (g i j)):=by
 intro pins s σ H x y v u Q I rx ry h;obtain ⟨i,j,rfl,rfl,m,q⟩:=h;obtain ⟨t,rfl⟩:=rx;obtain ⟨t',rfl⟩:=ry;exact rule i j t t' s _ _ m ⟨.int (g i j),H,I.tok _,⟨_,rfl⟩,q⟩
def opI0 {f:Value->Value->Sem Value} {g:Int->Int->Int}
 (rule:∀(i j:Int) (t u:Tok) (s:Shared) (Q:Value->Shared->Prop) (E:Value->Shared->Prop),Q (.int (g i j) s.toks) {s with toks:=s.toks+1}->wpAny (model X.prog X.w) X.A (f (.int i t) (.int j u)) Q E s):
 OpR X f (rI0 λi j=> .int (g i j)):=by
 intro pins s σ H x y v u Q I rx ry h;obtain ⟨i,j,rfl,rfl,q⟩:=h;obtain ⟨t,rfl⟩:=rx;obtain ⟨t',rfl⟩:=ry;exact rule i j t t' s _ _ ⟨.int (g i j),H,I.tok _,⟨_,rfl⟩,q⟩
def opB0 {f:Value->Value->Sem Value} {g:Int->Int->Bool}
 (rule:∀(i j:Int) (t u:Tok) (s:Shared) (Q:Value->Shared->Prop) (E:Value->Shared->Prop),Q (.bool (g i j)) s->wpAny (model X.prog X.w) X.A (f (.int i t) (.int j u)) Q E s):
 OpR X f (rI0 λi j=> .bl (g i j)):=by
 intro pins s σ H x y v u Q I rx ry h;obtain ⟨i,j,rfl,rfl,q⟩:=h;obtain ⟨t,rfl⟩:=rx;obtain ⟨t',rfl⟩:=ry;exact rule i j t t' s _ _ ⟨.bl (g i j),H,I,rfl,q⟩
def CDiv (i j:Int):Prop:=0<j/\j<1073741824
def CPow (i j:Int):Prop:=0<=j/\j<=1000000/\i.natAbs<2 ^ 64
def CMul (i j:Int):Prop:=(-(2 ^ 64)<i/\i<2 ^ 64)\/(-(2 ^ 64)<j/\j<2 ^ 64)
def CMul.ok {i j:Int} (h:CMul i j):IntMulOk i j:=by
 rcases h with ⟨m,g⟩|⟨m,g⟩
 ·exact .of_left (intBits_le_64 m g)
 ·exact .of_right (intBits_le_64 m g)
def op_add:OpR X (binaryOp .Add) (rI0 λi j=> .int (i+j)):=opI0 λ_ _ _ _ _ _ _ q=>add_int q
def op_sub:OpR X (binaryOp .Sub) (rI0 λi j=> .int (i - j)):=opI0 λ_ _ _ _ _ _ _ q=>sub_int q
def op_fdiv:OpR X (binaryOp .FloorDiv) (rI CDiv λi j=> .int (i / j)):=opI λi j _ _ _ _ _ g q=>by
 have r:(0:Int)<j:=g.1;have m:j<1073741824:=g.2;exact floordiv_int ⋯ (by rw [TN i ⋯];exact q) (.inl (PyProof.noPylong_small ⋯))
def op_mod:OpR X (binaryOp .Mod) (rI (λ_ j=>0<j) λi j=> .int (i % j)):=opI λi j _ _ _ _ _ g q=>by
 have m:(0:Int)<j:=g;exact mod_int' ⋯ (by rw [Tw i ⋯];exact q)
def op_modN:OpR X (binaryOp .Mod) (rI (λ_ j=>j≠0) λi j=> .int (i.fmod j)):=opI λ_ _ _ _ _ _ _ g q=>mod_int' g q
def op_pow:OpR X (binaryOp .Pow) (rI CPow λi j=> .int (i ^ j.toNat)):=opI λ_ _ _ _ _ _ _ g q=>pow_int_small g.1 g.2.1 g.2.2 q
def unI {f:Value->Sem Value} {g:Int->Int}
 (rule:∀(i:Int) (t:Tok) (s:Shared) (Q:Value->Shared->Prop) (E:Value->Shared->Prop),Q (.int (g i) s.toks) {s with toks:=s.toks+1}->wpAny (model X.prog X.w) X.A (f (.int i t)) Q E s):
 UnR X f (rU λi=> .int (g i)):=by
 intro pins s σ H x v Q I rx h;obtain ⟨i,rfl,q⟩:=h;obtain ⟨t,rfl⟩:=rx;exact rule i t s _ _ ⟨.int (g i),H,I.tok _,⟨_,rfl⟩,q⟩
def un_neg:UnR X (unaryOp .USub) (rU λi=> .int (-i)):=unI λ_ _ _ _ _ q=>neg_int q
end
noncomputable def scal:V->V->Bool
 | .non, .non=>true| .non, .int _=>true| .int _, .non=>true| .non, .bl _=>true| .bl _, .non=>true| .non, .str _=>true| .str _, .non=>true
 | .int _, .int _=>true| .bl _, .bl _=>true| .str _, .str _=>true| .byt _, .byt _=>true
 | .int _, .str _=>true| .str _, .int _=>true| .bl _, .str _=>true| .str _, .bl _=>true
 |_,_=>false
def rEq:R2:=λx y H Q=>scal x y=true/\Q (.bl (decide (x=y))) H
def rNe:R2:=λx y H Q=>scal x y=true/\Q (.bl (!decide (x=y))) H
def Dp {i j:Int}:decide (V.int i=V.int j)=(i==j):=by
 rw [jbS]
 simp
def HH {i j:Bool}:decide (V.bl i=V.bl j)=(i==j):=by
 rw [jbS]
 simp
def Dn {i j:Str}:decide (V.str i=V.str j)=(i==j):=by
 rw [jbS]
 simp
def Dq {i j:Array UInt8}:decide (V.byt i=V.byt j)=(i.toList==j.toList):=by
 rw [jbS];cases i;cases j
 simp
section
variable {X:Cx} {a b c:Expr} {ta tb tc:TE} {pos:Pos}
def yP {pins:Pn} {σ:St} {H:Hp} {s:Shared} {Q:VK} {k g:Bool} (I:Inv X pins σ H s) (q:Q (.bl k) H) (e:k=g):EP X pins σ Q (.bool g) s:=by
 subst e;exact ⟨.bl k,H,I,rfl,q⟩
def op_eq:OpR X (compareOp .Eq) rEq:=by
 intro pins s σ H x y v u Q I rx ry h;obtain ⟨g,q⟩:=h
 cases x with
 |non=>
  cases rx
  cases y with
  |non=>cases ry;exact PySem.EqNone.eq_none_none (yP I q (by simp))
  |bl j=>cases ry;exact PySem.EqNone.eq_none_bool (yP I q (by simp))
  |int j=>obtain ⟨t',rfl⟩:=ry;exact PySem.EqNone.eq_none_int (yP I q (by simp))
  |str j=>obtain ⟨t',rfl⟩:=ry;exact PySem.EqNone.eq_none_str (yP I q (by simp))
  |_=>exact absurd (show false=true from g) QA
 |bl i=>
  cases rx
  cases y with
  |non=>cases ry;exact PySem.EqNone.eq_bool_none (yP I q (by simp))
  |bl j=>cases ry;exact eq_bool (yP I q HH)
  |str j=>obtain ⟨t',rfl⟩:=ry;exact PySem.EqMixed.eq_bool_str (yP I q (by simp))
  |_=>exact absurd (show false=true from g) QA
 |int i=>
  obtain ⟨t,rfl⟩:=rx
  cases y with
  |non=>cases ry;exact PySem.EqNone.eq_int_none (yP I q (by simp))
  |int j=>obtain ⟨t',rfl⟩:=ry;exact eq_int (yP I q Dp)
  |str j=>obtain ⟨t',rfl⟩:=ry;exact PySem.EqMixed.eq_int_str (yP I q (by simp))
  |_=>exact absurd (show false=true from g) QA
 |str i=>
  obtain ⟨t,rfl⟩:=rx
  cases y with
  |non=>cases ry;exact PySem.EqNone.eq_str_none (yP I q (by simp))
  |bl j=>cases ry;exact PySem.EqMixed.eq_str_bool (yP I q (by simp))
  |int j=>obtain ⟨t',rfl⟩:=ry;exact PySem.EqMixed.eq_str_int (yP I q (by simp))
  |str j=>obtain ⟨t',rfl⟩:=ry;exact eq_str (yP I q Dn)
  |_=>exact absurd (show false=true from g) QA
 |byt i=>
  obtain ⟨t,rfl⟩:=rx
  cases y with
  |byt j=>obtain ⟨t',rfl⟩:=ry;exact PySem.W.eq_bytes (yP I q Dq)
  |_=>exact absurd (show false=true from g) QA
 |_=>cases y<;>exact absurd (show false=true from g) QA
def op_ne:OpR X (compareOp .NotEq) rNe:=by
 intro pins s σ H x y v u Q I rx ry h;obtain ⟨g,q⟩:=h
 cases x with
 |non=>
  cases rx
  cases y with
  |non=>cases ry;exact PySem.EqNone.ne_none_none (yP I q (by simp))
  |bl j=>cases ry;exact PySem.EqNone.ne_none_bool (yP I q (by simp))
  |int j=>obtain ⟨t',rfl⟩:=ry;exact PySem.EqNone.ne_none_int (yP I q (by simp))
  |str j=>obtain ⟨t',rfl⟩:=ry;exact PySem.EqNone.ne_none_str (yP I q (by simp))
  |_=>exact absurd (show false=true from g) QA
 |bl i=>
  cases rx
  cases y with
  |non=>cases ry;exact PySem.EqNone.ne_bool_none (yP I q (by simp))
  |bl j=>cases ry;exact ne_bool (yP I q (congrArg not HH))
  |str j=>obtain ⟨t',rfl⟩:=ry;exact PySem.EqMixed.ne_bool_str (yP I q (by simp))
  |_=>exact absurd (show false=true from g) QA
 |int i=>
  obtain ⟨t,rfl⟩:=rx
  cases y with
  |non=>cases ry;exact PySem.EqNone.ne_int_none (yP I q (by simp))
  |int j=>obtain ⟨t',rfl⟩:=ry;exact ne_int (yP I q (congrArg not Dp))
  |str j=>obtain ⟨t',rfl⟩:=ry;exact PySem.EqMixed.ne_int_str (yP I q (by simp))
  |_=>exact absurd (show false=true from g) QA
 |str i=>
  obtain ⟨t,rfl⟩:=rx
  cases y with
  |non=>cases ry;exact PySem.EqNone.ne_str_none (yP I q (by simp))
  |bl j=>cases ry;exact PySem.EqMixed.ne_str_bool (yP I q (by simp))
  |int j=>obtain ⟨t',rfl⟩:=ry;exact PySem.EqMixed.ne_str_int (yP I q (by simp))
  |str j=>obtain ⟨t',rfl⟩:=ry;exact ne_str (yP I q (congrArg not Dn))
  |_=>exact absurd (show false=true from g) QA
 |byt i=>
  obtain ⟨t,rfl⟩:=rx
  cases y with
  |byt j=>obtain ⟨t',rfl⟩:=ry;exact PySem.W.ne_bytes (yP I q (congrArg not Dq))
  |_=>exact absurd (show false=true from g) QA
 |_=>cases y<;>exact absurd (show false=true from g) QA
def op_lt:OpR X (compareOp .Lt) (rI0 λi j=> .bl (decide (i<j))):=opB0 λ_ _ _ _ _ _ _ q=>lt_int q
def op_le:OpR X (compareOp .LtE) (rI0 λi j=> .bl (decide (i<=j))):=opB0 λ_ _ _ _ _ _ _ q=>le_int q
def op_gt:OpR X (compareOp .Gt) (rI0 λi j=> .bl (decide (j<i))):=opB0 λ_ _ _ _ _ _ _ q=>gt_int q
def op_ge:OpR X (compareOp .GtE) (rI0 λi j=> .bl (decide (j<=i))):=opB0 λ_ _ _ _ _ _ _ q=>ge_int q
def OpR.or {f:Value->Value->Sem Value} {r g:R2} (h:OpR X f r) (h':OpR X f g):OpR X f (λx y H Q=>r x y H Q\/g x y H Q):=by
 intro pins s σ H x y v u Q I rx ry q
 rcases q with q|q
 ·exact h pins s σ H x y v u Q I rx ry q
 ·exact h' pins s σ H x y v u Q I rx ry q
def Cg (b:Expr) {op:CmpOp} (h:op≠ .In:=by decide) (g:op≠ .NotIn:=by decide):behindInMarks op b=false:=by
 have q:(op==CmpOp.In)=false:=by cases op<;>first|rfl|exact absurd rfl h
 have m:(op==CmpOp.NotIn)=false:=by cases op<;>first|rfl|exact absurd rfl g
 cases b<;>simp [behindInMarks,q,m]
def pe_cmpR {op:CmpOp} {r:R2} (t:OpR X (compareOp op) r) (ha:PE X a ta) (w:PE X b tb) (hm:behindInMarks op b=false):PE X (.Compare a [op] [b] pos) (tOp r ta tb):=by
 intro pins s σ H Q I h;exact wpAny_Compare1 (binT ha w I h λv u s2 x y A z m g q=>t pins s2 σ A x y v u Q z m g q) hm
def tTest (t:TE):TT:=λσ H Q=>t σ H λx H'=>∃k,x= .bl k/\Q k H'
def qC {op:CmpOp} {r:R2} (C:OpR X (compareOp op) r) (ha:PE X a ta) (D:PE X b tb) (hm:behindInMarks op b=false):PT X (.Compare a [op] [b] pos) (tTest (tOp r ta tb)):=by
 intro pins s σ H Q I h
 refine wpAny_isTrue_Compare1 (thn (ha pins s σ H _ I h) λv s1 ⟨x,H1,K,q,A⟩=>thn (D pins s1 σ H1 _ K A) λu s2 ⟨y,M,J,m,w⟩=>
  thn (C pins s2 σ M x y v u _ J q m w) λc s3 ⟨z,L,G,g,k,e,t⟩=>?_) hm
 subst e;cases g;exact jbZ ⟨L,G,t⟩
def oA:(sizeLine:Nat)<2 ^ 63:=by rw [sizeLine_eq];decide
def vA:OpR X (binaryOp .Add) (λx y H Q=>∃i j,x= .str i/\y= .str j/\i.length+j.length<=sizeLine/\Q (.str (i++j)) H):=by
 intro pins s σ H x y v u Q I rx ry h;obtain ⟨i,j,rfl,rfl,hz,q⟩:=h;obtain ⟨t,rfl⟩:=rx;obtain ⟨t',rfl⟩:=ry;exact add_str (λt' tk=>⟨.str (i++j),H,I.tok _,⟨_,rfl⟩,q⟩) hz
def dI {x:V} {us:List Value} (r:xD [x] us):∃u,us=[u]/\ZQ x u:=by
 cases r with
 |cons m g=>cases g;exact ⟨_,rfl,m⟩
def Ez {x y:V} {us:List Value} (r:xD [x,y] us):∃u g,us=[u,g]/\ZQ x u/\ZQ y g:=by
 cases r with
 |cons t s=>
  cases s with
  |cons q m=>cases m;exact ⟨_,_,rfl,t,q⟩
def Gz:Ve X (.builtin "abs") (λxs H Q=>∃i,xs=[.int i]/\Q (.int (if i<0 then -i else i)) H):=by
 intro pins s σ H xs us Q I r h;obtain ⟨i,rfl,q⟩:=h;obtain ⟨u,rfl,t,rfl⟩:=dI r;exact call_abs_int λu tk=>⟨.int (if i<0 then -i else i),H,I.tok _,⟨_,rfl⟩,q⟩
def Dz (m:X.calm=true):Ve X (.builtin "min") (λxs H Q=>∃i j,xs=[.int i, .int j]/\Q (.int (if j<i then j else i)) H):=by
 intro pins s σ H xs us Q I r h;obtain ⟨i,j,rfl,q⟩:=h;obtain ⟨u,w,rfl,⟨t,rfl⟩,⟨t',rfl⟩⟩:=Ez r;refine min_two_ints (I.ok.hd m) λh' tk k=>⟨_,H,I.kept k,?_,q⟩
 by_cases g:j<i
 ·rw [QH g,QH g];exact ⟨_,rfl⟩
 ·rw [QP g,QP g];exact ⟨_,rfl⟩
end
structure ObjM (h:Heap) (x dx C:Addr) (mA:Str->Option Value):Prop where
 obj:h.get? x=some (PySem.W.instObj C dx)
 ns:h.Ns1 dx mA
 ne:dx≠x
def Ct {h:Heap} {r:Addr} {m:Str->Option Value} (n:h.Ns1 r m):∃g,h.get? r=some g/\∀name,PySem.W.lookIn name g=some (m name):=by
 obtain ⟨o,es,ep,u,hd,w,_,hm⟩:=n;refine ⟨o,u,λname=>?_⟩;have e:=hm name;unfold nsFind findBy at e;rw [<-Array.find?_toList] at e;unfold PySem.W.lookIn;rw [hd];dsimp only
 split
 ·rename_i y q;rw [q] at e;exact congrArg some e
 ·rename_i q;rw [q] at e
  have a:es.toList.any (·.refKey)=false:=by
   rw [List.any_eq_false];intro y s;obtain ⟨z,t,C⟩:=w y (Array.mem_toList_iff.mp s);simp [DictEntry.refKey,C]
  have A:¬es.toList.any (·.refKey)=true:=by rw [a];exact QA
  rw [QP A];exact congrArg some e
def ObjM.look {h:Heap} {x q C:Addr} {m:Str->Option Value} (I:ObjM h x q C m):∃g,PySem.W.InstAt h x (PySem.W.instObj C q) C (some g)/\∀name,PySem.W.lookIn name g=some (m name):=
 let ⟨g,r,s⟩:=Ct I.ns
 ⟨g,⟨I.obj,rfl,rfl,r⟩,s⟩
section
variable {prog:Program} {w:World} {A:Around} {E:Value->Shared->Prop} {s:Shared} {K:Frg} {x dx C f:Addr} {mA:Str->Option Value} {name:Str} {v:Value}
def JG {expr:Bool} {Q:Value->Shared->Prop} (X:K.In s.heap) (I:ObjM s.heap x dx C mA) (r:PySem.W.plainGet K C name=true) (q:PySem.W.hasDictIn K C=true)
 (ha:PySem.W.findIn K (.ref C) name=some none) (g:mA name=some v) (t:PySem.W.handedIn v=true) (h:Q v {s with toks:=s.toks+1}):
 wpAny (model prog w) A (getAttr (.ref x) name expr) Q E s:=by
 obtain ⟨u,J,m⟩:=I.look;exact PySem.W.get_value X J (PySem.W.plainGet_of r).1 (PySem.W.findObj_own q ha rfl (by rw [m,g])) t h
def Gu {pl:Sem Bool} {Q:Value×List Value->Shared->Prop} (X:K.In s.heap) (I:ObjM s.heap x dx C mA) (g:PySem.W.plainGet K C name=true)
 (hf:PySem.W.findIn K (.ref C) name=some (some (.ref f))) (ht:PySem.W.isFn K (.ref f)=true) (q:mA name=none) (h:Q (.ref f,[.ref x]) s):
 wpAny (model prog w) A (getMethod (.ref x) name pl) Q E s:=by
 obtain ⟨m,J,r⟩:=I.look;exact PySem.W.method_fn X J (PySem.W.plainGet_of g).1 (PySem.W.plainGet_of g).2 hf (beq_iff_eq.mp ht) (by show (PySem.W.lookIn name m).map (·.isSome)=some false;rw [r,q];rfl) h
def Iv {ns:List Str} {Q:Unit->Shared->Prop} (X:K.In s.heap) (I:ObjM s.heap x dx C mA)
 (D:PySem.W.findIn K (.ref C) "__setattr__"=some (some (.builtin "object.__setattr__"))) (hp:PySem.W.plainOver K C=true) (ht:PySem.W.takerIn K C name=some none) (G:PySem.W.hasDictIn K C=true)
 (hw:PySem.Within mA ns) (hsz:ns.length<=sizeLine)
 (h:∀h',ObjM h' x dx C (λy=>if y=name then some v else mA y)->Heap.SameBut dx s.heap h'->Q () {s with heap:=h',toks:=s.toks+2}):
 wpAny (model prog w) A (setAttr (.ref x) name v) Q E s:=by
 obtain ⟨P,J,U⟩:=I.look;refine PySem.W.set_plain X J D (PySem.W.osa_open (s:={s with toks:=s.toks+1}) (r:=none) X J hp ht λb=>?_);obtain ⟨cd,L,O⟩:=PySem.W.any_some G;have z:s.heap.get? x=some ⟨.ref C,some dx, .plain,#[]⟩:=I.obj;refine Qg (Qq (Qg (Qg (wpAny_loadPart z (Qg (PySem.W.Looks.here (s:={s with toks:=s.toks+1}) (PySem.W.looks_clsIn X L) ?_))))));rw [O];refine Qq (a:=some dx) (Qg (Qq (Qg ?_)));refine wpAny_nsSet1 (s:={s with toks:=s.toks+1}) I.ns λh' t u=>?_;obtain ⟨T,M,N,g,m,q⟩:=t.count (PySem.Within.cons name v hw);refine Qg (wpAny_lookBehind g (by rw [m];exact pastItsLine_dict (QW q (by rw [Qy];omega))) ?_);exact Qq (h _ ⟨(u.2 _ (Ne.symm I.ne)).trans I.obj,t,I.ne⟩ u)
def FD {R:Result->Shared->Prop} {vs:List Value} {kw:List (Str×Value)} (X:K.In s.heap) (hm:PySem.W.makesIn K C=true)
 (m:PySem.W.findIn K (.ref C) "__init__"=some (some (.ref f))) (hf:PySem.W.typeIn K (.ref f)=some (.type "function"))
 (h:codeAny (model prog w) (A.under (.builtin "type.__call__" ⟨.ref C::vs,kw⟩)) (.call (.ref f) ⟨.ref (s.heap.objs.size+1)::vs,kw⟩) (PySem.W.InitBack (s.heap.objs.size+1) R)
  {s with heap:=(s.heap.push PySem.W.emptyDict).push (PySem.W.instObj C s.heap.objs.size)}):
 codeAny (model prog w) A (.call (.ref C) ⟨vs,kw⟩) R s:=by
 obtain ⟨q,g,d,t,os⟩:=s;exact PySem.W.make_core (PySem.W.makes_of X hm) (PySem.W.looks_findIn X m) (λself=>PySem.W.bind_fn X self hf) (.inl rfl) h
end
noncomputable def pS (f:Str) (v:V):List (Str×V)->List (Str×V)
 |[]=>[(f,v)]
 |(g,x)::r=>if g=f then (g,v)::r else (g,x)::pS f v r
theorem fM (f g:Str) (v:V):∀fs:List (Str×V),(pS f v fs).lookup g=if g=f then some v else fs.lookup g
 |[]=>by
  show List.lookup g [(f,v)]=_
  by_cases h:g=f
  ·have m:(g==f)=true:=beq_iff_eq.mpr h;simp only [List.lookup,m,QH h]
  ·have m:(g==f)=false:=jba.mpr h;simp only [List.lookup,m,QP h]
 |(k,x)::r=>by
  have s:=fM f g v r;rw [show pS f v ((k,x)::r)=(if k=f then (k,v)::r else (k,x)::pS f v r) from rfl]
  by_cases q:k=f
  ·rw [QH q]
   by_cases h:g=k
   ·have m:(g==k)=true:=beq_iff_eq.mpr h;simp only [List.lookup,m,QH (h.trans q)]
   ·have m:(g==k)=false:=jba.mpr h;simp only [List.lookup,m,QP (λe:g=f=>h (e.trans q.symm))]
  ·rw [QP q]
   by_cases h:g=k
   ·have m:(g==k)=true:=beq_iff_eq.mpr h;simp only [List.lookup,m,QP (λe:g=f=>q (h.symm.trans e))]
   ·have m:(g==k)=false:=jba.mpr h;simp only [List.lookup,m];exact s
theorem fV (f:Str) (v:V):∀fs:List (Str×V),f∈(pS f v fs).map (·.1)/\∀g,g∈fs.map (·.1)->g∈(pS f v fs).map (·.1)
 |[]=>⟨by simp [pS],λg h=>by simp at h⟩
 |(k,x)::r=>by
  obtain ⟨s,q⟩:=fV f v r;rw [show pS f v ((k,x)::r)=(if k=f then (k,v)::r else (k,x)::pS f v r) from rfl]
  by_cases m:k=f
  ·rw [QH m];subst m;exact ⟨by simp,λg h=>by simpa using h⟩
  ·rw [QP m];refine ⟨?_,λg h=>?_⟩
   ·rw [Ql];exact Qf _ s
   ·rw [Ql] at h⊢
    rcases Qn.mp h with e|e
    ·exact Qn.mpr (.inl e)
    ·exact Qf _ (q g e)
theorem fR (f:Str) (v:V):∀fs:List (Str×V),(pS f v fs).length<=fs.length+1
 |[]=>by simp [pS]
 |(k,x)::r=>by
  have m:=fR f v r;rw [show pS f v ((k,x)::r)=(if k=f then (k,v)::r else (k,x)::pS f v r) from rfl]
  by_cases g:k=f
  ·rw [QH g,Qy,Qy];omega
  ·rw [QP g,Qy,Qy];omega
def Ec.some_of {v:V} {o:Option Value} (r:Ec (some v) o):∃u,o=some u/\ZQ v u:=by
 cases o with
 |none=>exact (show False from r).elim
 |some u=>exact ⟨u,rfl,r⟩
def Ec.none_of {o:Option Value} (r:Ec none o):o=none:=by
 cases o with
 |none=>rfl
 |some u=>exact (show False from r).elim
def CO {v:V} {u:Value} (r:ZQ v u):PySem.W.handedIn u=true:=by
 cases v with
 |non=>cases (show u=Value.none from r);rfl
 |bl b=>cases (show u=Value.bool b from r);rfl
 |int i=>obtain ⟨t,e⟩:=(show ∃t,u=Value.int i t from r);cases e;rfl
 |str x=>obtain ⟨t,e⟩:=(show ∃t,u=Value.str x t from r);cases e;rfl
 |byt b=>obtain ⟨t,e⟩:=(show ∃t,u=Value.bytes b t from r);cases e;rfl
 |flt b=>obtain ⟨t,e⟩:=(show ∃t,u=Value.float b t from r);cases e;rfl
 |ref a=>cases (show u=Value.ref a from r);rfl
 |ty n=>cases (show u=Value.type n from r);rfl
section
variable {P:Program} {w:World} {H H':Hp} {h h':Heap} {a C dx:Addr} {fs fs':List (Str×V)}
def lR (hok:HOk P w H h) (e:H a=some (.ins C dx fs)):∃g,ObjM h a dx C g/\(∀f,Ec (fs.lookup f) (g f))/\PySem.Within g (fs.map (·.1))/\fs.length<=1000/\H dx=some (.own a):=by
 obtain ⟨d,z,ne,m,g,n,r,q⟩:=(show ZY P w H h a (.ins C dx fs) from hok a _ e);exact ⟨g,⟨m,n,ne⟩,r,q,z,d⟩
end
structure Cls (K:Frg) (C:Addr):Prop where
 pg:PySem.W.plainGet K C Str.empty=true
 hd:PySem.W.hasDictIn K C=true
 po:PySem.W.plainOver K C=true
 sa:PySem.W.findIn K (.ref C) "__setattr__"=some (some (.builtin "object.__setattr__"))
def Cls.get {K:Frg} {C:Addr} (c:Cls K C) (f:Str):PySem.W.plainGet K C f=true:=c.pg
def cy (K:Frg) (C:Addr) (f:Str):Prop:=PySem.W.findIn K (.ref C) f=some none
def cy.taker {K:Frg} {C:Addr} {f:Str} (n:cy K C f):PySem.W.takerIn K C f=some none:=by
 unfold PySem.W.takerIn;rw [show PySem.W.findIn K (.ref C) f=some none from n];rfl
structure Meth (K:Frg) (C:Addr) (m:Str) (f:Addr):Prop where
 at_:PySem.W.findIn K (.ref C) m=some (some (.ref f))
 fn:PySem.W.isFn K (.ref f)=true
 kp:PySem.W.keepIn K (.ref f)=true
section
variable {X:Cx} {pins:Pn} {σ:St} {H:Hp} {s:Shared} {a C dx:Addr} {fs:List (Str×V)} {f:Str} {v:V} {A:Around} {E:Value->Shared->Prop}
def wt {b:Bool} {Q:Value->Shared->Prop} (I:Inv X pins σ H s) (e:H a=some (.ins C dx fs)) (c:Cls X.K C) (n:cy X.K C f) (l:fs.lookup f=some v)
 (h:∀u s',Inv X pins σ H s'->ZQ v u->Q u s'):wpAny (model X.prog X.w) A (getAttr (.ref a) f b) Q E s:=by
 obtain ⟨g,O,r,_,_,_⟩:=lR I.hok e;obtain ⟨u,m,ru⟩:=Ec.some_of (v:=v) (o:=g f) (by rw [<-l];exact r f);exact JG I.kIn O (c.get f) c.hd n m (CO ru) (h u _ (I.tok _) ru)
def jA {m:Str} {g:Addr} {pl:Sem Bool} {Q:Value×List Value->Shared->Prop} (I:Inv X pins σ H s) (e:H a=some (.ins C dx fs)) (c:Cls X.K C) (k:Meth X.K C m g) (l:fs.lookup m=none)
 (h:Q (.ref g,[.ref a]) s):wpAny (model X.prog X.w) A (getMethod (.ref a) m pl) Q E s:=by
 obtain ⟨q,O,r,_,_,_⟩:=lR I.hok e;have hn:q m=none:=Ec.none_of (by rw [<-l];exact r m);exact Gu I.kIn O (c.get m) k.at_ k.fn hn h
def uT {y:V} {u:Value} {Q:Unit->Shared->Prop} (I:Inv X pins σ H s) (e:H a=some (.ins C dx fs)) (c:Cls X.K C) (n:cy X.K C f) (P:fs.length<1000) (J:ZQ y u)
 (h:∀s',Inv X pins σ (upd H a (.ins C dx (pS f y fs))) s'->Q () s'):wpAny (model X.prog X.w) A (setAttr (.ref a) f u) Q E s:=by
 obtain ⟨D,O,r,t,_,G⟩:=lR I.hok e;have hz:(fs.map (·.1)).length<=sizeLine:=by rw [Qa,sizeLine_eq];omega
 refine Iv I.kIn O c.sa c.po n.taker c.hd t hz λh' m sb=>h _ ?_;have hd:∃o,h'.get? dx=some o:=let ⟨o,_,_,N,_⟩:=m.ns;⟨o,N⟩
 refine I.write (x:=a) (e:=dx) (by rw [e];exact True.intro) (.inr G) (λb q M z=>(sb.2 b M).trans z) hd ?_;refine ⟨by rw [yh O.ne];exact G,?_,O.ne,m.obj,_,m.ns,λg=>?_,λg L=>?_⟩
 ·have:=fR f y fs;omega
 ·show Ec ((pS f y fs).lookup g) (if g=f then some u else D g);rw [fM]
  by_cases q:g=f
  ·rw [QH q,QH q];exact J
  ·rw [QP q,QP q];exact r g
 ·by_cases q:g=f
  ·rw [q];exact (fV f y fs).1
  ·refine (fV f y fs).2 g (t g λz=>L ?_);show (if g=f then some u else D g)=none;rw [QP q];exact z
def Inv.made (I:Inv X pins σ H s):Inv X pins σ (upd (upd H s.heap.objs.size (.own (s.heap.objs.size+1))) (s.heap.objs.size+1) (.ins C s.heap.objs.size []))
 {s with heap:=(s.heap.push PySem.W.emptyDict).push (PySem.W.instObj C s.heap.objs.size)}:=by
 have g:(s.heap.push PySem.W.emptyDict).get? s.heap.objs.size=some PySem.W.emptyDict:=Qw s.heap rfl
 have t:((s.heap.push PySem.W.emptyDict).push (PySem.W.instObj C s.heap.objs.size)).get? (s.heap.objs.size+1)=some (PySem.W.instObj C s.heap.objs.size):=by
  have:=Qw (s.heap.push PySem.W.emptyDict) (o:=PySem.W.instObj C s.heap.objs.size) rfl;rwa [QV] at this
 have r:(s.heap.push PySem.W.emptyDict).Ns s.heap.objs.size (λ_=>none):=⟨PySem.W.emptyDict,#[],_,g,rfl,(λe he=>absurd he (by simp)),λ_=>rfl⟩;have w:=I.laid (a:=s.heap.objs.size) (o:= .own (s.heap.objs.size+1)) (h':=s.heap.push PySem.W.emptyDict) (t':=s.toks) (λb u q=>Qi _ q) (Qu _) ⟨_,g⟩;refine w.laid (a:=s.heap.objs.size+1) (o:= .ins C s.heap.objs.size []) (t':=s.toks) (λb u q=>Qi _ q) (Nat.le_of_eq (QV _ _)) ?_;have ne:s.heap.objs.size≠s.heap.objs.size+1:=QN (Td _);refine ⟨by rw [yh ne,yM],jar _,ne,t,λ_=>none,(Heap.Ns1.of_empty r).at λo q=>Qi _ q,λ_=>True.intro,λy m=>absurd rfl m⟩
def JW {prog:Program} {w:World} {env:Env} {e:Expr} {f:Str} {pos:Pos} {s:Shared} {Q:Value->Shared->Prop} (g:attributeBase e f env (eval e env)=eval e env)
 (h:wpAny (model prog w) A (eval e env) (λo s₁=>wpAny (model prog w) A (getAttr o f true) Q E s₁) E s):wpAny (model prog w) A (eval (.Attribute e f pos) env) Q E s:=
 Attribute_any_ h (by rw [arm_eval_Attribute,g])
end
def tFld (K:Frg) (g:TE) (f:Str):TE:=λσ H Q=>g σ H λx H1=>∃a C m fs v,x= .ref a/\H1 a=some (.ins C m fs)/\Cls K C/\cy K C f/\fs.lookup f=some v/\Q v H1
def sFld (K:Frg) (r q:TE) (f:Str):TS:=λD σ H=>q σ H λy H1=>r σ H1 λx m=>∃a C g fs,x= .ref a/\m a=some (.ins C g fs)/\Cls K C/\cy K C f/\fs.length<1000/\
 D.nx σ (upd m a (.ins C g (pS f y fs)))
section
variable {X:Cx} {o e value:Expr} {f:Str} {pos pos' tpos:Pos} {ta tv:TE}
def pe_fld (he:PE X e ta) (r:attributeBase e f X.env (eval e X.env)=eval e X.env):PE X (.Attribute e f pos) (tFld X.K ta f):=by
 intro pins s σ H Q I h;refine JW r (thn (he pins s σ H _ I h) λu s1 m=>?_);obtain ⟨x,H1,y,g,a,C,A,fs,v,ex,t,c,n,l,q⟩:=m;subst ex;obtain rfl:u=Value.ref a:=g;exact wt y t c n l λz s2 w ru=>⟨v,H1,w,ru,q⟩
def ps_fld (ha:PE X o ta) (w:PE X value tv) (z:swapsWith value (some (.Attribute o f pos')) pos.line X.env=pure false):PS X (.Assign [.Attribute o f pos'] value pos) (sFld X.K ta tv f):=by
 intro pins s σ H D I h;refine plainObj_wpAny_Assign_Attribute (thn (w pins s σ H _ I h) λu s1 ⟨y,H1,M,g,q⟩=>thn (ha pins s1 σ H1 _ M q) λt s2 A=>?_) z;obtain ⟨x,O,L,m,a,C,N,fs,ex,G,c,n,l,r⟩:=A;subst ex;obtain rfl:t=Value.ref a:=m;exact uT L G c n l g λs3 J=>⟨σ,_,J,r⟩
end
section
variable {X:Cx} {pins:Pn} {σ:St} {H:Hp} {s:Shared} {A:Around} {E:Value->Shared->Prop} {Q:Value->Shared->Prop} {c:Value} {b:Bool}
inductive TyOf (K:Frg) (H:Hp):V->Value->Prop where
 |non:TyOf K H .non (.type "NoneType")
 |bl (x:Bool):TyOf K H (.bl x) (.type "bool")
 |int (i:Int):TyOf K H (.int i) (.type "int")
 |str (x:Str):TyOf K H (.str x) (.type "str")
 |flt (x:UInt64):TyOf K H (.flt x) (.type "float")
 |lst {a:Addr} {xs:List V} (e:H a=some (.lst xs)):TyOf K H (.ref a) (.type "list")
 |frz {a:Addr} {o:Obj} {xs:List V} (e:H a=some (.frz o (.lst xs))):TyOf K H (.ref a) (.type "list")
 |tup {a:Addr} {xs:List V} (e:H a=some (.tup xs)):TyOf K H (.ref a) (.type "tuple")
 |dK {a:Addr} {kvs:List (Key×V)} (e:H a=some (.dK kvs)):TyOf K H (.ref a) (.type "dict")
 |dT {a:Addr} {kvs:List (List Key×V)} (e:H a=some (.dT kvs)):TyOf K H (.ref a) (.type "dict")
 |ins {a C dx:Addr} {fs:List (Str×V)} (e:H a=some (.ins C dx fs)) (cl:Cls K C) (ha:PySem.W.findIn K (.ref C) "__class__"=some (some (.builtin "object.__class__")))
  (hn:PySem.W.specialIn K (.builtin "object.__class__") "__get__"=some (some (.builtin "getset_descriptor.__get__"))) (htk:PySem.W.takesIn K (.builtin "object.__class__")=some true)
  (hm:PySem.W.mroIn K C (.type "object")=some true):TyOf K H (.ref a) (.ref C)
def CI {x:V} {u t:Value} (I:Inv X pins σ H s) (g:ZQ x u) (ty:TyOf X.K H x t) (e:PySem.W.kitOne X.K t c=some b) (h:∀tk,Q (.bool b) {s with toks:=tk}):
 wpAny (model X.prog X.w) A (call (.builtin "isinstance") [u,c]) Q E s:=by
 cases ty with
 |non=>cases (show u=Value.none from g);exact jaz PySem.W.kitx_none I.kIn True.intro e (λz=>nomatch z) h
 |bl y=>cases (show u=Value.bool y from g);exact jaz PySem.W.kitx_bool I.kIn True.intro e (λz=>nomatch z) h
 |int i=>obtain ⟨t,q⟩:=(show ∃t,u=Value.int i t from g);cases q;exact jaz PySem.W.kitx_int I.kIn True.intro e (λz=>nomatch z) h
 |str y=>obtain ⟨t,q⟩:=(show ∃t,u=Value.str y t from g);cases q;exact jaz PySem.W.kitx_str I.kIn True.intro e (λz=>nomatch z) h
 |flt y=>obtain ⟨t,q⟩:=(show ∃t,u=Value.float y t from g);cases q;exact jaz PySem.W.kitx_float I.kIn True.intro e (λz=>nomatch z) h
 |@lst a xs ea=>
  cases (show u=Value.ref a from g);obtain ⟨_,_,n,_,m⟩:=(show ZY X.prog X.w H s.heap a (.lst xs) from I.hok a _ ea);exact jaz PySem.W.kitx_list I.kIn ⟨_,m,rfl⟩ e (λz=>nomatch z) h
 |@frz a ob xs ea=>
  cases (show u=Value.ref a from g);obtain ⟨_,_,_,n,_,m⟩:=(show ZY X.prog X.w H s.heap a (.frz ob (.lst xs)) from I.hok a _ ea);exact jaz PySem.W.kitx_list I.kIn ⟨_,m,rfl⟩ e (λz=>nomatch z) h
 |@tup a xs ea=>
  cases (show u=Value.ref a from g);obtain ⟨_,_,_,p⟩:=(show ZY X.prog X.w H s.heap a (.tup xs) from I.hok a _ ea);obtain ⟨o,m,r,_⟩:=p;exact jaz PySem.W.kitx_tuple I.kIn ⟨o,m,r⟩ e (λz=>nomatch z) h
 |@dK a kvs ea=>
  cases (show u=Value.ref a from g);obtain ⟨_,_,vs,_,p⟩:=(show ZY X.prog X.w H s.heap a (.dK kvs) from I.hok a _ ea);obtain ⟨o,es,ep,m,r,_⟩:=p;exact jaz PySem.W.kitx_dict I.kIn ⟨o,m,r.1⟩ e (λz=>nomatch z) h
 |@dT a kvs ea=>
  cases (show u=Value.ref a from g);obtain ⟨_,_,xs,_,o,es,ep,m,r,_⟩:=(show ZY X.prog X.w H s.heap a (.dT kvs) from I.hok a _ ea);exact jaz PySem.W.kitx_dict I.kIn ⟨o,m,r.1⟩ e (λz=>nomatch z) h
 |@ins a C dx fs ea cl ha hn htk hm=>
  cases (show u=Value.ref a from g);obtain ⟨G,O,_⟩:=lR I.hok ea;obtain ⟨D,J,_⟩:=O.look;exact jaz (PySem.W.kitx_own (cl.get _) cl.hd ha hn htk hm) I.kIn J e (λz=>nomatch z) h
end
structure Room (k:Nat) (A:Around):Prop where
 hd:A.handled=none
 dp:A.depth+3*k+5<recursionLimit
 un:A.units+16*k+200<cLine
def Room.mono {j k:Nat} {A:Around} (r:Room k A) (h:j<=k):Room j A:=⟨r.hd,by have:=r.dp;omega,by have:=r.un;omega⟩
def Room.deeper {k:Nat} {A:Around} (r:Room (k+1) A) (env:Env):Room k (A.deeper env):=
 ⟨r.hd,by have:=r.dp;show A.depth+1+3*k+5<_;omega,by have:=r.un;show A.units+3+16*k+200<_;omega⟩
def vR {A:Around} {C:Addr} {us:List Value} {kw:List (Str×Value)}:(A.under (.builtin "type.__call__" ⟨.ref C::us,kw⟩)).depth=A.depth+1:=by
 first|rfl|simp [Around.under,Code.weight,Code.isCreation,Code.isGuard,Code.isCaller,Code.frames,Code.isFrame,guardIds]
def vQ {A:Around} {C:Addr} {us:List Value} {kw:List (Str×Value)}:(A.under (.builtin "type.__call__" ⟨.ref C::us,kw⟩)).units=A.units+1:=by
 first|rfl|simp [Around.under,Code.cUnits,Code.frames,Code.isFrame]
def Room.make {k:Nat} {A:Around} (r:Room (k+1) A) (C:Addr) (us:List Value) (kw:List (Str×Value)):Room k (A.under (.builtin "type.__call__" ⟨.ref C::us,kw⟩)):=
 ⟨r.hd,by have:=r.dp;rw [vR];omega,by have:=r.un;rw [vQ];omega⟩
def Room.depth {k:Nat} {A:Around} (r:Room k A):A.depth<recursionLimit:=by have:=r.dp;omega
def Room.units {k:Nat} {A:Around} (r:Room k A):A.units+64<cLine:=by have:=r.un;omega
def tNil:TA:=λ_ H Q=>Q [] H
def tCons (m:TE) (g:TA):TA:=λσ H Q=>m σ H λx H1=>g σ H1 λxs q=>Q (x::xs) q
section
variable {X:Cx} {e:Expr} {es:List Expr} {te:TE} {t:TA} {pos:Pos}
def fC:PA X [] tNil:=λ_ _ _ _ H Q I h=>Calls.spliced_nil ⟨[],H,I, .nil,h⟩
def WK (ha:PE X e te) (hr:PA X es t) (w:starEach (e::es) X.env=(false,eval e X.env)::starEach es X.env:=by rfl):PA X (e::es) (tCons te t):=by
 intro pos pins s σ H Q I h;rw [w];show wpAny _ _ (spliced ((false,eval e X.env)::backTo pos (starEach es X.env))) _ _ s;refine Calls.spliced_cons (thn (ha pins s σ H _ I h) λu s1 y=>?_);obtain ⟨x,H1,A,m,r⟩:=y;refine thn (hr pos pins s1 σ H1 _ A r) ?_;rintro us s2 ⟨xs,C,z,g,q⟩;exact ⟨x::xs,C,z, .cons m g,q⟩
def tTup (t:TA):TE:=λσ H Q=>t σ H λxs H1=>xs.length<=sizeLine/\∀p,H1 p=none->Q (.ref p) (upd H1 p (.tup xs))
def tLst (t:TA):TE:=λσ H Q=>t σ H λxs H1=>xs.length<=sizeLine/\∀p,H1 p=none->Q (.ref p) (upd H1 p (.lst xs))
def pe_tup {x1} (h:PA X es t):PE X (.Tuple es x1 pos) (tTup t):=by
 intro pins s σ H Q I hq;refine wpAny_Tuple_spliced (thn (h pos pins s σ H _ I hq) λus s1 ⟨xs,H1,g,r,z,q⟩=>⟨by rw [<-r.length];exact z,?_⟩);have hf:H1 s1.heap.objs.size=none:=g.hok.fresh (Qu _);refine ⟨.ref s1.heap.objs.size,upd H1 s1.heap.objs.size (.tup xs),g.laid (t':=s1.toks) (λb u e=>Qi _ e) (Qu _) ?_,rfl,q _ hf⟩;exact ⟨z,us,r,⟨_,Qw _ rfl,rfl,_,rfl⟩⟩
def pe_lst (h:PA X es t):PE X (.List es pos) (tLst t):=by
 intro pins s σ H Q I hq;refine wpAny_List_spliced (thn (h pos pins s σ H _ I hq) λus s1 ⟨xs,H1,g,r,z,q⟩=>⟨by rw [<-r.length];exact z,?_⟩);have hf:H1 s1.heap.objs.size=none:=g.hok.fresh (Qu _);refine ⟨.ref s1.heap.objs.size,upd H1 s1.heap.objs.size (.lst xs),g.laid (t':=s1.toks) (λb u e=>Qi _ e) (Qu _) ?_,rfl,q _ hf⟩;exact ⟨z,us,0,r,Qw _ rfl⟩
end
abbrev Sp:=List V->Hp->VK->XK->Prop
abbrev CXT:=List Env->Hp->Shared->XK->Value->Shared->Prop
structure Env0 (P:Program) (w:World) (K:Frg) (mg:Str->Option Value) (base:Heap) (A:Around) (outer:List Env) (s:Shared) (H:Hp):Prop where
 frames:A.frames=some outer
 mod:Mod K mg base
 bs:∀b o,base.get? b=some o->s.heap.get? b=some o/\H b=none
 bsz:base.objs.size<=s.heap.objs.size
 funs:s.heap.FunFrames base outer
 frf:∀b∈frs outer,H b=none
 hok:HOk P w H s.heap
 bare:AllBare s.gens
def CE (outer:List Env) (P:Program) (w:World) (H:Hp) (s:Shared) (Q:VK) (u:Value) (s':Shared):Prop:=
 ∃v H',s'.os=s.os/\AllBare s'.gens/\Un (frs outer) [] H H' s.heap s'.heap/\HOk P w H' s'.heap/\ZQ v u/\Q v H'
def CR (CX:CXT) (outer:List Env) (P:Program) (w:World) (H:Hp) (s:Shared) (Q:VK) (E:XK) (r:Result) (s':Shared):Prop:=
 match r with
 | .ok (.ret u)=>CE outer P w H s Q u s'
 | .ok _=>False
 | .error e=>CX outer H s E e s'
structure FnOk (P:Program) (w:World) (K:Frg) (mg:Str->Option Value) (base:Heap) (CX:CXT) (k:Nat) (f:Addr) (fd:FuncData) (ps:List Str) (sp:Sp):Prop where
 len:∀vs H Q E,sp vs H Q E->vs.length=ps.length
 run:∀(A:Around) (outer:List Env) (s:Shared) (H:Hp) (args:Args) (us:List Value) (vs:List V) (Q:VK) (E:XK),Room k A->Env0 P w K mg base A outer s H->BindsTo s fd args (ps.zip us)->xD vs us->sp vs H Q E->
  codeAny (model P w) A (.call (.ref f) args) (CR CX outer P w H s Q E) s
def FnOk.mono {P:Program} {w:World} {K:Frg} {mg:Str->Option Value} {base:Heap} {CX:CXT} {j k:Nat} {f:Addr} {fd:FuncData} {ps:List Str} {sp:Sp} (F:FnOk P w K mg base CX j f fd ps sp) (h:j<=k):
 FnOk P w K mg base CX k f fd ps sp:=⟨F.len,λA outer s H args us vs Q E hr=>F.run A outer s H args us vs Q E (hr.mono h)⟩
def Env0.make {P:Program} {w:World} {K:Frg} {mg:Str->Option Value} {base:Heap} {A:Around} {outer:List Env} {s:Shared} {H:Hp} (e:Env0 P w K mg base A outer s H) (C:Addr) (us:List Value) (kw:List (Str×Value)):
 Env0 P w K mg base (A.under (.builtin "type.__call__" ⟨.ref C::us,kw⟩)) outer s H:=⟨by first|exact e.frames|(simpa [Around.under,Code.envs,Code.isFrame,pushEnvs] using e.frames),e.mod,e.bs,e.bsz,e.funs,e.frf,e.hok,e.bare⟩
section
variable {X:Cx} {pins:Pn} {σ:St} {H:Hp} {s s':Shared}
def Inv.env0 (I:Inv X pins σ H s):Env0 X.prog X.w X.K X.mg X.base X.A X.stack s H:=
 ⟨I.ok.frames,I.ok.mod,I.bs,QW I.ok.bsz I.sz,I.stack,I.stkFree,I.hok,I.bare⟩
def Inv.after {Q:VK} {u:Value} (I:Inv X pins σ H s) (h:CE X.stack X.prog X.w H s Q u s'):EP X pins σ Q u s':=by
 obtain ⟨v,H',os,bare,un,hok,r,q⟩:=h;obtain ⟨m,g,d,t,y⟩:=s';obtain rfl:y=s.os:=os;exact ⟨v,H',I.call (h':=m) (g':=g) (d':=d) (t':=t) (ch:=[]) un hok bare (λb z=>absurd z (by simp)),r,q⟩
end
def uQ (sp:Sp) (g:List V) (E:XK) (t:TA):TE:=λσ H Q=>t σ H λvs H1=>sp (vs++g) H1 Q E
def Ij (C:Addr) (sp:Sp) (m:List V) (E:XK) (t:TA):TE:=λσ H Q=>t σ H λvs H1=>∀x g,H1 x=none->H1 g=none->g≠x->
 sp (.ref x::(vs++m)) (upd (upd H1 g (.own x)) x (.ins C g [])) (λv q=>v= .non/\Q (.ref x) q) E
def xi (K:Frg) (fd:FuncData) (ps:List Str) (ds:List Value):Prop:=
 ∀(s:Shared) (us:List Value),K.In s.heap->(us++ds).length=ps.length->BindsTo s fd ⟨us,[]⟩ (ps.zip (us++ds))
def xi.all {K:Frg} {fd:FuncData} {ps:List Str} (h:∀us:List Value,us.length=ps.length->bindArgs fd ⟨us,[]⟩=pure (ps.zip us)):xi K fd ps []:=λs us _ g=>by
 rw [jbc] at g⊢;exact .of_eq (h us g)
def VE (CX:CXT) (X:Cx) (E:XK):Prop:=∀(pins:Pn) (σ:St) (H:Hp) (s:Shared) (e:Value) (s':Shared),Inv X pins σ H s->CX X.stack H s E e s'->X.xe e s'
section
variable {X:Cx} {CX:CXT} {k:Nat} {f C:Addr} {fd:FuncData} {ps:List Str} {sp:Sp} {dvs:List V} {ds:List Value} {E:XK} {x m:Str} {p pos apos:Pos} {e o:Expr} {es:List Expr} {ta:TE} {t:TA}
def sQ {pins:Pn} {σ:St} {H:Hp} {s:Shared} {Q:VK} {us:List Value} {vs:List V} (F:FnOk X.prog X.w X.K X.mg X.base CX k f fd ps sp) (hr:Room k X.A) (D:xi X.K fd ps ds) (hd:xD dvs ds) (y:VE CX X E)
 (I:Inv X pins σ H s) (r:xD vs us) (h:sp (vs++dvs) H Q E):wpAny (model X.prog X.w) X.A (call (.ref f) us) (EP X pins σ Q) X.xe s:=by
 have q:xD (vs++dvs) (us++ds):=r.append hd;have z:(us++ds).length=ps.length:=by rw [<-q.length];exact F.len _ _ _ _ h
 refine wpAny_call (jcc (F.run X.A X.stack s H ⟨us,[]⟩ (us++ds) (vs++dvs) Q E hr I.env0 (D s us I.kIn z) q h) λr s' g=>?_)
 cases r with
 |error e=>exact y pins σ H s e s' I g
 |ok G=>
  cases G with
  |ret u=>exact I.after g
  |next=>exact False.elim g
  |brk=>exact False.elim g
  |cont=>exact False.elim g
def Jb (F:FnOk X.prog X.w X.K X.mg X.base CX k f fd ps sp) (hr:Room k X.A) (z:Gl X x) (hm:X.mg x=some (.ref f)) (y:PySem.W.keepIn X.K (.ref f)=true) (D:xi X.K fd ps ds) (hd:xD dvs ds) (u:VE CX X E)
 (ha:PA X (e::es) t) (J:(x==("__debug__":Str))=false:=by decide) (he:starEach (e::es) X.env=(false,eval e X.env)::starEach es X.env:=by rfl) (G:(backTo pos (starEach es X.env)).any (·.1)=false:=by rfl):
 PE X (.Call (.Name x p) (e::es) [] pos) (uQ sp dvs E t):=by
 intro pins s σ H Q I h;refine jax (fU I z hm ?_ J);refine jbT (h₀:=X.base) I.ok.mod.kin y (thn (ha pos pins s σ H _ I h) ?_) he G;rintro us s1 ⟨vs,H1,g,r,q⟩;refine ⟨g.kIn,?_⟩;exact sQ F hr D hd u g r q
structure Mk (K:Frg) (C f:Addr):Prop where
 makes:PySem.W.makesIn K C=true
 init:PySem.W.findIn K (.ref C) "__init__"=some (some (.ref f))
 fn:PySem.W.isFn K (.ref f)=true
 kp:PySem.W.keepIn K (.ref C)=true
def sO {pins:Pn} {σ:St} {H:Hp} {s:Shared} {Q:VK} {us:List Value} {vs:List V} (M:Mk X.K C f) (F:FnOk X.prog X.w X.K X.mg X.base CX k f fd ps sp) (hr:Room (k+1) X.A) (O:xi X.K fd ps ds) (hd:xD dvs ds)
 (L:VE CX X E) (I:Inv X pins σ H s) (r:xD vs us)
 (h:∀x q,H x=none->H q=none->q≠x->sp (.ref x::(vs++dvs)) (upd (upd H q (.own x)) x (.ins C q [])) (λv U=>v= .non/\Q (.ref x) U) E):
 wpAny (model X.prog X.w) X.A (call (.ref C) us) (EP X pins σ Q) X.xe s:=by
 have D:=h (s.heap.objs.size+1) s.heap.objs.size (I.hok.fresh (jav _)) (I.hok.fresh (Qu _)) (QN (Td _));have y:=Inv.made (C:=C) I;have z:xD (V.ref (s.heap.objs.size+1)::(vs++dvs)) (Value.ref (s.heap.objs.size+1)::(us++ds)):= .cons rfl (r.append hd)
 have N:(Value.ref (s.heap.objs.size+1)::us++ds).length=ps.length:=by
  have e:=z.length;rw [F.len _ _ _ _ D] at e;exact e.symm
 refine wpAny_call (FD (f:=f) I.kIn M.makes M.init (beq_iff_eq.mp M.fn) (jcc (F.run _ X.stack _ _ ⟨Value.ref (s.heap.objs.size+1)::us,[]⟩ (Value.ref (s.heap.objs.size+1)::(us++ds)) _ _ E (hr.make C us [])
  (y.env0.make C us []) (O _ (Value.ref (s.heap.objs.size+1)::us) y.kIn N) z D) λr s' g=>?_))
 cases r with
 |error e=>exact L pins σ _ _ e s' y g
 |ok P=>
  cases P with
  |ret u=>
   obtain ⟨v,H',T,G,ev,J⟩:=y.after g;subst ev;exact ⟨G,⟨V.ref (s.heap.objs.size+1),H',T,rfl,J⟩⟩
  |next=>exact False.elim g
  |brk=>exact False.elim g
  |cont=>exact False.elim g
def pe_make (M:Mk X.K C f) (F:FnOk X.prog X.w X.K X.mg X.base CX k f fd ps sp) (hr:Room (k+1) X.A) (y:Gl X x) (hm:X.mg x=some (.ref C)) (z:xi X.K fd ps ds) (hd:xD dvs ds) (u:VE CX X E)
 (ha:PA X (e::es) t) (G:(x==("__debug__":Str))=false:=by decide) (he:starEach (e::es) X.env=(false,eval e X.env)::starEach es X.env:=by rfl) (D:(backTo pos (starEach es X.env)).any (·.1)=false:=by rfl):
 PE X (.Call (.Name x p) (e::es) [] pos) (Ij C sp dvs E t):=by
 intro pins s σ H Q I h;refine jax (fU I y hm ?_ G);refine jbT (h₀:=X.base) I.ok.mod.kin M.kp (thn (ha pos pins s σ H _ I h) ?_) he D;rintro us s1 ⟨vs,H1,g,r,q⟩;refine ⟨g.kIn,?_⟩;exact sO M F hr z hd u g r q
def pe_make0 (M:Mk X.K C f) (F:FnOk X.prog X.w X.K X.mg X.base CX k f fd ps sp) (hr:Room (k+1) X.A) (q:Gl X x) (hm:X.mg x=some (.ref C)) (r:xi X.K fd ps ds) (hd:xD dvs ds) (g:VE CX X E)
 (u:(x==("__debug__":Str))=false:=by decide):PE X (.Call (.Name x p) [] [] pos) (Ij C sp dvs E tNil):=by
 intro pins s σ H Q I h;refine jax (fU I q hm ?_ u);exact PySem.W.callWith_K0 I.kIn M.kp (sO (us:=[]) M F hr r hd g I .nil h)
end
section
variable {X:Cx} {CX:CXT} {k:Nat} {f C:Addr} {fd:FuncData} {ps ks:List Str} {sp:Sp} {E:XK} {x m:Str} {p pos apos kpos:Pos} {e o:Expr} {es:List Expr} {kws:List Keyword} {te ta:TE} {t tk:TA} {nm:Option Str}
variable {g:List Value->List Value->List Value} {gV:List V->List V->List V}
end
structure FnScope (N P:List Str) (sc:Scope):Prop where
 kind:sc.kind= .function
 co:sc.isCoroutine=false
 gen:sc.isGenerator=false
 nd:N.Nodup
 pre:N.take P.length=P
 par:∀x∈P,sc.names.lookup x=some .local\/sc.names.lookup x=some .cell
 nofree:∀y∈sc.names,y.2≠ .free
theorem oV {kindOf:Str->Option NameKind} {x:Str}:∀{binds:List (Str×Value)} {m:Str->Option Value},(∀v,(x,v)∉binds)->bindL kindOf binds m x=m x
 |[],_,_=>rfl
 |(n,v)::r,m,h=>by
  unfold bindL;rw [oV λw hw=>h w (Qf _ hw)]
  split
  ·have:x≠n:=by rintro rfl;exact h v Qe
   simp [this]
  ·rfl
theorem oX {kindOf:Str->Option NameKind} {x:Str}:∀{binds:List (Str×Value)} {m:Str->Option Value},(∀v,(x,v)∉binds)->bindC kindOf binds m x=m x
 |[],_,_=>rfl
 |(n,v)::r,m,h=>by
  unfold bindC;rw [oX λw hw=>h w (Qf _ hw)]
  split
  ·rfl
  ·have:x≠n:=by rintro rfl;exact h v Qe
   simp [this]
theorem oW {kindOf:Str->Option NameKind} {x:Str} {v:Value}:∀{P:List Str} {vs:List Value} {i:Nat} {m:Str->Option Value},P.Nodup->P[i]? =some x->vs[i]? =some v->kindOf x=some .local->
 bindL kindOf (P.zip vs) m x=some v
 |[],_,_,_,_,h,_,_=>by simp at h
 |_::_,[],_,_,_,_,h,_=>by simp at h
 |p::P,w::vs,0,m,nd,h1,h2,hk=>by
  simp at h1 h2;subst h1;subst h2;show bindL kindOf ((p,w)::P.zip vs) m p=_;unfold bindL;rw [oV λv g=>(jae.mp nd).1 (jbB g).1,QH hk]
  simp
 |p::P,w::vs,i+1,m,nd,h1,h2,hk=>by
  show bindL kindOf ((p,w)::P.zip vs) m x=_;unfold bindL;exact oW (i:=i) (jae.mp nd).2 ‹h1› ‹h2› hk
theorem oY {kindOf:Str->Option NameKind} {x:Str} {v:Value}:∀{P:List Str} {vs:List Value} {i:Nat} {m:Str->Option Value},P.Nodup->P[i]? =some x->vs[i]? =some v->kindOf x≠some .local->
 bindC kindOf (P.zip vs) m x=some v
 |[],_,_,_,_,h,_,_=>by simp at h
 |_::_,[],_,_,_,_,h,_=>by simp at h
 |p::P,w::vs,0,m,nd,h1,h2,hk=>by
  simp at h1 h2;subst h1;subst h2;show bindC kindOf ((p,w)::P.zip vs) m p=_;unfold bindC;rw [oX λv g=>(jae.mp nd).1 (jbB g).1,QP hk]
  simp
 |p::P,w::vs,i+1,m,nd,h1,h2,hk=>by
  show bindC kindOf ((p,w)::P.zip vs) m x=_;unfold bindC;exact oY (i:=i) (jae.mp nd).2 ‹h1› ‹h2› hk
noncomputable def jX (N:List Str) (vs:List V):St:=vs.map some++List.replicate (N.length - vs.length) none
noncomputable def HI (CX:CXT) (P:Program) (w:World) (K:Frg) (mg:Str->Option Value) (base:Heap) (N:List Str) (qual:Str) (scope:Scope) (f:Addr) (cd:Value) (A:Around) (outer:List Env) (s:Shared) (H:Hp) (E:XK):Cx where
 prog:=P
 w:=w
 K:=K
 mg:=mg
 base:=base
 A:=A.deeper (envOfC qual scope s.heap.objs.size f cd)
 N:=N
 s₀:=s
 H₀:=H
 env:=envOfC qual scope s.heap.objs.size f cd
 outer:=outer
 stack:=envOfC qual scope s.heap.objs.size f cd::outer
 ex:=[]
 calm:=true
 fn:=λ_=>true
 pn:=[]
 xe:=λe s'=>wpAny (model P w) (A.deeper (envOfC qual scope s.heap.objs.size f cd)) (leaving (envOfC qual scope s.heap.objs.size f cd) e) (λ_ g=>CX outer H s E e g) (λm g=>CX outer H s E m g) s'
def uf {sc:Scope} {n:Nat} {x:Str} (h:sc.names.lookup x=some .cell):∃c,(cellsFrom n sc.names []).lookup x=some c:=by
 have q:=PySem.W.cellsFrom_some sc.names n [] (.inl h);exact jaT.mp q
def CJ {CX:CXT} {P:Program} {w:World} {K:Frg} {mg:Str->Option Value} {base:Heap} {N ps:List Str} {qual:Str} {scope:Scope} {f:Addr} {cd:Value} {A:Around} {outer:List Env} {s s1:Shared} {H:Hp} {E:XK} {us:List Value} {vs:List V}
 (S:FnScope N ps scope) (hd:A.handled=none) (e0:Env0 P w K mg base A outer s H) (M:vs.length=ps.length) (r:xD vs us)
 (x:InCallC s s.heap.objs.size (bindL (envOfC qual scope s.heap.objs.size f cd).kindOf (ps.zip us) λ_=>none) (cellsFrom (s.heap.objs.size+1) scope.names []) (bindC (envOfC qual scope s.heap.objs.size f cd).kindOf (ps.zip us) λ_=>none) s1):
 Inv (HI CX P w K mg base N qual scope f cd A outer s H E) [] (jX N vs) H s1:=by
 have T:ps.length<=N.length:=by have:=congrArg List.length S.pre;rw [TR] at this;omega
 obtain ⟨G,tk,rfl,J⟩:=x.done;have m:∀b:Addr,b∉(HI CX P w K mg base N qual scope f cd A outer s H E).ex:=λb z=>absurd (show b∈([]:List Addr) from z) (by simp)
 refine ⟨⟨e0.mod,S.kind,rfl,rfl,Qu _,λy z c G g=>?_,λy t=>?_,λy c _ h=>?_,λ_=>hd,Around.frames_deeper e0.frames, .inr ⟨rfl,rfl⟩,λb z=>absurd z (m b),e0.bs,e0.bsz,λb _ _=>m b,λb z=>absurd z (m b),e0.funs,e0.frf⟩,
  rfl,e0.bare,Un.kept J,⟨_,x.toInCall.ns,λi y v G g O=>?_⟩,λy c h=>⟨_,x.cell y c h⟩,e0.hok.fresh (Qu _),λy c h=>?_,λp hp=>absurd (show p∈([]:List (Addr×Obj)) from hp) (by simp),e0.hok.kept J,?_⟩
 ·exact name_of_addr x.apart (jaM G) (jaM g)
 ·have t:scope.names.lookup y=some .cell\/scope.names.lookup y=some .free:=t
  rcases t with t|t
  ·exact uf t
  ·exact absurd rfl (S.nofree _ (jaM t))
 ·exact jbM (x.above y c (jaM h))
 ·have D:i<vs.length:=by
   unfold jX at g
   by_cases D:i<vs.length
   ·exact D
   ·rw [TQ ‹D›] at g;rw [QX] at g
    split at g<;>cases g
  have ha:vs[i]? =some v:=by
   unfold jX at g;rw [jaA ‹D›,Qh] at g
   cases e:vs[i]? with
   |none=>rw [e] at g;cases g
   |some a=>rw [e] at g;cases g;rfl
  obtain ⟨u,I,L⟩:=r.get ha
  have hp:ps[i]? =some y:=by
   rw [<-S.pre,List.getElem?_take_of_lt ⋯];exact G
  have C:ps.Nodup:=by rw [<-S.pre];exact S.nd.sublist (List.take_sublist _ _)
  refine ⟨u,L,?_⟩
  rcases S.par y (Qc hp) with k|k
  ·exact .inl ⟨k,oW C hp I k⟩
  ·obtain ⟨c,e⟩:=uf (n:=s.heap.objs.size+1) k;refine .inr ⟨.inl k,c,e,?_⟩;have q:=x.cell y c e;rw [oY C hp I (by show scope.names.lookup y≠_;rw [k];decide)] at q;exact q
 ·exact e0.hok.fresh (jbM (x.above y c (jaM h)))
 ·unfold jX;show _=N.length;rw [QB,Qa,QE];omega
def fn_of {CX:CXT} {P:Program} {w:World} {K:Frg} {mg:Str->Option Value} {base:Heap} {k:Nat} {f:Addr} {name qual:Str} {params:Arguments} {body:List Stmt} {scope:Scope} {D kV doc pm g ct O:Value} {an M:Option Addr}
 {C:Array (Option Value)} {N ps:List Str} {sp:Sp} (T:K.lookup f=some ⟨O,M, .func (PySem.W.fnOf name qual params body scope D kV doc pm an g ct),C⟩) (LG:PySem.W.codeIn K g qual=true) (S:FnScope N ps scope)
 (len:∀vs H Q E,sp vs H Q E->vs.length=ps.length)
 (Mx:∀(A:Around) (outer:List Env) (s:Shared) (H:Hp) (vs:List V) (Q:VK) (E:XK),Room k (A.deeper (envOfC qual scope s.heap.objs.size f g))->sp vs H Q E->
  ∃t,PSs (HI CX P w K mg base N qual scope f g A outer s H E) body t/\t {nx:=λ_ H'=>Q .non H',rt:=Q} (jX N vs) H):
 FnOk P w K mg base CX (k+1) f (PySem.W.fnOf name qual params body scope D kV doc pm an g ct) ps sp:=by
 refine ⟨len,λA outer s H args us vs Q E hr e0 Z r G=>?_⟩;have Y:=len _ _ _ _ G;have L:K.In s.heap:=e0.mod.kin.keeps λb o e=>(e0.bs b o e).1;have lim:s.heap.NoLimit:=e0.mod.nolimit.keeps λb o e=>(e0.bs b o e).1
 have Ph:∀y∈ps.zip us,scope.names.lookup y.1=some .local\/(scope.names.lookup y.1=some .cell/\((cellsFrom (s.heap.objs.size+1) scope.names []).lookup y.1).isSome=true):=λ⟨n,v⟩ U=>by
  rcases S.par n (jbB U).1 with q|q
  ·exact .inl q
  ·exact .inr ⟨q,PySem.W.cellsFrom_some _ _ _ (.inl q)⟩
 refine codeAny_call_function hr.depth (L _ _ T) rfl S.co S.gen rfl (PySem.W.codeRec_of L LG) (Z _ _ _ _ ?_);refine wpAny_newFunctionEnv_cells S.kind Ph λenv he s1 x=>?_;subst he;refine ⟨lim.keeps x.toInCall.keep,codeAny_func ?_⟩;obtain ⟨t,ht,X⟩:=Mx A outer s H vs Q E (hr.deeper _) G;have I:Inv (HI CX P w K mg base N qual scope f g A outer s H E) [] (jX N vs) H s1:=CJ S hr.hd e0 Y r x;refine wpAny_mono (ht [] s1 (jX N vs) H _ I X) (λfl s' m=>?_) λe s' m=>m
 have fin:∀{σ':St} {H':Hp} {v:V} {u:Value},Inv (HI CX P w K mg base N qual scope f g A outer s H E) [] σ' H' s'->ZQ v u->Q v H'->CE outer P w H s Q u s':=
  λ{σ' H' v u} J z q=>⟨v,H',J.os,J.bare,J.base,J.hok,z,q⟩
 cases fl with
 |ret u=>
  obtain ⟨v,σ',H',J,z,q⟩:=m;exact fin J z q
 |next=>
  obtain ⟨σ',H',J,q⟩:=m;exact fin (v:=V.non) (u:=Value.none) J rfl q
 |brk=>
  obtain ⟨_,_,_,q⟩:=m;exact False.elim q
 |cont=>
  obtain ⟨_,_,_,q⟩:=m;exact False.elim q
section
variable {X:Cx} {x:Str} {p pos:Pos} {e:Expr} {es:List Expr} {t:TA} {id T:String} {r:List V->Hp->VK->Prop}
def tCB (r:List V->Hp->VK->Prop) (t:TA):TE:=λσ H Q=>t σ H λvs H1=>r vs H1 Q
def dh (w:Ve X (.builtin id) r) (u:Gl X x) (hm:X.mg x=none) (q:bootBuiltins x=some (.builtin id)) (ha:PA X (e::es) t) (hn:x≠"__name__":=by decide) (z:(x==("__debug__":Str))=false:=by decide)
 (he:starEach (e::es) X.env=(false,eval e X.env)::starEach es X.env:=by rfl) (y:(backTo pos (starEach es X.env)).any (·.1)=false:=by rfl):PE X (.Call (.Name x p) (e::es) [] pos) (tCB r t):=by
 intro pins s σ H Q I h;refine jax (WR I u hm q ?_ hn z);refine PyProof.Rows.callWith_builtin1 (thn (ha pos pins s σ H _ I h) ?_) he y;rintro us s1 ⟨vs,H1,A,g,m⟩;exact w pins s1 σ H1 vs us Q A g m
def pe_callTy (w:Ve X (.type T) r) (u:Gl X x) (hm:X.mg x=none) (q:bootBuiltins x=some (.type T)) (ha:PA X (e::es) t) (hn:x≠"__name__":=by decide) (z:(x==("__debug__":Str))=false:=by decide)
 (he:starEach (e::es) X.env=(false,eval e X.env)::starEach es X.env:=by rfl) (y:(backTo pos (starEach es X.env)).any (·.1)=false:=by rfl):PE X (.Call (.Name x p) (e::es) [] pos) (tCB r t):=by
 intro pins s σ H Q I h;refine jax (WR I u hm q ?_ hn z);refine TF (thn (ha pos pins s σ H _ I h) ?_) he y;rintro us s1 ⟨vs,H1,A,g,m⟩;exact w pins s1 σ H1 vs us Q A g m
end
end L2
namespace HT
open PySem PyProof.Rows
section
open PySem.SeqAt
open PySem.AutoSeq1 (wpAny_loadPart')
open PySem.MeetsSeq PySem.MeetsSeq2 PySem.MeetsSeq3
end
section
variable {prog:Program} {w:World} {A:Around} {E:Value->Shared->Prop} {s:Shared}
def sIx (n d:Nat):Option Int->Nat
 |none=>d
 |some v=>if v<0 then (v+(n:Int)).toNat else min v.toNat n
def sIx_none (n d:Nat):sIx n d none=d:=rfl
def sIx_nat (n d k:Nat):sIx n d (some (k:Int))=min k n:=by
 show (if (k:Int)<0 then ((k:Int)+(n:Int)).toNat else min (k:Int).toNat n)=min k n;rw [QP ⋯,Tj]
end
end HT
namespace L2
open PySem PySem.Spec PyProof.Rows
abbrev TO:=St->Hp->(Option Int->Hp->Prop)->Prop
def PO (X:Cx) (e:Option Expr) (t:TO):Prop:=
 ∀(pins:Pn) (s:Shared) (σ:St) (H:Hp) (Q:Option Int->Hp->Prop),Inv X pins σ H s->t σ H Q->
  wpAny (model X.prog X.w) X.A (evalPart e X.env) (λu s'=>∃o H',Inv X pins σ H' s'/\IsPart u o/\Q o H') X.xe s
def Ap:TO:=λ_ H Q=>Q none H
def tPart (t:TE):TO:=λσ H Q=>t σ H λx H1=>∃i,x= .int i/\Q (some i) H1
def Xx {ns:List Int}:∀{us:List Value},xD (ns.map V.int) us->IntsAre us ns:=by
 induction ns with
 |nil=>intro us r;rw [jaJ] at r;cases r;exact .nil
 |cons n ns q=>
  intro us r;rw [Ql] at r
  cases r with
  |cons m g=>
   obtain ⟨t,e⟩:=m;subst e;exact .cons n t (q g)
section
variable {X:Cx} {e:Expr} {te:TE} {lo hi:Option Expr} {tl th:TO} {pos p2:Pos}
def po_none:PO X none Ap:=by
 intro pins s σ H Q I h;rw [evalPart_none];exact Qq ⟨none,H,I, .none,h⟩
def po_some (h:PE X e te):PO X (some e) (tPart te):=by
 intro pins s σ H Q I hw;rw [evalPart_some];refine thn (h pins s σ H _ I hw) λu s1 r=>?_;obtain ⟨x,H1,w,g,m⟩:=r;obtain ⟨i,rfl,q⟩:=m;obtain ⟨t,rfl⟩:=g;exact ⟨some i,H1,w, .int i t,q⟩
def SlR (X:Cx) (r:V->Option Int->Option Int->Hp->VK->Prop):Prop:=
 ∀(pins:Pn) (s:Shared) (σ:St) (H:Hp) (x:V) (v m g:Value) (lo hi:Option Int) (q:Addr) (Q:VK),Inv X pins σ H s->ZQ x v->s.heap.IsSliceOf q m g .none->IsPart m lo->IsPart g hi->r x lo hi H Q->
  ∃T id,typeLookup (.type T) "__getitem__"=pure (some (.builtin id))/\s.TypeIs v T/\wpAny (model X.prog X.w) X.A (getItem v (.ref q)) (EP X pins σ Q) X.xe s
def tSl (r:V->Option Int->Option Int->Hp->VK->Prop) (te:TE) (tl th:TO):TE:=λσ H Q=>te σ H λx H1=>tl σ H1 λl m=>th σ m λu g=>r x l u g Q
def pe_slice {r:V->Option Int->Option Int->Hp->VK->Prop} (hr:SlR X r) (he:PE X e te) (K:PO X lo tl) (J:PO X hi th):PE X (.Subscript e (.Slice lo hi none p2) pos) (tSl r te tl th):=by
 intro pins s σ H Q I h;refine Subscript_ (thn (he pins s σ H _ I h) λv s1 t=>?_);obtain ⟨x,H1,U,z,G⟩:=t;refine wpAny_Slice (thn (K pins s1 σ H1 _ U G) λm s2 ⟨l,Y,P,pl,D⟩=>thn (J pins s2 σ Y _ P D) λg s3 t=>?_);obtain ⟨u,y,O,pu,C⟩:=t;rw [evalPart_none];refine Qq ?_;have N:Inv X pins σ y {s3 with heap:=s3.heap.push {cls:= .type "slice",data:= .fields #[m,g, .none]}}:=O.kept (t':=s3.toks) λb Z q=>Qi _ q;obtain ⟨T,id,M,ht,L⟩:=hr pins {s3 with heap:=s3.heap.push {cls:= .type "slice",data:= .fields #[m,g, .none]}} σ y x v m g l u s3.heap.objs.size Q N z (Heap.IsSliceOf.new ..) pl pu C;show wpAny (model X.prog X.w) X.A (subscriptTail e (.Slice lo hi none p2) v (.ref s3.heap.objs.size)) (EP X pins σ Q) X.xe {s3 with heap:=s3.heap.push {cls:= .type "slice",data:= .fields #[m,g, .none]}};exact tail_any (ops:=[.ref s3.heap.objs.size,v]) ht M L (by with_unfolding_all rfl)
noncomputable def HJ (xs:List V) (lo hi:Option Int):List V:=(xs.drop (HT.sIx xs.length 0 lo)).take (HT.sIx xs.length xs.length hi - HT.sIx xs.length 0 lo)
def rD (xs:List V) (lo hi:Option Int):(HJ xs lo hi).length<=xs.length:=by
 unfold HJ;rw [TR,Tz];omega
end
noncomputable def ixN (n:Nat) (i:Int):Option Nat:=if 0<=i then (if i<n then some i.toNat else none) else if -(n:Int)<=i then some (i+n).toNat else none
noncomputable def atI {α:Type} (xs:List α) (i:Int):Option α:=(ixN xs.length i).bind λj=>xs[j]?
def CG {n:Nat} {i:Int} {j:Nat} (h:ixN n i=some j):seqIndex? i n=some j/\j<n/\ -(n:Int)<=i/\i<n:=by
 unfold ixN at h
 by_cases h0:0<=i
 ·rw [QH h0] at h
  by_cases g:i<n
  ·rw [QH g] at h;have e:i.toNat=j:=QK h;exact ⟨by rw [seqIndex_of h0 g,e],⋯,⋯,g⟩
  ·rw [QP g] at h;cases h
 ·rw [QP h0] at h
  by_cases g: -(n:Int)<=i
  ·rw [QH g] at h;have e:(i+n).toNat=j:=QK h;exact ⟨by rw [seqIndex_neg ⋯ g,e],⋯,g,⋯⟩
  ·rw [QP g] at h;cases h
def rR {α:Type} {xs:List α} {i:Int} {v:α} (h:atI xs i=some v):∃j,seqIndex? i xs.length=some j/\xs[j]? =some v/\j<xs.length/\ -(xs.length:Int)<=i/\i<xs.length:=by
 unfold atI at h
 cases e:ixN xs.length i with
 |none=>rw [e] at h;cases h
 |some j=>
  rw [e] at h;obtain ⟨r,q,m,g⟩:=CG e;exact ⟨j,r,h,q,m,g⟩
def yl {α:Type} {xs:List α} {j:Nat} {v:α} (h:xs[j]? =some v):atI xs (j:Int)=some v:=by
 have g:j<xs.length:=(Qd.mp h).1
 have e:ixN xs.length (j:Int)=some j:=by
  unfold ixN;rw [QH ⋯,QH ⋯];simp
 unfold atI;rw [e];exact h
def uk {α:Type} (xs:List α) (v:α):atI (xs++[v]) (-1)=some v:=by
 have g:(xs++[v]).length=xs.length+1:=by simp
 have e:ixN (xs++[v]).length (-1)=some xs.length:=by
  unfold ixN;rw [g,QP nofun,QH ⋯]
  congr 1
  omega
 unfold atI;rw [e];show (xs++[v])[xs.length]? =some v
 simp
def Ka (b:Expr):Prop:=∀o i,subscripted b false o i=operate [o,i] (getItem o i)
def IxR (X:Cx) (r:R2):Prop:=
 ∀(value slice:Expr) (pins:Pn) (s:Shared) (σ:St) (H:Hp) (x y:V) (v u:Value) (Q:VK),Inv X pins σ H s->ZQ x v->ZQ y u->r x y H Q->
  subscripted slice false v u=operate [v,u] (getItem v u)->wpAny (model X.prog X.w) X.A (subscriptTail value slice v u) (EP X pins σ Q) X.xe s
def MtR (X:Cx) (id:String) (r:V->List V->Hp->VK->Prop):Prop:=
 ∀(pins:Pn) (s:Shared) (σ:St) (H:Hp) (x:V) (xs:List V) (v:Value) (us:List Value) (Q:VK),Inv X pins σ H s->ZQ x v->xD xs us->r x xs H Q->
  wpAny (model X.prog X.w) X.A (call (.builtin id) (v::us)) (EP X pins σ Q) X.xe s
section
variable {X:Cx} {a b:Expr} {ta tb:TE} {pos:Pos}
def IxR.or {r g:R2} (h:IxR X r) (h':IxR X g):IxR X (λx y H Q=>r x y H Q\/g x y H Q):=by
 intro value slice pins s σ H x y v u Q I rx ry q hs
 rcases q with q|q
 ·exact h value slice pins s σ H x y v u Q I rx ry q hs
 ·exact h' value slice pins s σ H x y v u Q I rx ry q hs
def pe_ix {r:R2} (hr:IxR X r) (ha:PE X a ta) (w:PE X b tb) (t:Ka b):PE X (.Subscript a b pos) (tOp r ta tb):=by
 intro pins s σ H Q I h;exact Subscript_ (binT ha w I h λv u s2 x y A z m g q=>hr a b pins s2 σ A x y v u Q z m g q (t _ _))
def rIxL (K:Frg):R2:=λx y H Q=>∃p xs i v,x= .ref p/\y= .int i/\SqL K H p xs/\atI xs i=some v/\Q v H
def rIxT (K:Frg):R2:=λx y H Q=>∃p xs i v,x= .ref p/\y= .int i/\SqT K H p xs/\atI xs i=some v/\Q v H
def rIxS:R2:=λx y H Q=>∃z i c,x= .str z/\y= .int i/\z.length<=sizeLine/\atI z.cps.toList i=some c/\Q (.str ⟨#[c]⟩) H
def JA:IxR X (rIxL X.K):=by
 intro value slice pins s σ H x y v u Q I rx ry h hs;obtain ⟨p,xs,i,z,rfl,rfl,C,he,q⟩:=h;cases rx;obtain ⟨t,rfl⟩:=ry;obtain ⟨its,r,pl,hz⟩:=I.list C;obtain ⟨j,g,L,N,J,G⟩:=rR he;obtain ⟨w,A,M⟩:=r.get L;have D:=r.length;have hn:=oA;have fin:EP X pins σ Q w s:=⟨z,H,I,M,q⟩
 by_cases h0:0<=i
 ·have m:i.toNat=j:=by
   rw [seqIndex_of h0 G] at g;exact QK g
  exact item_listR pl.isList h0 ⋯ (by rw [m];simpa using A) fin hs
 ·have m:(i+(its.toArray.size:Int)).toNat=j:=by
   rw [seqIndex_neg ⋯ J] at g;rw [QJ,<-D];exact QK g
  exact subscriptTail_builtinR (x:=w) pl.isList.typeIs slot_list_getitem.lookup
   (wpAny_getItem_list_neg (Q:=λr s'=>r=w/\EP X pins σ Q r s') pl.isList ⋯ (by rw [QJ]<;>omega) ⋯ (by rw [m];simpa using A) ⟨rfl,fin⟩) hs
def ix_tup:IxR X (rIxT X.K):=by
 intro value slice pins s σ H x y v u Q I rx ry h hs;obtain ⟨p,xs,i,z,rfl,rfl,g,he,q⟩:=h;cases rx;obtain ⟨t,rfl⟩:=ry;obtain ⟨its,r,pl,hz⟩:=I.tuple g;obtain ⟨j,C,A,M,L,J⟩:=rR he;obtain ⟨w,D,G⟩:=r.get A;have m:=r.length;have hn:=oA;have fin:EP X pins σ Q w s:=⟨z,H,I,G,q⟩
 exact subscriptTail_builtinR (x:=w) pl.typeIs slot_tuple_getitem.lookup
  (getItem_tuple (j:=j) (Q:=λr s'=>r=w/\EP X pins σ Q r s') pl ⋯ ⋯ (by rw [QJ,<-m];exact C) ‹D› ⟨rfl,fin⟩) hs
def ix_str:IxR X rIxS:=by
 intro value slice pins s σ H x y v u Q I rx ry h hs;obtain ⟨z,i,c,rfl,rfl,hz,he,q⟩:=h;obtain ⟨t,rfl⟩:=rx;obtain ⟨t',rfl⟩:=ry;obtain ⟨j,g,A,G,w,r⟩:=rR he;have m:z.cps.toList.length=z.length:=by simp [Str.length]
 rw [m] at g w r;have hn:=oA
 exact tail_any (typeIs_str s z t) slot_str_getitem.lookup (getItem_str (c:=c) (by
  have D:decide (i< -(2 ^ 63:Int))=false:=Tc ⋯;have C:decide (i≥2 ^ 63)=false:=Tc ⋯
  rw [D,C,Bool.or_false]) (by rw [g];simpa using A) ⟨.str ⟨#[c]⟩,H,I.tok _,⟨_,rfl⟩,q⟩) hs
def rIx (K:Frg):R2:=λx y H Q=>rIxL K x y H Q\/rIxT K x y H Q\/rIxS x y H Q
def ix_seq:IxR X (rIx X.K):=JA.or (ix_tup.or ix_str)
def vP (its:List Value) (n j:Nat) (u:Value):Obj.mapSeq (·.setIfInBounds j u) {cls:= .type "list",data:= .seq its.toArray n}={cls:= .type "list",data:= .seq (its.set j u).toArray n}:=by
 simp [Obj.mapSeq]
def Inv.lst {pins:Pn} {σ:St} {H:Hp} {s:Shared} {p:Addr} {xs:List V} (I:Inv X pins σ H s) (h:H p=some (.lst xs)):
 ∃(its:List Value) (n:Nat),xD xs its/\s.heap.get? p=some {cls:= .type "list",data:= .seq its.toArray n}/\xs.length<=sizeLine:=by
 obtain ⟨z,its,n,r,e⟩:=I.hok p _ h;exact ⟨its,n,r,e,z⟩
def Inv.lstUpd {pins:Pn} {σ:St} {H:Hp} {s:Shared} {p:Addr} {xs ys:List V} {its its':List Value} {n g:Nat} {f:Obj->Obj} (I:Inv X pins σ H s) (h:H p=some (.lst xs))
 (m:s.heap.get? p=some {cls:= .type "list",data:= .seq its.toArray n}) (hf:f {cls:= .type "list",data:= .seq its.toArray n}={cls:= .type "list",data:= .seq its'.toArray g}) (r:xD ys its') (hz:ys.length<=sizeLine) (t:Nat):
 Inv X pins σ (upd H p (.lst ys)) {s with heap:=s.heap.update p f,toks:=t}:=by
 have e:(s.heap.update p f).get? p=some {cls:= .type "list",data:= .seq its'.toArray g}:=by
  rw [TV f m (by rw [hf]<;>rfl),hf]
 refine I.write (x:=p) (e:=p) (by rw [h];trivial) (.inl rfl) (λb u w q=>(Tu _ _ (Ne.symm w)).trans q) ⟨_,e⟩ ?_;exact ⟨hz,its',g,r,e⟩
def rSetL:V->V->V->Hp->(Hp->Prop)->Prop:=λo i v H Q=>∃p xs k j,o= .ref p/\i= .int k/\H p=some (.lst xs)/\ixN xs.length k=some j/\Q (upd H p (.lst (xs.set j v)))
def set_list:PSet X rSetL:=by
 intro pins s σ H o i v ov iv u Q I ro ri rv h;obtain ⟨p,xs,k,j,rfl,rfl,hp,D,q⟩:=h;cases ro;obtain ⟨t,rfl⟩:=ri;obtain ⟨its,n,r,m,hz⟩:=I.lst hp;obtain ⟨g,G,A,z⟩:=CG D;have w:=r.length;have hn:=oA
 have C:Inv X pins σ (upd H p (.lst (xs.set j v))) {s with heap:=s.heap.update p (Obj.mapSeq (·.setIfInBounds j u))}:=
  I.lstUpd hp m (vP its n j u) (r.set rv j) (by rw [jbU];exact hz) s.toks
 by_cases h0:0<=k
 ·have y:k.toNat=j:=by
   rw [seqIndex_of h0 z] at g;exact QK g
  exact PySem.W.ki_setAt m h0 ⋯ (by rw [QJ,<-w];exact z) (by rw [y];exact ⟨_,C,q⟩)
 ·have y:(k+(its.toArray.size:Int)).toNat=j:=by
   rw [seqIndex_neg ⋯ A] at g;rw [QJ,<-w];exact QK g
  exact PySem.W.ki_setBack m ⋯ (by rw [QJ,<-w];exact A) ⋯ (by rw [y];exact ⟨_,C,q⟩)
def nq (lo g:Option Int) (n:Nat):(sliceBounds lo g none n).1=((HT.sIx n 0 lo:Nat):Int)/\(sliceBounds lo g none n).2.1=((HT.sIx n n g:Nat):Int)/\(sliceBounds lo g none n).2.2=1:=by
 refine ⟨?_,?_,rfl⟩
 ·cases lo with
  |none=>simp [sliceBounds,HT.sIx]
  |some i=>
   simp only [sliceBounds,HT.sIx,Option.getD_none,show (1:Int)>0 by decide,if_true]
   by_cases h:i<0
   ·simp only [h,if_true]<;>omega
   ·simp only [h,if_false]<;>omega
 ·cases g with
  |none=>simp [sliceBounds,HT.sIx]
  |some i=>
   simp only [sliceBounds,HT.sIx,Option.getD_none,show (1:Int)>0 by decide,if_true]
   by_cases h:i<0
   ·simp only [h,if_true]<;>omega
   ·simp only [h,if_false]<;>omega
def kq (its:List Value) (lo g:Option Int):slicePick its.toArray lo g none=((its.drop (HT.sIx its.length 0 lo)).take (HT.sIx its.length its.length g - HT.sIx its.length 0 lo)).toArray:=by
 obtain ⟨r,q,m⟩:=nq lo g its.toArray.size;unfold slicePick;rw [r,q,m];simp only [sliceRange_one,pick_run,QJ]<;>rfl
def rSlL (K:Frg):V->Option Int->Option Int->Hp->VK->Prop:=λx lo g H Q=>∃a xs,x= .ref a/\SqL K H a xs/\∀p,H p=none->Q (.ref p) (upd H p (.lst (HJ xs lo g)))
def sl_list:SlR X (rSlL X.K):=by
 intro pins s σ H x v vl vu lo hi sl Q I rx hs pl pu h;obtain ⟨a,xs,rfl,g,q⟩:=h;cases rx;obtain ⟨its,r,ht,hz⟩:=I.list g;have hlen:=r.length;refine ⟨"list",_,slot_list_getitem.lookup,ht.isList.typeIs,?_⟩;refine wpAny_getItem_list_slice ht.isList hs pl pu .none (by simp) ?_ (by rw [QJ]<;>omega);rw [kq,<-hlen];refine ⟨.ref s.heap.objs.size,_,I.laid (t':=s.toks) (o:= .lst (HJ xs lo hi)) (λb m q=>Qi _ q) (Qu _) ?_,rfl,q _ (I.hok.fresh (Qu _))⟩;exact ⟨QW (rD xs lo hi) hz,_,0,(r.drop (HT.sIx xs.length 0 lo)).take (HT.sIx xs.length xs.length hi - HT.sIx xs.length 0 lo),Qw _ rfl⟩
def oJ:V->Bool
 | .non=>true
 | .bl _=>true
 | .int _=>true
 | .str _=>true
 |_=>false
noncomputable def eqV:V->V->Bool
 | .non, .non=>true
 | .bl a, .bl b=>a==b
 | .bl a, .int b=>(if a then 1 else 0)==b
 | .int a, .bl b=>a==(if b then 1 else 0)
 | .int a, .int b=>a==b
 | .str a, .str b=>a==b
 |_,_=>false
def eqAt_V {A:Around} {s:Shared} {y x:V} {u v:Value} (m:ZQ y u) (g:ZQ x v) (r:oJ y=true) (q:oJ x=true):SeqAt.EqAt A s u v (eqV y x):=by
 cases y with
 |non=>
  cases m
  cases x with
  |non=>cases g;exact SeqAt.EqAt.same _
  |bl b=>cases g;exact SeqAt.EqAt.none_bool b
  |int b=>obtain ⟨t,rfl⟩:=g;exact SeqAt.EqAt.none_int b t
  |str b=>obtain ⟨t,rfl⟩:=g;exact SeqAt.EqAt.none_str b t
  |_=>exact absurd (show false=true from q) QA
 |bl a=>
  cases m
  cases x with
  |non=>cases g;exact SeqAt.EqAt.bool_none a
  |bl b=>cases g;exact SeqAt.EqAt.bool_bool a b
  |int b=>obtain ⟨t,rfl⟩:=g;exact SeqAt.EqAt.bool_int a b t
  |str b=>obtain ⟨t,rfl⟩:=g;exact SeqAt.EqAt.bool_str a b t
  |_=>exact absurd (show false=true from q) QA
 |int a=>
  obtain ⟨t',rfl⟩:=m
  cases x with
  |non=>cases g;exact SeqAt.EqAt.int_none a t'
  |bl b=>cases g;exact SeqAt.EqAt.int_bool a t' b
  |int b=>obtain ⟨t,rfl⟩:=g;exact SeqAt.EqAt.int_int a t' b t
  |str b=>obtain ⟨t,rfl⟩:=g;exact SeqAt.EqAt.int_str a t' b t
  |_=>exact absurd (show false=true from q) QA
 |str a=>
  obtain ⟨t',rfl⟩:=m
  cases x with
  |non=>cases g;exact SeqAt.EqAt.str_none a t'
  |bl b=>cases g;exact SeqAt.EqAt.str_bool a t' b
  |int b=>obtain ⟨t,rfl⟩:=g;exact SeqAt.EqAt.str_int a t' b t
  |str b=>obtain ⟨t,rfl⟩:=g;exact SeqAt.EqAt.str_str a t' b t
  |_=>exact absurd (show false=true from q) QA
 |_=>exact absurd (show false=true from r) QA
noncomputable def eqU (x:V) (u:Value):Bool:=match u with
 | .none=>eqV .non x
 | .bool b=>eqV (.bl b) x
 | .int i _=>eqV (.int i) x
 | .str z _=>eqV (.str z) x
 |_=>false
def HF {x y:V} {u:Value} (r:ZQ y u) (f:oJ y=true):eqU x u=eqV y x:=by
 cases y with
 |non=>cases r;rfl
 |bl b=>cases r;rfl
 |int i=>obtain ⟨t,rfl⟩:=r;rfl
 |str z=>obtain ⟨t,rfl⟩:=r;rfl
 |_=>exact absurd (show false=true from f) QA
theorem rS {x:V}:∀{xs:List V} {us:List Value},xD xs us->xs.all oJ=true->us.any (eqU x)=xs.any λy=>eqV y x
 |_,_, .nil,_=>rfl
 |y::xs,u::us, .cons r t,f=>by
  rw [List.all_cons,jas] at f;rw [List.any_cons,List.any_cons,HF r f.1,rS t f.2]
theorem lE {A:Around} {s:Shared} {x:V} {v:Value} (m:ZQ x v) (q:oJ x=true):∀{xs:List V} {us:List Value},xD xs us->xs.all oJ=true->∀u∈us,SeqAt.EqAt A s u v (eqU x u)
 |_,_, .nil,_=>λu g=>by cases g
 |y::xs,u::us, .cons r t,f=>λw g=>by
  rw [List.all_cons,jas] at f
  rcases Qn.mp g with rfl|g
  ·rw [HF r f.1];exact eqAt_V r m f.1 q
  ·exact lE m q t f.2 w g
noncomputable def inV (x:V) (xs:List V):Bool:=xs.any λy=>eqV y x
def rIn (K:Frg) (neg:Bool):R2:=λx y H Q=>∃p xs,y= .ref p/\(SqL K H p xs\/SqT K H p xs)/\oJ x=true/\xs.all oJ=true/\Q (.bl (if neg then !inV x xs else inV x xs)) H
def Hu:OpR X (compareOp .NotIn) (rIn X.K true):=by
 intro pins s σ H x y v u Q I rx ry h;obtain ⟨p,xs,rfl,g,m,fs,q⟩:=h;cases ry
 rcases g with g|g
 ·obtain ⟨its,r,pl,hz⟩:=I.list g;refine SeqAt.notIn_listAt (eqU x) pl.isList (λw hw=>lE rx m r fs w ‹hw›) ⟨.bl _,H,I,rfl,?_⟩;rw [show its.toArray.any (eqU x)=its.any (eqU x) by simp,rS r fs];exact q
 ·obtain ⟨its,r,pl,hz⟩:=I.tuple g;refine SeqAt.notIn_tupleAt (eqU x) pl (λw hw=>lE rx m r fs w ‹hw›) ⟨.bl _,H,I,rfl,?_⟩;rw [show its.toArray.any (eqU x)=its.any (eqU x) by simp,rS r fs];exact q
def oQ:Ve X (.builtin "len") (λxs H Q=>∃p ys,xs=[.ref p]/\(SqL X.K H p ys\/SqT X.K H p ys)/\Q (.int ys.length) H):=by
 intro pins s σ H xs us Q I r h;obtain ⟨p,ys,rfl,g,q⟩:=h;obtain ⟨u,rfl,t⟩:=dI r;cases t;have hn:=oA
 rcases g with g|g
 ·obtain ⟨its,m,pl,hz⟩:=I.list g;have hlen:=m.length;exact Calls.call_len_list pl.isList (by simp only [QJ]<;>omega) ⟨.int ys.length,H,I.tok _,⟨s.toks+1,by rw [QJ,hlen]⟩,q⟩
 ·obtain ⟨its,m,pl,hz⟩:=I.tuple g;have hlen:=m.length;exact len_tuple pl (by simp only [QJ]<;>omega) ⟨.int ys.length,H,I.tok _,⟨s.toks+1,by rw [QJ,hlen]⟩,q⟩
def oP:Ve X (.type "list") (λxs H Q=>∃p ys,xs=[.ref p]/\(SqL X.K H p ys\/SqT X.K H p ys)/\∀l,H l=none->Q (.ref l) (upd H l (.lst ys))):=by
 intro pins s σ H xs us Q I r h;obtain ⟨p,ys,rfl,t,q⟩:=h;obtain ⟨u,rfl,C⟩:=dI r;cases C
 have fin:∀(its:List Value),xD ys its->ys.length<=sizeLine->∀(h':Heap) (m:Nat),(∀b A,s.heap.get? b=some A->h'.get? b=some A)->
  h'.get? s.heap.objs.size=some {cls:= .type "list",dict:=none,data:= .seq its.toArray m,slots:=#[]}->EP X pins σ Q (.ref s.heap.objs.size) {s with heap:=h'}:=λits g hz h' m kp e=>
  ⟨.ref s.heap.objs.size,_,I.laid (t':=s.toks) kp (Qu _) (show ZY X.prog X.w _ h' _ (.lst ys) from ⟨hz,its,m,g,e⟩),rfl,q _ (I.hok.fresh (Qu _))⟩
 rcases t with t|t
 ·obtain ⟨its,g,pl,hz⟩:=I.list t;have hlen:=g.length;obtain ⟨o,y,z,n,hd⟩:=pl.isList;exact call_list_seq p (.inl rfl) y z hd (λh' m kp e=>fin its g hz h' m kp e) (by simp only [QJ]<;>omega)
 ·obtain ⟨its,g,pl,hz⟩:=I.tuple t;have hlen:=g.length;obtain ⟨o,y,z,n,hd⟩:=pl;exact call_list_seq p (.inr rfl) y z hd (λh' m kp e=>fin its g hz h' m kp e) (by simp only [QJ]<;>omega)
def lZ:Ve X (.type "tuple") (λxs H Q=>∃p ys,xs=[.ref p]/\((SqL X.K H p ys/\∀l,H l=none->Q (.ref l) (upd H l (.tup ys)))\/(SqT X.K H p ys/\Q (.ref p) H))):=by
 intro pins s σ H xs us Q I r h;obtain ⟨p,ys,rfl,h⟩:=h;obtain ⟨u,rfl,y⟩:=dI r;cases y
 rcases h with ⟨m,q⟩|⟨m,q⟩
 ·obtain ⟨its,g,pl,hz⟩:=I.list m;have hlen:=g.length;refine call_tuple_list pl.isList (λh' kp=>?_) (by simp only [QJ]<;>omega);have t:Inv X pins σ H {s with heap:=h'}:=I.kept (t':=s.toks) kp
  have z:Inv X pins σ (upd H h'.objs.size (.tup ys)) {s with heap:=h'.push {cls:= .type "tuple",data:= .seq its.toArray}}:=
   t.laid (t':=s.toks) (λb o e=>Qi _ e) (Qu _) (show ZY X.prog X.w _ _ _ (.tup ys) from ⟨hz,its,g,IsTup.new _ _⟩)
  exact ⟨.ref h'.objs.size,_,z,rfl,q _ (t.hok.fresh (Qu _))⟩
 ·obtain ⟨its,g,pl,hz⟩:=I.tuple m;exact call_tuple_same pl ⟨.ref p,H,I,rfl,q⟩
def tyV (K:Frg) (T:String) (x:V) (H:Hp):Prop:=match x with
 | .str _=>T="str"
 | .int _=>T="int"
 | .ref p=>(T="list"/\∃xs,SqL K H p xs)\/(T="tuple"/\∃o,K.lookup p=some o/\o.cls= .type "tuple"/\o.dict=none)\/
  (T="dict"/\((∃g,H p=some (.dK g))\/∃g,H p=some (.dT g)))\/(T="set"/\∃S n,H p=some (.set S n))
 |_=>False
def tyV_is {pins:Pn} {σ:St} {H:Hp} {s:Shared} {T:String} {x:V} {v:Value} (I:Inv X pins σ H s) (r:ZQ x v) (ty:tyV X.K T x H):
 s.TypeIs v T/\∀a,v= .ref a->∃u,s.heap.get? a=some u/\u.dict=none:=by
 cases x with
 |str z=>
  obtain ⟨t,rfl⟩:=r;cases (show T="str" from ty);exact ⟨typeIs_str s z t,λ_ e=>nomatch e⟩
 |int i=>
  obtain ⟨t,rfl⟩:=r;cases (show T="int" from ty);exact ⟨typeIs_int s i t,λ_ e=>nomatch e⟩
 |ref p=>
  cases r
  rcases ty with ⟨rfl,xs,w⟩|⟨rfl,o,g,y,hd⟩|⟨rfl,g⟩|⟨rfl,S,n,g⟩
  ·obtain ⟨its,_,pl,_⟩:=I.list w;refine ⟨pl.isList.typeIs,λa e=>?_⟩;cases e;obtain ⟨o,n,e,c,hd,_⟩:=pl;exact ⟨o,e,hd⟩
  ·refine ⟨⟨o,I.kIn p o g,y⟩,λa e=>?_⟩;cases e;exact ⟨o,I.kIn _ o g,hd⟩
  ·have z:∃o,s.heap.get? p=some o/\o.ExactDict:=by
    rcases g with ⟨m,g⟩|⟨m,g⟩
    ·obtain ⟨_,_,_,_,o,_,_,e,ex,_⟩:=I.hok p _ g;exact ⟨o,e,ex⟩
    ·obtain ⟨_,_,_,_,o,_,_,e,ex,_⟩:=I.hok p _ g;exact ⟨o,e,ex⟩
   obtain ⟨o,e,ex⟩:=z;refine ⟨⟨o,e,ex.1⟩,λa q=>?_⟩;cases q;exact ⟨o,e,ex.2.1⟩
  ·obtain ⟨o,_,_,_,e,ex,_⟩:=I.hok p _ g;refine ⟨⟨o,e,ex.1⟩,λa q=>?_⟩;cases q;exact ⟨o,e,ex.2.1⟩
 |_=>exact False.elim ty
def tBM (K:Frg) (T:String) (r:V->List V->Hp->VK->Prop) (to:TE) (t:TA):TE:=λσ H Q=>to σ H λx H1=>tyV K T x H1/\t σ H1 λxs g=>r x xs g Q
variable {o e:Expr} {es:List Expr} {to:TE} {t:TA} {name:Str} {apos cpos:Pos} {T id:String} {r:V->List V->Hp->VK->Prop}
def pe_bm (pa:PlainAttrs T) (slot:Slot T name id) (g:typeOf (.builtin id)=pure (.type "method_descriptor")) (hm:MtR X id r) (C:PE X o to) (ha:PA X (e::es) t)
 (M:attributeBase o name X.env (eval o X.env)=eval o X.env:=by rfl)
 (L:((backTo cpos (starEach (e::es) X.env)).all (λx=>!x.1) && (backToKw cpos (keywordEach [] X.env)).all (λx=>x.1.isSome)
  && decide ((e::es).length+([]:List Keyword).length+(if ([]:List Keyword).isEmpty then 0 else 1)<30))=true:=by rfl)
 (N:(apos.endLine==cpos.line)=true:=by rfl) (A:starEach (e::es) X.env=(false,eval e X.env)::starEach es X.env:=by rfl) (O:(backTo cpos (starEach es X.env)).any (·.1)=false:=by rfl):
 PE X (.Call (.Attribute o name apos) (e::es) [] cpos) (tBM X.K T r to t):=by
 intro pins s σ H Q I h;refine wpAny_Call_method_late M L N rfl (thn (C pins s σ H _ I h) λv s1 D=>?_);obtain ⟨x,H1,u,m,ty,z⟩:=D;obtain ⟨J,G⟩:=tyV_is u m ty;refine ⟨T,id,pa,slot,g,J,G,?_⟩;have q:=ha cpos pins s1 σ H1 _ u z;rw [A] at q⊢;refine Calls.callWith_builtin (by show (false||(backTo cpos (starEach es X.env)).any (·.1))=false;rw [O]<;>rfl) (Calls.evalArgs_plain ?_);refine thn q ?_;rintro us s2 ⟨vs,U,P,w,y⟩;exact hm pins s2 σ U x vs v us Q P m w y
end
def MtM (X:Cx) (id:String) (r:V->List V->Hp->VK->Prop):Prop:=
 ∀(pins:Pn) (s:Shared) (σ:St) (H:Hp) (x:V) (xs:List V) (v:Value) (us:List Value) (Q:VK),Inv X pins σ H s->ZQ x v->xD xs us->r x xs H Q->
  wpAny (model X.prog X.w) X.A (call (.builtin id) (v::us)) (EP X pins σ Q) X.xe s
def xD.one {x:V} {us:List Value} (h:xD [x] us):∃u,us=[u]/\ZQ x u:=by
 cases h with
 |cons r t=>
  cases t;exact ⟨_,rfl,r⟩
theorem xD.zero:∀{us:List Value},xD [] us->us=[]
 |_, .nil=>rfl
theorem xD.rep {xs:List V} {us:List Value} (h:xD xs us):∀k:Nat,xD (List.replicate k xs).flatten (List.replicate k us).flatten
 |0=> .nil
 |k+1=>by
  rw [TH,TH,jaf,jaf];exact xD.append h (xD.rep h k)
theorem oH (its:List Value):∀(k:Nat) (acc:List Value),
 List.foldl (λm g=>m++g) acc.toArray (List.replicate k its.toArray)=(acc++(List.replicate k its).flatten).toArray
 |0,acc=>by simp
 |k+1,acc=>by
  have e:acc.toArray++its.toArray=(acc++its).toArray:=by simp
  have q:(acc++its)++(List.replicate k its).flatten=acc++(List.replicate (k+1) its).flatten:=by
   rw [TH,jaf,jaj]
  rw [<-q,<-oH its k (acc++its),<-e,TH,List.foldl_cons]
section
variable {X:Cx} {pins:Pn} {σ:St} {H:Hp} {s:Shared} {l b:Addr} {xs ys zs:List V}
def Inv.lset {its its':List Value} {n:Nat} {f:Array Value->Array Value} {t':Nat} (I:Inv X pins σ H s) (t:H l=some (.lst xs))
 (e:s.heap.get? l=some {cls:= .type "list",data:= .seq its.toArray n}) (hf:f its.toArray=its'.toArray) (g:xD ys its') (hz:ys.length<=sizeLine):
 Inv X pins σ (upd H l (.lst ys)) {s with heap:=s.heap.update l (Obj.mapSeq f),toks:=t'}:=by
 have q:=PySem.IsL.update e f;rw [hf] at q;refine I.write (x:=l) (e:=l) (by rw [t];exact trivial) (.inl rfl) (λw u r m=>(Tu s.heap (Obj.mapSeq f) (Ne.symm r)).trans m) ⟨_,q⟩ ?_;exact ⟨hz,its',_,g,q⟩
def Inv.lnew {its:List Value} {t':Nat} (I:Inv X pins σ H s) (g:xD ys its) (hz:ys.length<=sizeLine):
 Inv X pins σ (upd H s.heap.objs.size (.lst ys)) {s with heap:=s.heap.push {cls:= .type "list",data:= .seq its.toArray},toks:=t'}:=
 I.laid (λ_ _ q=>Qi _ q) (Qu _) ⟨hz,its,0,g,Qw _ rfl⟩
def Inv.fresh (I:Inv X pins σ H s):H s.heap.objs.size=none:=I.hok.fresh (Qu _)
def Inv.lstM (I:Inv X pins σ H s) (g:H l=some (.lst xs)):xs.length<=sizeLine/\∃(its:List Value) (n:Nat),xD xs its/\xs.length=its.length/\s.heap.get? l=some {cls:= .type "list",data:= .seq its.toArray n}:=by
 obtain ⟨z,its,n,r,e⟩:=I.hok l _ g;exact ⟨z,its,n,r,r.length,e⟩
def lB {n:Nat} (h:n<=sizeLine):Builtin.List.listTooLong n=false:=by
 unfold Builtin.List.listTooLong;exact Tc ⋯
end
section
variable {X:Cx}
def BB:V->List V->Hp->VK->Prop:=λx vs H Q=>∃l xs y,x= .ref l/\vs=[y]/\H l=some (.lst xs)/\xs.length<sizeLine/\Q .non (upd H l (.lst (xs++[y])))
def om:MtM X "list.append" BB:=by
 intro pins s σ H x vs v us Q I rx rv h;obtain ⟨l,xs,y,rfl,rfl,g,hz,q⟩:=h;cases rx;obtain ⟨u,rfl,ru⟩:=rv.one;obtain ⟨z,its,n,r,m,e⟩:=I.lstM g;refine call_meets F.slot_list_append ⟨_,e,rfl⟩ F.entry_list_append (F.args_list_append_2 _ _) (PySem.list_append l its.toArray n u (by rw [QJ];omega)) ⟨e,?_⟩;refine ⟨.non,_,I.lset (its':=its++[u]) g e (by simp) (r.append (.cons ru .nil)) ?_,rfl,q⟩;rw [QB,TX];omega
def BA:V->List V->Hp->VK->Prop:=λx vs H Q=>∃l b xs zs,x= .ref l/\vs=[.ref b]/\H l=some (.lst xs)/\H b=some (.lst zs)/\xs.length+zs.length<=sizeLine/\Q .non (upd H l (.lst (xs++zs)))
def mt_extend:MtM X "list.extend" BA:=by
 intro pins s σ H x vs v us Q I rx rv h;obtain ⟨l,b,xs,zs,rfl,rfl,m,y,hz,q⟩:=h;cases rx;obtain ⟨u,rfl,ru⟩:=rv.one;cases ru;obtain ⟨z,its,n,r,D,e⟩:=I.lstM m;obtain ⟨z2,g,w,t,G,A⟩:=I.lstM y;have hsz:its.toArray.size+g.toArray.size<=sizeLine:=by rw [QJ,QJ];omega
 have C:¬(!its.toArray.isEmpty && Builtin.List.listTooLong (its.toArray.size+g.toArray.size))=true:=by
  rw [lB hsz,Bool.and_false];exact QA
 refine call_meets F.slot_list_extend ⟨_,e,rfl⟩ F.entry_list_extend (F.args_list_extend_2 _ _)
  (AutoSeq1.list_extend_list_list_0 l its.toArray n b g.toArray w C (by rw [QJ];omega) ⋯) ⟨e,A,?_⟩
 refine ⟨.non,_,I.lset (its':=its++g) m e (by simp) (r.append t) ?_,rfl,q⟩;rw [QB];omega
def rCat:R2:=λx y H Q=>∃l b xs zs,x= .ref l/\y= .ref b/\H l=some (.lst xs)/\H b=some (.lst zs)/\xs.length+zs.length<=sizeLine/\∀p,H p=none->Q (.ref p) (upd H p (.lst (xs++zs)))
def op_cat:OpR X (binaryOp .Add) rCat:=by
 intro pins s σ H x y v u Q I rx ry h;obtain ⟨l,b,xs,zs,rfl,rfl,t,w,hz,q⟩:=h;cases rx;cases ry;obtain ⟨z,its,n,r,G,e⟩:=I.lstM t;obtain ⟨z2,g,D,m,J,C⟩:=I.lstM w;refine PySem.P.add_list e C ?_ (by rw [QJ,QJ];omega);have A:its.toArray++g.toArray=(its++g).toArray:=by simp
 rw [A];exact ⟨.ref _,_,I.lnew (t':=s.toks) (r.append m) (by rw [QB];omega),rfl,q _ I.fresh⟩
def rRep:R2:=λx y H Q=>∃l k xs,x= .ref l/\y= .int k/\H l=some (.lst xs)/\ -(2 ^ 63)<=k/\k<2 ^ 63/\xs.length*k.toNat<=sizeLine/\
 ∀p,H p=none->Q (.ref p) (upd H p (.lst (List.replicate k.toNat xs).flatten))
def Jv {α:Type} (xs:List α) (k:Nat):(List.replicate k xs).flatten.length=k*xs.length:=by
 induction k with
 |zero=>simp
 |succ k g=>rw [TH,jaf,QB,g,Nat.succ_mul,Nat.add_comm]
def op_rep:OpR X (binaryOp .Mult) rRep:=by
 intro pins s σ H x y v u Q I rx ry h;obtain ⟨l,k,xs,rfl,rfl,D,J,G,hz,q⟩:=h;cases rx;obtain ⟨t,rfl⟩:=ry;obtain ⟨z,its,n,r,C,e⟩:=I.lstM D;have hlen:its.toArray.size*k.toNat<=sizeLine:=by rw [QJ,<-C];exact hz
 have g:¬its.toArray.size*k.toNat>(2 ^ 63 - 1) / 8:=by
  have:(sizeLine:Nat)<=(2 ^ 63 - 1) / 8:=by decide
  omega
 have L:¬(!Builtin.List.listFitsIndex k)=true:=by
  rw [fitsIndex_both J G];exact QA
 have M:¬Builtin.List.listTooLong (its.toArray.size*k.toNat)=true:=by
  rw [lB hlen];exact QA
 have K:List.foldl (λA w=>A++w) #[] (List.replicate (if its.toArray.isEmpty=true then 0 else k.toNat) its.toArray)=(List.replicate k.toNat its).flatten.toArray:=by
  have f0:∀m:Nat,List.foldl (λA w=>A++w) #[] (List.replicate m its.toArray)=(List.replicate m its).flatten.toArray:=λm=>by
   have:=oH its m [];rw [jaR] at this;exact this
  rw [f0]
  cases its with
  |nil=>simp
  |cons a N=>rw [QP (by simp)]
 refine wpAny_binaryOp_repeat_ref (T:="list") (U:="int") nofun ⟨_,e,rfl⟩ (λs'=>typeIs_int s' k t) noFill_list_mul F.fills_int_mul F.slot_int_rmul repeat_list F.slot_int_index.lookup
  (call_meets F.slot_int_rmul (typeIs_int s k t) F.entry_int_rmul (F.args_int_rmul_2 _ _) (int___rmul___int_list k t l its.toArray n)
   ⟨e,rfl,⟨_,e,rfl⟩,call_meets F.slot_list_mul ⟨_,e,rfl⟩ F.entry_list_mul (F.args_list_mul_2 _ _) (AutoListH.list___mul___list_int_3 l its.toArray n k t L g M) ⟨e,?_⟩⟩)
 rw [K];exact ⟨.ref _,_,I.lnew (t':=s.toks) (r.rep k.toNat) (by rw [Jv,Nat.mul_comm];exact hz),rfl,q _ I.fresh⟩
end
section
variable {prog:Program} {w:World} {A:Around} {E:Value->Shared->Prop} {s:Shared}
set_option maxRecDepth 100000 in
end
section
variable {X:Cx}
end
end L2
namespace Att
open PySem PySem.W PySem.Calls PyProof.Rows
def fX {P:Params} {h:Heap}:∀(ns:List Int) (vs:List Value),WellAll P h vs (ns.map WData.int)->IntsAre vs ns:=by
 intro ns
 induction ns with
 |nil=>
  intro vs w;rw [jaJ] at w;cases w;exact .nil
 |cons n ns g=>
  intro vs w;rw [Ql] at w
  cases w with
  |cons a b=>
   cases a;exact .cons _ _ (g _ b)
def AM {l:OpenLaw} {n:Nat} (hn:l.most=some n) {P:Params} {h:Heap} {args:List WData} {vals:List Value}
 (w:l.row.toRowW.claim.pre args=true) (J:WellAll P h vals args):
 ∃a vs ns,vals=[Value.ref a]/\args=[WData.list (ns.map WData.int)]/\h.get? a=some {cls:= .type "list",data:= .seq vs.toArray}/\IntsAre vs ns/\ns.length<=n:=by
 have t:WShape.hasAll [] args [.list .int]=true:=(pre_splitW w).1;have u:l.pre.holds [] {args:=args}=true:=(pre_splitW w).2;obtain ⟨d,r,rfl,I,G⟩:=hasAllW_cons t;obtain rfl:=hasAllW_nil G;obtain ⟨xs,rfl,D⟩:=hasW_list I;obtain ⟨ns,rfl⟩:=items_int D
 have hlen:ns.length<=n:=by
  unfold OpenLaw.pre at u
  have s:(WTm.not (.lt (.lit (.int (n:Int))) (.len (.arg 0)))).holds [] {args:=[.list (ns.map .int)]}=true:=by
   have s:=(holds_andW u).1;rw [hn] at s;exact s
  have m:=condW_of s (w_not (w_lt w_lit (w_len_list (w_arg rfl))));rw [Qa] at m;refine Nat.le_of_not_lt λq=>?_;have A:(n:Int)<((ns.length:Nat):Int):=⋯
  first
   |(rw [QZ A] at m;exact absurd m nofun)
   |(simp at m;omega)
 cases J with
 |cons z y=>
  cases y
  cases z with
  |list C g=>exact ⟨_,_,ns,rfl,rfl,C,fX ns _ g,hlen⟩
def BD (l:OpenLaw) (args:List WData):l.row.toRowW.claim.post args (.bool true) args=true:=
 postW_of (r:=l.row.toRowW) (X:=(true==true))
  (show WShape.has [] (.bool true) .bool=true by first|rfl|decide|simp [WShape.has,WShape.arms,WShape.armsAll])
  (show (WTm.eq .res (.lit (.bool true))).value [] {args:=args,res:=some (.bool true),after:=args}=some (.bool (true==true)) from w_eq_bool (w_res rfl) w_lit) rfl
def attach_call {l:OpenLaw} {n:Nat} {q:Program} {loose:List Str} {t:(Str->Option Value)->Heap->Prop} {m:World->Heap->Prop} {d:DefRec}
 (hn:l.most=some n) (D:d.params.defaults=[])
 (call:∀(w:World) (s₀ s₁:Shared) (mg g:Str->Option Value) (fa:Addr) (o:Obj) (pm cd doc:Value) (a:Addr) (vs:List Value) (ns:List Int),
  Ground q loose [] t w s₀ mg g s₁.heap->m w s₁.heap->
  s₁.heap.get? fa=some o->o.data= .func (docDef d.name d.params d.body d.scope pm cd doc)->s₁.heap.CodeRec cd d.name->mg d.name=some (.ref fa)->
  s₁.heap.get? a=some {cls:= .type "list",data:= .seq vs.toArray}->IntsAre vs ns->ns.length<=n->s₁.gens=#[]->
  codeAny (model l.prog w) callerA (.call (.ref fa) ⟨[.ref a],[]⟩) (λr s'=>r= .ok (.ret (.bool true))/\OldK s₁.heap s'.heap/\s'.os=s₁.os/\AllBare s'.gens) s₁):
 WalkO q loose t m l.row.toRowW d [] (λf vs=>PySem.call f vs):=by
 intro w s₀ s₁ mg g G Y fa o pm cd doc dV kV ho hd LG hD Ml hg args vals as Nt hlay hrd Sh hlo;obtain rfl:dV= .none:=Dflts.none hD D;obtain rfl:kV= .none:=Dflts.noKw hD;obtain ⟨a,vs,ns,rfl,rfl,C,hints,hlen⟩:=AM hn Nt Sh;refine enter_call (jcc (call w s₀ s₁ mg g fa o pm cd doc a vs ns G Y ho (fd_plain hd) LG Ml C hints hlen hg) λr s' u=>?_);obtain ⟨rfl,A,z,y⟩:=u;exact ⟨.inl ⟨.bool true, .bool true,[],rfl,λ_=>rfl, .bool true,BD l _,λ_=>⟨List.Pairwise.nil,λ_ hm=>(nomatch hm)⟩⟩,A,z,y⟩
section
variable {prog:Program} {w:World} {A:Around} {E:Value->Shared->Prop} {s:Shared} {K:Frag}
def ledger (h:Heap) (L d:Addr):List (Addr×Obj):=(List.range h.objs.size).filterMap λa=>if a=L\/a=d then none else (h.get? a).map λo=>(a,o)
end
end Att
namespace L2
open PySem PySem.Spec PyProof.Rows
theorem mS:∀{vs:List Value} {ns:List Int},IntsAre vs ns->xD (ns.map V.int) vs
 |_,_, .nil=> .nil
 |_,_, .cons n t h=> .cons ⟨t,rfl⟩ (mS h)
def Only (H:Hp):Prop:=∀b,H b=none\/∃o xs,H b=some (.frz o (.lst xs))
def Ge {P:Program} {w:World} {K:Frg} {mg G:Str->Option Value} {CX:CXT} {k:Nat} {fa a:Addr} {fd:FuncData} {x:Str} {sp:Sp} {s₁:Shared} {vs:List Value} {ns:List Int}
 (Z:K.In s₁.heap) (Y:s₁.heap.Ns mainGlobals mg) (t:s₁.heap.Ns builtinsNs G) (I:∀x:Str,x≠"__name__"->G x=bootBuiltins x) (Sx:s₁.heap.NoLimit) (hg:s₁.gens=#[])
 (ha:s₁.heap.get? a=some {cls:= .type "list",data:= .seq vs.toArray}) (O:IntsAre vs ns) (N:ns.length<=sizeLine) (hr:Room k callerA)
 (F:∀base:Heap,K.In base->base.Ns mainGlobals mg->FnOk P w K mg base CX k fa fd [x] sp) (Pu:∀(s:Shared) (u:Value),BindsTo s fd ⟨[u],[]⟩ [(x,u)])
 (NC:∀H:Hp,Only H->SqL K H a (ns.map V.int)->sp [.ref a] H (λv _=>v= .bl true) λ_ _ _=>False)
 (J:∀H e s',CX [] H s₁ (λ_ _ _=>False) e s'->False):
 codeAny (model P w) callerA (.call (.ref fa) ⟨[.ref a],[]⟩) (λr s'=>r= .ok (.ret (.bool true))/\OldK s₁.heap s'.heap/\s'.os=s₁.os/\AllBare s'.gens) s₁:=by
 have M:=mS O;have lenV:=O.length
 have core:∀H:Hp,Only H->SqL K H a (ns.map V.int)->HOk P w H s₁.heap->(∀b,H b≠none->b=a)->(H a≠none->K.lookup a=none)->
  codeAny (model P w) callerA (.call (.ref fa) ⟨[.ref a],[]⟩) (λr s'=>r= .ok (.ret (.bool true))/\OldK s₁.heap s'.heap/\s'.os=s₁.os/\AllBare s'.gens) s₁:=by
  intro H T hS hok U hK;have g:∀{b:Addr} {o:Obj},s₁.heap.get? b=some o->H b=none->(Gr s₁.heap H).get? b=some o:=λe n=>Gq e n
  have D:∀{b:Addr} {o:Obj} {es:Array DictEntry} {ep:Nat},s₁.heap.get? b=some o->o.data= .dict es ep->H b=none:=λ{b o es ep} e d=>by
   cases q:H b with
   |none=>rfl
   |some u=>
    have L:b=a:=U b (by rw [q];simp);subst L;rw [ha] at e;cases e;have d':Data.seq vs.toArray _=Data.dict es ep:=d;cases d'
  have y:∀{b:Addr} {m:Str->Option Value},s₁.heap.Ns b m->(Gr s₁.heap H).Ns b m:=λ{b m} ⟨o,es,ep,e,d,r⟩=>⟨o,es,ep,g e (D e d),d,r⟩
  have C:K.In (Gr s₁.heap H):=λb o e=>g (Z b o e) (by
   cases q:H b with
   |none=>rfl
   |some u=>
    have L:b=a:=U b (by rw [q];simp);subst L
    rw [hK (by rw [q];simp)] at e;cases e)
  have hM:Mod K mg (Gr s₁.heap H):=⟨C,y Y,⟨G,y t,I⟩,let ⟨mc,h1,h2⟩:=Sx;⟨mc,y h1,h2⟩⟩;have e0:Env0 P w K mg (Gr s₁.heap H) callerA [] s₁ H:=⟨rfl,hM,λb o e=>Jl e,Nat.le_of_eq (CM _ _),trivial,λb t=>absurd (show b∈([]:List Addr) from t) (by simp),hok, .of_eq hg⟩;refine jcc ((F _ C (y Y)).run callerA [] s₁ H ⟨[.ref a],[]⟩ [.ref a] [.ref a] _ _ hr e0 (Pu s₁ (.ref a)) (.cons rfl .nil) (NC H T hS)) λr s' h=>?_
  cases r with
  |error e=>exact (J H e s' h).elim
  |ok fl=>
   cases fl with
   |next=>exact False.elim h
   |brk=>exact False.elim h
   |cont=>exact False.elim h
   |ret u=>
    obtain ⟨v,H',os,bare,un,MW,r',q⟩:=h;have q':v= .bl true:=q;subst q';obtain rfl:u=Value.bool true:=r';refine ⟨rfl,OldK.of_keep λb o e=>?_,os,bare⟩
    cases q:H b with
    |none=>exact un.keep b o e q (by intro z;exact absurd (show b∈([]:List Addr) from z) (by simp)) (by simp)
    |some u=>
     rcases T b with z|⟨ob,xs,z⟩
     ·rw [q] at z;cases z
     ·have z2:=un.frzs b ob _ z;obtain ⟨X,_⟩:=hok b _ z;obtain ⟨e2,_⟩:=MW b _ z2;rw [e] at X;cases X;exact e2
 cases hk:K.lookup a with
 |some o=>
  have e:=Z a o hk;rw [ha] at e;cases e;refine core (λ_=>none) (λ_=> .inl rfl) (.inr ⟨_,vs.toArray,_,hk,rfl,rfl,rfl,by rw [QJ,lenV];exact N,by simpa using M⟩) (λb u z=>by have A:(none:Option HO)=some u:=z;cases A) (λb z=>absurd rfl z) λz=>absurd rfl z
 |none=>
  refine core (λb=>if b=a then some (.frz {cls:= .type "list",data:= .seq vs.toArray} (.lst (ns.map V.int))) else none) (λb=>?_) (.inl (.inr ⟨{cls:= .type "list",data:= .seq vs.toArray},QH rfl⟩)) (λb u z=>?_) (λb z=>?_) λ_=>hk
  ·by_cases t:b=a
   ·exact .inr ⟨_,_,QH t⟩
   ·exact .inl (QP t)
  ·by_cases t:b=a
   ·have A:=(QH t).symm.trans z;cases A;subst t;exact ⟨ha,by rw [Qa];exact N,vs,_,M,ha⟩
   ·have A:=(QP t).symm.trans z;cases A
  ·by_cases t:b=a
   ·exact t
   ·exact absurd (QP t) z
def Ih {l:PySem.W.OpenLaw} {n k:Nat} {q:Program} {loose:List Str} {I:(Str->Option Value)->Heap->Prop} {r:World->Heap->Prop} {d:DefRec} {K:Params->Frg} {CX:World->CXT} {sp:World->Sp} {x:Str}
 (hn:l.most=some n) (M:n<=sizeLine) (J:d.params.defaults=[]) (hr:Room k callerA)
 (z:∀(w:World) (h:Heap),r w h->(K w.params).In h)
 (F:∀(w:World) (mg:Str->Option Value) (fa:Addr) (h:Heap),(K w.params).In h->h.Ns mainGlobals mg->mg d.name=some (.ref fa)->
  ∃fd:FuncData,(∀(s:Shared) (u:Value),BindsTo s fd ⟨[u],[]⟩ [(x,u)])/\
   ∀base:Heap,(K w.params).In base->base.Ns mainGlobals mg->FnOk l.prog w (K w.params) mg base (CX w) k fa fd [x] (sp w))
 (L:∀(w:World) (H:Hp) (a:Addr) (ns:List Int),ns.length<=n->Only H->SqL (K w.params) H a (ns.map V.int)->sp w [.ref a] H (λv _=>v= .bl true) λ_ _ _=>False)
 (m:∀(w:World) (H:Hp) (s:Shared) (e:Value) (s':Shared),CX w [] H s (λ_ _ _=>False) e s'->False):
 PySem.W.WalkO q loose I r l.row.toRowW d [] (λf vs=>PySem.call f vs):=by
 refine Att.attach_call hn J λw s₀ s₁ mg mb fa o pm cd doc a vs ns G Y ho hd LG Ml Oc hints hlen hg=>?_;have t:=z w _ Y;obtain ⟨fd,y,D⟩:=F w mg fa _ t G.T.g Ml;exact Ge t G.T.g G.T.b G.T.builtins G.T.nolimit hg Oc hints (QW hlen M) hr D y (λH C A=>L w H a ns hlen C A) λH e s'=>m w H s₁ e s'
noncomputable def ZM (s:Stmt) (j:Nat):Stmt:=match s with
 | .ClassDef _ _ _ body _ _ _ _ _ _ _=>body.getD j (.Pass ⟨0,0,0,0⟩)
 |_=> .Pass ⟨0,0,0,0⟩
noncomputable def ZX (s:Stmt):Arguments:=match s with
 | .FunctionDef _ a _ _ _ _ _ _ _ _=>a
 |_=>{posonlyargs:=[],args:=[],vararg:=none,kwonlyargs:=[],kw_defaults:=[],kwarg:=none,defaults:=[]}
def Zq (s:Stmt):List Stmt:=match s with
 | .FunctionDef _ _ b _ _ _ _ _ _ _=>b
 |_=>[]
noncomputable def zk (s:Stmt):Scope:=match s with
 | .FunctionDef _ _ _ _ _ _ sc _ _ _=>sc
 |_=>{kind:= .function,names:=[],isGenerator:=false,isCoroutine:=false}
abbrev CX0:CXT:=λ_ _ _ _ _ _=>False
abbrev E0:XK:=λ_ _ _=>False
def pass0 {X:Cx}:VE CX0 X E0:=λ_ _ _ _ _ _ _ h=>h.elim
structure Fun (K:Frg) (x qual:Str) (st:Stmt) (f:Addr) (fd:FuncData):Prop where
 ex:∃(oc:Value) (od:Option Addr) (kV doc pm:Value) (an:Option Addr) (LF ct:Value) (osl:Array (Option Value)),
  fd=PySem.W.fnOf x qual (ZX st) (Zq st) (zk st) .none kV doc pm an LF ct/\K.lookup f=some ⟨oc,od, .func fd,osl⟩/\PySem.W.codeIn K LF qual=true
 kp:PySem.W.keepIn K (.ref f)=true
section
variable {P:Program} {w:World} {K:Frg} {mg:Str->Option Value} {base:Heap}
def Fun.ok {x qual:Str} {st:Stmt} {f:Addr} {fd:FuncData} {N ps:List Str} {k:Nat} {sp:Sp} (F:Fun K x qual st f fd) (S:FnScope N ps (zk st)) (len:∀vs H Q E,sp vs H Q E->vs.length=ps.length)
 (y:∀(g:Value) (A:Around) (outer:List Env) (s:Shared) (H:Hp) (vs:List V) (Q:VK) (E:XK),Room k (A.deeper (envOfC qual (zk st) s.heap.objs.size f g))->sp vs H Q E->
  ∃t,PSs (HI CX0 P w K mg base N qual (zk st) f g A outer s H E).nox (Zq st) t/\t {nx:=λ_ H'=>Q .non H',rt:=Q} (jX N vs) H):FnOk P w K mg base CX0 (k+1) f fd ps sp:=by
 obtain ⟨D,C,kV,doc,pm,an,g,ct,m,rfl,r,z⟩:=F.ex;refine fn_of r z S len λA outer s H vs Q E hr u=>?_;obtain ⟨t,h,q⟩:=y g A outer s H vs Q E hr u;exact ⟨t,h.nox,q⟩
def Fun.binds {x qual:Str} {st:Stmt} {f:Addr} {fd:FuncData} {ps:List Str} (F:Fun K x qual st f fd)
 (h:∀(kV doc pm:Value) (an:Option Addr) (g ct:Value) (us:List Value),us.length=ps.length->bindArgs (PySem.W.fnOf x qual (ZX st) (Zq st) (zk st) .none kV doc pm an g ct) ⟨us,[]⟩=pure (ps.zip us)):xi K fd ps []:=by
 obtain ⟨r,q,kV,doc,pm,an,g,ct,m,rfl,s,t⟩:=F.ex;exact .all (h kV doc pm an g ct)
def oG {x qual:Str} {st:Stmt} {f:Addr} {r:Value} {q an:Option Addr} {g:Array (Option Value)} {kV doc pm m ct:Value} (l:K.lookup f=some ⟨r,q, .func (PySem.W.fnOf x qual (ZX st) (Zq st) (zk st) .none kV doc pm an m ct),g⟩)
 (c:PySem.W.codeIn K m qual=true) (k:PySem.W.keepIn K (.ref f)=true):Fun K x qual st f (PySem.W.fnOf x qual (ZX st) (Zq st) (zk st) .none kV doc pm an m ct):=⟨⟨r,q,kV,doc,pm,an,m,ct,g,rfl,l,c⟩,k⟩
end
def Wx {n:Nat} (h:n<=1000):n<sizeLine:=Nat.lt_of_le_of_lt h nofun
section
variable {X:Cx}
def pv (i:Nat) {x:Str} {pos:Pos} (m:X.N[i]? =some x:=by rfl) (g:Vis X.env.scope x:=by walk_at "v") (hd:(x==("__debug__":Str))=false:=by decide)
 (q:(x==("__classdict__":Str))=false:=by decide):PE X (.Name x pos) (tVar i):=pe_var m g hd q
end
def iteF {A B:Prop} (h:B):if false=true then A else B:=by
 rw [QP QA];exact h
def iteT {A B:Prop} (h:A):if true=true then A else B:=by
 rw [QH rfl];exact h
def qV {c A B:Prop} [Decidable c] (g:c) (h:B):if (!decide c)=true then A else B:=by
 rw [QZ g];exact iteF h
def zS (H H':Hp):Prop:=∀b o,H b=some o->H' b=some o
def zS.refl (H:Hp):zS H H:=λ_ _ h=>h
def zS.trans {H H1 g:Hp} (a:zS H H1) (b:zS H1 g):zS H g:=λc o h=>b c o (a c o h)
def zS.free {H H':Hp} (e:zS H H') {l:Addr} (h:H' l=Option.none):H l=Option.none:=by
 cases q:H l with
 |none=>rfl
 |some o=>
  rw [e l o q] at h;cases h
def zS.seq {K:Frg} {H H':Hp} {a:Addr} {xs:List V} (e:zS H H') (h:SqL K H a xs):SqL K H' a xs:=by
 rcases h with (h|⟨o,h⟩)|h
 ·exact .inl (.inl (e _ _ h))
 ·exact .inl (.inr ⟨o,e _ _ h⟩)
 ·exact .inr h
end L2
namespace S
open PySem PySem.Spec PyProof.Rows L2
def Sz (n:Nat) (x:Int):Prop:=x.natAbs<2 ^ n
def Sz.mono (h:Sz m x) (l:m<=n):Sz n x:=Ta h (Nat.pow_le_pow_right nofun l)
def Sz.bits (h:Sz n x):Builtin.Int.intBits x<=n:=intBits_le_iff.mpr h
def Sz.of (h:Builtin.Int.intBits x<=n):Sz n x:=intBits_le_iff.mp h
def Sz.mulOk (h:Sz m x) (g:Sz n y) (l:m+n<=134217728):IntMulOk x y:=IntMulOk.of_le h.bits g.bits l
def Sz.mul (h:Sz m x) (g:Sz n y):Sz (m+n) (x*y):=Sz.of (intBits_mul_le h.bits g.bits)
def Sz.add (h:Sz n x) (g:Sz n y):Sz (n+1) (x+y):=Sz.of (QW (intBits_add_le h.bits g.bits) ⋯)
def Sz.sub (h:Sz n x) (g:Sz n y):Sz (n+1) (x - y):=Sz.of (QW (intBits_sub_le h.bits g.bits) ⋯)
def Sz.le (h:Sz n x) (l:y.natAbs<=x.natAbs):Sz n y:=Nat.lt_of_le_of_lt l h
def Sz.log (h:Sz n x) (l:n<=8999):x.natAbs.log2<9000:=by
 by_cases h0:x.natAbs=0
 ·rw [h0];decide+kernel
 ·have:=(Nat.log2_lt h0).mpr (Sz.mono h l);omega
section
variable {X:Cx}
def op_mulB:OpR X (binaryOp .Mult) (rI IntMulOk λi j=> .int (i*j)):=opI λ_ _ _ _ _ _ _ g q=>mul_int q g
def CDv (_ j:Int):Prop:=j≠0/\Sz 8999 j
def op_fdivB:OpR X (binaryOp .FloorDiv) (rI CDv λi j=> .int (i.fdiv j)):=opI λi j _ _ _ _ _ g q=>
 floordiv_int g.1 q (.inl (PyProof.noPylong_of_log2 (g.2.log (Qu _))))
end
mutual
def Is (H:Hp):PyData->V->Prop
 | .none,v=>v= .non
 | .bool b,v=>v= .bl b
 | .int i,v=>v= .int i
 | .str x,v=>v= .str x
 | .list xs,v=>∃p vs,v= .ref p/\H p=some (.lst vs)/\zJ H xs vs
 | .tuple xs,v=>∃p vs,v= .ref p/\H p=some (.tup vs)/\zJ H xs vs
 | .dict g,v=>Ed H g v
def zJ (H:Hp):List PyData->List V->Prop
 |[],vs=>vs=[]
 |x::xs,vs=>∃v r,vs=v::r/\Is H x v/\zJ H xs r
def Ed (H:Hp):List (PyData×PyData)->V->Prop
 |[(c,x)],v=>∃(p C g:Addr) (w:V),c= .int ((C:Nat):Int)/\v= .ref p/\H p=some (.ins C g [("form",w)])/\Is H x w
 |_,_=>False
end
mutual
theorem Is.mono (e:zS H H'):∀(d:PyData) (v:V),Is H d v->Is H' d v
 | .none,v,h=>by simpa only [Is] using h
 | .bool b,v,h=>by simpa only [Is] using h
 | .int i,v,h=>by simpa only [Is] using h
 | .str x,v,h=>by simpa only [Is] using h
 | .list xs,v,h=>by
   rw [Is] at h⊢;obtain ⟨p,vs,r,q,m⟩:=h;exact ⟨p,vs,r,e _ _ q,zJ.mono e xs vs m⟩
 | .tuple xs,v,h=>by
   rw [Is] at h⊢;obtain ⟨p,vs,r,q,m⟩:=h;exact ⟨p,vs,r,e _ _ q,zJ.mono e xs vs m⟩
 | .dict g,v,h=>by
   rw [Is] at h⊢;exact Ed.mono e g v h
theorem Ed.mono (e:zS H H'):∀(d:List (PyData×PyData)) (v:V),Ed H d v->Ed H' d v
 |[],v,h=>by rw [Ed] at h;exact h.elim;simp
 |[(c,x)],v,h=>by
  rw [Ed] at h⊢;obtain ⟨p,C,s,w,r,q,m,g⟩:=h;exact ⟨p,C,s,w,r,q,e _ _ m,Is.mono e x w g⟩
 |_::_::_,v,h=>by rw [Ed] at h;exact h.elim;simp
theorem zJ.mono (e:zS H H'):∀(d:List PyData) (v:List V),zJ H d v->zJ H' d v
 |[],v,h=>by rw [zJ] at h⊢;exact h
 |x::xs,v,h=>by
  rw [zJ] at h⊢;obtain ⟨v,r,q,m,g⟩:=h;exact ⟨v,r,q,Is.mono e x v m,zJ.mono e xs r g⟩
end
def zS.new (h:H p=none) (o:HO):zS H (upd H p o):=λb u q=>by rw [yh (yj q h)];exact q
section
variable {X:Cx} {pins:Pn} {σ:L2.St} {H:Hp} {s:Shared}
mutual
theorem Is.reads (I:Inv X pins σ H s):∀(d:PyData) (v:V) (u:Value),d.canLay0=true->Is H d v->ZQ v u->∃as,Reads s.heap u d as
 | .none,v,u,lay,h,r=>by rw [Is] at h;subst h;cases (show u=Value.none from r);exact ⟨_, .none⟩
 | .bool b,v,u,lay,h,r=>by rw [Is] at h;subst h;cases (show u=Value.bool b from r);exact ⟨_, .bool b⟩
 | .int i,v,u,lay,h,r=>by rw [Is] at h;subst h;obtain ⟨t,rfl⟩:=(show ∃t,u=Value.int i t from r);exact ⟨_, .int i t⟩
 | .str x,v,u,lay,h,r=>by rw [Is] at h;subst h;obtain ⟨t,rfl⟩:=(show ∃t,u=Value.str x t from r);exact ⟨_, .str x t⟩
 | .list xs,v,u,lay,h,r=>by
   rw [Is] at h;obtain ⟨p,vs,z,y,m⟩:=h;subst z;cases (show u=Value.ref p from r);obtain ⟨_,its,n,g,hp⟩:=(show ZY X.prog X.w H s.heap p (.lst vs) from I.hok p _ y);obtain ⟨as,q⟩:=zJ.reads I xs vs its (by rw [PyData.canLay0] at lay;exact lay) m g;exact ⟨_, .list hp rfl rfl ‹q›⟩
 | .tuple xs,v,u,lay,h,r=>by
   rw [Is] at h;obtain ⟨p,vs,z,y,m⟩:=h;subst z;cases (show u=Value.ref p from r);obtain ⟨_,its,g,hp⟩:=(show ZY X.prog X.w H s.heap p (.tup vs) from I.hok p _ y);obtain ⟨o,D,C,n,A⟩:=hp;obtain ⟨as,q⟩:=zJ.reads I xs vs its (by rw [PyData.canLay0] at lay;exact lay) m g;exact ⟨_, .tuple D C A ‹q›⟩
 | .dict _,v,u,lay,h,r=>by rw [PyData.canLay0] at lay;cases lay
theorem zJ.reads (I:Inv X pins σ H s):∀(d:List PyData) (v:List V) (u:List Value),PyData.canLayAll0 d=true->zJ H d v->xD v u->∃as,ReadsAll s.heap u d as
 |[],v,u,lay,h,r=>by rw [zJ] at h;subst h;cases xD.zero r;exact ⟨_, .nil⟩
 |x::xs,v,u,lay,h,r=>by
  rw [PyData.canLayAll0,jas] at lay;rw [zJ] at h;obtain ⟨v,w,A,z,y⟩:=h;subst A
  cases r with
  |cons m g=>
   obtain ⟨as,q⟩:=Is.reads I x v _ lay.1 z m;obtain ⟨bs,t⟩:=zJ.reads I xs w _ lay.2 y g;exact ⟨_, .cons q t⟩
end
end
def rEqD:R2:=λx y H Q=>∃d e,Is H d x/\Is H e y/\SeqAt.shaped d=true/\SeqAt.shaped e=true/\Q (.bl (PyData.eqv d e)) H
def rNeD:R2:=λx y H Q=>∃d e,Is H d x/\Is H e y/\SeqAt.shaped d=true/\SeqAt.shaped e=true/\Q (.bl (!PyData.eqv d e)) H
section
variable {X:Cx}
def op_eqD (w:X.A.units+64<cLine):OpR X (compareOp .Eq) rEqD:=by
 intro pins s σ H x y v u Q I rx ry h;obtain ⟨d,e,C,z,m,g,q⟩:=h;obtain ⟨as,t⟩:=Is.reads I d x v (jbw m) C rx;obtain ⟨bs,r⟩:=Is.reads I e y u (jbw g) z ry;exact eq_dataH t r m g w ⟨.bl _,H,I,rfl,q⟩
def op_neD (w:X.A.units+64<cLine):OpR X (compareOp .NotEq) rNeD:=by
 intro pins s σ H x y v u Q I rx ry h;obtain ⟨d,e,C,z,m,g,q⟩:=h;obtain ⟨as,t⟩:=Is.reads I d x v (jbw m) C rx;obtain ⟨bs,r⟩:=Is.reads I e y u (jbw g) z ry;exact ne_dataH t r m g w ⟨.bl _,H,I,rfl,q⟩
end
def rIsi (K:Frg):List V->Hp->VK->Prop:=λxs H Q=>∃(x:V) (T:String) (t:Value) (b:Bool),xs=[x, .ty T]/\TyOf K H x t/\PySem.W.kitOne K t (.type T)=some b/\Q (.bl b) H
section
variable {X:Cx}
def call_isi:Ve X (.builtin "isinstance") (rIsi X.K):=by
 intro pins s σ H xs us Q I r h;obtain ⟨x,T,t,b,rfl,ty,e,q⟩:=h;obtain ⟨u,g,rfl,w,m⟩:=Ez r;cases (show g=Value.type T from m);exact CI I w ty e λtk=>⟨.bl b,H,I.tok tk,rfl,q⟩
end
structure Cal (P:Program) (w:World) (K:Frg) (mg:Str->Option Value) (base:Heap) (CX:CXT) (k:Nat) (x:Str) (ps:List Str) (sp:Sp):Prop where
 ex:∃(f:Addr) (fd:FuncData),FnOk P w K mg base CX k f fd ps sp/\mg x=some (.ref f)/\PySem.W.keepIn K (.ref f)=true/\xi K fd ps []
section
variable {X:Cx} {CX:CXT} {k j:Nat} {ps:List Str} {sp:Sp} {E:XK} {x:Str} {p pos:Pos} {e:Expr} {es:List Expr} {t:TA}
def pe_cal (C:Cal X.prog X.w X.K X.mg X.base CX k x ps sp) (hr:Room j X.A) (q:k<=j) (m:VE CX X E) (r:Gl X x)
 (ha:PA X (e::es) t) (y:(x==("__debug__":Str))=false:=by decide) (he:starEach (e::es) X.env=(false,eval e X.env)::starEach es X.env:=by rfl) (u:(backTo pos (starEach es X.env)).any (·.1)=false:=by rfl):
 PE X (.Call (.Name x p) (e::es) [] pos) (uQ sp [] E t):=by
 obtain ⟨f,fd,F,hm,g,s⟩:=C.ex;exact Jb F (hr.mono q) r hm g s .nil m ha y he u
end
def EA (hr:Room k A):A.units+64<cLine:=hr.units
noncomputable def frD (q:Rat):PyData:= .tuple [.int q.num, .int (q.den:Int)]
def SzQ (n:Nat) (q:Rat):Prop:=Sz n q.num/\Sz n (q.den:Int)
def SzQ.mono (h:SzQ m q) (l:m<=n):SzQ n q:=⟨h.1.mono l,h.2.mono l⟩
def den_pos (q:Rat):(0:Int)<(q.den:Int):=Int.natCast_pos.mpr q.den_pos
def SzQ.divInt (ha:Sz n a) (g:Sz n b) (h0:b≠0):SzQ n (Rat.divInt a b):=by
 constructor
 ·refine ha.le ?_;rw [Rat.num_divInt,Int.natAbs_ediv_of_dvd ?_]
  ·rw [Int.natAbs_mul];have e:b.sign.natAbs=1:=Int.natAbs_sign_of_ne_zero h0;rw [e,Nat.one_mul];exact Nat.div_le_self _ _
  ·exact Int.dvd_trans (Int.gcd_dvd_right b a) (Int.dvd_mul_left _ _)
 ·refine g.le ?_;rw [Rat.den_divInt,QP h0];show b.natAbs / b.gcd a<=b.natAbs;exact Nat.div_le_self _ _
def HN:bootBuiltins "len"=some (.builtin "len"):=by decide+kernel
def bt_abs:bootBuiltins "abs"=some (.builtin "abs"):=by decide+kernel
def HM:bootBuiltins "min"=some (.builtin "min"):=by decide+kernel
def bt_max:bootBuiltins "max"=some (.builtin "max"):=by decide+kernel
def GC:bootBuiltins "isinstance"=some (.builtin "isinstance"):=by decide+kernel
def bt_int:bootBuiltins "int"=some (.type "int"):=by decide+kernel
def bt_bool:bootBuiltins "bool"=some (.type "bool"):=by decide+kernel
def bt_tuple:bootBuiltins "tuple"=some (.type "tuple"):=by decide+kernel
def bt_list:bootBuiltins "list"=some (.type "list"):=by decide+kernel
def oU:bootBuiltins "enumerate"=some (.type "enumerate"):=by decide+kernel
def HL:bootBuiltins "zip"=some (.type "zip"):=by decide+kernel
def rG:bootBuiltins "reversed"=some (.type "reversed"):=by decide+kernel
def bt_sum:bootBuiltins "sum"=some (.builtin "sum"):=by decide+kernel
structure Bl (mg:Str->Option Value):Prop where
 len:mg "len"=none
 abs:mg "abs"=none
 min:mg "min"=none
 max:mg "max"=none
 isinstance:mg "isinstance"=none
 range:mg "range"=none
 int:mg "int"=none
 bool:mg "bool"=none
 tuple:mg "tuple"=none
 list:mg "list"=none
 enumerate:mg "enumerate"=none
 zip:mg "zip"=none
 reversed:mg "reversed"=none
 ValueError:mg "ValueError"=none
 sum:mg "sum"=none
 str:mg "str"=none
def CH {c A B:Prop} [Decidable c] (q:¬c->A) (m:c->B):if (!decide c)=true then A else B:=by
 by_cases g:c
 ·rw [QZ g];exact m g
 ·rw [Tc g];exact q g
def Yy {c A B:Prop} [Decidable c] (q:c->A) (m:¬c->B):if decide c=true then A else B:=by
 by_cases g:c
 ·rw [QZ g];exact q g
 ·rw [Tc g];exact m g
def GW {ms:List Int} {k:Int} (h0:0<=k) (h:k<(ms.length:Int)):atI (ms.map V.int) k=some (.int (ms.getD k.toNat 0)):=by
 have g:k.toNat<ms.length:=⋯
 have m:k=((k.toNat:Nat):Int):=⋯
 have q:atI (ms.map V.int) ((k.toNat:Nat):Int)=some (.int (ms.getD k.toNat 0)):=yl (by rw [Qh,Qb g,Qk,Qb g];rfl);rwa [<-m] at q
def bh (m:0<b):(a.fdiv (Int.gcd a b:Nat)=(Rat.divInt a b).num)/\b.fdiv (Int.gcd a b:Nat)=((Rat.divInt a b).den:Int):=by
 have g:(0:Int)<=((Int.gcd a b:Nat):Int):=Int.natCast_nonneg _;rw [TN _ g,TN _ g,Rat.num_divInt,Rat.den_divInt,QP ⋯,Int.gcd_comm b a,Int.sign_eq_one_of_pos m,Int.one_mul];refine ⟨rfl,?_⟩;have e:b=(b.natAbs:Int):=⋯
 rw [Int.natCast_ediv,<-e]
def Cs (g:b<0):(a.fdiv (-((Int.gcd a b:Nat):Int))=(Rat.divInt a b).num)/\b.fdiv (-((Int.gcd a b:Nat):Int))=((Rat.divInt a b).den:Int):=by
 have h:=bh (a:= -a) (b:= -b) ⋯;rw [Rat.neg_divInt_neg,Int.neg_gcd,Int.gcd_neg] at h;rw [<-h.1,<-h.2]
 constructor
 ·rw [<-Int.neg_fdiv_neg,Int.neg_neg]
 ·rw [<-Int.neg_fdiv_neg,Int.neg_neg]
def sC (h:1<=n) (m: -2<x) (g:x<2):Sz n x:=Sz.mono (show Sz 1 x by unfold Sz;omega) h
def tQ (a b:Int):Int.gcd b (a % b)=Int.gcd a b:=by
 have e:a % b=a - b*(a / b):=by have:=Int.mul_ediv_add_emod a b;omega
 rw [e,Int.gcd_sub_mul_left_right,Int.gcd_comm]
noncomputable def yX (cells:List (Str×Addr)):List (Str×NameKind)->List (Str×Addr)->List (Str×Addr)
 |[],acc=>acc
 |(n,k)::r,acc=>yX cells r (if k== .free then (n,(cells.lookup n).getD 0)::acc else acc)
def Wf (h:∀y∈scope.names,y.2= .free->∃c,env.cells.lookup y.1=some c):closureFor scope env=pure (yX env.cells scope.names []):=by
 have key:∀(names:List (Str×NameKind)) (acc:List (Str×Addr)),(∀y∈names,y.2= .free->∃c,env.cells.lookup y.1=some c)->
  (forIn names acc λx r=>match x with
   |(name,kind)=>if (kind==NameKind.free)=true then do
    let a<-cellOf env name
    pure (ForInStep.yield ((name,a)::r))
    else pure (ForInStep.yield r):Sem (List (Str×Addr)))=pure (yX env.cells names acc):=by
  intro names
  induction names with
  |nil=>intro acc _;rfl
  |cons y r g=>
   intro acc m;obtain ⟨n,k⟩:=y;rw [List.forIn_cons,yX];have hr:=λz hz=>m z (Qf _ hz)
   cases hk:k==NameKind.free with
   |false=>
    simp only [hk,jaE,if_false,pure_bind];exact g acc hr
   |true=>
    obtain ⟨c,q⟩:=m (n,k) (Qe ..) ‹hk›;have s:cellOf env n=pure c:=by unfold cellOf;rw [q]
    simp only [hk,if_true,s,pure_bind,q,Option.getD_some];exact g _ hr
 simp only [closureFor];rw [key _ _ h];rfl
theorem Wg:∀{names:List (Str×NameKind)} {acc:List (Str×Addr)},(∀y∈names,y.2= .free->∃c,cells.lookup y.1=some c)->(∀c,acc.lookup x=some c->cells.lookup x=some c)->
 (yX cells names acc).lookup x=some c->cells.lookup x=some c
 |[],acc,_,ha,h=>ha c h
 |(n,k)::r,acc,hn,ha,h=>by
  rw [yX] at h;refine Wg (λz hz=>hn z (Qf _ hz)) (λm g=>?_) h
  cases hk:k==NameKind.free with
  |false=>rw [hk] at g;simp only [jaE,if_false] at g;exact ha m g
  |true=>
   rw [hk] at g;simp only [if_true] at g;obtain ⟨d,hd⟩:=hn (n,k) (Qe ..) ‹hk›;rw [jaV] at g
   cases hx:x==n with
   |true=>
    rw [hx] at g;have e:x=n:=by simpa using hx
    subst e;have q:cells.lookup x=some d:=hd;rw [q] at g⊢;exact g
   |false=>rw [hx] at g;exact ha m g
theorem XG:∀{names:List (Str×NameKind)} {acc:List (Str×Addr)},((x,NameKind.free)∈names\/(acc.lookup x).isSome=true)->((yX cells names acc).lookup x).isSome=true
 |[],acc,h=>by
  rcases h with h|h
  ·exact absurd h (Qp)
  ·exact h
 |(n,k)::r,acc,h=>by
  rw [yX];refine XG ?_
  have keep:(acc.lookup x).isSome=true->((if (k==NameKind.free)=true then (n,(cells.lookup n).getD 0)::acc else acc).lookup x).isSome=true:=λz=>by
   split
   ·rw [jaV];split<;>simp [z]
   ·exact z
  rcases h with h|h
  ·rcases Qn.mp h with e|e
   ·cases e;refine .inr ?_
    simp
   ·exact .inl e
  ·exact .inr (keep h)
noncomputable def xv (X:Cx) (N:List Str) (scope:Scope) (C:Addr) (ex:List Addr) (s:Shared) (H:Hp):Cx where
 prog:=X.prog
 w:=X.w
 K:=X.K
 mg:=X.mg
 base:=X.base
 A:=X.A
 N:=N
 s₀:=s
 H₀:=H
 env:=compEnvC scope (yX X.env.cells scope.names []) C X.env
 outer:=X.stack
 stack:=X.stack
 ex:=ex
 fn:=λ_=>false
 calm:=X.calm
 pn:=[]
 xe:=λ_ _=>False
noncomputable def frσ (σ:L2.St) (fr:List Nat):L2.St:=fr.map λj=>(σ[j]?).getD none
structure CompOk (X:Cx) (N:List Str) (n:Nat) (fr:List Nat) (scope:Scope):Prop where
 kind:scope.kind= .function
 nd:N.Nodup
 names:(N.drop n)=fr.map (λj=>(X.N[j]?).getD ("":Str))
 own:n<=N.length
 inx:(fr.all λj=>decide (j<X.N.length))=true
 free:((N.drop n).all λx=>decide (scope.names.lookup x=some .free))=true
 nocell:(scope.names.all λy=>decide (y.2≠ .cell))=true
 loc:(scope.names.all λy=>decide (y.2= .local->scope.names.lookup y.1=some .local))=true
 seen:(scope.names.all λy=>decide (y.2= .free->(X.env.kindOf y.1=some .cell\/X.env.kindOf y.1=some .free)))=true
def UD (h:(relabel scope env).names.lookup x=some k) (q:k= .cell\/k= .free) (t:(scope.names.all λy=>decide (y.2≠ .cell))=true):(x,NameKind.free)∈scope.names:=by
 unfold relabel at h;dsimp only at h
 have key:∀names:List (Str×NameKind),(names.all λy=>decide (y.2≠ .cell))=true->
  (names.map λ(n,k)=>if (k==NameKind.free && env.scope.kind== .function && env.kindOf n==some .cell)=true then (n,NameKind.cell) else (n,k)).lookup x=some k->(x,NameKind.free)∈names:=by
  intro names
  induction names with
  |nil=>intro _ h;simp at h
  |cons y r m=>
   intro ha h;obtain ⟨n,j⟩:=y;rw [List.all_cons,jas] at ha;rw [Ql] at h;have u:∀(b:Bool) (g:NameKind),((if b=true then (n,NameKind.cell) else (n,g)):Str×NameKind)=(n,if b=true then NameKind.cell else g):=by intro b g;cases b<;>rfl
   dsimp only at h;rw [u,jaV] at h
   cases hx:x==n with
   |false=>rw [hx] at h;exact Qf _ (m ha.2 h)
   |true=>
    rw [hx] at h;have e:x=n:=by simpa using hx
    subst e;have h':=QK h;have s:j≠ .cell:=by simpa using ha.1
    have:j= .free:=by
     cases hb:(j==NameKind.free && env.scope.kind== .function && env.kindOf x==some .cell) with
     |true=>
      rw [jas,jas] at hb
      simpa using hb.1.1
     |false=>
      rw [hb] at h';simp only [jaE,if_false] at h';subst h'
      rcases q with z|z
      ·exact absurd z s
      ·exact z
    subst this;exact Qe ..
 exact key _ t h
def cq (h:scope.names.lookup x=some .free):(relabel scope env).names.lookup x=some .cell\/(relabel scope env).names.lookup x=some .free:=by
 unfold relabel;dsimp only
 have key:∀names:List (Str×NameKind),names.lookup x=some .free->
  (names.map λ(n,k)=>if (k==NameKind.free && env.scope.kind== .function && env.kindOf n==some .cell)=true then (n,NameKind.cell) else (n,k)).lookup x=some .cell\/(names.map λ(n,k)=>if (k==NameKind.free && env.scope.kind== .function && env.kindOf n==some .cell)=true then (n,NameKind.cell) else (n,k)).lookup x=some .free:=by
  intro names
  induction names with
  |nil=>intro h;simp at h
  |cons y r m=>
   intro h;obtain ⟨n,j⟩:=y;have q:∀(b:Bool) (g:NameKind),((if b=true then (n,NameKind.cell) else (n,g)):Str×NameKind)=(n,if b=true then NameKind.cell else g):=by intro b g;cases b<;>rfl
   rw [Ql];dsimp only;rw [q,jaV];rw [jaV] at h
   cases hx:x==n with
   |false=>rw [hx] at h;exact m h
   |true=>
    rw [hx] at h;cases QK h;dsimp only
    split
    ·exact .inl rfl
    ·exact .inr rfl
 exact key _ h
section
variable {X:Cx} {N:List Str} {n:Nat} {fr:List Nat} {scope:Scope} {pins:Pn} {σ:L2.St} {H:Hp} {s:Shared}
def CompOk.cells (O:CompOk X N n fr scope) (I:Inv X pins σ H s):∀y∈scope.names,y.2= .free->∃c,X.env.cells.lookup y.1=some c:=λy g hf=>I.ok.has y.1 (Qz (TU.mp O.seen y g) hf)
def wD (O:CompOk X N n fr scope) (I:Inv X pins σ H s) (hf:∀b∈fp,se X pins H b) (Rm:∀b∈fp,b<s.heap.objs.size)
 (MP:h'.Ns s.heap.objs.size m) (keep:∀b o,s.heap.get? b=some o->h'.get? b=some o):
 Inv (xv X N scope s.heap.objs.size fp s H) [] (List.replicate n none++frσ σ fr) H {s with heap:=h',toks:=tk}:=by
 have MF:=O.cells I;have w:∀x c,(yX X.env.cells scope.names []).lookup x=some c->X.env.cells.lookup x=some c:=λx c h=>Wg MF (λc h=>by simp at h) h;have cne:∀x c,(yX X.env.cells scope.names []).lookup x=some c->∃v,s.heap.IsCell c v:=λx c h=>I.cell x c (w x c h)
 have Y:∀x c,(yX X.env.cells scope.names []).lookup x=some c->c<s.heap.objs.size:=λx c h=>by
  obtain ⟨v,o,A,_⟩:=cne x c h;exact Qr A
 refine ⟨⟨I.mod,O.kind,I.ok.glob,I.ok.blt,Qu _,λx y c C g=>I.ok.inj x y c (w x c C) (w y c g),λx r=>?_,λx c h=>(by cases h),I.ok.hd,I.ok.frames, .inl rfl,λb t=>⟨QN (Rm b t),λx c h=>(hf b t).2.2.2.2.1 x c (w x c h)⟩,I.bs,QW I.ok.bsz I.sz,λb o e t=>?_,λb t z=>?_,I.stack,I.stkFree⟩,
  rfl,I.bare,Un.kept keep,⟨m,MP,λi x v C g h3=>?_⟩,λx c h=>?_,I.hok.fresh (Qu _),λx c h=>I.freeC x c (w x c h),λp hp=>absurd hp (by simp [xv]),I.hok.kept keep,?_⟩
 ·have LO:(x,NameKind.free)∈scope.names:=by
   rcases r with r|r
   ·exact UD r (.inl rfl) O.nocell
   ·exact UD r (.inr rfl) O.nocell
  exact jaT.mp (XG (.inl LO))
 ·rcases (hf b t).2.2.2.1 with z|z
  ·exact I.ok.noex b o e z
  ·exact absurd (Ta (Qr (I.ok.bs b o e).1) z) (jan _)
 ·rcases Qn.mp (I.stkSub b z) with q|q
  ·exact (hf b t).2.1 q
  ·exact (hf b t).2.2.1 q
 ·by_cases D:i<n
  ·rw [jaA ‹D›,QX,QH D] at g;cases g
  ·have G:(N.drop n)[i - n]? =some x:=by rw [jay,show n+(i - n)=i by omega];exact C
   rw [TQ ‹D›,QE] at g;unfold frσ at g;rw [Qh] at g;rw [O.names,Qh] at G
   cases ej:fr[i - n]? with
   |none=>rw [ej] at g;cases g
   |some j=>
    rw [ej] at g G;have SE:j<X.N.length:=Qz (TU.mp O.inx j (Qc ej))
    have r:X.N[j]? =some x:=by
     have e:=QK G;dsimp only at e;rw [Qb SE] at e⊢;exact congrArg some e
    have T:σ[j]? =some (some v):=by
     have e:=QK g;dsimp only at e
     cases es:σ[j]? with
     |none=>rw [es] at e;cases e
     |some o=>rw [es] at e;rw [show o=some v from e]
    have M:scope.names.lookup x=some .free:=by
     refine Qz (TU.mp O.free x ?_);exact Qc (i:=i - n) (by rw [jay,show n+(i - n)=i by omega];exact C)
    have L:(x,NameKind.free)∈scope.names:=jaM M;have K:=Qz (TU.mp O.seen _ L) rfl;obtain ⟨mX,U,Z⟩:=I.loc;obtain ⟨u,ru,P⟩:=Z j x v r T (K.elim (λz=> .inr (.inl z)) λz=> .inr (.inr z));refine ⟨u,ru, .inr ⟨?_,?_⟩⟩
    ·exact cq M
    ·obtain ⟨c,J⟩:=jaT.mp (XG (cells:=X.env.cells) (acc:=[]) (.inl L));refine ⟨c,J,?_⟩
     rcases P with ⟨k,_⟩|⟨_,c',LK,z⟩
     ·rcases K with q|q
      ·rw [show X.env.kindOf x=_ from k] at q;cases q
      ·rw [show X.env.kindOf x=_ from k] at q;cases q
     ·have:=w x c J;rw [LK] at this;cases this;obtain ⟨o,A,hd⟩:=z;exact ⟨o,keep _ _ A,hd⟩
 ·obtain ⟨v,o,A,hd⟩:=cne x c h;exact ⟨v,o,keep _ _ A,hd⟩
 ·rw [QB,QE];unfold frσ;have e:=congrArg List.length O.names;rw [Tz,Qa] at e;have:=O.own;show _=N.length;rw [Qa];omega
end
def PIf (Y:Cx) (ifs:List Expr) (tt:TT):Prop:=
 ∀(pins:Pn) (s:Shared) (σ:L2.St) (H:Hp) (Q:Bool->Hp->Prop),Inv Y pins σ H s->tt σ H Q->
  wpAny (model Y.prog Y.w) Y.A (forIn ifs true λc r=>if r=true then do let ok<-isTrue c Y.env (eval c Y.env);pure (ForInStep.yield ok) else pure (ForInStep.yield r)) (TP Y pins σ Q) Y.xe s
def tTrue:TT:=λ_ H Q=>Q true H
def qD:PIf Y [] tTrue:=λpins s σ H Q I h=>wpAny_tests_nil ⟨H,I,h⟩
def pif_one {Y:Cx} {c:Expr} {tt:TT} (h:PT Y c tt):PIf Y [c] tt:=λpins s σ H Q I q=>wpAny_tests_one (h pins s σ H Q I q)
abbrev Blk (α:Type):=Addr->List Addr->Shared->Hp->α
def uP (n:Nat) (fr:List Nat) (z:TI) (g:Blk TG) (tt:Blk TT) (A:Blk TE):TE:=λσ H Q=>z σ H λJ H1=>∀D,H1 D=none->∀C ex s0 s,
 ∃W:Nat->Nat->List V->Hp->Prop,(∃m,W 0 m [] (upd H1 D (.lst [])))/\∀i m ys q,W i m ys q->q D=some (.lst ys)/\
  ((J.stop i q/\Q (.ref D) q)\/(J.go i q/\∀x w,J.yld i q x w->g C ex s0 s x (List.replicate n none++frσ σ fr) w λσ4 H4=>σ4.drop n=frσ σ fr/\tt C ex s0 s σ4 H4 λb u=>
    if b=true then A C ex s0 s σ4 u λy t=>t D=some (.lst ys)/\ys.length<sizeLine/\∃r,r<m/\W (i+1) r (ys++[y]) (upd t D (.lst (ys++[y])))
    else ∃r,r<m/\W (i+1) r ys u))
structure Side (X:Cx) (pins:Pn) (H:Hp) (C:Addr):Prop where
 nt:H C=none
 nl:C≠X.env.locals
 ab:X.s₀.heap.objs.size<=C
 nc:∀x c,X.env.cells.lookup x=some c->c≠C
 np:∀p∈X.pn++pins,p.1≠C
section
variable {X:Cx} {N:List Str} {n:Nat} {fr:List Nat} {scope:Scope}
def yS {α:Type} {M:Model} {A:Around} {m:Sem α} {Q:α->Shared->Prop} {E:Value->Shared->Prop} {s:Shared} (h:wpAny M A m Q (λ_ _=>False) s):wpAny M A m Q E s:=wpAny_mono h (λ_ _ q=>q) λ_ _ z=>z.elim
def ue {tg iter elt:Expr} {ifs:List Expr} {pos:Pos} {g:Blk TG} {tt:Blk TT} {te:Blk TE} {pins:Pn} {σ:L2.St} {z:Hp} {s2:Shared} {it:Addr} {I:List Addr} {tn:Nat->Heap->Prop} {J:It} {Q:VK}
 {RR:Value->Addr->Result->Shared->Prop} {E:Value->Shared->Prop}
 (hc:X.calm=true) (O:CompOk X N n fr scope)
 (hg:∀C ex s H,PG (xv X N scope C ex s H) tg (g C ex s H)) (ht:∀C ex s H,PIf (xv X N scope C ex s H) ifs (tt C ex s H)) (he:∀C ex s H,PE (xv X N scope C ex s H) elt (te C ex s H))
 (I2:Inv X pins σ z s2) (T:Turn X.prog X.w X.K tg J I it tn) (Mf:tn 0 s2.heap) (f2:∀b∈I,se X pins z b)
 (hW:∀D,z D=none->∀C ex s0 H0,∃W:Nat->Nat->List V->Hp->Prop,(∃m,W 0 m [] (upd z D (.lst [])))/\∀i m ys z,W i m ys z->z D=some (.lst ys)/\
  ((J.stop i z/\Q (.ref D) z)\/(J.go i z/\∀x H3,J.yld i z x H3->g C ex s0 H0 x (List.replicate n none++frσ σ fr) H3 λσ4 H4=>σ4.drop n=frσ σ fr/\tt C ex s0 H0 σ4 H4 λb U=>
    if b=true then te C ex s0 H0 σ4 U λy H6=>H6 D=some (.lst ys)/\ys.length<sizeLine/\∃M,M<m/\W (i+1) M (ys++[y]) (upd H6 D (.lst (ys++[y])))
    else ∃M,M<m/\W (i+1) M ys U)))
 (hR:∀(D C:Addr) (H':Hp) (s':Shared),Q (.ref D) H'->(∃m,s'.heap.Ns C m)->Side X pins H' C->Inv X pins σ H' s'->RR (.ref D) C (.ok .next) s'):
 wpAny (model X.prog X.w) X.A (newList []) (λacc s₃=>wpAny (model X.prog X.w) X.A (newFunctionEnv scope X.env.globals (yX X.env.cells scope.names []) [] X.env.qual none .none (some X.env)) (λcenv s₄=>
  codeAny (model X.prog X.w) X.A (.compStart (.ListComp elt [⟨tg,iter,ifs,0⟩] scope pos) 0 (.ref it) acc {cenv with scope:=relabel scope X.env}) (RR acc cenv.locals) s₄) E s₃) E s2:=by
 have nocell:∀y∈scope.names,y.2≠ .cell:=λy hy=>Qz (TU.mp O.nocell y hy);refine jai (wpAny_newFunctionEnv nocell (by intro y hy;simp at hy) (λh₁ MP₁ PY₁=>?_) O.kind);have hDn:z s2.heap.objs.size=none:=I2.fresh;have I3:Inv X pins σ (upd z s2.heap.objs.size (.lst [])) {s2 with heap:=s2.heap.push {cls:= .type "list",data:= .seq ([]:List Value).toArray},toks:=s2.toks}:=I2.lnew (its:=[]) .nil (jar _);generalize hD:s2.heap.objs.size=D at*;dsimp only at MP₁ PY₁⊢;generalize Pb:s2.heap.push {cls:= .type "list",dict:=none,data:= .seq ([]:List Value).toArray}=t at*;have RZ:∀b o,s2.heap.get? b=some o->t.get? b=some o:=λb o e=>by rw [<-Pb];exact Qi _ e
 have RN:t.objs.size=D+1:=by rw [<-Pb,QV,hD]
 have keep:∀b o,t.get? b=some o->h₁.get? b=some o:=λb o e=>PY₁.extBut b o (QN (Qr e)) (Qi _ e)
 have flt:∀b∈I,b<D:=λb q=>by
  obtain ⟨o,ho,_⟩:=T.obj _ _ Mf b q;rw [<-hD];exact Qr ho
 have f3:∀b∈I,se X pins (upd z D (.lst [])) b:=λb q=>⟨by rw [yh (QN (flt b q))];exact (f2 b q).1,(f2 b q).2⟩;have IY:=wD (tk:=s2.toks+([]:List (Str×Value)).length) O I3 f3 (λb q=>by show b<t.objs.size;rw [RN];exact Tx (flt b q)) MP₁ keep;obtain ⟨W,⟨m0,w0⟩,turn⟩:=hW _ hDn t.objs.size I {s2 with heap:=t,toks:=s2.toks} (upd z D (.lst []));have OQ:tn 0 h₁:=T.keep _ _ _ Mf λb q o e=>keep b o (RZ b o e);generalize G:xv X N scope t.objs.size I {s2 with heap:=t,toks:=s2.toks} (upd z D (.lst []))=Y at*;have P:Y.env=compEnvC scope (yX X.env.cells scope.names []) t.objs.size X.env:=by rw [<-G];rfl
 have Pl:=hg t.objs.size I {s2 with heap:=t,toks:=s2.toks} (upd z D (.lst []));have Pa:=ht t.objs.size I {s2 with heap:=t,toks:=s2.toks} (upd z D (.lst []));have Po:=he t.objs.size I {s2 with heap:=t,toks:=s2.toks} (upd z D (.lst []));rw [G] at Pl Pa Po;have eP:Y.prog=X.prog:=by rw [<-G];rfl
 have Z:Y.w=X.w:=by rw [<-G];rfl
 have eK:Y.K=X.K:=by rw [<-G];rfl
 have eA:Y.A=X.A:=by rw [<-G];rfl
 have eC:Y.calm=true:=by rw [<-G];exact hc
 have eX:Y.xe=λ_ _=>False:=by rw [<-G];rfl
 have fY:∀{H':Hp},(∀b∈I,H' b=none)->∀b∈I,se Y [] H' b:=λ{H'} hn b q=>by
  have h1:=IY.ok.exf b (by rw [<-G];exact q);refine ⟨hn b q,h1.1,IY.ok.exfs b (by rw [<-G];exact q), .inl (by rw [<-G];exact q),h1.2,λp hp=>absurd hp (by rw [<-G];simp [xv])⟩
 have loop:codeAny (model X.prog X.w) X.A (.compLoop (.ListComp elt [⟨tg,iter,ifs,0⟩] scope pos) 0 (.ref it) (.ref D) (compEnvC scope (yX X.env.cells scope.names []) t.objs.size X.env))
  (RR (.ref D) t.objs.size) {s2 with heap:=h₁,toks:=s2.toks+([]:List (Str×Value)).length}:=by
  refine codeAny_loop rfl (λk s'=>∃i ys H',Inv Y [] (List.replicate n none++frσ σ fr) H' s'/\tn i s'.heap/\(∀b∈I,H' b=none)/\W i k ys H') (λk s5 hI=>?_) m0 ⟨0,[],_,IY,OQ,λb q=>(f3 b q).1,w0⟩;obtain ⟨i,ys,U,I5,Nn,Om,w5⟩:=hI;show wpAny _ X.A ((compTurn (.ListComp elt [⟨tg,iter,ifs,0⟩] scope pos) 0 (.ref it) (.ref D) _).onRaise (λx=>do noteFrame x _;theTreesLotGoes x)) _ _ s5;refine wpAny_noted ?_;rw [compTurn_list,<-P];refine Qg (wpAny_standAt (Qg ?_));obtain ⟨Rx,step⟩:=turn i k ys U w5
  rcases step with ⟨stop,qn⟩|⟨go,step⟩
  ·have d:=T.done Y eP Z eK eC i [] s5 _ U (λ_ _=>False) I5 (fY Om) Nn stop;rw [eA] at d;refine yS (thn d λr s6 L=>?_);obtain ⟨hr,I6⟩:=L;subst hr;refine Qq ?_;have hC:U t.objs.size=none:=by have:=I6.free;rw [P] at this;exact this
   have Of:∃m,s6.heap.Ns t.objs.size m:=by
    have:=I6.loc;rw [P] at this;obtain ⟨m,hm,_⟩:=this;exact ⟨m,hm⟩
   have sd:Side X pins U t.objs.size:=⟨hC,jaI I3.lt,I3.sz,λx c e=>QN (let ⟨v,o,ho,_⟩:=I3.cell x c e;Qr ho),λp hp=>QN (Qr (I3.pin p hp).1)⟩;refine hR D t.objs.size U s6 qn Of sd ?_;have un:=I6.base;have e0:Y.s₀.heap=t:=by rw [<-G];rfl
   have eH0:Y.H₀=upd z D (.lst []):=by rw [<-G];rfl
   have eF:Y.fs=frs X.stack:=by rw [<-G];rfl
   have eEx:Y.ex=I:=by rw [<-G];rfl
   rw [e0,eH0,eF,eEx] at un;have MW:HOk X.prog X.w U s6.heap:=by have:=I6.hok;rw [eP,Z] at this;exact this
   have RV:s6.os=s2.os:=I6.os.trans (by rw [<-G];rfl);exact I3.call' (s':=s6) (ch:=I) RV un MW I6.bare λb q=>⟨(f2 b q).2.2.2.1,(f2 b q).2.1,(f2 b q).2.2.2.2.1,(f2 b q).2.2.2.2.2⟩
  ·have d:=T.item Y eP Z eK eC i [] s5 _ U (λ_ _=>False) I5 (fY Om) Nn go;rw [eA] at d;refine yS (thn d λr s6 L=>?_);obtain ⟨u,hr,h6⟩:=L;subst hr;refine Qg (yS (thn h6 λ_ s7 L=>?_));obtain ⟨x,H7,I7,r7,y7,NU,fr7⟩:=L;have I7':=I7.pinned (fY fr7) (T.obj _ _ NU);have g7:=Pl _ s7 _ H7 x u _ I7' r7 (step x H7 y7);rw [eA,eP,Z,eX] at g7;refine Qg (yS (thn g7 λ_ s8 L=>?_));obtain ⟨σ8,H8,I8,ed,q8⟩:=L;have t8:=Pa _ s8 σ8 H8 _ I8 q8;rw [eA,eP,Z,eX] at t8;refine Qg (yS (thn t8 λb s9 L=>?_));obtain ⟨H9,I9,q9⟩:=L
   have back:∀{s':Shared} {H':Hp} {NS:List V} {M:Nat},Inv Y ([]++jk I s7.heap) σ8 H' s'->M<k->W (i+1) M NS H'->∃m,m<k/\∃i ys H',Inv Y [] (List.replicate n none++frσ σ fr) H' s'/\tn i s'.heap/\(∀b∈I,H' b=none)/\W i m ys H':=λ{s' H' NS M} I' hm w'=>by
    refine ⟨M,hm,i+1,NS,H',?_,T.keep _ _ _ NU λb q o e=>(I'.pin (b,o) (QI _ (QI _ (Yl q e)))).1,λb q=>?_,w'⟩
    ·refine (Inv.unpinned I').weak ?_ λj v hj=>?_
     ·exact IY.len.trans I'.len.symm
     ·by_cases Oh:j<n
      ·rw [jaA ‹Oh›,QX,QH Oh] at hj;cases hj
      ·rw [TQ ‹Oh›,QE,<-ed,jay,show n+(j - n)=j by omega] at hj;exact hj
    ·obtain ⟨o,e,d⟩:=T.obj _ _ NU b q;exact (I'.pin (b,o) (QI _ (QI _ (Yl q e)))).2.1
   cases b with
   |false=>
    obtain ⟨M,hm,w9⟩:=q9;exact Qq ⟨rfl,back I9 hm w9⟩
   |true=>
    have e9:=Po _ s9 σ8 H9 _ I9 q9;rw [eA,eP,Z,eX] at e9;refine Qg (Qg (yS (thn e9 λv RP L=>?_)));obtain ⟨y,Nh,I10,RQ,Ol,hz,M,hm,OP⟩:=L;have PM:=om _ RP σ8 Nh (.ref D) [y] (.ref D) [v] (λ_ H'=>H'=upd Nh D (.lst (ys++[y]))) I10 rfl (.cons RQ .nil) ⟨D,ys,y,rfl,rfl,Ol,hz,rfl⟩;rw [eA,eP,Z,eX] at PM;refine Qg (yS (thn PM λ_ s11 L=>?_));obtain ⟨_,Ov,I11,_,NM⟩:=L;subst NM;exact Qq (Qq ⟨rfl,back I11 hm OP⟩)
 exact codeAny_compStart_list loop (T.self _ _ _ _ _ OQ loop)
def Ja {t iter elt:Expr} {ifs:List Expr} {pos:Pos} {u:TI} {g:Blk TG} {tt:Blk TT} {z:Blk TE}
 (U:X.calm=true) (O:CompOk X N n fr scope) (M:PI X t iter u)
 (P:∀C ex s H,PG (xv X N scope C ex s H) t (g C ex s H)) (ht:∀C ex s H,PIf (xv X N scope C ex s H) ifs (tt C ex s H)) (he:∀C ex s H,PE (xv X N scope C ex s H) elt (z C ex s H))
 (L:∀x,foldedSetIterable iter X.env x=pure x:=by intro _;rfl):
 PE X (.ListComp elt [⟨t,iter,ifs,0⟩] scope pos) (uP n fr u g tt z):=by
 intro pins s σ H Q I h;rw [eval_ListComp];refine jbN (use:=none) rfl L (Wf (O.cells I)) O.kind (λy K=>Qz (TU.mp O.loc y K)) (thn (M pins s σ H _ I h) λv s1 h1=>thn h1 λG s2 h2=>?_);obtain ⟨it,fp,tn,J,H2,e,I2,T,Mf,f2,Z⟩:=h2;subst e;refine ue (RR:=λacc C=>compPost (model X.prog X.w) X.A X.xe none (EP X pins σ Q) acc C) U O P ht he I2 T Mf f2 Z ?_;intro D C H' s' q ⟨m,hm⟩ r inv;exact ⟨m,hm,λh' ND=>⟨.ref D,H',inv.turned (t':=s'.toks) (it:=C) (λb o Y e=>ND.extBut b o Y e) r.nt r.nl (.inr r.ab) r.nc r.np,rfl,q⟩⟩
def vx {i:Nat} {x:Str} {u:Pos} {G iter elt:Expr} {ifs:List Expr} {pos r:Pos} {L:TI} {g:Blk TG} {tt:Blk TT} {M:Blk TE}
 (hN:X.N.Nodup) (hx:X.N[i]? =some x) (P:X.env.scope.names.lookup x=some .local)
 (hc:X.calm=true) (O:CompOk X N n fr scope) (hi:PI X G iter L)
 (hg:∀C ex s H,PG (xv X N scope C ex s H) G (g C ex s H)) (ht:∀C ex s H,PIf (xv X N scope C ex s H) ifs (tt C ex s H)) (he:∀C ex s H,PE (xv X N scope C ex s H) elt (M C ex s H))
 (Sk:swapsWith (.ListComp elt [⟨G,iter,ifs,0⟩] scope pos) (some (.Name x u)) r.line X.env=pure true:=by rfl)
 (hs:∀x,foldedSetIterable iter X.env x=pure x:=by intro _;rfl):
 PS X (.Assign [.Name x u] (.ListComp elt [⟨G,iter,ifs,0⟩] scope pos) r) (Kk (uP n fr L g tt M) (lT i)):=by
 intro pins s σ H D I h;rw [exec_Assign_Name_used _ _ _ _ Sk];refine Qg (wpAny_standAt (Qg ?_));show wpAny _ X.A (do let _<-comprehension (.ListComp elt [⟨G,iter,ifs,0⟩] scope pos) scope X.env _ (newList []) false (eval iter X.env) (some (assign (.Name x u) X.env))) _ _ s
 refine Qg (wpAny_mono (jbN (use:=some (assign (.Name x u) X.env)) (Q:=λ_ s'=>SP X pins D .next s') rfl hs (Wf (O.cells I)) O.kind (λy hy=>Qz (TU.mp O.loc y hy))
  (thn (hi pins s σ H _ I h) λv s1 h1=>thn h1 λZ s2 h2=>?_)) (λ_ s' hq=>Qq (Qq hq)) λ_ _ e=>e)
 obtain ⟨it,fp,tn,J,H2,e,I2,T,Mf,f2,hW⟩:=h2;subst e;refine ue (Q:=λx H1=>lT i x σ H1 D.nx) (RR:=λacc C=>compPost (model X.prog X.w) X.A X.xe (some (assign (.Name x u) X.env)) (λ_ s'=>SP X pins D .next s') acc C) hc O hg ht he I2 T Mf f2 hW ?_;intro U C H' s' q ⟨m,hm⟩ t inv;show wpAny _ X.A (assign (.Name x u) X.env (.ref U)) _ _ _;refine wpAny_assign_Name (nh (i:=i) (v:= .ref U) inv hN hx (.inl P) rfl (?_) (.inr P));rintro Y I6 ⟨a,PY,ha⟩
 have K:C≠a:=by
  rcases ha with z|z
  ·rw [z];exact t.nl
  ·exact λe=>t.nc x a z e.symm
 refine ⟨m,hm.sameBut PY K,λh' ND=>?_⟩;refine ⟨_,H',I6.turned (t':=Y.toks) (it:=C) (λb o hb e=>ND.extBut b o hb e) t.nt t.nl (.inr t.ab) t.nc t.np,q⟩
end
open PySem.AutoSeq1 (wpAny_loadPart')
def ItB (b:Bool) (h:Heap) (it a:Addr) (i:Nat):Prop:=match b with|true=>h.IsListIter it a i|false=>h.IsTupleIter it a i
def SeB (b:Bool) (h:Heap) (a:Addr) (items:Array Value):Prop:=match b with|true=>h.IsList a items|false=>h.IsTuple a items
def SqB (b:Bool) (K:Frg) (H:Hp) (a:Addr) (xs:List V):Prop:=match b with|true=>SqL K H a xs|false=>SqT K H a xs
def ItB.at (x:ItB b h it a i) (k:∀o,h.get? it=some o->h'.get? it=some o):ItB b h' it a i:=by
 cases b with
 |true=>obtain ⟨o,g,r⟩:=x;exact ⟨o,k o g,r⟩
 |false=>obtain ⟨o,g,r⟩:=x;exact ⟨o,k o g,r⟩
def ItB.obj (x:ItB b h it a i):∃o,h.get? it=some o/\∀v,o.data≠ .cell v:=by
 cases b with
 |true=>obtain ⟨o,g,c,d⟩:=x;exact ⟨o,g,λv z=>by rw [d] at z;cases z⟩
 |false=>obtain ⟨o,g,c,d⟩:=x;exact ⟨o,g,λv z=>by rw [d] at z;cases z⟩
def SeB.at (x:SeB b h a items) (k:∀o,h.get? a=some o->h'.get? a=some o):SeB b h' a items:=by
 cases b with
 |true=>obtain ⟨o,g,r⟩:=x;exact ⟨o,k o g,r⟩
 |false=>obtain ⟨o,g,r⟩:=x;exact ⟨o,k o g,r⟩
def SeB.obj (x:SeB b h a items):∃o,h.get? a=some o:=by
 cases b with
 |true=>obtain ⟨o,g,r⟩:=x;exact ⟨o,g⟩
 |false=>obtain ⟨o,g,r⟩:=x;exact ⟨o,g⟩
section
variable {X:Cx} {pins:Pn} {σ:L2.St} {H:Hp} {s:Shared} {a:Addr} {xs ys:List V} {b:Bool}
def seB (I:Inv X pins σ H s) (h:SqB b X.K H a xs):∃its:List Value,xD xs its/\SeB b s.heap a its.toArray/\xs.length<=sizeLine:=by
 cases b with
 |true=>obtain ⟨its,r,p,z⟩:=I.list h;exact ⟨its,r,p.isList,z⟩
 |false=>obtain ⟨its,r,p,z⟩:=I.tuple h;exact ⟨its,r,p,z⟩
def qj (I:Inv X pins σ H s) (h:SqB b X.K H a xs) (h':SqB b X.K H a ys):xs=ys:=by
 cases b with
 |true=>exact I.list_inj h h'
 |false=>exact I.tuple_inj h h'
end
section
variable {prog:Program} {w:World} {A:Around} {E:Value->Shared->Prop} {s:Shared}
def aT {items}  (hit:s.heap.IsTupleIter it t i)
 (ht:s.heap.IsTuple t items) (m:items[i]? =some x)
 (r:∀h',h'.IsTupleIter it t (i+1)->Heap.SameBut it s.heap h'->Q x {s with heap:=h'}):
 wpAny (model prog w) A (Builtin.SmallTypes.nextOf (.ref it)) Q E s:=by
 obtain ⟨o,g,q,hd⟩:=id hit;obtain ⟨ol,u,_,nl,y⟩:=ht;unfold Builtin.SmallTypes.nextOf
 refine Qg (Te (name:=Str.ofString "__next__") hit.typeIs jbh
  (Ts jbh hit.typeIs F.entry_tuple_iterator_next ?_ (F.args_tuple_iterator_next_1 _)))
 show wpAny _ _ (field (.ref it) 0>>=_) _ _ s;refine Qg (jam g hd (x:= .ref t) rfl ?_);show wpAny _ _ (if (Value.ref t==Value.none)=true then _ else _) _ _ s;rw [QP (show ¬((Value.ref t==Value.none)=true) from QA)];show wpAny _ _ (field (.ref it) 1>>=_) _ _ s;refine Qg (jam g hd (x:= .int i 0) rfl ?_);show wpAny _ _ (seqItems? (.ref t)>>=_) _ _ s;refine Qg (jaC u y ?_);simp only [Tj,m];refine Qg (jbn g hd (by simp) (Qq ⟨x,rfl,Qq (r _ ?_ (Tq ..))⟩))
 exact ⟨_,TV _ g (Obj.isFreed_of_fields (jbV hd _)),(Obj.cls_mapFields ..).trans q,by
  rw [jbV hd];simp [rawInt]⟩
def cG {items} (q:A.handled=none)
 (hit:s.heap.IsTupleIter it t i) (ht:s.heap.IsTuple t items) (r:items[i]? =none)
 (u:∀h' e,Heap.ExtBut it s.heap h'->(∃o,h'.get? e=some o/\o.cls= .type "StopIteration")->E (.ref e) {s with heap:=h'}):
 wpAny (model prog w) A (Builtin.SmallTypes.nextOf (.ref it)) Q E s:=by
 obtain ⟨o,g,C,hd⟩:=id hit;obtain ⟨ol,y,_,nl,z⟩:=ht;unfold Builtin.SmallTypes.nextOf
 refine Qg (Te (name:=Str.ofString "__next__") hit.typeIs jbh
  (Ts jbh hit.typeIs F.entry_tuple_iterator_next ?_ (F.args_tuple_iterator_next_1 _)))
 show wpAny _ _ (field (.ref it) 0>>=_) _ _ s;refine Qg (jam g hd (x:= .ref t) rfl ?_);show wpAny _ _ (if (Value.ref t==Value.none)=true then _ else _) _ _ s;rw [QP (show ¬((Value.ref t==Value.none)=true) from QA)];show wpAny _ _ (field (.ref it) 1>>=_) _ _ s;refine Qg (jam g hd (x:= .int i 0) rfl ?_);show wpAny _ _ (seqItems? (.ref t)>>=_) _ _ s;refine Qg (jaC y z ?_);simp only [Tj,r];refine Qg (jca (Qg (jbn g hd (by simp) ?_)));show wpAny _ _ (newExc (.type "StopIteration") []>>=_) _ _ _;refine Qg ?_;simp only [newExc,newTuple];refine Qg (jai ?_ (by size_fits));refine Qg (m:=firstArgMember _ _) (wpAny_of_eq (a:=Value.none) (by first|rfl|(simp only [firstArgMember];rfl)) ?_);refine jai ?_ (by size_fits);simp only [raiseNew];refine Qg (wpAny_handled ?_)
 first|rw [show A.in1.handled=none from q]|rw [q]
 refine Qg (Qq (wpAny_throw ?_));exact u _ _ (((Tq ..).extBut.push _).push _) ⟨_,Qw _ rfl,rfl⟩
def Yk {items}  (hit:ItB b s.heap it a i) (m:SeB b s.heap a items) (g:items[i]? =some x)
 (q:∀h',ItB b h' it a (i+1)->Heap.SameBut it s.heap h'->Q x {s with heap:=h'}):wpAny (model prog w) A (Builtin.SmallTypes.nextOf (.ref it)) Q E s:=by
 cases b with
 |true=>exact wpAny_nextOf_list_item hit m g q
 |false=>exact aT hit m g q
def WL {items} (q:A.handled=none) (hit:ItB b s.heap it a i) (m:SeB b s.heap a items) (g:items[i]? =none)
 (r:∀h' e,Heap.ExtBut it s.heap h'->(∃o,h'.get? e=some o/\o.cls= .type "StopIteration")->E (.ref e) {s with heap:=h'}):
 wpAny (model prog w) A (Builtin.SmallTypes.nextOf (.ref it)) Q E s:=by
 cases b with
 |true=>exact wpAny_nextOf_list_end q hit m g r
 |false=>exact cG q hit m g r
end
def drawsB (u:A.handled=none) (b:Bool) (it a:Addr) (D:a≠it) (items:Array Value):
 Draws prog w A it [it,a] items.size (λi x=>items[i]? =some x) (λi h=>ItB b h it a i/\SeB b h a items) where
 live:=λi h g=>by obtain ⟨o,t,_⟩:=g.1.obj;exact ⟨o,t⟩
 frame:=λi h h' g m=>⟨g.1.at λo e=>m _ (by simp) o e,g.2.at λo e=>m _ (by simp) o e⟩
 item:=λi s Q E q g y=>Yk g.1 g.2 (Array.getElem?_eq_getElem q) λh' C r=>y _ h' s.toks (Array.getElem?_eq_getElem q) ⟨C,g.2.at λo e=>(r.2 _ D).trans e⟩ r
 done:=λs Q E g z=>WL u g.1 g.2 (by simp) z
def UW {X:Cx} {pins:Pn} {σ:L2.St} {H:Hp} {s:Shared} {h':Heap} {t':Nat} {ch:List Addr} {a:Addr} {o:HO} (I:Inv X pins σ H s) (hf:∀b∈ch,se X pins H b)
 (k:∀b o,b∉ch->s.heap.get? b=some o->h'.get? b=some o) (D:∀b∈ch,∃o,h'.get? b=some o) (ha:s.heap.objs.size<=a) (new:ZY X.prog X.w (upd H a o) h' a o):
 Inv X pins σ (upd H a o) {s with heap:=h',toks:=t'}:=by
 have y:H a=none:=I.hok.fresh ha;have same:zS H (upd H a o):=zS.new y o
 refine I.step (g':=s.gens) (d':=s.drawn) (ch:=ch) (λb t=>⟨(hf b t).2.2.2.1,(hf b t).2.1,(hf b t).2.2.2.2.1,(hf b t).2.2.2.2.2⟩) (λb u _ _ g e _=>k b u g e) (λb u _ _ g e _=>⟨u.slots,k b u g e⟩)
  (λb u g e n=>by rw [yh (QN (Ta (Qr e) ha))];exact n) (λb u g e=>⟨u,k b u g e⟩) (λb xs e=>same _ _ e) (λb u v e=>same _ _ e) (λb ps e=>⟨#[],by rw [same _ _ e];simp⟩) (λm hm=>?_) (λb u e=>?_) I.bare
 ·obtain ⟨A,es,ep,C,r⟩:=hm;exact ⟨A,es,ep,k _ A (λz=>(hf _ z).2.1 rfl) C,r⟩
 ·by_cases t:b=a
  ·subst t;rw [yM] at e;cases e;exact new
  ·rw [yh t] at e;refine (I.hok b u e).stay (λc v g q=>k c v ?_ q) (λ_ q=>same _ _ q) λ_ _ q=>same _ _ q;intro z
   rcases g with q|q
   ·rw [q] at z;rw [(hf b z).1] at e;cases e
   ·rw [(hf c z).1] at q;cases q
noncomputable def ItE (b:Bool) (K:Frg) (a:Addr):It:=
 ⟨λi H=>∃xs x,SqB b K H a xs/\xs[i]? =some x,λi H v H'=>∃p x,(∀xs,SqB b K H a xs->xs[i]? =some x)/\H p=none/\v= .ref p/\H'=upd H p (.tup [.int i,x]),λi H=>∃xs,SqB b K H a xs/\xs.length<=i⟩
def dR:(2:Nat)<=sizeLine:=by decide
def An {P:Program} {w:World} {K:Frg} {elts:List Expr} {k:Nat} {pos:Pos} (b:Bool) (a e it:Addr) (Px:a≠it) (G:e≠it) (U:e≠a):
 Turn P w K (.Tuple elts k pos) (ItE b K a) [e,it] e (λi h=>(∃old,IsEnum h e it i old)/\ItB b h it a i) where
 mem:=by simp
 obj:=λi h st c g=>by
  rcases Qn.mp g with rfl|g
  ·obtain ⟨old,z⟩:=st.1;exact ⟨_,z,λv q=>by cases q⟩
  ·obtain rfl:c=it:=by simpa using g
   exact st.2.obj
 keep:=λi h h' st Z=>by
  obtain ⟨⟨old,z⟩,y⟩:=st;exact ⟨⟨old,Z e (by simp) _ z⟩,y.at λo q=>Z it (by simp) o q⟩
 item:=by
  intro X t hw hK g i pins s σ H E I hf st hg;subst t hw hK;obtain ⟨⟨old,he⟩,hit⟩:=st;obtain ⟨xs,x,C,M⟩:=hg;obtain ⟨its,L,p,hz⟩:=seB I C;obtain ⟨u,hu,ru⟩:=L.get M;have O:=I.ok.hd g;have hi:i<its.toArray.size:=by have:=(Qd.mp hu).1;simpa using this
  refine wpAny_pyNext_enum_itemD (drawsB (A:=X.A.in1) O b it a Px its.toArray) he ⟨hit,p⟩ hi G (by simp only [Qn,Qp,or_false,not_or];exact ⟨G,U⟩) λm h' tk t N LP D hsz hk=>?_
  have ex:m=u:=by
   have r:its[i]? =some m:=by simpa using t
   rw [hu] at r;exact (QK r).symm
  subst ex;refine ⟨_,rfl,wpAny_letOwnedTupleGo_enum N λNw Pp J=>?_⟩;have Pm:e<s.heap.objs.size:=Qr he;have SH:it<s.heap.objs.size:=by obtain ⟨o,z,_⟩:=hit.obj;exact Qr z
  have Nc:Nw.get? s.heap.objs.size=some {cls:= .type "tuple",data:= .seq #[.int i tk,m]}:=(J.2 _ (jaI Pm)).trans D;refine ⟨.ref s.heap.objs.size,upd H s.heap.objs.size (.tup [.int i,x]),?_,rfl,⟨_,x,λys hy=>by rw [qj I hy C];exact M,I.fresh,rfl,rfl⟩,⟨⟨m,by simpa using Pp⟩,LP.1.at λo q=>(J.2 _ G.symm).trans q⟩,λc g=>?_⟩
  ·refine UW (s:=s) (t':=tk+1) (ch:=[e,it]) I hf (λc o Y q=>(J.2 c (λz=>Y (by simp [z]))).trans (hk c o (λz=>Y (by simp [z])) (λz=>Y (by simp [z])) q)) (λc g=>?_) (Qu _) ⟨dR,[.int i tk,m], .cons ⟨tk,rfl⟩ (.cons ru .nil),⟨_,Nc,rfl,_,rfl⟩⟩
   rcases Qn.mp g with rfl|g
   ·exact ⟨_,Pp⟩
   ·obtain rfl:c=it:=by simpa using g
    obtain ⟨o,z,_⟩:=LP.1.obj;exact ⟨o,(J.2 _ G.symm).trans z⟩
  ·have LC:c<s.heap.objs.size:=by
    rcases Qn.mp g with rfl|g
    ·exact Pm
    ·obtain rfl:c=it:=by simpa using g
     exact SH
   rw [yh (QN LC)];exact (hf c g).1
 done:=by
  intro X t hw hK g i pins s σ H E I hf st hg;subst t hw hK;obtain ⟨⟨old,he⟩,hit⟩:=st;obtain ⟨xs,C,M⟩:=hg;obtain ⟨its,L,p,hz⟩:=seB I C;have O:=I.ok.hd g;have hl:=L.length;obtain ⟨f0,f1,f2,f3,f4,f5⟩:=hf it (by simp);have D:s.TypeIs (.ref e) "enumerate":=⟨_,he,rfl⟩;unfold pyNext;refine Qg (jaQ (Te (name:=Str.ofString "__next__") D F.slot_enumerate_next (Ts F.slot_enumerate_next D F.entry_enumerate_next ?_ (F.args_enumerate_next_1 _))));show wpAny _ _ (field (.ref e) 2>>=_) _ _ _;refine Qg (jam he rfl (x:= .ref it) rfl ?_);refine Qg (WL (A:=X.A.in1) O hit p (by simp;omega) λh' y Pq LO=>?_);obtain ⟨o,N,MF⟩:=LO;refine Qg (wpAny_isInstance (T:="StopIteration") (b:=true) ⟨o,N,MF⟩ isSubtype_stop ?_);exact Qq ⟨rfl,I.turned (t':=s.toks) (λc o hb e=>Pq c o hb e) f0 f1 f3 f4 f5⟩
 self:=λ_ _ _ _ _ st h=>by
  obtain ⟨⟨old,he⟩,_⟩:=st;exact wpAny_pyIter_enum he h
def ow (l:Addr) (items:Array Value) (n:Nat) (r:Option Addr) (t:Array (Option Value)):
 Meets (Builtin.«enumerate.__new__» ⟨[.type "enumerate", .ref l],[]⟩) (λ_ R s=>s.heap.get? l=some {cls:= .type "tuple",dict:=r,data:= .seq items n,slots:=t}/\
  R (.ok (.ret (.ref (s.heap.push {cls:= .type "tuple_iterator",data:= .fields #[.ref l, .int 0 0]}).objs.size)))
    {s with heap:=(s.heap.push {cls:= .type "tuple_iterator",data:= .fields #[.ref l, .int 0 0]}).push {cls:= .type "enumerate",data:= .fields #[.none, .bool false, .ref s.heap.objs.size,rawInt 0, .none, .none]}}):=
 .of_wp λprog w A R s h=>by
  obtain ⟨hp,g,d,tk,os⟩:=s;obtain ⟨m,h⟩:=h;have u:=sub_enumerate;have q:Heap.IsTuple (Shared.heap ⟨hp,g,d,tk,os⟩) l items:=⟨_,m,rfl,n,rfl⟩
  wp_walk using jbC m
  refine wpAny_stack_any λst=>Qq ?_
  split
  ·rename_i c _ _ _ _ _;cases (c==Value.type "enumerate")
   ·wp_walk using jbC m,jaw q
    exact ⟨_,rfl,h⟩
   ·wp_walk using jbC m,jaw q
    exact ⟨_,rfl,h⟩
  ·wp_walk using jbC m,jaw q
   exact ⟨_,rfl,h⟩
def wJ (q:SeB b s.heap l items)
 (h:∀h',IsEnum h' (s.heap.objs.size+1) s.heap.objs.size 0 .none->ItB b h' s.heap.objs.size l 0->h'.objs.size=s.heap.objs.size+2->
  (∀b o,s.heap.get? b=some o->h'.get? b=some o)->Q (.ref (s.heap.objs.size+1)) {s with heap:=h'}):
 wpAny (model prog w) A (call (.type "enumerate") [.ref l]) Q E s:=by
 cases b with
 |true=>exact call_enumerate_list q h
 |false=>
  obtain ⟨⟨c,m,u,r⟩,t,g,n,hd⟩:=q
  replace g:c= .type "tuple":=g
  replace hd:u= .seq items n:=hd
  subst g hd
  refine callType_new F.called_enumerate nofun (F.typeCall_enumerate_1 _) (F.newCall_enumerate_1 _) (λobj=>F.args_object_init_2 obj _) F.entry_enumerate_new
   (ow l items n m r) ⟨t,?_⟩
  have hz:(s.heap.push {cls:= .type "tuple_iterator",data:= .fields #[.ref l, .int 0 0]}).objs.size=s.heap.objs.size+1:=QV ..;show _/\_;rw [hz]
  have he:IsEnum ((s.heap.push {cls:= .type "tuple_iterator",data:= .fields #[.ref l, .int 0 0]}).push
   {cls:= .type "enumerate",data:= .fields #[.none, .bool false, .ref s.heap.objs.size,rawInt 0, .none, .none]}) (s.heap.objs.size+1) s.heap.objs.size 0 .none:=by
   have:=Qw (s.heap.push {cls:= .type "tuple_iterator",data:= .fields #[.ref l, .int 0 0]})
    (o:={cls:= .type "enumerate",data:= .fields #[.none, .bool false, .ref s.heap.objs.size,rawInt 0, .none, .none]}) rfl
   rw [hz] at this;exact this
  refine ⟨⟨_,he,rfl⟩,h _ he ⟨_,Qi _ (Qw _ rfl),rfl,rfl⟩ (by rw [QV,hz]) λb o x=>Qi _ (Qi _ x)⟩
section
variable {X:Cx}
def iEnum (b:Bool) (K:Frg) (g:TA):TI:=λσ H R=>g σ H λvs H1=>∃a,vs=[.ref a]/\(∃xs,SqB b K H1 a xs)/\R (ItE b K a) H1
def pi_enum (b:Bool) {elts:List Expr} {k:Nat} {m:Pos} {a:Expr} {t:TA} {p pos:Pos} (L:Gl X "enumerate") (hm:X.mg "enumerate"=none) (ha:PA X [a] t) (D:starEach [a] X.env=[(false,eval a X.env)]:=by rfl):
 PI X (.Tuple elts k m) (.Call (.Name "enumerate" p) [a] [] pos) (iEnum b X.K t):=by
 intro pins s σ H R I h;refine Call_ (WR I L hm oU (TF (thn (ha pos pins s σ H _ I h) ?_) D rfl));rintro us s1 ⟨vs,H1,g,A,C⟩;obtain ⟨l,e,⟨xs,G⟩,q⟩:=C;subst e;obtain ⟨u,rfl,ru⟩:=dI A;cases (show u=Value.ref l from ru);obtain ⟨its,N,w,hz⟩:=seB g G;refine wJ w λh' he hit hsz J=>wpAny_pyIter_enum he ?_;have M:Inv X pins σ H1 {s1 with heap:=h'}:=g.kept (t':=s1.toks) J;have y:l<s1.heap.objs.size:=by obtain ⟨o,z⟩:=w.obj;exact Qr z
 refine ⟨s1.heap.objs.size+1,[s1.heap.objs.size+1,s1.heap.objs.size],_,_,H1,rfl,M,An b l _ _ (QN y) (Nat.succ_ne_self _) (jaI (Tx y)),⟨⟨_,he⟩,hit⟩,λc r=>?_,q⟩
 rcases Qn.mp r with rfl|r
 ·exact g.fpOk (jav _) (g.hok.fresh (jav _))
 ·obtain rfl:c=s1.heap.objs.size:=by simpa using r
  exact g.fpOk (Qu _) (g.hok.fresh (Qu _))
end
def ItB.extBut (x:ItB b h it a i) (g:Heap.ExtBut c h h') (m:it≠c):ItB b h' it a i:=x.at λo e=>g _ o m e
def SeB.extBut (x:SeB b h a items) (g:Heap.ExtBut c h h') (m:a≠c):SeB b h' a items:=x.at λo e=>g _ o m e
section
variable {prog:Program} {w:World} {A:Around} {E:Value->Shared->Prop} {s:Shared}
open PySem
def mN {m t:Bool} {z TI TO r q I G:Addr} {L K:Nat} {xs ys:Array Value} {x y a b:Value} {Q:Value->Shared->Prop} (D:ZipApart z TI TO r q I G)
 (hz:IsZip s.heap z TI TO .none) (Ms:IsPair s.heap TI (.ref r) (.ref q)) (g:IsPair s.heap TO a b)
 (C:ItB m s.heap r I L) (u:ItB t s.heap q G K) (Mm:SeB m s.heap I xs) (Ma:SeB t s.heap G ys) (Y:xs[L]? =some x) (X:ys[K]? =some y)
 (Z:∀h',IsZip h' z TI TO (rawInt s.heap.objs.size)->IsPair h' TO x y->ItB m h' r I (L+1)->ItB t h' q G (K+1)->IsPair h' s.heap.objs.size x y->h'.objs.size=s.heap.objs.size+1->
  (∀c o,c≠z->c≠TO->c≠r->c≠q->s.heap.get? c=some o->h'.get? c=some o)->Q (.ref s.heap.objs.size) {s with heap:=h'}):
 wpAny (model prog w) A (Builtin.«zip.__next__» ⟨[.ref z],[]⟩) (λfin s'=>∃v,fin= .done (.ret v)/\Q v s') E s:=by
 show wpAny _ _ (field (.ref z) 2>>=_) _ _ _;refine Qg (jam hz rfl (x:= .bool false) rfl ?_);show wpAny _ _ (field (.ref z) 3>>=_) _ _ _;refine Qg (jam hz rfl (x:= .ref TI) rfl ?_);refine Qg (jaC Ms rfl ?_);show wpAny _ _ (Builtin.SmallTypes.ownedTupleIsFree (.ref z)>>=_) _ _ _;refine Qg ?_;unfold Builtin.SmallTypes.ownedTupleIsFree;refine Qg (jam hz rfl (x:= .none) rfl (Qq ?_));simp only [if_true];refine Qg (jca ?_);refine Qg (jam hz rfl (x:= .ref TO) rfl ?_);refine Qg (jaU hz (by simp) λh₁ hz₁ hs₁=>?_)
 replace hz₁:IsZip h₁ z TI TO .ellipsis:=hz₁
 refine Qg ?_;simp only [List.zipIdx_cons,List.zipIdx_nil,List.forIn_cons,List.forIn_nil];refine Qg (Qg (wpAny_onRaise ?_));show wpAny _ _ (Builtin.SmallTypes.nextOf (.ref r)>>=_) _ _ _;refine Qg (Yk (C.extBut hs₁.extBut D.i1z) (Mm.extBut hs₁.extBut D.l1z) Y λh₂ C₂ hs₂=>Qq ?_);have g₂:IsPair h₂ TO a b:=hs₂.extBut _ _ D.TOi1 (hs₁.extBut _ _ D.TOz g);refine Qg (jaC g₂ rfl ?_);refine Qg (wpAny_updateSeq_pair g₂ λh₃ g₃ hs₃=>?_)
 replace g₃:IsPair h₃ TO x b:=g₃
 refine Qg (wpAny_letGo (Qq ?_));refine Qg (Qg (wpAny_onRaise ?_));show wpAny _ _ (Builtin.SmallTypes.nextOf (.ref q)>>=_) _ _ _
 refine Qg (Yk (((u.extBut hs₁.extBut D.i2z).extBut hs₂.extBut D.i12.symm).extBut hs₃.extBut D.TOi2.symm)
  (((Ma.extBut hs₁.extBut D.l2z).extBut hs₂.extBut D.l2i1).extBut hs₃.extBut D.l2TO) X λh₄ u₄ hs₄=>Qq ?_)
 have g₄:IsPair h₄ TO x b:=hs₄.extBut _ _ D.TOi2 g₃;refine Qg (jaC g₄ rfl ?_);refine Qg (wpAny_updateSeq_pair g₄ λh₅ g₅ hs₅=>?_)
 replace g₅:IsPair h₅ TO x y:=g₅
 refine Qg (wpAny_letGo (Qq (Qq ?_)));refine Qg (jaC g₅ rfl ?_);refine Qg (wpAny_newTuple ?_);have hsz:h₅.objs.size=s.heap.objs.size:=by rw [hs₅.1,hs₄.1,hs₃.1,hs₂.1,hs₁.1]
 have hz₅:IsZip h₅ z TI TO .ellipsis:=hs₅.extBut _ _ D.TOz.symm (hs₄.extBut _ _ D.i2z.symm (hs₃.extBut _ _ D.TOz.symm (hs₂.extBut _ _ D.i1z.symm hz₁)))
 have hk₅:∀c o,c≠z->c≠TO->c≠r->c≠q->s.heap.get? c=some o->h₅.get? c=some o:=λc o m t T P e=>
  hs₅.extBut _ _ t (hs₄.extBut _ _ P (hs₃.extBut _ _ t (hs₂.extBut _ _ T (hs₁.extBut _ _ m e))))
 have C₅:ItB m h₅ r I (L+1):=((C₂.extBut hs₃.extBut D.TOi1.symm).extBut hs₄.extBut D.i12).extBut hs₅.extBut D.TOi1.symm;have u₅:ItB t h₅ q G (K+1):=u₄.extBut hs₅.extBut D.TOi2.symm;have U:z<h₅.objs.size:=Qr hz₅;have O:TO<h₅.objs.size:=Qr g₅;have N:r<h₅.objs.size:=by obtain ⟨_,e,_⟩:=C₅.obj;exact Qr e
 have M:q<h₅.objs.size:=by obtain ⟨_,e,_⟩:=u₅.obj;exact Qr e
 show wpAny _ _ (Builtin.SmallTypes.ownedTupleHandOut (.ref z) (.ref h₅.objs.size)>>=_) _ _ _;refine Qg ?_;unfold Builtin.SmallTypes.ownedTupleHandOut;have hz₆:IsZip (h₅.push {cls:= .type "tuple",data:= .seq #[x,y]}) z TI TO .ellipsis:=Qi _ hz₅;refine Qg (jaU hz₆ (by simp) λh₇ hz₇ hs₇=>?_)
 replace hz₇:IsZip h₇ z TI TO (rawInt h₅.objs.size):=hz₇
 refine jaU hz₇ (by simp) λh₈ hz₈ hs₈=>?_
 replace hz₈:IsZip h₈ z TI TO (rawInt h₅.objs.size):=hz₈
 have up:∀c o,c≠z->h₅.get? c=some o->h₈.get? c=some o:=λc o m e=>hs₈.extBut _ _ m (hs₇.extBut _ _ m (Qi _ e));have hT₈:IsPair h₈ h₅.objs.size x y:=hs₈.extBut _ _ (jaI U) (hs₇.extBut _ _ (jaI U) (Qw _ rfl));have J:h₈.objs.size=h₅.objs.size+1:=by rw [hs₈.1,hs₇.1,QV]
 rw [hsz] at hz₈ hT₈ J;refine Qq ⟨_,rfl,?_⟩;show Q (.ref h₅.objs.size) _;rw [hsz];exact Z h₈ hz₈ (up _ _ D.TOz g₅) (C₅.at λo e=>up _ o D.i1z e) (u₅.at λo e=>up _ o D.i2z e) hT₈ J λc o m t T P e=>up c o m (hk₅ c o m t T P e)
def sk {g y:Bool} {z TI TO r q I G:Addr} {K J:Nat} {xs ys:Array Value} {a b:Value} {Q:Fin->Shared->Prop} (O:A.handled=none) (D:ZipApart z TI TO r q I G)
 (hz:IsZip s.heap z TI TO .none) (Z:IsPair s.heap TI (.ref r) (.ref q)) (u:IsPair s.heap TO a b)
 (L:ItB g s.heap r I K) (X:ItB y s.heap q G J) (T:SeB g s.heap I xs) (Ma:SeB y s.heap G ys) (MD:xs[K]? =none\/ys[J]? =none)
 (P:∀h' e,(∀c o,c≠z->c≠TO->c≠r->c≠q->s.heap.get? c=some o->h'.get? c=some o)->(∃o,h'.get? e=some o/\o.cls= .type "StopIteration")->E (.ref e) {s with heap:=h'}):
 wpAny (model prog w) A (Builtin.«zip.__next__» ⟨[.ref z],[]⟩) Q E s:=by
 show wpAny _ _ (field (.ref z) 2>>=_) _ _ _;refine Qg (jam hz rfl (x:= .bool false) rfl ?_);show wpAny _ _ (field (.ref z) 3>>=_) _ _ _;refine Qg (jam hz rfl (x:= .ref TI) rfl ?_);refine Qg (jaC Z rfl ?_);show wpAny _ _ (Builtin.SmallTypes.ownedTupleIsFree (.ref z)>>=_) _ _ _;refine Qg ?_;unfold Builtin.SmallTypes.ownedTupleIsFree;refine Qg (jam hz rfl (x:= .none) rfl (Qq ?_));simp only [if_true];refine Qg (jca ?_);refine Qg (jam hz rfl (x:= .ref TO) rfl ?_);refine Qg (jaU hz (by simp) λh₁ hz₁ hs₁=>?_)
 replace hz₁:IsZip h₁ z TI TO .ellipsis:=hz₁
 refine Qg ?_;simp only [List.zipIdx_cons,List.zipIdx_nil,List.forIn_cons,List.forIn_nil];refine Qg (Qg (wpAny_onRaise ?_));show wpAny _ _ (Builtin.SmallTypes.nextOf (.ref r)>>=_) _ _ _
 cases hx:xs[K]? with
 |none=>
  refine Qg (WL O (L.extBut hs₁.extBut D.i1z) (T.extBut hs₁.extBut D.l1z) hx λh₂ e hs₂ he=>?_);obtain ⟨C,m,t⟩:=he;have hz₂:IsZip h₂ z TI TO .ellipsis:=hs₂ _ _ D.i1z.symm hz₁;have N:e≠z:=λx=>by subst x;rw [hz₂] at m;cases m;simp at t
  refine jaU hz₂ (by simp) λh₃ _ hs₃=>P h₃ e (λc o g _ M _ x=>hs₃.extBut _ _ g (hs₂ _ _ M (hs₁.extBut _ _ g x))) ⟨C,hs₃.extBut _ _ N m,t⟩
 |some x=>
  have U:ys[J]? =none:=by rcases MD with h|h;rw [hx] at h;cases h;exact h
  refine Qg (Yk (L.extBut hs₁.extBut D.i1z) (T.extBut hs₁.extBut D.l1z) hx λh₂ L₂ hs₂=>Qq ?_);have u₂:IsPair h₂ TO a b:=hs₂.extBut _ _ D.TOi1 (hs₁.extBut _ _ D.TOz u);refine Qg (jaC u₂ rfl ?_);refine Qg (wpAny_updateSeq_pair u₂ λh₃ u₃ hs₃=>?_);refine Qg (wpAny_letGo (Qq ?_));refine Qg (Qg (wpAny_onRaise ?_));show wpAny _ _ (Builtin.SmallTypes.nextOf (.ref q)>>=_) _ _ _
  refine Qg (WL O (((X.extBut hs₁.extBut D.i2z).extBut hs₂.extBut D.i12.symm).extBut hs₃.extBut D.TOi2.symm)
   (((Ma.extBut hs₁.extBut D.l2z).extBut hs₂.extBut D.l2i1).extBut hs₃.extBut D.l2TO) U λh₄ e hs₄ he=>?_)
  obtain ⟨C,m,t⟩:=he;have hz₄:IsZip h₄ z TI TO .ellipsis:=hs₄ _ _ D.i2z.symm (hs₃.extBut _ _ D.TOz.symm (hs₂.extBut _ _ D.i1z.symm hz₁));have N:e≠z:=λx=>by subst x;rw [hz₄] at m;cases m;simp at t
  refine jaU hz₄ (by simp) λh₅ _ hs₅=>P h₅ e (λc o g y M Y x=>hs₅.extBut _ _ g (hs₄ _ _ Y (hs₃.extBut _ _ y (hs₂.extBut _ _ M (hs₁.extBut _ _ g x))))) ⟨C,hs₅.extBut _ _ N m,t⟩
end
noncomputable def ItZ (m g:Bool) (K:Frg) (a1 a2:Addr):It:=
 ⟨λi H=>∃xs ys x y,SqB m K H a1 xs/\SqB g K H a2 ys/\xs[i]? =some x/\ys[i]? =some y,
  λi H v H'=>∃p x y,(∀xs,SqB m K H a1 xs->xs[i]? =some x)/\(∀ys,SqB g K H a2 ys->ys[i]? =some y)/\H p=none/\v= .ref p/\H'=upd H p (.tup [x,y]),
  λi H=>∃xs ys,SqB m K H a1 xs/\SqB g K H a2 ys/\(xs.length<=i\/ys.length<=i)⟩
def EB {P:Program} {w:World} {K:Frg} {elts:List Expr} {k:Nat} {pos:Pos} (c1 c2:Bool) (z TI TO C t l1 l2:Addr) (D:ZipApart z TI TO C t l1 l2):
 Turn P w K (.Tuple elts k pos) (ItZ c1 c2 K l1 l2) [z,TI,TO,C,t] z (λi h=>IsZip h z TI TO .none/\IsPair h TI (.ref C) (.ref t)/\(∃a b,IsPair h TO a b)/\ItB c1 h C l1 i/\ItB c2 h t l2 i) where
 mem:=by simp
 obj:=λi h st c G=>by
  obtain ⟨hz,J,⟨a,b,O⟩,N,M⟩:=st;simp only [Qn,Qp,or_false] at G
  rcases G with rfl|rfl|rfl|rfl|rfl
  ·exact ⟨_,hz,λv q=>by cases q⟩
  ·exact ⟨_,J,λv q=>by cases q⟩
  ·exact ⟨_,O,λv q=>by cases q⟩
  ·exact N.obj
  ·exact M.obj
 keep:=λi h h' st Y=>by
  obtain ⟨hz,J,⟨a,b,O⟩,N,M⟩:=st;exact ⟨Y z (by simp) _ hz,Y TI (by simp) _ J,⟨a,b,Y TO (by simp) _ O⟩,N.at λo e=>Y C (by simp) o e,M.at λo e=>Y t (by simp) o e⟩
 item:=by
  intro X hP hw hK G i pins s σ H E I hf st hg;subst hP hw hK;obtain ⟨hz,J,⟨a,b,O⟩,N,M⟩:=st;obtain ⟨xs,ys,x,y,MV,NH,hx,hy⟩:=hg;obtain ⟨Np,NW,p1,_⟩:=seB I MV;obtain ⟨LN,NV,p2,_⟩:=seB I NH;obtain ⟨u1,hu1,OV⟩:=NW.get hx;obtain ⟨u2,Sj,OU⟩:=NV.get hy;have hT:s.TypeIs (.ref z) "zip":=⟨_,hz,rfl⟩;unfold pyNext
  refine Qg (jaQ (Te (name:=Str.ofString "__next__") hT F.slot_zip_next (Ts F.slot_zip_next hT F.entry_zip_next
   (mN D hz J O N M p1 p2 (x:=u1) (y:=u2) ‹hu1› ‹Sj› λh' a1 a2 a3 a4 a5 a6 L=>Qq ?_) (F.args_zip_next_1 _))))
  refine ⟨_,rfl,wpAny_letOwnedTupleGo_zip a1 λU Se MI=>?_⟩;have lt:∀{c o},s.heap.get? c=some o->c<s.heap.objs.size:=λe=>Qr e;have i1lt:C<s.heap.objs.size:=by obtain ⟨_,e,_⟩:=N.obj;exact lt e
  have Z:t<s.heap.objs.size:=by obtain ⟨_,e,_⟩:=M.obj;exact lt e
  have hTI':IsPair h' TI (.ref C) (.ref t):=L _ _ D.TIz D.TITO D.TIi1 D.TIi2 J;have up:∀c o,c≠z->h'.get? c=some o->U.get? c=some o:=λc o G e=>(MI.2 c G).trans e;have Nc:U.get? s.heap.objs.size=some {cls:= .type "tuple",data:= .seq #[u1,u2]}:=up _ _ (jaI (lt hz)) a5
  have OS:IsZip U z TI TO .none/\IsPair U TI (.ref C) (.ref t)/\(∃a b,IsPair U TO a b)/\ItB c1 U C l1 (i+1)/\ItB c2 U t l2 (i+1):=
   ⟨Se,up _ _ D.TIz hTI',⟨u1,u2,up _ _ D.TOz a2⟩,a3.at λo e=>up _ o D.i1z e,a4.at λo e=>up _ o D.i2z e⟩
  refine ⟨.ref s.heap.objs.size,upd H s.heap.objs.size (.tup [x,y]),?_,rfl,⟨_,x,y,λzs hy=>by rw [qj I hy MV];exact hx,λzs Mj=>by rw [qj I Mj NH];exact hy,I.fresh,rfl,rfl⟩,OS,λc G=>?_⟩
  ·refine UW (s:=s) (t':=s.toks) (ch:=[z,TI,TO,C,t]) I hf (λc o g q=>?_) (λc G=>?_) (Qu _) ⟨dR,[u1,u2], .cons OV (.cons OU .nil),⟨_,Nc,rfl,_,rfl⟩⟩
   ·have n1:c≠z:=λe=>g (by simp [e]);exact up c o n1 (L c o n1 (λe=>g (by simp [e])) (λe=>g (by simp [e])) (λe=>g (by simp [e])) q)
   ·obtain ⟨z1,z2,⟨_,_,z3⟩,z4,z5⟩:=OS;simp only [Qn,Qp,or_false] at G
    rcases G with rfl|rfl|rfl|rfl|rfl
    ·exact ⟨_,z1⟩
    ·exact ⟨_,z2⟩
    ·exact ⟨_,z3⟩
    ·obtain ⟨o,e,_⟩:=z4.obj;exact ⟨o,e⟩
    ·obtain ⟨o,e,_⟩:=z5.obj;exact ⟨o,e⟩
  ·have LC:c<s.heap.objs.size:=by
    simp only [Qn,Qp,or_false] at G
    rcases G with rfl|rfl|rfl|rfl|rfl
    ·exact lt hz
    ·exact lt J
    ·exact lt O
    ·exact i1lt
    ·exact Z
   rw [yh (QN LC)];exact (hf c G).1
 done:=by
  intro X hP hw hK G i pins s σ H E I hf st hg;subst hP hw hK;obtain ⟨hz,J,⟨a,b,O⟩,N,M⟩:=st;obtain ⟨xs,ys,MV,NH,MD⟩:=hg;obtain ⟨Np,NW,p1,_⟩:=seB I MV;obtain ⟨LN,NV,p2,_⟩:=seB I NH;have e1:=NW.length;have e2:=NV.length;have hh:=I.ok.hd G;have hT:s.TypeIs (.ref z) "zip":=⟨_,hz,rfl⟩;unfold pyNext
  refine Qg (jaQ (Te (name:=Str.ofString "__next__") hT F.slot_zip_next (Ts F.slot_zip_next hT F.entry_zip_next
   (sk (A:=X.A.in1) hh D hz J O N M p1 p2 (by simp only [List.getElem?_toArray];rcases MD with q|q;exact .inl (QD ⋯);exact .inr (QD ⋯)) λh' e L he=>?_) (F.args_zip_next_1 _))))
  obtain ⟨o,ho,MF⟩:=he;refine Qg (wpAny_isInstance (T:="StopIteration") (b:=true) ⟨o,ho,MF⟩ isSubtype_stop ?_);refine Qq ⟨rfl,?_⟩
  refine I.step (g':=s.gens) (d':=s.drawn) (t':=s.toks) (H':=H) (ch:=[z,TO,C,t]) (λb hb=>?_) (λb u _ _ g e _=>L b u (λq=>g (by simp [q])) (λq=>g (by simp [q])) (λq=>g (by simp [q])) (λq=>g (by simp [q])) e)
   (λb u _ _ g e _=>⟨u.slots,L b u (λq=>g (by simp [q])) (λq=>g (by simp [q])) (λq=>g (by simp [q])) (λq=>g (by simp [q])) e⟩) (λ_ _ _ _ n=>n)
   (λb u g e=>⟨u,L b u (λq=>g (by simp [q])) (λq=>g (by simp [q])) (λq=>g (by simp [q])) (λq=>g (by simp [q])) e⟩) (λ_ _ e=>e) (λ_ _ _ e=>e) (λb ps e=>⟨#[],by rw [e];simp⟩) (λm hm=>?_) (λb u e=>?_) I.bare
  ·have Mc:b∈[z,TI,TO,C,t]:=by
    simp only [Qn,Qp,or_false] at hb⊢
    rcases hb with q|q|q|q<;>simp [q]
   exact ⟨(hf b Mc).2.2.2.1,(hf b Mc).2.1,(hf b Mc).2.2.2.2.1,(hf b Mc).2.2.2.2.2⟩
  ·obtain ⟨ob,es,ep,ho,r⟩:=hm;exact ⟨ob,es,ep,L _ ob (λq=>(hf z (by simp)).2.1 q.symm) (λq=>(hf TO (by simp)).2.1 q.symm) (λq=>(hf C (by simp)).2.1 q.symm) (λq=>(hf t (by simp)).2.1 q.symm) ho,r⟩
  ·refine (I.hok b u e).stay (λc v Rq q=>?_) (λ_ q=>q) λ_ _ q=>q
   have nf:∀d∈[z,TI,TO,C,t],c≠d:=λd hd z=>by
    subst z
    rcases Rq with q|q
    ·rw [<-q,(hf _ hd).1] at e;cases e
    ·rw [(hf _ hd).1] at q;cases q
   exact L c v (nf z (by simp)) (nf TO (by simp)) (nf C (by simp)) (nf t (by simp)) q
 self:=λ_ _ _ _ _ st h=>wpAny_pyIter_zip st.1 h
noncomputable def Gg (b:Bool) (l:Addr):Obj:={cls:= .type (match b with|true=>"list_iterator"|false=>"tuple_iterator"),data:= .fields #[.ref l, .int 0 0]}
noncomputable abbrev zB1 (m:Bool) (h:Heap) (g:Addr):Heap:=h.push (Gg m g)
noncomputable abbrev zB2 (r q:Bool) (h:Heap) (m g:Addr):Heap:=(zB1 r h m).push (Gg q g)
noncomputable abbrev zB3 (m r:Bool) (h:Heap) (g q:Addr):Heap:=(zB2 m r h g q).push {cls:= .type "tuple",data:= .seq #[.ref h.objs.size, .ref (zB1 m h g).objs.size]}
noncomputable abbrev zB4 (r q:Bool) (h:Heap) (m g:Addr):Heap:=(zB3 r q h m g).push {cls:= .type "tuple",data:= .seq #[.none, .none]}
noncomputable abbrev zB5 (r q:Bool) (h:Heap) (m g:Addr):Heap:=(zB4 r q h m g).push {cls:= .type "zip",data:= .fields #[.none, .bool false, .bool false, .ref (zB2 r q h m g).objs.size, .ref (zB3 r q h m g).objs.size]}
def SeB.push (x:SeB b h a items) (o:Obj):SeB b (h.push o) a items:=x.at λ_ e=>Qi _ e
def vO (y t:Bool) (m q:Addr) (xs ys:Array Value):
 Meets (Builtin.«zip.__new__» ⟨[.type "zip", .ref m, .ref q],[]⟩) (λ_ R s=>SeB y s.heap m xs/\SeB t s.heap q ys/\
  R (.ok (.ret (.ref (zB4 y t s.heap m q).objs.size))) {s with heap:=zB5 y t s.heap m q}):=
 .of_wp λprog w A R s h=>by
  obtain ⟨hp,g,d,tk,os⟩:=s;obtain ⟨C,z,h⟩:=h;have D:=sub_zip
  cases y with
  |true=>
   have u:Heap.IsList (Shared.heap ⟨hp,g,d,tk,os⟩) m xs:=C
   cases t with
   |true=>
    have r:Heap.IsList (Shared.heap ⟨hp.push {cls:= .type "list_iterator",data:= .fields #[.ref m, .int 0 0]},g,d,tk,os⟩) q ys:=SeB.push (b:=true) z _
    wp_walk using jaL u,jaL r
    exact ⟨_,rfl,h⟩
   |false=>
    have r:Heap.IsTuple (Shared.heap ⟨hp.push {cls:= .type "list_iterator",data:= .fields #[.ref m, .int 0 0]},g,d,tk,os⟩) q ys:=SeB.push (b:=false) z _
    wp_walk using jaL u,jaw r
    exact ⟨_,rfl,h⟩
  |false=>
   have u:Heap.IsTuple (Shared.heap ⟨hp,g,d,tk,os⟩) m xs:=C
   cases t with
   |true=>
    have r:Heap.IsList (Shared.heap ⟨hp.push {cls:= .type "tuple_iterator",data:= .fields #[.ref m, .int 0 0]},g,d,tk,os⟩) q ys:=SeB.push (b:=true) z _
    wp_walk using jaw u,jaL r
    exact ⟨_,rfl,h⟩
   |false=>
    have r:Heap.IsTuple (Shared.heap ⟨hp.push {cls:= .type "tuple_iterator",data:= .fields #[.ref m, .int 0 0]},g,d,tk,os⟩) q ys:=SeB.push (b:=false) z _
    wp_walk using jaw u,jaw r
    exact ⟨_,rfl,h⟩
def tN (e:h.get? it=some (Gg b l)):ItB b h it l 0:=by
 cases b with
 |true=>exact ⟨_,e,rfl,rfl⟩
 |false=>exact ⟨_,e,rfl,rfl⟩
def jy (b:Bool) (l:Addr):(Gg b l).isFreed=false:=by cases b<;>rfl
def oO (t:SeB c1 s.heap l1 xs) (u:SeB c2 s.heap l2 ys)
 (h:∀h',IsZip h' (s.heap.objs.size+4) (s.heap.objs.size+2) (s.heap.objs.size+3) .none->IsPair h' (s.heap.objs.size+2) (.ref s.heap.objs.size) (.ref (s.heap.objs.size+1))->
  IsPair h' (s.heap.objs.size+3) .none .none->ItB c1 h' s.heap.objs.size l1 0->ItB c2 h' (s.heap.objs.size+1) l2 0->
  (∀c o,s.heap.get? c=some o->h'.get? c=some o)->Q (.ref (s.heap.objs.size+4)) {s with heap:=h'}):
 wpAny (model prog w) A (call (.type "zip") [.ref l1, .ref l2]) Q E s:=by
 refine callType_new F.called_zip nofun (F.typeCall_zip_2 _ _) (F.newCall_zip_2 _ _) (λobj=>F.args_object_init_3 obj _ _) F.entry_zip_new
  (vO c1 c2 l1 l2 xs ys) ⟨t,u,?_⟩
 have z1:(zB1 c1 s.heap l1).objs.size=s.heap.objs.size+1:=QV ..;have z2:(zB2 c1 c2 s.heap l1 l2).objs.size=s.heap.objs.size+2:=by rw [QV,z1]
 have g:(zB3 c1 c2 s.heap l1 l2).objs.size=s.heap.objs.size+3:=by rw [QV,z2]
 have q:(zB4 c1 c2 s.heap l1 l2).objs.size=s.heap.objs.size+4:=by rw [QV,g]
 have m:(zB5 c1 c2 s.heap l1 l2).get? (zB4 c1 c2 s.heap l1 l2).objs.size=some _:=Qw _ rfl;have r:(zB5 c1 c2 s.heap l1 l2).get? (zB3 c1 c2 s.heap l1 l2).objs.size=some _:=Qi _ (Qw _ rfl);have g3:(zB5 c1 c2 s.heap l1 l2).get? (zB2 c1 c2 s.heap l1 l2).objs.size=some _:=Qi _ (Qi _ (Qw _ rfl));have g2:(zB5 c1 c2 s.heap l1 l2).get? (zB1 c1 s.heap l1).objs.size=some _:=Qi _ (Qi _ (Qi _ (Qw _ (jy c2 l2))));have g1:(zB5 c1 c2 s.heap l1 l2).get? s.heap.objs.size=some _:=Qi _ (Qi _ (Qi _ (Qi _ (Qw _ (jy c1 l1)))));show _/\_;rw [z2,g,q] at m;rw [z1,z2] at g3;rw [g] at r;rw [z1] at g2;rw [q];exact ⟨⟨_,m,rfl⟩,h _ m g3 r (tN g1) (tN g2) λc o x=>Qi _ (Qi _ (Qi _ (Qi _ (Qi _ x))))⟩
section
variable {X:Cx}
def iZip (m g:Bool) (K:Frg) (q:TA):TI:=λσ H R=>q σ H λvs H1=>∃a1 a2,vs=[.ref a1, .ref a2]/\(∃xs,SqB m K H1 a1 xs)/\(∃ys,SqB g K H1 a2 ys)/\R (ItZ m g K a1 a2) H1
def pi_zip (D C:Bool) {elts:List Expr} {k:Nat} {g:Pos} {a b:Expr} {u:TA} {p pos:Pos} (T:Gl X "zip") (hm:X.mg "zip"=none) (ha:PA X [a,b] u) (O:starEach [a,b] X.env=[(false,eval a X.env),(false,eval b X.env)]:=by rfl) (G:starEach [b] X.env=[(false,eval b X.env)]:=by rfl):
 PI X (.Tuple elts k g) (.Call (.Name "zip" p) [a,b] [] pos) (iZip D C X.K u):=by
 intro pins s σ H R I h;refine Call_ (WR I T hm HL (TF (thn (ha pos pins s σ H _ I h) ?_) (by rw [O,G]) (by rw [G];rfl)));rintro us s1 ⟨vs,H1,m,M,N⟩;obtain ⟨t,r,e,⟨xs,MV⟩,⟨ys,NH⟩,q⟩:=N;subst e;obtain ⟨L,J,rfl,Z,OU⟩:=Ez M;cases (show L=Value.ref t from Z);cases (show J=Value.ref r from OU);obtain ⟨Np,NW,y,_⟩:=seB m MV;obtain ⟨LN,NV,w,_⟩:=seB m NH;have NY:t<s1.heap.objs.size:=by obtain ⟨o,z⟩:=y.obj;exact Qr z
 have Y:r<s1.heap.objs.size:=by obtain ⟨o,z⟩:=w.obj;exact Qr z
 refine oO y w λh' a1 a2 a3 a4 U P=>wpAny_pyIter_zip a1 ?_;have I2:Inv X pins σ H1 {s1 with heap:=h'}:=m.kept (t':=s1.toks) P;refine ⟨s1.heap.objs.size+4,[s1.heap.objs.size+4,s1.heap.objs.size+2,s1.heap.objs.size+3,s1.heap.objs.size,s1.heap.objs.size+1],_,_,H1,rfl,I2,EB D C _ _ _ _ _ t r (zipApart_new NY Y),⟨a1,a2,⟨_,_,a3⟩,a4,U⟩,λc A=>?_,q⟩
 have hle:s1.heap.objs.size<=c:=by
  simp only [Qn,Qp,or_false] at A
  rcases A with z|z|z|z|z<;>rw [z]<;>first|exact Nat.le_add_right _ _|exact Qu _
 exact m.fpOk hle (m.hok.fresh hle)
end
end S
namespace S
open PySem PySem.Spec PyProof.Rows L2
def HQ (h0:0<=k) (h:xs[k.toNat]? =some v):atI xs k=some v:=by
 have g:k=((k.toNat:Nat):Int):=⋯
 rw [g];exact yl h
def eqv_fr (p q:Rat):PyData.eqv (frD p) (frD q)=decide (p=q):=by
 unfold frD;simp only [PyData.eqv,PyData.eqvAll,Bool.and_true]
 by_cases h:p=q
 ·subst h;simp
 ·rw [Tc h]
  by_cases m:p.num=q.num
  ·have r:p.den≠q.den:=λz=>h (Rat.ext m z);have g:((p.den:Int)==(q.den:Int))=false:=jba.mpr (λz=>r (Int.ofNat.inj z));rw [g,Bool.and_false]
  ·have g:(p.num==q.num)=false:=jba.mpr m;rw [g,Bool.false_and]
abbrev zh:=Rat×List Rat
section
variable {H H':Hp} {qs:List Rat} {c:zh} {cs:List zh} {v:V} {vs:List V} {l:Addr} {xs:List V} {o:HO}
end
noncomputable def ym (qs:List Rat):PyData:= .tuple (qs.map frD)
noncomputable def zN (c:zh):PyData:= .tuple [frD c.1,ym c.2]
noncomputable def yv (cs:List zh):PyData:= .list (cs.map zN)
theorem tO {H:Hp} {α:Type} {R:α->V->Prop} {f:α->PyData} (g:∀a v,R a v->Is H (f a) v):∀{xs:List α} {vs:List V},xs.length=vs.length->(∀(i:Nat) (x:α) (v:V),xs[i]? =some x->vs[i]? =some v->R x v)->zJ H (xs.map f) vs
 |[],[],_,_=>by rw [jaJ,zJ]
 |[],_::_,h,_=>by simp at h
 |_::_,[],h,_=>by simp at h
 |x::xs,v::vs,hl,h=>by
  rw [Ql,zJ];exact ⟨v,vs,rfl,g x v (h 0 x v rfl rfl),tO g ‹hl› λi a b ha m=>h (i+1) a b ‹ha› ‹m›⟩
theorem qT {α:Type} {f:α->PyData} (h:∀a,(f a).canLay0=true):∀xs:List α,PyData.canLayAll0 (xs.map f)=true
 |[]=>rfl
 |x::xs=>by rw [Ql,PyData.canLayAll0,h x,qT h xs];rfl
theorem rz {α:Type} {f:α->PyData} {n:Nat} (h:∀a,(f a).depth<=n):∀xs:List α,PyData.depthAll (xs.map f)<=n
 |[]=>by rw [jaJ,PyData.depthAll];exact jar _
 |x::xs=>by rw [Ql,PyData.depthAll];exact Nat.max_le.mpr ⟨h x,rz h xs⟩
def HA (q:Rat):(frD q).canLay0=true:=by unfold frD;simp [PyData.canLay0,PyData.canLayAll0]
def dep_fr (q:Rat):(frD q).depth<=2:=by unfold frD;simp [PyData.depth,PyData.depthAll]
def zR (g q m:zh):Prop:=∀(i:Nat) (a b c:Rat),g.2[i]? =some a->q.2[i]? =some b->m.2[i]? =some c->(b - a)*(m.1 - g.1)=(c - a)*(q.1 - g.1)
def lS (p q:Rat):Rat.divInt (q.num*p.den - p.num*q.den) (p.den*q.den)=q - p:=by
 rw [Rat.sub_def',Int.mul_comm (p.den:Int),<-Int.natCast_mul,Rat.divInt_ofNat]
def Ds (r:rd≠0) (q:nd≠0) (m:wd≠0) (g:fd≠0):
 Rat.divInt rn rd*Rat.divInt fn fd=Rat.divInt wn wd*Rat.divInt nn nd↔rn*nd*wd*fn=wn*fd*rd*nn:=by
 rw [jbk,jbk,jbO (Int.mul_ne_zero r g) (Int.mul_ne_zero m q)];have t:rn*fn*(wd*nd)=rn*nd*wd*fn:=by grind
 have s:wn*nn*(rd*fd)=wn*fd*rd*nn:=by grind
 rw [t,s]
abbrev yp:=List (Addr×List PyData)
abbrev Dat:=List (PyData×V)
def Xl (G:Hp) (ds:Dat):Prop:=∀p∈ds,Is G p.1 p.2
def Has (ds:Dat) (x:PyData) (v:V):Prop:=∀G,Xl G ds->Is G x v
def yI (ds:Dat) (xs:List PyData) (vs:List V):Prop:=∀G,Xl G ds->zJ G xs vs
def HS (B g H:Hp) (cs:yp) (ds:Dat) (G:Hp):Prop:=
 zS g G/\zS G H/\zS B H/\(∀p,B p≠none->G p=g p)/\(∀c∈cs,B c.1=none/\G c.1=none/\∃vs,H c.1=some (.lst vs)/\zJ G c.2 vs)/\(cs.map (·.1)).Nodup/\Xl G ds
def Sta (B g H:Hp) (cs:yp) (ds:Dat):Prop:=∃G,HS B g H cs ds G
structure Grow (G H G' H':Hp):Prop where
 h:zS H H'
 g:zS G G'
 sub:zS G' H'
 old:∀p,H p≠none->G' p=G p
def Xl.mono (h:Xl G ds) (e:zS G G'):Xl G' ds:=λp hp=>Is.mono e _ _ (h p hp)
def Xl.cons (h:Xl G ds) (g:Is G x v):Xl G ((x,v)::ds):=λp hp=>by
 rcases Qn.mp hp with rfl|hp
 ·exact g
 ·exact h p hp
def Has.int:Has ds (.int i) (.int i):=λ_ _=>by rw [Is]
def Has.str:Has ds (.str i) (.str i):=λ_ _=>by rw [Is]
def Has.mem (h:(x,v)∈ds):Has ds x v:=λ_ a=>a _ h
def Has.weak (h:Has ds x v) (k:∀p∈ds,Has ds' p.1 p.2):Has ds' x v:=λG a=>h G λp hp=>k p hp G a
def Has.tail (h:Has ds x v):Has (p::ds) x v:=h.weak λq g=> .mem (Qf _ g)
def yI.nil:yI ds [] []:=λ_ _=>by rw [zJ]
def yI.cons (h:Has ds x v) (g:yI ds xs vs):yI ds (x::xs) (v::vs):=λG a=>by
 rw [zJ];exact ⟨v,vs,rfl,h G a,g G a⟩
theorem zJ.len:∀{xs:List PyData} {vs:List V},zJ H xs vs->xs.length=vs.length
 |[],vs,h=>by rw [zJ] at h;subst h;rfl
 |x::xs,vs,h=>by
  rw [zJ] at h;obtain ⟨v,r,rfl,_,g⟩:=h;rw [Qy,Qy,zJ.len g]
theorem zJ.at:∀{xs:List PyData} {vs:List V} {i:Nat} {x:PyData},zJ H xs vs->xs[i]? =some x->∃v,vs[i]? =some v/\Is H x v
 |[],_,_,_,_,e=>by simp at e
 |y::xs,vs,i,x,h,e=>by
  rw [zJ] at h;obtain ⟨v,r,rfl,m,g⟩:=h
  cases i with
  |zero=>simp at e;subst e;exact ⟨v,rfl,m⟩
  |succ i=>simpa using zJ.at g ‹e›
theorem zJ.app:∀{xs ys:List PyData} {vs ws:List V},zJ H xs vs->zJ H ys ws->zJ H (xs++ys) (vs++ws)
 |[],ys,vs,ws,h,g=>by rw [zJ] at h;subst h;exact g
 |x::xs,ys,vs,ws,h,g=>by
  rw [zJ] at h;obtain ⟨v,r,rfl,q,m⟩:=h;rw [Tv,Tv,zJ];exact ⟨v,_,rfl,q,zJ.app m g⟩
def Zo:zJ H xs vs↔xs.length=vs.length/\∀(i:Nat) (x:PyData) (v:V),xs[i]? =some x->vs[i]? =some v->Is H x v:=by
 constructor
 ·intro h;refine ⟨h.len,λi x v m q=>?_⟩;obtain ⟨w,hw,g⟩:=h.at m;rw [q] at hw;cases hw;exact g
 ·rintro ⟨s,r⟩
  have:=tO (R:=λ(a:PyData) v=>Is H a v) (f:=id) (λ_ _ z=>z) s r
  simpa using this
def zJ.take (h:zJ H xs vs) (n:Nat):zJ H (xs.take n) (vs.take n):=by
 rw [Zo] at h⊢;refine ⟨by rw [TR,TR,h.1],λi x v g m=>?_⟩;rw [List.getElem?_take] at g m
 split at g
 ·rename_i c;rw [QH c] at m;exact h.2 i x v g m
 ·cases g
def zJ.drop (h:zJ H xs vs) (n:Nat):zJ H (xs.drop n) (vs.drop n):=by
 rw [Zo] at h⊢;refine ⟨by rw [Tz,Tz,h.1],λi x v g m=>?_⟩;rw [jay] at g m;exact h.2 _ x v g m
def zJ.set (h:zJ H xs vs) (g:Is H x v) (n:Nat):zJ H (xs.set n x) (vs.set n v):=by
 rw [Zo] at h⊢;refine ⟨by rw [jbU,jbU,h.1],λi y w q m=>?_⟩;rw [List.getElem?_set] at q m;rw [<-h.1] at m
 split at q
 ·rename_i c;rw [QH c] at m
  split at q
  ·rename_i r;rw [QH r] at m;cases q;cases m;exact g
  ·cases q
 ·rename_i c;rw [QP c] at m;exact h.2 i y w q m
section
variable {B G0 H H':Hp} {cs cs':yp} {ds ds':Dat} {x y:PyData} {v w:V} {xs ys:List PyData} {vs:List V} {D:Addr} {p:Addr}
def Sta.enter (e:zS G H) (h:Xl G ds):Sta H G H [] ds:=
 ⟨G,zS.refl _,e,zS.refl _,λ_ _=>rfl,λc g=>absurd g (Qp),List.nodup_nil,h⟩
def Sta.base (S:Sta B G0 H cs ds):zS B H:=by
 obtain ⟨_,_,_,b,_⟩:=S;exact b
def Sta.push (S:Sta B G0 H cs ds) (h:Has ds x v):Sta B G0 H cs ((x,v)::ds):=by
 obtain ⟨G,a,b,c,d,e,f,g⟩:=S;exact ⟨G,a,b,c,d,e,f,g.cons (h G g)⟩
def Sta.weak (S:Sta B G0 H cs ds) (m:cs'.Sublist cs) (hd:∀p∈ds',Has ds p.1 p.2):Sta B G0 H cs' ds':=by
 obtain ⟨G,a,b,c,d,e,f,g⟩:=S;exact ⟨G,a,b,c,d,λq r=>e q (m.subset r),f.sublist (m.map _),λp hp=>hd p hp G g⟩
def Sta.dat (S:Sta B G0 H cs ds) (hd:∀p∈ds',Has ds p.1 p.2):Sta B G0 H cs ds':=S.weak (jbp _) hd
def Sta.drop1 (S:Sta B G0 H cs (q::ds)):Sta B G0 H cs ds:=S.dat λp hp=> .mem (Qf _ hp)
def Sta.dropC (S:Sta B G0 H (q::cs) ds):Sta B G0 H cs ds:=S.weak (List.sublist_cons_self _ _) λp hp=> .mem hp
def Sta.permC (S:Sta B G0 H cs ds) (h:cs.Perm cs'):Sta B G0 H cs' ds:=by
 obtain ⟨G,a,b,c,d,e,f,g⟩:=S;exact ⟨G,a,b,c,d,λq m=>e q (h.mem_iff.mpr m),(h.map _).nodup_iff.mp f,g⟩
def Sta.swap (S:Sta B G0 H (m::g::cs) ds):Sta B G0 H (g::m::cs) ds:=S.permC (List.Perm.swap _ _ _)
def Sta.same (S:Sta B G0 H cs ds) (h:zS H H'):Sta B G0 H' cs ds:=
 let ⟨G,a,b,c,d,e,f,g⟩:=S;⟨G,a,b.trans h,c.trans h,d,λq m=>let ⟨x,y,vs,z,u⟩:=e q m;⟨x,y,vs,h _ _ z,u⟩,f,g⟩
def HS.grow (S:HS B G0 H cs ds G) (h:Grow G H G' H'):HS B G0 H' cs ds G':=by
 obtain ⟨a,b,c,d,e,f,g⟩:=S;refine ⟨a.trans h.g,h.sub,c.trans h.h,λp hp=>?_,λq m=>?_,f,g.mono h.g⟩
 ·rw [h.old p λz=>?_,d p hp]
  cases hb:B p with
  |none=>exact hp hb
  |some o=>rw [c _ _ hb] at z;cases z
 ·obtain ⟨x,y,vs,z,u⟩:=e q m;exact ⟨x,by rw [h.old q.1 (by rw [z];simp)];exact y,vs,h.h _ _ z,zJ.mono h.g _ _ u⟩
def Sta.leave (S:Sta H G H' cs ds):∃m,Grow G H m H'/\Xl m ds:=by
 obtain ⟨m,a,b,c,d,_,_,g⟩:=S;exact ⟨m,⟨c,a,b,d⟩,g⟩
def Sta.newT (S:Sta B G0 H cs ds) (hp:H p=none) (h:yI ds xs vs):Sta B G0 (upd H p (.tup vs)) cs ((.tuple xs, .ref p)::ds):=by
 obtain ⟨G,a,b,c,d,e,f,g⟩:=S;have t:G p=none:=b.free hp;have s:=zS.new t (.tup vs);refine ⟨upd G p (.tup vs),a.trans s,λq o m=>?_,c.trans (zS.new hp _),λq m=>?_,λq m=>?_,f,(g.mono s).cons ?_⟩
 ·by_cases r:q=p
  ·subst r;rw [yM] at m⊢;exact m
  ·rw [yh r] at m⊢;exact b _ _ m
 ·have r:q≠p:=λz=>by subst z;exact m (c.free hp)
  rw [yh r];exact d q m
 ·obtain ⟨x,y,ws,z,u⟩:=e q m;have r:q.1≠p:=yj z hp;exact ⟨x,by rw [yh r];exact y,ws,by rw [yh r];exact z,zJ.mono s _ _ u⟩
 ·rw [Is];exact ⟨p,vs,rfl,yM,zJ.mono s _ _ (h G g)⟩
def Sta.newL (S:Sta B G0 H cs ds) (hp:H p=none) (h:yI ds xs vs):Sta B G0 (upd H p (.lst vs)) ((p,xs)::cs) ds:=by
 obtain ⟨G,a,b,c,d,e,f,g⟩:=S;have s:G p=none:=b.free hp;refine ⟨G,a,b.trans (zS.new hp _),c.trans (zS.new hp _),d,λq m=>?_,?_,g⟩
 ·rcases Qn.mp m with rfl|m
  ·exact ⟨c.free hp,s,vs,yM,h G g⟩
  ·obtain ⟨x,y,ws,z,u⟩:=e q m;have r:q.1≠p:=yj z hp;exact ⟨x,y,ws,by rw [yh r];exact z,u⟩
 ·rw [Ql,jae];refine ⟨λz=>?_,f⟩;obtain ⟨q,m,r⟩:=Qj.mp z;obtain ⟨_,_,ws,z,_⟩:=e q m;rw [r,hp] at z;cases z
def Sta.freeze (S:Sta B G0 H ((D,xs)::cs) ds):Sta B G0 H cs ((.list xs, .ref D)::ds):=by
 obtain ⟨G,a,b,c,d,e,f,g⟩:=S;obtain ⟨x,y,vs,z,u⟩:=e _ (Qe ..);have s:=zS.new y (.lst vs);rw [Ql,jae] at f;refine ⟨upd G D (.lst vs),a.trans s,λq o m=>?_,c,λq m=>?_,λq m=>?_,f.2,(g.mono s).cons ?_⟩
 ·by_cases r:q=D
  ·subst r;rw [yM] at m;rw [<-m];exact z
  ·rw [yh r] at m;exact b _ _ m
 ·have r:q≠D:=λz=>by subst z;exact m x
  rw [yh r];exact d q m
 ·obtain ⟨C,A,ws,t,I⟩:=e q (Qf _ m);have r:q.1≠D:=λz=>f.1 (Qj.mpr ⟨q,m,z⟩);exact ⟨C,by rw [yh r];exact A,ws,t,zJ.mono s _ _ I⟩
 ·rw [Is];exact ⟨D,vs,rfl,yM,zJ.mono s _ _ u⟩
def Sta.cell (S:Sta B G0 H cs ds) (h:(D,xs)∈cs):∃vs,H D=some (.lst vs)/\xs.length=vs.length/\∀(i:Nat) (x:PyData),xs[i]? =some x->∃v,vs[i]? =some v/\Sta B G0 H cs ((x,v)::ds):=by
 obtain ⟨G,a,b,c,d,e,f,g⟩:=S;obtain ⟨_,_,vs,z,u⟩:=e _ h;refine ⟨vs,z,u.len,λi x m=>?_⟩;obtain ⟨v,q,k⟩:=u.at m;exact ⟨v,q,G,a,b,c,d,e,f,g.cons k⟩
def Sta.put (S:Sta B G0 H ((D,xs)::cs) ds):∃vs,H D=some (.lst vs)/\xs.length=vs.length/\∀ys ws,(∀G,Xl G ds->zJ G xs vs->zJ G ys ws)->Sta B G0 (upd H D (.lst ws)) ((D,ys)::cs) ds:=by
 obtain ⟨G,a,b,c,d,e,f,g⟩:=S;obtain ⟨x,y,vs,z,u⟩:=e _ (Qe ..);refine ⟨vs,z,u.len,λys ws h=>?_⟩
 have key:∀{A:Hp},zS A H->A D=none->zS A (upd H D (.lst ws)):=λ{A} s n q o m=>by
  rw [yh (yj m n)];exact s _ _ m
 have t:=f;rw [Ql,jae] at t;refine ⟨G,a,key b y,key c x,d,λq m=>?_,f,g⟩
 rcases Qn.mp m with rfl|m
 ·exact ⟨x,y,ws,yM,h G g u⟩
 ·obtain ⟨J,I,r,C,K⟩:=e q (Qf _ m);have L:q.1≠D:=λz=>t.1 (Qj.mpr ⟨q,m,z⟩);exact ⟨J,I,r,by rw [yh L];exact C,K⟩
def Sta.tup (S:Sta B G0 H cs ds) (h:Has ds (.tuple xs) v):∃p vs,v= .ref p/\H p=some (.tup vs)/\xs.length=vs.length/\∀(i:Nat) (x:PyData),xs[i]? =some x->∃w,vs[i]? =some w/\Sta B G0 H cs ((x,w)::ds):=by
 obtain ⟨G,a,b,c,d,e,f,g⟩:=S;have q:=h G g;rw [Is] at q;obtain ⟨p,vs,m,hp,u⟩:=q;refine ⟨p,vs,m,b _ _ hp,u.len,λi x r=>?_⟩;obtain ⟨v,m,k⟩:=u.at r;exact ⟨v,m,G,a,b,c,d,e,f,g.cons k⟩
def Sta.lst (S:Sta B G0 H cs ds) (h:Has ds (.list xs) v):∃p vs,v= .ref p/\H p=some (.lst vs)/\xs.length=vs.length/\∀(i:Nat) (x:PyData),xs[i]? =some x->∃w,vs[i]? =some w/\Sta B G0 H cs ((x,w)::ds):=by
 obtain ⟨G,a,b,c,d,e,f,g⟩:=S;have q:=h G g;rw [Is] at q;obtain ⟨p,vs,m,hp,u⟩:=q;refine ⟨p,vs,m,b _ _ hp,u.len,λi x r=>?_⟩;obtain ⟨v,m,k⟩:=u.at r;exact ⟨v,m,G,a,b,c,d,e,f,g.cons k⟩
def Sta.tupAll (S:Sta B G0 H cs ds) (h:Has ds (.tuple xs) v):∃p vs,v= .ref p/\H p=some (.tup vs)/\xs.length=vs.length/\Sta B G0 H cs (xs.zip vs++ds)/\∀G,Xl G (xs.zip vs++ds)->zJ G xs vs:=by
 obtain ⟨G,a,b,c,d,e,f,g⟩:=S;have q:=h G g;rw [Is] at q;obtain ⟨p,vs,r,hp,u⟩:=q;refine ⟨p,vs,r,b _ _ hp,u.len,⟨G,a,b,c,d,e,f,λq m=>?_⟩,λA z=>?_⟩
 ·rcases QY.mp m with m|m
  ·obtain ⟨i,s⟩:=Qx.mp m;rw [Ti] at s;exact (Zo.mp u).2 i _ _ s.1 s.2
  ·exact g q m
 ·refine Zo.mpr ⟨u.len,λi x v t r=>?_⟩;exact z (x,v) (jak _ (Qx.mpr ⟨i,Ti.mpr ⟨t,r⟩⟩))
def Sta.lstAll (S:Sta B G0 H cs ds) (h:Has ds (.list xs) v):∃p vs,v= .ref p/\H p=some (.lst vs)/\xs.length=vs.length/\Sta B G0 H cs (xs.zip vs++ds)/\∀G,Xl G (xs.zip vs++ds)->zJ G xs vs:=by
 obtain ⟨G,a,b,c,d,e,f,g⟩:=S;have q:=h G g;rw [Is] at q;obtain ⟨p,vs,r,hp,u⟩:=q;refine ⟨p,vs,r,b _ _ hp,u.len,⟨G,a,b,c,d,e,f,λq m=>?_⟩,λA z=>?_⟩
 ·rcases QY.mp m with m|m
  ·obtain ⟨i,s⟩:=Qx.mp m;rw [Ti] at s;exact (Zo.mp u).2 i _ _ s.1 s.2
  ·exact g q m
 ·refine Zo.mpr ⟨u.len,λi x v t r=>?_⟩;exact z (x,v) (jak _ (Qx.mpr ⟨i,Ti.mpr ⟨t,r⟩⟩))
def Sta.cellAll (S:Sta B G0 H cs ds) (h:(D,xs)∈cs):∃vs,H D=some (.lst vs)/\xs.length=vs.length/\Sta B G0 H cs (xs.zip vs++ds)/\∀G,Xl G (xs.zip vs++ds)->zJ G xs vs:=by
 obtain ⟨G,a,b,c,d,e,f,g⟩:=S;obtain ⟨_,_,vs,z,u⟩:=e _ h;refine ⟨vs,z,u.len,⟨G,a,b,c,d,e,f,λq m=>?_⟩,λC A=>?_⟩
 ·rcases QY.mp m with m|m
  ·obtain ⟨i,r⟩:=Qx.mp m;rw [Ti] at r;exact (Zo.mp u).2 i _ _ r.1 r.2
  ·exact g q m
 ·refine Zo.mpr ⟨u.len,λi x v s t=>?_⟩;exact A (x,v) (jak _ (Qx.mpr ⟨i,Ti.mpr ⟨s,t⟩⟩))
def Sta.hp (S:Sta B G0 H cs ds) (h:Has ds x v):Is H x v:=by
 obtain ⟨G,a,b,c,d,e,f,g⟩:=S;exact Is.mono b _ _ (h G g)
def Sta.hpC (S:Sta B G0 H cs ds) (h:(D,xs)∈cs):Is H (.list xs) (.ref D):=by
 obtain ⟨G,a,b,c,d,e,f,g⟩:=S;obtain ⟨_,_,vs,z,u⟩:=e _ h;rw [Is];exact ⟨D,vs,rfl,z,zJ.mono b _ _ u⟩
end
def mkD (D:Ends) (u:L2.St->Hp->Prop):Ends:={D with nx:=u}
def mkL (D:Ends) (u:L2.St->Hp->Prop):Ends:={D with nx:=u,ct:=u,bk:=D.nx}
def endD (Q:VK):Ends:={nx:=λ_ H'=>Q .non H',rt:=Q}
section
variable {B G0 H:Hp} {cs:yp} {ds:Dat} {D:Ends} {σ:L2.St} {Q:VK} {x y:PyData} {v w:V} {xs:List PyData} {vs:List V} {K:Frg} {X:Cx}
def rd_seq (h:t (mkD D (u D)) σ H):tSeq t u D σ H:=h
def rd_asg (h:te σ H λx H1=>g x σ H1 D.nx):Kk te g D σ H:=h
def zH (h:N (σ.set i (some v)) H):lT i v σ H N:=h
def kS {t:TS} (h:t (endD Q) σ H):t {nx:=λ_ H'=>Q .non H',rt:=Q} σ H:=h
def rd_nx (h:u σ H):Ends.nx (mkD D u) σ H:=h
def rd_rt (h:Ends.rt D v H):Ends.rt (mkD D u) v H:=h
def Hr (h:Q v H):Ends.rt (endD Q) v H:=h
def rd_nxL (h:u σ H):Ends.nx (mkL D u) σ H:=h
def rd_rtL (h:Ends.rt D v H):Ends.rt (mkL D u) v H:=h
def rd_next (h:D.nx σ H):tNext D σ H:=h
def rd_ret (h:te σ H D.rt):tRet te D σ H:=h
def rd_drop (h:te σ H λ_ H1=>D.nx σ H1):tDrop te D σ H:=h
def rd_if (h:c σ H λb H1=>if b=true then t D σ H1 else u D σ H1):tIfS c t u D σ H:=h
def rd_var (e:σ[i]? =some (some v)) (h:Q v H):tVar i σ H Q:=⟨v,e,h⟩
def rd_c (h:Q v H):tC v σ H Q:=h
def rd_op (h:ta σ H λx H1=>tb σ H1 λy g=>r x y g Q):tOp r ta tb σ H Q:=h
def rd_un (h:ta σ H λx H1=>r x H1 Q):tUn r ta σ H Q:=h
def rd_rI0 (h:Q (g i j) H):rI0 g (.int i) (.int j) H Q:=⟨i,j,rfl,rfl,h⟩
def rd_mulB (c:IntMulOk i j) (h:Q (.int (i*j)) H):rI IntMulOk (λi j=> .int (i*j)) (.int i) (.int j) H Q:=⟨i,j,rfl,rfl,c,h⟩
def rd_modL (c:0<j) (h:Q (.int (i % j)) H):rI (λ_ j=>0<j) (λi j=> .int (i % j)) (.int i) (.int j) H Q:=⟨i,j,rfl,rfl,c,h⟩
def rd_modN (c:j≠0) (h:Q (.int (i.fmod j)) H):rI (λ_ j=>j≠0) (λi j=> .int (i.fmod j)) (.int i) (.int j) H Q:=⟨i,j,rfl,rfl,c,h⟩
def rd_fdivL (c:CDiv i j) (h:Q (.int (i / j)) H):rI CDiv (λi j=> .int (i / j)) (.int i) (.int j) H Q:=⟨i,j,rfl,rfl,c,h⟩
def rd_fdivB (c:CDv i j) (h:Q (.int (i.fdiv j)) H):rI CDv (λi j=> .int (i.fdiv j)) (.int i) (.int j) H Q:=⟨i,j,rfl,rfl,c,h⟩
def rd_pow (c:CPow i j) (h:Q (.int (i ^ j.toNat)) H):rI CPow (λi j=> .int (i ^ j.toNat)) (.int i) (.int j) H Q:=⟨i,j,rfl,rfl,c,h⟩
def rd_rU (h:Q (g i) H):rU g (.int i) H Q:=⟨i,rfl,h⟩
def rd_test (h:t σ H λx H'=>∃k,x= .bl k/\R k H'):tTest t σ H R:=h
def rd_tB (h:t σ H λx H'=>∃k,x= .bl k/\R k H'):tB t σ H R:=h
def rd_isbl {k:Bool} {R:Bool->Prop} (h:R k):∃g,V.bl k= .bl g/\R g:=⟨k,rfl,h⟩
def rd_not (h:t σ H λc H1=>R (!c) H1):tNot t σ H R:=h
def rd_and (h:t σ H λc H1=>if c=true then u σ H1 R else R false H1):tAnd t u σ H R:=h
def rd_or (h:t σ H λc H1=>if c=true then R true H1 else u σ H1 R):tOr t u σ H R:=h
def rd_andV (h:ta σ H λx H1=>∃c,x= .bl c/\if c=true then tb σ H1 Q else Q (.bl false) H1):tAndV ta tb σ H Q:=h
def rd_notV (h:ta σ H λx H1=>∃c,x= .bl c/\Q (.bl (!c)) H1):tNotV ta σ H Q:=h
def rd_nil (h:R [] H):tNil σ H R:=h
def rd_cons (h:ta σ H λx H1=>tr σ H1 λxs g=>R (x::xs) g):tCons ta tr σ H R:=h
def rd_call (h:t σ H λvs H1=>sp vs H1 Q E):uQ sp [] E t σ H Q:=by
 unfold uQ
 simpa only [jbc] using h
def rd_cb (h:t σ H λvs H1=>r vs H1 Q):tCB r t σ H Q:=h
def rd_aug (e:σ[i]? =some (some v)) (h:te σ H λy H1=>ti v y H1 λz g=>D.nx (σ.set i (some z)) g):tAug i te ti D σ H:=⟨v,e,h⟩
def rd_ipI (h:Q (.int (f i j)) H):ipI f (.int i) (.int j) H Q:=⟨i,j,rfl,rfl,h⟩
def rd_par (h:ta σ H λvs H1=>∃v w,vs=[v,w]/\D.nx ((σ.set i (some v)).set j (some w)) H1):tPar i j ta D σ H:=h
def rd_is2 {R:V->V->Prop} (h:R v w):∃m g,[v,w]=[m,g]/\R m g:=⟨v,w,rfl,h⟩
def rEqA:R2:=λx y H Q=>rEq x y H Q\/rEqD x y H Q
def rNeA:R2:=λx y H Q=>rNe x y H Q\/rNeD x y H Q
def op_eqA (g:X.A.units+64<cLine):OpR X (compareOp .Eq) rEqA:=op_eq.or (op_eqD g)
def op_neA (g:X.A.units+64<cLine):OpR X (compareOp .NotEq) rNeA:=op_ne.or (op_neD g)
def UR {a b:Prop} [Decidable a] [Decidable b] (h:a↔b):decide a=decide b:=by
 by_cases ha:a
 ·rw [QZ ha,QZ (h.mp ha)]
 ·rw [Tc ha,Tc (λz=>ha (h.mpr z))]
def rd_eqI (h:Q (.bl (decide (i=j))) H):rEqA (.int i) (.int j) H Q:= .inl ⟨rfl,by
 rw [UR (show V.int i=V.int j↔i=j from ⟨V.int.inj,congrArg _⟩)];exact h⟩
def rd_neI (h:Q (.bl (!decide (i=j))) H):rNeA (.int i) (.int j) H Q:= .inl ⟨rfl,by
 rw [UR (show V.int i=V.int j↔i=j from ⟨V.int.inj,congrArg _⟩)];exact h⟩
def Bu (m:Is H x v) (g:Is H y w) (s1:SeqAt.shaped x=true) (s2:SeqAt.shaped y=true) (h:Q (.bl (PyData.eqv x y)) H):rEqA v w H Q:= .inr ⟨x,y,m,g,s1,s2,h⟩
def Ht (m:Is H x v) (g:Is H y w) (s1:SeqAt.shaped x=true) (s2:SeqAt.shaped y=true) (h:Q (.bl (!PyData.eqv x y)) H):rNeA v w H Q:= .inr ⟨x,y,m,g,s1,s2,h⟩
def kTup (Q:VK) (xs:List V) (H:Hp):Prop:=xs.length<=sizeLine/\∀p,H p=none->Q (.ref p) (upd H p (.tup xs))
def kLst (Q:VK) (xs:List V) (H:Hp):Prop:=xs.length<=sizeLine/\∀p,H p=none->Q (.ref p) (upd H p (.lst xs))
def rd_tup (h:t σ H (kTup Q)):tTup t σ H Q:=h
def rd_lst (h:t σ H (kLst Q)):tLst t σ H Q:=h
def rd_kTup (S:Sta B G0 H cs ds) (h:yI ds xs vs) (g:vs.length<=1000) (k:∀p H',zS H H'->Sta B G0 H' cs ((.tuple xs, .ref p)::ds)->Q (.ref p) H'):kTup Q vs H:=
 ⟨jbM (Wx g),λp hp=>k p _ (zS.new hp _) (S.newT hp h)⟩
def IP (S:Sta B G0 H cs ds) (h:yI ds xs vs) (g:vs.length<=1000) (k:∀p H',zS H H'->Sta B G0 H' ((p,xs)::cs) ds->Q (.ref p) H'):kLst Q vs H:=
 ⟨jbM (Wx g),λp hp=>k p _ (zS.new hp _) (S.newL hp h)⟩
def DG {α β:Type} {xs:List α} {ys:List β} {i:Int} {x:α} (m:xs.length=ys.length) (h:atI xs i=some x):∃j:Nat,xs[j]? =some x/\∀y,ys[j]? =some y->atI ys i=some y:=by
 unfold atI at h⊢;rw [<-m]
 cases e:ixN xs.length i with
 |none=>rw [e] at h;cases h
 |some j=>rw [e] at h;exact ⟨j,h,λy g=>g⟩
def cu {i:Int} (S:Sta B G0 H cs ds) (m:Has ds (.tuple xs) v) (s:atI xs i=some x) (k:∀w,Sta B G0 H cs ((x,w)::ds)->Q w H):rIx K v (.int i) H Q:=by
 obtain ⟨p,vs,rfl,hp,q,z⟩:=S.tup m;obtain ⟨j,r,g⟩:=DG q s;obtain ⟨w,hw,t⟩:=z j x r;exact .inr (.inl ⟨p,vs,i,w,rfl,rfl,SqT.of hp,g _ hw,k w t⟩)
def Sta.top {n:PyData} (S:Sta B G0 H cs ((n,v)::ds)):Is H n v:=S.hp (.mem (Qe ..))
def rd_ixTI {i n:Int} (S:Sta B G0 H cs ds) (g:Has ds (.tuple xs) v) (m:atI xs i=some (.int n)) (k:Q (.int n) H):rIx K v (.int i) H Q:=
 cu S g m λw q=>by have:=q.top;rw [Is] at this;subst this;exact k
def xc {i:Int} (S:Sta B G0 H cs ds) (m:Has ds (.list xs) v) (s:atI xs i=some x) (k:∀w,Sta B G0 H cs ((x,w)::ds)->Q w H):rIx K v (.int i) H Q:=by
 obtain ⟨p,vs,rfl,hp,q,z⟩:=S.lst m;obtain ⟨j,r,g⟩:=DG q s;obtain ⟨w,hw,t⟩:=z j x r;exact .inl ⟨p,vs,i,w,rfl,rfl,SqL.of hp,g _ hw,k w t⟩
def Yt {i n:Int} (S:Sta B G0 H cs ds) (g:Has ds (.list xs) v) (m:atI xs i=some (.int n)) (k:Q (.int n) H):rIx K v (.int i) H Q:=
 xc S g m λw q=>by have:=q.top;rw [Is] at this;subst this;exact k
def YM {i:Int} {L:Addr} (S:Sta B G0 H cs ds) (m:(L,xs)∈cs) (s:atI xs i=some x) (k:∀w,Sta B G0 H cs ((x,w)::ds)->Q w H):rIx K (.ref L) (.int i) H Q:=by
 obtain ⟨vs,hp,q,z⟩:=S.cell m;obtain ⟨j,r,g⟩:=DG q s;obtain ⟨w,hw,t⟩:=z j x r;exact .inl ⟨L,vs,i,w,rfl,rfl,SqL.of hp,g _ hw,k w t⟩
def IS {i n:Int} {L:Addr} (S:Sta B G0 H cs ds) (g:(L,xs)∈cs) (m:atI xs i=some (.int n)) (k:Q (.int n) H):rIx K (.ref L) (.int i) H Q:=
 YM S g m λw q=>by have:=q.top;rw [Is] at this;subst this;exact k
def rd_ixS {i:Int} {a:Addr} {ns:List Int} (g:SqL K H a (ns.map V.int)) (h0:0<=i) (m:i<(ns.length:Int)) (k:Q (.int (ns.getD i.toNat 0)) H):rIx K (.ref a) (.int i) H Q:=
 .inl ⟨a,_,i,_,rfl,rfl,g,GW h0 m,k⟩
def rLen (K:Frg):List V->Hp->VK->Prop:=λxs H Q=>∃p ys,xs=[.ref p]/\(SqL K H p ys\/SqT K H p ys)/\Q (.int ys.length) H
def oR:Ve X (.builtin "len") (rLen X.K):=oQ
def rd_lenT (S:Sta B G0 H cs ds) (g:Has ds (.tuple xs) v) (k:Q (.int xs.length) H):rLen K [v] H Q:=by
 obtain ⟨p,vs,rfl,hp,m,_⟩:=S.tup g;exact ⟨p,vs,rfl, .inr (SqT.of hp),by rw [<-m];exact k⟩
def rd_lenL (S:Sta B G0 H cs ds) (g:Has ds (.list xs) v) (k:Q (.int xs.length) H):rLen K [v] H Q:=by
 obtain ⟨p,vs,rfl,hp,m,_⟩:=S.lst g;exact ⟨p,vs,rfl, .inl (SqL.of hp),by rw [<-m];exact k⟩
def rd_lenC (S:Sta B G0 H cs ds) (g:(L,xs)∈cs) (k:Q (.int xs.length) H):rLen K [.ref L] H Q:=by
 obtain ⟨vs,hp,m,_⟩:=S.cell g;exact ⟨L,vs,rfl, .inl (SqL.of hp),by rw [<-m];exact k⟩
def IL {a:Addr} {ns:List Int} (g:SqL K H a (ns.map V.int)) (k:Q (.int ns.length) H):rLen K [.ref a] H Q:=
 ⟨a,_,rfl, .inl g,by rw [Qa];exact k⟩
def rAbs:List V->Hp->VK->Prop:=λxs H Q=>∃i,xs=[.int i]/\Q (.int (if i<0 then -i else i)) H
def call_absA:Ve X (.builtin "abs") rAbs:=Gz
def rd_abs (k:Q (.int (i.natAbs:Int)) H):rAbs [.int i] H Q:=⟨i,rfl,by
 rw [show (if i<0 then -i else i)=(i.natAbs:Int) by split<;>omega];exact k⟩
def rMin:List V->Hp->VK->Prop:=λxs H Q=>∃i j,xs=[.int i, .int j]/\Q (.int (if j<i then j else i)) H
def Dw (g:X.calm=true):Ve X (.builtin "min") rMin:=Dz g
def rd_min (k:Q (.int (min i j)) H):rMin [.int i, .int j] H Q:=⟨i,j,rfl,by
 rw [show (if j<i then j else i)=min i j by split<;>omega];exact k⟩
def Bz (K:Frg):List V->Hp->VK->Prop:=λxs H Q=>∃p ys,xs=[.ref p]/\(SqL K H p ys\/SqT K H p ys)/\∀l,H l=none->Q (.ref l) (upd H l (.lst ys))
def Ko:Ve X (.type "list") (Bz X.K):=oP
def sX (K:Frg):List V->Hp->VK->Prop:=λxs H Q=>∃p ys,xs=[.ref p]/\((SqL K H p ys/\∀l,H l=none->Q (.ref l) (upd H l (.tup ys)))\/(SqT K H p ys/\Q (.ref p) H))
def JQ:Ve X (.type "tuple") (sX X.K):=lZ
def rd_listL (S:Sta B G0 H cs ds) (m:Has ds (.list xs) v) (k:∀l H',zS H H'->Sta B G0 H' ((l,xs)::cs) ds->Q (.ref l) H'):Bz K [v] H Q:=by
 obtain ⟨p,vs,rfl,hp,g,t,s⟩:=S.lstAll m;exact ⟨p,vs,rfl, .inl (SqL.of hp),λl g=>k l _ (zS.new g _) ((t.newL g s).dat λq r=> .mem (QI _ r))⟩
def rd_tupleC (S:Sta B G0 H cs ds) (r:(L,xs)∈cs) (k:∀l H',zS H H'->Sta B G0 H' cs ((.tuple xs, .ref l)::ds)->Q (.ref l) H'):sX K [.ref L] H Q:=by
 obtain ⟨vs,hp,m,t,s⟩:=S.cellAll r
 exact ⟨L,vs,rfl, .inl ⟨SqL.of hp,λl m=>k l _ (zS.new m _) ((t.newT m s).dat λq g=> .mem (by
  rcases Qn.mp g with rfl|g
  ·exact Qe ..
  ·exact Qf _ (QI _ g)))⟩⟩
def kBM (K:Frg) (T:String) (r:V->List V->Hp->VK->Prop) (t:TA) (σ:L2.St) (Q:VK):VK:=λx H1=>tyV K T x H1/\t σ H1 λxs g=>r x xs g Q
def rd_bm (h:to σ H (kBM K T r t σ Q)):tBM K T r to t σ H Q:=h
def rd_kBM (S:Sta B G0 H cs ds) (g:(L,xs)∈cs) (h:t σ H λys m=>r (.ref L) ys m Q):kBM K "list" r t σ Q (.ref L) H:=by
 obtain ⟨vs,hp,q,_⟩:=S.cell g;exact ⟨.inl ⟨rfl,_,SqL.of hp⟩,h⟩
def yU (S:Sta B G0 H ((L,xs)::cs) ds) (g:Has ds y w) (hz:xs.length<=1000) (k:∀H',Sta B G0 H' ((L,xs++[y])::cs) ds->Q .non H'):BB (.ref L) [w] H Q:=by
 obtain ⟨vs,hp,m,put⟩:=S.put;exact ⟨L,vs,w,rfl,rfl,hp,Wx ⋯,k _ (put _ _ λG a u=>u.app (by rw [zJ];exact ⟨w,[],rfl,g G a,by rw [zJ]⟩))⟩
def IE (S:Sta B G0 H ((L,xs)::cs) ds) (g:Has ds y w) (q:ixN xs.length i=some j) (k:∀H',Sta B G0 H' ((L,xs.set j y)::cs) ds->R H'):rSetL (.ref L) (.int i) w H R:=by
 obtain ⟨vs,hp,m,put⟩:=S.put;exact ⟨L,vs,i,j,rfl,rfl,hp,by rw [<-m];exact q,k _ (put _ _ λG a u=>u.set (g G a) j)⟩
def oN (xs:List PyData) (lo g:Option Int):List PyData:=(xs.drop (HT.sIx xs.length 0 lo)).take (HT.sIx xs.length xs.length g - HT.sIx xs.length 0 lo)
def nN {lo g:Option Int} (S:Sta B G0 H cs ds) (m:Has ds (.list xs) v) (k:∀l H',zS H H'->Sta B G0 H' ((l,oN xs lo g)::cs) ds->Q (.ref l) H'):rSlL K v lo g H Q:=by
 obtain ⟨p,vs,rfl,hp,s,u,t⟩:=S.lstAll m;refine ⟨p,vs,rfl,SqL.of hp,λl hn=>k l _ (zS.new hn _) ((u.newL hn λG a=>?_).dat λq r=> .mem (QI _ r))⟩;unfold oN HJ;rw [s];exact ((t G a).drop _).take _
def nO {lo g:Option Int} {L:Addr} (S:Sta B G0 H cs ds) (m:(L,xs)∈cs) (k:∀l H',zS H H'->Sta B G0 H' ((l,oN xs lo g)::cs) ds->Q (.ref l) H'):rSlL K (.ref L) lo g H Q:=by
 obtain ⟨vs,hp,s,u,t⟩:=S.cellAll m;refine ⟨L,vs,rfl,SqL.of hp,λl hn=>k l _ (zS.new hn _) ((u.newL hn λG a=>?_).dat λq r=> .mem (QI _ r))⟩;unfold oN HJ;rw [s];exact ((t G a).drop _).take _
end
def mulModOk (h:(0<m/\m<2 ^ 64)/\(0<n/\n<2 ^ 64)):IntMulOk (a % m) (b % n):=by
 have t:=jaF a (show m≠0 by omega);have s:=jao a h.1.1;have r:=jaF b (show n≠0 by omega);have q:=jao b h.2.1;have e:(2:Nat) ^ 64=18446744073709551616:=by decide
 have g:(2:Int) ^ 64=18446744073709551616:=by decide
 rw [g] at h;exact Sz.mulOk (m:=64) (n:=64) (by unfold Sz;rw [e];omega) (by unfold Sz;rw [e];omega) nofun
def iteNT {A B:Prop} (h:B):if (!true)=true then A else B:=h
section
variable {B G0 H:Hp} {cs:yp} {ds:Dat} {Q:VK} {v:V} {xs zs:List PyData} {K:Frg} {X:Cx} {L M:Addr}
def Fe:R2:=λx y H Q=>rI0 (λi j=> .int (i+j)) x y H Q\/rCat x y H Q
def BG:OpR X (binaryOp .Add) Fe:=op_add.or op_cat
def rd_addI (h:Q (.int (i+j)) H):Fe (.int i) (.int j) H Q:= .inl ⟨i,j,rfl,rfl,h⟩
def Vw (B G0 H:Hp) (cs:yp) (ds:Dat) (L:Addr) (xs:List PyData):Prop:=∃vs,H L=some (.lst vs)/\∀G,HS B G0 H cs ds G->zJ G xs vs
def Sta.vwL (S:Sta B G0 H cs ds) (h:Has ds (.list xs) (.ref L)):Vw B G0 H cs ds L xs:=by
 obtain ⟨G,S⟩:=S;have q:=h G S.2.2.2.2.2.2;rw [Is] at q;obtain ⟨p,vs,e,hp,u⟩:=q;cases e;have m:=S.2.1 _ _ hp;refine ⟨vs,m,λw g=>?_⟩;have q:=h w g.2.2.2.2.2.2;rw [Is] at q;obtain ⟨p,r,e,t,s⟩:=q;cases e;have:=g.2.1 _ _ t;rw [m] at this;cases this;exact s
def Sta.vwC (S:Sta B G0 H cs ds) (h:(L,xs)∈cs):Vw B G0 H cs ds L xs:=by
 obtain ⟨G,S⟩:=S;obtain ⟨_,_,vs,z,u⟩:=S.2.2.2.2.1 _ h;refine ⟨vs,z,λs r=>?_⟩;obtain ⟨_,_,m,g,q⟩:=r.2.2.2.2.1 _ h;rw [z] at g;cases g;exact q
def ZG (S:Sta B G0 H cs ds) (v1:Vw B G0 H cs ds L xs) (v2:Vw B G0 H cs ds M zs) (hz:xs.length+zs.length<=1000)
 (k:∀p H',zS H H'->Sta B G0 H' ((p,xs++zs)::cs) ds->Q (.ref p) H'):Fe (.ref L) (.ref M) H Q:=by
 obtain ⟨us,D,w⟩:=v1;obtain ⟨ws,C,t⟩:=v2;obtain ⟨G,r⟩:=id S;refine .inr ⟨L,M,us,ws,rfl,rfl,D,C,jbM (Wx (by rw [<-(w G r).len,<-(t G r).len];exact hz)),λp hp=>k p _ (zS.new hp _) ?_⟩;obtain ⟨a,b,c,d,e,f,g⟩:=id r;have A:G p=none:=b.free hp;refine ⟨G,a,b.trans (zS.new hp _),c.trans (zS.new hp _),d,λq m=>?_,?_,g⟩
 ·rcases Qn.mp m with rfl|m
  ·exact ⟨c.free hp,A,_,yM,(w G r).app (t G r)⟩
  ·obtain ⟨x,y,ws,z,u⟩:=e q m;have s:q.1≠p:=yj z hp;exact ⟨x,y,ws,by rw [yh s];exact z,u⟩
 ·rw [Ql,jae];refine ⟨λz=>?_,f⟩;obtain ⟨q,m,s⟩:=Qj.mp z;obtain ⟨_,_,ws,z,_⟩:=e q m;rw [s,hp] at z;cases z
def rSum (K:Frg):List V->Hp->VK->Prop:=λxs H Q=>∃(p:Addr) (ns:List Int),xs=[.ref p]/\SqL K H p (ns.map V.int)/\Q (.int ns.sum) H
def call_sumA (C:X.calm=true):Ve X (.builtin "sum") (rSum X.K):=by
 intro pins s σ H xs us Q I r h;obtain ⟨p,ns,rfl,y,q⟩:=h;obtain ⟨u,rfl,t⟩:=dI r;cases t;obtain ⟨its,w,pl,_⟩:=I.list y;have g:=Xx w;obtain ⟨ys,e⟩:=g.allInts.items;have z:s.heap.IsList p (intItems ys):=e▸pl.isList;have m:ys.toList.map (·.1)=ns:=by rw [<-nums_intItems,<-e];exact g.numsOf
 refine sum_intListG (I.ok.hd C) z λh' tk t' A=>?_;refine ⟨.int ns.sum,H,I.kept (t':=tk) A,⟨t',?_⟩,q⟩;rw [preSum_eq,m,QQ (by rw [<-m];simp)]
theorem yF:∀{ns:List Int} {vs:List V},zJ G (ns.map PyData.int) vs->vs=ns.map V.int
 |[],vs,h=>by rw [jaJ,zJ] at h;exact h
 |n::ns,vs,h=>by
  rw [Ql,zJ] at h;obtain ⟨v,r,rfl,g,m⟩:=h;rw [Is] at g;subst g;rw [yF m,Ql]
def rd_sumC {ns:List Int} (S:Sta B G0 H cs ds) (h:(L,ns.map PyData.int)∈cs) (k:Q (.int ns.sum) H):rSum K [.ref L] H Q:=by
 obtain ⟨vs,hp,u⟩:=S.vwC h;obtain ⟨G,g⟩:=id S;rw [yF (u G g)] at hp;exact ⟨L,ns,rfl,SqL.of hp,k⟩
def rd_sumL {ns:List Int} (S:Sta B G0 H cs ds) (h:Has ds (.list (ns.map PyData.int)) v) (k:Q (.int ns.sum) H):rSum K [v] H Q:=by
 obtain ⟨p,vs,rfl,_⟩:=S.lst h;obtain ⟨vs,hp,u⟩:=S.vwL h;obtain ⟨G,g⟩:=id S;rw [yF (u G g)] at hp;exact ⟨_,ns,rfl,SqL.of hp,k⟩
end
def Ro (B g:Hp) (L:Addr) (xs:List PyData):Prop:=g L=none/\∃vs,B L=some (.lst vs)/\zJ g xs vs
def Src (B g:Hp) (b:Bool) (K:Frg) (a:Addr) (xs:List PyData) (P:yp->Dat->Prop):Prop:=∀{H:Hp} {cs:yp} {ds:Dat},Sta B g H cs ds->P cs ds->
 ∃vs,SqB b K H a vs/\xs.length=vs.length/\∀(i:Nat) (x:PyData),xs[i]? =some x->∃v,vs[i]? =some v/\Sta B g H cs ((x,v)::ds)
structure Wk (B G0:Hp) (J:It) (xs:List PyData) (P:yp->Dat->Prop):Prop where
 go:∀{H:Hp} {cs:yp} {ds:Dat} {i:Nat},Sta B G0 H cs ds->P cs ds->i<xs.length->J.go i H
 stop:∀{H:Hp} {cs:yp} {ds:Dat} {i:Nat},Sta B G0 H cs ds->P cs ds->xs.length<=i->J.stop i H
 yld:∀{H H':Hp} {cs:yp} {ds:Dat} {i:Nat} {x:PyData} {v:V},Sta B G0 H cs ds->P cs ds->xs[i]? =some x->J.yld i H v H'->zS H H'/\Sta B G0 H' cs ((x,v)::ds)
section
variable {B G0 H:Hp} {cs:yp} {ds:Dat} {K:Frg} {a:Addr} {xs ys:List PyData} {P P':yp->Dat->Prop} {b c:Bool} {v:V}
def Vf:Src B G0 true K a xs (λ_ ds=>Has ds (.list xs) (.ref a)):=λS h=>by
 obtain ⟨p,vs,e,hp,g,z⟩:=S.lst h;cases e;exact ⟨vs,SqL.of hp,g,z⟩
def dQ:Src B G0 false K a xs (λ_ ds=>Has ds (.tuple xs) (.ref a)):=λS h=>by
 obtain ⟨p,vs,e,hp,g,z⟩:=S.tup h;cases e;exact ⟨vs,SqT.of hp,g,z⟩
def EF:Src B G0 true K a xs (λcs _=>(a,xs)∈cs):=λS h=>by
 obtain ⟨vs,hp,g,z⟩:=S.cell h;exact ⟨vs,SqL.of hp,g,z⟩
def Ah (s:Src B G0 true K a xs P):Wk B G0 (Itl K a) xs P where
 go:=λ{H cs ds i} S h hi=>by
  obtain ⟨vs,q,g,_⟩:=s S h;exact ⟨vs,vs[i]'⋯,q,Qb _⟩
 stop:=λ{H cs ds i} S h hi=>by
  obtain ⟨vs,q,g,_⟩:=s S h;exact ⟨vs,q,⋯⟩
 yld:=λ{H H' cs ds i x v} S h hx y=>by
  obtain ⟨e,y⟩:=y;subst e;obtain ⟨vs,q,g,z⟩:=s S h;obtain ⟨w,hw,m⟩:=z i x hx;have:=y vs q;rw [hw] at this;cases this;exact ⟨zS.refl _,m⟩
def wk_tup (s:Src B G0 false K a xs P):Wk B G0 (Itt K a) xs P where
 go:=λ{H cs ds i} S h hi=>by
  obtain ⟨vs,q,g,_⟩:=s S h;exact ⟨vs,vs[i]'⋯,q,Qb _⟩
 stop:=λ{H cs ds i} S h hi=>by
  obtain ⟨vs,q,g,_⟩:=s S h;exact ⟨vs,q,⋯⟩
 yld:=λ{H H' cs ds i x v} S h hx y=>by
  obtain ⟨e,y⟩:=y;subst e;obtain ⟨vs,q,g,z⟩:=s S h;obtain ⟨w,hw,m⟩:=z i x hx;have:=y vs q;rw [hw] at this;cases this;exact ⟨zS.refl _,m⟩
noncomputable def jh (lo:Int) (n:Nat):List PyData:=(List.range n).map λi=> .int (lo+(i:Nat))
def yR (lo:Int) (n:Nat):(jh lo n).length=n:=by unfold jh;rw [Qa,jaN]
def Xu {lo:Int} {n i:Nat} {x:PyData} (h:(jh lo n)[i]? =some x):i<n/\x= .int (lo+(i:Nat)):=by
 have g:i<n:=by have:=(Qd.mp h).1;rwa [yR] at this
 unfold jh at h;rw [Qh,List.getElem?_range g] at h;exact ⟨g,(QK h).symm⟩
def Ey {lo:Int} {n:Nat}:Wk B G0 (Itr lo n) (jh lo n) (λ_ _=>True) where
 go:=λ{H cs ds i} S h hi=>by rw [yR] at hi;exact hi
 stop:=λ{H cs ds i} S h hi=>by rw [yR] at hi;exact hi
 yld:=λ{H H' cs ds i x v} S h hx y=>by
  obtain ⟨e,y⟩:=y;obtain ⟨_,rfl⟩:=Xu hx;subst e y;exact ⟨zS.refl _,S.push Has.int⟩
noncomputable def rm (xs:List PyData):List PyData:=xs.mapIdx λi x=> .tuple [.int (i:Nat),x]
def xV (xs:List PyData):(rm xs).length=xs.length:=by unfold rm;rw [List.length_mapIdx]
def Vo {xs:List PyData} {i:Nat} {y:PyData} (h:(rm xs)[i]? =some y):∃x,xs[i]? =some x/\y= .tuple [.int (i:Nat),x]:=by
 unfold rm at h;rw [List.getElem?_mapIdx] at h
 cases e:xs[i]? with
 |none=>rw [e] at h;cases h
 |some x=>rw [e] at h;exact ⟨x,rfl,(QK h).symm⟩
def Ai (s:Src B G0 b K a xs P):Wk B G0 (ItE b K a) (rm xs) P where
 go:=λ{H cs ds i} S h hi=>by
  rw [xV] at hi;obtain ⟨vs,q,g,_⟩:=s S h;exact ⟨vs,vs[i]'⋯,q,Qb _⟩
 stop:=λ{H cs ds i} S h hi=>by
  rw [xV] at hi;obtain ⟨vs,q,g,_⟩:=s S h;exact ⟨vs,q,⋯⟩
 yld:=λ{H H' cs ds i x v} S h hx y=>by
  obtain ⟨x0,A,rfl⟩:=Vo hx;obtain ⟨p,u,m,hp,rfl,rfl⟩:=y;obtain ⟨vs,q,g,z⟩:=s S h;obtain ⟨w,hw,t⟩:=z i x0 A;have:=m vs q;rw [hw] at this;cases this;refine ⟨zS.new hp _,(t.newT hp (xs:=[.int (i:Nat),x0]) (vs:=[.int (i:Nat),u]) (.cons Has.int (.cons (.mem (Qe ..)) .nil))).dat λr hr=> .mem ?_⟩
  rcases Qn.mp hr with rfl|hr
  ·exact Qe ..
  ·exact Qf _ (Qf _ hr)
noncomputable def sj (xs ys:List PyData):List PyData:=List.zipWith (λx y=> .tuple [x,y]) xs ys
def yL (xs ys:List PyData):(sj xs ys).length=min xs.length ys.length:=by unfold sj;rw [QC]
def Zt {xs ys:List PyData} {i:Nat} {z:PyData} (h:(sj xs ys)[i]? =some z):∃x y,xs[i]? =some x/\ys[i]? =some y/\z= .tuple [x,y]:=by
 unfold sj at h;rw [Qt] at h
 cases e:xs[i]? with
 |none=>rw [e] at h;cases h
 |some x=>
  cases e2:ys[i]? with
  |none=>rw [e,e2] at h;cases h
  |some y=>rw [e,e2] at h;exact ⟨x,y,rfl,rfl,(QK h).symm⟩
def Ag {a2:Addr} (s:Src B G0 b K a xs P) (s2:Src B G0 c K a2 ys P'):Wk B G0 (ItZ b c K a a2) (sj xs ys) (λcs ds=>P cs ds/\(∀x v,P' cs ds->P' cs ((x,v)::ds))/\P' cs ds) where
 go:=λ{H cs ds i} S h hi=>by
  rw [yL] at hi;obtain ⟨vs,q,C,_⟩:=s S h.1;obtain ⟨ws,g,D,_⟩:=s2 S h.2.2;exact ⟨vs,ws,vs[i]'⋯,ws[i]'⋯,q,g,Qb _,Qb _⟩
 stop:=λ{H cs ds i} S h hi=>by
  rw [yL] at hi;obtain ⟨vs,q,C,_⟩:=s S h.1;obtain ⟨ws,g,D,_⟩:=s2 S h.2.2;exact ⟨vs,ws,q,g,⋯⟩
 yld:=λ{H H' cs ds i x v} S h hx y=>by
  obtain ⟨x0,A,N,m,rfl⟩:=Zt hx;obtain ⟨p,u,G,I,J,hp,rfl,rfl⟩:=y;obtain ⟨vs,q,C,z⟩:=s S h.1;obtain ⟨w,hw,M⟩:=z i x0 N;obtain ⟨ws,g,D,z2⟩:=s2 M (h.2.1 _ _ h.2.2);obtain ⟨O,L,t⟩:=z2 i A m;have:=I vs q;rw [hw] at this;cases this;have:=J ws g;rw [L] at this;cases this;refine ⟨zS.new hp _,(t.newT hp (xs:=[x0,A]) (vs:=[u,G]) (.cons (.mem (Qf _ (Qe ..))) (.cons (.mem (Qe ..)) .nil))).dat λr hr=> .mem ?_⟩
  rcases Qn.mp hr with rfl|hr
  ·exact Qe ..
  ·exact Qf _ (Qf _ (Qf _ hr))
def kIL (K:Frg) (R:It->Hp->Prop):VK:=λx H1=>∃a,x= .ref a/\(∃xs,SqL K H1 a xs)/\R (Itl K a) H1
def kIT (K:Frg) (R:It->Hp->Prop):VK:=λx H1=>∃a,x= .ref a/\(∃xs,SqT K H1 a xs)/\R (Itt K a) H1
def kR1 (R:It->Hp->Prop):List V->Hp->Prop:=λvs H1=>∃j:Int,vs=[.int j]/\ -(2 ^ 62)<=j/\j<2 ^ 62/\R (Itr 0 j.toNat) H1
def kEn (b:Bool) (K:Frg) (R:It->Hp->Prop):List V->Hp->Prop:=λvs H1=>∃a,vs=[.ref a]/\(∃xs,SqB b K H1 a xs)/\R (ItE b K a) H1
def kZi (b c:Bool) (K:Frg) (R:It->Hp->Prop):List V->Hp->Prop:=λvs H1=>∃a1 a2,vs=[.ref a1, .ref a2]/\(∃xs,SqB b K H1 a1 xs)/\(∃ys,SqB c K H1 a2 ys)/\R (ItZ b c K a1 a2) H1
section
variable {σ:L2.St} {R:It->Hp->Prop} {tl:TE} {ta:TA}
def rd_iList (h:tl σ H (kIL K R)):iList K tl σ H R:=h
def rd_iTup (h:tl σ H (kIT K R)):iTup K tl σ H R:=h
def rd_iR1 (h:ta σ H (kR1 R)):iRng1 ta σ H R:=h
def rd_iEn (h:ta σ H (kEn b K R)):iEnum b K ta σ H R:=h
def rd_iZi (h:ta σ H (kZi b c K R)):iZip b c K ta σ H R:=h
def nV (B G0:Hp) (m: -1000<=j) (g:j<=1000000) (k:∀J,Wk B G0 J (jh 0 j.toNat) (λ_ _=>True)->R J H):kR1 R [.int j] H:=⟨j,rfl,⋯,⋯,k _ Ey⟩
end
def kGT (K:Frg) (n:Nat) (t:TGs) (σ:L2.St) (N:L2.St->Hp->Prop):VK:=λv H=>∃a xs,v= .ref a/\SqT K H a xs/\xs.length=n/\t xs σ H N
def xG (h:kGT K n t σ N v H):gTup K n t v σ H N:=h
def rd_kGT (S:Sta B G0 H cs ds) (h:Has ds (.tuple xs) v) (hn:xs.length=n) (k:∀vs,xs.length=vs.length->Sta B G0 H cs (xs.zip vs++ds)->t vs σ H N):kGT K n t σ N v H:=by
 obtain ⟨p,vs,rfl,hp,g,m,_⟩:=S.tupAll h;exact ⟨p,vs,rfl,SqT.of hp,⋯,k vs g m⟩
def xF (S:Sta B G0 H cs ds) (h:Has ds (.tuple [x,y]) v) (k:∀m g,Sta B G0 H cs ((x,m)::(y,g)::ds)->t [m,g] σ H N):kGT K 2 t σ N v H:=by
 refine rd_kGT S h rfl λvs q r=>?_
 rcases vs with _|⟨m,_|⟨g,_|⟨s,vs⟩⟩⟩<;>try cases q
 exact k m g r
def yN (h:t v σ H λσ' H'=>u vs σ' H' N):gCons t u (v::vs) σ H N:=⟨v,vs,rfl,h⟩
def Wc (h:N σ H):gNil [] σ H N:=⟨rfl,h⟩
def kFor (g:TG) (r:TS) (D:Ends) (σ:L2.St):It->Hp->Prop:=λJ H1=>∃W:Nat->Nat->L2.St->Hp->Prop,(∃m,W 0 m σ H1)/\∀i m σ H,W i m σ H->
 (J.stop i H/\D.nx σ H)\/(J.go i H/\∃N:L2.St->Hp->Prop,(∀σ' H',N σ' H'->∃q,q<m/\W (i+1) q σ' H')/\∀x H',J.yld i H x H'->g x σ H' λσ2 H2=>r {D with nx:=N,ct:=N,bk:=D.nx} σ2 H2)
def rd_for (h:wi σ H (kFor g tb D σ)):tFor wi g tb D σ H:=h
def AtP (B G0:Hp) (Pv:L2.St->yp->Dat->Prop):L2.St->Hp->Prop:=λσ H=>∃cs ds,Sta B G0 H cs ds/\Pv σ cs ds
def YD (S:Sta B G0 H cs ds) (h:Pv σ cs ds):AtP B G0 Pv σ H:=⟨cs,ds,S,h⟩
def Zp (w:Wk B G0 J xs P) (Pv:Nat->L2.St->yp->Dat->Prop) (S:Sta B G0 H cs ds) (h0:Pv 0 σ cs ds) (r:∀i σ cs ds,Pv i σ cs ds->P cs ds)
 (s:∀(i:Nat) (x:PyData) (v:V) (σ:L2.St) (H:Hp) (cs:yp) (ds:Dat),xs[i]? =some x->Pv i σ cs ds->Sta B G0 H cs ((x,v)::ds)->g v σ H λσ2 H2=>tb (mkL D (AtP B G0 (Pv (i+1)))) σ2 H2)
 (hd:∀(σ:L2.St) (H:Hp) (cs:yp) (ds:Dat),Pv xs.length σ cs ds->Sta B G0 H cs ds->D.nx σ H):kFor g tb D σ J H:=by
 refine ⟨λi m σ H=>m=xs.length - i/\i<=xs.length/\AtP B G0 (Pv i) σ H,⟨xs.length,by simp,jar _,cs,ds,S,h0⟩,?_⟩
 rintro i m σ H ⟨rfl,hi,cs,ds,S,p⟩
 by_cases q:i<xs.length
 ·refine .inr ⟨w.go S (r _ _ _ _ p) q,AtP B G0 (Pv (i+1)),λσ' H' p'=>⟨xs.length - (i+1),⋯,rfl,q,p'⟩,λx H' y=>?_⟩;exact s i _ x σ H' cs ds (Qb q) p (w.yld S (r _ _ _ _ p) (Qb q) y).2
 ·have e:i=xs.length:=⋯
  subst e;exact .inl ⟨w.stop S (r _ _ _ _ p) (Qu _),hd σ H cs ds p S⟩
def WP (B G0:Hp) (Pv:Nat->L2.St->yp->Dat->Prop):Nat->L2.St->Hp->Prop:=λm σ H=>AtP B G0 (Pv m) σ H
def kWh (W:Nat->L2.St->Hp->Prop) (q:TS) (D:Ends) (m:Nat) (σ:L2.St):Bool->Hp->Prop:=λb H1=>if b=true then ∃N:L2.St->Hp->Prop,(∀σ' H',N σ' H'->∃g,g<m/\W g σ' H')/\q {D with nx:=N,ct:=N,bk:=D.nx} σ H1 else D.nx σ H1
def vh (s:b=true->tb (mkL D (λσ' H'=>∃g,g<m/\W g σ' H')) σ H)
 (r:b=false->D.nx σ H):kWh W tb D m σ b H:=by
 cases b with
 |true=>exact ⟨_,λσ' H' q=>q,s rfl⟩
 |false=>exact r rfl
def pU {c:TT} {g:TS} {D:Ends} {σ:L2.St} (W:Nat->L2.St->Hp->Prop) (m:Nat) (h0:W m σ H) (q:∀(m:Nat) (σ:L2.St) (H:Hp),W m σ H->c σ H (kWh W g D m σ)):Ao c g D σ H:=⟨W,⟨m,h0⟩,q⟩
def mP {c:TT} {g:TS} {D:Ends} {σ:L2.St} (Pv:Nat->L2.St->yp->Dat->Prop) (m:Nat) (S:Sta B G0 H cs ds) (h0:Pv m σ cs ds)
 (q:∀(m:Nat) (σ:L2.St) (H:Hp) (cs:yp) (ds:Dat),Pv m σ cs ds->Sta B G0 H cs ds->c σ H (kWh (WP B G0 Pv) g D m σ)):Ao c g D σ H:=
 ⟨WP B G0 Pv,⟨m,cs,ds,S,h0⟩,λm σ H ⟨cs,ds,S,p⟩=>q m σ H cs ds p S⟩
def Gf (n:Nat) (fr:List Nat) (g:Blk TG) (tt:Blk TT) (z:Blk TE) (σ:L2.St) (Q:VK):It->Hp->Prop:=λJ H1=>∀D,H1 D=none->∀C ex s0 s,
 ∃W:Nat->Nat->List V->Hp->Prop,(∃m,W 0 m [] (upd H1 D (.lst [])))/\∀i m ys q,W i m ys q->q D=some (.lst ys)/\
  ((J.stop i q/\Q (.ref D) q)\/(J.go i q/\∀x w,J.yld i q x w->g C ex s0 s x (List.replicate n none++frσ σ fr) w λσ4 H4=>σ4.drop n=frσ σ fr/\tt C ex s0 s σ4 H4 λb u=>
    if b=true then z C ex s0 s σ4 u λy t=>t D=some (.lst ys)/\ys.length<sizeLine/\∃r,r<m/\W (i+1) r (ys++[y]) (upd t D (.lst (ys++[y])))
    else ∃r,r<m/\W (i+1) r ys u))
def rd_comp (h:wi σ H (Gf n fr g tt te σ Q)):uP n fr wi g tt te σ H Q:=h
structure Turn1 (B G0:Hp) (cs:yp) (B' G':Hp):Prop where
 b:zS B B'
 ro:∀c∈cs,Ro B' G' c.1 c.2
 old:∀{L:Addr} {xs:List PyData},Ro B G0 L xs->Ro B' G' L xs
def WX (w:Wk B G0 J xs P) (f:Nat->Option PyData) (S:Sta B G0 H cs ds) (Oj:∀D ys,P ((D,ys)::cs) ds) (hn:xs.length<=1000)
 (hs:∀(i:Nat) (x:PyData) (v:V) (t G':Hp) (Kd:VK) (Kn:Hp->Prop),xs[i]? =some x->Turn1 B G0 cs t G'->Sta t G' t [] ((x,v)::ds)->
  (∀{z:PyData} {y:V} {r:Hp} {cs':yp} {ds':Dat},f i=some z->Sta t G' r cs' ds'->Has ds' z y->Kd y r)->(∀{s:Hp} {cs':yp} {ds':Dat},f i=none->Sta t G' s cs' ds'->Kn s)->
  ∀C ex s0 O,g C ex s0 O v (List.replicate n none++frσ σ fr) t λσ4 H4=>σ4.drop n=frσ σ fr/\tt C ex s0 O σ4 H4 λb s=>if b=true then te C ex s0 O σ4 s Kd else Kn s)
 (k:∀D H',zS H H'->Sta B G0 H' ((D,(List.range xs.length).filterMap f)::cs) ds->Q (.ref D) H'):Gf n fr g tt te σ Q J H:=by
 intro D hD C ex s0 O;have len:∀i,((List.range i).filterMap f).length<=i:=λi=>QW (jbq _ _) (by rw [jaN];exact Qu _);refine ⟨λi m ys N=>m=xs.length - i/\i<=xs.length/\N D=some (.lst ys)/\zS H N/\Sta B G0 N ((D,(List.range i).filterMap f)::cs) ds,⟨xs.length,by simp,jar _,yM,zS.new hD _,S.newL hD .nil⟩,?_⟩
 rintro i m ys N ⟨rfl,hi,Rx,U,Y⟩
 refine ⟨Rx,?_⟩
 by_cases M:i<xs.length
 ·refine .inr ⟨w.go Y (Oj _ _) M,λv Z y=>?_⟩;obtain ⟨X,G3,S3⟩:=w.yld Y (Oj _ _) (Qb M) y;obtain ⟨a,b,c,d,e,f',g'⟩:=id S3;have I:Z D=some (.lst ys):=X _ _ Rx
  have t1:Turn1 B G0 cs Z G3:=by
   refine ⟨c,λq T=>?_,λ{L zs} ⟨r1,vs,r2,r3⟩=>?_⟩
   ·obtain ⟨_,y',vs,z',u'⟩:=e q (Qf _ T);exact ⟨y',vs,z',u'⟩
   ·exact ⟨by rw [d L (by rw [r2];simp)];exact r1,vs,c _ _ r2,zJ.mono a _ _ r3⟩
  have up:∀{r:Hp} {cs':yp} {ds':Dat} {o:HO},zS H Z->H D=none->zS H r->zS H (upd r D o):=λ{r cs' ds' o} _ hn h q u T=>by
   rw [yh (yj T hn)];exact h _ _ T
  refine hs i _ v Z G3 _ _ (Qb M) t1 (Sta.enter b g') ?_ ?_ C ex s0 O
  ·intro z y6 r cs' ds' fz S6 hz;obtain ⟨G6,gr,al⟩:=S6.leave;have A:r D=some (.lst ys):=gr.h _ _ I;have S6':HS B G0 r ((D,(List.range i).filterMap f)::cs) ((xs[i],v)::ds) G6:=S3.grow gr
   have S7:Sta B G0 r ((D,(List.range i).filterMap f)::cs) ((z,y6)::ds):=by
    obtain ⟨a',b',c',d',e',f'',g''⟩:=S6';exact ⟨G6,a',b',c',d',e',f'',Xl.cons (λp hp=>g'' p (Qf _ hp)) (hz G6 al)⟩
   obtain ⟨vs,hv,hl,put⟩:=S7.put;rw [A] at hv;cases hv;refine ⟨A,Wx (by have:=len i;omega),xs.length - (i+1),⋯,rfl,M,yM,up (cs':=cs') (ds':=ds') (U.trans X) hD ((U.trans X).trans gr.h),?_⟩
   have er:(List.range (i+1)).filterMap f=(List.range i).filterMap f++[z]:=by
    rw [List.range_succ,List.filterMap_append];simp [fz]
   rw [er];exact (put _ _ λG a u=>u.app (by rw [zJ];exact ⟨y6,[],rfl,a _ (Qe ..),by rw [zJ]⟩)).drop1
  ·intro s cs' ds' fz S5;obtain ⟨G5,gr,al⟩:=S5.leave;have S5':Sta B G0 s ((D,(List.range i).filterMap f)::cs) ((xs[i],v)::ds):=⟨G5,S3.grow gr⟩
   have er:(List.range (i+1)).filterMap f=(List.range i).filterMap f:=by
    rw [List.range_succ,List.filterMap_append];simp [fz]
   exact ⟨xs.length - (i+1),⋯,rfl,M,gr.h _ _ I,(U.trans X).trans gr.h,by rw [er];exact S5'.drop1⟩
 ·have e:i=xs.length:=⋯
  subst e;exact .inl ⟨w.stop Y (Oj _ _) (Qu _),k D N U Y⟩
def JI {α β:Type} (g:α->β) (l:List α):l.filterMap (λi=>some (g i))=l.map g:=by
 induction l with
 |nil=>rfl
 |cons a l m=>simp [m]
def yG (w:Wk B G0 J xs P) (f:Nat->PyData) (G:(List.range xs.length).map f=ys) (S:Sta B G0 H cs ds) (M:∀D ys,P ((D,ys)::cs) ds) (hn:xs.length<=1000)
 (L:∀(i:Nat) (x:PyData) (v:V) (m q:Hp) (s:VK) (t:Hp->Prop),xs[i]? =some x->Turn1 B G0 cs m q->Sta m q m [] ((x,v)::ds)->
  (∀{y:V} {u:Hp} {cs':yp} {ds':Dat},Sta m q u cs' ds'->Has ds' (f i) y->s y u)->
  ∀C ex s0 z,g C ex s0 z v (List.replicate n none++frσ σ fr) m λσ4 H4=>σ4.drop n=frσ σ fr/\tt C ex s0 z σ4 H4 λb A=>if b=true then te C ex s0 z σ4 A s else t A)
 (k:∀D H',zS H H'->Sta B G0 H' ((D,ys)::cs) ds->Q (.ref D) H'):Gf n fr g tt te σ Q J H:=by
 refine WX w (λi=>some (f i)) S M hn (λi x v m q s t I t1 r hd _=>L i x v m q s t I t1 r λ{y u cs' ds'} a b=>hd rfl a b) λD H' e r=>k D H' e ?_;rw [JI,G] at r;exact r
def zM (S:Sta B G0 H cs ds) (h:Has ds (.list xs) v) (k:∀J,Wk B G0 J xs (λ_ ds=>Has ds (.list xs) v)->R J H):kIL K R v H:=by
 obtain ⟨p,vs,rfl,hp,_⟩:=S.lst h;exact ⟨p,rfl,⟨_,SqL.of hp⟩,k _ (Ah Vf)⟩
def qB (S:Sta B G0 H cs ds) (h:Has ds (.tuple xs) v) (k:∀J,Wk B G0 J xs (λ_ ds=>Has ds (.tuple xs) v)->R J H):kIT K R v H:=by
 obtain ⟨p,vs,rfl,hp,_⟩:=S.tup h;exact ⟨p,rfl,⟨_,SqT.of hp⟩,k _ (wk_tup dQ)⟩
def Br (S:Sta B G0 H cs ds) (h:(L,xs)∈cs) (k:∀J,Wk B G0 J xs (λcs _=>(L,xs)∈cs)->R J H):kIL K R (.ref L) H:=by
 obtain ⟨vs,hp,_⟩:=S.cell h;exact ⟨L,rfl,⟨_,SqL.of hp⟩,k _ (Ah EF)⟩
def IQ (S:Sta B G0 H cs ds) (h:Has ds (.tuple xs) v) (k:∀J,Wk B G0 J (rm xs) (λ_ ds=>Has ds (.tuple xs) v)->R J H):kEn false K R [v] H:=by
 obtain ⟨p,vs,rfl,hp,_⟩:=S.tup h;exact ⟨p,rfl,⟨_,SqT.of hp⟩,k _ (Ai dQ)⟩
def kW (S:Sta B G0 H cs ds) (h:Has ds (.list xs) v) (k:∀J,Wk B G0 J (rm xs) (λ_ ds=>Has ds (.list xs) v)->R J H):kEn true K R [v] H:=by
 obtain ⟨p,vs,rfl,hp,_⟩:=S.lst h;exact ⟨p,rfl,⟨_,SqL.of hp⟩,k _ (Ai Vf)⟩
def kU (S:Sta B G0 H cs ds) (h:Has ds (.tuple xs) v) (m:Has ds (.tuple ys) w) (k:∀J,Wk B G0 J (sj xs ys) (λcs ds=>Has ds (.tuple xs) v/\(∀x u,Has ds (.tuple ys) w->Has ((x,u)::ds) (.tuple ys) w)/\Has ds (.tuple ys) w)->R J H):kZi false false K R [v,w] H:=by
 obtain ⟨p,vs,rfl,hp,_⟩:=S.tup h;obtain ⟨q,ws,rfl,g,_⟩:=S.tup m;exact ⟨p,q,rfl,⟨_,SqT.of hp⟩,⟨_,SqT.of g⟩,k _ (Ag dQ dQ)⟩
def Sta.refL (S:Sta B G0 H cs ds) (h:Has ds (.list xs) v):∃a,v= .ref a:=by
 obtain ⟨p,_,e,_⟩:=S.lst h;exact ⟨p,e⟩
section
variable {α:Type}
def spT (enc:α->List PyData) (dom:α->Prop) (res:α->PyData):Sp:=λvs H Q _=>∃(G:Hp) (a:α),zS G H/\zJ G (enc a) vs/\dom a/\∀v H' g,Grow G H g H'->Is g (res a) v->Q v H'
def spL (enc:α->List PyData) (dom:α->Prop) (res:α->List PyData):Sp:=λvs H Q _=>∃(G:Hp) (a:α),zS G H/\zJ G (enc a) vs/\dom a/\∀p H' g us,Grow G H g H'->H p=none->g p=none->H' p=some (.lst us)->zJ g (res a) us->Q (.ref p) H'
def spB (enc:α->List PyData) (dom:α->Prop) (res:α->V):Sp:=λvs H Q _=>∃(a:α),zJ H (enc a) vs/\dom a/\∀H',zS H H'->Q (res a) H'
variable {enc:α->List PyData} {dom:α->Prop} {res:α->PyData} {resL:α->List PyData} {resB:α->V} {Q:VK} {E:XK} {vs:List V}
def Zf (a:α) (S:Sta B G0 H cs ds) (g:yI ds (enc a) vs) (hd:dom a) (k:∀v H',zS H H'->Sta B G0 H' cs ((res a,v)::ds)->Q v H'):spT enc dom res vs H Q E:=by
 obtain ⟨G,S⟩:=S;refine ⟨G,a,S.2.1,g G S.2.2.2.2.2.2,hd,λv H' w gr m=>k v H' gr.h ?_⟩;obtain ⟨u,t,s,d',r,q,g'⟩:=S.grow gr;exact ⟨w,u,t,s,d',r,q,g'.cons m⟩
def Zs (a:α) (S:Sta B G0 H cs ds) (m:yI ds (enc a) vs) (hd:dom a) (k:∀p H',zS H H'->Sta B G0 H' ((p,resL a)::cs) ds->Q (.ref p) H'):spL enc dom resL vs H Q E:=by
 obtain ⟨G,S⟩:=S;refine ⟨G,a,S.2.1,m G S.2.2.2.2.2.2,hd,λp H' J us gr hp t s r=>k p H' gr.h ?_⟩;have u:=S.2.2.1.free hp;obtain ⟨_,_,_,_,e0,_,_⟩:=id S;obtain ⟨D,C,A,d',y,w,g'⟩:=S.grow gr;refine ⟨J,D,C,A,d',λq g=>?_,?_,g'⟩
 ·rcases Qn.mp g with rfl|g
  ·exact ⟨u,t,us,s,r⟩
  ·exact y q g
 ·rw [Ql,jae];refine ⟨λz=>?_,w⟩;obtain ⟨q,g,I⟩:=Qj.mp z;obtain ⟨_,_,ws,z,_⟩:=e0 q g;rw [I,hp] at z;cases z
def UE (a:α) (g:zJ H (enc a) vs) (hd:dom a) (k:∀H',zS H H'->Q (resB a) H'):spB enc dom resB vs H Q E:=⟨a,g,hd,k⟩
def Sta.hpAll (S:Sta B G0 H cs ds) (h:yI ds xs vs):zJ H xs vs:=by
 obtain ⟨G,a,b,c,d,e,f,g⟩:=S;exact zJ.mono b _ _ (h G g)
def xE (S:Sta H G H' cs ds) (k:∀v H' g,Grow G H g H'->Is g r v->Q v H') (h:Has ds r v):Q v H':=by
 obtain ⟨g,gr,al⟩:=S.leave;exact k v H' g gr (h g al)
def xR (S:Sta H G H' ((p,r)::cs) ds) (k:∀p H' m us,Grow G H m H'->H p=none->m p=none->H' p=some (.lst us)->zJ m r us->Q (.ref p) H'):Q (.ref p) H':=by
 obtain ⟨m,a,b,c,d,e,f,g⟩:=S;obtain ⟨x,y,us,z,u⟩:=e _ (Qe ..);exact k p H' m us ⟨c,a,b,d⟩ x y z u
def ret_B (S:Sta H G H' cs ds) (k:∀H',zS H H'->Q r H'):Q r H':=k H' S.base
def Yz (h:zJ G [x] vs):∃v,vs=[v]/\Xl G [(x,v)]:=by
 simp only [zJ] at h;obtain ⟨v,_,rfl,g,rfl⟩:=h;exact ⟨v,rfl,λp hp=>by simp at hp;subst hp;exact g⟩
def xB (h:zJ G [x,y] vs):∃v w,vs=[v,w]/\Xl G [(x,v),(y,w)]:=by
 simp only [zJ] at h;obtain ⟨v,_,rfl,m,w,_,rfl,g,rfl⟩:=h;exact ⟨v,w,rfl,λp hp=>by simp at hp;rcases hp with rfl|rfl<;>assumption⟩
def ZZ (h:zJ G [x,y,z] vs):∃v w u,vs=[v,w,u]/\Xl G [(x,v),(y,w),(z,u)]:=by
 simp only [zJ] at h;obtain ⟨v,_,rfl,q,w,_,rfl,m,u,_,rfl,g,rfl⟩:=h;exact ⟨v,w,u,rfl,λp hp=>by simp at hp;rcases hp with rfl|rfl|rfl<;>assumption⟩
def Is.int_of (h:Is G (.int i) v):v= .int i:=by rw [Is] at h;exact h
end
end
end S
namespace S
def par (c t:List Int):Prop:=c.map (·*t.sum)=t.map (·*c.sum)
instance (c t:List Int):Decidable (par c t):=inferInstanceAs (Decidable (_=_))
open Classical in
noncomputable def yg (a:Rat×List Rat):List (Rat×List Rat)->List (Rat×List Rat)
 |[]=>[]
 |[b]=>[b]
 |b::c::r=>if zR a b c then yg b (c::r) else b::yg b (c::r)
open Classical in
noncomputable def Yx (cs:List zh) (i:Nat):Bool:=decide (i=0\/i+1=cs.length\/¬∀(a b c:zh),cs[i - 1]? =some a->cs[i]? =some b->cs[i+1]? =some c->zR a b c)
open Classical in
def Xw (h:i=0\/i+1=cs.length\/¬∀(a b c:zh),cs[i - 1]? =some a->cs[i]? =some b->cs[i+1]? =some c->zR a b c):Yx cs i=true:=by
 unfold Yx;exact QZ h
open Classical in
def jw (h:¬(i=0\/i+1=cs.length\/¬∀(a b c:zh),cs[i - 1]? =some a->cs[i]? =some b->cs[i+1]? =some c->zR a b c)):Yx cs i=false:=by
 unfold Yx;exact Tc h
noncomputable def yo:List zh->List zh
 |[]=>[]
 |c::r=>c::yg c r
theorem tL:∀(r pre:List zh) (a:zh),(List.range' (pre.length+1) r.length).filterMap (λj=>if Yx (pre++a::r) j then (pre++a::r)[j]? else none)=yg a r
 |[],pre,a=>by simp [yg]
 |[b],pre,a=>by
  have g:Yx (pre++[a,b]) (pre.length+1)=true:=Xw (.inr (.inl (by simp)));simp [yg,g]
 |b::c::r,pre,a=>by
  have s:=tL (c::r) (pre++[a]) b;rw [QB,TX,jaj,List.singleton_append] at s;rw [Qy,List.range'_succ,jbb,yg]
  have w:(pre++a::b::c::r)[pre.length+1 - 1]? =some a:=by
   rw [Nat.add_sub_cancel,TQ (Qu _),Nat.sub_self];rfl
  have g1:(pre++a::b::c::r)[pre.length+1]? =some b:=by
   rw [TQ ⋯,show pre.length+1 - pre.length=1 by omega];rfl
  have g2:(pre++a::b::c::r)[pre.length+1+1]? =some c:=by
   rw [TQ ⋯,show pre.length+1+1 - pre.length=2 by omega];rfl
  by_cases m:zR a b c
  ·have g:Yx (pre++a::b::c::r) (pre.length+1)=false:=by
    refine jw ?_
    rintro (q|q|q)
    ·omega
    ·simp at q;omega
    ·refine q λx y z u t hz=>?_;rw [w] at u;rw [g1] at t;rw [g2] at hz;cases u;cases t;cases hz;exact m
   rw [g,QH m]
   simpa using s
  ·have g:Yx (pre++a::b::c::r) (pre.length+1)=true:=Xw (.inr (.inr λq=>m (q a b c w g1 g2)));rw [g,QP m,QH rfl,g1];dsimp only;rw [s]
def vZ {β:Type} (cs:List zh) (g:zh->β):(List.range cs.length).filterMap (λj=>if Yx cs j then (cs[j]?).map g else none)=(yo cs).map g:=by
 have e:(List.range cs.length).filterMap (λj=>if Yx cs j then (cs[j]?).map g else none)=((List.range cs.length).filterMap (λj=>if Yx cs j then cs[j]? else none)).map g:=by
  rw [List.map_filterMap]
  congr 1
  funext j
  split<;>rfl
 rw [e]
 congr 1
 cases cs with
 |nil=>rfl
 |cons c r=>
  rw [Qy,List.range_eq_range',List.range'_succ,jbb];have m:Yx (c::r) 0=true:=Xw (.inl rfl);rw [m,QH rfl];have:=tL r [] c;simp only [List.length_nil,jaR,jbP] at this;simp only [List.getElem?_cons_zero,jbP];rw [this,yo]
end S
namespace S
open PySem PySem.Spec PyProof.Rows L2
section
variable {α:Type} {enc:α->List PyData} {dom:α->Prop} {res:α->V} {B G0 H:Hp} {cs:yp} {ds:Dat} {Q:VK} {E:XK} {vs:List V} {v w:V}
def spP (enc:α->List PyData) (dom:α->Prop) (res:α->V):Sp:=λvs H Q _=>∃(a:α),zJ H (enc a) vs/\dom a/\Q (res a) H
def rd_spP (a:α) (S:Sta B G0 H cs ds) (g:yI ds (enc a) vs) (hd:dom a) (k:Q (res a) H):spP enc dom res vs H Q E:=⟨a,S.hpAll g,hd,k⟩
def SzQ.of_div (e:q=Rat.divInt a b) (ha:Sz n a) (g:Sz n b) (h0:b≠0):SzQ n q:=by rw [e];exact SzQ.divInt ha g h0
def xx (p q:Rat):(p.den:Int)*(q.den:Int)≠0:=Int.ne_of_gt (Int.mul_pos (den_pos p) (den_pos q))
def rT (p q:Rat):Rat.divInt (p.num*(q.den:Int)+q.num*(p.den:Int)) ((p.den:Int)*(q.den:Int))=p+q:=by
 rw [Rat.add_def',<-Int.natCast_mul,Rat.divInt_ofNat]
def Ax (p q:Rat):Rat.divInt (p.num*(q.den:Int) - q.num*(p.den:Int)) ((p.den:Int)*(q.den:Int))=p - q:=by
 rw [Rat.sub_def',<-Int.natCast_mul,Rat.divInt_ofNat]
def Ci (p q:Rat):Rat.divInt (p.num*q.num) ((p.den:Int)*(q.den:Int))=p*q:=by
 rw [Rat.mul_def',<-Int.natCast_mul,Rat.divInt_ofNat]
def Hv {q:Rat} (h:q≠0):q.num≠0:=λz=>h (Rat.num_eq_zero.mp z)
def Dj (p q:Rat) (h:q≠0):Rat.divInt (p.num*(q.den:Int)) ((p.den:Int)*q.num)=p / q:=by
 rw [<-jbk,jbW,jah,Rat.inv_def]
section
variable {m n:Nat} {p q:Rat}
def SzQ.add (hp:SzQ m p) (g:SzQ n q):SzQ (m+n+1) (p+q):=
 SzQ.of_div (rT p q).symm (((hp.1.mul g.2).add ((g.1.mul hp.2).mono (Nat.le_of_eq (Nat.add_comm n m))))) ((hp.2.mul g.2).mono (jav _)) (xx p q)
def SzQ.sub (hp:SzQ m p) (g:SzQ n q):SzQ (m+n+1) (p - q):=
 SzQ.of_div (Ax p q).symm (((hp.1.mul g.2).sub ((g.1.mul hp.2).mono (Nat.le_of_eq (Nat.add_comm n m))))) ((hp.2.mul g.2).mono (jav _)) (xx p q)
def SzQ.mul (hp:SzQ m p) (g:SzQ n q):SzQ (m+n) (p*q):=
 SzQ.of_div (Ci p q).symm (hp.1.mul g.1) (hp.2.mul g.2) (xx p q)
def SzQ.div (hp:SzQ m p) (g:SzQ n q):SzQ (m+n) (p / q):=by
 by_cases h:q=0
 ·subst h;rw [jah,Rat.inv_zero,Rat.mul_zero]
  have hm:1<=m:=by
   cases m with
   |zero=>
    have r:(p.den:Int).natAbs<2 ^ 0:=hp.2;have s:=den_pos p;simp at r;omega
   |succ m=>omega
  exact ⟨sC (n:=m+n) ⋯ (show (-2:Int)<0 by decide) (show (0:Int)<2 by decide),sC (n:=m+n) ⋯ (show (-2:Int)<1 by decide) (show (1:Int)<2 by decide)⟩
 ·exact SzQ.of_div (Dj p q h).symm (hp.1.mul g.2) (hp.2.mul g.1) (Int.mul_ne_zero (Int.ne_of_gt (den_pos p)) (Hv h))
end
def gh (p q:Rat):Int.gcd (p.num*(q.den:Int)+q.num*(p.den:Int)) ((p.den:Int)*(q.den:Int))∣q.den*q.den:=by
 have s:=Int.gcd_dvd_left (a:=p.num*(q.den:Int)+q.num*(p.den:Int)) (b:=(p.den:Int)*(q.den:Int));have m:=Int.gcd_dvd_right (a:=p.num*(q.den:Int)+q.num*(p.den:Int)) (b:=(p.den:Int)*(q.den:Int));generalize Int.gcd (p.num*(q.den:Int)+q.num*(p.den:Int)) ((p.den:Int)*(q.den:Int))=g at s m⊢
 have z:(g:Int)∣p.num*((q.den:Int)*q.den):=by
  have a:=Int.dvd_sub (Int.dvd_mul_of_dvd_left (c:=(q.den:Int)) s) (Int.dvd_mul_of_dvd_right (b:=q.num) m)
  have e:(p.num*(q.den:Int)+q.num*(p.den:Int))*(q.den:Int) - q.num*((p.den:Int)*(q.den:Int))=p.num*((q.den:Int)*q.den):=by
   rw [Int.add_mul,Int.mul_assoc,Int.mul_assoc];omega
  rw [e] at a;exact a
 have y:(g:Int)∣(p.den:Int)*((q.den:Int)*q.den):=by
  have a:=Int.dvd_mul_of_dvd_left (c:=(q.den:Int)) m;rw [Int.mul_assoc] at a;exact a
 have u:g∣p.num.natAbs*(q.den*q.den):=by
  have:=Int.natAbs_dvd_natAbs.mpr z;rw [Int.natAbs_mul] at this
  simpa [Int.natAbs_mul] using this
 have t:g∣p.den*(q.den*q.den):=by
  have:=Int.natAbs_dvd_natAbs.mpr y
  simpa [Int.natAbs_mul] using this
 have r:=Nat.dvd_gcd u t;rw [Nat.gcd_mul_right,p.reduced,Nat.one_mul] at r;exact r
def wy {p q:Rat} (g:Nat) (h:(g:Int)∣(p.den:Int)*(q.den:Int)):g<=p.den*q.den:=by
 have:=Int.natAbs_dvd_natAbs.mpr h;exact Nat.le_of_dvd (Nat.mul_pos p.den_pos q.den_pos) (by simpa [Int.natAbs_mul] using this)
abbrev L1 (m n:Nat):Prop:=m+n<=8999\/(m<=100000/\2*n<=8999)\/(n<=100000/\2*m<=8999)
abbrev L2' (m n:Nat):Prop:=m+n<=8999\/(m<=8999/\2*n<=8999)\/(n<=8999/\2*m<=8999)
def bq {p q:Rat} {m n:Nat} (hp:SzQ m p) (r:SzQ n q) (h:L1 m n):Sz 8999 ((Int.gcd (p.num*(q.den:Int)+q.num*(p.den:Int)) ((p.den:Int)*(q.den:Int)):Nat):Int):=by
 have u:=Nat.le_of_dvd (Nat.mul_pos q.den_pos q.den_pos) (gh p q);have s:=Nat.le_of_dvd (Nat.mul_pos p.den_pos p.den_pos) (gh q p);rw [Int.add_comm,Int.mul_comm (q.den:Int)] at s;have t:=wy (p:=p) (q:=q) _ (Int.gcd_dvd_right (a:=p.num*(q.den:Int)+q.num*(p.den:Int)) (b:=(p.den:Int)*(q.den:Int)));generalize Int.gcd (p.num*(q.den:Int)+q.num*(p.den:Int)) ((p.den:Int)*(q.den:Int))=g at*
 rcases h with h|⟨_,h⟩|⟨_,h⟩
 ·refine Sz.le ((hp.2.mul r.2).mono h) ?_;rw [<-Int.natCast_mul];omega
 ·refine Sz.le ((r.2.mul r.2).mono (show n+n<=8999 by omega)) ?_;rw [<-Int.natCast_mul];omega
 ·refine Sz.le ((hp.2.mul hp.2).mono (show m+m<=8999 by omega)) ?_;rw [<-Int.natCast_mul];omega
def SzQ.neg (h:SzQ n q):SzQ n (-q):=by
 refine ⟨?_,h.2⟩;have:(-q).num= -q.num:=rfl;rw [this];unfold Sz at*;rw [Int.natAbs_neg];exact h.1
def wu (hp:SzQ m p) (g:SzQ n q) (h:L1 m n):Sz 8999 ((Int.gcd (p.num*(q.den:Int) - q.num*(p.den:Int)) ((p.den:Int)*(q.den:Int)):Nat):Int):=by
 have z:=bq hp g.neg h;have s:(-q).num= -q.num:=rfl;have r:(-q).den=q.den:=rfl;rw [s,r,Int.neg_mul,<-Int.sub_eq_add_neg] at z;exact z
def oF (h:Int.gcd a c=1):Int.gcd (a*b) (c*d)∣b.natAbs*d.natAbs:=by
 have r:=Int.natAbs_dvd_natAbs.mpr (Int.gcd_dvd_left (a:=a*b) (b:=c*d));have q:=Int.natAbs_dvd_natAbs.mpr (Int.gcd_dvd_right (a:=a*b) (b:=c*d));generalize Int.gcd (a*b) (c*d)=g at*;rw [Int.natAbs_mul] at r q
 have n1:g∣a.natAbs*(b.natAbs*d.natAbs):=by
  rw [<-Nat.mul_assoc];exact Nat.dvd_mul_right_of_dvd r _
 have s:g∣c.natAbs*(b.natAbs*d.natAbs):=by
  rw [Nat.mul_comm b.natAbs,<-Nat.mul_assoc];exact Nat.dvd_mul_right_of_dvd q _
 have m:=Nat.dvd_gcd n1 s;rw [Nat.gcd_mul_right,show Nat.gcd a.natAbs c.natAbs=1 from h,Nat.one_mul] at m;exact m
def ud {a c b d:Int} {m n k:Nat} (h:Int.gcd a c=1) (h':Int.gcd b d=1) (D:Sz m a) (r:Sz m c) (C:Sz n b) (q:Sz n d) (z:c≠0) (y:d≠0) (l:L2' m n):Sz 8999 ((Int.gcd (a*b) (c*d):Nat):Int):=by
 have J:=oF (b:=b) (d:=d) h;have u:=oF (a:=b) (c:=d) (b:=a) (d:=c) h';rw [Int.mul_comm b,Int.mul_comm d] at u;have t:=Int.natAbs_dvd_natAbs.mpr (Int.gcd_dvd_right (a:=a*b) (b:=c*d));rw [Int.natAbs_mul] at t;have g:=Nat.le_of_dvd (Nat.mul_pos (Int.natAbs_pos.mpr z) (Int.natAbs_pos.mpr y)) t;have z2:b=0->Int.gcd (a*b) (c*d)<=c.natAbs*d.natAbs:=λ_=>g
 rcases l with l|⟨s,l⟩|⟨s,l⟩
 ·exact Sz.le ((r.mul q).mono l) (by rw [Int.natAbs_mul];exact g)
 ·by_cases A:b=0
  ·subst A;have e:d.natAbs=1:=by simpa using h'
   rw [e,Nat.mul_one] at g;exact Sz.le (r.mono s) g
  ·have I:=Nat.le_of_dvd (Nat.mul_pos (Int.natAbs_pos.mpr A) (Int.natAbs_pos.mpr y)) J;exact Sz.le ((C.mul q).mono (show n+n<=8999 by omega)) (by rw [Int.natAbs_mul];exact I)
 ·by_cases a0:a=0
  ·subst a0;have e:c.natAbs=1:=by simpa using h
   rw [e,Nat.one_mul] at g;exact Sz.le (q.mono s) g
  ·have G:=Nat.le_of_dvd (Nat.mul_pos (Int.natAbs_pos.mpr a0) (Int.natAbs_pos.mpr z)) u;exact Sz.le ((D.mul r).mono (show m+m<=8999 by omega)) (by rw [Int.natAbs_mul];exact G)
def kX (p:Rat):Int.gcd p.num (p.den:Int)=1:=p.reduced
def wx {p q:Rat} {m n:Nat} (hp:SzQ m p) (g:SzQ n q) (h:L2' m n):Sz 8999 ((Int.gcd (p.num*q.num) ((p.den:Int)*(q.den:Int)):Nat):Int):=
 ud (k:=0) (kX p) (kX q) hp.1 hp.2 g.1 g.2 (Int.ne_of_gt (den_pos p)) (Int.ne_of_gt (den_pos q)) h
def wA {p q:Rat} {m n:Nat} (hp:SzQ m p) (g:SzQ n q) (r:q.num≠0) (h:L2' m n):Sz 8999 ((Int.gcd (p.num*(q.den:Int)) ((p.den:Int)*q.num):Nat):Int):=
 ud (k:=0) (kX p) (by rw [Int.gcd_comm];exact kX q) hp.1 hp.2 g.2 g.1 (Int.ne_of_gt (den_pos p)) r h
def Vg:Sp:=spT (α:=Int×Int) (λa=>[.int a.1, .int a.2]) (λa=>a.2≠0/\Sz 8999 ((Int.gcd a.1 a.2:Nat):Int)) (λa=>frD (Rat.divInt a.1 a.2))
def UG {i j:Int} (S:Sta B G0 H cs ds) (h0:j≠0) (hz:Sz 8999 ((Int.gcd i j:Nat):Int)) (k:∀r H',zS H H'->Sta B G0 H' cs ((frD (Rat.divInt i j),r)::ds)->Q r H'):Vg [.int i, .int j] H Q E:=
 Zf (i,j) S (.cons Has.int (.cons Has.int .nil)) ⟨h0,hz⟩ k
def spQ2 (lim:Nat->Nat->Prop) (dom:Rat->Rat->Prop) (g:Rat->Rat->Rat):Sp:=spT (α:=Rat×Rat) (λa=>[frD a.1,frD a.2]) (λa=>(∃m n,SzQ m a.1/\SzQ n a.2/\lim m n)/\dom a.1 a.2) (λa=>frD (g a.1 a.2))
def nR (S:Sta B G0 H cs ds) (t:Has ds (frD p) v) (s:Has ds (frD q) w) (s1:SzQ m p) (s2:SzQ n q) (u:lm m n) (hd:dm p q)
 (k:∀r H',zS H H'->Sta B G0 H' cs ((frD (g p q),r)::ds)->Q r H'):spQ2 lm dm g [v,w] H Q E:=
 Zf (p,q) S (.cons t (.cons s .nil)) ⟨⟨m,n,s1,s2,u⟩,hd⟩ k
abbrev domT:Rat->Rat->Prop:=λ_ _=>True
abbrev ni:Sp:=spQ2 L1 domT λp q=>p+q
abbrev aA:Sp:=spQ2 L1 domT λp q=>p - q
abbrev qc:Sp:=spQ2 L2' domT λp q=>p*q
abbrev Hn:Sp:=spQ2 L2' (λ_ q=>q≠0) λp q=>p / q
def cZ:Sp:=spP (α:=Rat×Rat) (λa=>[frD a.1,frD a.2]) (λa=>∃m n,SzQ m a.1/\SzQ n a.2/\m+n<=100000000) (λa=> .bl (decide (a.1<a.2)))
def nX (S:Sta B G0 H cs ds) (r:Has ds (frD p) v) (g:Has ds (frD q) w) (s1:SzQ m p) (s2:SzQ n q) (s:m+n<=100000000) (k:Q (.bl (decide (p<q))) H):cZ [v,w] H Q E:=
 rd_spP (p,q) S (.cons r (.cons g .nil)) ⟨m,n,s1,s2,s⟩ k
noncomputable def gv (ns:List Int) (k:Int):Int:=if k<(ns.length:Int) then ns.getD k.toNat 0 else 0
def sM (K:Frg):Sp:=λvs H Q _=>∃(a:Addr) (ns:List Int) (k:Int),vs=[.ref a, .int k]/\SqL K H a (ns.map V.int)/\0<=k/\Q (.int (gv ns k)) H
def rd_cell {K:Frg} {a:Addr} {ns:List Int} {k:Int} (g:SqL K H a (ns.map V.int)) (h0:0<=k) (h:Q (.int (gv ns k)) H):sM K [.ref a, .int k] H Q E:=⟨a,ns,k,rfl,g,h0,h⟩
def nk:Sp:=λvs H Q _=>∃a b:Int,vs=[.int a, .int b]/\0<=b/\Q (.int (Int.gcd a b:Nat)) H
def rd_div2 (h0:0<=b) (h:Q (.int (Int.gcd a b:Nat)) H):nk [.int a, .int b] H Q E:=⟨a,b,rfl,h0,h⟩
def Uv:Sp:=spT (α:=Int×Int) (λa=>[.int a.1, .int a.2]) (λa=>0<a.2/\Sz 8999 ((Int.gcd a.1 a.2:Nat):Int)) (λa=>frD (Rat.divInt a.1 a.2))
def JH (g:j≠0) (h:Sz n j):Sz n ((Int.gcd i j:Nat):Int):=Sz.le h (Nat.le_of_dvd (Int.natAbs_pos.mpr g) (Int.natAbs_dvd_natAbs.mpr (Int.gcd_dvd_right (a:=i) (b:=j))))
def vk (S:Sta B G0 H cs ds) (h0:0<j) (hz:Sz 8999 ((Int.gcd i j:Nat):Int)) (k:∀r H',zS H H'->Sta B G0 H' cs ((frD (Rat.divInt i j),r)::ds)->Q r H'):Uv [.int i, .int j] H Q E:=
 Zf (i,j) S (.cons Has.int (.cons Has.int .nil)) ⟨h0,hz⟩ k
def UH (S:Sta B G0 H cs ds) (h0:0<j) (hz:Sz 8999 j) (k:∀r H',zS H H'->Sta B G0 H' cs ((frD (Rat.divInt i j),r)::ds)->Q r H'):Uv [.int i, .int j] H Q E:=
 Zf (i,j) S (.cons Has.int (.cons Has.int .nil)) ⟨h0,JH (Int.ne_of_gt h0) hz⟩ k
noncomputable def mixV (c p:Int):Int:=(((c % 2147483629*16807+69621*p+11) % 2147483629)*((c % 2147483629*16807+69621*p+11) % 2147483629)+48271*p+7) % 2147483629*69621 % 2147483587
def Iq:Sp:=λvs H Q _=>∃c p:Int,vs=[.int c, .int p]/\Q (.int (mixV c p)) H
def rd_mix (h:Q (.int (mixV c p)) H):Iq [.int c, .int p] H Q E:=⟨c,p,rfl,h⟩
def xk (r:List Int):PyData:= .list (r.map PyData.int)
def Sta.put_call (S:HS B G0 H cs ds G) (gr:Grow G H G' H') (hp:H p=none) (s:G' p=none) (r:H' p=some (.lst us)) (m:zJ G' xs us):Sta B G0 H' ((p,xs)::cs) ds:=by
 have t:=S.2.2.1.free hp;obtain ⟨_,_,_,_,e0,_,_⟩:=id S;obtain ⟨D,C,A,d',y,u,g'⟩:=S.grow gr;refine ⟨G',D,C,A,d',λq g=>?_,?_,g'⟩
 ·rcases Qn.mp g with rfl|g
  ·exact ⟨t,s,us,r,m⟩
  ·exact y q g
 ·rw [Ql,jae];refine ⟨λz=>?_,u⟩;obtain ⟨q,g,I⟩:=Qj.mp z;obtain ⟨_,_,ws,z,_⟩:=e0 q g;rw [I,hp] at z;cases z
def rd_true (h:R true H):tTrue σ H R:=h
def Yc (m:Nat):List Int:=List.replicate m 0
def Ul (m:Nat):(Yc m).length=m:=QE
theorem jD {β:Type} [DecidableEq β] {f:β->PyData} (hf:∀a b,PyData.eqv (f a) (f b)=decide (a=b)):∀xs ys:List β,PyData.eqvAll (xs.map f) (ys.map f)=decide (xs=ys)
 |[],[]=>by rw [jaJ,PyData.eqvAll];rfl
 |[],_::_=>by rw [jaJ,Ql,PyData.eqvAll,Tc (by simp)]
 |_::_,[]=>by rw [jaJ,Ql,PyData.eqvAll,Tc (by simp)]
 |x::xs,y::ys=>by
  rw [Ql,Ql,PyData.eqvAll,hf,jD hf xs ys,<-Bool.decide_and];exact UR (by simp)
def JN (a b:Int):PyData.eqv (.int a) (.int b)=decide (a=b):=by rw [PyData.eqv];rfl
def Dh (a b:List Int):PyData.eqv (xk a) (xk b)=decide (a=b):=by unfold xk;rw [PyData.eqv];exact jD JN a b
def JO (p q:Rat):PyData.eqv (frD p) (frD q)=decide (p=q):=eqv_fr p q
def Jy (a:Int):(PyData.int a).canLay0=true:=by rw [PyData.canLay0]
def JP (a:Int):(PyData.int a).depth<=1:=by rw [PyData.depth];exact jar _
def Cz (a:List Int):(xk a).canLay0=true:=by unfold xk;rw [PyData.canLay0];exact qT Jy a
def Dk (a:List Int):(xk a).depth<=2:=by unfold xk;rw [PyData.depth];exact Nat.succ_le_succ (rz JP a)
def dZ (h:d.canLay0=true) (g:d.depth<=n) (l:n<=64):SeqAt.shaped d=true:=by
 unfold SeqAt.shaped;rw [h,QZ (QW g l)];rfl
def Vh (a:List Int):SeqAt.shaped (xk a)=true:=dZ (Cz a) (Dk a) nofun
def Vi (a:Rat):SeqAt.shaped (frD a)=true:=dZ (HA a) (dep_fr a) nofun
noncomputable def tyD:PyData->String
 | .none=>"NoneType"
 | .bool _=>"bool"
 | .int _=>"int"
 | .str _=>"str"
 | .list _=>"list"
 | .tuple _=>"tuple"
 | .dict _=>"dict"
def noIns:PyData->Bool
 | .dict _=>false
 |_=>true
def Is.ty {K:Frg} {d:PyData} (h:Is H d v) (nd:noIns d=true):TyOf K H v (.type (tyD d)):=by
 cases d with
 |none=>rw [Is] at h;subst h;exact .non
 |bool b=>rw [Is] at h;subst h;exact .bl b
 |int b=>rw [Is] at h;subst h;exact .int b
 |str b=>rw [Is] at h;subst h;exact .str b
 |list xs=>rw [Is] at h;obtain ⟨p,vs,rfl,e,_⟩:=h;exact .lst e
 |tuple xs=>rw [Is] at h;obtain ⟨p,vs,rfl,e,_⟩:=h;exact .tup e
 |dict _=>cases nd
def rd_isi {K:Frg} {d:PyData} {T:String} {b:Bool} (h:Is H d v) (e:PySem.W.kitOne K (.type (tyD d)) (.type T)=some b) (k:Q (.bl b) H) (nd:noIns d=true):rIsi K [v, .ty T] H Q:=⟨v,T,_,b,rfl,h.ty nd,e,k⟩
section
variable {K:Frg}
def kit_tt:PySem.W.kitOne K (.type "tuple") (.type "tuple")=some true:=by rfl
def kit_ll:PySem.W.kitOne K (.type "list") (.type "list")=some true:=by rfl
def kit_ib:PySem.W.kitOne K (.type "int") (.type "bool")=some false:=by rfl
def kit_ii:PySem.W.kitOne K (.type "int") (.type "int")=some true:=by rfl
end
def zL {α β:Type} {f:α->β} {l:List α} {i:Nat} {x:β} (h:(l.map f)[i]? =some x):∃n,l[i]? =some n/\x=f n:=by
 rw [Qh] at h
 cases e:l[i]? with
 |none=>rw [e] at h;cases h
 |some n=>rw [e] at h;exact ⟨n,rfl,(QK h).symm⟩
def zm {α β:Type} (g:α->β) (d:α):∀l:List α,(List.range l.length).map (λi=>g (l.getD i d))=l.map g:=by
 intro l
 apply Tn
 intro i;rw [Qh,Qh]
 by_cases h:i<l.length
 ·rw [List.getElem?_range h,Qb h];simp [h]
 ·rw [QD (by simpa using Nat.le_of_not_lt h),QD ⋯];rfl
def zF {α:Type} {l:List α} {i:Nat} {n d:α} (h:l[i]? =some n):l.getD i d=n:=by rw [Qk,h];rfl
def Sta.int1 (S:Sta B G0 H cs ((.int n,v)::ds)):v= .int n:=S.top.int_of
def rd_gsub (h:to σ H λo H1=>ti σ H1 λi m=>t o i v m λg=>N σ g):gSub to ti t v σ H N:=h
def uj (h:xs.getLast? =some x):atI xs (-1)=some x:=by
 obtain ⟨ys,rfl⟩:∃ys,xs=ys++[x]:=by
  have g:xs≠[]:=by intro e;subst e;simp at h
  refine ⟨xs.dropLast,?_⟩;rw [To g] at h;rw [<-QK h,jap]
 exact uk ys x
def Dats.nil:∀p∈([]:Dat),Has ds p.1 p.2:=λp hp=>absurd hp Qp
def Dats.cons (h:Has ds x v) (g:∀p∈r,Has ds p.1 p.2):∀p∈(x,v)::r,Has ds p.1 p.2:=λp hp=>by
 rcases Qn.mp hp with rfl|hp
 ·exact h
 ·exact g p hp
def EY {A X Y:Prop} (m:(if q=true then X else Y)->A) (r:(p && q)=true->X) (g:(p && q)=false->Y):if p=true then A else (if false=true then X else Y):=by
 cases p with
 |false=>exact g rfl
 |true=>
  refine m ?_
  cases q with
  |false=>exact g rfl
  |true=>exact r rfl
noncomputable def Km (p q:Rat):PyData:= .tuple [.int (q.num*(p.den:Int) - p.num*(q.den:Int)), .int ((p.den:Int)*(q.den:Int))]
def Iu:Sp:=spT (α:=Rat×Rat) (λa=>[frD a.1,frD a.2]) (λa=>SzQ 2000 a.1/\SzQ 2000 a.2) (λa=>Km a.1 a.2)
def rd_gap (S:Sta B G0 H cs ds) (m:Has ds (frD p) v) (g:Has ds (frD q) w) (s1:SzQ 2000 p) (s2:SzQ 2000 q) (k:∀r H',zS H H'->Sta B G0 H' cs ((Km p q,r)::ds)->Q r H'):Iu [v,w] H Q E:=
 Zf (p,q) S (.cons m (.cons g .nil)) ⟨s1,s2⟩ k
def SzC (n:Nat) (c:zh):Prop:=SzQ n c.1/\∀q∈c.2,SzQ n q
def tR (hp:SzQ 2000 p) (g:SzQ 2000 q):Sz 4001 (q.num*(p.den:Int) - p.num*(q.den:Int))/\Sz 4001 ((p.den:Int)*(q.den:Int)):=
 ⟨(g.1.mul hp.2).sub (hp.1.mul g.2),(hp.2.mul g.2).mono nofun⟩
open Classical in
noncomputable def Im:Sp:=spB (α:=zh×zh×zh) (λa=>[zN a.1,zN a.2.1,zN a.2.2]) (λa=>SzC 2000 a.1/\SzC 2000 a.2.1/\SzC 2000 a.2.2/\a.2.1.2.length=a.1.2.length/\a.2.2.2.length=a.1.2.length/\a.1.2.length<=1000) (λa=> .bl (decide (zR a.1 a.2.1 a.2.2)))
open Classical in
def rd_str (S:Sta B G0 H cs ds) (t:Has ds (zN a) v) (s:Has ds (zN b) w) (r:Has ds (zN c) u) (sa:SzC 2000 a) (sb:SzC 2000 b) (sc:SzC 2000 c) (q:b.2.length=a.2.length) (m:c.2.length=a.2.length) (g:a.2.length<=1000)
 (k:∀H',Sta B G0 H' cs ds->Q (.bl (decide (zR a b c))) H'):Im [v,w,u] H Q E:=
 UE (a,b,c) (S.hpAll (.cons t (.cons s (.cons r .nil)))) ⟨sa,sb,sc,q,m,g⟩ λH' e=>k H' (S.same e)
structure PathOk (m:Nat) (cs:List zh):Prop where
 sz:∀c∈cs,SzC 2000 c
 len:∀c∈cs,c.2.length=m
 m:m<=1000
 few:cs.length<=900
noncomputable def dS:Sp:=spL (α:=List zh) (λa=>[yv a]) (λa=>∃m,PathOk m a) (λa=>(yo a).map zN)
def vi (S:Sta B G0 H cs ds) (h:Has ds (yv a) v) (ok:PathOk m a) (k:∀p H',zS H H'->Sta B G0 H' ((p,(yo a).map zN)::cs) ds->Q (.ref p) H'):dS [v] H Q E:=
 Zs a S (.cons h .nil) ⟨m,ok⟩ k
def kPart (R:Option Int->Hp->Prop):VK:=λx H1=>∃i,x= .int i/\R (some i) H1
section
variable {σ:L2.St} {R:Option Int->Hp->Prop} {K:Frg}
def rd_sl (h:te σ H λx H1=>tl σ H1 λl m=>th σ m λu g=>r x l u g Q):tSl r te tl th σ H Q:=h
def rd_noPart (h:R none H):Ap σ H R:=h
def rd_part (h:t σ H (kPart R)):tPart t σ H R:=h
def rd_kPart (h:R (some i) H):kPart R (.int i) H:=⟨i,rfl,h⟩
def HK (ns:List Int) (lo g:Option Int):List Int:=(ns.drop (HT.sIx ns.length 0 lo)).take (HT.sIx ns.length ns.length g - HT.sIx ns.length 0 lo)
theorem Yf:∀ns:List Int,zJ G (ns.map PyData.int) (ns.map V.int)
 |[]=>by rw [jaJ,jaJ,zJ]
 |n::ns=>by rw [Ql,Ql,zJ];exact ⟨_,_,rfl,by rw [Is],Yf ns⟩
def Hq {a:Addr} {ns:List Int} {lo g:Option Int} (S:Sta B G0 H cs ds) (q:SqL K H a (ns.map V.int)) (k:∀l H',zS H H'->Sta B G0 H' ((l,(HK ns lo g).map PyData.int)::cs) ds->Q (.ref l) H'):rSlL K (.ref a) lo g H Q:=by
 refine ⟨a,_,rfl,q,λl m=>k l _ (zS.new m _) ?_⟩
 have e:HJ (ns.map V.int) lo g=(HK ns lo g).map V.int:=by
  unfold HJ HK;rw [Qa,<-List.map_drop,<-List.map_take]
 rw [e];exact S.newL m λG _=>Yf _
end
end
def GY (K:Frg) (a:Addr) (n:Nat):It:=
 ⟨λi H=>i<n/\∃xs x,SqL K H a xs/\xs[n - 1 - i]? =some x,λi H x H'=>H'=H/\∀xs,SqL K H a xs->xs[n - 1 - i]? =some x,λi _=>n<=i⟩
def EC {P:Program} {w:World} {K:Frg} {C:Expr} (a it:Addr) (n:Nat):Turn P w K C (GY K a n) [it] it (λi h=>i<=n/\h.IsRevIter it a ((n:Int) - 1 - (i:Nat))) where
 mem:=by simp
 obj:=λi h st b g=>by
  have e:b=it:=by simpa using g
  subst e;obtain ⟨_,o,e,c,d⟩:=st;exact ⟨o,e,λv z=>by rw [d] at z;cases z⟩
 keep:=λi h h' st k=>⟨st.1,st.2.at λo e=>k it (by simp) o e⟩
 item:=by
  intro X hP hw hK hc i pins s σ H E I hf st hg;subst hP hw hK;obtain ⟨O,xs,x,y,t⟩:=hg;obtain ⟨its,D,p,hz⟩:=I.list y;obtain ⟨u,J,ru⟩:=D.get t;obtain ⟨f0,f1,f2,r,f4,q⟩:=hf it (by simp);have L:(n:Int) - 1 - (i:Nat)=((n - 1 - i:Nat):Int):=⋯
  have m:=st.2;rw [L] at m;refine wpAny_pyNext_rev_item m p.isList (x:=u) ‹J› λh' A sb=>?_;have N:Inv X pins σ H {s with heap:=h'}:=I.turned (t':=s.toks) (λb o g e=>(sb.2 b g).trans e) f0 f1 r f4 q;obtain ⟨o,e,c,d⟩:=id A
  exact ⟨u,rfl,Gs (s:={s with heap:=h'}) e c d nofun ⟨x,H,N,ru,⟨rfl,λys G=>by rw [I.list_inj G y];exact t⟩,⟨⋯,by
   rw [show (n:Int) - 1 - ((i+1:Nat):Int)=((n - 1 - i:Nat):Int) - 1 by omega];exact A⟩,λb g=>(hf b g).1⟩⟩
 done:=by
  intro X hP hw hK hc i pins s σ H E I hf st hg;subst hP hw hK;obtain ⟨f0,f1,f2,r,f4,q⟩:=hf it (by simp);have T:n<=i:=hg;have m:=st.2;rw [show (n:Int) - 1 - (i:Nat)= -1 by have:=st.1;omega] at m;exact wpAny_pyNext_rev_end (I.ok.hd hc) m λh' M=>⟨rfl,I.turned (t':=s.toks) (λb o g e=>M b o g e) f0 f1 r f4 q⟩
 self:=λ_ _ _ _ _ st h=>wpAny_pyIter_revIter st.2 h
def iRev (K:Frg) (g:TA):TI:=λσ H R=>g σ H λvs H1=>∃a xs,vs=[.ref a]/\SqL K H1 a xs/\R (GY K a xs.length) H1
section
variable {X:Cx}
def pi_rev {r a:Expr} {m:TA} {p pos:Pos} (G:Gl X "reversed") (hm:X.mg "reversed"=none) (ha:PA X [a] m) (A:starEach [a] X.env=[(false,eval a X.env)]:=by rfl):
 PI X r (.Call (.Name "reversed" p) [a] [] pos) (iRev X.K m):=by
 intro pins s σ H R I h;refine Call_ (WR I G hm rG (TF (thn (ha pos pins s σ H _ I h) ?_) A rfl));rintro us s1 ⟨vs,H1,g,w,y⟩;obtain ⟨l,xs,e,C,q⟩:=y;subst e;obtain ⟨u,rfl,ru⟩:=dI w;cases (show u=Value.ref l from ru);obtain ⟨its,t,z,hz⟩:=g.list C;have D:=t.length;refine call_reversed_list z.isList ?_
 have hit:Heap.IsRevIter (s1.heap.push (revObj l ((its.toArray.size:Int) - 1))) s1.heap.objs.size l ((xs.length:Int) - 1 - ((0:Nat):Int)):=⟨_,Qw _ rfl,rfl,by
  show Data.fields #[.ref l,rawInt ((its.toArray.size:Int) - 1)]=_
  rw [QJ,<-D];simp⟩
 refine wpAny_pyIter_revIter (s:={s1 with heap:=s1.heap.push (revObj l ((its.toArray.size:Int) - 1))}) hit ?_;have L:Inv X pins σ H1 {s1 with heap:=s1.heap.push (revObj l ((its.toArray.size:Int) - 1))}:=g.kept (t':=s1.toks) λb o e=>Qi _ e;refine ⟨s1.heap.objs.size,[s1.heap.objs.size],_,_,H1,rfl,L,EC l _ xs.length,⟨jar _,hit⟩,λb J=>?_,q⟩;have e:b=s1.heap.objs.size:=by simpa using J
 subst e;exact g.fpOk (Qu _) (g.hok.fresh (Qu _))
end
def kRv (K:Frg) (R:It->Hp->Prop):List V->Hp->Prop:=λvs H1=>∃a xs,vs=[.ref a]/\SqL K H1 a xs/\R (GY K a xs.length) H1
section
variable {B G0 H:Hp} {cs:yp} {ds:Dat} {K:Frg} {a:Addr} {xs ys:List PyData} {P:yp->Dat->Prop} {v:V} {σ:L2.St} {R:It->Hp->Prop} {ta:TA}
def rd_iRv (h:ta σ H (kRv K R)):iRev K ta σ H R:=h
def wk_rev (s:Src B G0 true K a xs P):Wk B G0 (GY K a xs.length) xs.reverse P where
 go:=λ{H cs ds i} S h g=>by
  rw [TK] at g;obtain ⟨vs,q,m,_⟩:=s S h;exact ⟨g,vs,vs[xs.length - 1 - i]'⋯,q,Qb _⟩
 stop:=λ{H cs ds i} S h g=>by rw [TK] at g;exact g
 yld:=λ{H H' cs ds i x v} S h hx y=>by
  obtain ⟨e,y⟩:=y;subst e;obtain ⟨vs,q,m,z⟩:=s S h;have g:i<xs.length:=by have:=(Qd.mp hx).1;rwa [TK] at this
  rw [List.getElem?_reverse g] at hx;obtain ⟨w,hw,r⟩:=z _ x hx;have:=y vs q;rw [hw] at this;cases this;exact ⟨zS.refl _,r⟩
def IM (S:Sta B G0 H cs ds) (h:Has ds (.list xs) v) (k:∀J,Wk B G0 J xs.reverse (λ_ ds=>Has ds (.list xs) v)->R J H):kRv K R [v] H:=by
 obtain ⟨p,vs,rfl,hp,g,_⟩:=S.lst h;refine ⟨p,vs,rfl,SqL.of hp,?_⟩;rw [<-g];exact k _ (wk_rev Vf)
end
def VO (l c:zh):zh:=(l.1 - c.1,List.zipWith (· - ·) l.2 c.2)
def Vy (l c:zh):zh:=(l.1+c.1,List.zipWith (·+·) l.2 c.2)
noncomputable def lastC (a:List zh):zh:=a.getLast?.getD (0,[])
noncomputable def yu (a:List zh):List zh:=a.reverse.map (VO (lastC a))
noncomputable def zU (p:Rat) (a:List zh):List zh:=a.map λc=>(c.1*p,c.2.map (·*p))
noncomputable def yE (a b:List zh):List zh:=b.tail.map (Vy (lastC a))
section
variable {B G0 H:Hp} {cs:yp} {ds:Dat} {Q:VK} {E:XK} {v w:V}
def nj (g:Rat->Rat->Rat):Sp:=spT (α:=List Rat×List Rat) (λa=>[ym a.1,ym a.2]) (λa=>(∀q∈a.1,SzQ 4000 q)/\(∀q∈a.2,SzQ 4000 q)/\a.1.length<=1000) (λa=>ym (List.zipWith g a.1 a.2))
def Bv (S:Sta B G0 H cs ds) (t:Has ds (ym p) v) (s:Has ds (ym q) w) (s1:∀x∈p,SzQ 4000 x) (s2:∀x∈q,SzQ 4000 x) (m:p.length<=1000)
 (k:∀r H',zS H H'->Sta B G0 H' cs ((ym (List.zipWith g p q),r)::ds)->Q r H'):nj g [v,w] H Q E:=
 Zf (p,q) S (.cons t (.cons s .nil)) ⟨s1,s2,m⟩ k
structure PathIn (a:List zh):Prop where
 ne:a≠[]
 sz:∀c∈a,SzC 4000 c
 len:∀c∈a,c.2.length<=1000
 few:a.length<=450
def PathIn.last (h:PathIn a):a.getLast? =some (lastC a)/\lastC a∈a:=by
 obtain ⟨l,g⟩:∃l,a.getLast? =some l:=⟨_,To h.ne⟩;have e:lastC a=l:=by unfold lastC;rw [g];rfl
 rw [e];exact ⟨g,jal g⟩
def SzC.mono (h:SzC m c) (l:m<=n):SzC n c:=⟨h.1.mono l,λq g=>(h.2 q g).mono l⟩
def cX:Sp:=spL (α:=List zh) (λa=>[yv a]) PathIn (λa=>(yu a).map zN)
def nL (S:Sta B G0 H cs ds) (h:Has ds (yv a) v) (ok:PathIn a) (k:∀p H',zS H H'->Sta B G0 H' ((p,(yu a).map zN)::cs) ds->Q (.ref p) H'):cX [v] H Q E:=
 Zs a S (.cons h .nil) ok k
def jZ:Sp:=spL (α:=List zh×Rat) (λa=>[yv a.1,frD a.2]) (λa=>PathIn a.1/\SzQ 4000 a.2) (λa=>(zU a.2 a.1).map zN)
def nP (S:Sta B G0 H cs ds) (h:Has ds (yv a) v) (g:Has ds (frD p) w) (ok:PathIn a) (sp:SzQ 4000 p) (k:∀q H',zS H H'->Sta B G0 H' ((q,(zU p a).map zN)::cs) ds->Q (.ref q) H'):jZ [v,w] H Q E:=
 Zs (a,p) S (.cons h (.cons g .nil)) ⟨ok,sp⟩ k
noncomputable def Uw:Sp:=spL (α:=List zh×List zh) (λa=>[yv a.1,yv a.2]) (λa=>PathIn a.1/\PathIn a.2/\∃m,PathOk m (a.1++yE a.1 a.2)) (λa=>(yo (a.1++yE a.1 a.2)).map zN)
def nW (S:Sta B G0 H cs ds) (h:Has ds (yv a) v) (g:Has ds (yv b) w) (ok:PathIn a) (r:PathIn b) (q:PathOk m (a++yE a b))
 (k:∀p H',zS H H'->Sta B G0 H' ((p,(yo (a++yE a b)).map zN)::cs) ds->Q (.ref p) H'):Uw [v,w] H Q E:=
 Zs (a,b) S (.cons h (.cons g .nil)) ⟨ok,r,m,q⟩ k
end
def xY (t x y:Rat):Rat:=x+t*(y - x)
noncomputable def XS (c d:zh) (E:Rat):List Rat:=List.zipWith (xY ((E - c.1) / (d.1 - c.1))) c.2 d.2
noncomputable def zg:List zh->Rat->List Rat
 |[],_=>[]
 |[c],_=>c.2
 |c::d::r,E=>if E<d.1 then XS c d E else zg (d::r) E
def yr (a:List zh):Prop:=a.Pairwise λc d=>c.1<d.1
theorem Zm:∀{a:List zh} {i:Nat} {c:zh},yr a->a[i]? =some c->c.1<=E->(i+1=a.length\/∃d,a[i+1]? =some d/\E<d.1)->zg a E=match a[i+1]? with|none=>c.2|some d=>XS c d E
 |[],i,c,_,h,_,_=>by simp at h
 |[b],i,c,_,h,_,_=>by
  cases i with
  |zero=>cases h;rfl
  |succ i=>simp at h
 |b::d::r,i,c,hr,h,hc,g=>by
  cases i with
  |zero=>
   cases h
   rcases g with g|⟨d',m,g⟩
   ·simp at g
   ·cases m;rw [zg,QH g];rfl
  |succ i=>
   have q:yr (d::r):=(Qo.mp hr).2;have h':(d::r)[i]? =some c:=by simpa using h
   have hd:d.1<=c.1:=by
    cases i with
    |zero=>cases h';exact QR
    |succ i=>exact QF ((Qo.mp q).1 c (Qc ‹h'›))
   have s:¬E<d.1:=Tp.mpr (TY hd hc);rw [zg,QP s]
   have:=Zm (a:=d::r) (i:=i) (c:=c) q h' hc (by
    rcases g with g|⟨d',m,g⟩
    ·left;simpa using g
    ·right;exact ⟨d',by simpa using m,g⟩)
   rw [this]
   simp
def Cj (x y:Rat):xY 0 x y=x:=by unfold xY;grind
def tu (x y:Rat):xY 1 x y=y:=by unfold xY;grind
theorem mL (hf:∀x y,f x y=x):∀{l r:List Rat},l.length=r.length->List.zipWith f l r=l
 |[],[],_=>rfl
 |x::l,y::r,h=>by rw [jab,hf,mL hf ‹h›]
 |[],_::_,h=>by simp at h
 |_::_,[],h=>by simp at h
theorem iV (hf:∀x y,f x y=y):∀{l r:List Rat},l.length=r.length->List.zipWith f l r=r
 |[],[],_=>rfl
 |x::l,y::r,h=>by rw [jab,hf,iV hf ‹h›]
 |[],_::_,h=>by simp at h
 |_::_,[],h=>by simp at h
def XH (h:c.2.length=d.2.length):XS c d c.1=c.2:=by
 unfold XS;have:(c.1 - c.1) / (d.1 - c.1)=0:=by rw [Rat.sub_self,jah,jbQ]
 rw [this];exact mL Cj h
def uh (h:c.2.length=d.2.length) (g:c.1<d.1):XS c d d.1=d.2:=by
 unfold XS
 have m:d.1 - c.1≠0:=λz=>by
  have:d.1=c.1:=by grind
  rw [this] at g;exact jaX g
 have:(d.1 - c.1) / (d.1 - c.1)=1:=by rw [jah];exact TB _ m
 rw [this];exact iV tu h
section
variable {B G0 H:Hp} {cs:yp} {ds:Dat} {Q:VK} {E:XK} {v w u:V}
def sL:Sp:=λvs H Q _=>∃(qs:List Rat) (e:Rat) (n:Nat),zJ H [.list (qs.map frD),frD e] vs/\(0<qs.length/\qs.length<=1000000/\(∀q∈qs,SzQ n q)/\SzQ n e/\n<=40000000/\∀q,qs[0]? =some q->q<=e)/\
 ∀(i:Nat) (q:Rat),qs[i]? =some q->q<=e->(i+1=qs.length\/∃r,qs[i+1]? =some r/\e<r)->Q (.int (i:Nat)) H
def Bq {qs:List Rat} {e:Rat} {n:Nat} (S:Sta B G0 H cs ds) (m:Is H (.list (qs.map frD)) v) (g:Is H (frD e) w) (hd:0<qs.length/\qs.length<=1000000/\(∀q∈qs,SzQ n q)/\SzQ n e/\n<=40000000/\∀q,qs[0]? =some q->q<=e)
 (k:∀(i:Nat) (q:Rat),qs[i]? =some q->q<=e->(i+1=qs.length\/∃r,qs[i+1]? =some r/\e<r)->Q (.int (i:Nat)) H):sL [v,w] H Q E:=
 ⟨qs,e,n,by simp only [zJ];exact ⟨_,_,rfl,m,_,_,rfl,g,rfl⟩,hd,k⟩
def Ut:Sp:=spT (α:=Rat×Rat×Rat) (λa=>[frD a.1,frD a.2.1,frD a.2.2]) (λa=>(∃m n,SzQ n a.1/\SzQ n a.2.1/\SzQ m a.2.2/\(m+n+1<=8999/\4*n+2<=8999))/\a.2.1≠a.1) (λa=>frD ((a.2.2 - a.1) / (a.2.1 - a.1)))
def jf (S:Sta B G0 H cs ds) (y:Has ds (frD s) v) (t:Has ds (frD e) w) (q:Has ds (frD x) u) (z1:SzQ n s) (z2:SzQ n e) (g:SzQ m x) (hz:(m+n+1<=8999/\4*n+2<=8999)) (z:e≠s)
 (k:∀r H',zS H H'->Sta B G0 H' cs ((frD ((x - s) / (e - s)),r)::ds)->Q r H'):Ut [v,w,u] H Q E:=
 Zf (s,e,x) S (.cons y (.cons t (.cons q .nil))) ⟨⟨m,n,z1,z2,g,hz⟩,z⟩ k
def dc:Sp:=spT (α:=Rat×Rat×Rat) (λa=>[frD a.1,frD a.2.1,frD a.2.2]) (λa=>∃m n,SzQ n a.1/\SzQ n a.2.1/\SzQ m a.2.2/\(m<=8999/\4*n+2<=8999)) (λa=>frD (xY a.2.2 a.1 a.2.1))
def nY (S:Sta B G0 H cs ds) (z:Has ds (frD s) v) (y:Has ds (frD e) w) (q:Has ds (frD t) u) (z1:SzQ n s) (z2:SzQ n e) (g:SzQ m t) (hz:(m<=8999/\4*n+2<=8999))
 (k:∀r H',zS H H'->Sta B G0 H' cs ((frD (xY t s e),r)::ds)->Q r H'):dc [v,w,u] H Q E:=
 Zf (s,e,t) S (.cons z (.cons y (.cons q .nil))) ⟨m,n,z1,z2,g,hz⟩ k
def dY:Sp:=spT (α:=zh×zh×Rat) (λa=>[zN a.1,zN a.2.1,frD a.2.2]) (λa=>(∃m n,SzC n a.1/\SzC n a.2.1/\SzQ m a.2.2/\(m+3*n+2<=8999/\4*n+2<=8999))/\a.1.1<a.2.1.1/\a.1.2.length<=1000) (λa=>ym (XS a.1 a.2.1 a.2.2))
def vv (S:Sta B G0 H cs ds) (y:Has ds (zN c) v) (t:Has ds (zN d) w) (s:Has ds (frD e) u) (z1:SzC n c) (z2:SzC n d) (g:SzQ m e) (hz:(m+3*n+2<=8999/\4*n+2<=8999)) (z:c.1<d.1) (q:c.2.length<=1000)
 (k:∀r H',zS H H'->Sta B G0 H' cs ((ym (XS c d e),r)::ds)->Q r H'):dY [v,w,u] H Q E:=
 Zf (c,d,e) S (.cons y (.cons t (.cons s .nil))) ⟨⟨m,n,z1,z2,g,hz⟩,z,q⟩ k
structure PathR (n:Nat) (a:List zh):Prop where
 ne:a≠[]
 sz:∀c∈a,SzC n c
 len:∀c∈a,c.2.length<=1000
 few:a.length<=900
 rise:yr a
 zero:∀c,a[0]? =some c->c.1=0
def Uu:Sp:=spT (α:=List zh×Rat) (λa=>[yv a.1,frD a.2]) (λa=>∃m n,PathR n a.1/\SzQ m a.2/\(m+3*n+2<=8999/\4*n+2<=8999)/\0<=a.2) (λa=>ym (zg a.1 a.2))
def aN (S:Sta B G0 H cs ds) (q:Has ds (yv a) v) (g:Has ds (frD e) w) (ok:PathR n a) (z:SzQ m e) (hz:(m+3*n+2<=8999/\4*n+2<=8999)) (h0:0<=e)
 (k:∀r H',zS H H'->Sta B G0 H' cs ((ym (zg a e),r)::ds)->Q r H'):Uu [v,w] H Q E:=
 Zf (a,e) S (.cons q (.cons g .nil)) ⟨m,n,ok,z,hz,h0⟩ k
end
def zW {a b:Rat} (h:a*b=0) (g:b≠0):a=0:=by
 have m:=TB b g;have:a=a*b*b⁻¹:=by rw [Rat.mul_assoc,m,Rat.mul_one]
 rw [this,h,jbQ]
def xS {a b:Rat} (h:a<b):b - a≠0:=λz=>by
 have:b=a:=by grind
 rw [this] at h;exact jaX h
def xf {s e x y E:Rat} (h:s<e):(xY ((E - s) / (e - s)) x y - x)*(e - s)=(E - s)*(y - x):=by
 have g:=TB _ (xS h);unfold xY;rw [jah];generalize (e - s)⁻¹=i at*
 grind
def YT {c d:zh} {E:Rat} {i:Nat} {z:Rat} (h:(XS c d E)[i]? =some z):∃x y,c.2[i]? =some x/\d.2[i]? =some y/\z=xY ((E - c.1) / (d.1 - c.1)) x y:=by
 unfold XS at h;rw [Qt] at h
 cases hx:c.2[i]? with
 |none=>rw [hx] at h;cases h
 |some x=>
  cases hy:d.2[i]? with
  |none=>rw [hx,hy] at h;cases h
  |some y=>rw [hx,hy] at h;exact ⟨x,y,rfl,rfl,(QK h).symm⟩
structure PathT (m:Nat) (a:List zh):Prop where
 rise:yr a
 len:∀c∈a,c.2.length=m
 thin:∀(i:Nat) (x y z:zh),a[i]? =some x->a[i+1]? =some y->a[i+2]? =some z->¬zR x y z
def PathT.tail (h:PathT m (c::a)):PathT m a:=
 ⟨(Qo.mp h.rise).2,λx g=>h.len x (Qf _ g),λi x y z g q hz=>h.thin (i+1) x y z ‹g› ‹q› ‹hz›⟩
def zX (h:d.1<=E):zg (c::d::r) E=zg (d::r) E:=by
 rw [zg,QP (Tp.mpr h)]
def ZI (h:PathT m (c::r)):zg (c::r) c.1=c.2:=by
 cases r with
 |nil=>rfl
 |cons d r=>
  rw [zg,QH ((Qo.mp h.rise).1 d (Qe ..)),XH];rw [h.len c (Qe ..),h.len d (Qf _ (Qe ..))]
theorem CB:∀{c:zh} {r:List zh},PathT m (c::r)->c.1<=(lastC (c::r)).1
 |c,[],_=>QR
 |c,d::r,h=>by
  have q:=(Qo.mp h.rise).1 d (Qe ..);have g:=CB h.tail;have e:lastC (c::d::r)=lastC (d::r):=by unfold lastC;rw [TZ]
  rw [e];exact TY (QF q) g
def ZJ (c d:zh) (r:List zh):lastC (c::d::r)=lastC (d::r):=by unfold lastC;rw [TZ]
theorem ZH {m:Nat} {u v E:Rat} (K:u<=E) (J:E<=v) (O:u<v):∀{c:zh} {r:List zh},PathT m (c::r)->c.1<=u->(∀x∈r,¬(u<x.1/\x.1<v))->
 ∀(i:Nat) (x y z:Rat),(zg (c::r) u)[i]? =some x->(zg (c::r) v)[i]? =some y->(zg (c::r) E)[i]? =some z->(z - x)*(v - u)=(y - x)*(E - u)
 |c,[],_,_,_,i,x,y,z,g,hy,hz=>by
  have e1:c.2[i]? =some x:=g;have D:c.2[i]? =some y:=hy;have C:c.2[i]? =some z:=hz;rw [e1] at D C;cases D;cases C
  grind
 |c,d::r,h,hc,hno,i,x,y,z,g,hy,hz=>by
  have w:=(Qo.mp h.rise).1 d (Qe ..)
  by_cases hd:d.1<=u
  ·rw [zX hd] at g;rw [zX (TY hd (QF O))] at hy;rw [zX (TY hd K)] at hz;exact ZH K J O h.tail hd (λx g=>hno x (Qf _ g)) i x y z g hy hz
  ·have L:u<d.1:=jat.mp hd;have s:v<=d.1:=Tp.mp λLC=>hno d (Qe ..) ⟨L,LC⟩
   have key:∀t:Rat,t<=d.1->zg (c::d::r) t=XS c d t:=by
    intro t ht
    by_cases A:t<d.1
    ·rw [zg,QH A]
    ·have e:t=d.1:=jaS ht (Tp.mp A);rw [e,zX QR,ZI h.tail,uh (by rw [h.len c (Qe ..),h.len d (Qf _ (Qe ..))]) w]
   rw [key u (QF L)] at g;rw [key v s] at hy;rw [key E (TY J s)] at hz;obtain ⟨p,q,hp,Z,ex⟩:=YT g;obtain ⟨p',q',M,N,ey⟩:=YT hy;obtain ⟨T,P,G,I,ez⟩:=YT hz;rw [hp] at M G;rw [Z] at N I;cases M;cases G;cases N;cases I;have Y:=xf (x:=p) (y:=q) (E:=u) w;have X:=xf (x:=p) (y:=q) (E:=v) w;have U:=xf (x:=p) (y:=q) (E:=E) w;rw [<-ex] at Y;rw [<-ey] at X;rw [<-ez] at U;have k:((z - x)*(v - u) - (y - x)*(E - u))*(d.1 - c.1)=0:=by grind
   have:=zW k (xS w)
   grind
theorem Yi:∀{c:zh} {r:List zh},(∀x∈c::r,x.2.length=m)->(zg (c::r) E).length=m
 |c,[],h=>h c (Qe ..)
 |c,d::r,h=>by
  rw [zg]
  split
  ·unfold XS;rw [QC,h c (Qe ..),h d (Qf _ (Qe ..)),TM]
  ·exact Yi λx g=>h x (Qf _ g)
noncomputable def yw:List Rat->List Rat->List Rat
 |[],ys=>ys
 |x::xs,[]=>x::xs
 |x::xs,y::ys=>if x<y then x::yw xs (y::ys) else if x=y then y::yw xs ys else y::yw (x::xs) ys
termination_by xs ys=>xs.length+ys.length
theorem fJ:∀xs:List Rat,yw xs []=xs
 |[]=>by rw [yw]
 |x::xs=>by rw [yw]
theorem Yw:∀{xs ys:List Rat},e∈yw xs ys↔e∈xs\/e∈ys
 |[],ys=>by rw [yw];simp
 |x::xs,[]=>by rw [yw];simp
 |x::xs,y::ys=>by
  rw [yw]
  split
  ·rw [Qn,Yw (xs:=xs) (ys:=y::ys),Qn,Qn]
   constructor<;>intro h<;>grind
  ·split
   ·rename_i m g;subst g;rw [Qn,Yw (xs:=xs) (ys:=ys),Qn,Qn]
    constructor<;>intro h<;>grind
   ·rw [Qn,Yw (xs:=x::xs) (ys:=ys),Qn,Qn]
    constructor<;>intro h<;>grind
termination_by xs ys=>xs.length+ys.length
def xl {a b c:Rat} (h:a<b) (g:b<c):a<c:=by grind
def Uk (l:List Rat):Prop:=l.Pairwise (·<·)
theorem Vj:∀{xs ys:List Rat},Uk xs->Uk ys->Uk (yw xs ys)
 |[],ys,_,hy=>by rw [yw];exact hy
 |x::xs,[],hx,_=>by rw [yw];exact hx
 |x::xs,y::ys,hx,hy=>by
  obtain ⟨s,u⟩:=Qo.mp hx;obtain ⟨t,q⟩:=Qo.mp hy;rw [yw]
  split
  ·rename_i h;refine Qo.mpr ⟨λe he=>?_,Vj u hy⟩
   rcases Yw.mp he with g|g
   ·exact s e g
   ·rcases Qn.mp g with rfl|g
    ·exact h
    ·exact xl h (t e g)
  ·split
   ·rename_i g r;subst r;refine Qo.mpr ⟨λe he=>?_,Vj u q⟩
    rcases Yw.mp he with h|h
    ·exact s e h
    ·exact t e h
   ·rename_i g r
    have m:y<x:=by
     rcases Rat.le_iff_lt_or_eq.mp (Tp.mp g) with h|h
     ·exact h
     ·exact absurd h.symm r
    refine Qo.mpr ⟨λe he=>?_,Vj hx q⟩
    rcases Yw.mp he with h|h
    ·rcases Qn.mp h with rfl|h
     ·exact m
     ·exact xl m (s e h)
    ·exact t e h
termination_by xs ys=>xs.length+ys.length
theorem UL:∀(xs ys:List Rat),(yw xs ys).length<=xs.length+ys.length
 |[],ys=>by rw [yw];simp
 |x::xs,[]=>by rw [yw];simp
 |x::xs,y::ys=>by
  rw [yw]
  split
  ·have:=UL xs (y::ys);simp only [Qy] at*;omega
  ·split
   ·have:=UL xs ys;simp only [Qy] at*;omega
   ·have:=UL (x::xs) ys;simp only [Qy] at*;omega
termination_by xs ys=>xs.length+ys.length
section
variable {B G0 H:Hp} {cs:yp} {ds:Dat} {Q:VK} {E:XK} {v w u:V}
def km:Sp:=spL (α:=List Rat×List Rat) (λa=>[.list (a.1.map frD), .list (a.2.map frD)]) (λa=>(∃n,(∀q∈a.1,SzQ n q)/\(∀q∈a.2,SzQ n q)/\n<=40000000)/\a.1.length<=450/\a.2.length<=450) (λa=>(yw a.1 a.2).map frD)
def Bp (S:Sta B G0 H cs ds) (t:Has ds (.list (p.map frD)) v) (s:Has ds (.list (q.map frD)) w) (z1:∀x∈p,SzQ n x) (z2:∀x∈q,SzQ n x) (hn:n<=40000000) (m:p.length<=450) (g:q.length<=450)
 (k:∀r H',zS H H'->Sta B G0 H' ((r,(yw p q).map frD)::cs) ds->Q (.ref r) H'):km [v,w] H Q E:=
 Zs (p,q) S (.cons t (.cons s .nil)) ⟨⟨n,z1,z2,hn⟩,m,g⟩ k
noncomputable def yb (a:List zh):List Rat:=a.map λc=>c.1
end
def mO (m:Nat):(Yc m).sum=0:=by
 unfold Yc
 induction m with
 |zero=>rfl
 |succ m g=>rw [TH,QL,g];rfl
def fH (w:Uk M)  (s:M[j]? =some u) (r:M[j+1]? =some v) (he:e∈M):¬(u<e/\e<v):=by
 rintro ⟨A,z⟩
 obtain ⟨i,t⟩:=Qx.mp he;obtain ⟨li,g⟩:=Qd.mp t;obtain ⟨q,m⟩:=Qd.mp s;obtain ⟨lv,ev⟩:=Qd.mp r;have pw:=QO.mp w
 by_cases c:i<=j
 ·rcases Nat.lt_or_eq_of_le c with c|c
  ·have:=pw i j li q c;rw [g,m] at this
   grind
  ·subst c;rw [g] at m;subst m
   grind
 ·by_cases y:i=j+1
  ·subst y;rw [g] at ev;subst ev
   grind
  ·have:=pw (j+1) i lv li ⋯;rw [g,ev] at this
   grind
def Wd (h:yr a):Uk (yb a):=by
 unfold Uk yb;rw [Tt];exact h
section
variable {B G0 H:Hp} {cs:yp} {ds:Dat} {Q:VK} {E:XK} {v w u:V}
def isAll4 (h:zJ G [x,y,z,t] vs):∃v w u r,vs=[v,w,u,r]/\Xl G [(x,v),(y,w),(z,u),(t,r)]:=by
 simp only [zJ] at h;obtain ⟨v,_,rfl,s,w,_,rfl,q,u,_,rfl,m,r,_,rfl,g,rfl⟩:=h;exact ⟨v,w,u,r,rfl,λp hp=>by simp at hp;rcases hp with rfl|rfl|rfl|rfl<;>assumption⟩
def av:Sp:=λvs H Q _=>∃n:Int,vs=[.int n]/\Q (.bl true) H
def ET (k:Q (.bl true) H):av [.int n] H Q E:=⟨n,rfl,k⟩
def AG:Sp:=spB (α:=Rat) (λa=>[frD a]) (λ_=>True) (λ_=> .bl true)
def IT (S:Sta B G0 H cs ds) (h:Has ds (frD q) v) (k:∀H',Sta B G0 H' cs ds->Q (.bl true) H'):AG [v] H Q E:=
 UE q (S.hpAll (.cons h .nil)) trivial λH' e=>k H' (S.same e)
end
def zA:List Rat->Rat
 |[]=>0
 |x::r=>x+zA r
theorem dP:∀x y:List Rat,zA (x++y)=zA x+zA y
 |[],y=>by rw [jaR,zA];grind
 |a::x,y=>by rw [Tv,zA,zA,dP x y];grind
def Xq (m:Nat):zA (List.replicate m 0)=0:=by
 induction m with
 |zero=>rfl
 |succ m g=>rw [TH,zA,g];grind
theorem jV (t:Rat):∀x y:List Rat,x.length=y.length->zA (List.zipWith (xY t) x y)=xY t (zA x) (zA y)
 |[],[],_=>by rw [List.zipWith_nil_left,zA];unfold xY;grind
 |a::x,b::y,h=>by
  rw [jab,zA,zA,zA,jV t x y ‹h›];unfold xY;grind
 |[],_::_,h=>by simp at h
 |_::_,[],h=>by simp at h
def LeV (x y:List Rat):Prop:=∀(i:Nat) (a b:Rat),x[i]? =some a->y[i]? =some b->a<=b
structure PathM (m:Nat) (a:List zh):Prop where
 t:PathT m a
 sums:∀c∈a,zA c.2=c.1
 mono:a.Pairwise λc d=>LeV c.2 d.2
def PathM.tail (h:PathM m (c::a)):PathM m a:=
 ⟨h.t.tail,λx g=>h.sums x (Qf _ g),(Qo.mp h.mono).2⟩
def tq (h:s<e) (r:u<=v) (q:x<=y):xY ((u - s) / (e - s)) x y<=xY ((v - s) / (e - s)) x y:=by
 have m:=xf (x:=x) (y:=y) (E:=u) h;have g:=xf (x:=x) (y:=y) (E:=v) h;have hp:0<e - s:=by grind
 have h0:0<=(v - u)*(y - x):=QT (by grind) (by grind);refine Rat.le_of_mul_le_mul_left (c:=e - s) ?_ hp
 grind
theorem Yv (z:u<=v):∀{c:zh} {r:List zh},PathM m (c::r)->c.1<=u->LeV (zg (c::r) u) (zg (c::r) v)
 |c,[],_,_=>λi a b ha g=>by
  have w:c.2[i]? =some a:=ha;have I:c.2[i]? =some b:=g;rw [w] at I;cases I;exact QR
 |c,d::r,h,hc=>λi a b ha g=>by
  have A:=(Qo.mp h.t.rise).1 d (Qe ..);have hm:=(Qo.mp h.mono).1 d (Qe ..)
  by_cases hd:d.1<=u
  ·rw [zX hd] at ha;rw [zX (TY hd z)] at g;exact Yv z h.tail hd i a b ha g
  ·have K:u<d.1:=jat.mp hd;rw [zg,QH K] at ha;obtain ⟨x,y,C,q,G⟩:=YT ha;have M:=hm i x y C q
   by_cases D:v<d.1
   ·rw [zg,QH D] at g;obtain ⟨U,T,N,L,P⟩:=YT g;rw [C] at N;cases N;rw [q] at L;cases L;rw [G,P];exact tq A z M
   ·have J:d.1<=v:=Tp.mp D;rw [zX J] at g;have O:=Yv J h.tail QR i y b (by rw [ZI h.t.tail];exact q) g;have s:=tq (x:=x) (y:=y) A (QF K) M;rw [<-G] at s
    have w:xY ((d.1 - c.1) / (d.1 - c.1)) x y=y:=by
     rw [jah,TB _ (xS A),tu]
    rw [w] at s;exact TY s O
theorem aR:∀{c:zh} {r:List zh},PathM m (c::r)->c.1<=e->e<=(lastC (c::r)).1->zA (zg (c::r) e)=e
 |c,[],h,hc,hl=>by
  have q:e=c.1:=jaS hl hc;rw [q];exact h.sums c (Qe ..)
 |c,d::r,h,hc,hl=>by
  have g:=(Qo.mp h.t.rise).1 d (Qe ..)
  by_cases hd:d.1<=e
  ·rw [zX hd];exact aR h.tail hd (by rw [<-ZJ c];exact hl)
  ·have s:e<d.1:=jat.mp hd;rw [zg,QH s];unfold XS;rw [jV _ _ _ (by rw [h.t.len c (Qe ..),h.t.len d (Qf _ (Qe ..))]),h.sums c (Qe ..),h.sums d (Qf _ (Qe ..))];have u:=xf (x:=c.1) (y:=d.1) (E:=e) g;have:=zW (a:=xY ((e - c.1) / (d.1 - c.1)) c.1 d.1 - e) (b:=d.1 - c.1) (by grind) (xS g)
   grind
theorem fB:∀{c:zh} {r:List zh},PathT m (c::r)->zg (c::r) (lastC (c::r)).1=(lastC (c::r)).2
 |c,[],h=>rfl
 |c,d::r,h=>by
  rw [ZJ,zX (CB h.tail)];exact fB h.tail
noncomputable def yZ:List zh->Nat->Rat->Option Rat
 |c::d::r,k,L=>if L<d.2.getD k 0 then some (xY ((L - c.2.getD k 0) / (d.2.getD k 0 - c.2.getD k 0)) c.1 d.1) else yZ (d::r) k L
 |_,_,_=>none
theorem Ud (s:k<m):∀{c:zh} {r:List zh},PathM m (c::r)->c.2.getD k 0<=L->yZ (c::r) k L=some e->
 ∃(i:Nat) (a b:zh) (x y:Rat),(c::r)[i]? =some a/\(c::r)[i+1]? =some b/\a.2[k]? =some x/\b.2[k]? =some y/\x<=L/\L<y/\e=xY ((L - x) / (y - x)) a.1 b.1/\a.1<=e/\e<b.1/\(e - a.1) / (b.1 - a.1)=(L - x) / (y - x)/\zg (c::r) e=List.zipWith (xY ((L - x) / (y - x))) a.2 b.2
 |c,[],_,_,h=>by simp [yZ] at h
 |c,d::r,h,hc,hr=>by
  have X:=(Qo.mp h.t.rise).1 d (Qe ..);have lc:k<c.2.length:=by rw [h.t.len c (Qe ..)];exact s
  have ld:k<d.2.length:=by rw [h.t.len d (Qf _ (Qe ..))];exact s
  have P:c.2[k]? =some (c.2.getD k 0):=by rw [Qk,Qb lc];rfl
  have O:d.2[k]? =some (d.2.getD k 0):=by rw [Qk,Qb ld];rfl
  rw [yZ] at hr
  by_cases g:L<d.2.getD k 0
  ·rw [QH g] at hr;cases hr;generalize c.2.getD k 0=x at*;generalize d.2.getD k 0=y at*;have U:x<y:=by grind
   have Y:=xf (x:=c.1) (y:=d.1) (E:=L) U;have hp:0<y - x:=by grind
   have G:0<d.1 - c.1:=by grind
   have q:0<=(L - x)*(d.1 - c.1):=QT (by grind) (by grind);have C:0<(y - L)*(d.1 - c.1):=jbu (by grind) G;have ge1:c.1<=xY ((L - x) / (y - x)) c.1 d.1:=Rat.le_of_mul_le_mul_left (c:=y - x) (by grind) hp
   have D:xY ((L - x) / (y - x)) c.1 d.1<d.1:=by
    refine jat.mp λhle=>?_;have A:0<=(xY ((L - x) / (y - x)) c.1 d.1 - d.1)*(y - x):=QT (by grind) (by grind)
    grind
   have et:(xY ((L - x) / (y - x)) c.1 d.1 - c.1) / (d.1 - c.1)=(L - x) / (y - x):=by
    unfold xY;generalize (L - x) / (y - x)=t;have Z:=TB _ (xS X);rw [jah];generalize (d.1 - c.1)⁻¹=j at*
    grind
   refine ⟨0,c,d,x,y,rfl,rfl,P,O,hc,g,rfl,ge1,D,et,?_⟩;rw [zg,QH D];unfold XS;rw [et]
  ·rw [QP g] at hr;obtain ⟨i,a,b,x,y,q,C,A,N,M,K,J,z,I,w,u⟩:=Ud s h.tail (Tp.mp g) hr;refine ⟨i+1,a,b,x,y,by simpa using q,by simpa using C,A,N,M,K,J,z,I,w,?_⟩
   have T:d.1<=a.1:=by
    cases i with
    |zero=>cases q;exact QR
    |succ i=>exact QF ((Qo.mp h.t.tail.rise).1 a (Qc ‹q›))
   rw [zX (TY T z)];exact u
theorem fe (q:k<m):∀{c:zh} {r:List zh},PathM m (c::r)->c.2.getD k 0<=L->yZ (c::r) k L=none->(lastC (c::r)).2.getD k 0<=L
 |c,[],_,hc,h=>hc
 |c,d::r,h,hc,hr=>by
  rw [yZ] at hr
  by_cases g:L<d.2.getD k 0
  ·rw [QH g] at hr;cases hr
  ·rw [QP g] at hr;rw [ZJ];exact fe q h.tail (Tp.mp g) hr
theorem nK (g:k<m):∀{c:zh} {r:List zh} {i:Nat} {a b:zh},PathM m (c::r)->(c::r)[i]? =some a->(c::r)[i+1]? =some b->a.2.getD k 0<=L->L<b.2.getD k 0->
 yZ (c::r) k L=some (xY ((L - a.2.getD k 0) / (b.2.getD k 0 - a.2.getD k 0)) a.1 b.1)
 |c,[],i,a,b,_,_,hb,_,_=>by simp at hb
 |c,d::r,0,a,b,_,ha,hb,_,hL=>by
  cases ha;cases hb;rw [yZ,QH hL]
 |c,d::r,i+1,a,b,h,ha,hb,hLa,hL=>by
  have q:(d::r)[i]? =some a:=by simpa using ha
  have u:d.2.getD k 0<=a.2.getD k 0:=by
   cases i with
   |zero=>cases q;exact QR
   |succ i=>
    have hm:=(Qo.mp h.tail.mono).1 a (Qc ‹q›);have ld:k<d.2.length:=by rw [h.t.len d (Qf _ (Qe ..))];exact g
    have s:k<a.2.length:=by rw [h.t.len a (Qc ha)];exact g
    exact hm k _ _ (by rw [Qk,Qb ld];rfl) (by rw [Qk,Qb s];rfl)
  rw [yZ,QP (Tp.mpr (TY u hLa))];exact nK g h.tail q ‹hb› hLa hL
theorem je (q:k<m):∀{c:zh} {r:List zh},PathM m (c::r)->(∀l,(c::r).getLast? =some l->l.2.getD k 0<=L)->yZ (c::r) k L=none
 |c,[],_,_=>rfl
 |c,d::r,h,hl=>by
  have hd:d.2.getD k 0<=L:=by
   obtain ⟨l,g⟩:∃l,(c::d::r).getLast? =some l:=⟨_,To (by simp)⟩;have hle:=hl l g;rw [TZ] at g
   cases r with
   |nil=>cases g;exact hle
   |cons f r=>
    rw [TZ] at g;have hm:=(Qo.mp h.tail.mono).1 l (jal g);have ld:k<d.2.length:=by rw [h.t.len d (Qf _ (Qe ..))];exact q
    have s:k<l.2.length:=by rw [h.t.len l (Qf _ (Qf _ (jal g)))];exact q
    exact TY (hm k _ _ (by rw [Qk,Qb ld];rfl) (by rw [Qk,Qb s];rfl)) hle
  rw [yZ,QP (Tp.mpr hd)];exact je q h.tail λl u=>hl l (by rw [TZ];exact u)
theorem yf:∀{c:zh} {r:List zh},PathT m (c::r)->a∈c::r->zg (c::r) a.1=a.2
 |c,[],_,ha=>by
  rcases Qn.mp ha with rfl|h
  ·rfl
  ·simp at h
 |c,d::r,h,ha=>by
  rcases Qn.mp ha with rfl|h'
  ·exact ZI h
  ·have:d.1<=a.1:=by
    rcases Qn.mp h' with rfl|g
    ·exact QR
    ·exact QF ((Qo.mp h.tail.rise).1 a g)
   rw [zX this];exact yf h.tail h'
theorem UM:∀{c:zh} {r:List zh},PathT m (c::r)->lastC (c::r)∈c::r/\∀x∈c::r,x.1<=(lastC (c::r)).1
 |c,[],_=>⟨Qe ..,λx q=>by
  rcases Qn.mp q with rfl|h
  ·exact QR
  ·simp at h⟩
 |c,d::r,h=>by
  have g:=UM h.tail;rw [ZJ];refine ⟨Qf _ g.1,λx q=>?_⟩
  rcases Qn.mp q with rfl|h'
  ·exact TY (QF ((Qo.mp h.rise).1 d (Qe ..))) (g.2 d (Qe ..))
  ·exact g.2 x h'
def dw (h:PathT m (c::r)):∀x∈c::r,c.1<=x.1:=λx g=>by
 rcases Qn.mp g with rfl|h'
 ·exact QR
 ·exact QF ((Qo.mp h.rise).1 x h')
def lC (h:yr a)  (m:a[i]? =some x) (g:a[i+1]? =some y) (hz:z∈a):¬(x.1<z.1/\z.1<y.1):=
 fH (M:=yb a) (Wd h) (j:=i) (by unfold yb;rw [Qh,m];rfl) (by unfold yb;rw [Qh,g];rfl) (by unfold yb;exact Qj.mpr ⟨z,hz,rfl⟩)
def vX (x y z:List Rat) (a b:Rat):Prop:=∀(i:Nat) (p q r:Rat),x[i]? =some p->y[i]? =some q->z[i]? =some r->(r - p)*b=(q - p)*a
def fO:vX (p::x) (q::y) (r::z) a b↔(r - p)*b=(q - p)*a/\vX x y z a b:=by
 constructor
 ·intro h;exact ⟨h 0 p q r rfl rfl rfl,λi w u t s m g=>h (i+1) w u t ‹s› ‹m› ‹g›⟩
 ·rintro ⟨h0,h⟩ i w u t s m g
  cases i with
  |zero=>cases s;cases m;cases g;exact h0
  |succ i=>exact h i w u t ‹s› ‹m› ‹g›
theorem tG:∀{x y z:List Rat},x.length=y.length->x.length=z.length->(vX (x++x') (y++y') (z++z') a b↔vX x y z a b/\vX x' y' z' a b)
 |[],[],[],_,_=>by
  simp only [jaR];exact ⟨λh=>⟨λi p q r g=>by simp at g,h⟩,λh=>h.2⟩
 |p::x,q::y,r::z,g,h2=>by
  rw [Tv,Tv,Tv,fO,fO,tG ‹g› ‹h2›,and_assoc]
 |[],_::_,_,h,_=>by simp at h
 |_::_,[],_,h,_=>by simp at h
 |[],[],_::_,_,h=>by simp at h
 |_::_,_::_,[],_,h=>by simp at h
theorem tF:∀{x y z:List Rat},x.length=y.length->x.length=z.length->vX x y z a b->(zA z - zA x)*b=(zA y - zA x)*a
 |[],[],[],_,_,_=>by simp only [zA];grind
 |p::x,q::y,r::z,h1,h2,h=>by
  rw [fO] at h;have:=tF ‹h1› ‹h2› h.2;have h0:=h.1;simp only [zA]
  grind
 |[],_::_,_,h,_,_=>by simp at h
 |_::_,[],_,h,_,_=>by simp at h
 |[],[],_::_,_,h,_=>by simp at h
 |_::_,_::_,[],_,h,_=>by simp at h
def ur:LeV (p::x) (q::y)↔p<=q/\LeV x y:=by
 constructor
 ·intro h;exact ⟨h 0 p q rfl rfl,λi s r m g=>h (i+1) s r ‹m› ‹g›⟩
 ·rintro ⟨h0,h⟩ i s r m g
  cases i with
  |zero=>cases m;cases g;exact h0
  |succ i=>exact h i s r ‹m› ‹g›
theorem DL:∀{x y:List Rat},x.length=y.length->LeV x y->LeV x' y'->LeV (x++x') (y++y')
 |[],[],_,_,h=>h
 |p::x,q::y,hl,h,h'=>by
  rw [ur] at h;rw [Tv,Tv,ur];exact ⟨h.1,DL ‹hl› h.2 h'⟩
 |[],_::_,h,_,_=>by simp at h
 |_::_,[],h,_,_=>by simp at h
noncomputable def yQ (Qs:List (List zh)) (ps:List Rat):List Rat:=(List.zipWith zg Qs ps).flatten
def xw (Q:List zh) (Qs:List (List zh)) (p:Rat) (ps:List Rat):yQ (Q::Qs) (p::ps)=zg Q p++yQ Qs ps:=by
 unfold yQ;rw [jab,jaf]
def Wid (Q:List zh):Prop:=∃(m:Nat) (c:zh) (r:List zh),Q=c::r/\∀x∈c::r,x.2.length=m
def Wid.len (h:Wid Q) (p q:Rat):(zg Q p).length=(zg Q q).length:=by
 obtain ⟨m,c,r,rfl,h⟩:=h;rw [Yi h,Yi h]
theorem lK:∀{Qs:List (List zh)} {pu pv g:List Rat},pu.length=Qs.length->pv.length=Qs.length->g.length=Qs.length->(∀Q∈Qs,Wid Q)->
 (vX (yQ Qs pu) (yQ Qs pv) (yQ Qs g) a b↔∀(k:Nat) (Q:List zh) (p q r:Rat),Qs[k]? =some Q->pu[k]? =some p->pv[k]? =some q->g[k]? =some r->vX (zg Q p) (zg Q q) (zg Q r) a b)
 |[],[],[],[],_,_,_,_=>⟨λ_ k Q p q r h=>by simp at h,λ_ i p q r h=>by simp [yQ] at h⟩
 |Q::Qs,p::pu,q::pv,r::g,h1,h2,h3,hw=>by
  have w:=hw Q (Qe ..);rw [xw,xw,xw,tG (w.len _ _) (w.len _ _),lK ‹h1› ‹h2› ‹h3› λQ y=>hw Q (Qf _ y)]
  constructor
  ·rintro ⟨h,h'⟩ k u t s m a1 a2 a3 a4
   cases k with
   |zero=>cases a1;cases a2;cases a3;cases a4;exact h
   |succ k=>exact h' k u t s m ‹a1› ‹a2› ‹a3› ‹a4›
  ·intro h;exact ⟨h 0 Q p q r rfl rfl rfl rfl,λk u t s m a1 a2 a3 a4=>h (k+1) u t s m ‹a1› ‹a2› ‹a3› ‹a4›⟩
 |[],_::_,_,_,h,_,_,_=>by simp at h
 |[],[],_::_,_,_,h,_,_=>by simp at h
 |[],[],[],_::_,_,_,h,_=>by simp at h
 |_::_,[],_,_,h,_,_,_=>by simp at h
 |_::_,_::_,[],_,_,h,_,_=>by simp at h
 |_::_,_::_,_::_,[],_,_,h,_=>by simp at h
theorem Cy:∀{Qs:List (List zh)} {pu pv:List Rat},pu.length=Qs.length->pv.length=Qs.length->(∀Q∈Qs,Wid Q)->
 (∀(k:Nat) (Q:List zh) (p q:Rat),Qs[k]? =some Q->pu[k]? =some p->pv[k]? =some q->LeV (zg Q p) (zg Q q))->LeV (yQ Qs pu) (yQ Qs pv)
 |[],[],[],_,_,_,_=>λi p q h=>by simp [yQ] at h
 |Q::Qs,p::pu,q::pv,h1,h2,hw,h=>by
  rw [xw,xw];exact DL ((hw Q (Qe ..)).len _ _) (h 0 Q p q rfl rfl rfl) (Cy ‹h1› ‹h2› (λQ r=>hw Q (Qf _ r)) λk s m g a1 a2 a3=>h (k+1) s m g ‹a1› ‹a2› ‹a3›)
 |[],_::_,_,h,_,_,_=>by simp at h
 |[],[],_::_,_,h,_,_=>by simp at h
 |_::_,[],_,h,_,_,_=>by simp at h
 |_::_,_::_,[],_,h,_,_=>by simp at h
theorem sF:∀{Qs:List (List zh)} {ps:List Rat},ps.length=Qs.length->(∀(k:Nat) (Q:List zh) (p:Rat),Qs[k]? =some Q->ps[k]? =some p->zA (zg Q p)=p)->zA (yQ Qs ps)=zA ps
 |[],[],_,_=>rfl
 |Q::Qs,p::ps,h,g=>by
  rw [xw,dP,g 0 Q p rfl rfl,zA,sF ‹h› λk q m a1 a2=>g (k+1) q m ‹a1› ‹a2›]
 |[],_::_,h,_=>by simp at h
 |_::_,[],h,_=>by simp at h
theorem tJ:∀{Qs:List (List zh)} {pu pv:List Rat},pu.length=Qs.length->pv.length=Qs.length->(∀Q∈Qs,Wid Q)->(yQ Qs pu).length=(yQ Qs pv).length
 |[],[],[],_,_,_=>rfl
 |Q::Qs,p::pu,q::pv,h1,h2,hw=>by
  rw [xw,xw,QB,QB,(hw Q (Qe ..)).len p q,tJ ‹h1› ‹h2› λQ g=>hw Q (Qf _ g)]
 |[],_::_,_,h,_,_=>by simp at h
 |[],[],_::_,_,h,_=>by simp at h
 |_::_,[],_,h,_,_=>by simp at h
 |_::_,_::_,[],_,h,_=>by simp at h
theorem tD:∀{Qs:List (List zh)} {ps:List Rat},x∈yQ Qs ps->∃(k:Nat) (Q:List zh) (p:Rat),Qs[k]? =some Q/\ps[k]? =some p/\x∈zg Q p
 |[],ps,h=>by simp [yQ] at h
 |Q::Qs,[],h=>by simp [yQ] at h
 |Q::Qs,p::ps,h=>by
  rw [xw,QY] at h
  rcases h with h|h
  ·exact ⟨0,Q,p,rfl,rfl,h⟩
  ·obtain ⟨k,m,g,a,b,c⟩:=tD h;exact ⟨k+1,m,g,by simpa using a,by simpa using b,c⟩
def bend (h:PathM m (c::r))  (hy:y∈c::r) (ev:y.1=v) (A:u<v) (N:v<w) (hc:c.1<=u) (hw:w<=(lastC (c::r)).1)
 (n1:∀x∈c::r,¬(u<x.1/\x.1<v)) (n2:∀x∈c::r,¬(v<x.1/\x.1<w)) (hl:vX (zg (c::r) u) (zg (c::r) w) (zg (c::r) v) (v - u) (w - u)):False:=by
 obtain ⟨j,hj,ej⟩:=QS hy;have I:(c::r)[j]? =some y:=by rw [Qb hj,ej]
 have hj1:j≠0:=λz=>by
  subst z;cases I;rw [<-ev] at A;exact Tp.mpr hc A
 obtain ⟨i,rfl⟩:∃i,j=i+1:=⟨j - 1,⋯⟩;have M:=h.t.rise;unfold yr at M;rw [QO] at M
 have G:i+2<(c::r).length:=by
  refine Nat.lt_of_not_le λhle=>?_
  have e1:lastC (c::r)=y:=by
   unfold lastC;rw [jaB,show (c::r).length - 1=i+1 by omega,I];rfl
  rw [e1,ev] at hw;exact Tp.mpr hw N
 have gx:(c::r)[i]? =some (c::r)[i]:=Qb ⋯;have gz:(c::r)[i+2]? =some (c::r)[i+2]:=Qb G;have K:=M i (i+1) ⋯ hj ⋯;have J:=M (i+1) (i+2) hj G ⋯;rw [ej] at K J;generalize (c::r)[i]=x at*;generalize (c::r)[i+2]=z at*;have L:=Qc gx;have mz:=Qc gz;rw [ev] at K J;have X:x.1<=u:=Tp.mp λLC=>n1 x L ⟨LC,K⟩;have Y:w<=z.1:=Tp.mp λLC=>n2 z mz ⟨J,LC⟩;have px:=yf h.t L;have py:=yf h.t hy;have pz:=yf h.t mz;rw [ev] at py;have SX:=dw h.t x L
 have U:∀s∈r,¬(x.1<s.1/\s.1<v):=λs Z=>by
  have:=lC h.t.rise gx I (Qf c Z);rw [ev] at this;exact this
 have T:∀s∈r,¬(v<s.1/\s.1<z.1):=λs Z=>by
  have:=lC h.t.rise I gz (Qf c Z);rw [ev] at this;exact this
 refine h.t.thin i x y z gx I gz λk a b d ha hb hd=>?_;have lk:k<m:=by rw [<-h.t.len x L];exact (Qd.mp ha).1
 have g:∀e,∃q,(zg (c::r) e)[k]? =some q:=λe=>⟨_,Qb (by rw [Yi h.t.len];exact lk)⟩;obtain ⟨pu,D⟩:=g u;obtain ⟨pw,C⟩:=g w;have l1:=ZH X (QF A) K h.t SX U k a b pu (by rw [px];exact ha) (by rw [py];exact hb) D;have l2:=ZH (QF N) Y J h.t (TY hc (QF A)) T k b d pw (by rw [py];exact hb) (by rw [pz];exact hd) C;have l3:=hl k pu pw b D C (by rw [py];exact hb);rw [ev];have P:=xS A;have O:=xS N;have nuw:w - u≠0:=xS (xl A N);have e1:((b - a)*(v - u) - (b - pu)*(v - x.1))*1=0:=by grind
 have e2:(pw - b)*(v - u)=(b - pu)*(w - v):=by grind
 have e3:((d - b)*(w - v) - (pw - b)*(z.1 - v))=0:=by grind
 have e4:((d - b)*(v - u) - (b - pu)*(z.1 - v))*(w - v)=0:=by grind
 have e5:=zW e4 O;have e6:((b - a)*(z.1 - x.1) - (d - a)*(v - x.1))*(v - u)=0:=by grind
 have:=zW e6 P
 grind
noncomputable def Ys (P:List zh) (k:Nat) (Q:List zh):List Rat:=(yb Q).filterMap (yZ P k)
noncomputable def wpF (P:List zh):Nat->List (List zh)->List Rat->List Rat
 |_,[],M=>M
 |k,Q::Qs,M=>wpF P (k+1) Qs (yw M (Ys P k Q))
theorem so (P Q:List zh):∀(Qs:List (List zh)) (k:Nat) (M:List Rat),wpF P k (Qs++[Q]) M=yw (wpF P k Qs M) (Ys P (k+Qs.length) Q)
 |[],k,M=>by rw [jaR,wpF,wpF,wpF];rfl
 |Q'::Qs,k,M=>by rw [Tv,wpF,wpF,so P Q Qs (k+1),Qy];congr 2;omega
theorem aU:∀{Qs:List (List zh)} {k:Nat} {M:List Rat},e∈wpF P k Qs M↔e∈M\/∃(j:Nat) (Q:List zh),Qs[j]? =some Q/\e∈Ys P (k+j) Q
 |[],k,M=>by
  rw [wpF];exact ⟨.inl,λh=>h.elim id λ⟨j,Q,h,_⟩=>by simp at h⟩
 |Q::Qs,k,M=>by
  rw [wpF,aU,Yw]
  constructor
  ·rintro ((h|h)|⟨j,Q',h1,h2⟩)
   ·exact .inl h
   ·exact .inr ⟨0,Q,rfl,h⟩
   ·exact .inr ⟨j+1,Q',by simpa using h1,by rw [show k+(j+1)=k+1+j by omega];exact h2⟩
  ·rintro (h|⟨j,Q',h1,h2⟩)
   ·exact .inl (.inl h)
   ·cases j with
    |zero=>cases h1;exact .inl (.inr h2)
    |succ j=>exact .inr ⟨j,Q',by simpa using h1,by rw [show k+1+j=k+(j+1) by omega];exact h2⟩
theorem sU:∀{Qs:List (List zh)} {k:Nat} {M:List Rat},Uk M->(∀(j:Nat) (Q:List zh),Qs[j]? =some Q->Uk (Ys P (k+j) Q))->Uk (wpF P k Qs M)
 |[],_,_,h,_=>by rw [wpF];exact h
 |Q::Qs,k,M,h,g=>by
  rw [wpF];exact sU (Vj h (g 0 Q rfl)) λj q m=>by rw [show k+1+j=k+(j+1) by omega];exact g (j+1) q ‹m›
structure Nest (P:List zh) (Qs:List (List zh)):Prop where
 pm:PathM Qs.length P
 p0:∃r,P=(0,List.replicate Qs.length 0)::r
 q:∀(k:Nat) (Q:List zh),Qs[k]? =some Q->∃(m:Nat) (r:List zh),Q=((0:Rat),List.replicate m 0)::r/\PathM m Q/\(lastC P).2[k]? =some (lastC Q).1
section
variable {P:List zh} {Qs:List (List zh)}
def Nest.wid (h:Nest P Qs):∀Q∈Qs,Wid Q:=λQ s=>by
 obtain ⟨k,g⟩:=Qx.mp s;obtain ⟨m,r,rfl,pm,_⟩:=h.q k Q g;exact ⟨m,_,r,rfl,pm.t.len⟩
def Nest.plen (h:Nest P Qs) (e:Rat):(zg P e).length=Qs.length:=by
 obtain ⟨r,rfl⟩:=h.p0;exact Yi h.pm.t.len
def Nest.get (h:Nest P Qs) (e:Rat) {k:Nat} {Q:List zh} (g:Qs[k]? =some Q):∃p,(zg P e)[k]? =some p:=
 ⟨_,Qb (by rw [h.plen];exact (Qd.mp g).1)⟩
def Nest.mono (h:Nest P Qs) (h0:0<=u) (g:u<=v):LeV (zg P u) (zg P v):=by
 obtain ⟨r,rfl⟩:=h.p0;exact Yv g h.pm h0
def Nest.range (h:Nest P Qs) {e p:Rat} {k:Nat} {Q:List zh} (h0:0<=e) (w:e<=(lastC P).1) (s:Qs[k]? =some Q) (hp:(zg P e)[k]? =some p):0<=p/\p<=(lastC Q).1:=by
 obtain ⟨m,z,C,A,u⟩:=h.q k Q s;have g:=h.mono QR h0;have m2:=h.mono h0 w;obtain ⟨r,y⟩:=h.p0;subst y;have e0:zg ((0,List.replicate Qs.length 0)::r) 0=List.replicate Qs.length 0:=ZI h.pm.t;rw [e0] at g;rw [fB h.pm.t] at m2;refine ⟨g k 0 p ?_ hp,m2 k p _ hp u⟩;rw [QX,QH (Qd.mp s).1]
def Nest.reach (h:Nest P Qs)  (Y:Qs[k]? =some Q) (hL:0<=L) (hr:yZ P k L=some e):
 (0<=e/\e<(lastC P).1)/\(zg P e)[k]? =some L/\∀m q,e<m->(zg P m)[k]? =some q->L<q:=by
 have N:k<Qs.length:=(Qd.mp Y).1;obtain ⟨r,eP⟩:=h.p0;have pm:=h.pm;have mon:=λ(u v:Rat) (a:0<=u) (b:u<=v)=>h.mono a b;have plen:=h.plen;rw [eP] at hr pm mon plen⊢
 obtain ⟨i,a,b,x,y,g1,g2,g3,C,U,hLy,ee,M,A,et,ep⟩:=Ud N pm (by
  rw [Qk,QX,QH N];exact hL) hr
 have D:=Qc g1;have z:=Qc g2;have G:(0:Rat)<=a.1:=dw pm.t a D;have Z:=(UM pm.t).2 b z;have T:x<y:=by grind
 have eL:xY ((L - x) / (y - x)) x y=L:=by
  have l:=xf (x:=x) (y:=y) (E:=L) T;have:=zW (a:=xY ((L - x) / (y - x)) x y - L) (b:=y - x) (by grind) (xS T)
  grind
 have I:(zg ((0,List.replicate Qs.length 0)::r) e)[k]? =some L:=by
  rw [ep,Qt,g3,C];show some (xY _ x y)=_;rw [eL]
 refine ⟨⟨TY G M,by grind⟩,I,λm q Pq J=>?_⟩;have O:a.1<b.1:=by grind
 have no:∀s∈r,¬(a.1<s.1/\s.1<b.1):=λs X=>lC pm.t.rise g1 g2 (Qf _ X)
 have key:∀g w,e<g->g<=b.1->(zg ((0,List.replicate Qs.length 0)::r) g)[k]? =some w->L<w:=by
  intro g w h1 K h3;have l1:=ZH (QF (by grind:a.1<g)) K O pm.t G no k x y w (by rw [yf pm.t D];exact g3) (by rw [yf pm.t z];exact C) h3;have l2:=ZH M (QF A) O pm.t G no k x y L (by rw [yf pm.t D];exact g3) (by rw [yf pm.t z];exact C) I;refine jat.mp λhle=>?_;have p1:0<(y - x)*(g - e):=jbu (by grind) (by grind);have p2:0<=(L - w)*(b.1 - a.1):=QT (by grind) (by grind)
  grind
 by_cases hb:m<=b.1
 ·exact key m q Pq hb J
 ·have h1:=key b.1 y A QR (by rw [yf pm.t z];exact C);have K:=mon b.1 m (by grind) (by grind) k y q (by rw [yf pm.t z];exact C) J
  grind
def Nest.reach_none (h:Nest P Qs)  (s:Qs[k]? =some Q) (u:0<=L) (hr:yZ P k L=none):(lastC Q).1<=L:=by
 have t:k<Qs.length:=(Qd.mp s).1;obtain ⟨m,y,A,z,g⟩:=h.q k Q s;obtain ⟨r,w⟩:=h.p0;have pm:=h.pm;rw [w] at hr pm g;have:=fe t pm (by rw [Qk,QX,QH t];exact u) hr;rw [Qk,g] at this;exact this
def Nest.qpos (h:Nest P Qs) {k:Nat} {Q:List zh} (s:Qs[k]? =some Q):∀c∈Q,0<=c.1/\c.1<=(lastC Q).1:=λc r=>by
 obtain ⟨m,w,u,g,y⟩:=h.q k Q s;subst u;exact ⟨dw g.t c r,(UM g.t).2 c r⟩
noncomputable def wpV (P:List zh) (Qs:List (List zh)):List Rat:=wpF P 0 Qs (yb P)
noncomputable def yt (P:List zh) (Qs:List (List zh)):List zh:=(wpV P Qs).map λe=>(e,yQ Qs (zg P e))
def Nest.rise (h:Nest P Qs):Uk (wpV P Qs):=by
 refine sU (Wd h.pm.t.rise) λk Q g=>?_;rw [jbP];obtain ⟨m,A,D,u,C⟩:=h.q k Q g;have hr:=Wd u.t.rise;unfold Uk Ys;rw [List.pairwise_filterMap];unfold Uk at hr;refine hr.imp_of_mem λ{L L'} hL Rw LC e he e' Pq=>?_;obtain ⟨c,w,rfl⟩:=Qj.mp hL;obtain ⟨y,z,rfl⟩:=Qj.mp Rw;have s:=h.reach g (h.qpos g c w).1 he;have r:=h.reach g (h.qpos g y z).1 Pq;refine jat.mp λhle=>?_;have:=h.mono r.1.1 hle k _ _ r.2.1 s.2.1
 grind
def Nest.mem (h:Nest P Qs):e∈wpV P Qs↔(∃c∈P,c.1=e)\/∃(k:Nat) (Q:List zh),Qs[k]? =some Q/\∃c∈Q,yZ P k c.1=some e:=by
 unfold wpV;rw [aU]
 constructor
 ·rintro (h1|⟨j,Q,h1,h2⟩)
  ·obtain ⟨c,g,rfl⟩:=Qj.mp h1;exact .inl ⟨c,g,rfl⟩
  ·rw [jbP] at h2;unfold Ys at h2;obtain ⟨L,m,hr⟩:=jbR.mp h2;obtain ⟨c,g,rfl⟩:=Qj.mp m;exact .inr ⟨j,Q,h1,c,g,hr⟩
 ·rintro (⟨c,g,rfl⟩|⟨k,Q,h1,c,g,hr⟩)
  ·exact .inl (Qj.mpr ⟨c,g,rfl⟩)
  ·refine .inr ⟨k,Q,h1,?_⟩;rw [jbP];exact jbR.mpr ⟨c.1,Qj.mpr ⟨c,g,rfl⟩,hr⟩
def Nest.in_range (h:Nest P Qs) {e:Rat} (he:e∈wpV P Qs):0<=e/\e<=(lastC P).1:=by
 rcases h.mem.mp he with ⟨c,g,rfl⟩|⟨k,Q,m,c,g,hr⟩
 ·have pm:=h.pm;obtain ⟨r,q⟩:=h.p0;subst q;exact ⟨dw pm.t c g,(UM pm.t).2 c g⟩
 ·have:=(h.reach m (h.qpos m c g).1 hr).1;exact ⟨this.1,QF this.2⟩
def Nest.no_level (h:Nest P Qs) {j k:Nat} {u v p q:Rat} {Q:List zh} (t:(wpV P Qs)[j]? =some u) (s:(wpV P Qs)[j+1]? =some v) (g:Qs[k]? =some Q) (hp:(zg P u)[k]? =some p) (w:(zg P v)[k]? =some q):
 ∀x∈Q,¬(p<x.1/\x.1<q):=by
 rintro x r ⟨C,A⟩
 have ru:=h.in_range (Qc t);have m:=h.in_range (Qc s);have y:=(h.qpos g x r).1
 cases hr:yZ P k x.1 with
 |none=>
  have:=h.reach_none g y hr;have:=(h.range m.1 m.2 g w).2
  grind
 |some e=>
  have re:=h.reach g y hr;have z:e∈wpV P Qs:=h.mem.mpr (.inr ⟨k,Q,g,x,r,hr⟩);refine fH h.rise t s z ⟨jat.mp λhle=>?_,jat.mp λhle=>?_⟩
  ·have:=h.mono re.1.1 hle k _ _ re.2.1 hp
   grind
  ·have:=h.mono m.1 hle k _ _ w re.2.1
   grind
def eZ (r:Uk M)  (q:M[j]? =some u) (m:M[j+1]? =some v):u<v:=by
 obtain ⟨g,s⟩:=Qd.mp q;obtain ⟨lv,ev⟩:=Qd.mp m;have:=QO.mp r j (j+1) g lv ⋯;rw [s,ev] at this;exact this
def Nest.pgap (h:Nest P Qs)  (q:(wpV P Qs)[j]? =some u) (m:(wpV P Qs)[j+1]? =some v):∀x∈P,¬(u<x.1/\x.1<v):=λx g=>
 fH h.rise q m (h.mem.mpr (.inl ⟨x,g,rfl⟩))
def Nest.line (h:Nest P Qs) {j:Nat} {u v E:Rat} (A:(wpV P Qs)[j]? =some u) (w:(wpV P Qs)[j+1]? =some v) (K:u<=E) (L:E<=v):
 vX (yQ Qs (zg P u)) (yQ Qs (zg P v)) (yQ Qs (zg P E)) (E - u) (v - u):=by
 have LS:=eZ h.rise A w;have ru:=h.in_range (Qc A);have rv:=h.in_range (Qc w);rw [lK (h.plen u) (h.plen v) (h.plen E) h.wid];intro k Q p q r J hp C hr
 have lP:(r - p)*(v - u)=(q - p)*(E - u):=by
  have gap:=h.pgap A w;obtain ⟨rP,Y⟩:=h.p0;have pm:=h.pm;rw [Y] at hp C hr pm gap;exact ZH K L LS pm.t ru.1 (λx g=>gap x (Qf _ g)) k p q r hp C hr
 have I:=h.mono ru.1 K k p r hp hr;have G:=h.mono (TY ru.1 K) L k r q hr C;have lev:=h.no_level A w J hp C;have N:=h.range ru.1 ru.2 J hp;obtain ⟨m,rq,X,O,_⟩:=h.q k Q J;subst X;intro i x y z g D hz
 by_cases Z:p=q
 ·have:r=p:=by grind
  subst this;subst Z;rw [g] at D hz;cases D;cases hz
  grind
 ·have M:p<q:=by grind
  have lQ:=ZH I G M O.t N.1 (λs U=>lev s (Qf _ U)) i x y z g D hz;have T:((z - x)*(v - u) - (y - x)*(E - u))*(q - p)=0:=by grind
  have:=zW T (xS M)
  grind
def Nest.qsum (h:Nest P Qs) {e:Rat} (h0:0<=e) (t:e<=(lastC P).1) {k:Nat} {Q:List zh} {p:Rat} (r:Qs[k]? =some Q) (hp:(zg P e)[k]? =some p):zA (zg Q p)=p:=by
 have g:=h.range h0 t r hp;obtain ⟨m,w,u,s,_⟩:=h.q k Q r;subst u;exact aR s g.1 g.2
def Nest.sum (h:Nest P Qs) {e:Rat} (h0:0<=e) (g:e<=(lastC P).1):zA (yQ Qs (zg P e))=e:=by
 rw [sF (h.plen e) λk Q p m hp=>h.qsum h0 g m hp];have pm:=h.pm;obtain ⟨r,q⟩:=h.p0;rw [q] at pm g⊢;exact aR pm h0 g
def Nest.rises (h:Nest P Qs) {u v:Rat} (h0:0<=u) (r:u<=v) (y:v<=(lastC P).1):LeV (yQ Qs (zg P u)) (yQ Qs (zg P v)):=by
 refine Cy (h.plen u) (h.plen v) h.wid λk Q p q g hp w=>?_;have A:=h.mono h0 r k p q hp w;have s:=h.range h0 (TY r y) g hp;obtain ⟨m,C,z,t,_⟩:=h.q k Q g;subst z;exact Yv A t s.1
def Nest.thin (h:Nest P Qs) {j:Nat} {u v w:Rat} (D:(wpV P Qs)[j]? =some u) (z:(wpV P Qs)[j+1]? =some v) (hw:(wpV P Qs)[j+2]? =some w)
 (K:vX (yQ Qs (zg P u)) (yQ Qs (zg P w)) (yQ Qs (zg P v)) (v - u) (w - u)):False:=by
 have M:=eZ h.rise D z;have L:=eZ h.rise z hw;have ru:=h.in_range (Qc D);have N:=h.in_range (Qc z);have A:=h.in_range (Qc hw);rw [lK (h.plen u) (h.plen w) (h.plen v) h.wid] at K
 have each:∀(k:Nat) (Q:List zh) (p q r:Rat),Qs[k]? =some Q->(zg P u)[k]? =some p->(zg P w)[k]? =some q->(zg P v)[k]? =some r->(r - p)*(w - u)=(q - p)*(v - u):=by
  intro k Q p q r g hp s hr;have wd:=h.wid Q (Qc g);have:=tF (wd.len _ _) (wd.len _ _) (K k Q p q r g hp s hr);rw [h.qsum ru.1 ru.2 g hp,h.qsum A.1 A.2 g s,h.qsum N.1 N.2 g hr] at this;exact this
 rcases h.mem.mp (Qc z) with ⟨y,C,ey⟩|⟨k,Q,g,y,C,hr⟩
 ·have g1:=h.pgap D z;have g2:=h.pgap z hw;have pl:=λe=>h.plen e
  have t:vX (zg P u) (zg P w) (zg P v) (v - u) (w - u):=λk p q r hp s hr=>by
   have X:k<Qs.length:=by rw [<-h.plen u];exact (Qd.mp hp).1
   exact each k _ p q r (Qb X) hp s hr
  obtain ⟨r,eP⟩:=h.p0;have pm:=h.pm;rw [eP] at g1 g2 t pm C A;exact bend pm C ey M L ru.1 A.2 g1 g2 t
 ·have re:=h.reach g (h.qpos g y C).1 hr;obtain ⟨p,hp⟩:=h.get u g;obtain ⟨q,s⟩:=h.get w g;have e1:=each k Q p q y.1 g hp s re.2.1;have MV:=re.2.2 w q L s;have J:=h.mono ru.1 (QF M) k p y.1 hp re.2.1
  have So:p<y.1:=by
   refine jat.mp λhle=>?_;have e:p=y.1:=jaS J hle;have p1:0<(q - p)*(v - u):=jbu (by grind) (by grind)
   grind
  have I:=h.no_level D z g hp re.2.1;have G:=h.no_level z hw g re.2.1 s;have t:=K k Q p q y.1 g hp s re.2.1;have T:=h.range ru.1 ru.2 g hp;have O:=h.range A.1 A.2 g s;obtain ⟨m,r,eQ,U,_⟩:=h.q k Q g;subst eQ;refine bend U C rfl So MV T.1 O.2 I G λi a b c ha hb Z=>?_;have l0:=t i a b c ha hb Z;have Y:((c - a)*(q - p) - (b - a)*(y.1 - p))*(w - u)=0:=by grind
  have:=zW Y (xS (xl M L))
  grind
end
def vM {M:Model} {A:Around} {E:Value->Shared->Prop} {s:Shared} {scope:Scope} {globals:Addr} {closure:List (Str×Addr)} {qual y:Str} {func:Option Addr} {code:Value} {env:Env} {builtins:Addr} {Q:Env->Shared->Prop}
 (one:∀n acc,cellsFrom n scope.names acc=(y,n)::acc) (push:∀h,pushCells h scope.names=h.push {cls:= .type "cell",data:= .cell none})
 (g:Q (newEnv scope s.heap.objs.size globals ((y,s.heap.objs.size+1)::closure) qual func code (some env) builtins) {s with heap:=(s.heap.push {cls:= .type "dict",data:= .dict #[]}).push {cls:= .type "cell",data:= .cell none}}):
 wpAny M A (newFunctionEnv scope globals closure [] qual func code (some env) builtins) Q E s:=by
 simp only [newFunctionEnv,Option.isSome_some,if_true];refine Qg (wpAny_alloc ?_);refine Qg (wpAny_layCells _ (λname kind cells=>by cases hkc:kind==NameKind.cell<;>simp [hkc]) _ _ _ _ ?_);rw [one,push,show ({s with heap:=s.heap.push {cls:= .type "dict",data:= .dict #[]}}:Shared).heap.objs.size=s.heap.objs.size+1 from QV ..];refine Qg ?_;rw [List.forIn_nil];exact Qq (Qq g)
noncomputable def Xi (X:Cx) (N:List Str) (scope:Scope) (y:Str) (C:Addr) (ex:List Addr) (s:Shared) (H:Hp):Cx where
 prog:=X.prog
 w:=X.w
 K:=X.K
 mg:=X.mg
 base:=X.base
 A:=X.A
 N:=N
 s₀:=s
 H₀:=H
 env:=compEnvC scope ((y,C+1)::yX X.env.cells scope.names []) C X.env
 outer:=X.stack
 stack:=X.stack
 ex:=ex
 fn:=λx=>x==y
 calm:=X.calm
 pn:=[]
 xe:=λ_ _=>False
structure CompOk1 (X:Cx) (N:List Str) (n:Nat) (fr:List Nat) (scope:Scope) (y:Str):Prop where
 kind:scope.kind= .function
 nd:N.Nodup
 names:(N.drop n)=fr.map (λj=>(X.N[j]?).getD ("":Str))
 own:n<=N.length
 inx:(fr.all λj=>decide (j<X.N.length))=true
 free:((N.drop n).all λx=>decide (scope.names.lookup x=some .free))=true
 one:∀n acc,cellsFrom n scope.names acc=(y,n)::acc
 push:∀h,pushCells h scope.names=h.push {cls:= .type "cell",data:= .cell none}
 oth:(scope.names.all λz=>decide (z.2= .cell->z.1=y))=true
 yfree:(scope.names.all λz=>decide (z.2= .free->z.1≠y))=true
 loc:(scope.names.all λy=>decide (y.2= .local->scope.names.lookup y.1=some .local))=true
 seen:(scope.names.all λy=>decide (y.2= .free->(X.env.kindOf y.1=some .cell\/X.env.kindOf y.1=some .free)))=true
def VC (h:(relabel scope env).names.lookup x=some k) (q:k= .cell\/k= .free) (t:(scope.names.all λz=>decide (z.2= .cell->z.1=y))=true):x=y\/(x,NameKind.free)∈scope.names:=by
 unfold relabel at h;dsimp only at h
 have key:∀names:List (Str×NameKind),(names.all λz=>decide (z.2= .cell->z.1=y))=true->
  (names.map λ(n,k)=>if (k==NameKind.free && env.scope.kind== .function && env.kindOf n==some .cell)=true then (n,NameKind.cell) else (n,k)).lookup x=some k->x=y\/(x,NameKind.free)∈names:=by
  intro names
  induction names with
  |nil=>intro _ h;simp at h
  |cons z r m=>
   intro ha h;obtain ⟨n,j⟩:=z;rw [List.all_cons,jas] at ha;rw [Ql] at h;have u:∀(b:Bool) (g:NameKind),((if b=true then (n,NameKind.cell) else (n,g)):Str×NameKind)=(n,if b=true then NameKind.cell else g):=by intro b g;cases b<;>rfl
   dsimp only at h;rw [u,jaV] at h
   cases hx:x==n with
   |false=>
    rw [hx] at h;exact (m ha.2 h).imp id (Qf _)
   |true=>
    rw [hx] at h;have e:x=n:=by simpa using hx
    subst e;have h':=QK h;have s:j= .cell->x=y:=Qz ha.1
    cases hb:(j==NameKind.free && env.scope.kind== .function && env.kindOf x==some .cell) with
    |true=>
     rw [jas,jas] at hb;have:j= .free:=by simpa using hb.1.1
     subst this;exact .inr (Qe ..)
    |false=>
     rw [hb] at h';simp only [jaE,if_false] at h';subst h'
     rcases q with z|z
     ·exact .inl (s z)
     ·subst z;exact .inr (Qe ..)
 exact key _ t h
section
variable {X:Cx} {N:List Str} {n:Nat} {fr:List Nat} {scope:Scope} {pins:Pn} {σ:L2.St} {H:Hp} {s:Shared} {y:Str}
def CompOk1.cells (O:CompOk1 X N n fr scope y) (I:Inv X pins σ H s):∀y∈scope.names,y.2= .free->∃c,X.env.cells.lookup y.1=some c:=λy g hf=>I.ok.has y.1 (Qz (TU.mp O.seen y g) hf)
def du:((y,a)::l).lookup x=if x=y then some a else l.lookup x:=by
 rw [jaV]
 cases h:x==y with
 |true=>rw [QH ‹h›]
 |false=>rw [QP ‹h›]
def rE (O:CompOk1 X N n fr scope y) (I:Inv X pins σ H s) (hf:∀b∈fp,se X pins H b) (Rm:∀b∈fp,b<s.heap.objs.size)
 (MP:h'.Ns s.heap.objs.size m) (J:h'.IsCell (s.heap.objs.size+1) none) (keep:∀b o,s.heap.get? b=some o->h'.get? b=some o):
 Inv (Xi X N scope y s.heap.objs.size fp s H) [] (List.replicate n none++frσ σ fr) H {s with heap:=h',toks:=tk}:=by
 have MF:=O.cells I;have C:∀x c,(yX X.env.cells scope.names []).lookup x=some c->X.env.cells.lookup x=some c:=λx c h=>Wg MF (λc h=>by simp at h) h;have cne:∀x c,(yX X.env.cells scope.names []).lookup x=some c->∃v,s.heap.IsCell c v:=λx c h=>I.cell x c (C x c h)
 have K:∀x c,(yX X.env.cells scope.names []).lookup x=some c->c<s.heap.objs.size:=λx c h=>by
  obtain ⟨v,o,G,_⟩:=cne x c h;exact Qr G
 have g:∀x c,((y,s.heap.objs.size+1)::yX X.env.cells scope.names []).lookup x=some c->(x=y/\c=s.heap.objs.size+1)\/(yX X.env.cells scope.names []).lookup x=some c:=λx c h=>by
  rw [du] at h
  by_cases e:x=y
  ·rw [QH e] at h;exact .inl ⟨e,(QK h).symm⟩
  ·rw [QP e] at h;exact .inr h
 have D:∀x w c,((y,s.heap.objs.size+1)::yX X.env.cells scope.names []).lookup x=some c->((y,s.heap.objs.size+1)::yX X.env.cells scope.names []).lookup w=some c->x=w:=λx w c P r=>by
  rcases g x c P with ⟨a,b⟩|a
  ·rcases g w c r with ⟨M,_⟩|M
   ·rw [a,M]
   ·have:=K w c M;rw [b] at this;exact absurd (Nat.lt_trans (Td _) this) (jan _)
  ·rcases g w c r with ⟨_,b⟩|M
   ·have:=K x c a;rw [b] at this;exact absurd (Nat.lt_trans (Td _) this) (jan _)
   ·exact I.ok.inj x w c (C x c a) (C w c M)
 have L:∀x c,(x==y)=true->((y,s.heap.objs.size+1)::yX X.env.cells scope.names []).lookup x=some c->s.heap.objs.size<=c:=λx c t h=>by
  rcases g x c h with ⟨_,b⟩|a
  ·rw [b];exact jav _
  ·rw [du,QH ‹t›] at h;cases h;exact jav _
 refine ⟨⟨I.mod,O.kind,I.ok.glob,I.ok.blt,Qu _,D,λx t=>?_,L,I.ok.hd,I.ok.frames, .inl rfl,λb A=>⟨QN (Rm b A),λx c h=>by
  rcases g x c h with ⟨_,z⟩|z
  ·rw [z];exact λe=>absurd (Rm b A) (by rw [<-e];exact Nat.not_lt.mpr (jav _))
  ·exact (hf b A).2.2.2.2.1 x c (C x c z)⟩,I.bs,QW I.ok.bsz I.sz,λb o e A=>?_,λb A z=>?_,I.stack,I.stkFree⟩,
  rfl,I.bare,Un.kept keep,⟨m,MP,λi x v P r h3=>?_⟩,λx c h=>?_,I.hok.fresh (Qu _),λx c h=>by
   rcases g x c h with ⟨_,z⟩|z
   ·rw [z];exact I.hok.fresh (jav _)
   ·exact I.freeC x c (C x c z),λp hp=>absurd hp (by simp [Xi]),I.hok.kept keep,?_⟩
 ·have LO:x=y\/(x,NameKind.free)∈scope.names:=by
   rcases t with t|t
   ·exact VC t (.inl rfl) O.oth
   ·exact VC t (.inr rfl) O.oth
  show ∃c,((y,s.heap.objs.size+1)::yX X.env.cells scope.names []).lookup x=some c;rw [du]
  by_cases e:x=y
  ·exact ⟨_,QH e⟩
  ·rw [QP e];exact jaT.mp (XG (.inl (LO.resolve_left e)))
 ·rcases (hf b A).2.2.2.1 with z|z
  ·exact I.ok.noex b o e z
  ·exact absurd (Ta (Qr (I.ok.bs b o e).1) z) (jan _)
 ·rcases Qn.mp (I.stkSub b z) with q|q
  ·exact (hf b A).2.1 q
  ·exact (hf b A).2.2.1 q
 ·by_cases T:i<n
  ·rw [jaA ‹T›,QX,QH T] at r;cases r
  ·have Y:(N.drop n)[i - n]? =some x:=by rw [jay,show n+(i - n)=i by omega];exact P
   rw [TQ ‹T›,QE] at r;unfold frσ at r;rw [Qh] at r;rw [O.names,Qh] at Y
   cases ej:fr[i - n]? with
   |none=>rw [ej] at r;cases r
   |some j=>
    rw [ej] at r Y;have SE:j<X.N.length:=Qz (TU.mp O.inx j (Qc ej))
    have t:X.N[j]? =some x:=by
     have e:=QK Y;dsimp only at e;rw [Qb SE] at e⊢;exact congrArg some e
    have hv:σ[j]? =some (some v):=by
     have e:=QK r;dsimp only at e
     cases es:σ[j]? with
     |none=>rw [es] at e;cases e
     |some o=>rw [es] at e;rw [show o=some v from e]
    have Na:scope.names.lookup x=some .free:=by
     refine Qz (TU.mp O.free x ?_);exact Qc (i:=i - n) (by rw [jay,show n+(i - n)=i by omega];exact P)
    have U:(x,NameKind.free)∈scope.names:=jaM Na;have Pj:=Qz (TU.mp O.seen _ U) rfl;obtain ⟨mX,hnX,Sy⟩:=I.loc;obtain ⟨u,ru,lu⟩:=Sy j x v t hv (Pj.elim (λz=> .inr (.inl z)) λz=> .inr (.inr z));refine ⟨u,ru, .inr ⟨?_,?_⟩⟩
    ·exact cq Na
    ·obtain ⟨c,Z⟩:=jaT.mp (XG (cells:=X.env.cells) (acc:=[]) (.inl U))
     refine ⟨c,(by
      show ((y,s.heap.objs.size+1)::yX X.env.cells scope.names []).lookup x=some c;rw [du,QP (Qz (TU.mp O.yfree _ U) rfl)]
      exact Z),?_⟩
     rcases lu with ⟨k,_⟩|⟨_,c',LK,z⟩
     ·rcases Pj with q|q
      ·rw [show X.env.kindOf x=_ from k] at q;cases q
      ·rw [show X.env.kindOf x=_ from k] at q;cases q
     ·have:=C x c Z;rw [LK] at this;cases this;obtain ⟨o,G,hd⟩:=z;exact ⟨o,keep _ _ G,hd⟩
 ·rcases g x c h with ⟨_,z⟩|z
  ·rw [z];exact ⟨_,J⟩
  ·obtain ⟨v,o,G,hd⟩:=cne x c z;exact ⟨v,o,keep _ _ G,hd⟩
 ·rw [QB,QE];unfold frσ;have e:=congrArg List.length O.names;rw [Tz,Qa] at e;have:=O.own;show _=N.length;rw [Qa];omega
end
section
variable {X:Cx} {N:List Str} {n:Nat} {fr:List Nat} {scope:Scope} {y:Str}
def Dt {tg iter elt:Expr} {ifs:List Expr} {pos:Pos} {g:Blk TG} {tt:Blk TT} {te:Blk TE} {pins:Pn} {σ:L2.St} {z:Hp} {s2:Shared} {it:Addr} {I:List Addr} {tn:Nat->Heap->Prop} {J:It} {Q:VK}
 {RR:Value->Addr->Result->Shared->Prop} {E:Value->Shared->Prop}
 (hc:X.calm=true) (O:CompOk1 X N n fr scope y)
 (hg:∀C ex s H,PG (Xi X N scope y C ex s H) tg (g C ex s H)) (ht:∀C ex s H,PIf (Xi X N scope y C ex s H) ifs (tt C ex s H)) (he:∀C ex s H,PE (Xi X N scope y C ex s H) elt (te C ex s H))
 (I2:Inv X pins σ z s2) (T:Turn X.prog X.w X.K tg J I it tn) (Mf:tn 0 s2.heap) (f2:∀b∈I,se X pins z b)
 (hW:∀D,z D=none->∀C ex s0 H0,∃W:Nat->Nat->List V->Hp->Prop,(∃m,W 0 m [] (upd z D (.lst [])))/\∀i m ys z,W i m ys z->z D=some (.lst ys)/\
  ((J.stop i z/\Q (.ref D) z)\/(J.go i z/\∀x H3,J.yld i z x H3->g C ex s0 H0 x (List.replicate n none++frσ σ fr) H3 λσ4 H4=>σ4.drop n=frσ σ fr/\tt C ex s0 H0 σ4 H4 λb U=>
    if b=true then te C ex s0 H0 σ4 U λy H6=>H6 D=some (.lst ys)/\ys.length<sizeLine/\∃M,M<m/\W (i+1) M (ys++[y]) (upd H6 D (.lst (ys++[y])))
    else ∃M,M<m/\W (i+1) M ys U)))
 (hR:∀(D C:Addr) (H':Hp) (s':Shared),Q (.ref D) H'->(∃m,s'.heap.Ns C m)->Side X pins H' C->Inv X pins σ H' s'->RR (.ref D) C (.ok .next) s'):
 wpAny (model X.prog X.w) X.A (newList []) (λacc s₃=>wpAny (model X.prog X.w) X.A (newFunctionEnv scope X.env.globals (yX X.env.cells scope.names []) [] X.env.qual none .none (some X.env)) (λcenv s₄=>
  codeAny (model X.prog X.w) X.A (.compStart (.ListComp elt [⟨tg,iter,ifs,0⟩] scope pos) 0 (.ref it) acc {cenv with scope:=relabel scope X.env}) (RR acc cenv.locals) s₄) E s₃) E s2:=by
 refine jai (vM O.one O.push ?_);have hDn:z s2.heap.objs.size=none:=I2.fresh;have I3:Inv X pins σ (upd z s2.heap.objs.size (.lst [])) {s2 with heap:=s2.heap.push {cls:= .type "list",data:= .seq ([]:List Value).toArray},toks:=s2.toks}:=I2.lnew (its:=[]) .nil (jar _);generalize hD:s2.heap.objs.size=D at*;dsimp only;generalize Pb:s2.heap.push {cls:= .type "list",dict:=none,data:= .seq ([]:List Value).toArray}=q at*;have RZ:∀b o,s2.heap.get? b=some o->q.get? b=some o:=λb o e=>by rw [<-Pb];exact Qi _ e
 have RN:q.objs.size=D+1:=by rw [<-Pb,QV,hD]
 have MP₁:((q.push {cls:= .type "dict",dict:=none,data:= .dict #[],slots:=#[]}).push {cls:= .type "cell",dict:=none,data:= .cell none,slots:=#[]}).Ns q.objs.size (λ_=>none):=(Heap.Ns.new q (.type "dict")).keeps λb o e=>Qi _ e
 have MF₁:((q.push {cls:= .type "dict",dict:=none,data:= .dict #[],slots:=#[]}).push {cls:= .type "cell",dict:=none,data:= .cell none,slots:=#[]}).IsCell (q.objs.size+1) none:=⟨_,by
  have:=Qw (q.push {cls:= .type "dict",dict:=none,data:= .dict #[],slots:=#[]}) (o:={cls:= .type "cell",dict:=none,data:= .cell none,slots:=#[]}) rfl;rw [QV] at this
  exact this,rfl⟩
 have keep:∀b o,q.get? b=some o->((q.push {cls:= .type "dict",dict:=none,data:= .dict #[],slots:=#[]}).push {cls:= .type "cell",dict:=none,data:= .cell none,slots:=#[]}).get? b=some o:=λb o e=>Qi _ (Qi _ e);generalize (q.push {cls:= .type "dict",dict:=none,data:= .dict #[],slots:=#[]}).push {cls:= .type "cell",dict:=none,data:= .cell none,slots:=#[]}=h₁ at*
 have flt:∀b∈I,b<D:=λb t=>by
  obtain ⟨o,ho,_⟩:=T.obj _ _ Mf b t;rw [<-hD];exact Qr ho
 have f3:∀b∈I,se X pins (upd z D (.lst [])) b:=λb t=>⟨by rw [yh (QN (flt b t))];exact (f2 b t).1,(f2 b t).2⟩;have IY:=rE (tk:=s2.toks) O I3 f3 (λb t=>by show b<q.objs.size;rw [RN];exact Tx (flt b t)) MP₁ MF₁ keep;obtain ⟨W,⟨m0,w0⟩,turn⟩:=hW _ hDn q.objs.size I {s2 with heap:=q,toks:=s2.toks} (upd z D (.lst []));have OQ:tn 0 h₁:=T.keep _ _ _ Mf λb t o e=>keep b o (RZ b o e);generalize G:Xi X N scope y q.objs.size I {s2 with heap:=q,toks:=s2.toks} (upd z D (.lst []))=Y at*;have P:Y.env=compEnvC scope ((y,q.objs.size+1)::yX X.env.cells scope.names []) q.objs.size X.env:=by rw [<-G];rfl
 have Pl:=hg q.objs.size I {s2 with heap:=q,toks:=s2.toks} (upd z D (.lst []));have Pa:=ht q.objs.size I {s2 with heap:=q,toks:=s2.toks} (upd z D (.lst []));have Po:=he q.objs.size I {s2 with heap:=q,toks:=s2.toks} (upd z D (.lst []));rw [G] at Pl Pa Po;have eP:Y.prog=X.prog:=by rw [<-G];rfl
 have Z:Y.w=X.w:=by rw [<-G];rfl
 have eK:Y.K=X.K:=by rw [<-G];rfl
 have eA:Y.A=X.A:=by rw [<-G];rfl
 have eC:Y.calm=true:=by rw [<-G];exact hc
 have eX:Y.xe=λ_ _=>False:=by rw [<-G];rfl
 have fY:∀{H':Hp},(∀b∈I,H' b=none)->∀b∈I,se Y [] H' b:=λ{H'} hn b t=>by
  have h1:=IY.ok.exf b (by rw [<-G];exact t);refine ⟨hn b t,h1.1,IY.ok.exfs b (by rw [<-G];exact t), .inl (by rw [<-G];exact t),h1.2,λp hp=>absurd hp (by rw [<-G];simp [Xi])⟩
 have loop:codeAny (model X.prog X.w) X.A (.compLoop (.ListComp elt [⟨tg,iter,ifs,0⟩] scope pos) 0 (.ref it) (.ref D) (compEnvC scope ((y,q.objs.size+1)::yX X.env.cells scope.names []) q.objs.size X.env))
  (RR (.ref D) q.objs.size) {s2 with heap:=h₁,toks:=s2.toks}:=by
  refine codeAny_loop rfl (λk s'=>∃i ys H',Inv Y [] (List.replicate n none++frσ σ fr) H' s'/\tn i s'.heap/\(∀b∈I,H' b=none)/\W i k ys H') (λk s5 hI=>?_) m0 ⟨0,[],_,IY,OQ,λb t=>(f3 b t).1,w0⟩;obtain ⟨i,ys,U,I5,Nn,Om,w5⟩:=hI;show wpAny _ X.A ((compTurn (.ListComp elt [⟨tg,iter,ifs,0⟩] scope pos) 0 (.ref it) (.ref D) _).onRaise (λx=>do noteFrame x _;theTreesLotGoes x)) _ _ s5;refine wpAny_noted ?_;rw [compTurn_list,<-P];refine Qg (wpAny_standAt (Qg ?_));obtain ⟨Rx,step⟩:=turn i k ys U w5
  rcases step with ⟨stop,qn⟩|⟨go,step⟩
  ·have d:=T.done Y eP Z eK eC i [] s5 _ U (λ_ _=>False) I5 (fY Om) Nn stop;rw [eA] at d;refine yS (thn d λr s6 L=>?_);obtain ⟨hr,I6⟩:=L;subst hr;refine Qq ?_;have hC:U q.objs.size=none:=by have:=I6.free;rw [P] at this;exact this
   have Of:∃m,s6.heap.Ns q.objs.size m:=by
    have:=I6.loc;rw [P] at this;obtain ⟨m,hm,_⟩:=this;exact ⟨m,hm⟩
   have sd:Side X pins U q.objs.size:=⟨hC,jaI I3.lt,I3.sz,λx c e=>QN (let ⟨v,o,ho,_⟩:=I3.cell x c e;Qr ho),λp hp=>QN (Qr (I3.pin p hp).1)⟩;refine hR D q.objs.size U s6 qn Of sd ?_;have un:=I6.base;have e0:Y.s₀.heap=q:=by rw [<-G];rfl
   have eH0:Y.H₀=upd z D (.lst []):=by rw [<-G];rfl
   have eF:Y.fs=frs X.stack:=by rw [<-G];rfl
   have eEx:Y.ex=I:=by rw [<-G];rfl
   rw [e0,eH0,eF,eEx] at un;have MW:HOk X.prog X.w U s6.heap:=by have:=I6.hok;rw [eP,Z] at this;exact this
   have RV:s6.os=s2.os:=I6.os.trans (by rw [<-G];rfl);exact I3.call' (s':=s6) (ch:=I) RV un MW I6.bare λb t=>⟨(f2 b t).2.2.2.1,(f2 b t).2.1,(f2 b t).2.2.2.2.1,(f2 b t).2.2.2.2.2⟩
  ·have d:=T.item Y eP Z eK eC i [] s5 _ U (λ_ _=>False) I5 (fY Om) Nn go;rw [eA] at d;refine yS (thn d λr s6 L=>?_);obtain ⟨u,hr,h6⟩:=L;subst hr;refine Qg (yS (thn h6 λ_ s7 L=>?_));obtain ⟨x,H7,I7,r7,y7,NU,fr7⟩:=L;have I7':=I7.pinned (fY fr7) (T.obj _ _ NU);have g7:=Pl _ s7 _ H7 x u _ I7' r7 (step x H7 y7);rw [eA,eP,Z,eX] at g7;refine Qg (yS (thn g7 λ_ s8 L=>?_));obtain ⟨σ8,H8,I8,ed,q8⟩:=L;have t8:=Pa _ s8 σ8 H8 _ I8 q8;rw [eA,eP,Z,eX] at t8;refine Qg (yS (thn t8 λb s9 L=>?_));obtain ⟨H9,I9,q9⟩:=L
   have back:∀{s':Shared} {H':Hp} {NS:List V} {M:Nat},Inv Y ([]++jk I s7.heap) σ8 H' s'->M<k->W (i+1) M NS H'->∃m,m<k/\∃i ys H',Inv Y [] (List.replicate n none++frσ σ fr) H' s'/\tn i s'.heap/\(∀b∈I,H' b=none)/\W i m ys H':=λ{s' H' NS M} I' hm w'=>by
    refine ⟨M,hm,i+1,NS,H',?_,T.keep _ _ _ NU λb t o e=>(I'.pin (b,o) (QI _ (QI _ (Yl t e)))).1,λb t=>?_,w'⟩
    ·refine (Inv.unpinned I').weak ?_ λj v hj=>?_
     ·exact IY.len.trans I'.len.symm
     ·by_cases Oh:j<n
      ·rw [jaA ‹Oh›,QX,QH Oh] at hj;cases hj
      ·rw [TQ ‹Oh›,QE,<-ed,jay,show n+(j - n)=j by omega] at hj;exact hj
    ·obtain ⟨o,e,d⟩:=T.obj _ _ NU b t;exact (I'.pin (b,o) (QI _ (QI _ (Yl t e)))).2.1
   cases b with
   |false=>
    obtain ⟨M,hm,w9⟩:=q9;exact Qq ⟨rfl,back I9 hm w9⟩
   |true=>
    have e9:=Po _ s9 σ8 H9 _ I9 q9;rw [eA,eP,Z,eX] at e9;refine Qg (Qg (yS (thn e9 λv RP L=>?_)));obtain ⟨y,Nh,I10,RQ,Ol,hz,M,hm,OP⟩:=L;have PM:=om _ RP σ8 Nh (.ref D) [y] (.ref D) [v] (λ_ H'=>H'=upd Nh D (.lst (ys++[y]))) I10 rfl (.cons RQ .nil) ⟨D,ys,y,rfl,rfl,Ol,hz,rfl⟩;rw [eA,eP,Z,eX] at PM;refine Qg (yS (thn PM λ_ s11 L=>?_));obtain ⟨_,Ov,I11,_,NM⟩:=L;subst NM;exact Qq (Qq ⟨rfl,back I11 hm OP⟩)
 exact codeAny_compStart_list loop (T.self _ _ _ _ _ OQ loop)
def Fi {t iter elt:Expr} {ifs:List Expr} {pos:Pos} {u:TI} {g:Blk TG} {tt:Blk TT} {z:Blk TE}
 (U:X.calm=true) (O:CompOk1 X N n fr scope y) (M:PI X t iter u)
 (P:∀C ex s H,PG (Xi X N scope y C ex s H) t (g C ex s H)) (ht:∀C ex s H,PIf (Xi X N scope y C ex s H) ifs (tt C ex s H)) (he:∀C ex s H,PE (Xi X N scope y C ex s H) elt (z C ex s H))
 (L:∀x,foldedSetIterable iter X.env x=pure x:=by intro _;rfl):
 PE X (.ListComp elt [⟨t,iter,ifs,0⟩] scope pos) (uP n fr u g tt z):=by
 intro pins s σ H Q I h;rw [eval_ListComp];refine jbN (use:=none) rfl L (Wf (O.cells I)) O.kind (λy K=>Qz (TU.mp O.loc y K)) (thn (M pins s σ H _ I h) λv s1 h1=>thn h1 λG s2 h2=>?_);obtain ⟨it,fp,tn,J,H2,e,I2,T,Mf,f2,Z⟩:=h2;subst e;refine Dt (RR:=λacc C=>compPost (model X.prog X.w) X.A X.xe none (EP X pins σ Q) acc C) U O P ht he I2 T Mf f2 Z ?_;intro D C H' s' q ⟨m,hm⟩ r inv;exact ⟨m,hm,λh' ND=>⟨.ref D,H',inv.turned (t':=s'.toks) (it:=C) (λb o Y e=>ND.extBut b o Y e) r.nt r.nl (.inr r.ab) r.nc r.np,rfl,q⟩⟩
end
end S
namespace S
open PySem PySem.Spec PyProof.Rows PyProof L2
section
variable {X:Cx}
def fN (l:Addr) (items:Array Value) (n:Nat) (b:Addr) (q:Obj) (m:Array Value) (u:Nat) (t:q.cls= .type "tuple") (hd2:q.data= .seq m u) (y:¬(!items.isEmpty && Builtin.List.listTooLong (items.size+m.size))=true) (D:items.size<=sizeLine) (G:items.size+m.size<=sizeLine+1):
 Meets (Builtin.«list.extend» ⟨[.ref l, .ref b],[]⟩) (λ_ R s=>s.heap.get? l=some {cls:= .type "list",dict:=none,data:= .seq items n,slots:=#[]}/\s.heap.get? b=some q/\R (.ok (.ret Value.none)) {s with heap:=s.heap.update l (Obj.mapSeq λx=>x++m),toks:=s.toks}):=
 .of_wp λprog w A R s h=>by
  obtain ⟨cls,dict,data,slots⟩:=q;dsimp only at t hd2;subst t;subst hd2;have g1:=AutoSeq1.idx_int;have g2:=AutoSeq1.sub_tuple_tuple;have g3:=AutoSeq1.sub_list_list;have J:=AutoSeq1.sub_tuple_list;have I:=AutoSeq1.sub_list_tuple;obtain ⟨hp,g,d,tk,os⟩:=s;obtain ⟨r,z,C⟩:=h;have fits:(items++m).size<=sizeLine+1:=by simpa using G
  wp_walk using (wpAny_updateSeq r rfl (hz:=D) (_hz':=fits)),AutoSeq1.wpAny_loadPart' r,AutoSeq1.wpAny_loadPart' z
  exact ⟨_,rfl,C⟩
def sY (K:Frg):V->List V->Hp->VK->Prop:=λx vs H Q=>∃l b xs zs,x= .ref l/\vs=[.ref b]/\H l=some (.lst xs)/\H b=some (.tup zs)/\xs.length+zs.length<=sizeLine/\Q .non (upd H l (.lst (xs++zs)))
def Kl:MtM X "list.extend" (sY X.K):=by
 intro pins s σ H x vs v us Q I rx rv h;obtain ⟨l,b,xs,zs,rfl,rfl,w,D,hz,q⟩:=h;cases rx;obtain ⟨u,G,ru⟩:=rv.one;subst G;cases ru;obtain ⟨z,its,n,r,t,e⟩:=I.lstM w;obtain ⟨g,m,ht,C⟩:=I.tuple (SqT.of D);have M:=m.length;obtain ⟨y,J,L,A,hd2⟩:=ht
 have room:its.toArray.size+g.toArray.size<=sizeLine:=by
  rw [QJ,QJ,<-t,<-M];exact hz
 have ok:¬(!its.toArray.isEmpty && Builtin.List.listTooLong (its.toArray.size+g.toArray.size))=true:=by
  rw [lB room,Bool.and_false];decide
 refine call_meets F.slot_list_extend ⟨_,e,rfl⟩ F.entry_list_extend (F.args_list_extend_2 _ _) (fN l its.toArray n b y g.toArray A L hd2 ok (by rw [QJ,<-t];exact z) ⋯) ⟨e,J, .non,_,I.lset (its':=its++g) w e (by simp) (r.append m) ?_,rfl,q⟩
 simpa using hz
end
section
variable {B G0 H:Hp} {cs:yp} {ds:Dat} {Q:VK} {v w:V} {xs zs:List PyData} {K:Frg} {L M:Addr}
def vo (S:Sta B G0 H ((L,xs)::cs) ds) (g:Has ds (.tuple ys) w) (hz:xs.length+ys.length<=1000) (k:∀H',Sta B G0 H' ((L,xs++ys)::cs) ds->Q .non H'):sY K (.ref L) [w] H Q:=by
 obtain ⟨p,us,e,hp,r,t,al⟩:=S.tupAll g;obtain ⟨vs,s,u,put⟩:=t.put;subst e;refine ⟨L,p,vs,us,rfl,rfl,s,hp,?_,k _ ((put (xs++ys) (vs++us) λG a b=>b.app (al G a)).weak (jbp _) λq m=> .mem (QI _ m))⟩;rw [<-r,<-u];exact QW hz (jcd rfl)
end
end S
namespace S
open PySem PySem.Spec PyProof.Rows L2
theorem lW:∀{M:List Rat} {z:Rat},M[0]? =some z->z<=E->∃(i:Nat) (q:Rat),M[i]? =some q/\q<=E/\(i+1=M.length\/∃r,M[i+1]? =some r/\E<r)
 |[],z,h,_=>by simp at h
 |[a],z,h,hz=>by
  cases h;exact ⟨0,a,rfl,hz, .inl rfl⟩
 |a::b::M,z,h,hz=>by
  cases h
  by_cases m:b<=E
  ·obtain ⟨i,q,u,t,g⟩:=lW (M:=b::M) (z:=b) rfl m;refine ⟨i+1,q,by simpa using u,t,?_⟩
   rcases g with g|⟨r,g,s⟩
   ·left;simp only [Qy] at g⊢;omega
   ·right;exact ⟨r,by simpa using g,s⟩
  ·exact ⟨0,a,rfl,hz, .inr ⟨b,rfl,jat.mp m⟩⟩
def uZ (h:Uk M) (hz:z∈M) (hle:∀e∈M,z<=e):M[0]? =some z:=by
 cases M with
 |nil=>simp at hz
 |cons a M=>
  have g:=hle a (Qe ..)
  rcases Qn.mp hz with e|e
  ·rw [e];rfl
  ·have:=(Qo.mp h).1 z e
   grind
def nJ (h:Uk M) (hz:z∈M) (hle:∀e∈M,e<=z)  (g:M[i]? =some q) (t:i+1=M.length):q=z:=by
 obtain ⟨j,s,m⟩:=QS hz;obtain ⟨li,r⟩:=Qd.mp g;have u:=hle q (Qc g)
 by_cases c:j=i
 ·subst c;rw [<-r,<-m]
 ·have:=QO.mp h j i s li ⋯;rw [m,r] at this
  grind
def Uj (r:c.1<d.1) (u:c.2.length=d.2.length) (t:c.2.length=w.length) (h:vX c.2 d.2 w (E - c.1) (d.1 - c.1)):XS c d E=w:=by
 apply Tn
 intro i
 by_cases s:i<c.2.length
 ·have q:=Qb s;have m:=Qb (l:=d.2) (i:=i) ⋯;have g:=Qb (l:=w) (i:=i) ⋯;have:=h i _ _ _ q m g;unfold XS;rw [Qt,q,m,g];show some (xY _ _ _)=_;have l:=xf (x:=c.2[i]) (y:=d.2[i]) (E:=E) r;have k:=zW (a:=xY ((E - c.1) / (d.1 - c.1)) c.2[i] d.2[i] - w[i]) (b:=d.1 - c.1) (by grind) (xS r);have:xY ((E - c.1) / (d.1 - c.1)) c.2[i] d.2[i]=w[i]:=by grind
  rw [this]
 ·unfold XS;rw [QD (by rw [QC];omega),QD ⋯]
def CN:List zh->Nat
 |[]=>0
 |c::_=>c.2.length
def nQ:List (List zh)->Nat
 |[]=>0
 |Q::Qs=>CN Q+nQ Qs
theorem gm:∀{Qs:List (List zh)},(∀Q∈Qs,∃(m:Nat) (r:List zh),Q=((0:Rat),List.replicate m 0)::r/\PathM m Q)->yQ Qs (List.replicate Qs.length 0)=List.replicate (nQ Qs) 0
 |[],_=>rfl
 |Q::Qs,h=>by
  obtain ⟨m,r,e,pm⟩:=h Q (Qe ..);rw [Qy,TH,xw,gm λq g=>h q (Qf _ g),nQ,<-List.replicate_append_replicate]
  congr 1
  subst e;have:=ZI pm.t;dsimp only at this;rw [this,CN,QE]
structure PathR0 (n:Nat) (a:List zh):Prop where
 ne:a≠[]
 sz:∀c∈a,SzC n c
 len:∀c∈a,c.2.length<=1000
 few:a.length<=900
 rise:yr a
section
variable {P:List zh} {Qs:List (List zh)}
def Nest.zeroM (h:Nest P Qs):(wpV P Qs)[0]? =some 0:=by
 refine uZ h.rise (h.mem.mpr (.inl ?_)) λe he=>(h.in_range he).1;obtain ⟨r,g⟩:=h.p0;rw [g];exact ⟨_,Qe ..,rfl⟩
def Nest.last_mem (h:Nest P Qs):(lastC P).1∈wpV P Qs:=by
 refine h.mem.mpr (.inl ⟨lastC P,?_,rfl⟩);have pm:=h.pm;obtain ⟨r,g⟩:=h.p0;rw [g] at pm⊢;exact (UM pm.t).1
def Nest.flen (h:Nest P Qs) (e:Rat):(yQ Qs (zg P e)).length=nQ Qs:=by
 rw [tJ (h.plen e) (pv:=List.replicate Qs.length 0) QE h.wid,gm λQ s=>?_,QE];obtain ⟨k,g⟩:=Qx.mp s;obtain ⟨m,r,e,pm,_⟩:=h.q k Q g;exact ⟨m,r,e,pm⟩
def Nest.flat0 (h:Nest P Qs):yQ Qs (zg P 0)=List.replicate (nQ Qs) 0:=by
 have e0:zg P 0=List.replicate Qs.length 0:=by
  have pm:=h.pm;obtain ⟨r,u⟩:=h.p0;rw [u] at pm⊢;exact ZI pm.t
 rw [e0,gm λQ s=>?_];obtain ⟨k,g⟩:=Qx.mp s;obtain ⟨m,r,e,pm,_⟩:=h.q k Q g;exact ⟨m,r,e,pm⟩
def Nest.F_at {i:Nat} {c:zh} (g:(yt P Qs)[i]? =some c):(wpV P Qs)[i]? =some c.1/\c.2=yQ Qs (zg P c.1):=by
 unfold yt at g;obtain ⟨e,he,rfl⟩:=zL g;exact ⟨he,rfl⟩
def Nest.F_of {i:Nat} {e:Rat} (he:(wpV P Qs)[i]? =some e):(yt P Qs)[i]? =some (e,yQ Qs (zg P e)):=by
 unfold yt;rw [Qh,he];rfl
def Nest.riseF (h:Nest P Qs):yr (yt P Qs):=by
 unfold yr yt;rw [Tt];exact h.rise
def Nest.at (h:Nest P Qs) {E:Rat} (h0:0<=E) (t:E<=(lastC P).1):zg (yt P Qs) E=yQ Qs (zg P E):=by
 obtain ⟨i,q,m,g,nx⟩:=lW h.zeroM h0;have hlen:(yt P Qs).length=(wpV P Qs).length:=by unfold yt;rw [Qa]
 have key:=Zm (E:=E) h.riseF (Nest.F_of m) g (by
  rcases nx with nx|⟨r,hr,s⟩
  ·left;rw [hlen];exact nx
  ·right;exact ⟨_,Nest.F_of hr,s⟩)
 rw [key]
 rcases nx with nx|⟨r,hr,s⟩
 ·rw [QD (by rw [hlen];omega)];have u:=nJ h.rise h.last_mem (λe he=>(h.in_range he).2) m nx;have:q=E:=by grind
  rw [this]
 ·rw [Nest.F_of hr];exact Uj (eZ h.rise m hr) (by rw [h.flen,h.flen]) (by rw [h.flen,h.flen]) (h.line m hr g (QF s))
def Nest.getLast (h:Nest P Qs):(yt P Qs).getLast? =some ((lastC P).1,yQ Qs (zg P (lastC P).1)):=by
 have ne:0<(wpV P Qs).length:=jbg h.last_mem;have hlen:(yt P Qs).length=(wpV P Qs).length:=by unfold yt;rw [Qa]
 rw [jaB,hlen];have g:=Qb (l:=wpV P Qs) (i:=(wpV P Qs).length - 1) ⋯;rw [Nest.F_of g,nJ h.rise h.last_mem (λe he=>(h.in_range he).2) g ⋯]
def SzQ.port (r:SzQ m L) (g:SzQ n x) (q:SzQ n y):SzQ (m+3*n+2) ((L - x) / (y - x)):=((r.sub g).div (q.sub g)).mono ⋯
end
def jW (G:b.1<c.1) (r:b.2.length=m) (lc:c.2.length=m) (w:zR b p c) (u:zR a b c):zR a b p:=λi A B P t g s=>by
 have I:i<m:=by rw [<-r];exact (Qd.mp g).1
 have q:=Qb (l:=c.2) (i:=i) ⋯;have D:=w i B P _ g s q;have J:=u i A B _ t g q;generalize c.2[i]=C at*;have z:(B - A)*(c.1 - b.1)=(C - B)*(b.1 - a.1):=by grind
 have y:((B - A)*(p.1 - a.1) - (P - A)*(b.1 - a.1))*(c.1 - b.1)=0:=by
  have:((B - A)*(p.1 - a.1) - (P - A)*(b.1 - a.1))*(c.1 - b.1)=((B - A)*(c.1 - b.1))*(p.1 - b.1) - ((P - B)*(c.1 - b.1))*(b.1 - a.1):=by grind
  rw [this,z,D];grind
 have:=zW y (xS G)
 grind
def Thn (F:List zh):Prop:=∀(i:Nat) (x y z:zh),F[i]? =some x->F[i+1]? =some y->F[i+2]? =some z->¬zR x y z
section
variable {C F G D:List zh} {c x y:zh} {m:Nat}
end
def cj (G:a.1<b.1) (s:k.2.length=m) (I:a.2.length=m) (w:zR k a b) (u:zR a b c):zR k b c:=λi K B C g q t=>by
 have J:i<m:=by rw [<-s];exact (Qd.mp g).1
 have r:=Qb (l:=a.2) (i:=i) ⋯;have M:=w i K _ B g r q;have L:=u i _ B C r q t;generalize a.2[i]=A at*;have D:(B - K)*(b.1 - a.1)=(B - A)*(b.1 - k.1):=by grind
 have z:(C - K)*(b.1 - a.1)=(B - A)*(c.1 - k.1):=by grind
 have y:((B - K)*(c.1 - k.1) - (C - K)*(b.1 - k.1))*(b.1 - a.1)=0:=by
  have:((B - K)*(c.1 - k.1) - (C - K)*(b.1 - k.1))*(b.1 - a.1)=((B - K)*(b.1 - a.1))*(c.1 - k.1) - ((C - K)*(b.1 - a.1))*(b.1 - k.1):=by grind
  rw [this,D,z];grind
 have:=zW y (xS G)
 grind
def dA (lc:c.2.length=m) (ld:d.2.length=m):(XS c d e).length=m:=by
 unfold XS;rw [QC,lc,ld];exact TM _
def qG (I:a.1<b.1) (D:b.1<c.1) (t:a.2.length=m) (K:b.2.length=m) (lc:c.2.length=m) (st:zR a b c) (U:a.1<=e):zg (a::b::c::r) e=zg (a::c::r) e:=by
 have u:=xl I D
 by_cases G:e<b.1
 ·rw [zg,QH G,zg,QH (xl G D)];refine (Uj u (by rw [t,lc]) (by rw [t,dA t K]) λi p q z hp A hz=>?_).symm;obtain ⟨T,g,L,J,ez⟩:=YT hz;rw [hp] at L;cases L;have w:=xf (x:=p) (y:=g) (E:=e) I;rw [<-ez] at w;have s:=st i p g q hp J A
  have:((z - p)*(c.1 - a.1) - (q - p)*(e - a.1))*(b.1 - a.1)=0:=by
   have:((z - p)*(c.1 - a.1) - (q - p)*(e - a.1))*(b.1 - a.1)=((z - p)*(b.1 - a.1))*(c.1 - a.1) - ((q - p)*(b.1 - a.1))*(e - a.1):=by grind
   rw [this,w,<-s];grind
  have:=zW this (xS I)
  grind
 ·rw [zX (Tp.mp G)]
  by_cases C:e<c.1
  ·rw [zg,QH C,zg,QH C];refine (Uj u (by rw [t,lc]) (by rw [t,dA K lc]) λi p q z hp A hz=>?_).symm;obtain ⟨g,P,J,M,ez⟩:=YT hz;rw [A] at M;cases M;have w:=xf (x:=g) (y:=q) (E:=e) D;rw [<-ez] at w;have s:=st i p g q hp J A;have s1:(g - p)*(c.1 - b.1)=(q - g)*(b.1 - a.1):=by grind
   have:((z - p)*(c.1 - a.1) - (q - p)*(e - a.1))*(c.1 - b.1)=0:=by
    have O:(z - p)*(c.1 - b.1)=(e - b.1)*(q - g)+(g - p)*(c.1 - b.1):=by grind
    have N:((z - p)*(c.1 - a.1) - (q - p)*(e - a.1))*(c.1 - b.1)=((z - p)*(c.1 - b.1))*(c.1 - a.1) - (q - p)*(e - a.1)*(c.1 - b.1):=by grind
    rw [N,O,s1]
    grind
   have:=zW this (xS D)
   grind
  ·rw [zX (Tp.mp C),zX (Tp.mp C)]
theorem bo:∀(r:List zh) (k a b:zh),yr (k::b::r)->(∀x∈k::b::r,x.2.length=m)->k.1<=e->(a=k\/(k.1<a.1/\a.1<b.1/\a.2.length=m/\zR k a b))->
 zg (k::yg a (b::r)) e=zg (k::b::r) e
 |[],k,a,b,_,_,_,_=>by rw [yg]
 |c::r,k,a,b,hr,hl,hk,ha=>by
  obtain ⟨w,u⟩:=Qo.mp hr;obtain ⟨G,D⟩:=Qo.mp u;have y:=w b (Qe ..);have z:=G c (Qe ..);have s:=hl k (Qe ..);have t:=hl b (Qf _ (Qe ..));have lc:=hl c (Qf _ (Qf _ (Qe ..)));rw [yg]
  split
  ·rename_i st
   have A:zR k b c:=by
    rcases ha with rfl|⟨_,I,C,s0⟩
    ·exact st
    ·exact cj I s C s0 st
   have rk:yr (k::c::r):=Qo.mpr ⟨λx g=>w x (Qf _ g),D⟩
   rw [bo r k b c rk (λx g=>hl x (by
    rcases Qn.mp g with rfl|g
    ·exact Qe ..
    ·exact Qf _ (Qf _ g))) hk (.inr ⟨y,z,t,A⟩),qG y z s t lc A hk]
  ·by_cases q:e<b.1
   ·rw [zg,QH q,zg,QH q]
   ·rw [zX (Tp.mp q),zX (Tp.mp q)];exact bo r b b c u (λx g=>hl x (Qf _ g)) (Tp.mp q) (.inl rfl)
def lO (hr:yr (c::r)) (g:∀x∈c::r,x.2.length=m) (q:c.1<=e):zg (yo (c::r)) e=zg (c::r) e:=by
 rw [yo]
 cases r with
 |nil=>rw [yg]
 |cons b r=>exact bo r c c b hr g q (.inl rfl)
theorem WJ:∀{c:zh} {r:List zh},c.1<=e->e<(lastC (c::r)).1->zg (c::r++M) e=zg (c::r) e
 |c,[],hc,he=>absurd he (Tp.mpr hc)
 |c,d::r,hc,he=>by
  rw [Tv,Tv,zg,zg]
  by_cases h:e<d.1
  ·rw [QH h,QH h]
  ·rw [QP h,QP h];rw [ZJ] at he;exact WJ (c:=d) (r:=r) (Tp.mp h) he
theorem ZW:∀{c:zh} {r:List zh},yr (c::r)->(lastC (c::r)).1<=e->zg (c::r++M) e=zg (lastC (c::r)::M) e
 |c,[],_,_=>rfl
 |c,d::r,hr,he=>by
  have g:=(Qo.mp hr).2;rw [ZJ] at he⊢
  have hd:d.1<=e:=by
   refine TY ?_ he
   have m:lastC (d::r)∈d::r:=by
    unfold lastC;rw [To (by simp)];exact List.getLast_mem _
   rcases Qn.mp m with z|z
   ·rw [z];exact QR
   ·exact QF ((Qo.mp g).1 _ z)
  rw [Tv,Tv,zX hd];exact ZW g he
def DA (lc:c.2.length=m) (g:q.2.length=m) (ld:d.2.length=m):XS (Vy c q) (Vy c d) e=List.zipWith (·+·) c.2 (XS q d (e - c.1)):=by
 have et:(e - (Vy c q).1) / ((Vy c d).1 - (Vy c q).1)=(e - c.1 - q.1) / (d.1 - q.1):=by
  show (e - (c.1+q.1)) / ((c.1+d.1) - (c.1+q.1))=_;rw [show e - (c.1+q.1)=e - c.1 - q.1 by grind,show c.1+d.1 - (c.1+q.1)=d.1 - q.1 by grind]
 unfold XS;rw [et];generalize (e - c.1 - q.1) / (d.1 - q.1)=t;show List.zipWith (xY t) (List.zipWith (·+·) c.2 q.2) (List.zipWith (·+·) c.2 d.2)=_
 apply TC
 ·simp only [QC];omega
 ·intro i s r;simp only [Tb];unfold xY
  grind
theorem ft (lc:c.2.length=m):∀{q:zh} {r:List zh},(∀x∈q::r,x.2.length=m)->zg ((q::r).map (Vy c)) e=List.zipWith (·+·) c.2 (zg (q::r) (e - c.1))
 |q,[],_=>rfl
 |q,d::r,h=>by
  rw [Ql,Ql,zg,zg]
  have hd:e<(Vy c d).1↔e - c.1<d.1:=by
   show e<c.1+d.1↔_
   constructor<;>intro h<;>grind
  by_cases g:e - c.1<d.1
  ·rw [QH g,QH (hd.mpr g)];exact DA lc (h q (Qe ..)) (h d (Qf _ (Qe ..)))
  ·rw [QP g,QP λz=>g (hd.mp z)];have:=ft (e:=e) lc (q:=d) (r:=r) λx s=>h x (Qf _ s);rw [Ql] at this;exact this
def Di {a b p:Rat} (hp:0<p):a<b*p↔a / p<b:=by
 have m:p≠0:=λz=>by rw [z] at hp;exact jaX hp
 have g:a=a / p*p:=by rw [jah,Rat.mul_assoc,Rat.inv_mul_cancel _ m,Rat.mul_one]
 constructor
 ·intro h;refine jat.mp λhle=>?_;have:=Rat.mul_le_mul_of_nonneg_right hle (QF hp);rw [<-g] at this;exact Tp.mpr this h
 ·intro h;have:=Rat.mul_lt_mul_of_pos_right h hp;rwa [<-g] at this
theorem WI {p e:Rat} (hp:0<p):∀{a:List zh},zg (zU p a) e=(zg a (e / p)).map (·*p)
 |[]=>rfl
 |[c]=>rfl
 |c::d::r=>by
  have g:=WI (e:=e) hp (a:=d::r);unfold zU at*;rw [Ql,Ql,zg,zg]
  by_cases h:e / p<d.1
  ·rw [QH h,QH ((Di hp).mpr h)];have m:p≠0:=λz=>by rw [z] at hp;exact jaX hp
   have et:(e - c.1*p) / (d.1*p - c.1*p)=(e / p - c.1) / (d.1 - c.1):=by
    have A:=TB p m
    have s:e - c.1*p=(e / p - c.1)*p:=by
     rw [jah];generalize p⁻¹=j at*;grind
    have q:d.1*p - c.1*p=(d.1 - c.1)*p:=by grind
    rw [s,q]
    by_cases z:d.1 - c.1=0
    ·rw [z,jbQ,jah,Rat.inv_zero,Rat.mul_zero,jah,Rat.inv_zero,Rat.mul_zero]
    ·have z2:(d.1 - c.1)*p≠0:=λh=>z (zW h m);have y:=TB _ z;have w:=TB _ z2;rw [jah,jah ((e / p - c.1))];generalize (d.1 - c.1)⁻¹=j at*;generalize ((d.1 - c.1)*p)⁻¹=l at*;generalize e / p - c.1=u at*;generalize d.1 - c.1=v at*;have:u*p*l=u*p*l*(v*j):=by rw [y,Rat.mul_one]
     rw [this];have:u*p*l*(v*j)=u*j*(v*p*l):=by grind
     rw [this,w,Rat.mul_one]
   unfold XS;dsimp only;rw [et];generalize (e / p - c.1) / (d.1 - c.1)=t
   apply TC
   ·simp
   ·intro i D C;simp only [Tb,jaK];unfold xY
    grind
  ·rw [QP h,QP λz=>h ((Di hp).mp z)];rw [Ql] at g;exact g
def mn (a l:Rat):Rat:=if a<=l then a else l
def Hx (a l:Int):((min a l:Int):Rat)=mn (a:Rat) (l:Rat):=by
 unfold mn
 by_cases h:a<=l
 ·rw [QH (Th.mpr h),Int.min_eq_left h]
 ·rw [QP λz=>h (Th.mp z),Int.min_eq_right ⋯]
def mn_mix (t0:0<=t) (t1:t<=1) (h:(a<=x/\a<=y)\/(x<=a/\y<=a)):xY t (mn a x) (mn a y)=mn a (xY t x y):=by
 rcases h with ⟨q,g⟩|⟨q,g⟩
 ·have w:mn a x=a:=by unfold mn;rw [QH q]
  have u:mn a y=a:=by unfold mn;rw [QH g]
  have r:a<=xY t x y:=by
   have a1:=QT t0 (show 0<=y - a by grind);have a2:=QT (show 0<=1 - t by grind) (show 0<=x - a by grind);unfold xY;grind
  have s:mn a (xY t x y)=a:=by unfold mn;rw [QH r]
  rw [w,u,s];unfold xY;grind
 ·have m:∀z,z<=a->mn a z=z:=λz hz=>by
   unfold mn
   split
   ·exact jaS (by assumption) hz
   ·rfl
  have r:xY t x y<=a:=by
   have a1:=QT t0 (show 0<=a - y by grind);have a2:=QT (show 0<=1 - t by grind) (show 0<=a - x by grind);unfold xY;grind
  rw [m x q,m y g,m _ r]
def vy {s d e:Rat} (h:s<d) (r:s<=e) (q:e<d):0<=(e - s) / (d - s)/\(e - s) / (d - s)<=1:=by
 have hp:0<d - s:=by grind
 have m:=TB _ (xS h);have g:0<(d - s)⁻¹:=Rat.inv_pos.mpr hp;rw [jah];have a1:=QT (show 0<=e - s by grind) (QF g);have a2:=QT (show 0<=d - e by grind) (QF g);generalize (d - s)⁻¹=j at*
 constructor
 ·exact a1
 ·grind
def AL {as ls:List Int} {G:Rat->Rat->Rat} {C:Int->zh} (w:∀l,(C l).2=as.map λ(a:Int)=>G (a:Rat) (l:Rat)) (rise:yr (ls.map C)) (nn:∀l∈ls,0<=l)
 (mix:∀(i:Nat) (l l':Int),ls[i]? =some l->ls[i+1]? =some l'->∀a∈as,∀t:Rat,0<=t->t<=1->xY t (G (a:Rat) (l:Rat)) (G (a:Rat) (l':Rat))=G (a:Rat) (xY t (l:Rat) (l':Rat)))
 {e:Rat} {s:Int} (h0:ls[0]? =some s) (he:(C s).1<=e):∃z:Rat,0<=z/\zg (ls.map C) e=as.map λ(a:Int)=>G (a:Rat) z:=by
 obtain ⟨i,q,y,D,nx⟩:=lW (M:=yb (ls.map C)) (z:=(C s).1) (by unfold yb;rw [Qm,Qh,h0];rfl) he;unfold yb at y nx;obtain ⟨c,u,rfl⟩:=zL y;obtain ⟨l,A,rfl⟩:=zL u;have g:(0:Rat)<=(l:Rat):=by exact_mod_cast Rat.intCast_nonneg.mpr (nn l (Qc A))
 have key:=Zm (E:=e) rise u D (by
  rcases nx with h|⟨r,hr,h⟩
  ·left;simpa using h
  ·obtain ⟨d,hd,rfl⟩:=zL hr
   exact .inr ⟨d,hd,h⟩)
 rcases nx with h|⟨r,hr,h⟩
 ·rw [QD (by simp only [Qa] at h⊢;omega)] at key;refine ⟨l,g,?_⟩;rw [key];exact w l
 ·obtain ⟨d,hd,rfl⟩:=zL hr;obtain ⟨l',I,rfl⟩:=zL hd;rw [hd] at key;have m:(0:Rat)<=(l':Rat):=by exact_mod_cast Rat.intCast_nonneg.mpr (nn l' (Qc I))
  have J:(C l).1<(C l').1:=by
   have:=eZ (M:=yb (ls.map C)) (Wd rise) (j:=i) (by unfold yb;rw [Qh,u];rfl) (by unfold yb;rw [Qh,hd];rfl);exact this
  obtain ⟨t0,t1⟩:=vy J D h;refine ⟨xY ((e - (C l).1) / ((C l').1 - (C l).1)) l l',?_,?_⟩
  ·have a1:=QT t0 m;have a2:=QT (show 0<=1 - (e - (C l).1) / ((C l').1 - (C l).1) by grind) g;unfold xY;grind
  ·rw [key];show XS (C l) (C l') e=_;unfold XS;generalize (e - (C l).1) / ((C l').1 - (C l).1)=t at*;rw [w,w]
   apply TC
   ·simp
   ·intro j L K;simp only [Tb,jaK];exact mix i l l' A I _ (Tf _) t t0 t1
theorem fq:∀{c:zh} {r:List zh},yr (c::r)->(∀x∈c::r,x.2.length=m/\zA x.2=x.1)->c.1<=e->e<=(lastC (c::r)).1->zA (zg (c::r) e)=e
 |c,[],_,h,hc,hl=>by
  have u:e=c.1:=jaS hl hc;rw [u];exact (h c (Qe ..)).2
 |c,d::r,hr,h,hc,hl=>by
  have s:=(Qo.mp hr).1 d (Qe ..);have q:=h c (Qe ..);have g:=h d (Qf _ (Qe ..))
  by_cases hd:d.1<=e
  ·rw [zX hd];exact fq (Qo.mp hr).2 (λx t=>h x (Qf _ t)) hd (by rw [<-ZJ c];exact hl)
  ·have w:e<d.1:=jat.mp hd;rw [zg,QH w];unfold XS;rw [jV _ _ _ (by rw [q.1,g.1]),q.2,g.2];have z:=xf (x:=c.1) (y:=d.1) (E:=e) s;have:=zW (a:=xY ((e - c.1) / (d.1 - c.1)) c.1 d.1 - e) (b:=d.1 - c.1) (by grind) (xS s)
   grind
def fv (hr:yr (c::r)) (he:(lastC (c::r)).1<=e):zg (c::r) e=(lastC (c::r)).2:=by
 have:=ZW (M:=[]) hr he;rw [jbc] at this;rw [this];rfl
noncomputable def ya (h:List Int):zh:=((h.sum:Int),h.map λ(x:Int)=>(x:Rat))
theorem Uo:∀h:List Int,zA (h.map λ(x:Int)=>(x:Rat))=((h.sum:Int):Rat)
 |[]=>rfl
 |x::h=>by rw [Ql,zA,Uo h,QL,Rat.intCast_add]
theorem ao {f g:Int->Int}:∀{as:List Int},(∀a∈as,f a<=g a)->(as.map f).sum<=(as.map g).sum
 |[],_=>jbD _
 |a::as,h=>by
  have q:=ao λx m=>h x (Qf _ m);have:=h a (Qe ..);rw [Ql,Ql,QL,QL];omega
theorem ak {f g:Int->Int}:∀{as:List Int} {b:Int},(∀a∈as,f a<=g a)->b∈as->f b<g b->(as.map f).sum<(as.map g).sum
 |[],b,_,m,_=>by simp at m
 |a::as,b,h,m,LC=>by
  rw [Ql,Ql,QL,QL];have ha:=h a (Qe ..)
  rcases Qn.mp m with rfl|m
  ·have:=ao λx q=>h x (Qf _ q);omega
  ·have:=ak (λx q=>h x (Qf _ q)) m LC;omega
structure LvOk (as ls:List Int):Prop where
 rise:ls.Pairwise (·<·)
 mem:∀k,k∈ls↔k=0\/k∈as
 nn:∀a∈as,0<=a
noncomputable def Wu (as:List Int) (l:Int):List Int:=as.map λa=>min a l
noncomputable def UP (as:List Int) (l:Int):List Int:=as.map λa=>a - min a l
noncomputable def evP (as ls:List Int):List zh:=ls.map λl=>ya (Wu as l)
noncomputable def loP (as ls:List Int):List zh:=ls.reverse.map λl=>ya (UP as l)
section
variable {as ls:List Int}
def LvOk.nnL (h:LvOk as ls):∀l∈ls,0<=l:=λl g=>by
 rcases (h.mem l).mp g with rfl|z
 ·exact jbD _
 ·exact h.nn l z
def LvOk.zero (h:LvOk as ls):ls[0]? =some 0:=by
 have m0:(0:Int)∈ls:=(h.mem 0).mpr (.inl rfl)
 cases ls with
 |nil=>simp at m0
 |cons a l=>
  have ha:=h.nnL a (Qe ..)
  rcases Qn.mp m0 with e|e
  ·rw [e];rfl
  ·have:=(Qo.mp h.rise).1 0 e;omega
def LvOk.gap (h:LvOk as ls)  (t:ls[i]? =some l) (w:ls[i+1]? =some l') (ha:a∈as):a<=l\/l'<=a:=by
 have m:=(h.mem a).mpr (.inr ha);obtain ⟨j,q,g⟩:=QS m;obtain ⟨li,r⟩:=Qd.mp t;obtain ⟨u,s⟩:=Qd.mp w;have P:=QO.mp h.rise
 rcases Nat.lt_or_ge j (i+1) with c|c
 ·left
  by_cases e:j=i
  ·subst e;rw [<-g,<-r];exact jbD _
  ·have:=P j i q li ⋯;rw [g,r] at this;omega
 ·right
  by_cases e:j=i+1
  ·subst e;rw [<-g,<-s];exact jbD _
  ·have:=P (i+1) j u q ⋯;rw [g,s] at this;omega
def LvOk.sumlt (h:LvOk as ls) {l l':Int} (g:l∈ls) (q:l'∈ls) (lt:l<l'):(Wu as l).sum<(Wu as l').sum:=by
 have m:l'∈as:=((h.mem l').mp q).resolve_left (by have:=h.nnL l g;omega);exact ak (λa _=>by omega) m ⋯
theorem tK:∀(as:List Int) (l:Int),(UP as l).sum=as.sum - (Wu as l).sum
 |[],_=>rfl
 |a::as,l=>by
  have:=tK as l;unfold UP Wu at*;rw [Ql,Ql,QL,QL,QL,this];omega
def LvOk.riseE (h:LvOk as ls):yr (evP as ls):=by
 unfold yr evP;rw [Tt];exact h.rise.imp_of_mem λ{a b} ha hb lt=>jbx.mpr (h.sumlt ha hb lt)
def LvOk.top (h:LvOk as ls):∃t,ls.getLast? =some t/\∀a∈as,a<=t:=by
 have ne:ls≠[]:=λe=>by have:=h.zero;rw [e] at this;simp at this
 refine ⟨_,To ne,λa ha=>?_⟩;have m:=(h.mem a).mpr (.inr ha);rw [<-jap ne] at m;have R:=h.rise;rw [<-jap ne] at R
 rcases QY.mp m with z|z
 ·exact jbr ((jac.mp R).2.2 a z _ (by simp))
 ·rw [Qv.mp z];exact jbD _
def Jo (h:∀a∈as,a<=t):Wu as t=as:=by
 unfold Wu
 conv=>rhs;rw [<-List.map_id as]
 exact QG λa ha=>by show min a t=a;have:=h a ha;omega
def tx (h:∀a∈as,0<=a):Wu as 0=Yc as.length:=by
 unfold Wu Yc;rw [<-jbd];exact QG λa ha=>by have:=h a ha;omega
def LvOk.evenly (h:LvOk as ls) {e:Rat} (h0:0<=e):∃z:Rat,0<=z/\zg (evP as ls) e=as.map λ(a:Int)=>mn (a:Rat) z:=by
 refine AL (G:=mn) (C:=λl=>ya (Wu as l)) (λl=>?_) h.riseE h.nnL (λi l l' g m a ha t t0 t1=>mn_mix t0 t1 ?_) h.zero ?_
 ·unfold ya Wu;rw [Qm];exact QG λa _=>Hx a l
 ·obtain ⟨li,q⟩:=Qd.mp g;obtain ⟨r,s⟩:=Qd.mp m;have lt:=QO.mp h.rise i (i+1) li r ⋯;rw [q,s] at lt
  rcases h.gap g m ha with z|z
  ·exact .inl ⟨Th.mpr z,Th.mpr ⋯⟩
  ·exact .inr ⟨Th.mpr ⋯,Th.mpr z⟩
 ·show ((Wu as 0).sum:Rat)<=e;rw [tx h.nn,mO];exact h0
end
section
variable {as ls:List Int}
def Dg (h:LvOk as ls):∃r,evP as ls=ya (Yc as.length)::r:=by
 have z:=h.zero
 cases ls with
 |nil=>simp at z
 |cons a l=>
  have:a=0:=by simpa using z
  subst this;exact ⟨_,by unfold evP;rw [Ql,tx h.nn]⟩
def tZ (h:LvOk as ls):lastC (evP as ls)=ya as:=by
 obtain ⟨t,ht,top⟩:=h.top;unfold lastC evP;rw [jaO,ht];show ya (Wu as t)=_;rw [Jo top]
def uM:∀(as:List Int) (l:Int),VO (ya as) (ya (Wu as l))=ya (UP as l):=λas l=>by
 unfold VO ya;refine Prod.ext ?_ ?_
 ·show ((as.sum:Int):Rat) - ((Wu as l).sum:Int)=((UP as l).sum:Int);rw [tK,jbe]
 ·show List.zipWith (· - ·) (as.map λ(x:Int)=>(x:Rat)) ((Wu as l).map λ(x:Int)=>(x:Rat))=(UP as l).map λ(x:Int)=>(x:Rat);unfold Wu UP
  apply TC
  ·simp
  ·intro i m g;simp only [Tb,jaK];rw [jbe]
def dJ (h:LvOk as ls):yu (evP as ls)=loP as ls:=by
 unfold yu;rw [tZ h];unfold evP loP;rw [<-List.map_reverse,Qm];exact QG λl _=>uM as l
def loP_ne (h:LvOk as ls):∃r,loP as ls=ya (Yc as.length)::r:=by
 obtain ⟨t,ht,top⟩:=h.top;have ne:ls≠[]:=λe=>by rw [e] at ht;simp at ht
 obtain ⟨g,m⟩:=List.getLast?_eq_some_iff.mp ht;refine ⟨g.reverse.map λl=>ya (UP as l),?_⟩;unfold loP;rw [m,List.reverse_append,List.reverse_singleton,List.singleton_append,Ql]
 congr 2
 unfold UP Yc;rw [<-jbd];exact QG λa ha=>by have:=top a ha;omega
def XT (h:List Int):(ya h).2.length=h.length/\zA (ya h).2=(ya h).1:=⟨Qa _,Uo h⟩
def tY (as ls:List Int):∀c∈evP as ls,c.2.length=as.length/\zA c.2=c.1:=λc g=>by
 obtain ⟨l,_,rfl⟩:=Qj.mp g;have:=XT (Wu as l);rwa [show (Wu as l).length=as.length by unfold Wu;rw [Qa]] at this
def Cu (as ls:List Int):∀c∈loP as ls,c.2.length=as.length/\zA c.2=c.1:=λc g=>by
 obtain ⟨l,_,rfl⟩:=Qj.mp g;have:=XT (UP as l);rwa [show (UP as l).length=as.length by unfold UP;rw [Qa]] at this
def Wj (m:Nat):ya (Yc m)=(0,List.replicate m 0):=by
 unfold ya;rw [mO];unfold Yc;rw [jbz];rfl
def sE (r:List zh) (q:P=(0,List.replicate m 0)::r) (rise:yr P) (ok:∀c∈P,c.2.length=m/\zA c.2=c.1) (h0:0<=e):zA (zg P e)=mn e (lastC P).1:=by
 subst q;unfold mn
 split
 ·exact fq rise ok h0 (by assumption)
 ·rename_i z;have g:=jat.mp z;rw [fv rise (QF g)]
  have m:lastC ((0,List.replicate m 0)::r)∈((0:Rat),List.replicate m (0:Rat))::r:=by
   unfold lastC;rw [To (by simp)];exact List.getLast_mem _
  exact (ok _ m).2
noncomputable def hfA (as ls:List Int):List zh:=zU (1 / 2) (evP as ls)
noncomputable def hfB (as ls:List Int):List zh:=zU (1 / 2) (loP as ls)
def tP:(0:Rat)<1 / 2:=by decide+kernel
def qk (hp:0<p) (h:yr a):yr (zU p a):=by
 unfold yr zU;rw [Tt];exact h.imp λ{x y} lt=>Rat.mul_lt_mul_of_pos_right lt hp
def hf_len (as ls:List Int):∀x∈hfA as ls++yE (hfA as ls) (hfB as ls),lastC (hfA as ls)∈hfA as ls->x.2.length=as.length:=λx g hm=>by
 have q:∀x∈hfA as ls,x.2.length=as.length:=λx g=>by
  obtain ⟨c,m,rfl⟩:=Qj.mp g;rw [Qa];exact (tY as ls c m).1
 rcases QY.mp g with z|z
 ·exact q x z
 ·obtain ⟨d,hd,rfl⟩:=Qj.mp z
  have ld:d.2.length=as.length:=by
   have:=jad hd;obtain ⟨c,m,rfl⟩:=Qj.mp this;rw [Qa];exact (Cu as ls c m).1
  show (List.zipWith _ _ _).length=_;rw [QC,q _ hm,ld];exact TM _
def qW (h:LvOk as ls):lastC (hfA as ls)∈hfA as ls:=by
 obtain ⟨r,g⟩:=Dg h;have ne:hfA as ls≠[]:=by unfold hfA zU;rw [g];simp
 unfold lastC;rw [To ne];exact List.getLast_mem _
noncomputable def hvP (as ls:List Int):List zh:=hfA as ls++yE (hfA as ls) (hfB as ls)
theorem yY (p:Rat):∀l:List Rat,zA (l.map (·*p))=zA l*p
 |[]=>by rw [jaJ,zA,jbQ]
 |x::l=>by rw [Ql,zA,zA,yY p l];grind
theorem cW:∀{x y:List Rat},x.length=y.length->zA (List.zipWith (·+·) x y)=zA x+zA y
 |[],[],_=>by rw [List.zipWith_nil_left,zA];grind
 |a::x,b::y,h=>by rw [jab,zA,zA,zA,cW ‹h›];grind
 |[],_::_,h=>by simp at h
 |_::_,[],h=>by simp at h
def HD (as ls:List Int):∀c∈hfA as ls,c.2.length=as.length/\zA c.2=c.1:=λc g=>by
 obtain ⟨d,hd,rfl⟩:=Qj.mp g;have:=tY as ls d hd;exact ⟨by rw [Qa];exact this.1,by rw [yY,this.2]⟩
def hfB_ok (as ls:List Int):∀c∈hfB as ls,c.2.length=as.length/\zA c.2=c.1:=λc g=>by
 obtain ⟨d,hd,rfl⟩:=Qj.mp g;have:=Cu as ls d hd;exact ⟨by rw [Qa];exact this.1,by rw [yY,this.2]⟩
def hv_ok (h:LvOk as ls):∀c∈hvP as ls,c.2.length=as.length/\zA c.2=c.1:=λc g=>by
 refine ⟨hf_len as ls c g (qW h),?_⟩
 rcases QY.mp g with z|z
 ·exact (HD as ls c z).2
 ·obtain ⟨d,hd,rfl⟩:=Qj.mp z;have a:=HD as ls _ (qW h);have b:=hfB_ok as ls d (jad hd);show zA (List.zipWith (·+·) _ _)=_+_;rw [cW (by rw [a.1,b.1]),a.2,b.2]
noncomputable def shP (as:List Int):List zh:=if as.sum=0 then [ya (Yc as.length)] else [ya (Yc as.length),ya as]
theorem jT:∀n:Nat,(List.replicate n (0:Int)).sum=0
 |0=>rfl
 |n+1=>by rw [TH,QL,jT n];rfl
def VB (h:∀a∈as,0<=a):0<=as.sum:=by
 have:=ao (f:=λ_=>0) (g:=id) (as:=as) λa ha=>h a ha;rw [List.map_id,jbd,jT] at this
 simpa using this
def sD (h:∀a∈as,0<=a) (z:as.sum=0):∀a∈as,a=0:=λa ha=>by
 rcases Int.lt_or_eq_of_le (h a ha) with lt|e
 ·have:=ak (f:=λ_=>0) (g:=id) (as:=as) (λa ha=>h a ha) ha lt;rw [List.map_id,jbd,jT,z] at this;simp at this
 ·exact e.symm
def EL (nn:∀a∈as,0<=a) (h0:0<=e):∃z:Rat,(0<=z/\z<=1)/\zg (shP as) e=(as.map λ(a:Int)=>(a:Rat)*z)/\zA (zg (shP as) e)=mn e ((as.sum:Int):Rat):=by
 have s0:=VB nn;unfold shP
 by_cases c:as.sum=0
 ·have y:=sD nn c;rw [QH c,c]
  have k:zg [ya (Yc as.length)] e=as.map λ(a:Int)=>(a:Rat)*0:=by
   rw [Wj];show List.replicate as.length (0:Rat)=_;rw [<-jbd];exact QG λa ha=>by rw [Rat.mul_zero]
  refine ⟨0,⟨QR,by decide+kernel⟩,k,?_⟩;rw [Wj];show zA (List.replicate as.length 0)=_;rw [Xq];unfold mn
  split
  ·exact jaS h0 (by assumption)
  ·rfl
 ·rw [QP c];have sp:(0:Rat)<((as.sum:Int):Rat):=by exact_mod_cast jbx.mpr (show 0<as.sum by omega)
  have rise:yr [ya (Yc as.length),ya as]:=by
   refine Qo.mpr ⟨λd hd=>?_,jau _ _⟩;rw [Qv.mp hd,Wj];exact sp
  have ok:∀x∈[ya (Yc as.length),ya as],x.2.length=as.length/\zA x.2=x.1:=λx m=>by
   rcases Qn.mp m with rfl|m
   ·have:=XT (Yc as.length);rwa [Ul] at this
   ·rw [Qv.mp m];exact XT as
  have g:=sE (P:=[ya (Yc as.length),ya as]) [ya as] (by rw [Wj]) rise ok h0;have s:(lastC [ya (Yc as.length),ya as]).1=((as.sum:Int):Rat):=rfl;rw [s] at g
  by_cases r:e<((as.sum:Int):Rat)
  ·have t:=TB _ (show ((as.sum:Int):Rat)≠0 from λz=>by rw [z] at sp;exact jaX sp);have q:0<(((as.sum:Int):Rat))⁻¹:=Rat.inv_pos.mpr sp;refine ⟨e*(((as.sum:Int):Rat))⁻¹,⟨QT h0 (QF q),?_⟩,?_,g⟩
   ·have:=QT (show 0<=((as.sum:Int):Rat) - e by grind) (QF q);generalize (((as.sum:Int):Rat))⁻¹=j at*
    grind
   ·rw [zg,QH (show e<(ya as).1 from r),Wj];unfold XS
    have et:(e - (0:Rat)) / ((ya as).1 - (0:Rat))=e*(((as.sum:Int):Rat))⁻¹:=by
     show (e - 0) / (((as.sum:Int):Rat) - 0)=_;rw [show e - 0=e by grind,show ((as.sum:Int):Rat) - 0=((as.sum:Int):Rat) by grind,jah]
    dsimp only;rw [et];unfold ya
    apply TC
    ·simp
    ·intro i w u;simp only [Tb,jaK,TL];unfold xY
     grind
  ·refine ⟨1,⟨by decide+kernel,QR⟩,?_,g⟩;rw [zX (show (ya as).1<=e from Tp.mp r)];show (as.map λ(x:Int)=>(x:Rat))=_;exact QG λa _=>by rw [Rat.mul_one]
end
def InB (am tk:List Int):Prop:=tk.length=am.length/\∀(i:Nat) (a p:Int),am[i]? =some a->tk[i]? =some p->0<=p/\p<=a
def pP (am tk:List Int):Prop:=tk.length=am.length/\∀(i:Nat) (a p:Int),am[i]? =some a->tk[i]? =some p->0<=p/\p<=a/\(p<a->∀q∈tk,q<=p)
def xZ (am tk:List Int):List Int:=List.zipWith (· - ·) am tk
section
variable {as tk:List Int} {B:Int} {f:Rat->Rat} {z:Rat}
def WY {a b:Int} (h:(a:Rat)<=(b:Rat)):a<=b:=Th.mp h
def lY {a b:Int} (h:a<b):(a:Rat)<(b:Rat):=jbx.mpr h
def bD {a:Int} (h:0<=a):(0:Rat)<=(a:Rat):=by have:=Th.mpr h;exact this
def YS {a:Int} (h:0<a):(0:Rat)<(a:Rat):=by have:=jbx.mpr h;exact this
def Zn {x y b:Rat} (h:x<=y) (g:0<=b):x*b<=y*b:=by
 have:=QT (show 0<=y - x by grind) g
 grind
def WO (h:tk.length=am.length):(xZ am tk).length=am.length:=by
 unfold xZ;rw [QC,h,TM]
def mn_nn (a0:0<=a) (g:0<=z):0<=mn a z/\mn a z<=a:=by
 unfold mn
 split<;>grind
noncomputable def JK (as ls:List Int):Nat->List zh
 |0=>shP as
 |1=>evP as ls
 |2=>loP as ls
 |_=>yo (hvP as ls)
def FC {e t b:Rat} (g:0<b):mn e t*b=mn (e*b) (t*b):=by
 unfold mn
 by_cases c:e<=t
 ·rw [QH c,QH (Zn c (QF g))]
 ·rw [QP c,QP];intro h;have lt:=jat.mp c;have:=jbu (show 0<e - t by grind) g
  grind
end
end S
namespace L2
open PySem PySem.W PySem.Spec PySem.Calls PyProof.Rows
section
variable {X:Cx} {e v1 v2:Expr} {es rest:List Expr} {te:TE} {pos p2:Pos}
def pe_ccall (G:Gl X c) (hm:X.mg c=some (.ref C))
 (z:specialIn X.K (.ref C) "__getattribute__"=some (some (.builtin "type.__getattribute__"))) (g:readsIn X.K C (.type "type")=true) (hf:findCls X.K (.ref C) (.type "type") m=some (.val (.ref f)))
 (F:FnOk X.prog X.w X.K X.mg X.base CX k f fd ps sp) (hr:Room k X.A) (D:PySem.W.keepIn X.K (.ref f)=true) (J:xi X.K fd ps []) (y:VE CX X E) (ha:PA X (e::es) t)
 (hd:(c==("__debug__":Str))=false:=by decide) (M:starEach (e::es) X.env=(false,eval e X.env)::starEach es X.env:=by rfl) (L:(backTo pos (starEach es X.env)).any (·.1)=false:=by rfl)
 (ht:eval (.Call (.Attribute (.Name c p) m apos) (e::es) [] pos) X.env=(do
  let ov<-eval (.Name c p) X.env
  standAt apos.atName
  let (f,first)<-holding [ov] (getMethod ov m pl)
  callWith pos f first (backTo pos (starEach (e::es) X.env)) (backToKw pos (keywordEach [] X.env))):=by rfl):
 PE X (.Call (.Attribute (.Name c p) m apos) (e::es) [] pos) (uQ sp [] E t):=by
 intro pins s σ H Q I h;refine PySem.W.methodCall_KW (pl:=pl) (fU I G hm ?_ hd) ht;refine method_cls I.kIn z (cls_value I.kIn g hf rfl ?_);have N:=I.tok (s.toks+1);refine jbT (first:=[]) (h₀:=X.base) I.ok.mod.kin D (thn (ha pos pins _ σ H _ N h) ?_) M L;rintro us s2 ⟨vs,O,q,r,u⟩;refine ⟨q.kIn,?_⟩;exact sQ (us:=us) (vs:=vs) F hr J .nil y q r u
def Hj (K:Frg) (m:Str) (f:Addr) (sp:Sp) (E:XK) (g:TE):TE:=λσ H Q=>g σ H λx H1=>∃a C q fs,x= .ref a/\H1 a=some (.ins C q fs)/\Cls K C/\Meth K C m f/\fs.lookup m=none/\sp [x] H1 Q E
def pe_methA (he:PE X e te) (F:FnOk X.prog X.w X.K X.mg X.base CX k f fd ps sp) (hr:Room k X.A) (z:xi X.K fd ps []) (t:VE CX X E)
 (ht:eval (.Call (.Attribute e m apos) [] [] pos) X.env=(do
  let ov<-eval e X.env
  standAt apos.atName
  let (f,first)<-holding [ov] (getMethod ov m pl)
  callWith pos f first (backTo pos (starEach [] X.env)) (backToKw pos (keywordEach [] X.env))):=by rfl):
 PE X (.Call (.Attribute e m apos) [] [] pos) (Hj X.K m f sp E te):=by
 intro pins s σ H Q I h;refine PySem.W.methodCall_KW (pl:=pl) (thn (he pins s σ H _ I h) λu s1 y=>?_) ht;obtain ⟨x,H1,g,r,a,C,G,fs,ex,D,c,k,l,q⟩:=y;subst ex;cases (show u=Value.ref a from r);refine jA g D c k l ?_;exact PySem.W.callWith_K0 (first:=[.ref a]) g.kIn k.kp (sQ (us:=[.ref a]) (vs:=[.ref a]) F hr z .nil t g (.cons rfl .nil) q)
end
end L2
namespace S
open PySem PySem.Spec PyProof.Rows L2
inductive Rl where
 |shares|evenly|losses|halves
 |other (r:Rl)|ranks (r:Rl)|groups (a b:Rl)|upto (t b:Int) (x y:Rl)
def itS (i:Int):Str:=Str.ofString (toString i)
noncomputable def Rl.shape:Rl->PyData
 | .shares=> .tuple [.str "shares"]
 | .evenly=> .tuple [.str "evenly"]
 | .losses=> .tuple [.str "losses"]
 | .halves=> .tuple [.str "halves"]
 | .other r=> .tuple [.str "other",r.shape]
 | .ranks r=> .tuple [.str "ranks",r.shape]
 | .groups a b=> .tuple [.str "groups",a.shape,b.shape]
 | .upto t b x y=> .tuple [.str "upto", .tuple [.int t, .int b],x.shape,y.shape]
noncomputable def Rl.text:Rl->Str
 | .shares=>"shares"
 | .evenly=>"evenly"
 | .losses=>"losses"
 | .halves=>"halves"
 | .other r=>("other(":Str)++r.text++(")":Str)
 | .ranks r=>("ranks(":Str)++r.text++(")":Str)
 | .groups a b=>("groups(":Str)++a.text++(", ":Str)++b.text++(")":Str)
 | .upto t b x y=>("upto(":Str)++itS t++("/":Str)++itS b++(", ":Str)++x.text++(", ":Str)++y.text++(")":Str)
def Rl.size:Rl->Nat
 | .other r=>r.size+1
 | .ranks r=>r.size+1
 | .groups a b=>a.size+b.size+1
 | .upto _ _ x y=>x.size+y.size+1
 |_=>1
noncomputable def Rl.deep:Rl->Nat
 | .other r=>r.deep+1
 | .ranks r=>r.deep+1
 | .groups a b=>max a.deep b.deep+1
 | .upto _ _ x y=>max x.deep y.deep+1
 |_=>1
def Vb (t b:Int):Prop:=(Sz 210 t/\Sz 210 b)/\0<t/\t<b/\Int.gcd t b=1
structure RAd where
 (sh ev lo ha ot ra gr up:Addr)
noncomputable def RAd.cls (A:RAd):Rl->Addr
 | .shares=>A.sh
 | .evenly=>A.ev
 | .losses=>A.lo
 | .halves=>A.ha
 | .other _=>A.ot
 | .ranks _=>A.ra
 | .groups _ _=>A.gr
 | .upto _ _ _ _=>A.up
def Gi (C:Addr) (form:PyData):PyData:= .dict [(.int ((C:Nat):Int),form)]
noncomputable def Rl.ins (A:RAd) (r:Rl):PyData:=Gi (A.cls r) r.shape
structure ROk (K:Frg) (fS fT Ru C:Addr):Prop where
 cl:Cls K C
 na:cy K C "form"
 ms:Meth K C "shape" fS
 mt:Meth K C "text" fT
 ha:PySem.W.findIn K (.ref C) "__class__"=some (some (.builtin "object.__class__"))
 hn:PySem.W.specialIn K (.builtin "object.__class__") "__get__"=some (some (.builtin "getset_descriptor.__get__"))
 htk:PySem.W.takesIn K (.builtin "object.__class__")=some true
 hm:PySem.W.mroIn K C (.type "object")=some true
 kit:PySem.W.kitOne K (.ref C) (.ref Ru)=some true
section
variable {B G0 H:Hp} {cs:yp} {ds:Dat} {Q:VK} {E:XK} {v w u:V} {K:Frg} {α:Type} {C:Addr} {x:PyData} {vs:List V}
def is_ins (h:Is G (Gi C x) v):∃p g w,v= .ref p/\G p=some (.ins C g [("form",w)])/\Is G x w:=by
 unfold Gi at h;rw [Is,Ed] at h;obtain ⟨p,s,g,w,e,r,q,m⟩:=h;have:C=s:=Int.ofNat.inj (PyData.int.inj e);subst this;exact ⟨p,g,w,r,q,m⟩
def Sta.ins (S:Sta B G0 H cs ds) (h:Has ds (Gi C x) v):∃p m w,v= .ref p/\H p=some (.ins C m [("form",w)])/\Sta B G0 H cs ((x,w)::ds):=by
 obtain ⟨G,a,b,c,d,e,f,g⟩:=S;obtain ⟨p,m,w,s,r,q⟩:=is_ins (h G g);exact ⟨p,m,w,s,b _ _ r,G,a,b,c,d,e,f,g.cons q⟩
def kFld (K:Frg) (f:Str) (Q:VK):VK:=λx H1=>∃a C g fs v,x= .ref a/\H1 a=some (.ins C g fs)/\Cls K C/\cy K C f/\fs.lookup f=some v/\Q v H1
def rd_fld (h:ta σ H (kFld K f Q)):tFld K ta f σ H Q:=h
def Bs (S:Sta B G0 H cs ds) (h:Has ds (Gi C x) v) (ok:ROk K fS fT Ru C) (k:∀w,Sta B G0 H cs ((x,w)::ds)->Q w H):kFld K "form" Q v H:=by
 obtain ⟨p,g,w,rfl,hp,m⟩:=S.ins h;exact ⟨p,C,g,_,w,rfl,hp,ok.cl,ok.na,rfl,k w m⟩
def kMA (K:Frg) (m:Str) (f:Addr) (sp:Sp) (E:XK) (Q:VK):VK:=λx H1=>∃a C g fs,x= .ref a/\H1 a=some (.ins C g fs)/\Cls K C/\Meth K C m f/\fs.lookup m=none/\sp [x] H1 Q E
def rd_methA (h:ta σ H (kMA K m f sp E Q)):Hj K m f sp E ta σ H Q:=h
def jg (S:Sta B G0 H cs ds) (h:Has ds (Gi C x) v) (ok:ROk K fS fT Ru C) (k:sp [v] H Q E):kMA K "shape" fS sp E Q v H:=by
 obtain ⟨p,g,w,rfl,hp,m⟩:=S.ins h;exact ⟨p,C,g,_,rfl,hp,ok.cl,ok.ms,rfl,k⟩
def xj (C:Addr) (enc:α->List PyData) (form:α->PyData):Sp:=λvs H Q _=>∃(G:Hp) (a:α) (x m:Addr) (us:List V),vs= .ref x::us/\zS G H/\G x=none/\H x=some (.ins C m [])/\zJ G (enc a) us/\
 ∀H' g w,(∀p o,p≠x->H p=some o->H' p=some o)->zS G g->zS g H'->(∀p,H p≠none->g p=G p)->H' x=some (.ins C m [("form",w)])->Is g (form a) w->Q .non H'
def kMake (C:Addr) (sp:Sp) (E:XK) (Q:VK) (vs:List V) (H1:Hp):Prop:=∀x g,H1 x=none->H1 g=none->g≠x->sp (.ref x::(vs++[])) (upd (upd H1 g (.own x)) x (.ins C g [])) (λv m=>v= .non/\Q (.ref x) m) E
def rd_make (h:t σ H (kMake C sp E Q)):Ij C sp [] E t σ H Q:=h
def YL (a:α) (S:Sta B G0 H cs ds) (O:yI ds (enc a) vs) (k:∀x H',zS H H'->Sta B G0 H' cs ((Gi C (form a), .ref x)::ds)->Q (.ref x) H'):kMake C (xj C enc form) E Q vs H:=by
 intro x g q J LV;obtain ⟨G,s1,s2,s3,s4,s5,N,A⟩:=S;have I:G x=none:=s2.free q;have gd:G g=none:=s2.free J
 have old:∀p o,H p=some o->upd (upd H g (.own x)) x (.ins C g []) p=some o:=λp o hp=>by
  rw [yh (yj hp q),yh (yj hp J)];exact hp
 refine ⟨G,a,x,g,vs,by rw [jbc],λp o hp=>old p o (s2 p o hp),I,yM,O G A,λH' L w Y y X t U T=>⟨rfl,?_⟩⟩;have keep:∀p o,H p=some o->H' p=some o:=λp o hp=>Y p o (yj hp q) (old p o hp);have z:L x=none:=by rw [t x (by rw [yM];simp)];exact I
 have r:=zS.new z (.ins C g [("form",w)]);refine k x H' keep ⟨upd L x (.ins C g [("form",w)]),(s1.trans y).trans r,λp o hp=>?_,λp o hp=>keep p o (s3 p o hp),λp hp=>?_,λc P=>?_,N,(A.mono (y.trans r)).cons ?_⟩
 ·by_cases m:p=x
  ·subst m;rw [yM] at hp;rw [<-hp];exact U
  ·rw [yh m] at hp;exact X p o hp
 ·cases hb:B p with
  |none=>exact absurd hb hp
  |some o=>
   have D:=s3 p o hb;rw [yh (yj D q),t p (by rw [old p o D];simp),s4 p hp]
 ·obtain ⟨z1,z2,us,s,M⟩:=s5 c P;have Z:=yj s q;exact ⟨z1,by rw [yh Z,t c.1 (by rw [old _ _ s];simp)];exact z2,us,keep _ _ s,zJ.mono (y.trans r) _ _ M⟩
 ·unfold Gi;rw [Is,Ed];exact ⟨x,C,g,w,rfl,rfl,yM,Is.mono r _ _ T⟩
def YY (K:Frg) (fS fT Ru:Addr):Sp:=λvs H Q E=>∃C,ROk K fS fT Ru C/\xj C (α:=PyData) (λd=>[d]) (λd=>d) vs H Q E
def YK (S:Sta H G H1 [] ds) (M:G y=none) (q:H y=some (.ins C dx [])) (ok:ROk K fS fT Ru C) (hd:Has ds d v)
 (k:∀H' g w,(∀p o,p≠y->H p=some o->H' p=some o)->zS G g->zS g H'->(∀p,H p≠none->g p=G p)->H' y=some (.ins C dx [("form",w)])->Is g d w->Q .non H'):YY K fS fT Ru [.ref y,v] H1 Q E:=by
 obtain ⟨s,a1,N,m,r,_,_,g1⟩:=S;refine ⟨C,ok,s,d,y,dx,[v],rfl,N,by rw [r y (by rw [q];simp)];exact M,m _ _ q,(yI.cons hd yI.nil) s g1,λH' g w L J I D A z=>k H' g w (λp o hp t=>L p o hp (m p o t)) (a1.trans J) I (λp hp=>?_) A z⟩;rw [D p ?_,r p hp]
 cases hb:H p with
 |none=>exact absurd hb hp
 |some o=>rw [m p o hb];simp
def rAddS:R2:=λx y H Q=>Fe x y H Q\/∃i j,x= .str i/\y= .str j/\i.length+j.length<=sizeLine/\Q (.str (i++j)) H
def op_addS:OpR X (binaryOp .Add) rAddS:=BG.or vA
def rd_eqS (h:Q (.bl (decide (i=j))) H):rEqA (.str i) (.str j) H Q:= .inl ⟨rfl,by
 rw [UR (show V.str i=V.str j↔i=j from ⟨V.str.inj,congrArg _⟩)];exact h⟩
def rd_ixTS (S:Sta B G0 H cs ds) (g:Has ds (.tuple xs) v) (m:atI xs i=some (.str n)) (k:Q (.str n) H):rIx K v (.int i) H Q:=
 cu S g m λw q=>by have:=q.top;rw [Is] at this;subst this;exact k
def ax (A:RAd):Sp:=spT (α:=Rl) (λr=>[r.ins A]) (λ_=>True) (λr=>r.shape)
def Vk {A:RAd} {r:Rl} (S:Sta B G0 H cs ds) (h:Has ds (r.ins A) v) (k:∀w H',zS H H'->Sta B G0 H' cs ((r.shape,w)::ds)->Q w H'):ax A [v] H Q E:=Zf (α:=Rl) r S (yI.cons h yI.nil) trivial k
def JC (h:zJ G [x,y,z,t] vs):∃v w u r,vs=[v,w,u,r]/\Xl G [(x,v),(y,w),(z,u),(t,r)]:=by
 simp only [zJ] at h;obtain ⟨v,_,rfl,s,w,_,rfl,q,u,_,rfl,m,r,_,rfl,g,rfl⟩:=h;exact ⟨v,w,u,r,rfl,λp hp=>by simp at hp;rcases hp with rfl|rfl|rfl|rfl<;>assumption⟩
end
def VA (P:Program) (w:World) (K:Frg) (mg:Str->Option Value) (base:Heap) (x:Str) (C:Addr) (ps:List Str) (sp:Sp):Prop:=∃f fd,Mk K C f/\FnOk P w K mg base CX0 2 f fd ps sp/\xi K fd ps []/\mg x=some (.ref C)
end S
namespace S
open PySem
def Ris (xs:Array Nat):Prop:=xs.toList.Pairwise (·<·)
def Ris.lt {xs:Array Nat} (h:Ris xs) {i k a b:Nat} (t:i<k) (ha:xs[i]? =some a) (q:xs[k]? =some b):a<b:=by
 have u:xs.toList[i]? =some a:=by simpa using ha
 have w:xs.toList[k]? =some b:=by simpa using q
 obtain ⟨m,s⟩:=Qd.mp u;obtain ⟨g,r⟩:=Qd.mp w;have:=QO.mp h i k m g t;rw [s,r] at this;exact this
theorem mf {xs:Array Nat} {j:Nat} (h:Ris xs):∀(fuel lo g:Nat),g - lo<=fuel->lo<=g->g<=xs.size->(∀k a,k<lo->xs[k]? =some a->a<j)->(∀k a,g<=k->xs[k]? =some a->j<=a)->
 SetTable.below.go xs j fuel lo g<=xs.size/\(∀k a,k<SetTable.below.go xs j fuel lo g->xs[k]? =some a->a<j)/\(∀k a,SetTable.below.go xs j fuel lo g<=k->xs[k]? =some a->j<=a)
 |0,lo,g,hf,u,m,r,q=>by
  rw [SetTable.below.go];have e:lo=g:=⋯
  subst e;exact ⟨m,r,q⟩
 |fuel+1,lo,g,hf,u,m,r,q=>by
  rw [SetTable.below.go]
  by_cases c:lo<g
  ·rw [QH c];dsimp only;have hm:(lo+g) / 2<xs.size:=⋯
   have em:xs[(lo+g) / 2]? =some xs[(lo+g) / 2]:=by simp [hm]
   have y:xs.getD ((lo+g) / 2) j=xs[(lo+g) / 2]:=by simp [Array.getD,hm]
   rw [y]
   by_cases t:xs[(lo+g) / 2]<j
   ·rw [QH t];refine mf h fuel _ g ⋯ ⋯ m (λk a w ha=>?_) q
    by_cases s:k=(lo+g) / 2
    ·subst s;rw [em] at ha;cases ha;exact t
    ·have:=h.lt (show k<(lo+g) / 2 by omega) ha em;omega
   ·rw [QP t];refine mf h fuel lo _ ⋯ ⋯ ⋯ r λk a w ha=>?_
    by_cases s:k=(lo+g) / 2
    ·subst s;rw [em] at ha;cases ha;omega
    ·have:=h.lt (show (lo+g) / 2<k by omega) em ha;omega
  ·rw [QP c];have e:lo=g:=⋯
   subst e;exact ⟨m,r,q⟩
def Vv (h:Ris xs) (j:Nat):SetTable.below xs j<=xs.size/\(∀k a,k<SetTable.below xs j->xs[k]? =some a->a<j)/\(∀k a,SetTable.below xs j<=k->xs[k]? =some a->j<=a):=
 mf h _ 0 xs.size ⋯ (jar _) (Qu _) (λk a g=>absurd g (Nat.not_lt_zero _)) λk a g ha=>by
  have:k<xs.size:=by
   have:=jbi.mp ha;exact this.1
  omega
def wm (h:Ris xs) (u:∀a∈xs.toList,a≠j):Ris (SetTable.insertAt xs (SetTable.below xs j) j):=by
 obtain ⟨C,y,w⟩:=Vv h j;unfold Ris;rw [SetTable.toList_insertAt]
 have m:∀a∈xs.toList.take (SetTable.below xs j),a<j:=λa ha=>by
  obtain ⟨i,g⟩:=Qx.mp ha;rw [List.getElem?_take] at g
  split at g
  ·rename_i A;exact y i a A ‹g›
  ·cases g
 have z:∀a∈xs.toList.drop (SetTable.below xs j),j<a:=λa ha=>by
  obtain ⟨i,g⟩:=Qx.mp ha;rw [jay] at g;have:=w _ a (Nat.le_add_right _ i) ‹g›;have ne:=u a (List.mem_of_mem_drop ha);omega
 have h':=h;unfold Ris at h';rw [<-List.take_append_drop (SetTable.below xs j) xs.toList] at h';obtain ⟨t,s,r⟩:=jac.mp h';refine jac.mpr ⟨t,Qo.mpr ⟨z,s⟩,λa ha b q=>?_⟩
 rcases Qn.mp q with rfl|q
 ·exact m a ha
 ·exact r a ha b q
def AI {t:SetTable} (h:Ris t.place) {j:Nat} (q:∀i,t.slot j≠ .live i):∀a∈t.place.toList,a≠j:=λa ha e=>by
 subst e;obtain ⟨i,r⟩:=Qx.mp ha;have g:t.place[i]? =some a:=by simpa using r
 obtain ⟨z,u,s⟩:=Vv h a
 have e:SetTable.below t.place a=i:=by
  rcases Nat.lt_trichotomy (SetTable.below t.place a) i with c|c|c
  ·have m:t.place[SetTable.below t.place a]? =some (t.place[SetTable.below t.place a]'(by have:=(jbi.mp g).1;omega)):=by simp
   have y:=h.lt c m g;have w:=s _ _ (Qu _) m;omega
  ·exact c
  ·have:=u i a c g;omega
 refine q i ?_;unfold SetTable.slot;dsimp only;rw [e,g]
 simp
theorem aQ:∀{fuel:Nat} {p:SetTable.Probe} {j:Nat} {d:Option Nat},(∀x,p.dummy=some x->∀i,t.slot x≠ .live i)->SetTable.probe.go t hashAt h fuel p=some (.empty j d)->(∀i,t.slot j≠ .live i)/\∀x,d=some x->∀i,t.slot x≠ .live i
 |0,p,j,d,_,e=>by rw [SetTable.probe.go] at e;cases e
 |fuel+1,p,j,d,hd,e=>by
  rw [SetTable.probe.go] at e
  cases hs:t.slot p.j with
  |empty=>
   rw [hs] at e;cases e;exact ⟨λi z=>(by rw [hs] at z;cases z),hd⟩
  |dummy=>
   rw [hs] at e;refine aQ (fuel:=fuel) (λx g=>?_) e
   have:x=p.j:=by
    unfold SetTable.advance at g;dsimp only at g
    split at g<;>(cases g;rfl)
   subst this;intro i z;rw [hs] at z;cases z
  |live i=>
   rw [hs] at e;dsimp only at e
   split at e
   ·cases e
   ·refine aQ (fuel:=fuel) (λx g=>hd x ?_) e;unfold SetTable.advance at g;dsimp only at g
    split at g<;>exact g
def CU {t:SetTable} {h:Int} {j:Nat} {b:Bool} (e:t.freeSlot h=some (j,b)):∀i,t.slot j≠ .live i:=by
 unfold SetTable.freeSlot SetTable.probe at e
 split at e
 ·rename_i q m hp;have:=aQ (λx g=>by unfold SetTable.probeStart at g;cases g) hp
  cases m with
  |none=>cases e;exact this.1
  |some d=>cases e;exact this.2 d rfl
 ·cases e
def rV (b:Bool) (t:SetTable):Prop:=Ris t.place/\t.led=b
def Bw (n:Nat):Ris (Array.range n):=by
 unfold Ris;rw [Array.toList_range];exact List.pairwise_lt_range
def YE {b:Bool} {t:SetTable} (h:t.led=b) (n:Nat):rV b (t.standIn n):=⟨Bw n,h⟩
def qU {b:Bool} {t:SetTable} (g:rV b t) (es:Array (Int×Value)) (h:Int) (x:Value):rV b (layNew t es h x).2.1:=by
 unfold layNew
 split
 ·rename_i slot wd hf;dsimp only;unfold SetTable.orStandIn
  split
  ·exact ⟨wm g.1 (AI g.1 (CU hf)),g.2⟩
  ·exact YE g.2 _
 ·exact YE g.2 _
def FY {mask:Nat} {owner:Array (Option Nat)}:(((List.range (mask+1)).filterMap λj=>(owner.getD j none).map (j,·)).map (·.1)).Pairwise (·<·):=by
 rw [Tt,List.pairwise_filterMap];refine List.pairwise_lt_range.imp λ{i k} SI a ha b hb=>?_;obtain ⟨_,_,rfl⟩:=Option.map_eq_some_iff.mp ha;obtain ⟨_,_,rfl⟩:=Option.map_eq_some_iff.mp hb;exact SI
def kR (g:rV b t) (es:Array (Int×Value)) (wanted:Nat):rV b (relayAll t es wanted).2.1:=by
 unfold relayAll
 split
 ·rename_i t' order hr;dsimp only
  split
  ·unfold SetTable.relaid SetTable.laid at hr;obtain ⟨owner,_,hr⟩:=Option.bind_eq_some_iff.mp hr;cases hr;refine ⟨?_,g.2⟩;show (List.toArray _).toList.Pairwise _;exact FY
  ·exact YE g.2 _
 ·exact YE g.2 _
def ag:Value->Int
 | .int n _=>n
 |_=>0
def iS (prog:Program) (w:World) (h:Heap) (a:Addr) (b:Bool) (ns:List Int):Prop:=
 ∃(o:Obj) (es:Array (Int×Value)) (ep:Nat) (t:SetTable),(h.get? a=some o/\o.ExactSet/\o.data= .set es ep t)/\ElemsOf (intKind prog w) es.toList/\(t.fits es.size=true/\rV b t)/\ns=es.toList.map (λe=>ag e.2)/\ns.Nodup
section
variable {prog:Program} {w:World} {A:Around} {E:Value->Shared->Prop} {s:Shared}
def Hg (h:(intKind prog w).is k v=true):ag v=k:=by
 obtain ⟨t,ht⟩:=Value.isInt_shape h;rw [ht];rfl
def iS.kept (T:iS prog w h a b ns) (k:∀o,h.get? a=some o->h'.get? a=some o):iS prog w h' a b ns:=by
 obtain ⟨o,es,ep,t,⟨g,ex,data⟩,rest⟩:=T;exact ⟨o,es,ep,t,⟨k o g,ex,data⟩,rest⟩
def Hl {h:Heap} {a:Addr} {o:Obj} {es es1:Array (Int×Value)} {ep:Nat} {t t1:SetTable} (g:h.get? a=some o) (data:o.data= .set es ep t):(h.update a (Obj.putSet es1 t1)).get? a=some {o with data:= .set es1 (ep+1) t1}:=by
 have z:=TV (Obj.putSet es1 t1) g (by rw [putSet_of es1 t1 data];rfl);rwa [putSet_of es1 t1 data] at z
def add_T {a:Addr} {b:Bool} {ns:List Int} {k:Int} {tk:Tok} {Q:Bool->Shared->Prop} (T:iS prog w s.heap a b ns) (few:ns.length<1000)
 (h:∀(r:Bool) (h':Heap) (m:List Int),Heap.SameBut a s.heap h'->iS prog w h' a b m->(∀x,x∈m↔x∈ns\/x=k)->m.length<=ns.length+1->Q r {s with heap:=h'}):
 wpAny (model prog w) A (setAddHashed a (.int k tk) ((intKind prog w).hash k)) Q E s:=by
 obtain ⟨o,es,ep,t,⟨M,ex,data⟩,elems,⟨fit,good⟩,rfl,nd⟩:=T;have sz:es.size=(es.toList.map λe=>ag e.2).length:=by simp
 have e4:scanBound=4096:=rfl;have bound:es.size<scanBound:=⋯
 have J:=intKind_is prog w k tk;unfold setAddHashed setAddHashedIn;refine jaD (Qg (jbF M data fit ?_));dsimp only;rw [byScan_of (knd:=intKind prog w) (x:= .int k tk) rfl bound elems,QH rfl];unfold setAddByScan;refine Qg (Qg (jca (Qg (wpAny_setScan_of J M data fit elems ?_))))
 cases found:List.findIdx? (λe=>(intKind prog w).is k e.2) es.toList with
 |some j=>
  dsimp only;obtain ⟨hj,pj,_⟩:=List.findIdx?_eq_some_iff_getElem.mp found;have mem:k∈es.toList.map λe=>ag e.2:=Qj.mpr ⟨es.toList[j],Tf hj,Hg pj⟩;refine Qq (Qq ?_);exact h false s.heap _ (Heap.SameBut.refl a s.heap) ⟨o,es,ep,t,⟨M,ex,data⟩,elems,⟨fit,good⟩,rfl,nd⟩ (λx=>⟨.inl,λz=>z.elim id λe=>e▸mem⟩) (jav _)
 |none=>
  dsimp only
  have new:k∉es.toList.map λe=>ag e.2:=λz=>by
   obtain ⟨e,he,hv⟩:=Qj.mp z;obtain ⟨⟨k',Mr,_⟩,_⟩:=elems e he;have ek:k'=k:=(Hg Mr).symm.trans hv;subst ek;have:=List.findIdx?_eq_none_iff.mp found e he;rw [Mr] at this;cases this
  have perm:=layNew_perm t es ((intKind prog w).hash k) (.int k tk);have fits:=layNew_fits t es ((intKind prog w).hash k) (.int k tk);have O:=qU good es ((intKind prog w).hash k) (.int k tk);generalize layNew t es ((intKind prog w).hash k) (.int k tk)=L at perm fits O⊢;obtain ⟨es1,t1,wasDummy,gave⟩:=L;dsimp only at perm fits O⊢;rw [Array.toList_push] at perm;have u:ElemsOf (intKind prog w) es1.toList:=(elems.push J rfl).perm perm
  have pm:(es1.toList.map λe=>ag e.2).Perm ((es.toList.map λe=>ag e.2)++[k]):=by
   have:=perm.map λe=>ag e.2;rwa [QM] at this
  have RW:(es1.toList.map λe=>ag e.2).Nodup:=by
   refine (pm.nodup_iff).mpr (List.nodup_append.mpr ⟨nd,by simp,λx hx y hy=>?_⟩);rw [Qv.mp hy];exact λe=>new (e▸hx)
  have NZ:=pm.length_eq;rw [QB,TX] at NZ;have ML:es1.size=(es1.toList.map λe=>ag e.2).length:=by simp
  have G:es1.size<scanBound:=⋯
  have gZ:∀x,x∈(es1.toList.map λe=>ag e.2)↔x∈(es.toList.map λe=>ag e.2)\/x=k:=λx=>by
   rw [pm.mem_iff,QY,Qv]
  have g1:=Hl (es1:=es1) (t1:=t1) M data;have I:=Tq s.heap a (Obj.putSet es1 t1);have K:=relayAll_perm t1 es1 (SetTable.grown es1.size);have Ng:=relayAll_fits t1 es1 (SetTable.grown es1.size);have good2:=kR O es1 (SetTable.grown es1.size)
  have tail:∀{g:Bool->Sem Unit} {R:Option Bool->Shared->Prop},(∀(b:Bool) (s₁:Shared) (C:Unit->Shared->Prop),C () s₁->wpAny (model prog w) A (g b) C E s₁)->
   (∀(h':Heap) (m:List Int),Heap.SameBut a s.heap h'->iS prog w h' a b m->(∀x,x∈m↔x∈(es.toList.map λe=>ag e.2)\/x=k)->m.length<=(es.toList.map λe=>ag e.2).length+1->R (some true) {s with heap:=h'})->
   wpAny (model prog w) A (do
    storeSet a es1 t1
    if (!wasDummy && t1.tooFull)=true then do
        g (relayAll t1 es1 (SetTable.grown es1.size)).2.2
        storeSet a (relayAll t1 es1 (SetTable.grown es1.size)).1 (relayAll t1 es1 (SetTable.grown es1.size)).2.1
        pure (some true)
     else pure (some true)) R E s:=λ{g R} hg hR=>by
   refine Qg (wpAny_storeSet_of M data ?_ (fits_of_scanBound G))
   split
   ·generalize relayAll t1 es1 (SetTable.grown es1.size)=L2 at K Ng good2⊢;obtain ⟨N,t2,gave2⟩:=L2;dsimp only at K Ng good2⊢;have Z:(N.toList.map λe=>ag e.2).Perm (es1.toList.map λe=>ag e.2):=K.map _;have sz2:N.size=es1.size:=by rw [<-jaq,K.length_eq,jaq]
    have D:N.size<scanBound:=⋯
    refine Qg (hg _ _ _ (Qg (wpAny_storeSet_of g1 rfl (Qq ?_) (fits_of_scanBound D))));refine hR _ _ (I.trans (Tq _ a _)) ⟨_,N,_,t2,⟨Hl g1 rfl,ex,rfl⟩,u.perm K,⟨Ng,good2⟩,rfl,Z.nodup_iff.mpr RW⟩ (λx=>by rw [Z.mem_iff];exact gZ x) (by rw [Z.length_eq,NZ];exact Qu _)
   ·exact Qq (hR _ _ I ⟨_,es1,_,t1,⟨g1,ex,rfl⟩,u,⟨fits,O⟩,rfl,RW⟩ gZ (by rw [NZ];exact Qu _))
  have fin:∀(h':Heap) (m:List Int),Heap.SameBut a s.heap h'->iS prog w h' a b m->(∀x,x∈m↔x∈(es.toList.map λe=>ag e.2)\/x=k)->m.length<=(es.toList.map λe=>ag e.2).length+1->Q true {s with heap:=h'}:=h true
  have pass:∀(c:Bool) (s₁:Shared) (C:Unit->Shared->Prop),C () s₁->wpAny (model prog w) A (match c with|true=>rule "set.scan.the-table-gave-way"|false=>pure ()) C E s₁:=λc s₁ C q=>by
   cases c
   ·exact Qq q
   ·exact jca q
  refine Qg (pass _ _ _ ?_);have hv:hashByValue 8 (.int k tk)=pure true:=rfl
  split
  ·refine Qg ?_;rw [hv];refine Qq ?_;exact tail (λc s₁ C q=>pass c s₁ C q) λh' m Y X U P=>Qq (fin h' m Y X U P)
  ·refine Qg (Qq ?_);exact tail (λc s₁ C q=>pass c s₁ C q) λh' m Y X U P=>Qq (fin h' m Y X U P)
def wZ (w:World):Bool:=!(w.params.followText "set-order")
noncomputable def Wn (w:World):Obj:={cls:= .type "set",dict:=none,data:= .set #[] 0 (.fresh 0 0 (wZ w))}
def Jm (x:Value) (k:R (.ref s.heap.objs.size) {s with heap:=s.heap.push (Wn w)}):
 codeAny (model prog w) A (.call (.builtin "set.__new__") ⟨[.type "set",x],[]⟩) (wants R E) s:=by
 refine codeAny_of_tree (show wpAny _ A.in1 (do checkBuiltinCall "set.__new__" ⟨[.type "set",x],[]⟩;again (.builtin "set.__new__" ⟨[.type "set",x],[]⟩)) _ _ s from ?_)
 refine Qg (wpAny_of_eq (F.newCall_set_1 x) (Qq ⟨plainId_quiet F.plain_set_new _,jbf F.entry_set_new (by
  rw [jaH F.plain_set_new _];unfold Builtin.«set.__new__» Builtin.Frozenset.newClass;have sub:=sub_set_self;obtain ⟨hp,g,d,tk,os⟩:=s;dsimp only
  wp_walk
  refine wpAny_askSetting (Qq ?_);dsimp only;simp only [newObj]
  exact Qg (wpAny_alloc (Qq (Qq k))))⟩))
def iS.fresh (g:h.get? a=some (Wn w)):iS prog w h a (wZ w) []:=
 ⟨_,#[],0,_,⟨g,⟨rfl,rfl,rfl⟩,rfl⟩,λe he=>by simp at he,⟨rfl,by unfold Ris SetTable.fresh;exact List.Pairwise.nil,rfl⟩,rfl,List.nodup_nil⟩
def upd_T
 (W:WalksS prog w A.in1 I fp wr G n P St) (a:Addr) (out:a∉fp) (ns:List Int) (val:∀i v,P i v->∃k t,ns[i]? =some k/\v= .int k t) (few:n<900):
 ∀(m i:Nat) (s:Shared) (T:List Int),n - i=m->i<=n->St i s->iS prog w s.heap a b T->(∀x,x∈T↔x∈ns.take i)->T.length<=i->
  (∀s' y,Moved (a::wr) G s s'->iS prog w s'.heap a b y->(∀x,x∈y↔x∈ns.take n)->y.length<=n->R (.ok (.ret .none)) s')->
  codeAny (model prog w) A (.builtin "set.update.loop" ⟨[.ref a, .ref I],[]⟩) R s:=by
 have g:a∉wr:=λz=>out (W.sub _ z);have more:∀c∈wr,c∈a::wr:=λc u=>Qf _ u;intro m
 induction m with
 |zero=>
  intro i s T hm U st J C M K;have e:i=n:=⋯
  subst e;refine jbf PyProof.Rows.F.entry_set_update_loop ?_;rw [jaH jaZ _];show wpAny _ A.in1 (pyNext (.ref I)>>=_) _ _ s;exact Qg (W.done s _ _ st λs' q=>Qq (K s' T (q.mono more) (J.kept λo=>q.heap a o g) C M))
 |succ m N=>
  intro i s T hm U st J C M K;have lt:i<n:=⋯
  refine jbf PyProof.Rows.F.entry_set_update_loop ?_;rw [jaH jaZ _];show wpAny _ A.in1 (pyNext (.ref I)>>=_) _ _ s;refine Qg (W.item i s _ _ lt st λv s' X Mg q=>?_);obtain ⟨k,tk,O,rfl⟩:=val i v X;show wpAny _ A.in1 (holding [Value.int k tk] (setAdd a (.int k tk))>>=_) _ _ s';refine Qg (jaD ?_);unfold setAdd;refine jaD (Qg ((intKind prog w).pyHash (k:=k) (intKind_is _ _ _ _) ?_));refine add_T (b:=b) (ns:=T) (s:={s' with toks:=s'.toks+1}) (J.kept λo=>q.heap a o g) ⋯ λr h' y sb D LO LY=>?_;refine Qq ⟨plainId_quiet jaZ _,N (i+1) _ y ⋯ lt (W.frame _ s' _ _ Mg (jav _) λc u o e=>?_) D (λx=>?_) ⋯ λOT L RX Nc Y Z=>?_⟩
  ·rw [sb.2 c (λz:c=a=>out (by rw [<-z];exact u))];exact e
  ·rw [LO x,C x,Tr,O]
   simp
  ·refine K OT L (Moved.trans W.gtrans ((q.mono more).then_heap (jav _) λc o u e=>?_) RX) Nc Y Z;rw [sb.2 c (λz:c=a=>u (by rw [z];exact Qe))];exact e
set_option maxHeartbeats 8000000 in
def wI (quiet:A.handled=none) (hl:s.heap.IsList l items) (hi:PyProof.Rows.IntsAre items.toList ns) (few:items.size<900)
 (k:∀(h':Heap) (tk:Nat) (T:List Int),iS prog w h' s.heap.objs.size (wZ w) T->(∀x,x∈T↔x∈ns)->T.length<=ns.length->(∀b o,b<s.heap.objs.size->s.heap.get? b=some o->h'.get? b=some o)->Q (.ref s.heap.objs.size) {s with heap:=h',toks:=tk}):
 wpAny (model prog w) A (call (.type "set") [.ref l]) Q E s:=by
 have lenN:items.size=ns.length:=by have:=hi.length;simpa using this
 obtain ⟨c1,tl1,mro1⟩:=jbE.mro;have L:=jbE.made;have Z:=jbE.sub;refine wpAny_call (codeAny_of_tree (show wpAny _ _ (callAny (.type "set") _) _ _ _ from ?_));refine Qq ⟨Code.quiet_builtin _ (by decide+kernel),jbf F.entry_type_call ?_⟩;rw [Around.under_plain (weight_type_call_type "set" [.ref l] []) rfl];have nt1:=jbE.notType;have cc1:=jbE.canCreate;have ct1:=F.typeCall_set_1 (.ref l)
 repeat any_goals (first|wp_step|assumption)
 refine jcc (Jm (.ref l) (E:=E) (R:=λobj s₁=>obj= .ref s.heap.objs.size/\s₁={s with heap:=s.heap.push (Wn w)}) ⟨rfl,rfl⟩) λr s₁ hr=>?_
 cases r with
 |error e=>exact hr
 |ok X=>
  cases X with
  |ret obj=>
   obtain ⟨rfl,rfl⟩:=hr;have Y:(s.heap.push (Wn w)).get? s.heap.objs.size=some (Wn w):=Qw _ rfl;have ty:Shared.TypeIs {s with heap:=s.heap.push (Wn w)} (.ref s.heap.objs.size) "set":=⟨_,Y,rfl⟩;have lk1:=jbE.init.lookup;have bd1:=jbE.init.bind (.ref s.heap.objs.size)
   repeat any_goals (first|wp_step|assumption)
   refine jcc (codeAny_call_builtin (R:=wants (λr s₂=>r= .none/\∃h' tk T,s₂={s with heap:=h',toks:=tk}/\iS prog w h' s.heap.objs.size (wZ w) T/\(∀x,x∈T↔x∈ns)/\T.length<=ns.length/\
    (∀b o,b<s.heap.objs.size->s.heap.get? b=some o->h'.get? b=some o)) E) jbE.init.plain F.entry_set_init (check_set_init_1 ty ?_)) λr₂ s₂ hr₂=>?_
   ·obtain ⟨ol,G,q,nl,m⟩:=hl;obtain ⟨ocls,y,J,g⟩:=ol;simp only at q m;subst q;subst m;have PD:(s.heap.push (Wn w)).get? l=some {cls:= .type "list",dict:=y,data:= .seq items nl,slots:=g}:=Qi _ G;have sls:=F.sub_list_set;have slf:=F.sub_list_frozenset;have RW:(Value.type "list"==Value.type "dict")=false:=by decide
    have D:(s.heap.push (Wn w)).IsList l items:=⟨_,PD,rfl,nl,rfl⟩;have U:=Y;unfold Wn at U PD;unfold Builtin.«set.__init__» noKeywords Builtin.Frozenset.updateFrom;generalize P:pyIter=PI
    wp_walk
    subst P;refine jaL D (Qg (wpAny_runValue ?_));have C:l<s.heap.objs.size:=Qr G;have q3:A.in1.in1.in1.handled=none:=by simp [quiet]
    have u:(s.heap.push (Wn w)).objs.size=s.heap.objs.size+1:=QV ..;have K:l≠(s.heap.push (Wn w)).objs.size:=by rw [u];exact QN (Tx C)
    have out:s.heap.objs.size∉[(s.heap.push (Wn w)).objs.size,l]:=by
     rw [u];intro z
     rcases Qn.mp z with z|z
     ·exact absurd z (QN (Td _))
     ·exact absurd (Qv.mp z) (jaI C)
    refine upd_T (b:=wZ w) ((Walks.list q3 _ l K items).toS) s.heap.objs.size out ns (λi v hv=>?_) few (items.size - 0) 0 _ [] ⋯ (jar _) ⟨⟨_,Qw _ rfl,rfl,rfl⟩,D.push _⟩ (iS.fresh (Qi _ Y)) (λx=>by simp) (jar _) λs' T' I O LO LY=>?_
    ·have PX:items.toList[i]? =some v:=by rw [Array.getElem?_toList];exact hv
     obtain ⟨t,ht⟩:=PyProof.Rows.IntsAre.int_at hi i v PX
     have lt:i<ns.length:=by
      have:=(Qd.mp PX).1;rw [jaq] at this;omega
     refine ⟨ns.getD i 0,t,?_,ht⟩;rw [Qk,Qb lt];rfl
    ·obtain ⟨h',g',d',RM,NX⟩:=s';have eg:g'=s.gens:=I.gens;have ed:d'=s.drawn:=I.drawn;have eo:NX=s.os:=I.os;subst eg;subst ed;subst eo;show wpAny _ _ _ _ _ _;refine Qq (show wpAny _ _ (ret Value.none) _ _ _ from Qq ⟨rfl,h',RM,T',rfl,O,λx=>?_,⋯,λb o N e=>?_⟩)
     ·rw [LO x,QQ ⋯]
     ·refine I.heap b o (λz=>?_) (Qi _ (Qi _ e))
      rcases Qn.mp z with z|z
      ·exact absurd z (QN N)
      ·rw [Qv.mp z,u] at N;exact absurd N (Nat.not_lt.mpr (jav _))
   ·cases r₂ with
    |error e=>exact hr₂
    |ok X₂=>
     cases X₂ with
     |ret r=>
      obtain ⟨rfl,h',tk,T,rfl,hT,hx,M,keep⟩:=hr₂
      repeat any_goals (first|wp_step|assumption)
      exact k _ _ T hT hx M keep
     |_=>exact hr₂.elim
  |_=>exact hr.elim
end
def BF:Manifest.owners.lookup (String.ofList ['r','o','t','a','r','e','t','i','_','t','e','s'].reverse)=some Manifest.sig_set_iterator:=by kernel_rfl
def Yg (x:Value):argsOk "set_iterator.__next__" ⟨[x],[]⟩:=by
 unfold argsOk;rw [signature?_of (id:="set_iterator.__next__") (n:=['_','_','t','x','e','n','_','_']) (o:=['r','o','t','a','r','e','t','i','_','t','e','s']) (by kernel_rfl) BF]
 kernel_rfl
def yk:Slot "set_iterator" "__next__" "set_iterator.__next__":= .of (owner:="set_iterator") (n:="__next__") (by rw [typeLookup_type,builtinLookup_eq_fast];kernel_rfl) (by decide+kernel) (by decide+kernel) (by decide+kernel) (by first|exact .inl (by decide+kernel)|exact .inr (by decide+kernel)) (by rw [isSubtype_type];kernel_rfl)
def ZP:entryFor table "set_iterator.__next__"=some Builtin.«set_iterator.__next__»:=entryFor_of_tree (by kernel_rfl)
def Ux:Slot "set_iterator" "__iter__" "set_iterator.__iter__":= .of (owner:="set_iterator") (n:="__iter__") (by rw [typeLookup_type,builtinLookup_eq_fast];kernel_rfl) (by decide+kernel) (by decide+kernel) (by decide+kernel) (by first|exact .inl (by decide+kernel)|exact .inr (by decide+kernel)) (by rw [isSubtype_type];kernel_rfl)
def mw (x:Value):argsOk "set_iterator.__iter__" ⟨[x],[]⟩:=by
 unfold argsOk;rw [signature?_of (id:="set_iterator.__iter__") (n:=['_','_','r','e','t','i','_','_']) (o:=['r','o','t','a','r','e','t','i','_','t','e','s']) (by kernel_rfl) BF]
 kernel_rfl
def iI:entryFor table "set_iterator.__iter__"=some Builtin.«dict_keyiterator.__iter__»:=entryFor_alias (id':="dict_keyiterator.__iter__") (by kernel_rfl) rfl (by decide+kernel) (by kernel_rfl)
def iJ:entryFor table "set.__iter__"=some Builtin.«frozenset.__iter__»:=entryFor_alias (id':="frozenset.__iter__") (by kernel_rfl) rfl (by decide+kernel) (by kernel_rfl)
theorem bw {α:Type}:∀{xs:List α} {i:Nat} (h:i<xs.length),(xs[i]::xs.eraseIdx i).Perm xs
 |[],i,h=>by simp at h
 |x::xs,0,h=>List.Perm.refl _
 |x::xs,i+1,h=>by
  have g:=bw (xs:=xs) (i:=i) ‹h›;exact (List.Perm.swap _ _ _).trans (g.cons x)
section
variable {prog:Program} {w:World} {A:Around} {E:Value->Shared->Prop} {s:Shared}
def wF (hn:n≠0) (k:∀i d,i<n->Q i {s with drawn:=d}):wpAny (model prog w) A (choose src n) Q E s:=λΓ p hΓ=>by
 show Sem.wp _ _ (Sem.choose src n _) _ _ _ _;rw [Sem.wp_choose];exact ⟨hn,k _ _ (Nat.mod_lt _ ⋯)⟩
theorem HG {α:Type}:∀(n:Nat) (xs:List α) (s:Shared) (Q:List α->Shared->Prop),xs.length=n->(∀d ys,ys.Perm xs->Q ys {s with drawn:=d})->wpAny (model prog w) A (drawOrder n xs) Q E s
 |0,[],s,Q,_,k=>by rw [drawOrder];exact Qq (k s.drawn [] (List.Perm.refl _))
 |n+1,x::xs,s,Q,hl,k=>by
  rw [drawOrder]
  ·refine Qg (wF (by simp) λi d g=>?_);have e:(x::xs)[i]? =some (x::xs)[i]:=Qb g;rw [e];dsimp only;refine Qg (HG n _ _ _ (by rw [List.length_eraseIdx,QH g,hl];rfl) λq ys hp=>Qq (k q _ ?_));have m:=List.Perm.cons (x::xs)[i] hp;refine m.trans ?_;exact bw g
  ·intro z;cases z
 |0,_::_,s,Q,h,_=>by simp at h
 |_+1,[],s,Q,h,_=>by simp at h
structure SetD (prog:Program) (w:World) (oS:Obj) (es:Array (Int×Value)) (ep:Nat) (t:SetTable):Prop where
 ex:oS.ExactSet
 data:oS.data= .set es ep t
 elems:ElemsOf (intKind prog w) es.toList
 fit:t.fits es.size=true
 good:rV (wZ w) t
def wL (h:Ris xs):SetTable.below xs 0=0:=by
 obtain ⟨q,g,m⟩:=Vv h 0
 rcases Nat.eq_zero_or_pos (SetTable.below xs 0) with z|z
 ·exact z
 ·have:xs[0]? =some (xs[0]'⋯):=by simp
  exact absurd (g 0 _ z this) (Nat.not_lt_zero _)
def wM (h:Ris xs) (g:xs[i]? =some j):SetTable.below xs (j+1)=i+1:=by
 obtain ⟨u,t,r⟩:=Vv h (j+1);have li:i<xs.size:=(jbi.mp g).1
 rcases Nat.lt_trichotomy (SetTable.below xs (j+1)) (i+1) with z|z|z
 ·have:=r i j ⋯ g;omega
 ·exact z
 ·have q:i+1<xs.size:=⋯
  have m:xs[i+1]? =some xs[i+1]:=by simp [q]
  have:=t (i+1) _ z m;have:=h.lt (Td i) g m;omega
def byT (w:World):Bool:=w.params.followText "set-order"
noncomputable def mK (w:World) (a:Addr) (ep:Nat) (es:Array (Int×Value)):Array (Int×Value):=if byT w=true then pickOrder (w.params.setOrder a ep) es else es
def stT (w:World) (t:SetTable) (i slot:Nat):Prop:=byT w=true\/SetTable.below t.place slot=i
theorem nZ {α:Type} (f:Nat->Nat):∀(n k:Nat) (left:List α) (out:Array α),left.length=n->(pickOrder.go f n k left out).toList.Perm (out.toList++left)
 |0,k,[],out,_=>by rw [pickOrder.go];simp
 |0,k,_::_,out,h=>by simp at h
 |n+1,k,[],out,h=>by simp at h
 |n+1,k,x::left,out,h=>by
  rw [pickOrder.go];have g:f k % (x::left).length<(x::left).length:=Nat.mod_lt _ (by simp);rw [Qb g];dsimp only;have m:=nZ f n (k+1) ((x::left).eraseIdx (f k % (x::left).length)) (out.push (x::left)[f k % (x::left).length]) (by rw [List.length_eraseIdx,QH g,h];rfl);refine m.trans ?_;rw [Array.toList_push,jaj];exact (bw g).append_left _
def UK (w:World) (a:Addr) (ep:Nat) (es:Array (Int×Value)):(mK w a ep es).toList.Perm es.toList:=by
 unfold mK
 split
 ·unfold pickOrder;have:=nZ (w.params.setOrder a ep) es.size 0 es.toList #[] (by simp)
  simpa using this
 ·exact List.Perm.refl _
section
variable {a:Addr} {oS:Obj} {es:Array (Int×Value)} {ep:Nat} {t:SetTable} {slot i:Nat}
def rF (k:Q (byT w) s):wpAny (model prog w) A setsByText Q E s:=by
 unfold setsByText;exact Qg (wpAny_askSetting (Qq k))
def Ak (m:s.heap.get? a=some oS) (D:SetD prog w oS es ep t) (g:byT w=true) (k:Q (pickOrder (w.params.setOrder a ep) es) s):wpAny (model prog w) A (setWalk a) Q E s:=by
 unfold setWalk;refine Qg (jbF m D.data D.fit ?_);dsimp only;refine Qg (rF ?_);rw [g,QH rfl];exact Qg (wpAny_askSetting (Qq k))
def Hw (G:s.heap.get? a=some oS) (D:SetD prog w oS es ep t) (pl:byT w=true\/(t.plain=true\/es.size<=1)) (st:stT w t i slot)
 (u:∀e C,(mK w a ep es)[i]? =some e->stT w t (i+1) C->Q (some (e.2,C)) s) (r:es.size<=i->Q none s):wpAny (model prog w) A (setNext a slot i ep) Q E s:=by
 have J:(mK w a ep es).size=es.size:=by
  have:=(UK w a ep es).length_eq
  simpa using this
 unfold setNext;refine Qg (jbF G D.data D.fit ?_);dsimp only;refine Qg (rF ?_)
 cases hb:byT w with
 |true=>
  rw [QH rfl,QP (by simp)];refine Qg (Ak G D hb (Qq ?_));have q:mK w a ep es=pickOrder (w.params.setOrder a ep) es:=by unfold mK;rw [QH hb]
  rw [<-q]
  by_cases c:i<(mK w a ep es).size
  ·have e:(mK w a ep es)[i]? =some (mK w a ep es)[i]:=by simp [c]
   rw [e];exact u _ slot e (.inl hb)
  ·rw [Array.getElem?_eq_none ⋯];exact r ⋯
 |false=>
  have K:SetTable.below t.place slot=i:=st.resolve_left (by rw [hb];exact QA);have m:=pl.resolve_left (by rw [hb];exact QA);rw [QP QA]
  split
  ·rename_i z
   exfalso
   have g:(!t.plain && decide (es.size>1))=true:=z;rw [jas,decide_eq_true_eq] at g
   rcases m with p|p
   ·rw [p] at g;exact QA g.1
   ·omega
  have led:t.led=true:=by
   have:=D.good.2;unfold wZ at this;rw [this,show w.params.followText "set-order"=false from hb];rfl
  refine Qg (show wpAny _ _ (if (!t.led && !es.isEmpty)=true then unsupported "set:maker-not-led" else pure ()) _ _ s from ?_);rw [led,QP (by simp)];refine Qq (Qq ?_);rw [K];have q:mK w a ep es=es:=by unfold mK;rw [QP (by rw [hb];exact QA)]
  have I:t.place.size=es.size:=by
   have:=D.fit;unfold SetTable.fits at this;rw [jas] at this
   simpa using this.1
  by_cases c:i<es.size
  ·have e:es[i]? =some es[i]:=by simp [c]
   have y:t.place[i]? =some (t.place[i]'⋯):=by simp
   rw [e,y];exact u es[i] _ (by rw [q];exact e) (.inr (wM D.good.1 y))
  ·rw [Array.getElem?_eq_none (show es.size<=i by omega)];exact r ⋯
end
end
section
variable {prog:Program} {w:World} {A:Around} {E:Value->Shared->Prop} {s:Shared} {a I:Addr} {oS:Obj} {es:Array (Int×Value)} {ep:Nat} {t:SetTable} {slot i:Nat}
def ItF (h:Heap) (I:Addr) (vs:Array Value):Prop:=∃o,h.get? I=some o/\o.cls= .type "set_iterator"/\o.data= .fields vs
def ItF.ty (x:ItF s.heap I vs):s.TypeIs (.ref I) "set_iterator":=by
 obtain ⟨_,e,c,_⟩:=x;exact ⟨_,e,c⟩
def ItF.set (x:ItF h I vs) (j:Nat) (v:Value):ItF (h.update I (Obj.mapFields (·.setIfInBounds j v))) I (vs.setIfInBounds j v):=by
 obtain ⟨o,e,c,d⟩:=x;exact ⟨_,TV _ e (Obj.isFreed_of_fields (jbV d _)),(Obj.cls_mapFields ..).trans c,jbV d _⟩
def EJ {Q:Option Value->Shared->Prop} (x:ItF s.heap I #[.int slot 0, .int i 0, .ref a, .int es.size 0, .int ep 0]) (ne:a≠I) (y:s.heap.get? a=some oS) (D:SetD prog w oS es ep t) (pl:byT w=true\/(t.plain=true\/es.size<=1)) (st:stT w t i slot) (K:i<es.size)
 (J:∀e g h',(mK w a ep es)[i]? =some e->stT w t (i+1) g->ItF h' I #[.int g 0, .int (i+1:Nat) 0, .ref a, .int es.size 0, .int ep 0]->Heap.SameBut I s.heap h'->Q (some e.2) {s with heap:=h'}):wpAny (model prog w) A (pyNext (.ref I)) Q E s:=by
 have G:=x;obtain ⟨o,go,O,u⟩:=G;unfold pyNext;refine Qg (jaQ (Te (name:=Str.ofString "__next__") x.ty yk (Ts yk x.ty ZP ?_ (Yg _))));unfold Builtin.«set_iterator.__next__»;refine Qg (Qq ?_);refine Qg (wpAny_fieldsOf go u ?_);dsimp only;refine Qg (jbv y D.data D.fit ?_);rw [QP (by simp)];refine Qg (Hw (slot:=slot) (i:=i) y D pl st (λe g he M=>?_) (λz=>absurd K ⋯));dsimp only;refine Qg (jbn go u (by simp) ?_);have r:=x.set 0 (rawInt (g:Nat));have C:=r.set 1 (rawInt ((i:Int)+1));obtain ⟨N,m,L,q⟩:=r;refine Qg (jbn m q (by simp) ?_);refine Qq ⟨_,rfl,Qq (J e g _ he M ?_ ((Tq ..).trans (Tq ..)))⟩
 simpa [rawInt] using C
def Hm {j:Nat} {x:Value} {g:Heap} {Q:Option Value->Shared->Prop} (quiet:A.handled=none) (k:∀h',(∀b o,g.get? b=some o->h'.get? b=some o)->Q none {s with heap:=h'}):
 wpAny (model prog w) A.in1 (newExc (.type "StopIteration") []>>=λe=>(raiseNew e:Sem Fin)) (λfin s'=>∃v,fin=Fin.done (Flow.ret v)/\wpAny (model prog w) A (pure (some v)) Q E s')
  (λe s'=>wpAny (model prog w) A (isInstance e (Value.type "StopIteration")>>=λb=>if b=true then pure none else throw e) Q E s') {s with heap:=g}:=by
 refine Qg ?_;simp only [newExc,newTuple];refine Qg (jai (Qg (m:=firstArgMember _ _) (wpAny_of_eq (a:=Value.none) (by first|rfl|(simp only [firstArgMember];rfl)) (jai ?_ (by size_fits)))) (by size_fits));simp only [raiseNew];refine Qg (wpAny_handled ?_);rw [show A.in1.handled=none from quiet];refine' Qg (Qq (wpAny_throw ?told))
 case told=>
  refine' Qg (wpAny_isInstance (T:="StopIteration") (b:=true) ⟨_,Qw _ rfl,rfl⟩ isSubtype_stop ?yes)
  case yes=>exact Qq (k _ λb o e=>Qi _ (Qi _ e))
def EK {Q:Option Value->Shared->Prop} (quiet:A.handled=none) (x:ItF s.heap I #[.int slot 0, .int i 0, .ref a, .int es.size 0, .int ep 0]) (q:s.heap.get? a=some oS) (D:SetD prog w oS es ep t) (pl:byT w=true\/(t.plain=true\/es.size<=1)) (st:stT w t i slot) (y:es.size<=i)
 (k:∀h',(∀b o,b≠I->s.heap.get? b=some o->h'.get? b=some o)->Q none {s with heap:=h'}):wpAny (model prog w) A (pyNext (.ref I)) Q E s:=by
 have g:(mK w a ep es).size=es.size:=by
  have:=(UK w a ep es).length_eq
  simpa using this
 have r:=x;obtain ⟨o,go,C,m⟩:=r;unfold pyNext;refine Qg (jaQ (Te (name:=Str.ofString "__next__") x.ty yk (Ts yk x.ty ZP ?_ (Yg _))));unfold Builtin.«set_iterator.__next__»;refine Qg (Qq (Qg (wpAny_fieldsOf go m ?_)));dsimp only;refine Qg (jbv q D.data D.fit ?_);rw [QP (by simp)];refine Qg (Hw (slot:=slot) (i:=i) q D pl st (λe J he G=>?_) (λ_=>?_))
 ·have:=(jbi.mp he).1
  exact absurd this (by have z:(mK w a ep es).size=es.size:=g
                        show ¬i<(mK w a ep es).size
                        omega)
 dsimp only;refine Qg (jbn go m (by simp) ?_);exact Hm (j:=0) (x:= .none) quiet λh' keep=>k h' λb o u e=>keep b o ((Tq s.heap I _).extBut b o u e)
def sN {vs:Array Value} {Q:Value->Shared->Prop} (x:ItF s.heap I vs) (k:Q (.ref I) s):wpAny (model prog w) A (pyIter (.ref I)) Q E s:=by
 refine wpAny_pyIter_slot x.ty Ux (Ts Ux x.ty iI (show wpAny _ _ (ret (.ref I)) _ _ s from ?_) (mw _));exact Qq ⟨_,rfl,"set_iterator",_,x.ty,yk.lookup,k⟩
def AJ {g:Addr} {pls:List Nat} {q:Obj} {C p:Nat} {e:Int×Value} {Q:Option Value->Shared->Prop} (x:ItF s.heap I #[.ref g, .int i 0, .ref a, .int es.size 0, .int ep 0]) (gt:s.heap.get? g=some q) (m:q.data= .seq (pls.map λ(p:Nat)=>rawInt p).toArray C)
 (u:s.heap.get? a=some oS) (D:SetD prog w oS es ep t) (hp:pls[i]? =some p) (he:es[p]? =some e)
 (G:∀h',ItF h' I #[.ref g, .int (i+1:Nat) 0, .ref a, .int es.size 0, .int ep 0]->Heap.SameBut I s.heap h'->Q (some e.2) {s with heap:=h'}):wpAny (model prog w) A (pyNext (.ref I)) Q E s:=by
 have z:=x;obtain ⟨o,go,K,r⟩:=z;unfold pyNext;refine Qg (jaQ (Te (name:=Str.ofString "__next__") x.ty yk (Ts yk x.ty ZP ?_ (Yg _))));unfold Builtin.«set_iterator.__next__»;refine Qg (Qq (Qg (wpAny_fieldsOf go r ?_)));dsimp only;refine Qg (jbv u D.data D.fit ?_);rw [QP (by simp)];refine Qg (show wpAny _ _ (load g>>=_) _ _ s from Qg (wpAny_load gt ?_));rw [m];refine Qq ?_;dsimp only
 have J:(pls.map λ(p:Nat)=>rawInt p).toArray[(i:Int).toNat]? =some (rawInt p):=by
  rw [Tj,List.getElem?_toArray,Qh,hp];rfl
 rw [J];show wpAny _ _ (setNextDrawn a (p:Int).toNat (ep:Int).toNat>>=_) _ _ s;refine Qg ?_;unfold setNextDrawn;refine Qg (jbF u D.data D.fit ?_);dsimp only;rw [Tj,Tj,QP (by simp),he];refine Qg (Qq (Qq ?_));refine Qg (jbn go r (by simp) ?_);have y:=x.set 1 (rawInt ((i:Int)+1));refine Qq ⟨_,rfl,Qq (G _ ?_ (Tq ..))⟩
 simpa [rawInt] using y
def AK {g:Addr} {pls:List Nat} {u:Obj} {G:Nat} {Q:Option Value->Shared->Prop} (quiet:A.handled=none) (x:ItF s.heap I #[.ref g, .int i 0, .ref a, .int es.size 0, .int ep 0]) (gt:s.heap.get? g=some u) (m:u.data= .seq (pls.map λ(p:Nat)=>rawInt p).toArray G)
 (M:s.heap.get? a=some oS) (D:SetD prog w oS es ep t) (hp:pls.length<=i)
 (k:∀h',(∀b o,b≠I->s.heap.get? b=some o->h'.get? b=some o)->Q none {s with heap:=h'}):wpAny (model prog w) A (pyNext (.ref I)) Q E s:=by
 have C:=x;obtain ⟨o,go,O,y⟩:=C;unfold pyNext;refine Qg (jaQ (Te (name:=Str.ofString "__next__") x.ty yk (Ts yk x.ty ZP ?_ (Yg _))));unfold Builtin.«set_iterator.__next__»;refine Qg (Qq (Qg (wpAny_fieldsOf go y ?_)));dsimp only;refine Qg (jbv M D.data D.fit ?_);rw [QP (by simp)];refine Qg (show wpAny _ _ (load g>>=_) _ _ s from Qg (wpAny_load gt ?_));rw [m];refine Qq ?_;dsimp only
 have L:(pls.map λ(p:Nat)=>rawInt p).toArray[(i:Int).toNat]? =none:=by
  rw [Tj,List.getElem?_toArray,Qh,QD hp];rfl
 rw [L];dsimp only;refine Qg (jbn go y (by simp) ?_);have z:=x.set 0 (rawInt 0);obtain ⟨N,q,K,r⟩:=z;refine Qg (jbn q r (by simp) ?_);exact Hm (j:=0) (x:= .none) quiet λh' keep=>k h' λb o J e=>keep b o (((Tq s.heap I _).trans (Tq _ I _)).extBut b o J e)
end
section
variable {prog:Program} {w:World} {A:Around} {E:Value->Shared->Prop} {s:Shared} {a I:Addr} {oS:Obj} {es:Array (Int×Value)} {ep:Nat} {t:SetTable} {slot i:Nat}
def ItF.at (x:ItF h I vs) (k:∀o,h.get? I=some o->h'.get? I=some o):ItF h' I vs:=by
 obtain ⟨o,e,r⟩:=x;exact ⟨o,k o e,r⟩
def Aj (quiet:A.handled=none) (ne:a≠I) (D:SetD prog w oS es ep t) (pl:byT w=true\/(t.plain=true\/es.size<=1)):
 Walks prog w A I [I,a] [I] es.size (λi v=>∃e,(mK w a ep es)[i]? =some e/\v=e.2) (λi h=>(∃slot,stT w t i slot/\ItF h I #[.int (slot:Nat) 0, .int (i:Nat) 0, .ref a, .int es.size 0, .int ep 0])/\h.get? a=some oS) where
 sub:=λb q=>by rw [Qv.mp q];exact Qe
 frame:=λi h h' st keep=>⟨let ⟨r,m,g⟩:=st.1;⟨r,m,g.at λo e=>keep I Qe o e⟩,keep a (by simp) _ st.2⟩
 item:=λi s Q E y st k=>by
  obtain ⟨⟨r,m,g⟩,u⟩:=st;refine EJ g ne u D pl m y λe G h' he C x sb=>?_;exact k e.2 h' s.toks ⟨e,he,rfl⟩ ⟨⟨G,C,x⟩,sb.extBut a _ ne u⟩ λb o q e=>sb.extBut b o (λz=>q (by rw [z];exact Qv.mpr rfl)) e
 done:=λs Q E st k=>by
  obtain ⟨⟨r,m,g⟩,u⟩:=st;exact EK quiet g u D pl m (Qu _) λh' keep=>k h' s.toks λb o q e=>keep b o (λz=>q (by rw [z];exact Qv.mpr rfl)) e
 self:=λi s Q E st k=>let ⟨r,m,g⟩:=st.1;sN g k
def pV {g:Addr} {pls:List Nat} {r:Obj} {G:Nat} (quiet:A.handled=none) (ne:a≠I) (ne2:g≠I) (D:SetD prog w oS es ep t) (q:r.data= .seq (pls.map λ(p:Nat)=>rawInt p).toArray G) (hp:∀p∈pls,p<es.size):
 Walks prog w A I [I,a,g] [I] pls.length (λi v=>∃p e,pls[i]? =some p/\es[p]? =some e/\v=e.2) (λi h=>ItF h I #[.ref g, .int (i:Nat) 0, .ref a, .int es.size 0, .int ep 0]/\h.get? a=some oS/\h.get? g=some r) where
 sub:=λb m=>by rw [Qv.mp m];exact Qe
 frame:=λi h h' st keep=>⟨st.1.at λo e=>keep I Qe o e,keep a (by simp) _ st.2.1,keep g (by simp) _ st.2.2⟩
 item:=λi s Q E u st k=>by
  have C:=Qb u;have lt:=hp _ (Tf u);have y:es[pls[i]]? =some es[pls[i]]:=by simp [lt]
  refine AJ st.1 st.2.2 q st.2.1 D C y λh' x sb=>?_;exact k _ h' s.toks ⟨_,_,C,y,rfl⟩ ⟨x,sb.extBut a _ ne st.2.1,sb.extBut g _ ne2 st.2.2⟩ λb o m e=>sb.extBut b o (λz=>m (by rw [z];exact Qv.mpr rfl)) e
 done:=λs Q E st k=>AK quiet st.1 st.2.2 q st.2.1 D (Qu _) λh' keep=>k h' s.toks λb o m e=>keep b o (λz=>m (by rw [z];exact Qv.mpr rfl)) e
 self:=λi s Q E st k=>sN st.1 k
def WalkOk (prog:Program) (w:World) (h:Heap) (I a:Addr) (lo:Nat) (ns:List Int):Prop:=
 ∃(g:List Addr) (n:Nat) (P:Nat->Value->Prop) (St:Nat->Heap->Prop) (os:List Int),St 0 h/\I∈g/\(∀b∈g,b<h.objs.size/\(b=a\/lo<=b))/\n=os.length/\os.Perm ns/\(∀i v,P i v->∃tk k,os[i]? =some k/\v= .int k tk)/\∀m:Around,m.handled=none->Walks prog w m I g [I] n P St
def ua (D:SetD prog w oS es ep t) (he:e∈es.toList):∃tk,e.2= .int (ag e.2) tk:=by
 obtain ⟨⟨k,g,_⟩,_⟩:=D.elems e he;obtain ⟨tk,h⟩:=Value.isInt_shape g;exact ⟨tk,by rw [h];rfl⟩
def Bx {α β:Type} (g:α->β) (d:α) (l:List α):(List.range l.length).map (λi=>g (l.getD i d))=l.map g:=by
 apply TC
 ·simp
 ·intro i m q;simp at m;simp [m]
def iter_T {ns:List Int} {Q:Value->Shared->Prop} (T:iS prog w s.heap a (wZ w) ns) (few:ns.length<1000)
 (k:∀(h':Heap) (d) (I:Addr),(∀b o,s.heap.get? b=some o->h'.get? b=some o)->s.heap.objs.size<=I->I<h'.objs.size->h'.objs.size<=s.heap.objs.size+2->WalkOk prog w h' I a s.heap.objs.size ns->Q (.ref I) {s with heap:=h',drawn:=d}):
 wpAny (model prog w) A (pyIter (.ref a)) Q E s:=by
 obtain ⟨o,es,ep,t,⟨u,ex,data⟩,elems,⟨fit,good⟩,rfl,nd⟩:=T;have D:SetD prog w o es ep t:=⟨ex,data,elems,fit,good⟩;have ty:s.TypeIs (.ref a) "set":=⟨_,u,ex.1⟩;have y:a<s.heap.objs.size:=Qr u;refine wpAny_pyIter_slot ty F.slot_set_iter (Ts F.slot_set_iter ty iJ ?_ (F.args_set_iter_1 _));unfold Builtin.«frozenset.__iter__» Builtin.Frozenset.slot0 Builtin.Frozenset.sizeOf;refine Qg (Qg (Qq (show wpAny _ _ (pure a) _ _ s from Qq ?_)));refine Qg (Qg (jbv u data fit (Qq ?_)));unfold setDrawn;refine Qg (Qg (jbF u data fit ?_));dsimp only;refine Qg (rF (Qq ?_));have vals:∀l:List (Int×Value),l.Perm es.toList->(l.map λe=>ag e.2).Perm (es.toList.map λe=>ag e.2):=λl p=>p.map _;have P:es.size<1000:=by simpa using few
 split
 ·refine Qg (HG es.size (List.range es.size) _ _ jaN λd ys hp=>?_);have ly:ys.length=es.size:=by rw [hp.length_eq,jaN]
  simp only [newTuple]
  refine Qg (jai ?_ (by
   show (List.map _ ys).toArray.size<=sizeLine
   rw [sizeLine_eq,QJ,Qa];omega))
  dsimp only;have g1:(s.heap.push {cls:= .type "tuple",data:= .seq (ys.map λ(p:Nat)=>rawInt p).toArray}).get? a=some o:=Qi _ u;have gt:(s.heap.push {cls:= .type "tuple",data:= .seq (ys.map λ(p:Nat)=>rawInt p).toArray}).get? s.heap.objs.size=some {cls:= .type "tuple",data:= .seq (ys.map λ(p:Nat)=>rawInt p).toArray}:=Qw _ rfl;have r:(s.heap.push {cls:= .type "tuple",data:= .seq (ys.map λ(p:Nat)=>rawInt p).toArray}).objs.size=s.heap.objs.size+1:=QV ..;generalize Y:s.heap.push {cls:= .type "tuple",data:= .seq (ys.map λ(p:Nat)=>rawInt p).toArray}=m at g1 gt r⊢;have U:∀b o,s.heap.get? b=some o->m.get? b=some o:=λb o e=>by rw [<-Y];exact Qi _ e
  refine Qg (wpAny_setEpoch_of (s:={s with heap:=m,drawn:=d}) g1 data fit ?_);simp only [newFields];refine Qg (jai (Qq ⟨_,rfl,"set_iterator",_,⟨_,Qw _ rfl,rfl⟩,yk.lookup,?_⟩));refine k _ d _ (λb o e=>Qi _ (U b o e)) (by show _<=m.objs.size;rw [r];exact jav _) (by rw [QV];exact Td _) (by rw [QV,r];exact Qu _) ?_;have K:a≠m.objs.size:=by rw [r];exact QN (Tx y)
  have J:s.heap.objs.size≠m.objs.size:=by rw [r];exact QN (Td _)
  have Mu:∀p∈ys,p<es.size:=λp Mq=>by
   have:=hp.mem_iff.mp Mq;exact jbm.mp this
  refine ⟨[m.objs.size,a,s.heap.objs.size],ys.length,_,_,ys.map λp=>ag (es.toList.getD p (0, .none)).2,⟨⟨_,Qw _ rfl,rfl,rfl⟩,Qi _ g1,Qi _ gt⟩,Qe,λb g=>?_,(Qa ..).symm,?_,λi v M=>?_,λA' q=>pV q K J D rfl Mu⟩
  ·rw [QV]
   rcases Qn.mp g with z|g
   ·rw [z];exact ⟨Td _, .inr (by rw [r];exact jav _)⟩
   rcases Qn.mp g with z|g
   ·rw [z,r];exact ⟨Tx (Tx y), .inl rfl⟩
   ·rw [Qv.mp g,r];exact ⟨Tx (Td _), .inr (Qu _)⟩
  ·have N:=hp.map λp=>ag (es.toList.getD p (0, .none)).2;have e:=Bx (λe:Int×Value=>ag e.2) (0, .none) es.toList;rw [jaq] at e;rw [e] at N;exact N
  ·obtain ⟨p,e,Z,O,rfl⟩:=M;have L:e∈es.toList:=Qc (i:=p) ‹O›;obtain ⟨tk,ht⟩:=ua D L;refine ⟨tk,ag e.2,?_,ht⟩;have X:es.toList.getD p (0, .none)=e:=by rw [Qk,Array.getElem?_toList,O];rfl
   rw [Qh,Z];show some (ag (es.toList.getD p (0, .none)).2)=_;rw [X]
 ·rename_i z
  have pl:byT w=true\/(t.plain=true\/es.size<=1):=by
   have C:¬(!byT w && (!t.plain && decide (es.size>1)))=true:=z
   cases m:byT w with
   |true=>exact .inl rfl
   |false=>
    cases h2:t.plain with
    |true=>exact .inr (.inl rfl)
    |false=>
     right;right
     rw [m,h2] at C;simp at C;exact C
  refine Qg (Qq (Qg (wpAny_setEpoch_of u data fit ?_)));simp only [newFields];refine Qg (jai (Qq ⟨_,rfl,"set_iterator",_,⟨_,Qw _ rfl,rfl⟩,yk.lookup,?_⟩));refine k _ s.drawn _ (λb o e=>Qi _ e) (Qu _) (by rw [QV];exact Td _) (by rw [QV];exact jav _) ?_
  have G:(mK w a ep es).size=es.size:=by
   have:=(UK w a ep es).length_eq
   simpa using this
  refine ⟨[s.heap.objs.size,a],es.size,_,_,(mK w a ep es).toList.map λe=>ag e.2,⟨⟨0,Or.inr (wL good.1),_,Qw _ rfl,rfl,rfl⟩,Qi _ u⟩,Qe,λb g=>?_,by rw [Qa,jaq,G],vals _ (UK w a ep es),λi v M=>?_,λA' q=>Aj q (QN y) D pl⟩
  ·rw [QV]
   rcases Qn.mp g with z|g
   ·rw [z];exact ⟨Td _, .inr (Qu _)⟩
   ·rw [Qv.mp g];exact ⟨Tx y, .inl rfl⟩
  ·obtain ⟨e,he,rfl⟩:=M;have L:e∈es.toList:=(UK w a ep es).mem_iff.mp (Qc (i:=i) ‹he›);obtain ⟨tk,ht⟩:=ua D L;refine ⟨tk,ag e.2,?_,ht⟩;rw [Qh,Array.getElem?_toList,he];rfl
end
section
variable {prog:Program} {w:World} {A:Around} {E:Value->Shared->Prop} {s:Shared} {a I:Addr}
def hint_T {ns:List Int} {Q:Bool->Shared->Prop} (ty:s.TypeIs (.ref a) "set") (k:Q false s):wpAny (model prog w) A (Builtin.List.listLengthHint (.ref a)) Q E s:=by
 unfold Builtin.List.listLengthHint;refine Qg (wpAny_specialOf ty F.slot_set_len.lookup ?_);dsimp only;rw [show splitId "set.__len__"=some ("set","__len__") by decide+kernel];dsimp only;refine Qg (wpAny_isInstance ty sub_set_self ?_);rw [QP (by simp),QH (by decide+kernel)];exact Qg (wpAny_typeOf ty (Qq k))
theorem CK:∀{vs:List Value} {os:List Int},vs.length=os.length->(∀(j:Nat) (v:Value),vs[j]? =some v->∃tk k,os[j]? =some k/\v=Value.int k tk)->PyProof.Rows.IntsAre vs os
 |[],[],_,_=> .nil
 |v::vs,k::os,hl,h=>by
  obtain ⟨tk,r,g,rfl⟩:=h 0 v rfl;cases g
  exact .cons k tk (CK ‹hl› λj v m=>by
   obtain ⟨tk,k,g,q⟩:=h (j+1) v ‹m›
   exact ⟨tk,k,by simpa using g,q⟩)
 |[],_::_,h,_=>by simp at h
 |_::_,[],h,_=>by simp at h
def Du {ns:List Int} {Q:List Value->Shared->Prop} (quiet:A.handled=none) (T:iS prog w s.heap a (wZ w) ns) (few:ns.length<1000)
 (k:∀(h':Heap) (d) (tk:Nat) (vs:List Value) (os:List Int),(∀b o,s.heap.get? b=some o->h'.get? b=some o)->s.heap.objs.size<h'.objs.size->PyProof.Rows.IntsAre vs os->os.Perm ns->Q vs {s with heap:=h',drawn:=d,toks:=tk}):wpAny (model prog w) A (collect (.ref a)) Q E s:=by
 have Y:a<s.heap.objs.size:=let ⟨_,_,_,_,⟨g,_⟩,_⟩:=T;Qr g
 unfold collect;refine Qg (wpAny_runValue (jbf PySem.F.entry_proto_collect ?_));rw [jaH PySem.F.plain_proto_collect _];show wpAny _ A.in1 (newList []>>=λl=>again (.builtin "list.__iadd__" ⟨[l, .ref a],[]⟩)) _ _ s;refine Qg (jai (Qq ⟨plainId_quiet PySem.F.plain_list_iadd _,jbf PySem.F.entry_list_iadd ?_⟩));rw [jaH PySem.F.plain_list_iadd _];show wpAny _ A.in1 (Builtin.List.listExtendWith (.ref s.heap.objs.size) (.ref a) (.ref s.heap.objs.size)) _ _ _;unfold Builtin.List.listExtendWith;generalize N:s.heap.push {cls:= .type "list",data:= .seq ([]:List Value).toArray}=q;have g1:q.get? s.heap.objs.size=some {cls:= .type "list",data:= .seq ([]:List Value).toArray}:=by rw [<-N];exact Qw _ rfl
 have X:q.objs.size=s.heap.objs.size+1:=by rw [<-N];exact QV ..
 have O:∀b o,s.heap.get? b=some o->q.get? b=some o:=λb o e=>by rw [<-N];exact Qi _ e
 have M:iS prog w q a (wZ w) ns:=T.kept λo e=>O a o e;have C:Shared.TypeIs {s with heap:=q} (.ref a) "set":=let ⟨_,_,_,_,⟨g,x,_⟩,_⟩:=M;⟨_,g,x.1⟩
 have ne:s.heap.objs.size≠a:=jaI Y;refine Qg (wpAny_typeOf (s:={s with heap:=q}) C ?_);have c1:Builtin.List.listSameRef (.ref s.heap.objs.size) (.ref a)=false:=by unfold Builtin.List.listSameRef;simpa using ne
 rw [c1,show (Value.type "set"==Value.type "list")=false by decide,show (Value.type "set"==Value.type "tuple")=false by decide,QP (by simp)];refine Qg (iter_T (s:={s with heap:=q}) M few λr d I u K hI D W=>?_);dsimp only at u K D;have T2:iS prog w r a (wZ w) ns:=M.kept λo e=>u a o e;have y:Shared.TypeIs {s with heap:=r,drawn:=d} (.ref a) "set":=let ⟨_,_,_,_,⟨g,x,_⟩,_⟩:=T2;⟨_,g,x.1⟩
 refine Qg (jaD (hint_T (ns:=ns) (s:={s with heap:=r,drawn:=d}) y ?_));rw [QH (by decide+kernel)];refine Qg (jca ?_);have g2:=u _ _ g1;have g3:=TV (Obj.mapSeq (·.push Value.none)) g2 rfl;have g4:=TV (Obj.mapSeq (·.pop)) g3 rfl;refine Qg (show wpAny _ A.in1 (updateSeq s.heap.objs.size (·.push .none)>>=λ_=>updateSeq s.heap.objs.size (·.pop)) _ _ _ from Qg (wpAny_updateSeq g2 rfl (wpAny_updateSeq g3 rfl ?_)));obtain ⟨fp,n,P,St,os,G,mI,L,hn,perm,val,Wk⟩:=W
 have out:s.heap.objs.size∉fp:=λz=>by
  rcases (L _ z).2 with e|e
  ·exact ne e
  ·dsimp only at e;rw [X] at e;exact absurd e (Nat.not_le.mpr (Td _))
 have J:n<=sizeLine:=by
  have:=perm.length_eq;rw [sizeLine_eq];omega
 have oth:∀b o,b≠s.heap.objs.size->r.get? b=some o->((r.update s.heap.objs.size (Obj.mapSeq (·.push Value.none))).update s.heap.objs.size (Obj.mapSeq (·.pop))).get? b=some o:=
  λb o m e=>(Tu _ _ (Ne.symm m)).trans ((Tu _ _ (Ne.symm m)).trans e)
 have WS:=(Wk A.in1 (by simp [quiet])).toS;refine Qq ⟨plainId_quiet PySem.F.plain_extend_loop _,codeAny_extend_loopS WS J _ out _ n 0 _ _ _ rfl (jar _) ((Wk A.in1 (by simp [quiet])).frame 0 r _ G λb m o e=>oth b o (λz=>out (z▸m)) e) g4 (ItemsOf.nil P) λs' acc c t U items=>?_⟩;refine (show wpAny _ A (load s.heap.objs.size>>=_) _ _ s' from Qg (wpAny_load U (Qq ?_)));obtain ⟨h',g',d',RM,NX⟩:=s';have eg:g'=s.gens:=t.gens;have ed:d'=d:=t.drawn;have eo:NX=s.os:=t.os;subst eg;subst ed;subst eo;refine k h' d' RM acc.toList os (λb o e=>?_) (Qr U) (CK ?_ λj v hv=>?_) perm
 ·have m:b<s.heap.objs.size:=Qr e;refine t.heap b o (λz=>?_) (oth b o (QN m) (u b o (O b o e)))
  rcases Qn.mp z with z|z
  ·exact absurd m (by rw [z];exact jan _)
  ·rw [Qv.mp z] at m;rw [X] at K;exact absurd m (Nat.not_lt.mpr (QW (jav _) K))
 ·rw [jaq,items.1,hn]
 ·obtain ⟨tk,Z,Nd,Ry⟩:=val j v (items.2 j v ‹hv›);exact ⟨tk,Z,Nd,Ry⟩
def EI {ns:List Int} {Q:Value->Shared->Prop} (quiet:A.handled=none) (T:iS prog w s.heap a (wZ w) ns) (few:ns.length<64)
 (k:∀(h':Heap) (d) (tk:Nat) (L:Addr) (out:Array Value) (os:List Int) (e:Nat),(∀b o,s.heap.get? b=some o->h'.get? b=some o)->s.heap.objs.size<=L->h'.get? L=some (PyProof.Rows.seqObj "list" out e)->PyProof.Rows.IntsAre out.toList os->os.Perm ns->os.Pairwise (·<=·)->Q (.ref L) {s with heap:=h',drawn:=d,toks:=tk}):
 wpAny (model prog w) A (call (.builtin "sorted") [.ref a]) Q E s:=by
 refine Calls.call_function_entry PyProof.Rows.kind_sorted PyProof.Rows.plain_sorted PyProof.Rows.entry_sorted (PyProof.Rows.args_sorted1 _) ?_;unfold Builtin.«sorted»;refine Qg (m:=checkCount "sorted" 1 1 _) (Qq (Qg (Du (by simp [quiet]) T ⋯ λr d tk vs os keep lt q perm=>Qg (wpAny_newList ?_ (by rw [sizeLine_eq,q.length,perm.length_eq];omega)))));have t:(r.push (PyProof.Rows.seqObj "list" vs.toArray 0)).get? r.objs.size=some (PyProof.Rows.seqObj "list" vs.toArray 0):=Qw _ rfl
 have lv:vs.length<64:=by
  have C:=q.length;have z:=perm.length_eq;omega
 show wpAny _ _ _ _ _ {s with heap:=r.push (PyProof.Rows.seqObj "list" vs.toArray 0),drawn:=d,toks:=tk};refine Qg (jaD (Ts PyProof.Rows.slot_list_sort ⟨_,t,rfl⟩ PyProof.Rows.entry_list_sort (PyProof.Rows.list_sort_tree (s:={s with heap:=r.push (PyProof.Rows.seqObj "list" vs.toArray 0),drawn:=d,toks:=tk}) t q lv λout y a1 a2 a3=>⟨_,rfl,?_⟩) (PyProof.Rows.args_list_sort _)));obtain ⟨e,he⟩:=PyProof.Rows.sortedHeap_at (out:=out) t;refine Qq ⟨_,rfl,k _ d tk _ out y e (λb o g=>?_) (jbM lt) he a1 (a2.trans perm) a3⟩;have u:b<r.objs.size:=Qr (keep b o g);rw [PyProof.Rows.sortedHeap_old (QN u) (by rw [QV];exact Tx u)];exact Qi _ (keep b o g)
end
end S
namespace S
open PySem PySem.Spec PyProof.Rows L2
def iS.nodup (T:iS prog w h a b ns):ns.Nodup:=by
 obtain ⟨_,_,_,_,_,_,_,_,nd⟩:=T;exact nd
def bt_set:bootBuiltins "set"=some (.type "set"):=by decide+kernel
def wK:bootBuiltins "sorted"=some (.builtin "sorted"):=by decide+kernel
theorem le_lt:∀{l:List Int},l.Pairwise (·<=·)->l.Nodup->l.Pairwise (·<·)
 |[],_,_=>List.Pairwise.nil
 |x::l,h,nd=>by
  obtain ⟨r,q⟩:=Qo.mp h;obtain ⟨n1,m⟩:=jae.mp nd;refine Qo.mpr ⟨λy g=>?_,le_lt q m⟩;have:=r y g;have:x≠y:=λe=>n1 (e▸g);omega
section
variable {X:Cx}
def Inv.redrawn (I:Inv X pins σ H s):Inv X pins σ H {s with drawn:=d}:=⟨I.ok,I.os,I.bare,I.base,I.loc,I.cell,I.free,I.freeC,I.pin,I.hok,I.len⟩
def By (K:Frg):V->Hp->VK->Prop:=λx H1 Q=>∃(p:Addr) (ns:List Int),x= .ref p/\SqL K H1 p (ns.map V.int)/\ns.length<60/\∀(os:List Int) (l:Addr),os.Pairwise (·<·)->(∀k,k∈os↔k∈ns)->H1 l=none->Q (.ref l) (upd H1 l (.lst (os.map V.int)))
def Hh (K:Frg) (g:TE):TE:=λσ H Q=>g σ H λx H1=>By K x H1 Q
theorem cg:∀{ns:List Int} {us:List Value},IntsAre us ns->xD (ns.map V.int) us
 |[],_, .nil=> .nil
 |n::ns,_, .cons _ t r=> .cons ⟨t,rfl⟩ (cg r)
def Fh (Z:X.calm=true) (g1:Gl X "sorted") (O:X.mg "sorted"=none) (g2:Gl X "set") (m2:X.mg "set"=none) (he:PE X e te)
 (D:starEach [.Call (.Name "set" p2) [e] [] q2] X.env=[(false,eval (.Call (.Name "set" p2) [e] [] q2) X.env)]:=by rfl) (G:starEach [e] X.env=[(false,eval e X.env)]:=by rfl):
 PE X (.Call (.Name "sorted" p1) [.Call (.Name "set" p2) [e] [] q2] [] q1) (Hh X.K te):=by
 intro pins s σ H Q I h;refine jax (WR I g1 O wK ?_ nofun nofun);refine PyProof.Rows.callWith_builtin1 ?_ D (by rfl);rw [D];show wpAny _ _ (spliced ((false,eval (.Call (.Name "set" p2) [e] [] q2) X.env)::backTo q1 (starEach [] X.env))) _ _ s;refine Calls.spliced_cons ?_;refine jax (WR I g2 m2 bt_set ?_ nofun nofun);refine TF (thn ((WK he fC G) q2 pins s σ H (λvs H1=>match vs with|[x]=>By X.K x H1 Q|_=>False) I h) ?_) G (by rfl);rintro us s1 ⟨vs,H1,z,r,q⟩
 match vs,r,q with
 |[x],r,q=>
  obtain ⟨p,ns,rfl,U,few,k⟩:=q;obtain ⟨u,rfl,M⟩:=dI r;cases M;obtain ⟨its,N,pl,_⟩:=z.list U;have A:=Xx N;have hl:=A.length;have quiet:=z.ok.hd Z;refine wI quiet pl.isList ‹A› (by simpa using (by omega:its.length<900)) λt y T C P Y OY=>?_;refine Calls.spliced_nil ?_;have OB:∀b o,s1.heap.get? b=some o->t.get? b=some o:=λb o e=>OY b o (Qr e) e;have J:Inv X pins σ H1 {s1 with heap:=t,toks:=y}:=z.kept (t':=y) OB;refine EI (s:={s1 with heap:=t,toks:=y}) quiet C ⋯ λh3 d g L out os e OX le gL m perm sorted=>?_;have I3:=Inv.redrawn (d:=d) J;have nd:os.Nodup:=perm.nodup_iff.mpr C.nodup;have lo:=m.length;have po:=perm.length_eq;have I4:Inv X pins σ (upd H1 L (.lst (os.map V.int))) {s1 with heap:=h3,drawn:=d,toks:=g}:=I3.laid (t':=g) OX le (show ZY X.prog X.w _ _ _ (.lst (os.map V.int)) from ⟨?_,out.toList,e,cg m,?_⟩)
  ·exact ⟨.ref L,_,I4,rfl,k os L (le_lt sorted nd) (λx=>by rw [perm.mem_iff];exact P x) (J.hok.fresh le)⟩
  ·rw [Qa,sizeLine_eq];omega
  ·simpa using gL
end
section
variable {X:Cx}
def rMinT (K:Frg):List V->Hp->VK->Prop:=λxs H Q=>∃(p:Addr) (ns:List Int),xs=[.ref p]/\SqT K H p (ns.map V.int)/\0<ns.length/\∀m,m∈ns->(∀x∈ns,m<=x)->Q (.int m) H
def IU (K:Frg):List V->Hp->VK->Prop:=λxs H Q=>∃(p:Addr) (ns:List Int),xs=[.ref p]/\SqL K H p (ns.map V.int)/\0<ns.length/\∀m,m∈ns->(∀x∈ns,x<=m)->Q (.int m) H
def Vm (m:IntsAre its ns):∀(i:Nat) (v:Value),its.toArray[i]? =some v->∃t,v= .int ((λi=>ns.getD i 0) i) t:=λi v g=>PyProof.Rows.IntsAre.int_at m i v ‹g›
def Dv (N:X.calm=true):Ve X (.builtin "min") (rMinT X.K):=by
 intro pins s σ H xs us Q I r h;obtain ⟨p,ns,rfl,G,U,q⟩:=h;obtain ⟨u,rfl,y⟩:=dI r;cases y;obtain ⟨its,C,ht,hz⟩:=I.tuple G;have m:=Xx C;have J:=m.length;have below:p≠s.heap.objs.size:=let ⟨_,e,_⟩:=ht;QN (Qr e)
 refine call_min_walk (jaw ht ⟨_,_,_,_,_,_,_,rfl,Walks.tuple (A:=X.A.in1) (I.ok.hd N) _ p below its.toArray,⟨⟨_,Qw _ rfl,rfl,rfl⟩,ht.push _⟩,λb O=>?_,by simpa using (by omega:0<its.length),CmpOf.ints_lt (λi=>ns.getD i 0) (Vm m),λv h' tk P L=>?_⟩)
 ·rw [QV]
  rcases Qn.mp O with z|z
  ·rw [z];exact Td _
  ·rw [Qv.mp z];obtain ⟨_,e,_⟩:=ht;exact Tx (Qr e)
 ·obtain ⟨t,rfl⟩:=Vm m _ v P;obtain ⟨T,w⟩:=argBest_lt (λi=>ns.getD i 0) (its.toArray.size - 1);have g:its.toArray.size=ns.length:=by simpa using J
  rw [g] at T w;rw [g];refine ⟨.int _,H,I.kept (t':=tk) λb o e=>L b o (λz=>?_) (Qi _ e),⟨t,rfl⟩,q _ ?_ λx D=>?_⟩
  ·rw [Qv.mp z] at e;exact absurd (Qr e) (jan _)
  ·dsimp only;rw [Qk,Qb ⋯];exact Tf _
  ·obtain ⟨j,M,rfl⟩:=QS D;have:=w j ⋯;rwa [show ns.getD j 0=ns[j] by rw [Qk,Qb M];rfl] at this
def call_maxL (N:X.calm=true):Ve X (.builtin "max") (IU X.K):=by
 intro pins s σ H xs us Q I r h;obtain ⟨p,ns,rfl,G,U,q⟩:=h;obtain ⟨u,rfl,y⟩:=dI r;cases y;obtain ⟨its,C,pl,hz⟩:=I.list G;have ht:=pl.isList;have m:=Xx C;have J:=m.length;have below:p≠s.heap.objs.size:=let ⟨_,e,_⟩:=ht;QN (Qr e)
 refine call_max_walk (jaL ht ⟨_,_,_,_,_,_,_,rfl,Walks.list (A:=X.A.in1) (I.ok.hd N) _ p below its.toArray,⟨⟨_,Qw _ rfl,rfl,rfl⟩,ht.push _⟩,λb O=>?_,by simpa using (by omega:0<its.length),CmpOf.ints_gt (λi=>ns.getD i 0) (Vm m),λv h' tk P L=>?_⟩)
 ·rw [QV]
  rcases Qn.mp O with z|z
  ·rw [z];exact Td _
  ·rw [Qv.mp z];obtain ⟨_,e,_⟩:=ht;exact Tx (Qr e)
 ·obtain ⟨t,rfl⟩:=Vm m _ v P;obtain ⟨T,w⟩:=argBest_gt (λi=>ns.getD i 0) (its.toArray.size - 1);have g:its.toArray.size=ns.length:=by simpa using J
  rw [g] at T w;rw [g];refine ⟨.int _,H,I.kept (t':=tk) λb o e=>L b o (λz=>?_) (Qi _ e),⟨t,rfl⟩,q _ ?_ λx D=>?_⟩
  ·rw [Qv.mp z] at e;exact absurd (Qr e) (jan _)
  ·dsimp only;rw [Qk,Qb ⋯];exact Tf _
  ·obtain ⟨j,M,rfl⟩:=QS D;have:=w j ⋯;rwa [show ns.getD j 0=ns[j] by rw [Qk,Qb M];rfl] at this
end
structure Bl3 (mg:Str->Option Value):Prop where
 sorted:mg "sorted"=none
 set:mg "set"=none
section
variable {X:Cx} {e o:Expr} {es:List Expr} {ta:TE} {t:TA}
def Hi (K:Frg) (m:Str) (f:Addr) (sp:Sp) (E:XK) (ta:TE) (t:TA):TE:=λσ H Q=>ta σ H λx H1=>∃a C g fs,x= .ref a/\H1 a=some (.ins C g fs)/\Cls K C/\Meth K C m f/\fs.lookup m=none/\t σ H1 λvs q=>sp (x::vs) q Q E
def pe_methB (he:PE X o ta) (F:FnOk X.prog X.w X.K X.mg X.base CX k f fd ps sp) (hr:Room k X.A) (L:xi X.K fd ps []) (G:VE CX X E) (ha:PA X (e::es) t)
 (O:starEach (e::es) X.env=(false,eval e X.env)::starEach es X.env:=by rfl) (N:(backTo pos (starEach es X.env)).any (·.1)=false:=by rfl)
 (ht:eval (.Call (.Attribute o m apos) (e::es) [] pos) X.env=(do
  let ov<-eval o X.env
  standAt apos.atName
  let (f,first)<-holding [ov] (getMethod ov m pl)
  callWith pos f first (backTo pos (starEach (e::es) X.env)) (backToKw pos (keywordEach [] X.env))):=by rfl):
 PE X (.Call (.Attribute o m apos) (e::es) [] pos) (Hi X.K m f sp E ta t):=by
 intro pins s σ H Q I h;refine PySem.W.methodCall_KW (pl:=pl) (thn (he pins s σ H _ I h) λu s1 J=>?_) ht;obtain ⟨x,H1,y,z,a,C,P,fs,ex,M,c,hm,l,q⟩:=J;subst ex;obtain rfl:u=Value.ref a:=z;refine jA y M c hm l ?_;refine jbT (first:=[.ref a]) (h₀:=X.base) I.ok.mod.kin hm.kp (thn (ha pos pins s1 σ H1 _ y q) ?_) O N;rintro us s2 ⟨vs,T,g,r,D⟩;refine ⟨g.kIn,?_⟩;exact sQ (us:= .ref a::us) (vs:= .ref a::vs) F hr L .nil G g (.cons rfl r) (by rw [jbc];exact D)
end
section
variable {B G0 H:Hp} {cs:yp} {ds:Dat} {Q:VK} {E:XK} {v w u:V} {K:Frg} {C L:Addr} {x:PyData} {σ:L2.St}
def kMB (K:Frg) (m:Str) (f:Addr) (sp:Sp) (E:XK) (t:TA) (σ:L2.St) (Q:VK):VK:=λx H1=>∃a C g fs,x= .ref a/\H1 a=some (.ins C g fs)/\Cls K C/\Meth K C m f/\fs.lookup m=none/\t σ H1 λvs q=>sp (x::vs) q Q E
def rd_methB (h:ta σ H (kMB K m f sp E t σ Q)):Hi K m f sp E ta t σ H Q:=h
def sW (S:Sta B G0 H cs ds) (h:Has ds (Gi C x) v) (cl:Cls K C) (g:Meth K C m f) (hm:(m==("form":Str))=false) (k:t σ H λvs r=>sp (v::vs) r Q E):kMB K m f sp E t σ Q v H:=by
 obtain ⟨p,q,w,rfl,hp,s⟩:=S.ins h;exact ⟨p,C,q,_,rfl,hp,cl,g,by rw [jaV,hm];rfl,k⟩
def HB (K:Frg) (Q:VK):VK:=λx H1=>By K x H1 Q
def rd_sortS (h:te σ H (HB K Q)):Hh K te σ H Q:=h
def WG {ns:List Int} (S:Sta B G0 H cs ds) (h:(L,ns.map PyData.int)∈cs) (few:ns.length<60) (k:∀(os:List Int) (l:Addr) (H':Hp),os.Pairwise (·<·)->(∀z,z∈os↔z∈ns)->zS H H'->Sta B G0 H' ((l,os.map PyData.int)::cs) ds->Q (.ref l) H'):HB K Q (.ref L) H:=by
 obtain ⟨vs,hp,u⟩:=S.vwC h;obtain ⟨G,r⟩:=id S;rw [yF (u G r)] at hp;exact ⟨L,ns,rfl,SqL.of hp,few,λos l q m g=>k os l _ q m (zS.new g _) (S.newL g λG _=>Yf os)⟩
def IH {ns:List Int} (S:Sta B G0 H cs ds) (h:Has ds (.tuple (ns.map PyData.int)) v) (hn:0<ns.length) (k:∀m,m∈ns->(∀x∈ns,m<=x)->Q (.int m) H):rMinT K [v] H Q:=by
 obtain ⟨p,vs,rfl,hp,r,q,al⟩:=S.tupAll h;obtain ⟨G,g⟩:=id q;rw [yF (al G g.2.2.2.2.2.2)] at hp;exact ⟨p,ns,rfl,SqT.of hp,hn,k⟩
def IJ {ns:List Int} (S:Sta B G0 H cs ds) (h:(L,ns.map PyData.int)∈cs) (hn:0<ns.length) (k:∀m,m∈ns->(∀x∈ns,x<=m)->Q (.int m) H):IU K [.ref L] H Q:=by
 obtain ⟨vs,hp,u⟩:=S.vwC h;obtain ⟨G,g⟩:=id S;rw [yF (u G g)] at hp;exact ⟨L,ns,rfl,SqL.of hp,hn,k⟩
theorem qy {α:Type} (a:α):∀n:Nat,(List.replicate n [a]).flatten=List.replicate n a
 |0=>rfl
 |n+1=>by rw [TH,jaf,qy a n];rfl
def IG (S:Sta B G0 H cs ds) (h:(L,[PyData.int i])∈cs) (hn:n<=1000) (k:∀l H',zS H H'->Sta B G0 H' ((l,(List.replicate n i).map PyData.int)::cs) ds->Q (.ref l) H'):rRep (.ref L) (.int (n:Int)) H Q:=by
 obtain ⟨vs,hp,u⟩:=S.vwC h;obtain ⟨G,m⟩:=id S;have e:=yF (ns:=[i]) (u G m);subst e;refine ⟨L,(n:Int),_,rfl,rfl,hp,⋯,⋯,?_,λp g=>?_⟩
 ·show 1*n<=sizeLine;have:1000<=sizeLine:=by decide
  omega
 ·rw [Tj];show Q (.ref p) (upd H p (.lst (List.replicate n [V.int i]).flatten));rw [qy];refine k p _ (zS.new g _) ?_;have:=S.newL (vs:=(List.replicate n i).map V.int) g λG _=>Yf (List.replicate n i);rw [jbz] at this;rw [jbz] at this⊢;exact this
end
abbrev Cl:=Int×Int×Int
noncomputable def zG (c:Cl):PyData:= .tuple [.int c.1, .int c.2.1, .int c.2.2]
noncomputable def zo (l:List Cl):PyData:= .list (l.map zG)
noncomputable def amV (l:List Cl):List Int:=l.map λc=>c.1
structure ClOk (n:Nat) (l:List Cl):Prop where
 pos:0<l.length
 few:l.length<=8
 nn:∀c∈l,0<=c.1/\0<=c.2.1/\0<=c.2.2
 sz:∀c∈l,Sz n c.1
def yi (l:List Cl):(amV l).length=l.length:=Qa _
theorem ba:∀as:List Int,∃ls:List Int,ls.Pairwise (·<·)/\∀k,k∈ls↔k∈as
 |[]=>⟨[],List.Pairwise.nil,λ_=>Iff.rfl⟩
 |a::as=>by
  obtain ⟨ls,q,s⟩:=ba as;refine ⟨ls.filter (·<a)++a::ls.filter (a<·),?_,λk=>?_⟩
  ·refine jac.mpr ⟨q.filter _,Qo.mpr ⟨λy g=>?_,q.filter _⟩,λx r y g=>?_⟩
   ·simpa using (QU.mp g).2
   ·have m:x<a:=by simpa using (QU.mp r).2
    rcases Qn.mp g with rfl|g
    ·exact m
    ·have:a<y:=by simpa using (QU.mp g).2
     omega
  ·rw [QY,Qn,QU,QU,Qn,s];simp only [decide_eq_true_eq]
   constructor
   ·rintro (⟨h,_⟩|h|⟨h,_⟩)
    ·exact .inr h
    ·exact .inl h
    ·exact .inr h
   ·rintro (h|h)
    ·exact .inr (.inl h)
    ·rcases Int.lt_trichotomy k a with c|c|c
     ·exact .inl ⟨h,c⟩
     ·exact .inr (.inl c)
     ·exact .inr (.inr ⟨h,c⟩)
theorem Zi:∀{x y:List Int},x.Pairwise (·<·)->y.Pairwise (·<·)->(∀k,k∈x↔k∈y)->x=y
 |[],[],_,_,_=>rfl
 |[],b::y,_,_,h=>absurd ((h b).mpr (Qe ..)) Qp
 |a::x,[],_,_,h=>absurd ((h a).mp (Qe ..)) Qp
 |a::x,b::y,h1,h2,h=>by
  obtain ⟨a1,a2⟩:=Qo.mp h1;obtain ⟨r,s⟩:=Qo.mp h2
  have e:a=b:=by
   rcases Qn.mp ((h a).mp (Qe ..)) with e|e
   ·exact e
   ·rcases Qn.mp ((h b).mpr (Qe ..)) with q|q
    ·exact q.symm
    ·have:=r a e;have:=a1 b q;omega
  subst e;rw [Zi a2 s λk=>?_];have g:=h k;rw [Qn,Qn] at g
  constructor
  ·intro m
   rcases g.mp (.inr m) with e|e
   ·subst e;exact absurd (a1 k m) (Int.lt_irrefl _)
   ·exact e
  ·intro m
   rcases g.mpr (.inr m) with e|e
   ·subst e;exact absurd (r k m) (Int.lt_irrefl _)
   ·exact e
noncomputable def lvV (as:List Int):List Int:=(ba (0::as)).choose
def WN (nn:∀a∈as,0<=a):LvOk as (lvV as):=
 ⟨(ba (0::as)).choose_spec.1,λk=>by rw [lvV,(ba (0::as)).choose_spec.2 k,Qn],nn⟩
def lvV_eq {as os:List Int} (m:os.Pairwise (·<·)) (g:∀z,z∈os↔z∈0::as):os=lvV as:=
 Zi m (ba (0::as)).choose_spec.1 λk=>by rw [g,lvV,(ba (0::as)).choose_spec.2 k]
theorem Hy:∀{ls as:List Int},ls.Nodup->(∀k∈ls,k∈as)->ls.length<=as.length
 |[],_,_,_=>jar _
 |a::ls,as,nd,h=>by
  obtain ⟨n1,m⟩:=jae.mp nd;have:=Hy (ls:=ls) (as:=as.erase a) m λk g=>(List.mem_erase_of_ne (λ(e:k=a)=>n1 (e▸g))).mpr (h k (Qf _ g));have q:=List.length_erase_of_mem (h a (Qe ..));have:=jbg (h a (Qe ..));rw [Qy];omega
def LvOk.few (h:LvOk as ls):ls.length<=as.length+1:=by
 have:=Hy (ls:=ls) (as:=0::as) (h.rise.imp λ{a b} (m:a<b)=>by omega) λk g=>by rw [Qn];exact (h.mem k).mp g
 simpa using this
def mW (h0:0<=x) (h:x<=y) (z:Sz n y):Sz n x:=by unfold Sz at*;omega
theorem dN (m:0<=b):∀{l:List Int},(∀x∈l,0<=x/\x<=b)->0<=l.sum/\l.sum<=l.length*b
 |[],_=>by simp
 |x::l,h=>by
  have r:=h x (Qe ..);have q:=dN m (l:=l) λy g=>h y (Qf _ g);rw [QL,Qy];have e:(((l.length+1:Nat):Int))*b=l.length*b+b:=by rw [Int.natCast_add,Int.add_mul];omega
  omega
def UX (l:List Int):Prop:=l.length<=8/\∀x∈l,0<=x/\Sz 160 x
def UX.sum (h:UX l):0<=l.sum/\Sz 170 l.sum:=by
 have m:=dN (b:=2 ^ 160) nofun (l:=l) λx g=>⟨(h.2 x g).1,by
  have:=(h.2 x g).2;unfold Sz at this;have:=(h.2 x g).1
  omega⟩
 refine ⟨m.1,?_⟩;have q:=h.1;have:(l.length:Int)*2 ^ 160<=8*2 ^ 160:=jbs ⋯ nofun;unfold Sz;have e:(8:Int)*2 ^ 160<2 ^ 170:=by decide+kernel
 omega
def sq (h:UX l):SzC 170 (ya l):=by
 refine ⟨⟨h.sum.2,by show Sz 170 1;unfold Sz;decide⟩,λq m=>?_⟩;obtain ⟨x,g,rfl⟩:=Qj.mp m;exact ⟨Sz.mono (h.2 x g).2 nofun,by show Sz 170 1;unfold Sz;decide⟩
def ClOk.am (h:ClOk 160 l):UX (amV l):=by
 refine ⟨by rw [yi];exact h.few,λx m=>?_⟩;obtain ⟨c,g,rfl⟩:=Qj.mp m;exact ⟨(h.nn c g).1,h.sz c g⟩
def UX.min (h:UX as) (m:0<=l):UX (Wu as l)/\UX (UP as l):=by
 refine ⟨⟨by unfold Wu;rw [Qa];exact h.1,λx g=>?_⟩,⟨by unfold UP;rw [Qa];exact h.1,λx g=>?_⟩⟩
 ·obtain ⟨a,ha,rfl⟩:=Qj.mp g;have:=h.2 a ha;exact ⟨⋯,mW ⋯ ⋯ this.2⟩
 ·obtain ⟨a,ha,rfl⟩:=Qj.mp g;have:=h.2 a ha;exact ⟨⋯,mW ⋯ ⋯ this.2⟩
section
variable {as ls:List Int}
def LvOk.szE (h:LvOk as ls) (i:UX as):∀c∈evP as ls,SzC 170 c:=λc m=>by
 obtain ⟨l,g,rfl⟩:=Qj.mp m;exact sq (i.min (h.nnL l g)).1
def LvOk.szL (h:LvOk as ls) (i:UX as):∀c∈loP as ls,SzC 170 c:=λc m=>by
 obtain ⟨l,g,rfl⟩:=Qj.mp m;exact sq (i.min (h.nnL l (jbJ.mp g))).2
def LvOk.inE (h:LvOk as ls) (i:UX as):PathIn (evP as ls):=by
 obtain ⟨r,m⟩:=Dg h;have f:=h.few;have q:=i.1;exact ⟨by rw [m];simp,λc g=>(h.szE i c g).mono nofun,λc g=>by rw [(tY as ls c g).1];omega,by unfold evP;rw [Qa];omega⟩
def LvOk.inL (h:LvOk as ls) (i:UX as):PathIn (loP as ls):=by
 obtain ⟨r,m⟩:=loP_ne h;have f:=h.few;have q:=i.1;exact ⟨by rw [m];simp,λc g=>(h.szL i c g).mono nofun,λc g=>by rw [(Cu as ls c g).1];omega,by unfold loP;rw [Qa,TK];omega⟩
def qX:SzQ 2 ((1:Rat) / 2):=by unfold SzQ Sz;decide+kernel
def el (h:∀c∈a,SzC 170 c):∀c∈zU (1 / 2) a,SzC 172 c:=λc r=>by
 obtain ⟨d,hd,rfl⟩:=Qj.mp r;have:=h d hd;refine ⟨(this.1.mul qX).mono nofun,λq m=>?_⟩;obtain ⟨x,g,rfl⟩:=Qj.mp m;exact ((this.2 x g).mul qX).mono nofun
def nr (ok:PathIn a) (h:∀c∈a,SzC 170 c):PathIn (zU (1 / 2) a):=by
 refine ⟨λe=>ok.ne (List.map_eq_nil_iff.mp e),λc g=>(el h c g).mono nofun,λc g=>?_,by unfold zU;rw [Qa];exact ok.few⟩;obtain ⟨d,hd,rfl⟩:=Qj.mp g;rw [Qa];exact ok.len d hd
def LvOk.szH (h:LvOk as ls) (i:UX as):∀c∈hvP as ls,SzC 400 c:=λc s=>by
 have g:=el (h.szE i);have sB:=el (h.szL i)
 rcases QY.mp s with z|z
 ·exact (g c z).mono nofun
 ·obtain ⟨d,hd,rfl⟩:=Qj.mp z;have x:=g _ (qW h);have y:=sB d (jad hd);refine ⟨(x.1.add y.1).mono nofun,λq m=>?_⟩;obtain ⟨j,r,e⟩:=QS m;have u:=r;simp only [Vy,QC] at u
  have t:q=(lastC (hfA as ls)).2[j]'⋯+d.2[j]'⋯:=by
   rw [<-e];simp only [Vy,Tb]
  rw [t];exact ((x.2 _ (Tf _)).add (y.2 _ (Tf _))).mono nofun
def LvOk.okH (h:LvOk as ls) (i:UX as):PathOk as.length (hvP as ls):=by
 have f:=h.few;have m:=i.1;refine ⟨λc g=>(h.szH i c g).mono nofun,λc g=>(hv_ok h c g).1,⋯,?_⟩;unfold hvP hfA hfB yE zU evP loP;simp only [QB,Qa,jaW,TK];omega
end
theorem WT:∀(a:zh) (r:List zh),(yg a r).Sublist r
 |a,[]=>by rw [yg];exact jbp _
 |a,[b]=>by rw [yg];exact jbp _
 |a,b::c::r=>by
  rw [yg]
  split
  ·exact List.Sublist.cons _ (WT b (c::r))
  ·exact List.Sublist.cons₂ _ (WT b (c::r))
theorem ZK:∀r:List zh,(yo r).Sublist r
 |[]=>jbp _
 |c::r=>List.Sublist.cons₂ _ (WT c r)
section
variable {as ls:List Int}
end
def iteSY {a b:Str} {X Y:Prop} (g:a=b) (h:X):if decide (a=b)=true then X else Y:=Yy (λ_=>h) λn=>absurd g n
def iteSN {a b:Str} {X Y:Prop} (g:¬a=b) (h:Y):if decide (a=b)=true then X else Y:=Yy (λy=>absurd y g) λ_=>h
section
variable {B G0 H:Hp} {cs:yp} {ds:Dat} {Q:VK} {E:XK} {v w u:V} {K:Frg}
noncomputable def gn:Nat->Rl
 |0=> .shares
 |1=> .evenly
 |2=> .losses
 |_=> .halves
def qh:Sp:=spB (α:=List Cl) (λl=>[zo l]) (ClOk 160) (λ_=> .non)
def EZ (S:Sta B G0 H cs ds) (h:Has ds (zo l) v) (ok:ClOk 160 l) (k:∀H',zS H H'->Sta B G0 H' cs ds->Q .non H'):qh [v] H Q E:=UE l (S.hpAll (.cons h .nil)) ok λH' e=>k H' e (S.same e)
def spWC:Sp:=spT (α:=List Int) (λl=>[.list (l.map PyData.int)]) (λl=>l.length<=8) (λl=>zN (ya l))
def IC (S:Sta B G0 H cs ds) (h:Has ds (.list (l.map PyData.int)) v) (ok:l.length<=8) (k:∀w H',zS H H'->Sta B G0 H' cs ((zN (ya l),w)::ds)->Q w H'):spWC [v] H Q E:=Zf l S (.cons h .nil) ok k
def Ww:Sp:=spL (α:=Nat) (λn=>[.int (n:Int)]) (λn=>n<=8) (λn=>[ya (Yc n)].map zN)
def aO (S:Sta B G0 H cs ds) (ok:n<=8) (k:∀p H',zS H H'->Sta B G0 H' ((p,[ya (Yc n)].map zN)::cs) ds->Q (.ref p) H'):Ww [.int (n:Int)] H Q E:=Zs n S (.cons Has.int .nil) ok k
noncomputable def flV (k:Nat) (l:List Cl):List zh:=JK (amV l) (lvV (amV l)) k
noncomputable def cn (k:Nat):Sp:=spL (α:=List Cl) (λl=>[zo l]) (ClOk 160) (λl=>(flV k l).map zN)
def aP (S:Sta B G0 H cs ds) (h:Has ds (zo l) v) (ok:ClOk 160 l) (k:∀p H',zS H H'->Sta B G0 H' ((p,(flV n l).map zN)::cs) ds->Q (.ref p) H'):cn n [v] H Q E:=Zs l S (.cons h .nil) ok k
def ClOk.lv (h:ClOk 160 l):LvOk (amV l) (lvV (amV l)):=WN λa ha=>(h.am.2 a ha).1
noncomputable def Wt (p:Rat) (a b:List zh):List zh:=yo (zU p a++yE (zU p a) (zU (1 - p) b))
structure UpOk (p:Rat) (a b:List zh):Prop where
 sz:SzQ 1000 p
 pa:PathIn a
 pb:PathIn b
 sa:PathIn (zU p a)
 sb:PathIn (zU (1 - p) b)
 m:∃m,PathOk m (zU p a++yE (zU p a) (zU (1 - p) b))
noncomputable def AD:Sp:=spL (α:=Rat×List zh×List zh) (λa=>[frD a.1,yv a.2.1,yv a.2.2]) (λa=>UpOk a.1 a.2.1 a.2.2) (λa=>(Wt a.1 a.2.1 a.2.2).map zN)
def Bi (S:Sta B G0 H cs ds) (r:Has ds (frD p) u) (m:Has ds (yv a) v) (g:Has ds (yv b) w) (ok:UpOk p a b) (k:∀q H',zS H H'->Sta B G0 H' ((q,(Wt p a b).map zN)::cs) ds->Q (.ref q) H'):AD [u,v,w] H Q E:=Zs (p,a,b) S (.cons r (.cons m (.cons g .nil))) ok k
def up_ok (h:ClOk 160 l):UpOk (1 / 2) (flV 1 l) (flV 2 l):=by
 have L:=h.lv;have e:(1:Rat) - 1 / 2=1 / 2:=by decide+kernel
 refine ⟨qX.mono nofun,L.inE h.am,L.inL h.am,nr (L.inE h.am) (L.szE h.am),?_,(amV l).length,?_⟩
 ·rw [e];exact nr (L.inL h.am) (L.szL h.am)
 ·rw [e];exact L.okH h.am
def Al (l:List Cl):Wt (1 / 2) (flV 1 l) (flV 2 l)=flV 3 l:=by
 have e:(1:Rat) - 1 / 2=1 / 2:=by decide+kernel
 unfold Wt;rw [e];rfl
end
def CA (c:Cl):(zG c).canLay0=true:=by unfold zG;simp only [PyData.canLay0,PyData.canLayAll0];rfl
def Dm (c:Cl):(zG c).depth<=2:=by unfold zG;simp only [PyData.depth,PyData.depthAll];decide
def vY (l:List Cl):(zo l).canLay0=true:=by unfold zo;rw [PyData.canLay0];exact qT CA l
def InS (n:Nat) (l:List Int):Prop:=l.length<=8/\∀x∈l,0<=x/\Sz n x
def InS.sum (h:InS n l):0<=l.sum/\Sz (n+4) l.sum:=by
 have p:(0:Int)<2 ^ n:=Int.pow_pos nofun
 have m:=dN (b:=2 ^ n) (jbr p) (l:=l) λx g=>⟨(h.2 x g).1,by
  have z:=(h.2 x g).2;have q:=(h.2 x g).1;unfold Sz at z;have:(x.natAbs:Int)<((2 ^ n:Nat):Int):=Int.ofNat_lt.mpr z;rw [jbX] at this;have e:((2:Nat):Int)=2:=rfl;rw [e] at this
  omega⟩
 refine ⟨m.1,?_⟩;have r:=h.1;have le:(l.length:Int)*2 ^ n<=8*2 ^ n:=jbs ⋯ (jbr p);unfold Sz;have e:(2:Nat) ^ (n+4)=2 ^ n*16:=by rw [Nat.pow_add]
 rw [e];have s:((2 ^ n:Nat):Int)=2 ^ n:=by rw [jbX];rfl
 omega
def InB.inS (h:InB am tk) (l:am.length<=8) (z:∀x∈am,Sz n x):InS n tk/\InS n am:=by
 refine ⟨⟨by rw [h.1];exact l,λx m=>?_⟩,⟨l,λx m=>?_⟩⟩
 ·obtain ⟨i,g,rfl⟩:=QS m;have q:i<am.length:=by rw [<-h.1];exact g
  have b:=h.2 i _ _ (Qb q) (Qb g);exact ⟨b.1,mW b.1 b.2 (z _ (Tf _))⟩
 ·obtain ⟨i,g,rfl⟩:=QS m;have q:i<tk.length:=by rw [h.1];exact g
  have b:=h.2 i _ _ (Qb g) (Qb q);exact ⟨⋯,z _ (Tf _)⟩
noncomputable def lM (n:Int):List Int:=if n % 5=0 then [7,10,2] else if n % 5=1 then [10 ^ 40+5,9,30] else if n % 5=2 then [2024,10 ^ 20,100] else [0,1,2]
def CC (n i:Int):∃x,0<=x/\atI ((lM n).map PyData.int) (i % 3)=some (.int x):=by
 have g:i % 3=0\/i % 3=1\/i % 3=2:=⋯
 unfold lM
 split
 ·rcases g with h|h|h<;>rw [h]<;>exact ⟨_,nofun,rfl⟩
 ·split
  ·rcases g with h|h|h<;>rw [h]<;>exact ⟨_,nofun,rfl⟩
  ·split
   ·rcases g with h|h|h<;>rw [h]<;>exact ⟨_,nofun,rfl⟩
   ·rcases g with h|h|h<;>rw [h]<;>exact ⟨_,nofun,rfl⟩
section
variable {B G0 H:Hp} {cs:yp} {ds:Dat} {Q:VK} {E:XK} {v w u:V} {K:Frg} {xs ys:List PyData} {R:It->Hp->Prop}
def Vl (S:Sta B G0 H cs ds) (h:Has ds (.list xs) v) (m:Has ds (.list ys) w) (k:∀J,Wk B G0 J (sj xs ys) (λcs ds=>Has ds (.list xs) v/\(∀x u,Has ds (.list ys) w->Has ((x,u)::ds) (.list ys) w)/\Has ds (.list ys) w)->R J H):kZi true true K R [v,w] H:=by
 obtain ⟨p,vs,rfl,hp,_⟩:=S.lst h;obtain ⟨q,ws,rfl,g,_⟩:=S.lst m;exact ⟨p,q,rfl,⟨_,SqL.of hp⟩,⟨_,SqL.of g⟩,k _ (Ag Vf Vf)⟩
def ko:Sp:=spL (α:=Int) (λn=>[.int n]) (λ_=>True) (λn=>(lM n).map PyData.int)
def nU (S:Sta B G0 H cs ds) (k:∀p H',zS H H'->Sta B G0 H' ((p,(lM n).map PyData.int)::cs) ds->Q (.ref p) H'):ko [.int n] H Q E:=Zs n S (.cons Has.int .nil) trivial k
def AH:Sp:=spB (α:=List Int×List Int) (λa=>[xk a.1,xk a.2]) (λa=>a.1.length<=8/\pP a.1 a.2) (λ_=> .bl true)
def Bt (S:Sta B G0 H cs ds) (m:Has ds (xk am) v) (g:Has ds (xk tk) w) (l:am.length<=8) (ok:pP am tk) (k:∀H',zS H H'->Sta B G0 H' cs ds->Q (.bl true) H'):AH [v,w] H Q E:=UE (am,tk) (S.hpAll (.cons m (.cons g .nil))) ⟨l,ok⟩ λH' e=>k H' e (S.same e)
end
def Gb {b d:Int} (r:0<b) (hd:0<d):0<b.fdiv (Int.gcd b d:Nat)*d/\b∣b.fdiv (Int.gcd b d:Nat)*d/\d∣b.fdiv (Int.gcd b d:Nat)*d:=by
 have s:0<Int.gcd b d:=Int.gcd_pos_of_ne_zero_left d ⋯;have m:(0:Int)<((Int.gcd b d:Nat):Int):=⋯
 rw [TN _ (jbr m)];obtain ⟨x,g⟩:=Int.gcd_dvd_left b d;obtain ⟨y,q⟩:=Int.gcd_dvd_right b d
 have ex:b / ((Int.gcd b d:Nat):Int)=x:=by
  conv=>lhs;arg 1;rw [g]
  exact Int.mul_ediv_cancel_left x ⋯
 rw [ex]
 have x0:0<x:=by
  rcases Int.lt_or_le 0 x with h|h
  ·exact h
  ·have:=Int.mul_nonpos_of_nonneg_of_nonpos (jbr m) h;omega
 refine ⟨Int.mul_pos x0 hd,⟨y,?_⟩,⟨x,Int.mul_comm ..⟩⟩
 conv=>rhs;rw [g,Int.mul_comm ((Int.gcd b d:Nat):Int) x,Int.mul_assoc,<-q]
def mV (s:0<B) (hd:(p.den:Int)∣B):((p.num*B.fdiv (p.den:Int):Int):Rat)=p*(B:Rat):=by
 rw [TN _ (Int.natCast_nonneg _)];obtain ⟨x,rfl⟩:=hd;have m:(p.den:Int)≠0:=by have:=p.den_pos;omega
 rw [Int.mul_ediv_cancel_left _ m,Tg,Tg,<-Rat.mul_assoc]
 congr 1
 have r:p=Rat.divInt p.num (p.den:Int):=(jbW p).symm;have g:∀z:Int,(z:Rat)=Rat.divInt z 1:=λz=>by rw [<-jbW (z:Rat)];rfl
 have q:=g (p.den:Int)
 conv=>rhs;arg 1;rw [r]
 rw [q,jbk,g,jcb];exact ((jbO m nofun).mpr (by rw [jcb])).symm
noncomputable def tkV (B:Int) (v:List Rat):List Int:=v.map λp=>p.num*B.fdiv (p.den:Int)
def og (hr:yr P) (q:∀x∈P,x.2.length=m) (g:P[j]? =some c) (hd:P[j+1]? =some d) (s:c.1<=e) (r:e<=d.1):zg P e=XS c d e:=by
 by_cases lt:e<d.1
 ·have:=Zm (E:=e) hr g s (.inr ⟨d,hd,lt⟩);rw [hd] at this;exact this
 ·have t:e=d.1:=jaS r (Tp.mp lt);subst t;have lc:=q c (Qc g);have ld:=q d (Qc hd)
  have w:c.1<d.1:=by
   have:=QO.mp hr j (j+1) (Qd.mp g).1 (Qd.mp hd).1 ⋯;rw [(Qd.mp g).2,(Qd.mp hd).2] at this;exact this
  rw [uh (by rw [lc,ld]) w]
  cases hn:P[j+1+1]? with
  |none=>
   have:=Zm (E:=d.1) hr hd QR (.inl (by
    have s:=(Qd.mp hd).1;have r:=jaa.mp hn
    omega))
   rw [hn] at this;exact this
  |some f=>
   have u:d.1<f.1:=by
    have:=QO.mp hr (j+1) (j+1+1) (Qd.mp hd).1 (Qd.mp hn).1 ⋯;rw [(Qd.mp hd).2,(Qd.mp hn).2] at this;exact this
   have:=Zm (E:=d.1) hr hd QR (.inr ⟨f,hn,u⟩);rw [hn] at this;rw [this];exact XH (by rw [ld,q f (Qc hn)])
def pW (x y:List Rat):List Rat:=List.zipWith (· - ·) x y
noncomputable def ah (p:Rat) (x:List Rat):List Rat:=x.map (·*p)
def sJ (h:y.length=x.length):(pW x y).length=x.length:=by unfold pW;rw [QC,h,TM]
def Az {x y:List Rat} {i:Nat} {z:Rat} (h:(pW x y)[i]? =some z):∃a b,x[i]? =some a/\y[i]? =some b/\z=a - b:=by
 unfold pW at h;rw [Qt] at h
 cases e:x[i]? with
 |none=>rw [e] at h;cases h
 |some a=>
  cases e2:y[i]? with
  |none=>rw [e,e2] at h;cases h
  |some b=>rw [e,e2] at h;exact ⟨a,b,rfl,rfl,(QK h).symm⟩
def Up {x y:List Rat} {i:Nat} {a b:Rat} (m:x[i]? =some a) (g:y[i]? =some b):(pW x y)[i]? =some (a - b):=by
 unfold pW;rw [Qt,m,g]
def Ay {x y:List Rat} (h:y.length=x.length):pW x (pW x y)=y:=by
 apply Tn
 intro i
 by_cases q:i<x.length
 ·have m:=Qb q;have g:=Qb (l:=y) (i:=i) ⋯;rw [Up m (Up m g),g]
  congr 1
  grind
 ·rw [QD (by rw [sJ (by rw [sJ h])];omega),QD ⋯]
structure Std (m:Nat) (T:Rat) (as:List Rat) (P:List zh):Prop where
 rise:yr P
 ok:∀c∈P,c.2.length=m/\zA c.2=c.1
 head:P[0]? =some (0,List.replicate m 0)
 last:P.getLast? =some (T,as)
section
variable {m:Nat} {T:Rat} {as:List Rat} {P:List zh} {e:Rat}
def Std.lastC (h:Std m T as P):lastC P=(T,as):=by unfold S.lastC;rw [h.last];rfl
def Std.ne (h:Std m T as P):P≠[]:=λz=>by have:=h.head;rw [z] at this;cases this
def Std.cons (h:Std m T as P):∃r,P=(0,List.replicate m 0)::r:=by
 cases P with
 |nil=>exact absurd rfl h.ne
 |cons c r=>have:=h.head;cases this;exact ⟨r,rfl⟩
def Std.lenA (h:Std m T as P):as.length=m:=(h.ok _ (jal h.last)).1
def Std.T0 (h:Std m T as P):0<=T:=by
 obtain ⟨r,rfl⟩:=h.cons;have g:=h.last
 cases r with
 |nil=>cases g;exact QR
 |cons d r=>
  have:(T,as)∈d::r:=by
   rw [TZ] at g;exact jal g
  exact QF ((Qo.mp h.rise).1 _ this)
def Std.sum (h:Std m T as P) (h0:0<=e):zA (zg P e)=mn e T:=by
 obtain ⟨r,g⟩:=h.cons;have:=sE r g h.rise h.ok h0;rw [h.lastC] at this;exact this
def Std.len (h:Std m T as P):(zg P e).length=m:=by
 obtain ⟨r,q⟩:=h.cons;have:=h.ok;rw [q] at this⊢;exact Yi λx g=>(this x g).1
def Std.past (h:Std m T as P) (he:T<=e):zg P e=as:=by
 obtain ⟨r,q⟩:=h.cons;have l:=h.lastC;have g:=h.rise;rw [q] at l g⊢;rw [fv g (by rw [l];exact he),l]
def Std.zero (h:Std m T as P):zg P 0=List.replicate m 0:=by
 obtain ⟨r,q⟩:=h.cons
 cases r with
 |nil=>rw [q];rfl
 |cons d r=>
  have g:=h.rise;have ok:=h.ok;rw [q] at g ok⊢;have lt:=(Qo.mp g).1 d (Qe ..);rw [zg,QH lt];have:=XH (c:=((0:Rat),List.replicate m (0:Rat))) (d:=d) (by rw [QE,(ok d (Qf _ (Qe ..))).1]);exact this
def Std.turned (h:Std m T as P) (h0:0<=e) (h1:e<=T):zg (yu P) e=pW as (zg P (T - e)):=by
 have J:=h.lastC;have y:∀x∈P,x.2.length=m:=λx w=>(h.ok x w).1
 have rise:yr (yu P):=by
  unfold yu yr;rw [Tt,List.pairwise_reverse]
  exact h.rise.imp λ{c d} N=>by
   show (S.lastC P).1 - d.1<(S.lastC P).1 - c.1
   grind
 have g:∀x∈yu P,x.2.length=m:=λx w=>by
  obtain ⟨c,t,rfl⟩:=Qj.mp w;show (List.zipWith _ (S.lastC P).2 c.2).length=m;rw [QC,J,y c (jbJ.mp t),h.lenA,TM]
 have lp:0<P.length:=jaP.mpr h.ne;obtain ⟨j,q,X,G,L⟩:=lW (E:=T - e) (M:=P.map λc=>c.1) (z:=0) (by rw [Qh,h.head];rfl) (by grind);rw [Qa] at L;obtain ⟨c,t,rfl⟩:=zL X;have jl:j<P.length:=(Qd.mp t).1
 have s:∀(k:Nat) (x:zh),P[k]? =some x->(yu P)[P.length - 1 - k]? =some (VO (T,as) x):=λk x w=>by
  have kl:k<P.length:=(Qd.mp w).1;unfold yu;rw [Qh,List.getElem?_reverse ⋯,show P.length - 1 - (P.length - 1 - k)=k by omega,w,J];rfl
 by_cases u:j+1=P.length
 ·
  have K:c=(T,as):=by
   have:=h.last;rw [jaB,show P.length - 1=j by omega,t] at this;exact QK this
  have e0:e=0:=by
   rw [K] at G;have:T<=T - e:=G;exact jaS (by grind) h0
  subst e0;rw [show T - (0:Rat)=T by grind,h.past QR];have ht:=s j c t;rw [show P.length - 1 - j=0 by omega,K] at ht
  have hz:VO (T,as) (T,as)=(0,List.replicate m 0):=by
   unfold VO;rw [show T - T=(0:Rat) by grind]
   congr 1
   apply TC
   ·rw [QC,h.lenA,QE,TM]
   ·intro i _ _;rw [Tb,TL]
    grind
  have Z:pW as as=List.replicate m 0:=(congrArg Prod.snd hz);rw [Z];rw [hz] at ht
  cases hT:yu P with
  |nil=>rw [hT] at ht;cases ht
  |cons x r=>
   rw [hT] at ht rise g;cases ht
   cases r with
   |nil=>rfl
   |cons d r=>
    have lt:=(Qo.mp rise).1 d (Qe ..);rw [zg,QH lt];have:=XH (c:=((0:Rat),List.replicate m (0:Rat))) (d:=d) (by rw [QE,g d (Qf _ (Qe ..))]);exact this
 ·rcases L with z|⟨r,hr,LC⟩
  ·exact absurd z u
  obtain ⟨d,hd,rfl⟩:=zL hr;have lc:=y c (Qc t);have ld:=y d (Qc hd);have N:c.1<d.1:=by grind
  rw [og h.rise y t hd G (QF LC)];have t1:=s (j+1) d hd;have I:=s j c t;have dl:j+1<P.length:=(Qd.mp hd).1;rw [show P.length - 1 - j=P.length - 1 - (j+1)+1 by omega] at I;rw [og rise g t1 I (by show T - d.1<=e;grind) (by show e<=T - c.1;grind)];unfold XS pW
  apply Tn
  intro i
  by_cases Y:i<m
  ·have U:i<as.length:=by rw [h.lenA];exact Y
   have O:i<c.2.length:=⋯
   have id':i<d.2.length:=⋯
   have a1:=Qb U;have c1:=Qb O;have d1:=Qb id';unfold VO;dsimp only;rw [Qt,Qt,Qt,Qt,Qt,a1,c1,d1]
   congr 1
   generalize as[i]=A;generalize c.2[i]=C;generalize d.2[i]=D;unfold xY;have NJ:=TB _ (xS N);rw [jah,jah,show T - c.1 - (T - d.1)=d.1 - c.1 by grind];generalize (d.1 - c.1)⁻¹=v at*
   grind
  ·rw [QD,QD]
   ·simp only [QC,h.lenA,lc,ld];omega
   ·simp only [VO,QC,h.lenA,lc,ld];omega
end
structure Row where
 am:Rat
 rank:Int
 group:Int
 part:Rat
noncomputable def Xn (L:List Row):Rat:=zA (L.map (·.am))
noncomputable def Xm (L:List Row):Rat:=zA (L.map (·.part))
noncomputable def Row.flip (x:Row):Row:={x with part:=x.am - x.part}
def Row.first (p:Rat) (x:Row):Row:={x with am:=x.am*p}
noncomputable def Row.rest (p:Rat) (x:Row):Row:={x with am:=x.am*(1 - p),part:=x.part - x.am*p}
noncomputable def Row.scale (c:Rat) (x:Row):Row:={x with am:=x.am*c,part:=x.part*c}
def InQ (L:List Row):Prop:=∀x∈L,0<=x.part/\x.part<=x.am
def bP (L:List Row):Prop:=∀x∈L,x.part*Xn L=x.am*Xm L
def xO (L:List Row):Prop:=InQ L/\∀x∈L,x.part<x.am->∀y∈L,y.part<=x.part
noncomputable def xN (L:List Row):List Int:=(ba (L.map (·.group))).choose
noncomputable def jo:List Int->Int
 |[]=>0
 |[a]=>a
 |a::l=>min a (jo l)
noncomputable def Um (L:List Row):List Row:=(xN L).map λg=>
 ⟨Xn (L.filter (·.group=g)),jo ((L.filter (·.group=g)).map (·.rank)),g,Xm (L.filter (·.group=g))⟩
def YC (p:Rat) (X Y:List Row->Prop) (L:List Row):Prop:=if Xm L<=Xn L*p then X (L.map (Row.first p)) else Y (L.map (Row.rest p))
noncomputable def xh:Rl->List Row->Prop
 | .shares,L=>InQ L/\bP L
 | .evenly,L=>InQ L/\xO L
 | .losses,L=>InQ L/\xO (L.map Row.flip)
 | .halves,L=>InQ L/\YC (1 / 2) (λL=>InQ L/\xO L) (λL=>InQ L/\xO (L.map Row.flip)) L
 | .other r,L=>InQ L/\xh r (L.map Row.flip)
 | .ranks r,L=>InQ L/\(∀k,xh r (L.filter (·.rank=k)))/\∀x∈L,∀y∈L,x.rank<y.rank->0<y.part->x.part=x.am
 | .groups a b,L=>InQ L/\(∀g,xh b (L.filter (·.group=g)))/\xh a (Um L)
 | .upto t b x y,L=>InQ L/\YC (Rat.divInt t b) (xh x) (xh y) L
theorem xh.inQ:∀{r:Rl} {L:List Row},xh r L->InQ L
 | .shares,_,h=>h.1
 | .evenly,_,h=>h.1
 | .losses,_,h=>h.1
 | .halves,_,h=>h.1
 | .other _,_,h=>h.1
 | .ranks _,_,h=>h.1
 | .groups _ _,_,h=>h.1
 | .upto _ _ _ _,_,h=>h.1
section
variable {c:Rat} {L:List Row}
def au:Xn (L.map (Row.scale c))=Xn L*c:=by
 unfold Xn;rw [<-yY,Qm,Qm];rfl
def ar:Xm (L.map (Row.scale c))=Xm L*c:=by
 unfold Xm;rw [<-yY,Qm,Qm];rfl
def jv (g:0<c):x*c<=y*c↔x<=y:=by
 constructor
 ·intro h
  by_cases z:x<=y
  ·exact z
  ·have:=jbu (show 0<x - y by grind) g
   grind
 ·intro h;exact Zn h (QF g)
def InQ.scale (g:0<c) (h:InQ L):InQ (L.map (Row.scale c)):=λx q=>by
 obtain ⟨y,m,rfl⟩:=Qj.mp q;have:=h y m;exact ⟨QT this.1 (QF g),Zn this.2 (QF g)⟩
def xO.scale (m:0<c) (h:xO L):xO (L.map (Row.scale c)):=by
 refine ⟨h.1.scale m,λx s lt y r=>?_⟩;obtain ⟨g,u,rfl⟩:=Qj.mp s;obtain ⟨q,t,rfl⟩:=Qj.mp r
 have lt':g.part<g.am:=by
  rcases jat.mp (λz=>absurd ((jv (c:=c) m).mpr z) (jat.mpr lt)) with z
  exact z
 exact Zn (h.2 g u lt' q t) (QF m)
def bt:(L.map (Row.scale c)).map Row.flip=(L.map Row.flip).map (Row.scale c):=by
 rw [Qm,Qm];refine QG λx _=>?_;simp only [Function.comp,Row.flip,Row.scale]
 congr 1
 grind
def rj:(L.map (Row.scale c)).map (Row.first p)=(L.map (Row.first p)).map (Row.scale c):=by
 rw [Qm,Qm];refine QG λx _=>?_;simp only [Function.comp,Row.first,Row.scale]
 congr 1
 grind
def vd:(L.map (Row.scale c)).map (Row.rest p)=(L.map (Row.rest p)).map (Row.scale c):=by
 rw [Qm,Qm];refine QG λx _=>?_;simp only [Function.comp,Row.rest,Row.scale]
 congr 1<;>grind
def YC.scale (g:0<c) (q:∀L,X L->X (L.map (Row.scale c))) (m:∀L,Y L->Y (L.map (Row.scale c))) (h:YC p X Y L):YC p X Y (L.map (Row.scale c)):=by
 unfold YC at h⊢;rw [ar,au,show Xn L*c*p=Xn L*p*c by grind]
 by_cases z:Xm L<=Xn L*p
 ·rw [QH z] at h;rw [QH ((jv g).mpr z),rj];exact q _ h
 ·rw [QP z] at h;rw [QP (λw=>z ((jv g).mp w)),vd];exact m _ h
def rl:(L.map (Row.scale c)).filter (·.rank=k)=(L.filter (·.rank=k)).map (Row.scale c):=by
 rw [List.filter_map];rfl
def cw:(L.map (Row.scale c)).filter (·.group=k)=(L.filter (·.group=k)).map (Row.scale c):=by
 rw [List.filter_map];rfl
def uR:Um (L.map (Row.scale c))=(Um L).map (Row.scale c):=by
 have e:xN (L.map (Row.scale c))=xN L:=by
  unfold xN
  congr 2
  rw [Qm];rfl
 unfold Um;rw [e,Qm];refine QG λg _=>?_;simp only [Function.comp,cw,au,ar,Row.scale]
 congr 2
 rw [Qm];rfl
theorem xh.scale (m:0<c):∀{r:Rl} {L:List Row},xh r L->xh r (L.map (Row.scale c))
 | .shares,L,h=>⟨h.1.scale m,λx w=>by
  obtain ⟨y,u,rfl⟩:=Qj.mp w;have:=h.2 y u;rw [au,ar];show y.part*c*(Xn L*c)=y.am*c*(Xm L*c)
  grind⟩
 | .evenly,L,h=>⟨h.1.scale m,h.2.scale m⟩
 | .losses,L,h=>⟨h.1.scale m,by rw [bt];exact h.2.scale m⟩
 | .halves,L,h=>⟨h.1.scale m,YC.scale m (λL z=>⟨z.1.scale m,z.2.scale m⟩) (λL z=>⟨z.1.scale m,by rw [bt];exact z.2.scale m⟩) h.2⟩
 | .other r,L,h=>⟨h.1.scale m,by rw [bt];exact xh.scale m h.2⟩
 | .ranks r,L,h=>⟨h.1.scale m,λk=>by rw [rl];exact xh.scale m (h.2.1 k),λx w y u lt pos=>by
  obtain ⟨s,C,rfl⟩:=Qj.mp w;obtain ⟨q,A,rfl⟩:=Qj.mp u
  have py:0<q.part:=by
   rcases jat.mp (λz:q.part<=0=>absurd (by have:=(jv (c:=c) (y:=0) m).mpr z;rwa [jbQ] at this) (jat.mpr pos)) with z
   exact z
  show s.part*c=s.am*c
  rw [h.2.2 s C q A lt py]⟩
 | .groups a b,L,h=>⟨h.1.scale m,λg=>by rw [cw];exact xh.scale m (h.2.1 g),by rw [uR];exact xh.scale m h.2.2⟩
 | .upto t b x y,L,h=>⟨h.1.scale m,YC.scale m (λL z=>xh.scale m z) (λL z=>xh.scale m z) h.2⟩
end
def xC (c:Cl) (p:Rat):Row:=⟨(c.1:Rat),c.2.1,c.2.2,p⟩
def zC (l:List Cl) (v:List Rat):List Row:=List.zipWith xC l v
noncomputable def amQ (l:List Cl):List Rat:=l.map λc=>(c.1:Rat)
section
variable {l:List Cl} {v:List Rat}
def Yd (h:x∈zC l v):∃(i:Nat) (c:Cl) (p:Rat),l[i]? =some c/\v[i]? =some p/\x=xC c p:=by
 obtain ⟨i,g,e⟩:=QS h;have m:=g;unfold zC at m;rw [QC] at m;refine ⟨i,l[i]'⋯,v[i]'⋯,Qb _,Qb _,?_⟩;rw [<-e];exact Tb (f:=xC) (l:=l) (l':=v) (h:=g)
def Wa {i:Nat} {c:Cl} {p:Rat} (g:l[i]? =some c) (hp:v[i]? =some p):xC c p∈zC l v:=by
 apply Qc (i:=i)
 unfold zC;rw [Qt,g,hp]
theorem Yr:∀{l:List Cl} {v:List Rat},v.length=l.length->Xn (zC l v)=zA (amQ l)
 |[],[],_=>rfl
 |[],_::_,h=>by simp at h
 |_::_,[],h=>by simp at h
 |c::l,p::v,h=>by
  have:=Yr (l:=l) (v:=v) ‹h›;unfold Xn at this⊢;show zA ((c.1:Rat)::(zC l v).map (·.am))=zA ((c.1:Rat)::amQ l);rw [zA,zA,this]
theorem Yq:∀{l:List Cl} {v:List Rat},v.length=l.length->Xm (zC l v)=zA v
 |[],[],_=>rfl
 |[],_::_,h=>by simp at h
 |_::_,[],h=>by simp at h
 |c::l,p::v,h=>by
  have:=Yq (l:=l) (v:=v) ‹h›;unfold Xm at this⊢;show zA (p::(zC l v).map (·.part))=zA (p::v);rw [zA,zA,this]
theorem UC:∀{l:List Cl} {v:List Rat},(zC l v).map Row.flip=zC l (pW (amQ l) v)
 |[],_=>rfl
 |_::_,[]=>rfl
 |c::l,p::v=>by
  show _::(zC l v).map Row.flip=_::zC l (pW (amQ l) v);rw [UC];rfl
theorem jc (p:Rat):∀{l:List Cl} {v:List Rat},(zC l (ah p v)).map (Row.first p)=(zC l v).map (Row.scale p)
 |[],_=>rfl
 |_::_,[]=>rfl
 |c::l,q::v=>by
  show _::(zC l (ah p v)).map (Row.first p)=_::(zC l v).map (Row.scale p);rw [jc];rfl
noncomputable def aM (p:Rat) (as v:List Rat):List Rat:=List.zipWith (λa x=>a*p+x*(1 - p)) as v
theorem nH (p:Rat):∀{l:List Cl} {v:List Rat},(zC l (aM p (amQ l) v)).map (Row.rest p)=(zC l v).map (Row.scale (1 - p))
 |[],_=>rfl
 |_::_,[]=>rfl
 |c::l,q::v=>by
  show Row.rest p (xC c ((c.1:Rat)*p+q*(1 - p)))::(zC l (aM p (amQ l) v)).map (Row.rest p)=Row.scale (1 - p) (xC c q)::(zC l v).map (Row.scale (1 - p));rw [nH]
  congr 1
  simp only [Row.rest,Row.scale,xC]
  congr 1
  grind
def Wh (l:List Cl):(amQ l).length=l.length:=Qa _
end
structure Good (r:Rl) (l:List Cl) (P:List zh):Prop where
 std:Std l.length (zA (amQ l)) (amQ l) P
 fit:∀e:Rat,0<=e->xh r (zC l (zg P e))
section
variable {r x y:Rl} {l:List Cl} {P P':List zh}
def Std.clip (h:Std m T as P):zg P e=zg P (mn e T):=by
 unfold mn
 split
 ·rfl
 ·rename_i c;rw [h.past (QF (jat.mp c)),h.past QR]
def lV (h:Std m T as P):Std m T as (yu P):=by
 have q:=h.lastC;have g:=h.lenA;obtain ⟨r,w⟩:=h.cons
 have tz:VO (T,as) (T,as)=(0,List.replicate m 0):=by
  unfold VO;rw [show T - T=(0:Rat) by grind]
  congr 1
  apply TC
  ·rw [QC,g,QE,TM]
  ·intro i _ _;rw [Tb,TL]
   grind
 have t0:VO (T,as) (0,List.replicate m 0)=(T,as):=by
  unfold VO;dsimp only;rw [show T - (0:Rat)=T by grind]
  congr 1
  apply TC
  ·rw [QC,g,QE,TM]
  ·intro i _ _;rw [Tb,TL]
   grind
 have sub:∀{x y:List Rat},x.length=y.length->zA (List.zipWith (· - ·) x y)=zA x - zA y:=by
  intro x
  induction x with
  |nil=>intro y h;cases y with
   |nil=>rw [List.zipWith_nil_left,zA];grind
   |cons _ _=>simp at h
  |cons a x t=>intro y h;cases y with
   |nil=>simp at h
   |cons b y=>rw [jab,zA,zA,zA,t ‹h›];grind
 have s:zA as=T:=(h.ok _ (jal h.last)).2;refine ⟨?_,λc u=>?_,?_,?_⟩
 ·unfold yu yr;rw [Tt,List.pairwise_reverse]
  exact h.rise.imp λ{c d} LG=>by
   show (S.lastC P).1 - d.1<(S.lastC P).1 - c.1
   grind
 ·obtain ⟨d,hd,rfl⟩:=Qj.mp u;have ok:=h.ok d (jbJ.mp hd);rw [q];refine ⟨?_,?_⟩
  ·show (List.zipWith _ as d.2).length=m;rw [QC,g,ok.1,TM]
  ·show zA (List.zipWith _ as d.2)=T - d.1;rw [sub (by rw [g,ok.1]),s,ok.2]
 ·unfold yu;rw [Qh,<-List.head?_eq_getElem?,List.head?_reverse,h.last,q,<-tz];rfl
 ·unfold yu;rw [jaO,List.getLast?_reverse,q,List.head?_eq_getElem?,h.head];show some (VO (T,as) (0,List.replicate m 0))=_;rw [t0]
def Good.other (h:Good r l P):Good (.other r) l (yu P):=by
 have st:=h.std;refine ⟨lV st,λe h0=>?_⟩;have q:=lV st;rw [q.clip]
 have m0:0<=mn e (zA (amQ l)):=by
  have:=st.T0;unfold mn
  split<;>grind
 have m:mn e (zA (amQ l))<=zA (amQ l):=by unfold mn;split<;>grind
 rw [st.turned m0 m];have f:=h.fit (zA (amQ l) - mn e (zA (amQ l))) (by grind);have ln:=st.len (e:=zA (amQ l) - mn e (zA (amQ l)));generalize zg P (zA (amQ l) - mn e (zA (amQ l)))=w at*;refine ⟨?_,by rw [UC,Ay (by rw [Wh];exact ln)];exact f⟩;intro x g;rw [<-UC] at g;obtain ⟨z,hz,rfl⟩:=Qj.mp g;have:=f.inQ z hz;show 0<=z.am - z.part/\z.am - z.part<=z.am
 grind
def Wy (hp:0<p) (h:Std m T as P):Std m (T*p) (ah p as) (zU p P):=by
 refine ⟨qk hp h.rise,λc g=>?_,?_,?_⟩
 ·obtain ⟨d,hd,rfl⟩:=Qj.mp g;have:=h.ok d hd;exact ⟨by rw [Qa];exact this.1,by rw [yY,this.2]⟩
 ·unfold zU;rw [Qh,h.head];show some ((0:Rat)*p,(List.replicate m (0:Rat)).map (·*p))=_;rw [jbQ,jbz,jbQ]
 ·unfold zU;rw [jaO,h.last];rfl
def gE (h:Std m T as P) (h':Std m T' OL P'):Std m (T+T') (List.zipWith (·+·) as OL) (P++yE P P'):=by
 have u:=h.lastC;obtain ⟨J,q⟩:=h'.cons;have s:=h.lenA;have mem:(T,as)∈P:=jal h.last;have I:=(h.ok _ mem).2;refine ⟨?_,λc w=>?_,?_,?_⟩
 ·refine jac.mpr ⟨h.rise,?_,λc w d hd=>?_⟩
  ·unfold yE;rw [Tt];refine jbG (λ{a b} Mn=>?_) (jbl (List.tail_sublist P') h'.rise);show (S.lastC P).1+a.1<(S.lastC P).1+b.1
   grind
  ·obtain ⟨d',D,rfl⟩:=Qj.mp hd
   have N:c.1<=T:=by
    obtain ⟨i,K,rfl⟩:=QS w;have G:=h.last;rw [jaB] at G;obtain ⟨L,C⟩:=Qd.mp G
    by_cases z:i=P.length - 1
    ·subst z;rw [C];exact QR
    ·have:=QO.mp h.rise i (P.length - 1) K L ⋯;rw [C] at this;exact QF this
   have M:0<d'.1:=by
    have A:=h'.rise;rw [q] at A D;exact (Qo.mp A).1 d' D
   show c.1<(S.lastC P).1+d'.1;rw [u];show c.1<T+d'.1
   grind
 ·rcases QY.mp w with z|z
  ·exact h.ok c z
  ·obtain ⟨d,hd,rfl⟩:=Qj.mp z;have ok:=h'.ok d (jad hd);rw [u];refine ⟨?_,?_⟩
   ·show (List.zipWith _ as d.2).length=m;rw [QC,s,ok.1,TM]
   ·show zA (List.zipWith (·+·) as d.2)=T+d.1;rw [cW (by rw [s,ok.1]),ok.2];rw [show zA as=T from I]
 ·rw [jaA (jaP.mpr h.ne),h.head]
 ·unfold yE
  have hz:List.zipWith (·+·) as (List.replicate m (0:Rat))=as:=by
   apply TC
   ·rw [QC,s,QE,TM]
   ·intro i _ _;rw [Tb,TL]
    grind
  cases J with
  |nil=>
   have g:=h'.last;rw [q] at g⊢;cases g;rw [List.tail_cons,jaJ,jbc,h.last,hz,Rat.add_zero]
  |cons d t=>
   have g:=h'.last;rw [q,TZ] at g;rw [q,List.tail_cons,List.getLast?_append,jaO,g,u];rfl
def lN (h:Std m T as P):Std m T as (yo P)/\∀e:Rat,0<=e->zg (yo P) e=zg P e:=by
 obtain ⟨r,g⟩:=h.cons;have sub:=ZK P
 have t:(yo P).getLast? =P.getLast? :=by
  rw [g];show ((0,List.replicate m 0)::yg (0,List.replicate m 0) r).getLast? =((0,List.replicate m 0)::r).getLast?
  have:∀(r:List zh) (a:zh),(yg a r).getLast? =r.getLast? :=by
   intro r
   induction r with
   |nil=>intro a;rw [yg]
   |cons b r s=>
    intro a
    cases r with
    |nil=>rw [yg]
    |cons c r=>
     rw [yg]
     split
     ·rw [s b,TZ]
     ·rw [jbY,s b,TZ,jbY];rfl
  rw [jbY,this,<-jbY]
 refine ⟨⟨jbl sub h.rise,λc w=>h.ok c (sub.subset w),by rw [g];rfl,by rw [t];exact h.last⟩,λe h0=>?_⟩;have q:=h.rise;have ok:=h.ok;rw [g] at q ok⊢;exact lO q (λx u=>(ok x u).1) h0
def cx (h:Std m T as P) (h':Std m T' OL P') (h0:0<=e):zg (yo (P++yE P P')) e=if e<T then zg P e else List.zipWith (·+·) as (zg P' (e - T)):=by
 have s:=gE h h';obtain ⟨_,C⟩:=lN s;rw [C e h0];obtain ⟨G,g⟩:=h.cons;obtain ⟨A,u⟩:=h'.cons;have t:=h.lastC
 split
 ·rename_i c;have lt:e<(S.lastC P).1:=by rw [t];exact c
  generalize D:yE P P'=M;rw [g] at lt⊢;exact WJ h0 lt
 ·rename_i c;have ge:T<=e:=Tp.mp c;have le:(S.lastC P).1<=e:=by rw [t];exact ge
  have w:=h.rise
  have ev:zg (P++yE P P') e=zg (S.lastC P::yE P P') e:=by
   generalize D:yE P P'=M;rw [g] at le w⊢;exact ZW w le
  rw [ev,t]
  have em:((T,as):zh)::yE P P'=P'.map (Vy (T,as)):=by
   unfold yE;rw [t]
   conv=>rhs;rw [u]
   rw [Ql]
   congr 1
   ·unfold Vy;dsimp only;rw [Rat.add_zero]
    congr 1
    apply TC
    ·rw [QC,QE,h.lenA,TM]
    ·intro i _ _;rw [Tb,TL]
     grind
   ·rw [u];rfl
  rw [em];have pp:=ft (m:=m) (c:=(T,as)) (e:=e) h.lenA (q:=(0,List.replicate m 0)) (r:=A) (by rw [<-u];exact λz hz=>(h'.ok z hz).1);rw [<-u] at pp;exact pp
def Good.upto {p:Rat} {t b:Int} (ep:p=Rat.divInt t b) (p0:0<p) (p1:p<1) (nn:∀c∈l,0<=c.1) (A:Good x l P) (K:Good y l P'):Good (.upto t b x y) l (Wt p P P'):=by
 have u:0<1 - p:=by grind
 have s1:=Wy p0 A.std;have s2:=Wy u K.std;have s3:=gE s1 s2;have eT:zA (amQ l)*p+zA (amQ l)*(1 - p)=zA (amQ l):=by grind
 have eA:List.zipWith (·+·) (ah p (amQ l)) (ah (1 - p) (amQ l))=amQ l:=by
  unfold ah
  apply TC
  ·simp
  ·intro i _ _;simp only [Tb,jaK]
   grind
 rw [eT,eA] at s3;obtain ⟨Y,_⟩:=lN s3;refine ⟨Y,λe h0=>?_⟩;unfold Wt;rw [cx s1 s2 h0];have I:∀e:Rat,(zg P e).length=l.length:=λe=>A.std.len;have G:∀e:Rat,(zg P' e).length=l.length:=λe=>K.std.len;have T0:=A.std.T0;have J:∀(i:Nat) (c:Cl),l[i]? =some c->(0:Rat)<=(c.1:Rat):=λi c C=>bD (nn c (Qc C));have N:∀v:List Rat,v.length=l.length->Xn (zC l v)=zA (amQ l):=λv hv=>Yr hv
 have low:∀w:List Rat,w.length=l.length->xh x (zC l w)->zA w<=zA (amQ l)->xh (.upto t b x y) (zC l (ah p w)):=λw hw D L=>by
  have lw:(ah p w).length=l.length:=by unfold ah;rw [Qa];exact hw
  refine ⟨λz hz=>?_,?_⟩
  ·obtain ⟨i,c,q,C,g,rfl⟩:=Yd hz;unfold ah at g;rw [Qh] at g
   cases s:w[i]? with
   |none=>rw [s] at g;cases g
   |some m=>
    rw [s] at g;cases g;have:=D.inQ _ (Wa C s);have a0:=J i c C;have t1:0<=m/\m<=(c.1:Rat):=this;show 0<=m*p/\m*p<=(c.1:Rat);refine ⟨QT t1.1 (QF p0),?_⟩;have X:=Zn t1.2 (QF p0);have U:=QT a0 (QF u)
    grind
  ·rw [<-ep];unfold YC;rw [N _ lw,Yq lw];have:zA (ah p w)=zA w*p:=yY p w;rw [this,QH ((jv p0).mpr L),jc];exact xh.scale p0 D
 have high:∀w:List Rat,w.length=l.length->xh y (zC l w)->0<zA w->xh (.upto t b x y) (zC l (aM p (amQ l) w)):=λw hw D L=>by
  have lw:(aM p (amQ l) w).length=l.length:=by unfold aM;rw [QC,Wh,hw,TM]
  have es:zA (aM p (amQ l) w)=zA (amQ l)*p+zA w*(1 - p):=by
   have s:aM p (amQ l) w=List.zipWith (·+·) (ah p (amQ l)) (ah (1 - p) w):=by
    unfold aM ah;rw [jbK]
   rw [s,cW (by unfold ah;rw [Qa,Qa,Wh,hw])];show zA ((amQ l).map (·*p))+zA (w.map (·*(1 - p)))=_;rw [yY,yY]
  refine ⟨λz hz=>?_,?_⟩
  ·obtain ⟨i,c,q,C,g,rfl⟩:=Yd hz;unfold aM at g;rw [Qt] at g;have ea:(amQ l)[i]? =some (c.1:Rat):=by unfold amQ;rw [Qh,C];rfl
   rw [ea] at g
   cases s:w[i]? with
   |none=>rw [s] at g;cases g
   |some m=>
    rw [s] at g;cases g;have:=D.inQ _ (Wa C s);have a0:=J i c C;have t1:0<=m/\m<=(c.1:Rat):=this;show 0<=(c.1:Rat)*p+m*(1 - p)/\(c.1:Rat)*p+m*(1 - p)<=(c.1:Rat);have u0:=QT a0 (QF p0);have X:=Zn t1.2 (QF u);have U:=QT t1.1 (QF u)
    grind
  ·rw [<-ep];unfold YC;rw [N _ lw,Yq lw,es];have pos:=jbu L u;rw [QP (by grind),nH];exact xh.scale u D
 split
 ·rw [WI p0];have e0:0<=e / p:=by rw [jah];exact QT h0 (QF (Rat.inv_pos.mpr p0))
  refine low _ (I _) (A.fit _ e0) ?_;rw [A.std.sum e0];unfold mn
  split<;>grind
 ·rename_i c;have ge:zA (amQ l)*p<=e:=Tp.mp c
  have k:List.zipWith (·+·) (ah p (amQ l)) (zg (zU (1 - p) P') (e - zA (amQ l)*p))=aM p (amQ l) (zg P' ((e - zA (amQ l)*p) / (1 - p))):=by
   rw [WI u];unfold aM ah;rw [jbK]
  rw [k];have O:0<=(e - zA (amQ l)*p) / (1 - p):=by rw [jah];exact QT (by grind) (QF (Rat.inv_pos.mpr u))
  have D:=K.fit _ O;have sw:=K.std.sum O;have lw:=G ((e - zA (amQ l)*p) / (1 - p));generalize zg P' ((e - zA (amQ l)*p) / (1 - p))=w at*
  by_cases pos:0<zA w
  ·exact high w lw D pos
  ·
   have T:∀q∈w,q=0:=by
    have M:∀q∈w,0<=q:=λq g=>by
     obtain ⟨i,hi,rfl⟩:=QS g;have:=D.inQ _ (Wa (Qb (l:=l) (i:=i) ⋯) (Qb hi));exact this.1
    have:∀{w:List Rat},(∀q∈w,0<=q)->0<=zA w/\(zA w<=0->∀q∈w,q=0):=by
     intro w
     induction w with
     |nil=>intro _;exact ⟨by rw [zA];exact QR,λ_ q g=>absurd g Qp⟩
     |cons a w Z=>
      intro h;have ha:=h a (Qe ..);obtain ⟨i1,i2⟩:=Z λq g=>h q (Qf _ g);rw [zA];refine ⟨by grind,λL q g=>?_⟩
      rcases Qn.mp g with rfl|g
      ·exact jaS (by grind) ha
      ·exact i2 (by grind) q g
    exact (this M).2 (Tp.mp pos)
   have ew:aM p (amQ l) w=ah p (amQ l):=by
    unfold aM ah
    apply TC
    ·rw [QC,Qa,Wh,lw,TM]
    ·intro i h1 h2;rw [Tb,jaK,T _ (Tf _)]
     grind
   rw [ew];have full:=A.fit _ A.std.T0;rw [A.std.past QR] at full;exact low _ (Wh l) full QR
end
def UU (l:List Cl):amQ l=(amV l).map λ(a:Int)=>(a:Rat):=by unfold amQ amV;rw [Qm];rfl
def xA (l:List Cl):zA (amQ l)=(((amV l).sum:Int):Rat):=by rw [UU,Uo]
def dH (l:List Cl):ya (amV l)=(zA (amQ l),amQ l):=by rw [xA,UU];rfl
def Jz (ne:P≠[]) (h:lastC P=c):P.getLast? =some c:=by
 rw [<-h];unfold lastC;rw [To ne];rfl
section
variable {l:List Cl} {ls:List Int}
def We (h:LvOk (amV l) ls):Good .evenly l (evP (amV l) ls):=by
 obtain ⟨r,s⟩:=Dg h;refine ⟨⟨h.riseE,λc q=>by rw [<-yi];exact tY _ _ c q,by rw [s,Wj,yi];rfl,Jz (by rw [s];simp) (by rw [tZ h,dH])⟩,λe h0=>?_⟩;obtain ⟨z,t,hz⟩:=h.evenly h0;rw [hz]
 have row:∀x∈zC l ((amV l).map λ(a:Int)=>mn (a:Rat) z),0<=x.am/\x.part=mn x.am z:=λx m=>by
  obtain ⟨i,c,p,q,hp,rfl⟩:=Yd m;unfold amV at hp;rw [Qm,Qh,q] at hp;cases hp;exact ⟨bD (h.nn _ (Qj.mpr ⟨c,Qc q,rfl⟩)),rfl⟩
 have g:InQ (zC l ((amV l).map λ(a:Int)=>mn (a:Rat) z)):=λx m=>by
  obtain ⟨a0,e⟩:=row x m;rw [e];exact mn_nn a0 t
 refine ⟨g,g,λx m lt y u=>?_⟩;obtain ⟨a0,ex⟩:=row x m;obtain ⟨A,w⟩:=row y u;rw [ex] at lt⊢;rw [w];unfold mn at lt⊢
 split at lt
 ·exact absurd lt jaX
 ·rename_i c;rw [QP c]
  split<;>grind
def gg (h:LvOk (amV l) ls):Good .losses l (loP (amV l) ls):=by
 have g:=(We h).other;rw [dJ h] at g;exact ⟨g.std,λe h0=>⟨(g.fit e h0).1,(g.fit e h0).2.2⟩⟩
def fZ (nn:∀a∈amV l,0<=a):Good .shares l (shP (amV l)):=by
 have s0:=VB nn
 have std:Std l.length (zA (amQ l)) (amQ l) (shP (amV l)):=by
  have t:(amV l).sum=0->amQ l=List.replicate l.length 0:=λc=>by
   have:=sD nn c;rw [UU,<-yi,<-jbd];exact QG λa ha=>by rw [this a ha];rfl
  unfold shP
  by_cases c:(amV l).sum=0
  ·rw [QH c];refine ⟨jau _ _,λx g=>?_,by rw [Wj,yi];rfl,?_⟩
   ·rw [Qv.mp g];have:=XT (Yc (amV l).length);rw [Ul,yi] at this;rw [yi];exact this
   ·show some _=some _;rw [Wj,yi,t c,Xq];rfl
  ·rw [QP c];refine ⟨?_,λx g=>?_,by rw [Wj,yi];rfl,?_⟩
   ·refine Qo.mpr ⟨λd hd=>?_,jau _ _⟩;rw [Qv.mp hd,Wj];exact YS (show 0<(amV l).sum by omega)
   ·rcases Qn.mp g with rfl|g
    ·have:=XT (Yc (amV l).length);rw [Ul,yi] at this;rw [yi];exact this
    ·rw [Qv.mp g,<-yi];exact XT _
   ·show some _=some _;rw [dH];rfl
 refine ⟨std,λe h0=>?_⟩;have ln:=std.len (e:=e);obtain ⟨z,⟨s,z1⟩,hz,_⟩:=EL nn h0;have m:=Yq (l:=l) ln;have q:=Yr (l:=l) ln
 have es:zA (zg (shP (amV l)) e)=zA (amQ l)*z:=by
  rw [hz,UU,<-yY,Qm];rfl
 rw [es] at m;rw [hz] at m q⊢
 have row:∀x∈zC l ((amV l).map λ(a:Int)=>(a:Rat)*z),0<=x.am/\x.part=x.am*z:=λx g=>by
  obtain ⟨i,c,p,r,hp,rfl⟩:=Yd g;unfold amV at hp;rw [Qm,Qh,r] at hp;cases hp;exact ⟨bD (nn _ (Qj.mpr ⟨c,Qc r,rfl⟩)),rfl⟩
 refine ⟨λx g=>?_,λx g=>?_⟩
 ·obtain ⟨a0,e⟩:=row x g;rw [e];refine ⟨QT a0 s,?_⟩;have:=QT a0 (show 0<=1 - z by grind)
  grind
 ·rw [q,m,(row x g).2]
  grind
def rf (h:LvOk (amV l) ls):Good .halves l (yo (hvP (amV l) ls)):=by
 have m:Rat.divInt 1 2=(1:Rat) / 2:=by decide+kernel
 have g:=Good.upto (p:=1 / 2) (t:=1) (b:=2) m.symm tP (by decide+kernel) (λc q=>h.nn _ (Qj.mpr ⟨c,q,rfl⟩)) (We h) (gg h)
 have r:Wt (1 / 2) (evP (amV l) ls) (loP (amV l) ls)=yo (hvP (amV l) ls):=by
  unfold Wt;rw [show (1:Rat) - 1 / 2=1 / 2 by decide+kernel];rfl
 rw [r] at g;refine ⟨g.std,λe h0=>?_⟩;have f:=g.fit e h0;refine ⟨f.1,?_⟩;have f2:=f.2;rw [m] at f2;exact f2
end
def yB (m:b≠0):Rat.divInt t b*(b:Rat)=(t:Rat):=by
 have g:∀z:Int,(z:Rat)=Rat.divInt z 1:=λz=>by rw [<-jbW (z:Rat)];rfl
 rw [g b,g t,jbk,jcb];exact (jbO m nofun).mpr (by rw [jcb])
def Ue (h:Vb t b):0<Rat.divInt t b/\Rat.divInt t b<1:=by
 obtain ⟨_,t0,r,_⟩:=h;have g:(0:Rat)<(b:Rat):=YS ⋯;have e:=yB (t:=t) (b:=b) ⋯;have s:=YS t0;have m:=lY r;generalize Rat.divInt t b=q at*
 constructor
 ·by_cases z:0<q
  ·exact z
  ·have:=Zn (Tp.mp z) (QF g)
   grind
 ·by_cases z:q<1
  ·exact z
  ·have:=Zn (Tp.mp z) (QF g)
   grind
def Yh (D:Int) (x:Rat):Prop:=∃k:Int,x*(D:Rat)=(k:Rat)
section
variable {D D':Int} {x y:Rat} {P P':List zh}
def Yh.mul (h:Yh D x) (n:Int):Yh (D*n) x:=by
 obtain ⟨k,g⟩:=h;exact ⟨k*n,by rw [Tg,Tg,<-Rat.mul_assoc,g]⟩
def Yh.mulL (h:Yh D x) (n:Int):Yh (n*D) x:=by rw [Int.mul_comm];exact h.mul n
def Yh.add (h:Yh D x) (g:Yh D y):Yh D (x+y):=by
 obtain ⟨k,m⟩:=h;obtain ⟨j,q⟩:=g;exact ⟨k+j,by rw [Rat.intCast_add,<-m,<-q];grind⟩
def Yh.sub (h:Yh D x) (g:Yh D y):Yh D (x - y):=by
 obtain ⟨k,m⟩:=h;obtain ⟨j,q⟩:=g;exact ⟨k - j,by rw [jbe,<-m,<-q];grind⟩
def Yh.port (m:b≠0) (h:Yh D x):Yh (b*D) (x*Rat.divInt t b):=by
 obtain ⟨k,g⟩:=h;refine ⟨k*t,?_⟩;have e:=yB (t:=t) m;rw [Tg,Tg,<-g,<-e]
 grind
def Yh.int (n:Int) (D:Int):Yh D (n:Rat):=⟨n*D,by rw [Tg]⟩
def Yh.sz (h:Yh D x) (C:0<D) (g:Sz m D) (x0:0<=x) (u:x<=T) (s:∃k:Int,T=(k:Rat)/\Sz n k):SzQ (n+m) x:=by
 obtain ⟨k,q⟩:=h;obtain ⟨t,rfl,r⟩:=s;have dp:=YS C
 have e:x=Rat.divInt k D:=by
  have G:=yB (t:=k) (b:=D) ⋯;have:(x - Rat.divInt k D)*(D:Rat)=0:=by grind
  rcases Rat.mul_eq_zero.mp this with z|z
  ·grind
  ·rw [z] at dp;exact absurd dp jaX
 have A:0<=k:=WY (by rw [<-q];exact QT x0 (QF dp));have w:k<=t*D:=WY (by rw [<-q,Tg];exact Zn u (QF dp));rw [e];exact SzQ.divInt (mW A w (r.mul g)) (g.mono ⋯) ⋯
def dG (h:z∈List.zipWith f u v):∃a∈u,∃b∈v,z=f a b:=by
 obtain ⟨i,g,e⟩:=QS h;have m:=g;rw [QC] at m;rw [Tb] at e;exact ⟨_,Tf ⋯,_,Tf ⋯,e.symm⟩
def oB (ne:P≠[]):lastC P∈P:=by
 unfold lastC;rw [To ne];exact List.getLast_mem ne
def Jc (g:b≠0):1 - Rat.divInt t b=Rat.divInt (b - t) b:=by
 have q:=yB (t:=t) g;have m:=yB (t:=b - t) g;have bn:((b:Int):Rat)≠0:=λz=>g (Rat.intCast_inj.mp (by rw [z];rfl))
 have:(1 - Rat.divInt t b - Rat.divInt (b - t) b)*(b:Rat)=0:=by
  rw [jbe] at m
  grind
 rcases Rat.mul_eq_zero.mp this with z|z
 ·grind
 ·exact absurd z bn
end
section
variable {r x y:Rl} {l:List Cl} {P P':List zh}
def Std.at_corner (h:Std m T as P) (s:c∈P):zg P c.1=c.2:=by
 obtain ⟨i,g,rfl⟩:=QS s;have q:=Qb g
 cases hn:P[i+1]? with
 |none=>
  have:=Zm (E:=P[i].1) h.rise q QR (.inl (by have:=jaa.mp hn;omega));rw [hn] at this;exact this
 |some d=>
  have hd:=Qd.mp hn;have lt:=QO.mp h.rise i (i+1) g hd.1 ⋯;rw [hd.2] at lt;have:=Zm (E:=P[i].1) h.rise q QR (.inr ⟨d,hn,lt⟩);rw [hn] at this;rw [this];exact XH (by rw [(h.ok _ (Tf g)).1,(h.ok d (Qc hn)).1])
def Std.range (h:Std m T as P) (g:c∈P):0<=c.1/\c.1<=T:=by
 have h0:0<=c.1:=by
  obtain ⟨r,t⟩:=h.cons;have q:=h.rise;rw [t] at q g
  rcases Qn.mp g with rfl|g
  ·exact QR
  ·exact QF ((Qo.mp q).1 c g)
 refine ⟨h0,?_⟩;have s:=h.sum h0;rw [h.at_corner g,(h.ok c g).2] at s;unfold mn at s
 split at s
 ·assumption
 ·rw [s];exact QR
theorem xH:∀{v:List Rat},(∀q∈v,0<=q)->0<=zA v/\∀q∈v,q<=zA v
 |[],_=>⟨by rw [zA];exact QR,λq g=>absurd g Qp⟩
 |a::v,h=>by
  have ha:=h a (Qe ..);obtain ⟨s,m⟩:=xH (v:=v) λq g=>h q (Qf _ g);rw [zA];refine ⟨by grind,λq g=>?_⟩
  rcases Qn.mp g with rfl|g
  ·grind
  ·have:=m q g;grind
def Good.parts (h:Good r l P) (h0:0<=e):∀q∈zg P e,0<=q/\q<=zA (amQ l):=by
 have nn:∀q∈zg P e,0<=q:=λq g=>by
  obtain ⟨i,m,rfl⟩:=QS g;have ln:=h.std.len (e:=e);exact ((h.fit e h0).inQ _ (Wa (Qb (l:=l) (i:=i) ⋯) (Qb m))).1
 obtain ⟨_,le⟩:=xH nn;have s:=h.std.sum h0;have t:mn e (zA (amQ l))<=zA (amQ l):=by unfold mn;split<;>grind
 intro q g;have:=le q g;exact ⟨nn q g,by grind⟩
end
def yO (tk:List Int):List Rat:=tk.map λ(p:Int)=>(p:Rat)
structure FitG (r:Rl) (l:List Cl) (tk:List Int):Prop where
 len:tk.length=l.length
 fit:xh r (zC l (yO tk))
noncomputable def yd (n:Int) (l:List Cl):List Cl:=l.map λc=>(n*c.1,c.2)
def yT (n:Int) (tk:List Int):List Int:=tk.map (n*·)
section
variable {r x y:Rl} {l:List Cl} {tk:List Int}
def WZ (tk:List Int):(yO tk).length=tk.length:=Qa _
def FitG.row (h:FitG r l tk) {i:Nat} {a p:Int} (ha:(amV l)[i]? =some a) (hp:tk[i]? =some p):∃c:Cl,l[i]? =some c/\c.1=a/\xC c (p:Rat)∈zC l (yO tk):=by
 unfold amV at ha;rw [Qh] at ha
 cases e:l[i]? with
 |none=>rw [e] at ha;cases ha
 |some c=>
  rw [e] at ha;cases ha;exact ⟨c,rfl,rfl,Wa e (by unfold yO;rw [Qh,hp];rfl)⟩
def FitG.inB (h:FitG r l tk):InB (amV l) tk:=⟨by rw [yi];exact h.len,λi a p ha hp=>by
 obtain ⟨c,_,rfl,hm⟩:=h.row ha hp;have:=h.fit.inQ _ hm
 exact ⟨WY this.1,WY this.2⟩⟩
def Df (m:tk.length=l.length) (e:L=zC l (yO tk)) (h:xO L):pP (amV l) tk:=by
 refine ⟨by rw [yi];exact m,λi a p ha hp=>?_⟩;unfold amV at ha;rw [Qh] at ha
 cases e1:l[i]? with
 |none=>rw [e1] at ha;cases ha
 |some c=>
  rw [e1] at ha;cases ha;have hm:xC c (p:Rat)∈L:=by rw [e];exact Wa e1 (by unfold yO;rw [Qh,hp];rfl)
  have b:=h.1 _ hm;refine ⟨WY b.1,WY b.2,λlt q g=>?_⟩;obtain ⟨j,s,rfl⟩:=QS g
  have t:xC (l[j]'⋯) ((tk[j]:Int):Rat)∈L:=by
   rw [e];exact Wa (Qb _) (by unfold yO;rw [Qh,Qb s];rfl)
  exact WY (h.2 _ hm (lY lt) _ t)
def wH:yO (xZ am tk)=pW (yO am) (yO tk):=by
 unfold yO xZ pW;rw [jbL,jbK]
 congr 1
 funext a b
 rw [jbe]
def Gy (l:List Cl):yO (amV l)=amQ l:=(UU l).symm
def nI:zC l (yO (xZ (amV l) tk))=(zC l (yO tk)).map Row.flip:=by
 rw [wH,Gy,UC]
def tH (h:tk.length=l.length):(xZ (amV l) tk).length=l.length:=by rw [WO (by rw [yi];exact h),yi]
def FitG.evenly (h:FitG .evenly l tk):pP (amV l) tk:=Df h.len rfl h.fit.2
def FitG.losses (h:FitG .losses l tk):pP (amV l) (xZ (amV l) tk):=Df (tH h.len) nI.symm h.fit.2
def FitG.other (h:FitG (.other r) l tk):FitG r l (xZ (amV l) tk):=⟨tH h.len,by rw [nI];exact h.fit.2⟩
def aq (tk:List Int):zA (yO tk)=((tk.sum:Int):Rat):=Uo tk
def FitG.sums (h:FitG r l tk):Xn (zC l (yO tk))=(((amV l).sum:Int):Rat)/\Xm (zC l (yO tk))=((tk.sum:Int):Rat):=
 ⟨by rw [Yr (by rw [WZ];exact h.len),xA],by rw [Yq (by rw [WZ];exact h.len),aq]⟩
def FitG.shares (h:FitG .shares l tk):tk.map (·*(amV l).sum)=(amV l).map (·*tk.sum):=by
 have s:=h.sums;have f:=h.fit.2
 apply TC
 ·rw [Qa,Qa,yi,h.len]
 ·intro i m g;rw [Qa] at m g;obtain ⟨c,_,e,hm⟩:=h.row (Qb g) (Qb m);have:=f _ hm;rw [s.1,s.2] at this;rw [jaK,jaK]
  apply Rat.intCast_inj.mp
  rw [Tg,Tg,<-e];exact this
def FitG.halves (h:FitG .halves l tk):FitG (.upto 1 2 .evenly .losses) l tk:=by
 refine ⟨h.len,h.fit.1,?_⟩;have g:Rat.divInt 1 2=(1:Rat) / 2:=by decide+kernel
 rw [g];exact h.fit.2
def Zg (n:Int) (l:List Cl):(yd n l).length=l.length:=Qa _
def Xo (n:Int) (tk:List Int):(yT n tk).length=tk.length:=Qa _
def Va (n:Int) (l:List Cl):amV (yd n l)=yT n (amV l):=by
 unfold amV yd yT;rw [Qm,Qm];rfl
theorem aj (n:Int):∀tk:List Int,(yT n tk).sum=n*tk.sum
 |[]=>by show (0:Int)=n*0;rw [Int.mul_zero]
 |a::tk=>by
  show (n*a::yT n tk).sum=_;rw [QL,QL,aj n tk,Int.mul_add]
theorem sS (g:b≠0):∀{l:List Cl} {tk:List Int},zC (yd t l) (yO (yT b tk))=((zC l (yO tk)).map (Row.first (Rat.divInt t b))).map (Row.scale (b:Rat))
 |[],_=>rfl
 |_::_,[]=>rfl
 |c::l,p::tk=>by
  show xC (t*c.1,c.2) ((b*p:Int):Rat)::zC (yd t l) (yO (yT b tk))=Row.scale (b:Rat) (Row.first (Rat.divInt t b) (xC c (p:Rat)))::((zC l (yO tk)).map (Row.first (Rat.divInt t b))).map (Row.scale (b:Rat));rw [sS g];have e:=yB (t:=t) g
  congr 1
  simp only [xC,Row.scale,Row.first,Tg]
  congr 1<;>grind
theorem sR (g:b≠0):∀{l:List Cl} {tk:List Int},zC (yd (b - t) l) (yO (xZ (yT b tk) (yT t (amV l))))=((zC l (yO tk)).map (Row.rest (Rat.divInt t b))).map (Row.scale (b:Rat))
 |[],[]=>rfl
 |[],_::_=>rfl
 |_::_,[]=>rfl
 |c::l,p::tk=>by
  show xC ((b - t)*c.1,c.2) ((b*p - t*c.1:Int):Rat)::zC (yd (b - t) l) (yO (xZ (yT b tk) (yT t (amV l))))=Row.scale (b:Rat) (Row.rest (Rat.divInt t b) (xC c (p:Rat)))::((zC l (yO tk)).map (Row.rest (Rat.divInt t b))).map (Row.scale (b:Rat));rw [sR g];have e:=yB (t:=t) g
  congr 1
  simp only [xC,Row.scale,Row.rest,Tg,jbe]
  congr 1<;>grind
def FitG.upto (m:0<b) (h:FitG (.upto t b x y) l tk):
 if (yT b tk).sum<=(amV (yd t l)).sum then FitG x (yd t l) (yT b tk) else FitG y (yd (b - t) l) (xZ (yT b tk) (amV (yd t l))):=by
 have s:=h.sums;have f:=h.fit.2;have g:=YS m;have bn:b≠0:=⋯
 have e:=yB (t:=t) bn;unfold YC at f;rw [s.1,s.2] at f
 have iff:((tk.sum:Int):Rat)<=(((amV l).sum:Int):Rat)*Rat.divInt t b↔(yT b tk).sum<=(amV (yd t l)).sum:=by
  rw [Va,aj,aj,<-jv g,<-Th,Tg,Tg,<-e]
  constructor<;>intro z<;>grind
 by_cases c:(yT b tk).sum<=(amV (yd t l)).sum
 ·rw [QH (iff.mpr c)] at f;rw [QH c];exact ⟨by rw [Xo,Zg];exact h.len,by rw [sS bn];exact xh.scale g f⟩
 ·rw [QP (λz=>c (iff.mp z))] at f;rw [QP c];refine ⟨?_,by rw [Va,sR bn];exact xh.scale g f⟩;rw [Va,Zg,WO (by rw [Xo,Xo,yi,h.len]),Xo];exact h.len
def wo (g:Good r l P) (m:0<B) (e0:0<=e) (w:(e.den:Int)∣B) (hd:∀p∈zg P e,(p.den:Int)∣B):
 (tkV B (zg P e)).sum=min (e.num*B.fdiv (e.den:Int)) (B*(amV l).sum)/\FitG r (yd B l) (tkV B (zg P e)):=by
 have t:=YS m;have ln:=g.std.len (e:=e)
 have s:yO (tkV B (zg P e))=ah (B:Rat) (zg P e):=by
  unfold yO tkV ah;rw [Qm];exact QG λp hp=>mV m (hd p hp)
 have lt:(tkV B (zg P e)).length=l.length:=by unfold tkV;rw [Qa];exact ln
 refine ⟨?_,by rw [Zg];exact lt,?_⟩
 ·apply Rat.intCast_inj.mp
  rw [<-aq,s,Hx,mV m w,Tg,Rat.mul_comm (B:Rat),<-FC t,<-xA];have:=g.std.sum e0;rw [<-this];exact yY _ _
 ·rw [s]
  have:∀{l:List Cl} {v:List Rat},zC (yd B l) (ah (B:Rat) v)=(zC l v).map (Row.scale (B:Rat)):=by
   intro l
   induction l with
   |nil=>intro v;rfl
   |cons c l u=>
    intro v
    cases v with
    |nil=>rfl
    |cons q v=>
     show xC (B*c.1,c.2) (q*(B:Rat))::zC (yd B l) (ah (B:Rat) v)=Row.scale (B:Rat) (xC c q)::(zC l v).map (Row.scale (B:Rat));rw [u]
     congr 1
     simp only [xC,Row.scale,Tg]
     congr 1
     grind
  rw [this];exact xh.scale t (g.fit e e0)
end
section
variable {r x y:Rl} {t b:Int} {l:List Cl}
def Ff (h:Vb t b):PyData.tuple [.int t, .int b]=frD (Rat.divInt t b):=by
 have g:0<b:=by have:=h.2.1;have:=h.2.2.1;omega
 have l:=bh (a:=t) g;unfold frD;rw [<-l.1,<-l.2,h.2.2.2];rw [show (((1:Nat):Int))=1 from rfl,Int.fdiv_one,Int.fdiv_one]
def IW (h:Vb t b):SzQ 210 (Rat.divInt t b):=SzQ.divInt h.1.1 h.1.2 (by have:=h.2.1;have:=h.2.2.1;omega)
def aC (h:∀c∈P,SzC n c) (hp:SzQ m p):∀c∈zU p P,SzC (n+m) c:=λc u=>by
 obtain ⟨d,hd,rfl⟩:=Qj.mp u;have:=h d hd;refine ⟨this.1.mul hp,λq s=>?_⟩;obtain ⟨x,g,rfl⟩:=Qj.mp s;exact (this.2 x g).mul hp
end
section
variable {B G0 H:Hp} {cs:yp} {ds:Dat} {Q:VK} {E:XK} {v w u:V} {K:Frg}
end
noncomputable def Vz:Rl->Nat
 | .halves=>3
 | .other r=>Vz r+1
 | .upto _ _ x y=>max (Vz x) (Vz y)+1
 | .ranks r=>Vz r+1
 | .groups a b=>max (Vz a) (Vz b)+1
 |_=>1
theorem Gx:∀r:Rl,1<=Vz r
 | .shares=>Qu _
 | .evenly=>Qu _
 | .losses=>Qu _
 | .halves=>by decide
 | .other r=>by simp [Vz]
 | .ranks r=>by simp [Vz]
 | .groups a b=>by simp [Vz]
 | .upto _ _ x y=>by simp [Vz]
section
variable {B G0 H:Hp} {cs:yp} {ds:Dat} {Q:VK} {E:XK} {v w u:V} {K:Frg} {n:Nat} {r x y:Rl} {l:List Cl} {tk:List Int} {t b:Int}
def port12:Vb 1 2:=⟨⟨by unfold Sz;decide,by unfold Sz;decide⟩,nofun,nofun,nofun⟩
def sv (q:Sz 211 c) (h:∀x∈amV l,Sz m x):∀x∈amV (yd c l),Sz (m+300) x:=λx g=>by
 rw [Va] at g;obtain ⟨a,ha,rfl⟩:=Qj.mp g;exact (q.mul (h a ha)).mono ⋯
end
section
variable {B G0 H:Hp} {cs:yp} {ds:Dat} {Q:VK} {E:XK} {v w u:V} {K:Frg} {r:Rl} {l:List Cl} {e:Rat}
end
structure Small (t b:Int):Prop where
 port:Vb t b
 le:b<=61
section
variable {B G0 H:Hp} {cs:yp} {ds:Dat} {Q:VK} {E:XK} {v w u:V} {K:Frg}
def qe:Sp:=λvs H Q _=>∃(G:Hp) (c:Int),vs=[.int c]/\zS G H/\∀v H' G' (t b:Int),Grow G H G' H'->Is G' (.tuple [.int t, .int b]) v->Small t b->Q v H'
def EV (S:Sta B G0 H cs ds) (k:∀v H' (t b:Int),Small t b->zS H H'->Sta B G0 H' cs ((.tuple [.int t, .int b],v)::ds)->Q v H'):qe [.int c] H Q E:=by
 obtain ⟨G,S⟩:=S;refine ⟨G,c,rfl,S.2.1,λv H' z t b gr g good=>k v H' t b good gr.h ?_⟩;obtain ⟨y,s,r,d',q,m,g'⟩:=S.grow gr;exact ⟨z,y,s,r,d',q,m,g'.cons g⟩
def Bg (S:Sta H G H' cs ds) (k:∀v H' g (t b:Int),Grow G H g H'->Is g (.tuple [.int t, .int b]) v->Small t b->Q v H') (h:Has ds (.tuple [.int t, .int b]) v) (m:Small t b):Q v H':=by
 obtain ⟨g,gr,al⟩:=S.leave;exact k v H' g t b gr (h g al) m
end
def pX (I:b.1<c.1) (r:b.2.length=m) (lc:c.2.length=m) (w:zR a b c) (u:zR b c y):zR a b y:=λi A B Y t g s=>by
 have J:i<m:=by rw [<-r];exact (Qd.mp g).1
 have q:=Qb (l:=c.2) (i:=i) ⋯;have K:=w i A B _ t g q;have G:=u i B _ Y g q s;generalize c.2[i]=C at*;have D:(B - A)*(c.1 - b.1)=(C - B)*(b.1 - a.1):=by grind
 have z:((B - A)*(y.1 - a.1) - (Y - A)*(b.1 - a.1))*(c.1 - b.1)=0:=by
  have:((B - A)*(y.1 - a.1) - (Y - A)*(b.1 - a.1))*(c.1 - b.1)=((B - A)*(c.1 - b.1))*(y.1 - a.1) - ((Y - B)*(c.1 - b.1))*(b.1 - a.1) - ((B - A)*(c.1 - b.1))*(b.1 - a.1):=by grind
  rw [this,D,<-G];grind
 have:=zW z (xS I)
 grind
def mZ (G:k.1<b.1) (s:a.2.length=m) (I:k.2.length=m) (w:zR k a b) (u:zR k b c):zR a b c:=λi A B C r q t=>by
 have J:i<m:=by rw [<-s];exact (Qd.mp r).1
 have g:=Qb (l:=k.2) (i:=i) ⋯;have M:=w i _ A B g r q;have L:=u i _ B C g q t;generalize k.2[i]=K at*;have D:(B - A)*(b.1 - k.1)=(B - K)*(b.1 - a.1):=by grind
 have z:(C - A)*(b.1 - k.1)=(B - K)*(c.1 - a.1):=by grind
 have y:((B - A)*(c.1 - a.1) - (C - A)*(b.1 - a.1))*(b.1 - k.1)=0:=by
  have:((B - A)*(c.1 - a.1) - (C - A)*(b.1 - a.1))*(b.1 - k.1)=((B - A)*(b.1 - k.1))*(c.1 - a.1) - ((C - A)*(b.1 - k.1))*(b.1 - a.1):=by grind
  rw [this,D,z];grind
 have:=zW y (xS G)
 grind
theorem Thn.cons (h:Thn F) (h0:∀y z t,F=y::z::t->¬zR k y z):Thn (k::F)
 |0,x,y,z,m,g,hz=>by
  match F,h0,g,hz with
  |[],_,g,_=>simp at g
  |[_],_,_,hz=>simp at hz
  |a::b::t,h0,g,hz=>
   simp at m g hz;subst m;subst g;subst hz;exact h0 _ _ t rfl
 |i+1,x,y,z,m,g,hz=>h i x y z ‹m› ‹g› ‹hz›
theorem fW:∀(r:List zh) (k a b:zh),yr (k::b::r)->(∀x∈k::b::r,x.2.length=m)->(a=k\/(k.1<a.1/\a.1<b.1/\a.2.length=m/\zR k a b))->
 Thn (k::yg a (b::r))/\∃y t,yg a (b::r)=y::t/\(y=b\/(b.1<y.1/\y.2.length=m/\zR a b y))
 |[],k,a,b,_,_,_=>by
  rw [yg];exact ⟨λi x y z _ _ hz=>by simp at hz,b,[],rfl, .inl rfl⟩
 |c::r,k,a,b,hr,hl,ha=>by
  obtain ⟨K,J⟩:=Qo.mp hr;obtain ⟨O,N⟩:=Qo.mp J;have L:=K b (Qe ..);have q:=O c (Qe ..);have I:=hl k (Qe ..);have w:=hl b (Qf _ (Qe ..));have lc:=hl c (Qf _ (Qf _ (Qe ..)));rw [yg]
  split
  ·rename_i st
   have P:zR k b c:=by
    rcases ha with rfl|⟨_,M,A,s0⟩
    ·exact st
    ·exact cj M I A s0 st
   have rk:yr (k::c::r):=Qo.mpr ⟨λx g=>K x (Qf _ g),N⟩
   obtain ⟨D,y,t,e,C⟩:=fW r k b c rk (λx g=>hl x (by
    rcases Qn.mp g with rfl|g
    ·exact Qe ..
    ·exact Qf _ (Qf _ g))) (.inr ⟨L,q,w,P⟩)
   refine ⟨D,y,t,e, .inr ?_⟩
   rcases C with rfl|⟨G,u,s⟩
   ·exact ⟨q,lc,st⟩
   ·exact ⟨xl q G,u,pX q w lc st s⟩
  ·rename_i st;obtain ⟨D,y,t,e,C⟩:=fW r b b c J (λx g=>hl x (Qf _ g)) (.inl rfl);refine ⟨D.cons λT z t' ez=>?_,b,_,rfl, .inl rfl⟩;rw [e] at ez;cases ez;intro s
   have s1:zR k b c:=by
    rcases C with rfl|⟨G,u,s2⟩
    ·exact s
    ·exact jW (xl q G) w u s2 s
   rcases ha with rfl|⟨_,M,A,s0⟩
   ·exact st s1
   ·exact st (mZ L A I s0 s1)
def oE (hr:yr L) (g:∀x∈L,x.2.length=m):Thn (yo L):=by
 match L,hr,g with
 |[],_,_=>exact λi x y z s=>by simp [yo] at s
 |[c],_,_=>exact λi x y z _ q=>by simp [yo,yg] at q
 |c::b::r,hr,g=>exact (fW r c c b hr g (.inl rfl)).1
def Mon (P:List zh):Prop:=P.Pairwise λc d=>LeV c.2 d.2
structure Ful (m:Nat) (T:Rat) (as:List Rat) (P:List zh):Prop where
 std:Std m T as P
 mono:Mon P
 thin:Thn P
section
variable {m:Nat} {T T':Rat} {as OL:List Rat} {P P':List zh}
def Ful.pm (h:Ful m T as P):PathM m P:=⟨⟨h.std.rise,λc g=>(h.std.ok c g).1,h.thin⟩,λc g=>(h.std.ok c g).2,h.mono⟩
def LeV.refl (x:List Rat):LeV x x:=λi a b ha g=>by rw [ha] at g;cases g;exact QR
def Std.le_last (h:Std m T as P) (mo:Mon P):∀c∈P,LeV c.2 as:=λc s=>by
 obtain ⟨i,r,rfl⟩:=QS s;have q:=h.last;rw [jaB] at q;obtain ⟨t,g⟩:=Qd.mp q
 by_cases z:i=P.length - 1
 ·subst z;rw [g];exact LeV.refl _
 ·have:=QO.mp mo i (P.length - 1) r t ⋯;rw [g] at this;exact this
def Std.nn (h:Std m T as P) (mo:Mon P):∀c∈P,∀(i:Nat) (a:Rat),c.2[i]? =some a->0<=a:=λc g i a ha=>by
 obtain ⟨r,q⟩:=h.cons;have s:=(h.ok c g).1;rw [q] at g mo
 rcases Qn.mp g with rfl|g
 ·have:=(Qd.mp ha).2;rw [TL] at this;rw [<-this];exact QR
 ·refine (Qo.mp mo).1 c g i 0 a ?_ ha;have:=(Qd.mp ha).1;rw [QX,QH ⋯]
def Ful.turned (h:Ful m T as P):Ful m T as (yu P):=by
 have I:=h.std.lastC;have D:=h.std.lenA;refine ⟨lV h.std,?_,λi x y z u t hz st=>?_⟩
 ·unfold Mon yu;rw [Tt,List.pairwise_reverse];refine jbG (λ{c d} LG=>?_) h.mono;intro i a b ha g;obtain ⟨a1,a2,M,L,rfl⟩:=Az (x:=(lastC P).2) (y:=d.2) ha;obtain ⟨O,N,f1,f2,rfl⟩:=Az (x:=(lastC P).2) (y:=c.2) g;rw [M] at f1;cases f1;have:=LG i N a2 f2 L
  grind
 ·unfold yu at u t hz;obtain ⟨x,s,rfl⟩:=zL u;obtain ⟨y,w,rfl⟩:=zL t;obtain ⟨z,r,rfl⟩:=zL hz;have G:=(Qd.mp r).1;rw [TK] at G;rw [List.getElem?_reverse ⋯] at s w r;have C:=(h.std.ok x (Qc s)).1;refine h.thin (P.length - 1 - (i+2)) z y x r (by rw [<-w];congr 1;omega) (by rw [<-s];congr 1;omega) ?_;rw [I] at st;intro j c b a K g ha;have J:j<as.length:=by rw [D,<-C];exact (Qd.mp ha).1
  have q:=Qb J;have:=st j (as[j] - a) (as[j] - b) (as[j] - c) (Up q ha) (Up q g) (Up q K);generalize as[j]=A at*;have e:(A - b - (A - a))*(T - z.1 - (T - x.1))=(A - c - (A - a))*(T - y.1 - (T - x.1)):=this
  grind
def Ful.scaled (hp:0<p) (h:Ful m T as P):Ful m (T*p) (ah p as) (zU p P):=by
 have q:∀{x:List Rat} {i:Nat} {a:Rat},(x.map (·*p))[i]? =some a->∃b,x[i]? =some b/\a=b*p:=λ{x i a} ha=>by
  rw [Qh] at ha
  cases e:x[i]? with
  |none=>rw [e] at ha;cases ha
  |some b=>rw [e] at ha;cases ha;exact ⟨b,rfl,rfl⟩
 refine ⟨Wy hp h.std,?_,λi x y z t s hz st=>?_⟩
 ·unfold Mon zU;rw [Tt];refine jbG (λ{c d} LG=>?_) h.mono;intro i a b ha r;obtain ⟨A,D,rfl⟩:=q ha;obtain ⟨w,I,rfl⟩:=q r;exact Zn (LG i A w D I) (QF hp)
 ·unfold zU at t s hz;obtain ⟨x,J,rfl⟩:=zL t;obtain ⟨y,G,rfl⟩:=zL s;obtain ⟨z,C,rfl⟩:=zL hz;refine h.thin i x y z J G C ?_;intro j a b c ha r u;have g:∀{x:List Rat} {a:Rat},x[j]? =some a->(x.map (·*p))[j]? =some (a*p):=λ{x a} h=>by rw [Qh,h];rfl
  have:=st j (a*p) (b*p) (c*p) (g ha) (g r) (g u);have e:(b*p - a*p)*(z.1*p - x.1*p)=(c*p - a*p)*(y.1*p - x.1*p):=this
  have pn:p*p≠0:=λz=>by
   have:=jbu hp hp;rw [z] at this;exact absurd this jaX
  have:=zW (a:=(b - a)*(z.1 - x.1) - (c - a)*(y.1 - x.1)) (b:=p*p) (by grind) pn
  grind
def GX (h:Std m T as P) (mo:Mon P) (h':Std m T' OL P') (s:Mon P'):Mon (P++yE P P'):=by
 have t:=h.lastC;refine jac.mpr ⟨mo,?_,λc w d hd=>?_⟩
 ·unfold yE;rw [Tt];refine jbG (λ{a b} Mn=>?_) (jbl (List.tail_sublist P') s);intro i x y r g;unfold Vy at r g;dsimp only at r g;rw [Qt] at r g
  cases e0:(lastC P).2[i]? with
  |none=>rw [e0] at r;cases r
  |some q=>
   cases e1:a.2[i]? with
   |none=>rw [e0,e1] at r;cases r
   |some u=>
    cases e2:b.2[i]? with
    |none=>rw [e0,e2] at g;cases g
    |some v=>
     rw [e0,e1] at r;rw [e0,e2] at g;cases r;cases g;have:=Mn i u v e1 e2
     grind
 ·obtain ⟨d',A,rfl⟩:=Qj.mp hd;have z:=jad A;intro i x y r g;unfold Vy at g;dsimp only at g;rw [t,Qt] at g
  cases e0:as[i]? with
  |none=>dsimp only at g;rw [e0] at g;cases g
  |some q=>
   cases e1:d'.2[i]? with
   |none=>dsimp only at g;rw [e0,e1] at g;cases g
   |some u=>
    dsimp only at g;rw [e0,e1] at g;cases g;have D:=h.le_last mo c w i x q r e0;have C:=h'.nn s d' z i u e1
    grind
def jF (h:Std m T as P) (mo:Mon P) (h':Std m T' OL P') (r:Mon P'):Ful m (T+T') (List.zipWith (·+·) as OL) (yo (P++yE P P')):=by
 have s:=gE h h';obtain ⟨g,_⟩:=lN s;exact ⟨g,jbl (ZK _) (GX h mo h' r),oE s.rise λx q=>(s.ok x q).1⟩
end
section
variable {l:List Cl} {ls as:List Int}
def JM (as:List Int) (h:ls.Pairwise (·<·)):Mon (evP as ls):=by
 unfold Mon evP;rw [Tt];refine jbG (λ{a b} Mn=>?_) h;intro i x y g m;unfold ya Wu at g m;simp only [Qm,Qh] at g m
 cases e:as[i]? with
 |none=>rw [e] at g;cases g
 |some q=>
  rw [e] at g m;cases g;cases m;show ((min q a:Int):Rat)<=((min q b:Int):Rat);exact Th.mpr ⋯
def JL (h:LvOk as ls):Thn (evP as ls):=λi x y z s r hz st=>by
 unfold evP at s r hz;obtain ⟨a,ha,rfl⟩:=zL s;obtain ⟨b,m,rfl⟩:=zL r;obtain ⟨c,t,rfl⟩:=zL hz
 have lt:∀{i j:Nat} {a b:Int},ls[i]? =some a->ls[j]? =some b->i<j->a<b:=λ{i j a b} ha m SJ=>by
  obtain ⟨A,rfl⟩:=Qd.mp ha;obtain ⟨w,rfl⟩:=Qd.mp m;exact QO.mp h.rise i j A w SJ
 have ab:=lt ha m ⋯;have D:=lt m t ⋯;have a0:=h.nnL a (Qc ha)
 have bm:b∈as:=by
  rcases (h.mem b).mp (Qc m) with z|z
  ·omega
  ·exact z
 obtain ⟨j,C⟩:=Qx.mp bm
 have g:∀q:Int,(ya (Wu as q)).2[j]? =some ((min b q:Int):Rat):=λq=>by
  unfold ya Wu;simp only [Qm,Qh,C];rfl
 have e:=st j _ _ _ (g a) (g b) (g c);have s1:=h.sumlt (Qc m) (Qc t) D;rw [show min b a=a by omega,show min b b=b by omega,show min b c=b by omega] at e;have I:((b:Rat) - (a:Rat))*((((Wu as c).sum:Int):Rat) - (((Wu as a).sum:Int):Rat))=((b:Rat) - (a:Rat))*((((Wu as b).sum:Int):Rat) - (((Wu as a).sum:Int):Rat)):=e;have G:=lY ab;have u:=lY s1;have:=jbu (show (0:Rat)<(b:Rat) - (a:Rat) by grind) (show (0:Rat)<(((Wu as c).sum:Int):Rat) - (((Wu as b).sum:Int):Rat) by grind)
 grind
def Vn (h:LvOk (amV l) ls):Ful l.length (zA (amQ l)) (amQ l) (evP (amV l) ls):=⟨(We h).std,JM _ h.rise,JL h⟩
def jB (h:LvOk (amV l) ls):Ful l.length (zA (amQ l)) (amQ l) (loP (amV l) ls):=by
 have:=(Vn h).turned;rwa [dJ h] at this
def wB (nn:∀a∈amV l,0<=a):Ful l.length (zA (amQ l)) (amQ l) (shP (amV l)):=by
 have s:=(fZ nn).std;refine ⟨s,?_,λi x y z _ _ hz=>?_⟩
 ·obtain ⟨r,t⟩:=s.cons;have ok:=s.ok;unfold shP at t ok⊢
  split
  ·exact jau _ _
  ·refine Qo.mpr ⟨λd hd=>?_,jau _ _⟩;rw [Qv.mp hd,Wj];intro i a b ha g;have m:=(Qd.mp ha).2;rw [TL] at m;unfold ya at g;simp only [Qh] at g
   cases e:(amV l)[i]? with
   |none=>rw [e] at g;cases g
   |some q=>
    rw [e] at g;cases g;rw [<-m];exact bD (nn q (Qc e))
 ·unfold shP at hz
  split at hz<;>simp at hz
def tX (p0:0<p) (s:p<1) (m:Ful l.length (zA (amQ l)) (amQ l) P) (g:Ful l.length (zA (amQ l)) (amQ l) P'):Ful l.length (zA (amQ l)) (amQ l) (Wt p P P'):=by
 have s1:=m.scaled p0;have s2:=g.scaled (p:=1 - p) (by grind);have:=jF s1.std s1.mono s2.std s2.mono;have q:zA (amQ l)*p+zA (amQ l)*(1 - p)=zA (amQ l):=by grind
 have r:List.zipWith (·+·) (ah p (amQ l)) (ah (1 - p) (amQ l))=amQ l:=by
  unfold ah
  apply TC
  ·simp
  ·intro i _ _;simp only [Tb,jaK]
   grind
 rw [q,r] at this;exact this
def wC (h:LvOk (amV l) ls):Ful l.length (zA (amQ l)) (amQ l) (yo (hvP (amV l) ls)):=by
 have g:=tX (p:=1 / 2) tP (by decide+kernel) (Vn h) (jB h)
 have m:Wt (1 / 2) (evP (amV l) ls) (loP (amV l) ls)=yo (hvP (amV l) ls):=by
  unfold Wt;rw [show (1:Rat) - 1 / 2=1 / 2 by decide+kernel];rfl
 rw [m] at g;exact g
end
noncomputable def xU:List (Rat×Nat)->List Rat->List Rat
 |[],w=>w
 |(p,i)::r,w=>xU r (w.set i p)
noncomputable def yc (pl:List Nat) (n:Nat) (v:List Rat):List Rat:=xU (v.zip pl) (List.replicate n 0)
theorem aB:∀(z:List (Rat×Nat)) (w:List Rat),(xU z w).length=w.length
 |[],w=>rfl
 |(p,i)::r,w=>by rw [xU,aB r,jbU]
theorem VQ:∀(z:List (Rat×Nat)) (w:List Rat),(∀x∈z,x.2≠j)->(xU z w)[j]? =w[j]?
 |[],w,_=>rfl
 |(p,i)::r,w,h=>by
  rw [xU,VQ r _ λx g=>h x (Qf _ g),jbH (h (p,i) (Qe ..))]
theorem ja:∀(z:List (Rat×Nat)) (w:List Rat),(z.map (·.2)).Nodup->(p,j)∈z->j<w.length->(xU z w)[j]? =some p
 |[],w,_,h,_=>absurd h Qp
 |(q,i)::r,w,nd,h,hj=>by
  rw [Ql,jae] at nd;rw [xU]
  rcases Qn.mp h with e|h
  ·cases e;rw [VQ r _ λx g e=>nd.1 (Qj.mpr ⟨x,g,e⟩),List.getElem?_set_self hj]
  ·exact ja r _ nd.2 h (by rw [jbU];exact hj)
def Ae {v:List Rat} {pl:List Nat} (h:v.length=pl.length):(v.zip pl).map (·.2)=pl:=by
 have:(v.zip pl).map Prod.snd=pl:=List.map_snd_zip ⋯;exact this
structure Pls (n:Nat) (pl:List Nat):Prop where
 nd:pl.Nodup
 lt:∀i∈pl,i<n
section
variable {n m:Nat} {pl:List Nat} {v u:List Rat}
def yJ (pl:List Nat) (n:Nat) (v:List Rat):(yc pl n v).length=n:=by unfold yc;rw [aB,QE]
def iW (h:Pls n pl) (g:v.length=pl.length) {p:Rat} {i:Nat} (hm:(p,i)∈v.zip pl):(yc pl n v)[i]? =some p:=
 ja _ _ (by rw [Ae g];exact h.nd) hm (by rw [QE];exact h.lt i (jbB hm).2)
def Zh (h:Pls n pl) (g:v.length=pl.length) {i j:Nat} {p:Rat} (q:pl[j]? =some i) (hp:v[j]? =some p):(yc pl n v)[i]? =some p:=
 iW h g (Qc (i:=j) (by rw [Ti];exact ⟨hp,q⟩))
def xX (q:i<n) (hm:i∉pl):(yc pl n v)[i]? =some 0:=by
 unfold yc;rw [VQ _ _ λx g e=>hm (by rw [<-e];exact (jbB (a:=x.1) (b:=x.2) g).2),QX,QH q]
def Ze (h:Pls n pl) (q:v.length=pl.length) {i:Nat} {p:Rat} (hp:(yc pl n v)[i]? =some p):(∃j:Nat,pl[j]? =some i/\v[j]? =some p)\/(i∉pl/\p=0):=by
 have r:i<n:=by have:=(Qd.mp hp).1;rwa [yJ] at this
 by_cases c:i∈pl
 ·obtain ⟨j,g⟩:=Qx.mp c;have s:=(Qd.mp g).1;have e:=Qb (l:=v) (i:=j) ⋯;have:=Zh h q g e;rw [hp] at this;cases this;exact .inl ⟨j,g,e⟩
 ·rw [xX r c] at hp;cases hp;exact .inr ⟨c,rfl⟩
theorem sI:∀{w:List Rat} {i:Nat} {q p:Rat},w[i]? =some q->zA (w.set i p)=zA w - q+p
 |[],_,_,_,h=>by simp at h
 |a::w,0,q,p,h=>by
  cases h;rw [List.set_cons_zero,zA,zA];grind
 |a::w,i+1,q,p,h=>by
  rw [List.set_cons_succ,zA,zA,sI (w:=w) (i:=i) (q:=q) (p:=p) ‹h›];grind
theorem iZ:∀(z:List (Rat×Nat)) (w:List Rat),(z.map (·.2)).Nodup->(∀x∈z,w[x.2]? =some 0)->zA (xU z w)=zA w+zA (z.map (·.1))
 |[],w,_,_=>by rw [xU,jaJ,zA];grind
 |(p,i)::r,w,nd,h=>by
  rw [Ql,jae] at nd;have h0:=h (p,i) (Qe ..)
  rw [xU,iZ r _ nd.2 λx g=>by
   rw [jbH (λe=>nd.1 (Qj.mpr ⟨x,g,e.symm⟩))]
   exact h x (Qf _ g),sI h0,Ql,zA]
  grind
def uS (h:Pls n pl) (q:v.length=pl.length):zA (yc pl n v)=zA v:=by
 unfold yc
 rw [iZ _ _ (by rw [Ae q];exact h.nd) λx g=>by
  rw [QX,QH (h.lt _ (jbB (a:=x.1) (b:=x.2) g).2)],Xq]
 have:(v.zip pl).map Prod.fst=v:=List.map_fst_zip ⋯;have e:(v.zip pl).map (·.1)=v:=this;rw [e];grind
def pY (h:Pls n pl):yc pl n (List.replicate pl.length 0)=List.replicate n 0:=by
 apply Tn
 intro i
 by_cases g:i<n
 ·rw [QX,QH g];have e:=Qb (l:=yc pl n (List.replicate pl.length 0)) (i:=i) (by rw [yJ];exact g)
  rcases Ze h (by rw [QE]) e with ⟨j,q,hp⟩|⟨_,hp⟩
  ·rw [e];have:=(Qd.mp hp).2;rw [TL] at this;rw [<-this]
  ·rw [e,hp]
 ·rw [QD (by rw [yJ];omega),QD (by rw [QE];omega)]
noncomputable def YX (pl:List Nat) (n:Nat) (c:zh):zh:=(c.1,yc pl n c.2)
noncomputable def yq (pl:List Nat) (n:Nat) (P:List zh):List zh:=P.map (YX pl n)
def Jn (t:Rat):xY t 0 0=0:=by unfold xY;grind
def qb {c d:zh} {e:Rat} (h:Pls n pl) (lc:c.2.length=pl.length) (ld:d.2.length=pl.length):XS (YX pl n c) (YX pl n d) e=yc pl n (XS c d e):=by
 have t:(XS c d e).length=pl.length:=dA lc ld
 apply Tn
 intro i
 by_cases g:i<n
 ·have s:=Qb (l:=yc pl n c.2) (i:=i) (by rw [yJ];exact g);have r:=Qb (l:=yc pl n d.2) (i:=i) (by rw [yJ];exact g);unfold XS YX;dsimp only;rw [Qt,s,r]
  by_cases hm:i∈pl
  ·obtain ⟨j,q⟩:=Qx.mp hm;have y:=(Qd.mp q).1;have f1:=Qb (l:=c.2) (i:=j) ⋯;have f2:=Qb (l:=d.2) (i:=j) ⋯;have g1:=Zh h lc q f1;have g2:=Zh h ld q f2;rw [s] at g1;rw [r] at g2
   have w:(XS c d e)[j]? =some (xY ((e - c.1) / (d.1 - c.1)) c.2[j] d.2[j]):=by
    unfold XS;rw [Qt,f1,f2]
   have g3:=Zh h t q w;unfold XS at g3;rw [g3,QK g1,QK g2]
  ·have g1:=xX (v:=c.2) g hm;have g2:=xX (v:=d.2) g hm;have g3:=xX (v:=XS c d e) g hm;rw [s] at g1;rw [r] at g2;unfold XS at g3;rw [g3,QK g1,QK g2];show some (xY _ 0 0)=_;rw [Jn]
 ·rw [QD,QD (by rw [yJ];omega)];rw [dA (m:=n) (yJ ..) (yJ ..)];omega
theorem ck (h:Pls n pl):∀{c:zh} {r:List zh},(∀x∈c::r,x.2.length=pl.length)->zg (yq pl n (c::r)) e=yc pl n (zg (c::r) e)
 |c,[],_=>rfl
 |c,d::r,hl=>by
  have lc:=hl c (Qe ..);have ld:=hl d (Qf _ (Qe ..));show zg (YX pl n c::YX pl n d::yq pl n r) e=_;rw [zg,zg]
  by_cases he:e<d.1
  ·rw [QH he,QH (show e<(YX pl n d).1 from he),qb h lc ld]
  ·rw [QP he,QP (show ¬e<(YX pl n d).1 from he)];exact ck h (c:=d) (r:=r) λx g=>hl x (Qf _ g)
def Std.spread (h:Std m T as P) (hp:Pls n pl) (hm:pl.length=m):Std n T (yc pl n as) (yq pl n P):=by
 subst hm;refine ⟨?_,λc g=>?_,?_,?_⟩
 ·unfold yq yr;rw [Tt];exact h.rise
 ·obtain ⟨d,hd,rfl⟩:=Qj.mp g;have:=h.ok d hd;exact ⟨yJ ..,by show zA (yc pl n d.2)=d.1;rw [uS hp this.1,this.2]⟩
 ·unfold yq;rw [Qh,h.head];show some (0,yc pl n _)=_;rw [pY hp]
 ·unfold yq;rw [jaO,h.last];rfl
def Std.spreadE (h:Std m T as P) (hp:Pls n pl) (hm:pl.length=m) (e:Rat):zg (yq pl n P) e=yc pl n (zg P e):=by
 obtain ⟨r,q⟩:=h.cons;have ok:=h.ok;rw [q] at ok⊢;exact ck hp λx g=>by rw [(ok x g).1,hm]
def Ful.spread {T:Rat} {as:List Rat} {P:List zh} (h:Ful m T as P) (hp:Pls n pl) (hm:pl.length=m):Ful n T (yc pl n as) (yq pl n P):=by
 have ls:∀c∈P,c.2.length=pl.length:=λc q=>by rw [(h.std.ok c q).1,hm]
 refine ⟨h.std.spread hp hm,?_,λi x y z C A hz st=>?_⟩
 ·unfold yq Mon;rw [Tt];refine List.Pairwise.imp_of_mem (λ{c d} q hd LG=>?_) h.mono;intro i a b ha r
  rcases Ze hp (ls c q) ha with ⟨j,g,L⟩|⟨hn,rfl⟩
  ·rcases Ze hp (ls d hd) r with ⟨w,s,I⟩|⟨hn,rfl⟩
   ·have K:j=w:=(List.getElem?_inj (by exact (Qd.mp g).1) hp.nd).mp (by rw [g,s]);subst K;exact LG j a b L I
   ·exact absurd (Qc g) hn
  ·rcases Ze hp (ls d hd) r with ⟨w,s,I⟩|⟨_,rfl⟩
   ·exact absurd (Qc s) hn
   ·exact QR
 ·unfold yq at C A hz;obtain ⟨x,t,rfl⟩:=zL C;obtain ⟨y,G,rfl⟩:=zL A;obtain ⟨z,D,rfl⟩:=zL hz;refine h.thin i x y z t G D λj a b c ha r q=>?_;have J:j<pl.length:=by rw [<-ls x (Qc t)];exact (Qd.mp ha).1
  have g:=Qb J;exact st (pl[j]) a b c (Zh hp (ls x (Qc t)) g ha) (Zh hp (ls y (Qc G)) g r) (Zh hp (ls z (Qc D)) g q)
end
noncomputable def zO (p:Cl->Bool) (l:List Cl):List Nat:=(List.range l.length).filter λi=>p (l.getD i (0,0,0))
noncomputable def zP {α:Type} (d:α) (pl:List Nat) (v:List α):List α:=pl.map λi=>v.getD i d
section
variable {p:Cl->Bool} {l:List Cl} {v:List Rat}
def YO (p:Cl->Bool) (l:List Cl):Pls l.length (zO p l):=⟨List.Pairwise.filter _ List.nodup_range,λi g=>jbm.mp (QU.mp g).1⟩
def Yu (g:l[i]? =some c):i∈zO p l↔p c=true:=by
 unfold zO;rw [QU,jbm,Qk,g];exact ⟨λh=>h.2,λh=>⟨(Qd.mp g).1,h⟩⟩
theorem Ui {α:Type} (d:α) (p:α->Bool):∀l:List α,l.filter p=((List.range l.length).filter λi=>p (l.getD i d)).map λi=>l.getD i d
 |[]=>rfl
 |a::l=>by
  have g:=Ui d p l;have e0:List.range (a::l).length=0::(List.range l.length).map Nat.succ:=by rw [Qy,List.range_succ_eq_map]
  have e:(List.map Nat.succ ((List.range l.length).filter ((λi=>p ((a::l).getD i d))∘Nat.succ))).map (λi=>(a::l).getD i d)=((List.range l.length).filter λi=>p (l.getD i d)).map λi=>l.getD i d:=by
   rw [Qm];rfl
  have z:(a::l).getD 0 d=a:=rfl;rw [e0,jbj (x:=a),jbj (x:=0),List.filter_map,z]
  split
  ·rw [Ql,e,<-g,z]
  ·rw [e,<-g]
def ZR (p:Cl->Bool) (l:List Cl):l.filter p=zP (0,0,0) (zO p l) l:=Ui (0,0,0) p l
def Zl (p:Cl->Bool) (l:List Cl):(zO p l).length=(l.filter p).length:=by rw [ZR];unfold zP;rw [Qa]
def YA (q:Row->Bool) (s:∀c x,q (xC c x)=p c) (r:v.length=l.length):(zC l v).filter q=zC (l.filter p) (zP 0 (zO p l) v):=by
 have t:(zC l v).length=l.length:=by unfold zC;rw [QC,r,TM]
 have g:∀i,i<l.length->(zC l v).getD i (xC (0,0,0) 0)=xC (l.getD i (0,0,0)) (v.getD i 0):=λi m=>by
  unfold zC;rw [Qk,Qt,Qk,Qk,Qb m,Qb (show i<v.length by omega)];rfl
 rw [Ui (xC (0,0,0) 0) q,t,ZR]
 have w:(List.range l.length).filter (λi=>q ((zC l v).getD i (xC (0,0,0) 0)))=zO p l:=by
  unfold zO;refine List.filter_congr λi m=>?_;rw [g i (jbm.mp m),s]
 rw [w];unfold zP
 have u:zC (List.map (λi=>l.getD i (0,0,0)) (zO p l)) (List.map (λi=>v.getD i 0) (zO p l))=(zO p l).map λi=>xC (l.getD i (0,0,0)) (v.getD i 0):=by
  unfold zC;rw [jbK,List.zipWith_self]
 rw [u];refine QG λi m=>?_;rw [g i ((YO p l).lt i m)]
def qE {n:Nat} {pl:List Nat} (h:Pls n pl) (g:v.length=pl.length):zP 0 pl (yc pl n v)=v:=by
 unfold zP
 apply Tn
 intro j;rw [Qh]
 cases e:pl[j]? with
 |none=>
  have:=jaa.mp e;rw [QD ⋯];rfl
 |some i=>
  have m:=(Qd.mp e).1;have f:=Qb (l:=v) (i:=j) ⋯;have:=Zh h g e f;show some ((yc pl n v).getD i 0)=_;rw [Qk,this,f];rfl
def jn (h:∀i∈pl,v[i]? =u[i]?):zP 0 pl v=zP 0 pl u:=by
 unfold zP;refine QG λi g=>?_;rw [Qk,Qk,h i g]
def yV {α:Type} (d:α) (pl:List Nat) (v:List α):(zP d pl v).length=pl.length:=Qa _
end
def qZ:xN []=[]:=by
 unfold xN;have:=(ba (([]:List Row).map (·.group))).choose_spec
 exact List.eq_nil_iff_forall_not_mem.mpr λk g=>by
  have:=(this.2 k).mp g;simp at this
theorem YQ:∀r:Rl,xh r []
 | .shares=>⟨λx m=>absurd m Qp,λx m=>absurd m Qp⟩
 | .evenly=>⟨λx m=>absurd m Qp,λx m=>absurd m Qp,λx m=>absurd m Qp⟩
 | .losses=>⟨λx m=>absurd m Qp,λx m=>absurd m Qp,λx m=>absurd m Qp⟩
 | .halves=>⟨λx m=>absurd m Qp,by
  unfold YC
  split
  ·exact ⟨λx m=>absurd m Qp,λx m=>absurd m Qp,λx m=>absurd m Qp⟩
  ·exact ⟨λx m=>absurd m Qp,λx m=>absurd m Qp,λx m=>absurd m Qp⟩⟩
 | .other r=>⟨λx m=>absurd m Qp,YQ r⟩
 | .ranks r=>⟨λx m=>absurd m Qp,λk=>YQ r,λx m=>absurd m Qp⟩
 | .groups a b=>⟨λx m=>absurd m Qp,λg=>YQ b,by unfold Um;rw [qZ];exact YQ a⟩
 | .upto t b x y=>⟨λx m=>absurd m Qp,by
  unfold YC
  split
  ·exact YQ x
  ·exact YQ y⟩
structure GF (r:Rl) (l:List Cl) (P:List zh):Prop where
 good:Good r l P
 ful:Ful l.length (zA (amQ l)) (amQ l) P
section
variable {n:Nat} {pl:List Nat} {p:Cl->Bool} {l:List Cl} {v:List Rat}
def pZ (h:Pls n pl) (m:i<n) (q:v.length=n):(yc pl n (zP 0 pl v))[i]? =if i∈pl then v[i]? else some 0:=by
 split
 ·rename_i c;obtain ⟨j,g⟩:=Qx.mp c;have e:=Qb (l:=v) (i:=i) ⋯;refine (Zh h (yV ..) g (p:=v[i]) ?_).trans e.symm;unfold zP;rw [Qh,g];show some (v.getD i 0)=_;rw [Qk,e];rfl
 ·exact xX m (by assumption)
def jI (p:Cl->Bool) (l:List Cl):amQ (l.filter p)=zP 0 (zO p l) (amQ l):=by
 rw [ZR];unfold amQ zP;rw [Qm];refine QG λi m=>?_;have g:=(YO p l).lt i m;show (((l.getD i (0,0,0)).1:Int):Rat)=(l.map λc=>((c.1:Int):Rat)).getD i 0;rw [Qk,Qk,Qh,Qb g];rfl
end
def zK (k:Int):Cl->Bool:=λc=>decide (c.2.1=k)
def zu (k:Int):Cl->Bool:=λc=>decide (c.2.2=k)
noncomputable def zQ (l:List Cl):List Int:=(ba (l.map (·.2.1))).choose
noncomputable def zB (l:List Cl):List Int:=(ba (l.map (·.2.2))).choose
def yD (l:List Cl):(zQ l).Pairwise (·<·)/\∀k,k∈zQ l↔k∈l.map (·.2.1):=(ba (l.map λc:Cl=>c.2.1)).choose_spec
def zY (l:List Cl):(zB l).Pairwise (·<·)/\∀k,k∈zB l↔k∈l.map (·.2.2):=(ba (l.map λc:Cl=>c.2.2)).choose_spec
def jR (n:Nat):List zh:=[(0,List.replicate n 0)]
noncomputable def Zr (f:List Cl->List zh) (l:List Cl) (P:List zh) (k:Int):List zh:=
 yo (P++yE P (yq (zO (zK k) l) l.length (f (l.filter (zK k)))))
noncomputable def VD (f:List Cl->List zh) (l:List Cl):List zh:=(zQ l).foldl (Zr f l) (jR l.length)
open Classical in
noncomputable def asD (done:List Int) (l:List Cl):List Rat:=l.map λc=>if c.2.1∈done then (c.1:Rat) else 0
section
variable {r:Rl} {l:List Cl} {done:List Int} {P:List zh} {f:List Cl->List zh} {k:Int}
def DH (done:List Int) (l:List Cl):(asD done l).length=l.length:=Qa _
def pA {i:Nat} {c:Cl} (g:l[i]? =some c) (h:c.2.1∈done):(asD done l)[i]? =some (c.1:Rat):=by
 unfold asD;rw [Qh,g,Option.map_some,QH h]
def gD {i:Nat} {c:Cl} (g:l[i]? =some c) (h:c.2.1∉done):(asD done l)[i]? =some 0:=by
 unfold asD;rw [Qh,g,Option.map_some,QP h]
structure RkI (r:Rl) (l:List Cl) (done:List Int) (P:List zh):Prop where
 ful:Ful l.length (zA (asD done l)) (asD done l) P
 fit:∀e:Rat,0<=e->∀k∈done,xh r ((zC l (zg P e)).filter (·.rank=k))
 zero:∀e:Rat,0<=e->∀(i:Nat) (c:Cl) (q:Rat),l[i]? =some c->(zg P e)[i]? =some q->c.2.1∉done->q=0
 ord:∀e:Rat,0<=e->∀x∈zC l (zg P e),∀y∈zC l (zg P e),x.rank∈done->x.rank<y.rank->0<y.part->x.part=x.am
def Ep (n:Nat):Ful n 0 (List.replicate n 0) (jR n):=by
 refine ⟨⟨jau _ _,λc m=>?_,rfl,rfl⟩,jau _ _,λi x y z _ g=>by simp [jR] at g⟩;rw [Qv.mp m];exact ⟨QE,Xq n⟩
def RkI.nil:RkI r l [] (jR l.length):=by
 have e:asD [] l=List.replicate l.length 0:=by
  unfold asD;rw [<-jbd];exact QG λc _=>QP Qp
 refine ⟨?_,λe _ k s=>absurd s Qp,λe _ i c q t m _=>?_,λe _ x _ y _ g=>absurd g Qp⟩
 ·rw [e,Xq];exact Ep l.length
 ·have:(List.replicate l.length (0:Rat))[i]? =some q:=m;have:=(Qd.mp this).2;rw [TL] at this;exact this.symm
def RkI.step (h:RkI r l done P) (T:∀w∈done,w<k) (hf:GF r (l.filter (zK k)) (f (l.filter (zK k)))):RkI r l (done++[k]) (Zr f l P k):=by
 have I:=YO (zK k) l;have J:=Zl (zK k) l;have N:=hf.ful.spread I J;have st:=h.ful.std;have kn:k∉done:=λz=>absurd (T k z) ⋯;have G:=jF st h.ful.mono N.std N.mono;have inl:∀{i:Nat},i<l.length->∃c,l[i]? =some c:=λ{i} m=>⟨_,Qb m⟩
 have U:List.zipWith (·+·) (asD done l) (yc (zO (zK k) l) l.length (amQ (l.filter (zK k))))=asD (done++[k]) l:=by
  apply Tn
  intro i
  by_cases m:i<l.length
  ·obtain ⟨c,g⟩:=inl m;rw [Qt,jI,pZ I m (Wh l)]
   by_cases s:c.2.1∈done
   ·have n1:i∉zO (zK k) l:=λz=>by
     have:=Qz ((Yu g).mp z);rw [this] at s;exact kn s
    rw [pA g s,QP n1,pA g (jak _ s)];show some ((c.1:Rat)+0)=_;rw [Rat.add_zero]
   ·by_cases K:c.2.1=k
    ·have n1:i∈zO (zK k) l:=(Yu g).mpr (QZ K);rw [gD g s,QH n1,pA g (QI _ (by rw [K];exact jaY _))];unfold amQ;rw [Qh,g];show some ((0:Rat)+(c.1:Rat))=_;rw [Rat.zero_add]
    ·have n1:i∉zO (zK k) l:=λz=>K (Qz ((Yu g).mp z))
     rw [gD g s,QP n1,gD g (λz=>by
      rcases QY.mp z with z|z
      ·exact s z
      ·exact K (Qv.mp z))]
     show some ((0:Rat)+0)=_;rw [Rat.zero_add]
  ·rw [QD (by rw [QC,DH];omega),QD (by rw [DH];omega)]
 have eT:zA (asD done l)+zA (amQ (l.filter (zK k)))=zA (asD (done++[k]) l):=by
  rw [<-U];exact (G.std.ok _ (jal G.std.last)).2.symm
 rw [U,eT] at G
 have parts:∀e:Rat,0<=e->zg (Zr f l P k) e=if e<zA (asD done l) then zg P e else List.zipWith (·+·) (asD done l) (yc (zO (zK k) l) l.length (zg (f (l.filter (zK k))) (e - zA (asD done l)))):=λe h0=>by
  unfold Zr;rw [cx st N.std h0,hf.ful.std.spreadE I J]
 have LU:∀e:Rat,(zg (Zr f l P k) e).length=l.length:=λe=>G.std.len;have D:∀x:Rat,(zg (f (l.filter (zK k))) x).length=(zO (zK k) l).length:=λx=>by rw [hf.ful.std.len,J]
 have here:∀e:Rat,0<=e->¬e<zA (asD done l)->∀(i:Nat) (c:Cl),l[i]? =some c->(c.2.1∈done->(zg (Zr f l P k) e)[i]? =some (c.1:Rat))/\(c.2.1∉done++[k]->(zg (Zr f l P k) e)[i]? =some 0)/\(c.2.1=k->(zg (Zr f l P k) e)[i]? =(yc (zO (zK k) l) l.length (zg (f (l.filter (zK k))) (e - zA (asD done l))))[i]?):=λe h0 t i c g=>by
  have m:=(Qd.mp g).1;rw [parts e h0,QP t,Qt];refine ⟨λs=>?_,λs=>?_,λs=>?_⟩
  ·rw [pA g s,xX m λz=>by
    have:=Qz ((Yu g).mp z);rw [this] at s
    exact kn s]
   show some ((c.1:Rat)+0)=_;rw [Rat.add_zero]
  ·rw [gD g λz=>s (jak _ z),xX m λz=>by
    have:=Qz ((Yu g).mp z)
    exact s (QI _ (by rw [this];exact jaY _))]
   show some ((0:Rat)+0)=_;rw [Rat.zero_add]
  ·rw [gD g (by rw [s];exact kn)];have A:=Qb (l:=yc (zO (zK k) l) l.length (zg (f (l.filter (zK k))) (e - zA (asD done l)))) (i:=i) (by rw [yJ];exact m);rw [A];show some ((0:Rat)+_)=_;rw [Rat.zero_add]
 have zero:∀e:Rat,0<=e->∀(i:Nat) (c:Cl) (q:Rat),l[i]? =some c->(zg (Zr f l P k) e)[i]? =some q->c.2.1∉done++[k]->q=0:=λe h0 i c q g C hn=>by
  by_cases t:e<zA (asD done l)
  ·rw [parts e h0,QH t] at C;exact h.zero e h0 i c q g C λz=>hn (jak _ z)
  ·rw [(here e h0 t i c g).2.1 hn] at C;cases C;rfl
 have rk:∀{w:Int} {i:Nat},i∈zO (zK w) l->∃c,l[i]? =some c/\c.2.1=w:=λ{w i} m=>by
  obtain ⟨c,g⟩:=inl ((YO (zK w) l).lt i m);exact ⟨c,g,Qz ((Yu g).mp m)⟩
 refine ⟨G,λe h0 w Y=>?_,zero,λe h0 x M y L Nq LC Z=>?_⟩
 ·rw [YA (p:=zK w) _ (λc x=>rfl) (LU e)]
  by_cases t:e<zA (asD done l)
  ·rcases QY.mp Y with z|z
   ·have:=h.fit e h0 w z;rw [YA (p:=zK w) _ (λc x=>rfl) st.len] at this;rw [parts e h0,QH t];exact this
   ·rw [Qv.mp z]
    have e0:zP 0 (zO (zK k) l) (zg (Zr f l P k) e)=zg (f (l.filter (zK k))) 0:=by
     rw [hf.ful.std.zero,<-J,<-jbd];unfold zP;refine QG λi m=>?_;obtain ⟨c,g,A⟩:=rk m;have il:=(Qd.mp g).1;have X:=Qb (l:=zg P e) (i:=i) (by rw [st.len];exact il);rw [parts e h0,QH t,Qk,X];exact h.zero e h0 i c _ g X (by rw [A];exact kn)
    rw [e0];exact hf.good.fit 0 QR
  ·rcases QY.mp Y with z|z
   ·have T0:=st.T0;have:=h.fit _ T0 w z;rw [YA (p:=zK w) _ (λc x=>rfl) st.len,st.past QR] at this;rw [jn (u:=asD done l) λi m=>?_]
    ·exact this
    ·obtain ⟨c,g,A⟩:=rk m;rw [(here e h0 t i c g).1 (by rw [A];exact z),pA g (by rw [A];exact z)]
   ·rw [Qv.mp z];rw [jn (u:=yc (zO (zK k) l) l.length (zg (f (l.filter (zK k))) (e - zA (asD done l)))) λi m=>?_,qE I (D _)]
    ·exact hf.good.fit _ (by have:=Tp.mp t;grind)
    ·obtain ⟨c,g,A⟩:=rk m;exact (here e h0 t i c g).2.2 A
 ·obtain ⟨j,d,O,hd,MC,rfl⟩:=Yd L
  have big:x.rank=k->False:=λA=>by
   have:=zero e h0 j d O hd MC λz=>by
    have lt':x.rank<d.2.1:=LC
    rcases QY.mp z with z|z
    ·have:=T _ z;omega
    ·have:=Qv.mp z;omega
   have pos:0<O:=Z;rw [this] at pos;exact absurd pos jaX
  rcases QY.mp Nq with z|z
  ·by_cases t:e<zA (asD done l)
   ·rw [parts e h0,QH t] at M L;exact h.ord e h0 x M _ L z LC Z
   ·obtain ⟨i,c,q,g,C,rfl⟩:=Yd M;rw [(here e h0 t i c g).1 z] at C;cases C;rfl
  ·exact (big (Qv.mp z)).elim
theorem qx:∀(g done:List Int) (P:List zh),RkI r l done P->(done++g).Pairwise (·<·)->(∀k∈g,GF r (l.filter (zK k)) (f (l.filter (zK k))))->RkI r l (done++g) (g.foldl (Zr f l) P)
 |[],done,P,h,_,_=>by rw [jbc];exact h
 |k::g,done,P,h,hp,hf=>by
  have e:done++k::g=done++[k]++g:=by rw [jaj];rfl
  rw [e] at hp⊢;rw [List.foldl_cons];refine qx g (done++[k]) _ (h.step (λm q=>?_) (hf k (Qe ..))) hp λm q=>hf m (Qf _ q);exact (jac.mp (jac.mp hp).1).2.2 m q k (jaY _)
def Fb (hf:∀k∈zQ l,GF r (l.filter (zK k)) (f (l.filter (zK k)))):RkI r l (zQ l) (VD f l):=by
 have:=qx (zQ l) [] _ RkI.nil (by rw [jaR];exact (yD l).1) hf;rw [jaR] at this;exact this
def wq (hf:∀k∈zQ l,GF r (l.filter (zK k)) (f (l.filter (zK k)))):GF (.ranks r) l (VD f l):=by
 have h:=Fb hf;have mem:∀{i:Nat} {c:Cl},l[i]? =some c->c.2.1∈zQ l:=λ{i c} g=>((yD l).2 _).mpr (Qj.mpr ⟨c,Qc g,rfl⟩)
 have u:asD (zQ l) l=amQ l:=by
  unfold asD amQ;refine QG λc g=>?_;obtain ⟨i,t⟩:=Qx.mp g;rw [QH (mem t)]
 have ful:=h.ful;rw [u] at ful
 have fits:∀(e:Rat),0<=e->∀k,xh r ((zC l (zg (VD f l) e)).filter (·.rank=k)):=λe h0 k=>by
  by_cases z:k∈zQ l
  ·exact h.fit e h0 k z
  ·rw [List.filter_eq_nil_iff.mpr λx m hd=>?_]
   ·exact YQ r
   ·obtain ⟨i,c,q,g,_,rfl⟩:=Yd m;have w:c.2.1=k:=Qz hd;exact z (by rw [<-w];exact mem g)
 refine ⟨⟨ful.std,λe h0=>⟨λx m=>?_,fits e h0,λx m y s C A=>?_⟩⟩,ful⟩
 ·exact (fits e h0 x.rank).inQ x (QU.mpr ⟨m,QZ rfl⟩)
 ·refine h.ord e h0 x m y s ?_ C A;obtain ⟨i,c,q,g,_,rfl⟩:=Yd m;exact mem g
end
def lD (h:Nest P Qs) (st:Std Qs.length T as P):Ful (nQ Qs) T (yQ Qs as) (yt P Qs):=by
 have J:=st.lastC;have past:zg P T=as:=st.past QR;refine ⟨⟨h.riseF,λc L=>?_,?_,?_⟩,?_,λi x y z G D hz s=>?_⟩
 ·obtain ⟨i,K⟩:=Qx.mp L;obtain ⟨N,M⟩:=Nest.F_at K;have g:=h.in_range (Qc N);rw [M];exact ⟨h.flen _,h.sum g.1 g.2⟩
 ·rw [Nest.F_of h.zeroM,h.flat0]
 ·rw [h.getLast,J,past]
 ·unfold Mon yt;rw [Tt];refine List.Pairwise.imp_of_mem (λ{u v} hu hv LS=>?_) h.rise;have ru:=h.in_range hu;have C:=h.in_range hv;exact h.rises ru.1 (QF LS) C.2
 ·obtain ⟨A,w⟩:=Nest.F_at G;obtain ⟨t,m⟩:=Nest.F_at D;obtain ⟨z1,z2⟩:=Nest.F_at hz;refine h.thin A t z1 λj p q r hp I hr=>?_;exact s j p r q (by rw [w];exact hp) (by rw [m];exact hr) (by rw [z2];exact I)
def xQ (L:List Row):(xN L).Pairwise (·<·)/\∀k,k∈xN L↔k∈L.map (·.group):=(ba (L.map λc:Row=>c.group)).choose_spec
noncomputable def Aa (g:Int) (l:List Cl):Cl:=((amV l).sum,jo (l.map (·.2.1)),g)
noncomputable def zI (l:List Cl):List Cl:=(zB l).map λg=>Aa g (l.filter (zu g))
noncomputable def zV (f:List Cl->List zh) (l:List Cl):List (List zh):=(zB l).map λg=>f (l.filter (zu g))
noncomputable def mJ (l:List Cl):List (List Nat):=(zB l).map λg=>zO (zu g) l
noncomputable def vz (l:List Cl):List Nat:=(mJ l).flatten
noncomputable def xt (fa fb:List Cl->List zh) (l:List Cl):List zh:=yq (vz l) l.length (yt (fa (zI l)) (zV fb l))
theorem cf:∀{g:List (List Rat)} {m:List (List Nat)},g.map List.length=m.map List.length->∀{k:Nat} {V:List Rat} {L:List Nat},g[k]? =some V->m[k]? =some L->(q,i)∈V.zip L->(q,i)∈g.flatten.zip m.flatten
 |[],m,_,k,V,L,h,_,_=>by simp at h
 |V'::g,[],h,_,_,_,_,_,_=>by simp at h
 |V'::g,L'::m,h,k,V,L,h1,h2,h3=>by
  rw [Ql,Ql] at h;have r:V'.length=L'.length:=by injection h
  have ht:g.map List.length=m.map List.length:=by injection h
  rw [jaf,jaf,List.zip_append r]
  cases k with
  |zero=>
   cases h1;cases h2;exact jak _ h3
  |succ k=>exact QI _ (cf ht (k:=k) ‹h1› ‹h2› h3)
def IX {pl:List Nat} {V v:List Rat} (m:V.length=pl.length) (h:∀(q:Rat) (i:Nat),(q,i)∈V.zip pl->v[i]? =some q):zP 0 pl v=V:=by
 apply Tn
 intro j;unfold zP;rw [Qh]
 cases e:pl[j]? with
 |none=>
  have:=jaa.mp e;rw [QD ⋯];rfl
 |some i=>
  have g:=(Qd.mp e).1;have f:=Qb (l:=V) (i:=j) ⋯;have:=h V[j] i (Qc (i:=j) (by rw [Ti];exact ⟨f,e⟩));show some (v.getD i 0)=_;rw [Qk,this,f];rfl
section
variable {a b:Rl} {l:List Cl} {fa fb:List Cl->List zh}
theorem jC (l:List Cl):∀m:List Int,m.Pairwise (·<·)->(m.map λg=>zO (zu g) l).flatten.Nodup
 |[],_=>List.nodup_nil
 |g::m,h=>by
  obtain ⟨w,u⟩:=Qo.mp h;rw [Ql,jaf,List.nodup_append];refine ⟨(YO _ l).nd,jC l m u,λi q j s e=>?_⟩;subst e;obtain ⟨L,t,z⟩:=List.mem_flatten.mp s;obtain ⟨g',y,rfl⟩:=Qj.mp t;have lt:=(YO _ l).lt i q;have r:=Qb lt;have C:=Qz ((Yu r).mp q);have A:=Qz ((Yu r).mp z);have:=w g' y;omega
def kY (l:List Cl):Pls l.length (vz l):=⟨jC l _ (zY l).1,λi g=>by
 obtain ⟨L,m,q⟩:=List.mem_flatten.mp g;obtain ⟨g',r,rfl⟩:=Qj.mp m
 exact (YO _ l).lt i q⟩
def xP (l:List Cl):(zI l).length=(zB l).length:=Qa _
def Yj (f:List Cl->List zh) (l:List Cl):(zV f l).length=(zB l).length:=Qa _
def um {k:Nat} {g:Int} (m:(zB l)[k]? =some g):(amQ (zI l))[k]? =some (zA (amQ (l.filter (zu g)))):=by
 unfold amQ zI;rw [Qm,Qh,m];show some (((amV (l.filter (zu g))).sum:Int):Rat)=_;rw [<-xA];rfl
def Ug (ha:Ful (zI l).length (zA (amQ (zI l))) (amQ (zI l)) (fa (zI l))) (s:∀g∈zB l,Ful (l.filter (zu g)).length (zA (amQ (l.filter (zu g)))) (amQ (l.filter (zu g))) (fb (l.filter (zu g)))):Nest (fa (zI l)) (zV fb l):=by
 have e:(zV fb l).length=(zI l).length:=by rw [xP,Yj]
 refine ⟨by rw [e];exact ha.pm,by rw [e];exact ha.std.cons,λk Q m=>?_⟩;unfold zV at m;obtain ⟨g,q,rfl⟩:=zL m;have h:=s g (Qc q);obtain ⟨r,t⟩:=h.std.cons;refine ⟨_,r,t,h.pm,?_⟩;rw [ha.std.lastC,h.std.lastC];exact um q
def fG (m:∀g∈zB l,Ful (l.filter (zu g)).length (zA (amQ (l.filter (zu g)))) (amQ (l.filter (zu g))) (fb (l.filter (zu g)))):(vz l).length=nQ (zV fb l):=by
 unfold vz mJ zV;generalize zB l=q at*
 induction q with
 |nil=>rfl
 |cons g q s=>
  rw [Ql,jaf,QB,s λg' u=>m g' (Qf _ u),Ql,nQ,Zl];obtain ⟨r,t⟩:=(m g (Qe ..)).std.cons;rw [t]
  congr 1
  show _=(List.replicate _ (0:Rat)).length;rw [QE]
def jm (r:∀g∈zB l,Ful (l.filter (zu g)).length (zA (amQ (l.filter (zu g)))) (amQ (l.filter (zu g))) (fb (l.filter (zu g)))) {ps:List Rat} (w:ps.length=(zB l).length) {k:Nat} {g:Int} {p:Rat} (m:(zB l)[k]? =some g) (hp:ps[k]? =some p):
 zP 0 (zO (zu g) l) (yc (vz l) l.length (yQ (zV fb l) ps))=zg (fb (l.filter (zu g))) p:=by
 have s:(List.zipWith zg (zV fb l) ps).map List.length=(mJ l).map List.length:=by
  apply Tn
  intro j;unfold zV mJ;rw [Qh,Qh,Qh,Qt,Qh]
  cases e:(zB l)[j]? with
  |none=>rfl
  |some g'=>
   have u:=(Qd.mp e).1;rw [Qb (l:=ps) (i:=j) ⋯];show some (zg (fb (l.filter (zu g'))) ps[j]).length=some (zO (zu g') l).length;rw [(r g' (Qc e)).std.len,Zl]
 have t:(yQ (zV fb l) ps).length=(vz l).length:=by
  unfold yQ vz;rw [List.length_flatten,List.length_flatten,s]
 refine IX ?_ λq i hm=>?_
 ·rw [(r g (Qc m)).std.len,Zl]
 ·refine iW (kY l) t ?_;refine cf s (k:=k) (V:=zg (fb (l.filter (zu g))) p) (L:=zO (zu g) l) ?_ ?_ hm
  ·unfold zV;rw [Qt,Qh,m,hp];rfl
  ·unfold mJ;rw [Qh,m];rfl
def rh (ha:GF a (zI l) (fa (zI l))) (hb:∀g∈zB l,GF b (l.filter (zu g)) (fb (l.filter (zu g)))):GF (.groups a b) l (xt fa fb l):=by
 have A:=λg C=>(hb g C).ful;have nest:=Ug (fa:=fa) (fb:=fb) ha.ful A;have J:(zV fb l).length=(zI l).length:=by rw [xP,Yj]
 have u:=ha.ful.std;have G:Std (zV fb l).length (zA (amQ (zI l))) (amQ (zI l)) (fa (zI l)):=by rw [J];exact u
 have W:=lD nest G;have Z:=fG (fb:=fb) A;have X:=kY l;have R:=W.spread X Z;have w:∀e:Rat,(zg (fa (zI l)) e).length=(zB l).length:=λe=>by rw [u.len,xP]
 have t:∀{i:Nat} {c:Cl},l[i]? =some c->c.2.2∈zB l:=λ{i c} D=>((zY l).2 _).mpr (Qj.mpr ⟨c,Qc D,rfl⟩)
 have eA:yc (vz l) l.length (yQ (zV fb l) (amQ (zI l)))=amQ l:=by
  apply Tn
  intro i
  by_cases N:i<l.length
  ·have D:=Qb N;obtain ⟨k,r⟩:=Qx.mp (t D);have s:=jm (fb:=fb) A (ps:=amQ (zI l)) (by rw [Wh,xP]) r (um r);rw [(A _ (Qc r)).std.past QR,jI] at s;unfold zP at s;have O:=List.map_inj_left.mp s i ((Yu D).mpr (QZ rfl));rw [Qk,Qk] at O;have f1:=Qb (l:=yc (vz l) l.length (yQ (zV fb l) (amQ (zI l)))) (i:=i) (by rw [yJ];exact N);have f2:=Qb (l:=amQ l) (i:=i) (by rw [Wh];exact N);rw [f1,f2] at O;rw [f1,f2];exact congrArg some O
  ·rw [QD (by rw [yJ];omega),QD (by rw [Wh];omega)]
 have eT:zA (amQ (zI l))=zA (amQ l):=by
  rw [<-eA];exact (R.std.ok _ (jal R.std.last)).2.symm
 have K:=R;rw [eA,eT] at K;refine ⟨⟨K.std,λe h0=>?_⟩,K⟩;rw [show zg (xt fa fb l) e=zg (xt fa fb l) (mn e (zA (amQ l))) from K.std.clip]
 have m0:0<=mn e (zA (amQ l)):=by
  have:=K.std.T0;unfold mn
  split<;>grind
 have m1:mn e (zA (amQ l))<=zA (amQ l):=by unfold mn;split<;>grind
 generalize mn e (zA (amQ l))=x at*;have Y:x<=(lastC (fa (zI l))).1:=by rw [u.lastC];show x<=zA (amQ (zI l));rw [eT];exact m1
 have ev:zg (xt fa fb l) x=yc (vz l) l.length (yQ (zV fb l) (zg (fa (zI l)) x)):=by
  unfold xt;rw [W.std.spreadE X Z,nest.at m0 Y]
 have LU:(zg (xt fa fb l) x).length=l.length:=by rw [ev,yJ]
 have pick:∀{k:Nat} {g:Int} {p:Rat},(zB l)[k]? =some g->(zg (fa (zI l)) x)[k]? =some p->(zC l (zg (xt fa fb l) x)).filter (·.group=g)=zC (l.filter (zu g)) (zg (fb (l.filter (zu g))) p):=λ{k g p} C hp=>by
  rw [YA (p:=zu g) _ (λc x=>rfl) LU,ev,jm A (w x) C hp]
 have m:∀{k:Nat} {g:Int} {p:Rat},(zB l)[k]? =some g->(zg (fa (zI l)) x)[k]? =some p->0<=p/\p<=zA (amQ (l.filter (zu g))):=λ{k g p} C hp=>by
  have hQ:(zV fb l)[k]? =some (fb (l.filter (zu g))):=by unfold zV;rw [Qh,C];rfl
  have:=nest.range m0 Y hQ hp;rw [(A g (Qc C)).std.lastC] at this;exact this
 have fits:∀g,xh b ((zC l (zg (xt fa fb l) x)).filter (·.group=g)):=λg=>by
  by_cases z:g∈zB l
  ·obtain ⟨k,r⟩:=Qx.mp z;have hp:=Qb (l:=zg (fa (zI l)) x) (i:=k) (by rw [w];exact (Qd.mp r).1);rw [pick r hp];exact (hb g z).good.fit _ (m r hp).1
  ·rw [List.filter_eq_nil_iff.mpr λy M hd=>?_]
   ·exact YQ b
   ·obtain ⟨i,c,q,D,_,rfl⟩:=Yd M;have s:c.2.2=g:=Qz hd;exact z (by rw [<-s];exact t D)
 refine ⟨λy M=>(fits y.group).inQ y (QU.mpr ⟨M,QZ rfl⟩),fits,?_⟩
 have eg:xN (zC l (zg (xt fa fb l) x))=zB l:=by
  have:(zC l (zg (xt fa fb l) x)).map (·.group)=l.map (·.2.2):=by
   unfold zC;rw [jbL]
   apply Tn
   intro i;rw [Qt,Qh]
   cases s:l[i]? with
   |none=>rfl
   |some c=>
    have L:=(Qd.mp s).1;rw [Qb (l:=zg (xt fa fb l) x) (i:=i) (by rw [LU];exact L)];rfl
  exact Zi (xQ _).1 (zY l).1 λk=>by rw [(xQ _).2,this,(zY l).2]
 have es:Um (zC l (zg (xt fa fb l) x))=zC (zI l) (zg (fa (zI l)) x):=by
  unfold Um;rw [eg]
  apply Tn
  intro k;unfold zC zI;rw [Qh,Qt,Qh]
  cases r:(zB l)[k]? with
  |none=>rfl
  |some g=>
   obtain ⟨p,hp⟩:∃p,(zg (fa (zI l)) x)[k]? =some p:=⟨_,Qb (by rw [w];exact (Qd.mp r).1)⟩;have Mq:=hp;unfold zI at Mq;rw [Mq];have I:=pick r hp;unfold zC at I;have U:=m r hp;have sb:=(A g (Qc r)).std;have ls:=sb.len (e:=p);have T:=Yr ls;have P:=Yq ls;unfold zC at T P;show some (Row.mk _ _ _ _)=some (xC (Aa g (l.filter (zu g))) _);rw [I,T,P,sb.sum U.1]
   congr 1
   have e4:mn p (zA (amQ (l.filter (zu g))))=p:=by unfold mn;rw [QH U.2]
   have e5:(List.zipWith xC (l.filter (zu g)) (zg (fb (l.filter (zu g))) p)).map (·.rank)=(l.filter (zu g)).map (·.2.1):=by
    rw [jbL]
    apply Tn
    intro i;rw [Qt,Qh]
    cases s:(l.filter (zu g))[i]? with
    |none=>rfl
    |some c=>
     have L:=(Qd.mp s).1;rw [Qb (l:=zg (fb (l.filter (zu g))) p) (i:=i) (by rw [ls];exact L)];rfl
   rw [e4,e5,xA];rfl
 rw [es];exact ha.good.fit x m0
end
noncomputable def zE:Rl->List Cl->List zh
 | .shares,l=>shP (amV l)
 | .evenly,l=>evP (amV l) (lvV (amV l))
 | .losses,l=>loP (amV l) (lvV (amV l))
 | .halves,l=>yo (hvP (amV l) (lvV (amV l)))
 | .other r,l=>yu (zE r l)
 | .ranks r,l=>VD (λl=>zE r l) l
 | .groups a b,l=>xt (λl=>zE a l) (λl=>zE b l) l
 | .upto t b x y,l=>Wt (Rat.divInt t b) (zE x l) (zE y l)
def POk:Rl->Prop
 | .other r=>POk r
 | .upto t b x y=>Vb t b/\POk x/\POk y
 | .ranks r=>POk r
 | .groups a b=>POk a/\POk b
 |_=>True
def xg {l:List Cl} (nn:∀c∈l,0<=c.1) (p:Cl->Bool):∀c∈l.filter p,0<=c.1:=λc g=>nn c (QU.mp g).1
def Xv (nn:∀c∈l,0<=c.1):∀a∈amV l,0<=a:=λa ha=>by
 obtain ⟨c,g,rfl⟩:=Qj.mp ha;exact nn c g
def jS {l:List Cl} (nn:∀c∈l,0<=c.1):∀c∈zI l,0<=c.1:=λc m=>by
 obtain ⟨g,_,rfl⟩:=Qj.mp m;exact VB (Xv (xg nn _))
theorem yW:∀{r:Rl} {l:List Cl},POk r->(∀c∈l,0<=c.1)->GF r l (zE r l)
 | .shares,l,_,nn=>⟨fZ (Xv nn),wB (Xv nn)⟩
 | .evenly,l,_,nn=>⟨We (WN (Xv nn)),Vn (WN (Xv nn))⟩
 | .losses,l,_,nn=>⟨gg (WN (Xv nn)),jB (WN (Xv nn))⟩
 | .halves,l,_,nn=>⟨rf (WN (Xv nn)),wC (WN (Xv nn))⟩
 | .other r,l,h,nn=>⟨(yW (r:=r) h nn).good.other,(yW (r:=r) h nn).ful.turned⟩
 | .ranks r,l,h,nn=>wq λk _=>yW (r:=r) h (xg nn _)
 | .groups a b,l,h,nn=>rh (yW (r:=a) h.1 (jS nn)) λg _=>yW (r:=b) h.2 (xg nn _)
 | .upto t b x y,l,h,nn=>⟨Good.upto rfl (Ue h.1).1 (Ue h.1).2 nn (yW h.2.1 nn).good (yW h.2.2 nn).good,tX (Ue h.1).1 (Ue h.1).2 (yW h.2.1 nn).ful (yW h.2.2 nn).ful⟩
def DQ (d:Nat) (x:Rat):Prop:=∃D:Int,(0<D/\D<=2 ^ d)/\Yh D x
def DC (d:Nat) (c:zh):Prop:=DQ d c.1/\∀x∈c.2,DQ d x
def DP (d:Nat) (P:List zh):Prop:=∀c∈P,DC d c
def UI {a b:Int} {m n:Nat} (ha:0<a/\a<=2 ^ m) (g:0<b/\b<=2 ^ n):0<a*b/\a*b<=2 ^ (m+n):=by
 refine ⟨Int.mul_pos ha.1 g.1,?_⟩;rw [Int.pow_add];exact Int.mul_le_mul ha.2 g.2 (jbr g.1) (jbt (jbr ha.1) ha.2)
def IV {m n:Nat} (h:m<=n):(2:Int) ^ m<=2 ^ n:=by
 have:=Nat.pow_le_pow_right (n:=2) nofun h;have e:∀k:Nat,(2:Int) ^ k=((2 ^ k:Nat):Int):=λk=>by rw [jbX];rfl
 rw [e,e];exact Int.ofNat_le.mpr this
section
variable {d d' t:Nat} {x y:Rat} {T:Int}
def DQ.mono (h:DQ d x) (hd:d<=d'):DQ d' x:=by
 obtain ⟨D,⟨q,m⟩,g⟩:=h;exact ⟨D,⟨q,jbt m (IV hd)⟩,g⟩
def DQ.int (n:Int):DQ 0 (n:Rat):=⟨1,⟨nofun,nofun⟩,Yh.int n 1⟩
def DQ.zero:DQ 0 0:=DQ.int 0
def DQ.add (h:DQ d x) (g:DQ d' y):DQ (d+d') (x+y):=by
 obtain ⟨D,q,r⟩:=h;obtain ⟨E,m,g3⟩:=g;exact ⟨D*E,UI q m,(r.mul E).add (g3.mulL D)⟩
def DQ.sub (h:DQ d x) (g:DQ d' y):DQ (d+d') (x - y):=by
 obtain ⟨D,q,r⟩:=h;obtain ⟨E,m,g3⟩:=g;exact ⟨D*E,UI q m,(r.mul E).sub (g3.mulL D)⟩
def DP.mono {P:List zh} (h:DP d P) (hd:d<=d'):DP d' P:=λc g=>⟨(h c g).1.mono hd,λx m=>((h c g).2 x m).mono hd⟩
def DQ.mix {Z Y X O db:Nat} {e a b:Rat} (he:DQ Z e) (L:DQ Y x) (K:DQ X y) (ha:DQ O a) (M:DQ db b) (Mn:a<b) (a0:0<=a) (bT:b<=(T:Rat)) (hT:T<=2 ^ t):DQ (Z+Y+(X+(t+(O+db)))) (xY ((e - a) / (b - a)) x y):=by
 have line:=xf (x:=x) (y:=y) (E:=e) Mn;generalize xY ((e - a) / (b - a)) x y=m at*;obtain ⟨J,pe,ke,he⟩:=he;obtain ⟨P,px,U,L⟩:=L;obtain ⟨I,py,ky,K⟩:=K;obtain ⟨Da,pa,g,ha⟩:=ha;obtain ⟨Db,pb,r,M⟩:=M
 have G:(b - a)*((Da*Db:Int):Rat)=((r*Da - g*Db:Int):Rat):=by
  rw [jbe,Tg,Tg,Tg,<-ha,<-M];grind
 have C:=UI pa pb;have q:=YS C.1
 have T0:0<T:=by
  have:(0:Rat)<(T:Rat):=by grind
  exact Int.not_le.mp λz=>by
   have:=Th.mpr z
   grind
 have N0:0<r*Da - g*Db:=by
  have:(0:Rat)<((r*Da - g*Db:Int):Rat):=by rw [<-G];exact jbu (by grind) q
  exact Int.not_le.mp λz=>by
   have:=Th.mpr z
   grind
 have NT:r*Da - g*Db<=T*(Da*Db):=by
  apply WY
  rw [<-G,Tg T];exact Zn (by grind) (QF q)
 have pN:0<r*Da - g*Db/\r*Da - g*Db<=2 ^ (t+(O+db)):=⟨N0,jbt NT (UI ⟨T0,hT⟩ C).2⟩;generalize r*Da - g*Db=N at*;refine ⟨J*P*(I*N),UI (UI pe px) (UI py pN),U*(J*I*N)+(ke*Da - g*J)*(ky*P - U*I)*Db,?_⟩;simp only [Tg,jbe,Rat.intCast_add] at G⊢;rw [<-he,<-L,<-K,<-ha,<-G];generalize (J:Rat)=A at*;generalize (P:Rat)=w at*;generalize (I:Rat)=u at*;generalize (Da:Rat)=s at*;generalize (Db:Rat)=D at*;have:m*(A*w*(u*((b - a)*(s*D)))) - (x*w*(A*u*((b - a)*(s*D)))+(e*A*s - a*s*A)*(y*u*w - x*w*u)*D)=A*w*u*s*D*((m - x)*(b - a) - (e - a)*(y - x)):=by grind
 rw [line] at this
 grind
theorem aS {m u:Nat} {e:Rat} (he:DQ u e) (s:T<=2 ^ t):∀{P:List zh},yr P->(∀c∈P,0<=c.1/\c.1<=(T:Rat))->DP d P->∀x∈zg P e,DQ (u+4*d+t) x
 |[],_,_,_,x,hx=>by simp [zg] at hx
 |[c],_,_,h,x,hx=>((h c (Qe ..)).2 x hx).mono ⋯
 |c::f::r,hr,rg,h,x,hx=>by
  rw [zg] at hx
  split at hx
  ·obtain ⟨i,z⟩:=Qx.mp hx;obtain ⟨p,q,hp,w,rfl⟩:=YT z;have g:=h c (Qe ..);have hd:=h f (Qf _ (Qe ..));have lt:=(Qo.mp hr).1 f (Qe ..);exact (DQ.mix he (g.2 p (Qc hp)) (hd.2 q (Qc w)) g.1 hd.1 lt (rg c (Qe ..)).1 (rg f (Qf _ (Qe ..))).2 s).mono ⋯
  ·exact aS (m:=m) he s (Qo.mp hr).2 (λc g=>rg c (Qf _ g)) (λc g=>h c (Qf _ g)) x hx
def Nest.den {P:List zh} {Qs:List (List zh)} {a b:Nat} (h:Nest P Qs) (ha:DP a P) (hb:∀Q∈Qs,DP b Q) (hl:(lastC P).1<=(T:Rat)) (N:T<=2 ^ t) {e:Rat} (he:e∈wpV P Qs):DQ (b+4*a+t) e/\∀p∈zg P e,DQ (b+4*a+t) p:=by
 rcases h.mem.mp he with ⟨c,w,rfl⟩|⟨k,Q,D,c,w,hr⟩
 ·refine ⟨(ha c w).1.mono ⋯,λp hp=>?_⟩;have pm:=h.pm;obtain ⟨r,z⟩:=h.p0;rw [z] at pm hp w;rw [yf pm.t w] at hp;exact ((ha c (by rw [z];exact w)).2 p hp).mono ⋯
 ·have O:=(hb Q (Qc D) c w).1;have h0:=(h.qpos D c w).1;have pm:=h.pm;have X:k<Qs.length:=(Qd.mp D).1
  have le:∀g∈P,∀(i:Nat) (x:Rat),g.2[i]? =some x->0<=x/\x<=(T:Rat):=λg C i x hx=>by
   have s:=pm.sums g C
   have A:zg P g.1=g.2:=by
    obtain ⟨r,z⟩:=h.p0;rw [z] at C pm⊢;exact yf pm.t C
   have mem:g.1∈wpV P Qs:=h.mem.mpr (.inl ⟨g,C,rfl⟩);have M:=h.in_range mem
   have nn:∀q∈g.2,0<=q:=λq hq=>by
    obtain ⟨j,u⟩:=Qx.mp hq;have jl:j<Qs.length:=by rw [<-pm.t.len g C];exact (Qd.mp u).1
    exact (h.range M.1 M.2 (Qb jl) (by rw [A];exact u)).1
   have m:=Qc hx;have:=(xH nn).2 x m;exact ⟨nn x m,by rw [s] at this;grind⟩
  obtain ⟨r,z⟩:=h.p0;rw [z] at pm hr ha le⊢
  obtain ⟨i,g,G,x,y,g1,g2,g3,U,hxL,hLy,ee,_,_,_,ep⟩:=Ud X pm (by
   rw [Qk,QX,QH X];exact h0) hr
  have z1:=ha g (Qc g1);have z2:=ha G (Qc g2);have L:=le g (Qc g1) k x g3;have K:=le G (Qc g2) k y U;have J:=z1.2 x (Qc g3);have I:=z2.2 y (Qc U);have Y:x<y:=by grind
  rw [ep];refine ⟨by rw [ee];exact (DQ.mix O z1.1 z2.1 J I Y L.1 K.2 N).mono ⋯,λp hp=>?_⟩;obtain ⟨j,u⟩:=Qx.mp hp;rw [Qt] at u
  cases A:g.2[j]? with
  |none=>rw [A] at u;cases u
  |some p1=>
   cases e2:G.2[j]? with
   |none=>rw [A,e2] at u;cases u
   |some Z=>
    rw [A,e2] at u;cases u;exact (DQ.mix O (z1.2 p1 (Qc A)) (z2.2 Z (Qc e2)) J I Y L.1 K.2 N).mono ⋯
def DP.within {P:List zh} {Qs:List (List zh)} {a b:Nat} (h:Nest P Qs) (ha:DP a P) (u:∀Q∈Qs,DP b Q) (s:∀Q∈Qs,yr Q/\∀c∈Q,0<=c.1/\c.1<=(T:Rat)) (z:(lastC P).1<=(T:Rat)) (w:T<=2 ^ t):DP (5*b+4*a+2*t) (yt P Qs):=λc D=>by
 obtain ⟨i,C⟩:=Qx.mp D;obtain ⟨I,G⟩:=Nest.F_at C;obtain ⟨z1,z2⟩:=h.den ha u z w (Qc I);refine ⟨z1.mono ⋯,λx r=>?_⟩;rw [G] at r;obtain ⟨k,Q,p,A,hp,q⟩:=tD r;have g:=Qc A;exact (aS (m:=0) (z2 p (Qc hp)) w (s Q g).1 (s Q g).2 (u Q g) x q).mono ⋯
def DP.spread {P:List zh} {pl:List Nat} {n m:Nat} (hp:Pls n pl) (r:∀c∈P,c.2.length=pl.length) (h:DP d P):DP d (yq pl n P):=λc w=>by
 obtain ⟨c,g,rfl⟩:=Qj.mp w;refine ⟨(h c g).1,λx q=>?_⟩;obtain ⟨i,u⟩:=Qx.mp q
 rcases Ze hp (r c g) u with ⟨j,_,s⟩|⟨_,rfl⟩
 ·exact (h c g).2 x (Qc s)
 ·exact DQ.zero.mono ⋯
def DP.keep {P:List zh} (h:DP d P):DP d (yo P):=λc g=>h c ((ZK P).subset g)
def DP.app {P q:List zh} (ne:P≠[]) (h:DP d P) (m:DC 0 (lastC P)) (g:DP d q):DP d (P++yE P q):=λc s=>by
 rcases QY.mp s with z|z
 ·exact h c z
 ·obtain ⟨f,hf,rfl⟩:=Qj.mp z;have hf:=g f (jad hf);refine ⟨(m.1.add hf.1).mono ⋯,λx r=>?_⟩;obtain ⟨a,ha,b,u,rfl⟩:=dG r;exact ((m.2 a ha).add (hf.2 b u)).mono ⋯
def DP.turned {P:List zh} (g:DC 0 (lastC P)) (h:DP d P):DP d (yu P):=λc q=>by
 obtain ⟨f,hf,rfl⟩:=Qj.mp q;have hf:=h f (jbJ.mp hf);refine ⟨(g.1.sub hf.1).mono ⋯,λx m=>?_⟩;obtain ⟨a,ha,b,r,rfl⟩:=dG m;exact ((g.2 a ha).sub (hf.2 b r)).mono ⋯
def UO (b:Int):Nat:=b.toNat.log2+1
def Gd {b:Int} (g:0<b):b<=2 ^ UO b:=by
 have:=Nat.lt_log2_self (n:=b.toNat);have e:(2:Int) ^ UO b=((2 ^ (b.toNat.log2+1):Nat):Int):=by unfold UO;rw [jbX];rfl
 rw [e];omega
def DP.upto {P J:List zh} {as:List Rat} {p b:Int} {m:Nat} {U:Rat} (I:0<b) (st:Std m U as P) (C:DC 0 (U,as)) (h:DP d P) (g:DP d J):DP (UO b+d) (Wt (Rat.divInt p b) P J):=by
 have bn:b≠0:=⋯
 have G:0<b/\b<=2 ^ UO b:=⟨I,Gd I⟩
 have sc:∀{t:Int} {x:Rat},DQ d x->DQ (UO b+d) (x*Rat.divInt t b):=λ{t x} r=>by
  obtain ⟨D,s,u⟩:=r;exact ⟨b*D,UI G s,u.port bn⟩
 have M:∀{x:Rat},DQ 0 x->Yh 1 x:=λ{x} r=>by
  obtain ⟨D,s,u⟩:=r;have:D=1:=by have:=s.2;have:=s.1;omega
  rwa [this] at u
 have L:lastC (zU (Rat.divInt p b) P)=(U*Rat.divInt p b,ah (Rat.divInt p b) as):=by
  unfold lastC zU;rw [jaO,st.last];rfl
 have both:∀{x y:Rat} {t:Int},DQ 0 x->DQ d y->DQ (UO b+d) (x*Rat.divInt p b+y*Rat.divInt t b):=λ{x y t} r hy=>by
  obtain ⟨D,s,u⟩:=hy;have w:=(M r).port (t:=p) bn;rw [jcb] at w;exact ⟨b*D,UI G s,(w.mul D).add (u.port bn)⟩
 unfold Wt;refine DP.keep λc O=>?_
 rcases QY.mp O with z|z
 ·obtain ⟨f,hf,rfl⟩:=Qj.mp z;refine ⟨sc (h f hf).1,λx r=>?_⟩;obtain ⟨a,ha,rfl⟩:=Qj.mp r;exact sc ((h f hf).2 a ha)
 ·obtain ⟨f',A,rfl⟩:=Qj.mp z;have Y:=jad A;obtain ⟨f,hf,rfl⟩:=Qj.mp Y;rw [L,Jc bn];refine ⟨both C.1 (g f hf).1,λx r=>?_⟩;obtain ⟨a,ha,q,N,rfl⟩:=dG r;obtain ⟨X,Z,rfl⟩:=Qj.mp ha;obtain ⟨K,MC,rfl⟩:=Qj.mp N;exact both (C.2 X Z) ((g f hf).2 K MC)
end
noncomputable def Xh (t:Nat):Rl->Nat
 | .halves=>2
 | .other r=>Xh t r
 | .ranks r=>Xh t r
 | .groups a b=>5*Xh t b+4*Xh t a+2*t
 | .upto _ b x y=>UO b+max (Xh t x) (Xh t y)
 |_=>0
def YR (h:List Int):DC 0 (ya h):=⟨DQ.int _,λx g=>by
 obtain ⟨a,_,rfl⟩:=Qj.mp g
 exact DQ.int a⟩
def rA (l:List Cl):DC 0 (zA (amQ l),amQ l):=by rw [<-dH];exact YR _
theorem CD {x:Int} {w:Int}:∀{q:List Int},q.Pairwise (·<·)->(q.map λg=>if x=g then w else 0).sum=if x∈q then w else 0
 |[],_=>by simp
 |g::q,h=>by
  obtain ⟨s,r⟩:=Qo.mp h;rw [Ql,QL,CD r]
  by_cases e:x=g
  ·have:x∉q:=λz=>by have:=s x z;omega
   rw [QH e,QP this,QH (by rw [e];exact Qe ..)];omega
  ·rw [QP e]
   by_cases z:x∈q
   ·rw [QH z,QH (Qf _ z)];omega
   ·rw [QP z,QP (λm=>(Qn.mp m).elim e z)];omega
theorem Au (f g:Int->Int):∀m:List Int,(m.map λk=>f k+g k).sum=(m.map f).sum+(m.map g).sum
 |[]=>rfl
 |k::m=>by rw [Ql,Ql,Ql,QL,QL,QL,Au f g m];omega
theorem jU (key w:Cl->Int) {m:List Int} (r:m.Pairwise (·<·)):∀l:List Cl,(∀c∈l,key c∈m)->(m.map λg=>((l.filter λc=>decide (key c=g)).map w).sum).sum=(l.map w).sum
 |[],_=>by
  show (m.map λ_=>(0:Int)).sum=0
  induction m with
  |nil=>rfl
  |cons g m q=>rw [Ql,QL,q (Qo.mp r).2 λc t=>absurd t Qp];rfl
 |c::l,h=>by
  have q:=jU key w r l λx s=>h x (Qf _ s)
  have e:(m.map λg=>(((c::l).filter λc=>decide (key c=g)).map w).sum)=m.map λg=>(if key c=g then w c else 0)+((l.filter λc=>decide (key c=g)).map w).sum:=by
   refine QG λg _=>?_;rw [jbj]
   by_cases z:key c=g
   ·rw [QH z,QH (QZ z),Ql,QL]
   ·rw [QP z,QP (by rw [Tc z];decide)];omega
  rw [e,Au,CD r,QH (h c (Qe ..)),q,Ql,QL]
def cV (l:List Cl):(amV (zI l)).sum=(amV l).sum:=by
 have:=jU (·.2.2) (·.1) (zY l).1 l λc m=>((zY l).2 _).mpr (Qj.mpr ⟨c,m,rfl⟩);unfold zI
 have e:amV ((zB l).map λg=>Aa g (l.filter (zu g)))=(zB l).map λg=>((l.filter λc=>decide (c.2.2=g)).map (·.1)).sum:=by
  unfold amV;rw [Qm];rfl
 rw [e,this];rfl
def Xz {l:List Cl} (nn:∀c∈l,0<=c.1) (p:Cl->Bool):(amV (l.filter p)).sum<=(amV l).sum:=by
 induction l with
 |nil=>exact jbD _
 |cons c l g=>
  have g:=g λx m=>nn x (Qf _ m);have h0:=nn c (Qe ..);have e:(amV (c::l)).sum=c.1+(amV l).sum:=by unfold amV;rw [Ql,QL]
  rw [jbj]
  split
  ·have q:(amV (c::l.filter p)).sum=c.1+(amV (l.filter p)).sum:=by unfold amV;rw [Ql,QL]
   rw [e,q];omega
  ·rw [e];omega
theorem Be {r:Rl} {l:List Cl} {f:List Cl->List zh} {d:Nat}:∀(g done:List Int) (P:List zh),RkI r l done P->(done++g).Pairwise (·<·)->(∀k∈g,GF r (l.filter (zK k)) (f (l.filter (zK k)))/\DP d (f (l.filter (zK k))))->DP d P->DP d (g.foldl (Zr f l) P)
 |[],done,P,h,_,_,hd=>hd
 |k::g,done,P,h,hp,hf,hd=>by
  have e:done++k::g=done++[k]++g:=by rw [jaj];rfl
  rw [e] at hp;rw [List.foldl_cons];have t:=hf k (Qe ..);refine Be g (done++[k]) _ (h.step (λs u=>?_) t.1) hp (λs u=>hf s (Qf _ u)) ?_
  ·exact (jac.mp (jac.mp hp).1).2.2 s u k (jaY _)
  ·refine DP.keep (DP.app h.ful.std.ne hd ?_ (DP.spread (m:=0) (YO _ l) (λc z=>by rw [(t.1.ful.std.ok c z).1,Zl]) t.2));rw [h.ful.std.lastC]
   have w:∀x∈asD done l,DQ 0 x:=λx q=>by
    unfold asD at q;obtain ⟨c,_,rfl⟩:=Qj.mp q
    split
    ·exact DQ.int _
    ·exact DQ.zero
   refine ⟨?_,w⟩
   have:∀{v:List Rat},(∀x∈v,DQ 0 x)->DQ 0 (zA v):=by
    intro v
    induction v with
    |nil=>intro _;rw [zA];exact DQ.zero
    |cons a v y=>
     intro h;rw [zA];exact (h a (Qe ..)).add (y λx q=>h x (Qf _ q))
   exact this w
theorem YB {t:Nat}:∀{r:Rl} {l:List Cl},POk r->(∀c∈l,0<=c.1)->(amV l).sum<=2 ^ t->DP (Xh t r) (zE r l)
 | .shares,l,_,_,_=>λc q=>by
   simp only [zE,shP] at q
   split at q
   ·rw [Qv.mp q];exact YR _
   ·rcases Qn.mp q with rfl|q
    ·exact YR _
    ·rw [Qv.mp q];exact YR _
 | .evenly,l,_,_,_=>λc q=>by
   obtain ⟨z,_,rfl⟩:=Qj.mp q;exact YR _
 | .losses,l,_,_,_=>λc q=>by
   obtain ⟨z,_,rfl⟩:=Qj.mp q;exact YR _
 | .halves,l,_,nn,_=>by
   have ge:DP 0 (evP (amV l) (lvV (amV l))):=λc q=>by
    obtain ⟨z,_,rfl⟩:=Qj.mp q;exact YR _
   have gl:DP 0 (loP (amV l) (lvV (amV l))):=λc q=>by
    obtain ⟨z,_,rfl⟩:=Qj.mp q;exact YR _
   have st:=(Vn (WN (Xv nn))).std;have:=DP.upto (p:=1) (b:=2) nofun st (rA l) ge gl;have J:Rat.divInt 1 2=(1:Rat) / 2:=by decide+kernel
   have I:Wt (1 / 2) (evP (amV l) (lvV (amV l))) (loP (amV l) (lvV (amV l)))=yo (hvP (amV l) (lvV (amV l))):=by
    unfold Wt;rw [show (1:Rat) - 1 / 2=1 / 2 by decide+kernel];rfl
   rw [J,I] at this;exact this.mono (by show UO 2+0<=2;decide)
 | .other r,l,h,nn,s=>by
   have g:=(yW (r:=r) h nn).ful.std;refine DP.turned ?_ (YB (r:=r) h nn s);rw [g.lastC];exact rA l
 | .ranks r,l,h,nn,s=>by
   refine Be (r:=r) (zQ l) [] _ RkI.nil (by rw [jaR];exact (yD l).1) (λk _=>⟨yW (r:=r) h (xg nn _),YB (r:=r) h (xg nn _) (jbt (Xz nn _) s)⟩) λc q=>?_;rw [Qv.mp q];refine ⟨DQ.zero.mono ⋯,λx G=>?_⟩;rw [List.eq_of_mem_replicate G];exact DQ.zero.mono ⋯
 | .groups a b,l,h,nn,s=>by
   have ga:=yW (r:=a) h.1 (jS nn);have A:=λ(g:Int) (_:g∈zB l)=>yW (r:=b) h.2 (xg nn (zu g));have nest:=Ug (fa:=λl=>zE a l) (fb:=λl=>zE b l) ga.ful λg u=>(A g u).ful;have K:=YB (t:=t) (r:=a) h.1 (jS nn) (by rw [cV];exact s);have W:=lD nest (T:=zA (amQ (zI l))) (as:=amQ (zI l)) (by rw [Yj,<-xP];exact ga.ful.std);have D:=fG (fb:=λl=>zE b l) (l:=l) λg u=>(A g u).ful;refine DP.spread (m:=0) (kY l) (λc q=>by rw [(W.std.ok c q).1,D]) (DP.within (T:=(amV l).sum) nest K (λQ w=>?_) (λQ w=>?_) ?_ s)
   ·obtain ⟨g,u,rfl⟩:=Qj.mp w;exact YB (r:=b) h.2 (xg nn _) (jbt (Xz nn _) s)
   ·obtain ⟨g,u,rfl⟩:=Qj.mp w;have st:=(A g u).ful.std;refine ⟨st.rise,λc q=>?_⟩;have C:=st.range q;have:=Th.mpr (Xz nn (zu g));rw [<-xA] at this;exact ⟨C.1,TY C.2 this⟩
   ·rw [ga.ful.std.lastC];show zA (amQ (zI l))<=_;rw [xA,cV];exact QR
 | .upto t' b x y,l,h,nn,s=>by
   have st:=(yW (r:=x) h.2.1 nn).ful.std;exact DP.upto (by have:=h.1.2.1;have:=h.1.2.2.1;omega) st (rA l) ((YB h.2.1 nn s).mono (Nat.le_max_left ..)) ((YB h.2.2 nn s).mono (Nat.le_max_right ..))
noncomputable def WQ:Rl->Nat
 | .halves=>2
 | .other r=>WQ r
 | .ranks r=>WQ r
 | .groups a b=>WQ a+WQ b+1
 | .upto _ _ x y=>WQ x+WQ y
 |_=>1
theorem ug (f:Int->Nat):∀g:List Int,(((g.map f).sum:Nat):Int)=(g.map λk=>(f k:Int)).sum
 |[]=>rfl
 |k::g=>by rw [Ql,QL,Ql,QL,<-ug f g];omega
theorem lh {α:Type}:∀l:List α,(l.map λ_=>(1:Int)).sum=(l.length:Nat)
 |[]=>rfl
 |a::l=>by rw [Ql,QL,lh l,Qy];omega
def dv (key:Cl->Int) {m:List Int} (q:m.Pairwise (·<·)) (l:List Cl) (h:∀c∈l,key c∈m):(m.map λg=>(l.filter λc=>decide (key c=g)).length).sum=l.length:=by
 have:=jU key (λ_=>1) q l h;rw [lh] at this;have e:=ug (λg=>(l.filter λc=>decide (key c=g)).length) m;have r:(m.map λg=>(((l.filter λc=>decide (key c=g)).length:Nat):Int))=m.map λg=>((l.filter λc=>decide (key c=g)).map λ_=>(1:Int)).sum:=QG λg _=>(lh _).symm;rw [r,this] at e;omega
def Ga (f:List Cl->List zh) (l:List Cl) (P:List zh) (k:Int):(Zr f l P k).length<=P.length+((f (l.filter (zK k))).length - 1):=by
 unfold Zr;refine QW (ZK _).length_le ?_;unfold yE yq;simp only [QB,Qa,jaW];omega
theorem lL:∀(g:List Int) (P:List zh),(∀k∈g,(f (l.filter (zK k))).length<=c*(l.filter (zK k)).length+1)->(g.foldl (Zr f l) P).length<=P.length+c*(g.map λk=>(l.filter (zK k)).length).sum
 |[],P,_=>by simp
 |k::g,P,h=>by
  have t:=lL (c:=c) g (Zr f l P k) λm q=>h m (Qf _ q);have s:=Ga f l P k;have r:=h k (Qe ..);rw [List.foldl_cons,Ql,QL,Nat.mul_add];omega
theorem Cv:∀{Qs:List (List zh)} {k:Nat} {M:List Rat},(wpF P k Qs M).length<=M.length+(Qs.map List.length).sum
 |[],k,M=>by rw [wpF];simp
 |Q::Qs,k,M=>by
  rw [wpF];have q:=Cv (P:=P) (Qs:=Qs) (k:=k+1) (M:=yw M (Ys P k Q));have m:=UL M (Ys P k Q)
  have g:(Ys P k Q).length<=Q.length:=by
   unfold Ys;have:=jbq (yZ P k) (yb Q);unfold yb at this⊢;rw [Qa] at this;omega
  rw [Ql,QL];omega
theorem tI:∀m:List Int,(∀k∈m,f k<=c*g k+1)->(m.map f).sum<=c*(m.map g).sum+m.length
 |[],_=>by simp
 |k::m,h=>by
  have t:=tI (c:=c) m λq r=>h q (Qf _ r);have s:=h k (Qe ..);rw [Ql,QL,Ql,QL,Qy,Nat.mul_add];omega
theorem jt:∀m:List Int,(∀k∈m,1<=g k)->m.length<=(m.map g).sum
 |[],_=>by simp
 |k::m,h=>by
  have t:=jt m λq r=>h q (Qf _ r);have s:=h k (Qe ..);rw [Ql,QL,Qy];omega
def Xy (m:g∈zB l):1<=(l.filter (zu g)).length:=by
 obtain ⟨c,q,rfl⟩:=Qj.mp (((zY l).2 g).mp m);exact jbg (QU.mpr ⟨q,QZ rfl⟩)
def fh (m:g∈zQ l):1<=(l.filter (zK g)).length:=by
 obtain ⟨c,q,rfl⟩:=Qj.mp (((yD l).2 g).mp m);exact jbg (QU.mpr ⟨q,QZ rfl⟩)
def Ym (l:List Cl):(zB l).length<=l.length:=by
 have s:=dv (·.2.2) (zY l).1 l λc q=>((zY l).2 _).mpr (Qj.mpr ⟨c,q,rfl⟩);have r:=jt (g:=λg=>(l.filter (zu g)).length) (zB l) λk m=>Xy m;rw [<-s];exact r
theorem Xg:∀{r:Rl} {l:List Cl},POk r->(∀c∈l,0<=c.1)->(zE r l).length<=WQ r*l.length+1
 | .shares,l,_,_=>by
   show (shP (amV l)).length<=1*l.length+1;unfold shP
   split
   ·simp
   ·rename_i c;have:l≠[]:=λz=>c (by rw [z];rfl);have:=jaP.mpr this;simp only [Qy,List.length_nil];omega
 | .evenly,l,_,nn=>by
   have f:=(WN (Xv nn)).few;rw [yi] at f;show (evP _ _).length<=1*l.length+1;unfold evP;rw [Qa];omega
 | .losses,l,_,nn=>by
   have f:=(WN (Xv nn)).few;rw [yi] at f;show (loP _ _).length<=1*l.length+1;unfold loP;rw [Qa,TK];omega
 | .halves,l,_,nn=>by
   have f:=(WN (Xv nn)).few;rw [yi] at f;show (yo _).length<=2*l.length+1;refine QW (ZK _).length_le ?_;unfold hvP hfA hfB yE zU evP loP;simp only [QB,Qa,jaW,TK];omega
 | .other r,l,h,nn=>by
   show (yu _).length<=WQ r*l.length+1;unfold yu;rw [Qa,TK];exact Xg (r:=r) h nn
 | .ranks r,l,h,nn=>by
   have s:=lL (f:=λl=>zE r l) (l:=l) (c:=WQ r) (zQ l) (jR l.length) λk _=>Xg (r:=r) h (xg nn _);have m:=dv (·.2.1) (yD l).1 l λc q=>((yD l).2 _).mpr (Qj.mpr ⟨c,q,rfl⟩);have e:((zQ l).map λk=>(l.filter (zK k)).length).sum=l.length:=m;rw [e] at s;show (VD (λl=>zE r l) l).length<=WQ r*l.length+1;have z:(jR l.length).length=1:=rfl;unfold VD;omega
 | .groups a b,l,h,nn=>by
   have ha:=Xg (r:=a) h.1 (jS nn);rw [xP] at ha;have G:=Ym l;have m:=dv (·.2.2) (zY l).1 l λc q=>((zY l).2 _).mpr (Qj.mpr ⟨c,q,rfl⟩);have e:((zB l).map λk=>(l.filter (zu k)).length).sum=l.length:=m;have u:=tI (f:=λg=>(zE b (l.filter (zu g))).length) (g:=λg=>(l.filter (zu g)).length) (c:=WQ b) (zB l) λk _=>Xg (r:=b) h.2 (xg nn _);rw [e] at u;have w:=Cv (P:=zE a (zI l)) (Qs:=zV (λl=>zE b l) l) (k:=0) (M:=yb (zE a (zI l)))
   have eq:(zV (λl=>zE b l) l).map List.length=(zB l).map λg=>(zE b (l.filter (zu g))).length:=by
    unfold zV;rw [Qm];rfl
   rw [eq] at w;have pl:(yb (zE a (zI l))).length=(zE a (zI l)).length:=by unfold yb;rw [Qa]
   rw [pl] at w;show (xt (λl=>zE a l) (λl=>zE b l) l).length<=(WQ a+WQ b+1)*l.length+1;unfold xt yq yt wpV;rw [Qa,Qa];show (wpF (zE a (zI l)) 0 (zV (λl=>zE b l) l) (yb (zE a (zI l)))).length<=_;have A:=Nat.mul_le_mul_left (WQ a) G;rw [Nat.add_mul,Nat.add_mul,Nat.one_mul];omega
 | .upto t b x y,l,h,nn=>by
   have s:=Xg (r:=x) h.2.1 nn;have m:=Xg (r:=y) h.2.2 nn;show (Wt _ _ _).length<=(WQ x+WQ y)*l.length+1;unfold Wt;refine QW (ZK _).length_le ?_;unfold yE zU;simp only [QB,Qa,jaW];rw [Nat.add_mul];omega
structure ClS (t:Nat) (l:List Cl):Prop where
 pos:0<l.length
 few:l.length<=8
 nn:∀c∈l,0<=c.1/\0<=c.2.1/\0<=c.2.2
 sum:(amV l).sum<=2 ^ t
theorem jq:∀{as:List Int},(∀a∈as,0<=a)->∀a∈as,a<=as.sum
 |[],_,a,h=>absurd h Qp
 |b::as,nn,a,h=>by
  have h0:=nn b (Qe ..);have m:=VB λx g=>nn x (Qf _ g);rw [QL]
  rcases Qn.mp h with rfl|h
  ·omega
  ·have:=jq (λx g=>nn x (Qf _ g)) a h;omega
section
variable {t:Nat} {l:List Cl} {r:Rl}
def Aq (h0:0<=x) (h:x<=2 ^ t):Sz (t+1) x:=by
 unfold Sz;have e:(2:Int) ^ t=((2 ^ t:Nat):Int):=by rw [jbX];rfl
 have p:0<2 ^ t:=Nat.pow_pos nofun;rw [e] at h;rw [Nat.pow_succ];omega
def ClS.n1 (h:ClS t l):∀c∈l,0<=c.1:=λc g=>(h.nn c g).1
def ClS.ok (h:ClS t l) (ht:t<=150):ClOk 160 l:=⟨h.pos,h.few,h.nn,λc g=>(Aq (h.nn c g).1 (jbt (jq (Xv h.n1) c.1 (Qj.mpr ⟨c,g,rfl⟩)) h.sum)).mono ⋯⟩
def ClS.filter (h:ClS t l) (p:Cl->Bool) (pos:1<=(l.filter p).length):ClS t (l.filter p):=⟨pos,QW (jag _ _) h.few,λc g=>h.nn c (QU.mp g).1,jbt (Xz h.n1 p) h.sum⟩
theorem Cm:∀{l:List Int},(∀x∈l,0<=x)->0<=jo l
 |[],_=>jbD _
 |[a],h=>h a (Qe ..)
 |a::b::l,h=>by
  have q:=h a (Qe ..);have m:=Cm (l:=b::l) λx g=>h x (Qf _ g);rw [jo]
  ·omega
  ·simp
def ClS.sums (h:ClS t l):ClS t (zI l):=by
 refine ⟨?_,by rw [xP];exact QW (Ym l) h.few,λc m=>?_,by rw [cV];exact h.sum⟩
 ·rw [xP];obtain ⟨c,m⟩:=List.exists_mem_of_length_pos h.pos;exact jbg (((zY l).2 _).mpr (Qj.mpr ⟨c,m,rfl⟩))
 ·obtain ⟨g,s,rfl⟩:=Qj.mp m;refine ⟨VB (Xv (xg h.n1 _)),Cm λx q=>?_,?_⟩
  ·obtain ⟨c,m,rfl⟩:=Qj.mp q;exact (h.nn c (QU.mp m).1).2.1
  ·obtain ⟨c,u,rfl⟩:=Qj.mp (((zY l).2 g).mp s);exact (h.nn c u).2.2
def DQ.sz {d:Nat} {x:Rat} {T:Int} (h:DQ d x) (x0:0<=x) (m:x<=(T:Rat)) (T0:0<=T) (q:T<=2 ^ t):SzQ (t+d+2) x:=by
 obtain ⟨D,g,s⟩:=h;exact (s.sz g.1 (Aq (jbr g.1) g.2) x0 m ⟨T,rfl,Aq T0 q⟩).mono ⋯
def all_sz (h:POk r) (ok:ClS t l):∀c∈zE r l,SzC (t+Xh t r+2) c:=λc s=>by
 have g:=yW h ok.n1;have u:=YB h ok.n1 ok.sum c s;have m:=g.good.std.range s;have pr:=g.good.parts m.1;rw [g.good.std.at_corner s] at pr;have T0:=VB (Xv ok.n1);rw [xA] at m pr;exact ⟨u.1.sz m.1 m.2 T0 ok.sum,λx q=>(u.2 x q).sz (pr x q).1 (pr x q).2 T0 ok.sum⟩
structure RuS (t:Nat) (r:Rl):Prop where
 pok:POk r
 ht:t<=150
 den:t+Xh t r+2<=700
 len:WQ r<=50
def RuS.other (h:RuS t (.other r)):RuS t r:=⟨h.pok,h.ht,h.den,h.len⟩
def RuS.ranks (h:RuS t (.ranks r)):RuS t r:=⟨h.pok,h.ht,h.den,h.len⟩
def RuS.groups (h:RuS t (.groups a b)):RuS t a/\RuS t b:=by
 have d:=h.den;have f:=h.len;simp only [Xh] at d;simp only [WQ] at f;exact ⟨⟨h.pok.1,h.ht,⋯,⋯⟩,⟨h.pok.2,h.ht,⋯,⋯⟩⟩
def RuS.upto (h:RuS t (.upto a b x y)):RuS t x/\RuS t y:=by
 have d:=h.den;have f:=h.len;simp only [Xh] at d;simp only [WQ] at f;exact ⟨⟨h.pok.2.1,h.ht,⋯,⋯⟩,⟨h.pok.2.2,h.ht,⋯,⋯⟩⟩
def RuS.few (h:RuS t r) (ok:ClS t l):(zE r l).length<=401:=by
 have f:=Xg h.pok ok.n1;have m:=Nat.mul_le_mul h.len ok.few;omega
def RuS.gf (h:RuS t r) (ok:ClS t l):GF r l (zE r l):=yW h.pok ok.n1
def RuS.R (h:RuS t r) (ok:ClS t l):PathR 700 (zE r l):=by
 have g:=(h.gf ok).ful.std;have f:=h.few ok;have q:=ok.few;refine ⟨g.ne,λc m=>(all_sz h.pok ok c m).mono h.den,λc m=>by rw [(g.ok c m).1];omega,⋯,g.rise,λc m=>?_⟩;rw [g.head] at m;cases m;rfl
def RuS.inn (h:RuS t r) (ok:ClS t l):PathIn (zE r l):=by
 have R:=h.R (l:=l) ok;have f:=h.few ok;exact ⟨R.ne,λc g=>(R.sz c g).mono nofun,R.len,⋯⟩
end
section
variable {X:Cx}
def rMinL (K:Frg):List V->Hp->VK->Prop:=λxs H Q=>∃(p:Addr) (ns:List Int),xs=[.ref p]/\SqL K H p (ns.map V.int)/\0<ns.length/\∀m,m∈ns->(∀x∈ns,m<=x)->Q (.int m) H
def call_minL (N:X.calm=true):Ve X (.builtin "min") (rMinL X.K):=by
 intro pins s σ H xs us Q I r h;obtain ⟨p,ns,rfl,G,U,q⟩:=h;obtain ⟨u,rfl,y⟩:=dI r;cases y;obtain ⟨its,C,pl,hz⟩:=I.list G;have ht:=pl.isList;have m:=Xx C;have J:=m.length;have below:p≠s.heap.objs.size:=let ⟨_,e,_⟩:=ht;QN (Qr e)
 refine call_min_walk (jaL ht ⟨_,_,_,_,_,_,_,rfl,Walks.list (A:=X.A.in1) (I.ok.hd N) _ p below its.toArray,⟨⟨_,Qw _ rfl,rfl,rfl⟩,ht.push _⟩,λb O=>?_,by simpa using (by omega:0<its.length),CmpOf.ints_lt (λi=>ns.getD i 0) (Vm m),λv h' tk P L=>?_⟩)
 ·rw [QV]
  rcases Qn.mp O with z|z
  ·rw [z];exact Td _
  ·rw [Qv.mp z];obtain ⟨_,e,_⟩:=ht;exact Tx (Qr e)
 ·obtain ⟨t,rfl⟩:=Vm m _ v P;obtain ⟨T,w⟩:=argBest_lt (λi=>ns.getD i 0) (its.toArray.size - 1);have g:its.toArray.size=ns.length:=by simpa using J
  rw [g] at T w;rw [g];refine ⟨.int _,H,I.kept (t':=tk) λb o e=>L b o (λz=>?_) (Qi _ e),⟨t,rfl⟩,q _ ?_ λx D=>?_⟩
  ·rw [Qv.mp z] at e;exact absurd (Qr e) (jan _)
  ·dsimp only;rw [Qk,Qb ⋯];exact Tf _
  ·obtain ⟨j,M,rfl⟩:=QS D;have:=w j ⋯;rwa [show ns.getD j 0=ns[j] by rw [Qk,Qb M];rfl] at this
end
section
variable {B G0 H:Hp} {cs:yp} {ds:Dat} {Q:VK} {E:XK} {v w u:V} {K:Frg} {L:Addr}
def Bo {ns:List Int} (S:Sta B G0 H cs ds) (h:(L,ns.map PyData.int)∈cs) (hn:0<ns.length) (k:∀m,m∈ns->(∀x∈ns,m<=x)->Q (.int m) H):rMinL K [.ref L] H Q:=by
 obtain ⟨vs,hp,u⟩:=S.vwC h;obtain ⟨G,g⟩:=id S;rw [yF (u G g)] at hp;exact ⟨L,ns,rfl,SqL.of hp,hn,k⟩
def II {ns:List Int} (S:Sta B G0 H cs ds) (h:Has ds (.list (ns.map PyData.int)) v) (hn:0<ns.length) (k:∀m,m∈ns->(∀x∈ns,x<=m)->Q (.int m) H):IU K [v] H Q:=by
 obtain ⟨p,vs,rfl,hp,r,q,al⟩:=S.lstAll h;obtain ⟨G,g⟩:=id q;rw [yF (al G g.2.2.2.2.2.2)] at hp;exact ⟨p,ns,rfl,SqL.of hp,hn,k⟩
end
theorem fA:∀{a:List zh},(∀c∈a,c.2.length<=n)->(zg a e).length<=n
 |[],_=>by simp [zg]
 |[c],h=>h c (Qe ..)
 |c::d::r,h=>by
  rw [zg]
  split
  ·unfold XS;rw [QC];have:=h c (Qe ..);omega
  ·exact fA λx g=>h x (Qf _ g)
theorem CW:∀{Qs:List (List zh)} {ps:List Rat} (i:Nat),(∀Q∈Qs,∀c∈Q,c.2.length<=n)->((List.zipWith zg Qs ps).take i).flatten.length<=n*Qs.length
 |[],ps,i,_=>by simp
 |Q::Qs,[],i,_=>by simp
 |Q::Qs,p::ps,0,_=>by simp
 |Q::Qs,p::ps,i+1,h=>by
  have q:=CW (ps:=ps) i λm g=>h m (Qf _ g);have:=fA (e:=p) (h Q (Qe ..));rw [jab,List.take_succ_cons,jaf,QB,Qy,Nat.mul_succ];omega
def getD_some {l:List Rat} {k:Nat} (h:k<l.length):l[k]? =some (l.getD k 0):=by rw [Qk,Qb h];rfl
def Ex (h:e∈wpF P 0 (Qs.take i) M):e∈wpF P 0 Qs M:=by
 rcases aU.mp h with h|⟨j,Q,g,m⟩
 ·exact aU.mpr (.inl h)
 ·refine aU.mpr (.inr ⟨j,Q,?_,m⟩);rw [List.getElem?_take] at g
  split at g
  ·exact g
  ·cases g
def GV:atI (G++[x,y]) (-2)=some x:=by
 unfold atI ixN;rw [QP nofun,QH (by simp;omega)];show (G++[x,y])[_]? =_;rw [show ((-2:Int)+((G++[x,y]).length:Nat)).toNat=G.length by simp;omega]
 simp
section
variable {B G0 H:Hp} {cs:yp} {ds:Dat} {Q:VK} {E:XK} {v w u:V} {K:Frg} {xs ys:List PyData} {vs:List V} {R:It->Hp->Prop}
def sV (S:Sta B G0 H cs ds) (h:Has ds (.tuple xs) v) (m:Has ds (.list ys) w) (k:∀J,Wk B G0 J (sj xs ys) (λcs ds=>Has ds (.tuple xs) v/\(∀x u,Has ds (.list ys) w->Has ((x,u)::ds) (.list ys) w)/\Has ds (.list ys) w)->R J H):kZi false true K R [v,w] H:=by
 obtain ⟨p,vs,rfl,hp,_⟩:=S.tup h;obtain ⟨q,ws,rfl,g,_⟩:=S.lst m;exact ⟨p,q,rfl,⟨_,SqT.of hp⟩,⟨_,SqL.of g⟩,k _ (Ag dQ Vf)⟩
structure ReachOk (m k n b:Nat) (P:List zh) (L:List Rat):Prop where
 pm:PathM m P
 pr:PathR0 n P
 kn:k<m
 lev:∀l∈L,SzQ b l/\∀c,P[0]? =some c->c.2.getD k 0<=l
 sz:b+6*n+4<=8999
 few:L.length<=450
def qd:Sp:=spL (α:=List zh×Nat×List Rat) (λa=>[yv a.1, .int (a.2.1:Nat), .list (a.2.2.map frD)]) (λa=>∃m n b,ReachOk m a.2.1 n b a.1 a.2.2) (λa=>(a.2.2.filterMap (yZ a.1 a.2.1)).map frD)
def EU (S:Sta B G0 H cs ds) (r:Has ds (yv P) v) (g:Has ds (.list (L.map frD)) u) (ok:ReachOk m k n b P L)
 (q:∀p H',zS H H'->Sta B G0 H' ((p,(L.filterMap (yZ P k)).map frD)::cs) ds->Q (.ref p) H'):qd [v, .int (k:Nat),u] H Q E:=
 Zs (P,k,L) S (.cons r (.cons .int (.cons g .nil))) ⟨m,n,b,ok⟩ q
end
section
variable {P:List zh} {Qs:List (List zh)}
def PathR.r0 (h:PathR n a):PathR0 n a:=⟨h.ne,h.sz,h.len,h.few,h.rise⟩
end
theorem dk:∀(xs ys:List Rat),xs.length<=(yw xs ys).length
 |[],ys=>jar _
 |x::xs,[]=>by rw [yw];exact Qu _
 |x::xs,y::ys=>by
  have q:=dk xs (y::ys);have m:=dk xs ys;have g:=dk (x::xs) ys;rw [yw]
  split
  ·simp only [Qy] at*;omega
  ·split
   ·simp only [Qy] at*;omega
   ·simp only [Qy] at*;omega
termination_by xs ys=>xs.length+ys.length
structure PWO (P:List zh) (Qs:List (List zh)) (e:Rat):Prop where
 p:PathR 700 P
 q:∀Q∈Qs,PathR 700 Q/\∀c∈Q,c.2.length<=8
 len:(zg P e).length=Qs.length
 few:Qs.length<=8
 ez:SzQ 700 e
 e0:0<=e
 part:∀p∈zg P e,SzQ 700 p/\0<=p
structure WithO (P:List zh) (Qs:List (List zh)):Prop where
 nest:Nest P Qs
 pr:PathR 700 P
 qr:∀Q∈Qs,PathR 700 Q/\∀c∈Q,c.2.length<=8
 szM:∀e∈wpV P Qs,SzQ 700 e/\∀p∈zg P e,SzQ 700 p
 ql:∀Q∈Qs,Q.length<=401
 pl:P.length<=401
 few:Qs.length<=8
 lenV:(wpV P Qs).length<=401
section
variable {B G0 H:Hp} {cs:yp} {ds:Dat} {Q:VK} {E:XK} {v w u:V} {K:Frg} {xs ys:List PyData} {vs:List V} {P:List zh} {Qs:List (List zh)}
def ay:Sp:=spT (α:=List zh×List (List zh)×Rat) (λa=>[yv a.1, .list (a.2.1.map yv),frD a.2.2]) (λa=>PWO a.1 a.2.1 a.2.2) (λa=>ym (yQ a.2.1 (zg a.1 a.2.2)))
def qA (S:Sta B G0 H cs ds) (q:Has ds (yv P) v) (m:Has ds (.list (Qs.map yv)) w) (g:Has ds (frD e) u) (ok:PWO P Qs e)
 (k:∀r H',zS H H'->Sta B G0 H' cs ((ym (yQ Qs (zg P e)),r)::ds)->Q r H'):ay [v,w,u] H Q E:=
 Zf (P,Qs,e) S (.cons q (.cons m (.cons g .nil))) ok k
def Ur:Sp:=spL (α:=List zh×List (List zh)) (λa=>[yv a.1, .list (a.2.map yv)]) (λa=>WithO a.1 a.2) (λa=>(yt a.1 a.2).map zN)
def vg (S:Sta B G0 H cs ds) (m:Has ds (yv P) v) (g:Has ds (.list (Qs.map yv)) w) (ok:WithO P Qs)
 (k:∀p H',zS H H'->Sta B G0 H' ((p,(yt P Qs).map zN)::cs) ds->Q (.ref p) H'):Ur [v,w] H Q E:=
 Zs (P,Qs) S (.cons m (.cons g .nil)) ok k
def FZ (i:Nat):(wpF P 0 (Qs.take i) M).length<=(wpF P 0 Qs M).length:=by
 have mono:∀(Qs:List (List zh)) (k:Nat) (M:List Rat),M.length<=(wpF P k Qs M).length:=by
  intro Qs
  induction Qs with
  |nil=>intro k M;rw [wpF];exact Qu _
  |cons Q Qs g=>
   intro k M;rw [wpF];refine QW ?_ (g (k+1) _);exact dk M _
 have:∀(Qs:List (List zh)) (i k:Nat) (M:List Rat),(wpF P k (Qs.take i) M).length<=(wpF P k Qs M).length:=by
  intro Qs
  induction Qs with
  |nil=>intro i k M;rw [List.take_nil];exact Qu _
  |cons Q Qs g=>
   intro i k M
   cases i with
   |zero=>rw [List.take_zero,wpF];exact mono _ k M
   |succ i=>rw [List.take_succ_cons,wpF,wpF];exact g i (k+1) _
 exact this Qs i 0 M
def WithO.len (h:WithO P Qs) (i:Nat):(wpF P 0 (Qs.take i) (yb P)).length<=401:=QW (FZ i) h.lenV
def WithO.pw (h:WithO P Qs) (he:e∈wpV P Qs):PWO P Qs e:=by
 have r:=h.nest.in_range he;refine ⟨h.pr,h.qr,h.nest.plen e,h.few,(h.szM e he).1,r.1,λp hp=>⟨(h.szM e he).2 p hp,?_⟩⟩;obtain ⟨k,g⟩:=Qx.mp hp;have m:k<Qs.length:=by rw [<-h.nest.plen e];exact (Qd.mp g).1
 exact (h.nest.range r.1 r.2 (Qb m) g).1
def WithO.reach (h:WithO P Qs) {k:Nat} {Q:List zh} (g:Qs[k]? =some Q):ReachOk Qs.length k 700 700 P (yb Q):=by
 have q:=Qc g;have s:k<Qs.length:=(Qd.mp g).1;refine ⟨h.nest.pm,h.pr.r0,s,λl t=>?_,nofun,by unfold yb;rw [Qa];have:=h.ql Q q;omega⟩;obtain ⟨c,m,rfl⟩:=Qj.mp t;refine ⟨((h.qr Q q).1.sz c m).1,λd hd=>?_⟩;obtain ⟨r,e⟩:=h.nest.p0;rw [e] at hd;cases hd;rw [Qk,QX,QH s];exact (h.nest.qpos g c m).1
def vq (S:Sta B G0 H ((L,xs)::cs) ds) (g:Has ds (.list ys) w) (hz:xs.length+ys.length<=1000) (k:∀H',Sta B G0 H' ((L,xs++ys)::cs) ds->Q .non H'):BA (.ref L) [w] H Q:=by
 obtain ⟨p,us,e,hp,r,t,al⟩:=S.lstAll g;obtain ⟨vs,s,y,put⟩:=t.put;subst e;refine ⟨L,p,vs,us,rfl,rfl,s,hp,?_,k _ ((put (xs++ys) (vs++us) λG a b=>b.app (al G a)).weak (jbp _) λq m=> .mem (QI _ m))⟩;rw [<-r,<-y];exact QW hz (jcd rfl)
def IF (S:Sta B G0 H cs ds) (h:(L,[d])∈cs) (hn:n<=1000) (k:∀l H',zS H H'->Sta B G0 H' ((l,List.replicate n d)::cs) ds->Q (.ref l) H'):rRep (.ref L) (.int (n:Int)) H Q:=by
 obtain ⟨vs,hp,t,A,_⟩:=S.cellAll h;obtain ⟨z,rfl⟩:=List.length_eq_one_iff.mp t.symm
 ·refine ⟨L,(n:Int),_,rfl,rfl,hp,⋯,⋯,?_,λp g=>?_⟩
  ·show 1*n<=sizeLine;have:1000<=sizeLine:=by decide
   omega
  ·rw [Tj];show Q (.ref p) (upd H p (.lst (List.replicate n [z]).flatten));rw [qy];have y:Sta B G0 H cs ((d,z)::ds):=A;refine k p _ (zS.new g _) ((y.newL (xs:=List.replicate n d) (vs:=List.replicate n z) g λG a=>?_).dat λq s=> .mem (Qf _ s));have r:Is G d z:=a (d,z) (Qe ..);clear hn k
   induction n with
   |zero=>rw [List.replicate_zero,List.replicate_zero,zJ]
   |succ n m=>rw [TH,TH,zJ];exact ⟨_,_,rfl,r,m⟩
theorem ef (p:Rat) (i:Nat):∀(z:List (Rat×Nat)) (w:List Rat),xU (z++[(p,i)]) w=(xU z w).set i p
 |[],w=>rfl
 |(q,j)::z,w=>by rw [Tv,xU,xU,ef p i z]
def JB (h:j<n):ixN n (j:Int)=some j:=by
 unfold ixN;rw [QH ⋯,QH ⋯,Tj]
theorem lU {α β:Type} (p:α->Bool) (f:α->β):∀xs:List α,xs.filterMap (λj=>if p j=true then some (f j) else none)=(xs.filter p).map f
 |[]=>rfl
 |x::xs=>by
  rw [jbb,jbj,lU p f xs]
  split
  ·rename_i h
   split at h
   ·cases h
   ·rw [QP (by assumption)]
  ·rename_i h
   split at h
   ·cases h;rw [QH (by assumption),Ql]
   ·cases h
def fm (p:Cl->Bool) (l:List Cl):(List.range l.length).filterMap (λj=>if p (l.getD j (0,0,0)) then some (PyData.int (j:Int)) else none)=(zO p l).map λ(i:Nat)=>PyData.int (i:Int):=by
 unfold zO;exact lU (λj=>p (l.getD j (0,0,0))) (λ(j:Nat)=>PyData.int (j:Int)) _
def ji (p:Cl->Bool) (l:List Cl):(List.range l.length).filterMap (λj=>if p (l.getD j (0,0,0)) then some (PyData.int (0+(j:Int))) else none)=(zO p l).map λ(i:Nat)=>PyData.int (i:Int):=by
 rw [<-fm];simp only [Int.zero_add]
theorem qJ:∀{l:List Int} {x:Int},x∈l->jo l<=x/\jo l∈l
 |[],x,h=>absurd h Qp
 |[a],x,h=>by rw [Qv.mp h,jo];exact ⟨jbD _,jaY _⟩
 |a::b::l,x,h=>by
  have e:jo (a::b::l)=min a (jo (b::l)):=by rw [jo];simp
  have g:=qJ (l:=b::l) (Qe ..);rw [e];refine ⟨?_,?_⟩
  ·rcases Qn.mp h with rfl|h
   ·omega
   ·have:=(qJ (l:=b::l) h).1;omega
  ·rcases Int.le_total a (jo (b::l)) with z|z
   ·rw [Int.min_eq_left z];exact Qe ..
   ·rw [Int.min_eq_right z];exact Qf _ g.2
def Cn (h:m∈l) (low:∀x∈l,m<=x):m=jo l:=by
 have:=qJ h;have:=low _ this.2;omega
noncomputable def plD (pl:List Nat):PyData:= .list (pl.map λ(i:Nat)=>PyData.int (i:Int))
def aw:Sp:=spL (α:=List Cl×List Nat) (λa=>[zo a.1,plD a.2]) (λa=>(∀i∈a.2,i<a.1.length)/\a.2.length<=8) (λa=>(zP (0,0,0) a.2 a.1).map zG)
def dg (S:Sta B G0 H cs ds) (m:Has ds (zo l) v) (g:Has ds (plD pl) w) (lt:∀i∈pl,i<l.length) (few:pl.length<=8) (k:∀p H',zS H H'->Sta B G0 H' ((p,(zP (0,0,0) pl l).map zG)::cs) ds->Q (.ref p) H'):aw [v,w] H Q E:=
 Zs (l,pl) S (.cons m (.cons g .nil)) ⟨lt,few⟩ k
def XU (p:Int->Cl->Bool):Sp:=spL (α:=List Cl×Int) (λa=>[zo a.1, .int a.2]) (λa=>a.1.length<=8) (λa=>(zO (p a.2) a.1).map λ(i:Nat)=>PyData.int (i:Int))
def nS (S:Sta B G0 H cs ds) (m:Has ds (zo l) v) (few:l.length<=8) (k:∀q H',zS H H'->Sta B G0 H' ((q,(zO (p g) l).map λ(i:Nat)=>PyData.int (i:Int))::cs) ds->Q (.ref q) H'):XU p [v, .int g] H Q E:=
 Zs (l,g) S (.cons m (.cons Has.int .nil)) few k
def EG:Sp:=spT (α:=List Cl×Int) (λa=>[zo a.1, .int a.2]) (λa=>0<a.1.length/\a.1.length<=8) (λa=>zG (Aa a.2 a.1))
def rd_one (S:Sta B G0 H cs ds) (m:Has ds (zo l) v) (pos:0<l.length) (few:l.length<=8) (k:∀q H',zS H H'->Sta B G0 H' cs ((zG (Aa g l),q)::ds)->Q q H'):EG [v, .int g] H Q E:=
 Zf (l,g) S (.cons m (.cons Has.int .nil)) ⟨pos,few⟩ k
structure SpO (pl:List Nat) (n:Nat) (v:List Rat):Prop where
 pls:Pls n pl
 len:v.length=pl.length
 few:n<=8
def dU:Sp:=spT (α:=List Rat×List Nat×Nat) (λa=>[ym a.1,plD a.2.1, .int (a.2.2:Int)]) (λa=>SpO a.2.1 a.2.2 a.1) (λa=>ym (yc a.2.1 a.2.2 a.1))
def vj (S:Sta B G0 H cs ds) (m:Has ds (ym x) v) (g:Has ds (plD pl) w) (ok:SpO pl n x) (k:∀q H',zS H H'->Sta B G0 H' cs ((ym (yc pl n x),q)::ds)->Q q H'):dU [v,w, .int (n:Int)] H Q E:=
 Zf (x,pl,n) S (.cons m (.cons g (.cons Has.int .nil))) ok k
def Us:Sp:=spL (α:=List zh×List Nat×Nat) (λa=>[yv a.1,plD a.2.1, .int (a.2.2:Int)]) (λa=>(∀c∈a.1,SpO a.2.1 a.2.2 c.2)/\a.1.length<=450) (λa=>(yq a.2.1 a.2.2 a.1).map zN)
def nM (S:Sta B G0 H cs ds) (m:Has ds (yv x) v) (g:Has ds (plD pl) w) (ok:∀c∈x,SpO pl n c.2) (few:x.length<=450) (k:∀q H',zS H H'->Sta B G0 H' ((q,(yq pl n x).map zN)::cs) ds->Q (.ref q) H'):Us [v,w, .int (n:Int)] H Q E:=
 Zs (x,pl,n) S (.cons m (.cons g (.cons Has.int .nil))) ⟨ok,few⟩ k
noncomputable def Xr (t n:Nat):Sp:=spL (α:=Rl×List Cl) (λa=>[a.1.shape,zo a.2]) (λa=>(RuS t a.1/\a.1.deep<=n)/\ClS t a.2) (λa=>(zE a.1 a.2).map zN)
def ZF (S:Sta B G0 H cs ds) (g:Has ds r.shape v) (h:Has ds (zo l) w) (ru:RuS t r) (hn:r.deep<=n) (ok:ClS t l) (k:∀p H',zS H H'->Sta B G0 H' ((p,(zE r l).map zN)::cs) ds->Q (.ref p) H'):Xr t n [v,w] H Q E:=Zs (r,l) S (.cons g (.cons h .nil)) ⟨⟨ru,hn⟩,ok⟩ k
noncomputable def ki (t n:Nat):Sp:=spL (α:=Rl×List Cl) (λa=>[a.1.shape,zo a.2]) (λa=>(RuS t a.1/\a.1.deep<=n)/\ClS t a.2) (λa=>(VD (λl=>zE a.1 l) a.2).map zN)
def Bm (S:Sta B G0 H cs ds) (g:Has ds r.shape v) (h:Has ds (zo l) w) (ru:RuS t r) (hn:r.deep<=n) (ok:ClS t l) (k:∀p H',zS H H'->Sta B G0 H' ((p,(VD (λl=>zE r l) l).map zN)::cs) ds->Q (.ref p) H'):ki t n [v,w] H Q E:=Zs (r,l) S (.cons g (.cons h .nil)) ⟨⟨ru,hn⟩,ok⟩ k
noncomputable def dW (t n:Nat):Sp:=spL (α:=(Rl×Rl)×List Cl) (λa=>[a.1.1.shape,a.1.2.shape,zo a.2]) (λa=>(RuS t (.groups a.1.1 a.1.2)/\a.1.1.deep<=n/\a.1.2.deep<=n)/\ClS t a.2) (λa=>(xt (λl=>zE a.1.1 l) (λl=>zE a.1.2 l) a.2).map zN)
def vm (S:Sta B G0 H cs ds) (q:Has ds a.shape v) (m:Has ds b.shape u) (h:Has ds (zo l) w) (ru:RuS t (.groups a b)) (ha:a.deep<=n) (g:b.deep<=n) (ok:ClS t l) (k:∀p H',zS H H'->Sta B G0 H' ((p,(xt (λl=>zE a l) (λl=>zE b l) l).map zN)::cs) ds->Q (.ref p) H'):dW t n [v,u,w] H Q E:=Zs ((a,b),l) S (.cons q (.cons m (.cons h .nil))) ⟨⟨ru,ha,g⟩,ok⟩ k
noncomputable def qf (A:RAd) (t n:Nat):Sp:=spL (α:=Rl×List Cl) (λa=>[a.1.ins A,zo a.2]) (λa=>(RuS t a.1/\a.1.deep<=n)/\ClS t a.2) (λa=>(zE a.1 a.2).map zN)
def EW (S:Sta B G0 H cs ds) (g:Has ds (r.ins A) v) (h:Has ds (zo l) w) (ru:RuS t r) (hn:r.deep<=n) (ok:ClS t l) (k:∀p H',zS H H'->Sta B G0 H' ((p,(zE r l).map zN)::cs) ds->Q (.ref p) H'):qf A t n [v,w] H Q E:=Zs (r,l) S (.cons g (.cons h .nil)) ⟨⟨ru,hn⟩,ok⟩ k
end
def Sta.rot3 (S:Sta B G0 H (m::c2::g::cs) ds):Sta B G0 H (g::m::c2::cs) ds:=S.permC ((List.Perm.cons _ (List.Perm.swap _ _ _)).trans (List.Perm.swap _ _ _))
theorem oI:∀{g:List (List Nat)},(∀L∈g,L.length<=8)->g.flatten.length<=8*g.length
 |[],_=>by simp
 |L::g,h=>by
  have s:=h L (Qe ..);have r:=oI λq m=>h q (Qf _ m);rw [jaf,QB,Qy];omega
def ful_sz {m d t:Nat} {T:Rat} {as:List Rat} {P:List zh} {Z:Int} (h:Ful m T as P) (hd:DP d P) (C:T<=(Z:Rat)) (y:0<=Z) (u:Z<=2 ^ t):∀c∈P,SzC (t+d+2) c:=λc g=>by
 have s:=h.std.range g;have w:c.1<=(Z:Rat):=TY s.2 C
 have nn:∀q∈c.2,0<=q:=λq z=>by
  obtain ⟨i,A⟩:=Qx.mp z;exact h.std.nn h.mono c g i q A
 have le:=(xH nn).2;rw [(h.std.ok c g).2] at le;exact ⟨(hd c g).1.sz s.1 w y u,λx r=>((hd c g).2 x r).sz (nn x r) (TY (le x r) w) y u⟩
theorem HR:∀{l:List Cl},(∀c∈l,0<=c.1)->zA (asD done l)<=zA (amQ l)
 |[],_=>QR
 |c::l,nn=>by
  have r:=HR (done:=done) λx g=>nn x (Qf _ g);have h0:=bD (nn c (Qe ..));have q:asD done (c::l)=(if c.2.1∈done then (c.1:Rat) else 0)::asD done l:=rfl;have m:amQ (c::l)=(c.1:Rat)::amQ l:=rfl;rw [q,m,zA,zA]
  split<;>grind
noncomputable def rkP (r:Rl) (l:List Cl) (i:Nat):List zh:=((zQ l).take i).foldl (Zr (λl=>zE r l) l) (jR l.length)
section
variable {t:Nat} {r a b:Rl} {l:List Cl} {i:Nat} {k:Int}
def ES (g:(zQ l)[i]? =some k):rkP r l (i+1)=Zr (λl=>zE r l) l (rkP r l i) k:=by
 unfold rkP;rw [Tr,g,List.foldl_append];rfl
def IB (r:Rl) (l:List Cl):rkP r l (zQ l).length=VD (λl=>zE r l) l:=by
 unfold rkP VD;rw [List.take_length]
def rkP_ok (ru:RuS t r) (ok:ClS t l) (i:Nat):RkI r l ((zQ l).take i) (rkP r l i)/\(∀c∈rkP r l i,SzC 700 c)/\(rkP r l i).length<=401:=by
 have pw:([]++(zQ l).take i).Pairwise (·<·):=jbl (List.take_sublist _ _) (yD l).1;have gf:∀k∈(zQ l).take i,GF r (l.filter (zK k)) (zE r (l.filter (zK k)))/\DP (Xh t r) (zE r (l.filter (zK k))):=λk _=>⟨yW ru.pok (xg ok.n1 _),YB ru.pok (xg ok.n1 _) (jbt (Xz ok.n1 _) ok.sum)⟩;have R:=qx (f:=λl=>zE r l) ((zQ l).take i) [] _ (RkI.nil (r:=r) (l:=l)) pw λk q=>(gf k q).1
 have D:=Be (d:=Xh t r) (f:=λl=>zE r l) ((zQ l).take i) [] _ (RkI.nil (r:=r) (l:=l)) pw gf λc g=>by
  rw [Qv.mp g];refine ⟨DQ.zero.mono ⋯,λx m=>?_⟩;rw [List.eq_of_mem_replicate m];exact DQ.zero.mono ⋯
 rw [jaR] at R;refine ⟨R,λc g=>?_,?_⟩
 ·have T0:=VB (Xv ok.n1);have le:=HR (done:=(zQ l).take i) ok.n1;rw [xA] at le;exact (ful_sz R.ful D le T0 ok.sum c g).mono ru.den
 ·have f:=lL (f:=λl=>zE r l) (l:=l) (c:=WQ r) ((zQ l).take i) (jR l.length) λk _=>Xg ru.pok (xg ok.n1 _);have s:=dv (·.2.1) (yD l).1 l λc g=>((yD l).2 _).mpr (Qj.mpr ⟨c,g,rfl⟩);have e:((zQ l).map λk=>(l.filter (zK k)).length).sum=l.length:=s
  have sub:(((zQ l).take i).map λk=>(l.filter (zK k)).length).sum<=((zQ l).map λk=>(l.filter (zK k)).length).sum:=by
   conv=>rhs;rw [<-List.take_append_drop i (zQ l)]
   rw [QM,List.sum_append];omega
  rw [e] at sub;have u:=Nat.mul_le_mul_left (WQ r) sub;have m2:=Nat.mul_le_mul ru.len ok.few;have z:(jR l.length).length=1:=rfl;unfold rkP;omega
def BE (st:Std m T as P) (hm:m<=8) (sz:∀c∈P,SzC 700 c) (few:P.length<=401):PathIn P:=
 ⟨st.ne,λc g=>(sz c g).mono nofun,λc g=>by rw [(st.ok c g).1];omega,⋯⟩
def AB (hp:Pls n pl) (q:∀c∈P,c.2.length=pl.length) (h:∀c∈P,SzC 700 c):∀c∈yq pl n P,SzC 700 c:=λc w=>by
 obtain ⟨c,g,rfl⟩:=Qj.mp w;refine ⟨(h c g).1,λx m=>?_⟩;obtain ⟨i,u⟩:=Qx.mp m
 rcases Ze hp (q c g) u with ⟨j,_,s⟩|⟨_,rfl⟩
 ·exact (h c g).2 x (Qc s)
 ·unfold SzQ Sz;decide
def Bf (ru:RuS t r) (ok:ClS t l) (K:(zQ l)[i]? =some k):
 PathIn (rkP r l i)/\PathIn (yq (zO (zK k) l) l.length (zE r (l.filter (zK k))))/\PathOk l.length (rkP r l i++yE (rkP r l i) (yq (zO (zK k) l) l.length (zE r (l.filter (zK k))))):=by
 obtain ⟨R,sz,few⟩:=rkP_ok ru ok i;have m:=ok.filter (zK k) (fh (Qc K));have g:=(ru.gf m).ful;have L:=ru.R m;have C:=Zl (zK k) l;have A:=YO (zK k) l;have D:=g.spread A C;have s:=AB A (λc y=>by rw [(g.std.ok c y).1,C]) L.sz;have w:(yq (zO (zK k) l) l.length (zE r (l.filter (zK k)))).length<=401:=by unfold yq;rw [Qa];exact ru.few m
 have st:=gE R.ful.std D.std;refine ⟨BE R.ful.std ok.few sz few,BE D.std ok.few s w,λc y=>?_,λc y=>(st.ok c y).1,by have:=ok.few;omega,?_⟩
 ·rcases QY.mp y with z|z
  ·exact (sz c z).mono nofun
  ·obtain ⟨d,hd,rfl⟩:=Qj.mp z;have z1:=sz _ (oB R.ful.std.ne);have z2:=s d (jad hd);refine ⟨(z1.1.add z2.1).mono nofun,λq J=>?_⟩;obtain ⟨u,I,v,G,rfl⟩:=dG J;exact ((z1.2 u I).add (z2.2 v G)).mono nofun
 ·unfold yE;simp only [QB,Qa,jaW];omega
def CP (ru:RuS t (.groups a b)) (ok:ClS t l):WithO (zE a (zI l)) (zV (λl=>zE b l) l):=by
 obtain ⟨ra,z⟩:=ru.groups;have u:=ok.sums;have s:∀g∈zB l,ClS t (l.filter (zu g)):=λg m=>ok.filter (zu g) (Xy m);have ga:=ra.gf u;have G:=λg m=>z.gf (s g m);have nest:=Ug (fa:=λl=>zE a l) (fb:=λl=>zE b l) ga.ful λg m=>(G g m).ful;have T0:=VB (Xv ok.n1)
 have A:(lastC (zE a (zI l))).1<=(((amV l).sum:Int):Rat):=by
  rw [ga.ful.std.lastC];show zA (amQ (zI l))<=_;rw [xA,cV];exact QR
 have L:=ru.den;simp only [Xh] at L;have O:=Ym l;have N:=ok.few;refine ⟨nest,ra.R u,λQ y=>?_,λe he=>?_,λQ y=>?_,ra.few u,by rw [Yj];omega,?_⟩
 ·obtain ⟨g,m,rfl⟩:=Qj.mp y;refine ⟨z.R (s g m),λc K=>?_⟩;rw [((G g m).ful.std.ok c K).1];exact (s g m).few
 ·have D:=nest.den (YB (t:=t) ra.pok u.n1 u.sum) (b:=Xh t b) (λQ y=>by
   obtain ⟨g,m,rfl⟩:=Qj.mp y
   exact YB z.pok (s g m).n1 (s g m).sum) A ok.sum he
  have w:=nest.in_range he;refine ⟨(D.1.sz w.1 (TY w.2 A) T0 ok.sum).mono ⋯,λp hp=>?_⟩
  have nn:∀q∈zg (zE a (zI l)) e,0<=q:=λq J=>by
   obtain ⟨k,C⟩:=Qx.mp J;have M:k<(zV (λl=>zE b l) l).length:=by rw [<-nest.plen e];exact (Qd.mp C).1
   exact (nest.range w.1 w.2 (Qb M) C).1
  have le:=(xH nn).2 p hp;rw [ga.ful.std.sum w.1] at le;have I:mn e (zA (amQ (zI l)))<=e:=by unfold mn;split<;>grind
  exact ((D.2 p hp).sz (nn p hp) (by have:=w.2;grind) T0 ok.sum).mono ⋯
 ·obtain ⟨g,m,rfl⟩:=Qj.mp y;exact z.few (s g m)
 ·have f:=ru.few ok
  have e:(zE (.groups a b) l).length=(wpV (zE a (zI l)) (zV (λl=>zE b l) l)).length:=by
   show (xt (λl=>zE a l) (λl=>zE b l) l).length=_;unfold xt yq yt;rw [Qa,Qa]
  omega
def CQ (ru:RuS t (.groups a b)) (ok:ClS t l):(∀c∈yt (zE a (zI l)) (zV (λl=>zE b l) l),SpO (vz l) l.length c.2)/\(yt (zE a (zI l)) (zV (λl=>zE b l) l)).length<=450:=by
 obtain ⟨ra,s⟩:=ru.groups;have w:=CP ru ok;have m:∀g∈zB l,ClS t (l.filter (zu g)):=λg q=>ok.filter (zu g) (Xy q);have ga:=ra.gf ok.sums;have u:=fG (fb:=λl=>zE b l) (l:=l) λg q=>(s.gf (m g q)).ful;have W:=lD w.nest (T:=zA (amQ (zI l))) (as:=amQ (zI l)) (by rw [Yj,<-xP];exact ga.ful.std);refine ⟨λc y=>⟨kY l,by rw [(W.std.ok c y).1,u],ok.few⟩,?_⟩;have:=w.lenV;unfold yt;rw [Qa];omega
def jb (ok:PathIn P) (h:∀c∈P,SzC 700 c) (hp:SzQ m p) (hm:m<=1000):PathIn (zU p P):=by
 refine ⟨λe=>ok.ne (List.map_eq_nil_iff.mp e),λc g=>(aC h hp c g).mono ⋯,λc g=>?_,by unfold zU;rw [Qa];exact ok.few⟩;obtain ⟨d,hd,rfl⟩:=Qj.mp g;rw [Qa];exact ok.len d hd
def RuS.up (h:RuS t (.upto t' b' x y)) (ok:ClS t l):UpOk (Rat.divInt t' b') (zE x l) (zE y l):=by
 obtain ⟨s,m⟩:=h.upto;have g:=IW h.pok.1;have one:SzQ 1 (1:Rat):=by unfold SzQ Sz;decide+kernel
 have C:SzQ 212 (1 - Rat.divInt t' b'):=(one.sub g).mono nofun;have G:=s.R (l:=l) ok;have py:=m.R (l:=l) ok;have P:=(s.gf ok).ful.std;have O:=(m.gf ok).ful.std;have w:=s.inn (l:=l) ok;have I:=m.inn (l:=l) ok;have pi:=Ue h.pok.1;have D:=aC G.sz g;have J:=aC py.sz C;have X:=Xg s.pok ok.n1;have U:=Xg m.pok ok.n1;have f:=h.len;simp only [WQ] at f;have T:=ok.few;have K:=Nat.mul_le_mul (show WQ x+WQ y<=50 from f) T;rw [Nat.add_mul] at K;have st:=gE (Wy pi.1 P) (Wy (show 0<1 - Rat.divInt t' b' by grind) O);refine ⟨g.mono nofun,w,I,jb w G.sz g nofun,jb I py.sz C nofun,l.length,⟨λc A=>?_,λc A=>(st.ok c A).1,⋯,?_⟩⟩
 ·rcases QY.mp A with z|z
  ·exact (D c z).mono nofun
  ·obtain ⟨d,hd,rfl⟩:=Qj.mp z;have a:=D _ (oB (λe=>w.ne (List.map_eq_nil_iff.mp e)));have b:=J d (jad hd);refine ⟨(a.1.add b.1).mono nofun,λq N=>?_⟩;obtain ⟨u,M,v,L,rfl⟩:=dG N;exact ((a.2 u M).add (b.2 v L)).mono nofun
 ·unfold yE zU;simp only [QB,Qa,jaW];omega
end
noncomputable def ai (m:List Int) (l:List Cl) (tk:List Int):List Int:=m.map λg=>(zP 0 (zO (zu g) l) tk).sum
section
variable {r a b:Rl} {l:List Cl} {tk:List Int} {k:Int}
def wG (h:∀i∈pl,i<tk.length):yO (zP 0 pl tk)=zP 0 pl (yO tk):=by
 unfold yO zP;rw [Qm];refine QG λi g=>?_;show (((tk.getD i 0):Int):Rat)=(tk.map λ(p:Int)=>(p:Rat)).getD i 0;rw [Qk,Qk,Qh,Qb (h i g)];rfl
def fo (p:Cl->Bool) (q:Row->Bool) (m:∀c x,q (xC c x)=p c) (g:tk.length=l.length):(zC l (yO tk)).filter q=zC (l.filter p) (yO (zP 0 (zO p l) tk)):=by
 rw [YA (p:=p) q m (by rw [WZ];exact g),wG λi s=>by rw [g];exact (YO p l).lt i s]
def FitG.ranks (h:FitG (.ranks r) l tk) (k:Int):FitG r (l.filter (zK k)) (zP 0 (zO (zK k) l) tk):=by
 refine ⟨by rw [yV,Zl],?_⟩;have:=h.fit.2.1 k;rwa [fo (zK k) _ (λc x=>rfl) h.len] at this
def FitG.order (h:FitG (.ranks r) l tk) {i j:Nat} {c d:Cl} {p q:Int} (s:l[i]? =some c) (hp:tk[i]? =some p) (hd:l[j]? =some d) (m:tk[j]? =some q) (lt:c.2.1<d.2.1) (pos:0<q):p=c.1:=by
 have g:∀{n:Nat} {x:Int},tk[n]? =some x->(yO tk)[n]? =some (x:Rat):=λ{n x} hx=>by unfold yO;rw [Qh,hx];rfl
 have:=h.fit.2.2 _ (Wa s (g hp)) _ (Wa hd (g m)) lt (YS pos);exact Rat.intCast_inj.mp this
def FitG.group (h:FitG (.groups a b) l tk) (g:Int):FitG b (l.filter (zu g)) (zP 0 (zO (zu g) l) tk):=by
 refine ⟨by rw [yV,Zl],?_⟩;have:=h.fit.2.1 g;rwa [fo (zu g) _ (λc x=>rfl) h.len] at this
def FitG.outer (h:FitG (.groups a b) l tk):FitG a (zI l) (ai (zB l) l tk):=by
 refine ⟨by unfold ai;rw [Qa,xP],?_⟩;have f:=h.fit.2.2
 have u:xN (zC l (yO tk))=zB l:=by
  have:(zC l (yO tk)).map (·.group)=l.map (·.2.2):=by
   unfold zC;rw [jbL]
   apply Tn
   intro i;rw [Qt,Qh]
   cases e1:l[i]? with
   |none=>rfl
   |some c=>
    have m:=(Qd.mp e1).1;rw [Qb (l:=yO tk) (i:=i) (by rw [WZ,h.len];exact m)];rfl
  exact Zi (xQ _).1 (zY l).1 λk=>by rw [(xQ _).2,this,(zY l).2]
 have es:Um (zC l (yO tk))=zC (zI l) (yO (ai (zB l) l tk)):=by
  unfold Um;rw [u];unfold zC zI yO ai;rw [Qm,jbK,List.zipWith_self];refine QG λg _=>?_;have t:=fo (l:=l) (tk:=tk) (zu g) (λx=>decide (x.group=g)) (λc x=>rfl) h.len;unfold zC at t;have ln:(yO (zP 0 (zO (zu g) l) tk)).length=(l.filter (zu g)).length:=by rw [WZ,yV,Zl]
  have s:=Yr ln;have q:=Yq ln;unfold zC at s q
  have w:(List.zipWith xC (l.filter (zu g)) (yO (zP 0 (zO (zu g) l) tk))).map (·.rank)=(l.filter (zu g)).map (·.2.1):=by
   rw [jbL]
   apply Tn
   intro i;rw [Qt,Qh]
   cases e1:(l.filter (zu g))[i]? with
   |none=>rfl
   |some c=>
    have m:=(Qd.mp e1).1;rw [Qb (l:=yO (zP 0 (zO (zu g) l) tk)) (i:=i) (by rw [ln];exact m)];rfl
  show Row.mk (Xn ((List.zipWith xC l (yO tk)).filter λx=>decide (x.group=g))) (jo (((List.zipWith xC l (yO tk)).filter λx=>decide (x.group=g)).map (·.rank))) g (Xm ((List.zipWith xC l (yO tk)).filter λx=>decide (x.group=g)))=xC (Aa g (l.filter (zu g))) (((zP 0 (zO (zu g) l) tk).sum:Int):Rat);rw [t,s,q,w,aq,xA];rfl
 rw [es] at f;exact f
end
structure FitA (n:Nat) (r:Rl) (l:List Cl) (tk:List Int):Prop where
 pok:POk r
 dep:Vz r<=n
 hn:n<=20
 few:l.length<=8
 sz:∀x∈amV l,Sz (100000 - 300*n) x
 fit:FitG r l tk
section
variable {B G0 H:Hp} {cs:yp} {ds:Dat} {Q:VK} {E:XK} {v w u:V} {K:Frg} {n:Nat} {r x y a b':Rl} {l:List Cl} {tk:List Int} {t b:Int} {k g:Int}
def VP (n:Nat):Sp:=spB (α:=Rl×List Cl×List Int) (λa=>[a.1.shape,zo a.2.1,xk a.2.2]) (λa=>FitA n a.1 a.2.1 a.2.2) (λ_=> .bl true)
def YN (S:Sta B G0 H cs ds) (s:Has ds r.shape u) (q:Has ds (zo l) v) (m:Has ds (xk tk) w) (ok:FitA n r l tk) (k:∀H',zS H H'->Sta B G0 H' cs ds->Q (.bl true) H'):VP n [u,v,w] H Q E:=UE (r,l,tk) (S.hpAll (.cons s (.cons q (.cons m .nil)))) ok λH' e=>k H' e (S.same e)
def Il (n:Nat):Sp:=spB (α:=(Int×Int)×(Rl×Rl)×List Cl×List Int) (λa=>[(Rl.upto a.1.1 a.1.2 a.2.1.1 a.2.1.2).shape,zo a.2.2.1,xk a.2.2.2]) (λa=>FitA n (Rl.upto a.1.1 a.1.2 a.2.1.1 a.2.1.2) a.2.2.1 a.2.2.2) (λ_=> .bl true)
def rd_upA (S:Sta B G0 H cs ds) (s:Has ds (Rl.upto t b x y).shape u) (q:Has ds (zo l) v) (m:Has ds (xk tk) w) (ok:FitA n (.upto t b x y) l tk) (k:∀H',zS H H'->Sta B G0 H' cs ds->Q (.bl true) H'):Il n [u,v,w] H Q E:=UE ((t,b),(x,y),l,tk) (S.hpAll (.cons s (.cons q (.cons m .nil)))) ok λH' e=>k H' e (S.same e)
def Io (n:Nat):Sp:=spB (α:=Rl×List Cl×List Int) (λa=>[a.1.shape,zo a.2.1,xk a.2.2]) (λa=>FitA n (.ranks a.1) a.2.1 a.2.2) (λ_=> .bl true)
def rd_rkF (S:Sta B G0 H cs ds) (s:Has ds r.shape u) (q:Has ds (zo l) v) (m:Has ds (xk tk) w) (ok:FitA n (.ranks r) l tk) (k:∀H',zS H H'->Sta B G0 H' cs ds->Q (.bl true) H'):Io n [u,v,w] H Q E:=UE (r,l,tk) (S.hpAll (.cons s (.cons q (.cons m .nil)))) ok λH' e=>k H' e (S.same e)
def Ir (n:Nat):Sp:=spB (α:=(Rl×Rl)×List Cl×List Int) (λa=>[(Rl.groups a.1.1 a.1.2).shape,zo a.2.1,xk a.2.2]) (λa=>FitA n (.groups a.1.1 a.1.2) a.2.1 a.2.2) (λ_=> .bl true)
def rd_grF (S:Sta B G0 H cs ds) (s:Has ds (Rl.groups x y).shape u) (q:Has ds (zo l) v) (m:Has ds (xk tk) w) (ok:FitA n (.groups x y) l tk) (k:∀H',zS H H'->Sta B G0 H' cs ds->Q (.bl true) H'):Ir n [u,v,w] H Q E:=UE ((x,y),l,tk) (S.hpAll (.cons s (.cons q (.cons m .nil)))) ok λH' e=>k H' e (S.same e)
def FitA.other (h:FitA (n+1) (.other r) l tk):FitA n r l (xZ (amV l) tk):=
 ⟨h.pok,by have:=h.dep;simp only [Vz] at this;omega,by have:=h.hn;omega,h.few,λx m=>(h.sz x m).mono ⋯,h.fit.other⟩
def FitA.halves (h:FitA (n+1) .halves l tk):FitA n (.upto 1 2 .evenly .losses) l tk:=
 ⟨⟨port12,trivial,trivial⟩,by have:=h.dep;simp only [Vz] at this⊢;omega,by have:=h.hn;omega,h.few,λx m=>(h.sz x m).mono ⋯,h.fit.halves⟩
def FitA.upto (h:FitA (n+1) (.upto t b x y) l tk):if (yT b tk).sum<=(amV (yd t l)).sum then FitA n x (yd t l) (yT b tk) else FitA n y (yd (b - t) l) (xZ (yT b tk) (amV (yd t l))):=by
 have p:=h.pok.1;have q:0<b:=by have:=p.2.1;have:=p.2.2.1;omega
 have f:=h.fit.upto q;have d:=h.dep;simp only [Vz] at d;have hn:=h.hn;have e:100000 - 300*(n+1)+300=100000 - 300*n:=⋯
 split
 ·rename_i c;rw [QH c] at f;exact ⟨h.pok.2.1,⋯,⋯,by rw [Zg];exact h.few,by rw [<-e];exact sv (p.1.1.mono nofun) h.sz,f⟩
 ·rename_i c;rw [QP c] at f;have m:Sz 211 (b - t):=p.1.2.sub p.1.1;exact ⟨h.pok.2.2,⋯,⋯,by rw [Zg];exact h.few,by rw [<-e];exact sv m h.sz,f⟩
def gF (p:Cl->Bool) {x:Int} (h:x∈amV (l.filter p)):x∈amV l:=by
 obtain ⟨c,m,rfl⟩:=Qj.mp h;exact Qj.mpr ⟨c,(QU.mp m).1,rfl⟩
def FitA.ranks (h:FitA (n+1) (.ranks r) l tk) (k:Int):FitA n r (l.filter (zK k)) (zP 0 (zO (zK k) l) tk):=
 ⟨h.pok,by have:=h.dep;simp only [Vz] at this;omega,by have:=h.hn;omega,QW (jag _ _) h.few,λx m=>(h.sz x (gF _ m)).mono ⋯,h.fit.ranks k⟩
def FitA.group (h:FitA (n+1) (.groups a b') l tk) (g:Int):FitA n b' (l.filter (zu g)) (zP 0 (zO (zu g) l) tk):=
 ⟨h.pok.2,by have:=h.dep;simp only [Vz] at this;omega,by have:=h.hn;omega,QW (jag _ _) h.few,λx m=>(h.sz x (gF _ m)).mono ⋯,h.fit.group g⟩
theorem Hk:∀{as:List Int} (j:Nat),as.length<=j->(∀a∈as,Sz m a)->Sz (m+j+1) as.sum
 |[],j,_,_=>by unfold Sz;exact Nat.pow_pos nofun
 |a::as,0,h,_=>by simp at h
 |a::as,j+1,h,hz=>by
  have z:=Hk (m:=m) (as:=as) j ‹h› λx q=>hz x (Qf _ q);have s:=(hz a (Qe ..)).mono (show m<=m+j+1 by omega);rw [QL];exact (s.add z).mono ⋯
def FitA.outer (h:FitA (n+1) (.groups a b') l tk):FitA n a (zI l) (ai (zB l) l tk):=by
 refine ⟨h.pok.1,by have:=h.dep;simp only [Vz] at this;omega,by have:=h.hn;omega,by rw [xP];exact QW (Ym l) h.few,λx q=>?_,h.fit.outer⟩;obtain ⟨c,s,rfl⟩:=Qj.mp q;obtain ⟨g,z,rfl⟩:=Qj.mp s;have hn:=h.hn;refine (Hk (m:=100000 - 300*(n+1)) (as:=amV (l.filter (zu g))) 8 ?_ λa ha=>h.sz a (gF _ ha)).mono ⋯;rw [yi];exact QW (jag _ _) h.few
def DI (h:i<l.length):(l.getD i (0,0,0)).1=(amV l).getD i 0:=by
 unfold amV;rw [Qk,Qk,Qh,Qb h];rfl
def kd (A:RAd) (n:Nat):Sp:=spT (α:=Rl) (λr=>[r.shape]) (λr=>r.deep<=n) (λr=>r.ins A)
def Wb (S:Sta B G0 H cs ds) (h:Has ds r.shape v) (hn:r.deep<=n) (k:∀p H',zS H H'->Sta B G0 H' cs ((r.ins A,p)::ds)->Q p H'):kd A n [v] H Q E:=Zf r S (.cons h .nil) hn k
end
structure ClZ (size:Int) (l:List Cl):Prop where
 pos:0<l.length
 few:l.length<=8
 nn:∀c∈l,0<=c.1/\0<=c.2.1/\0<=c.2.2
 lt:∀c∈l,c.1<size
theorem dM (h0:0<=size):∀{as:List Int},(∀a∈as,a<size)->as.sum<=(as.length:Int)*size
 |[],_=>by simp
 |a::as,h=>by
  have q:=h a (Qe ..);have m:=dM h0 (as:=as) λx g=>h x (Qf _ g);rw [QL,Qy,Int.natCast_add,Int.add_mul];omega
def ClZ.S (h:ClZ size l) (h0:0<=size) (q:size<=2 ^ s):ClS (s+3) l:=by
 refine ⟨h.pos,h.few,h.nn,?_⟩
 have m:=dM h0 (as:=amV l) λa ha=>by
  obtain ⟨c,g,rfl⟩:=Qj.mp ha;exact h.lt c g
 rw [yi] at m;have r:(l.length:Int)*size<=8*size:=jbs (by have:=h.few;omega) h0;rw [Int.pow_add];have e:(2:Int) ^ 3=8:=by decide
 rw [e];omega
section
variable {B G0 H:Hp} {cs:yp} {ds:Dat} {Q:VK} {E:XK} {v w u:V} {K:Frg}
def dX (K:Frg):Sp:=λvs H Q _=>∃(G:Hp) (a:Addr) (ns:List Int) (at' many size:Int),vs=[.ref a, .int at', .int many, .int size]/\zS G H/\SqL K H a (ns.map V.int)/\(0<=at'/\1<=many/\many<=8/\10<=size/\size<=10 ^ 46)/\
 ∀(l:List Cl) (p:Addr) (H' g:Hp) (us:List V),l.length=many.toNat->ClZ size l->Grow G H g H'->H p=none->g p=none->H' p=some (.lst us)->zJ g (l.map zG) us->Q (.ref p) H'
def vt {a:Addr} {ns:List Int} {at' many size:Int} (S:Sta B G0 H cs ds) (s:SqL K H a (ns.map V.int)) (r:0<=at'/\1<=many/\many<=8/\10<=size/\size<=10 ^ 46)
 (k:∀(l:List Cl) (p:Addr) (H':Hp),l.length=many.toNat->ClZ size l->zS H H'->Sta B G0 H' ((p,l.map zG)::cs) ds->Q (.ref p) H'):dX K [.ref a, .int at', .int many, .int size] H Q E:=by
 obtain ⟨G,S⟩:=S;exact ⟨G,a,ns,at',many,size,rfl,S.2.1,s,r,λl p H' z us y t gr hp q m g=>k l p H' y t gr.h (Sta.put_call S gr hp q m g)⟩
def D26 (r:Rl):Prop:=(RuS 103 r/\Vz r<=12)/\r.deep<=4
end
def nd:Rl->Nat
 | .other r=>nd r+1
 | .ranks r=>nd r+1
 | .groups a b=>nd a+nd b+1
 | .upto _ _ x y=>nd x+nd y+1
 |_=>1
theorem fD:∀r:Rl,1<=nd r
 | .shares=>Qu _
 | .evenly=>Qu _
 | .losses=>Qu _
 | .halves=>Qu _
 | .other r=>by simp [nd]
 | .ranks r=>by simp [nd]
 | .groups a b=>by simp [nd]
 | .upto _ _ x y=>by simp [nd]
def PS6:Rl->Prop
 | .other r=>PS6 r
 | .ranks r=>PS6 r
 | .groups a b=>PS6 a/\PS6 b
 | .upto t b x y=>(Vb t b/\UO b<=6)/\PS6 x/\PS6 y
 |_=>True
theorem PS6.pok:∀{r:Rl},PS6 r->POk r
 | .shares,_=>trivial
 | .evenly,_=>trivial
 | .losses,_=>trivial
 | .halves,_=>trivial
 | .other r,h=>PS6.pok (r:=r) h
 | .ranks r,h=>PS6.pok (r:=r) h
 | .groups a b,h=>⟨PS6.pok h.1,PS6.pok h.2⟩
 | .upto _ _ x y,h=>⟨h.1.1,PS6.pok h.2.1,PS6.pok h.2.2⟩
theorem fF:∀{r:Rl},PS6 r->(nd r<=2->Xh t r<=2)/\(nd r<=4->Xh t r<=18+2*t)/\(nd r<=6->Xh t r<=98+12*t)
 | .shares,_=>⟨λ_=>by simp only [Xh];omega,λ_=>by simp only [Xh];omega,λ_=>by simp only [Xh];omega⟩
 | .evenly,_=>⟨λ_=>by simp only [Xh];omega,λ_=>by simp only [Xh];omega,λ_=>by simp only [Xh];omega⟩
 | .losses,_=>⟨λ_=>by simp only [Xh];omega,λ_=>by simp only [Xh];omega,λ_=>by simp only [Xh];omega⟩
 | .halves,_=>⟨λ_=>by simp only [Xh];omega,λ_=>by simp only [Xh];omega,λ_=>by simp only [Xh];omega⟩
 | .other r,h=>by
   have g:=fF (t:=t) (r:=r) h;simp only [Xh,nd];exact ⟨λz=>g.1 ⋯,λz=>g.2.1 ⋯,λz=>g.2.2 ⋯⟩
 | .ranks r,h=>by
   have g:=fF (t:=t) (r:=r) h;simp only [Xh,nd];exact ⟨λz=>g.1 ⋯,λz=>g.2.1 ⋯,λz=>g.2.2 ⋯⟩
 | .groups a b,h=>by
   obtain ⟨a1,a2,a3⟩:=fF (t:=t) (r:=a) h.1;obtain ⟨m,q,s⟩:=fF (t:=t) (r:=b) h.2;have pa:=fD a;have pb:=fD b;simp only [Xh,nd];refine ⟨λz=>absurd z ⋯,λz=>?_,λz=>?_⟩
   ·have:=a1 ⋯;have:=m ⋯;omega
   ·by_cases c:nd a<=2
    ·have:=a1 c
     by_cases d:nd b<=2
     ·have:=m d;omega
     ·have:=q ⋯;omega
    ·have:=a2 ⋯;have:=m ⋯;omega
 | .upto p b x y,h=>by
   obtain ⟨a1,a2,a3⟩:=fF (t:=t) (r:=x) h.2.1;obtain ⟨m,q,s⟩:=fF (t:=t) (r:=y) h.2.2;have pa:=fD x;have pb:=fD y;have u:=h.1.2;simp only [Xh,nd];refine ⟨λz=>absurd z ⋯,λz=>?_,λz=>?_⟩
   ·have:=a1 ⋯;have:=m ⋯;omega
   ·have:=a2 ⋯;have:=q ⋯;omega
theorem fE:∀r:Rl,WQ r<=2*nd r
 | .shares=>by simp [WQ,nd]
 | .evenly=>by simp [WQ,nd]
 | .losses=>by simp [WQ,nd]
 | .halves=>by simp [WQ,nd]
 | .other r=>by have:=fE r;simp only [WQ,nd];omega
 | .ranks r=>by have:=fE r;simp only [WQ,nd];omega
 | .groups a b=>by have:=fE a;have:=fE b;simp only [WQ,nd];omega
 | .upto _ _ x y=>by have:=fE x;have:=fE y;simp only [WQ,nd];omega
theorem cv:∀r:Rl,Vz r<=nd r+2/\r.deep<=nd r
 | .shares=>by simp [Vz,nd,Rl.deep]
 | .evenly=>by simp [Vz,nd,Rl.deep]
 | .losses=>by simp [Vz,nd,Rl.deep]
 | .halves=>by simp [Vz,nd,Rl.deep]
 | .other r=>by have:=cv r;simp only [Vz,nd,Rl.deep];omega
 | .ranks r=>by have:=cv r;simp only [Vz,nd,Rl.deep];omega
 | .groups a b=>by have:=cv a;have:=cv b;simp only [Vz,nd,Rl.deep];omega
 | .upto _ _ x y=>by have:=cv x;have:=cv y;simp only [Vz,nd,Rl.deep];omega
structure JOk (t k N:Nat) (r:Rl):Prop where
 ps:PS6 r
 pos:1<=N
 den:Xh t r<=98+12*t+6*k
 len:WQ r<=2*N
 dep:Vz r<=N+2
 deep:r.deep<=N
 size:r.size<=N+k
theorem Uh:∀r:Rl,r.size=nd r
 | .shares=>rfl
 | .evenly=>rfl
 | .losses=>rfl
 | .halves=>rfl
 | .other r=>by have:=Uh r;simp only [Rl.size,nd];omega
 | .ranks r=>by have:=Uh r;simp only [Rl.size,nd];omega
 | .groups a b=>by have:=Uh a;have:=Uh b;simp only [Rl.size,nd];omega
 | .upto _ _ x y=>by have:=Uh x;have:=Uh y;simp only [Rl.size,nd];omega
def JOk.of (h:PS6 r) (hn:nd r<=6):JOk t 0 (nd r) r:=
 ⟨h,fD r,by have:=(fF (t:=t) h).2.2 hn;omega,fE r,(cv r).1,(cv r).2,by have:=Uh r;omega⟩
def JOk.join (hp:Vb p b) (q:UO b<=6) (m:JOk t 0 M x) (g:JOk t k N y):JOk t (k+1) (M+N) (.upto p b x y):=by
 have a:=m.den;have c:=g.den;have a2:=m.len;have z:=g.len;have a3:=m.dep;have w:=g.dep;have a4:=m.deep;have u:=g.deep;have A:=m.pos;have s:=g.pos;have a6:=m.size;have r:=g.size;exact ⟨⟨⟨hp,q⟩,m.ps,g.ps⟩,⋯,by simp only [Xh];omega,by simp only [WQ];omega,by simp only [Vz];omega,by simp only [Rl.deep];omega,by simp only [Rl.size];omega⟩
def JOk.ru (h:JOk t k N r) (ht:t<=36) (g:k<=6) (m:N<=7):RuS t r/\Vz r<=12/\r.deep<=7:=by
 have a:=h.den;have b:=h.len;have c:=h.dep;have d:=h.deep;exact ⟨⟨h.ps.pok,⋯,⋯,⋯⟩,⋯,⋯⟩
def Hz (h0:0<b) (h:b<=61):UO b<=6:=by
 unfold UO
 have:b.toNat.log2<=5:=by
  by_cases z:b.toNat=0
  ·rw [z];decide
  ·have:=(Nat.log2_lt z (k:=6)).mpr ⋯;omega
 omega
def Small.ps (h:Small t b):Vb t b/\UO b<=6:=⟨h.port,Hz (by have:=h.port.2.1;have:=h.port.2.2.1;omega) h.le⟩
def CV (n:Nat):PS6 (gn n)/\nd (gn n)=1:=by
 match n with
 |0=>exact ⟨trivial,rfl⟩
 |1=>exact ⟨trivial,rfl⟩
 |2=>exact ⟨trivial,rfl⟩
 |n+3=>exact ⟨trivial,rfl⟩
noncomputable def ndS (rs:List Rl):Nat:=(rs.map nd).sum
def Ye (rs:List Rl) (r:Rl):ndS (rs++[r])=ndS rs+nd r:=by unfold ndS;rw [QM,List.sum_append];rfl
theorem WM:∀rs:List Rl,rs.length<=ndS rs
 |[]=>Qu _
 |r::rs=>by
  have:=WM rs;have:=fD r;unfold ndS at*;rw [Ql,QL,Qy];omega
def Drn (r:Rl):Prop:=∃k N,(∀t,JOk t k N r)/\k<=6/\N<=7
section
variable {B G0 H:Hp} {cs:yp} {ds:Dat} {Q:VK} {E:XK} {v w u:V} {K:Frg}
def qg:Sp:=λvs H Q _=>∃(G:Hp) (c:Int),vs=[.int c]/\zS G H/\∀v H' G' (n:Nat),Grow G H G' H'->Is G' (gn n).shape v->Q v H'
def EX (S:Sta B G0 H cs ds) (k:∀v H' (n:Nat),zS H H'->Sta B G0 H' cs (((gn n).shape,v)::ds)->Q v H'):qg [.int c] H Q E:=by
 obtain ⟨G,S⟩:=S;refine ⟨G,c,rfl,S.2.1,λv H' y n gr g=>k v H' n gr.h ?_⟩;obtain ⟨t,s,r,d',q,m,g'⟩:=S.grow gr;exact ⟨y,t,s,r,d',q,m,g'.cons g⟩
def Bh (S:Sta H G H' cs ds) (k:∀v H' g (n:Nat),Grow G H g H'->Is g (gn n).shape v->Q v H') (h:Has ds (gn n).shape v):Q v H':=by
 obtain ⟨g,gr,al⟩:=S.leave;exact k v H' g n gr (h g al)
end
def uc (xs:List PyData) (x:PyData):oN (xs++[x]) none (some (-1))=xs:=by
 have e:HT.sIx (xs++[x]).length (xs++[x]).length (some (-1))=xs.length:=by
  rw [QB,TX];unfold HT.sIx
  simp
  try omega
 unfold oN;rw [HT.sIx_none,e,List.drop_zero,Nat.sub_zero];exact List.take_left
def lX (xs:List PyData) (x y:PyData):oN (xs++[x,y]) none (some (-2))=xs:=by
 have e:HT.sIx (xs++[x,y]).length (xs++[x,y]).length (some (-2))=xs.length:=by
  rw [QB];unfold HT.sIx
  simp
  try omega
 unfold oN;rw [HT.sIx_none,e,List.drop_zero,Nat.sub_zero];exact List.take_left
section
variable {B G0 H:Hp} {cs:yp} {ds:Dat} {Q:VK} {E:XK} {v w u:V} {K:Frg}
end
def if2 {A X Y:Prop} (h:(if q=true then X else Y)->A) (m:p=true->q=true->X) (g:(p && q)=false->Y):if p=true then A else Y:=by
 cases p
 ·exact g rfl
 ·cases q
  ·exact h (g rfl)
  ·exact h (m rfl rfl)
def if3 {A m X Y:Prop} (h:(if q=true then m else Y)->A) (h':(if r=true then X else Y)->m) (s:p=true->q=true->r=true->X) (g:(p && (q && r))=false->Y):if p=true then A else Y:=by
 cases p
 ·exact g rfl
 ·cases q
  ·exact h (g rfl)
  ·exact h (h' (by
    cases r
    ·exact g rfl
    ·exact s rfl rfl rfl))
def NG:Rl->Prop
 | .other r=>NG r
 | .ranks r=>NG r
 | .groups _ _=>False
 | .upto _ _ x y=>NG x/\NG y
 |_=>True
section
variable {α:Type} {f g:α->Rat}
theorem DW:∀{Z:List α},(∀z∈Z,f z<=g z)->zA (Z.map f)<=zA (Z.map g)
 |[],_=>by simp [zA]
 |z::Z,h=>by
  have r:=h z (Qe ..);have q:=DW (Z:=Z) λx m=>h x (Qf _ m);rw [Ql,Ql,zA,zA]
  grind
theorem Zu:∀{Z:List α},(∀z∈Z,f z<=g z)->zA (Z.map f)=zA (Z.map g)->∀z∈Z,f z=g z
 |[],_,_,z,hz=>absurd hz Qp
 |y::Z,h,e,z,hz=>by
  have r:=h y (Qe ..);have q:=DW (Z:=Z) (f:=f) (g:=g) λx m=>h x (Qf _ m);rw [Ql,Ql,zA,zA] at e
  rcases Qn.mp hz with rfl|hz
  ·grind
  ·exact Zu (Z:=Z) (λx m=>h x (Qf _ m)) (by grind) z hz
theorem Xp:∀{Z:List α},(∀z∈Z,f z=g z)->zA (Z.map f)=zA (Z.map g)
 |[],_=>rfl
 |z::Z,h=>by
  rw [Ql,Ql,zA,zA,h z (Qe ..),Xp (Z:=Z) λx m=>h x (Qf _ m)]
theorem DV (c:Rat):∀{Z:List α},zA (Z.map λz=>f z*c)=zA (Z.map f)*c
 |[]=>by simp [zA]
 |z::Z=>by rw [Ql,Ql,zA,zA,DV c (Z:=Z)];grind
theorem smsu:∀{Z:List α},zA (Z.map λz=>f z - g z)=zA (Z.map f) - zA (Z.map g)
 |[]=>by show (0:Rat)=0 - 0;grind
 |z::Z=>by rw [Ql,Ql,Ql,zA,zA,zA,smsu (Z:=Z)];grind
theorem smsp (p:α->Bool):∀{Z:List α},zA (Z.map f)=zA ((Z.filter p).map f)+zA ((Z.filter λz=>!p z).map f)
 |[]=>by show (0:Rat)=0+0;grind
 |z::Z=>by
  have m:=smsp p (Z:=Z)
  cases e:p z with
  |true=>
   rw [List.filter_cons_of_pos ‹e›,List.filter_cons_of_neg (by simp [e]),Ql,Ql,zA,zA,m]
   grind
  |false=>
   rw [List.filter_cons_of_neg (by simp [e]),List.filter_cons_of_pos (by simp [e]),Ql,Ql,zA,zA,m]
   grind
end
def InQ.sub (h:InQ L) (s:M.Sublist L):InQ M:=λx g=>h x (s.subset g)
def mF (L:List Row):Prop:=∀x∈L,x.part=0/\0<=x.am
def DU (L:List Row):Prop:=∀x∈L,x.part=x.am/\0<=x.am
def mF.sum (h:mF L):Xm L=0:=by
 unfold Xm;rw [Xp (g:=λ_=>0*0) λx m=>by rw [(h x m).1];grind,DV]
 grind
def DU.sum (h:DU L):Xm L=Xn L:=by
 unfold Xm Xn;exact Xp λx g=>(h x g).1
def Av (h:∀x∈L,0<=x.am):0<=Xn L:=by
 have:=DW (Z:=L) (f:=λ_=>0*0) (g:=(·.am)) λx m=>by have:=h x m;grind
 rw [DV] at this;unfold Xn
 grind
def xO.none (h:mF L):xO L:=⟨λx g=>by have:=h x g;grind,λx g _ y m=>by have:=h x g;have:=h y m;grind⟩
def xO.full (h:DU L):xO L:=⟨λx g=>by have:=h x g;grind,λx g lt=>by have:=h x g;grind⟩
def mF.flip (h:mF L):DU (L.map Row.flip):=λx m=>by
 obtain ⟨y,g,rfl⟩:=Qj.mp m;have:=h y g;exact ⟨by show y.am - y.part=y.am;grind,this.2⟩
def DU.flip (h:DU L):mF (L.map Row.flip):=λx m=>by
 obtain ⟨y,g,rfl⟩:=Qj.mp m;have:=h y g;exact ⟨by show y.am - y.part=0;grind,this.2⟩
def mU (p0:0<=p) (q:∀L,mF L->X L) (h:mF L):YC p X Y L:=by
 unfold YC;rw [QH (by rw [h.sum];exact QT (Av λx g=>(h x g).2) p0)];refine q _ λx g=>?_;obtain ⟨y,m,rfl⟩:=Qj.mp g;exact ⟨(h y m).1,QT (h y m).2 p0⟩
def su (p0:0<=p) (w:p<1) (s:∀L,DU L->X L) (r:∀L,DU L->Y L) (h:DU L):YC p X Y L:=by
 have an:∀x∈L,0<=x.am:=λx m=>(h x m).2;have sn:=Av an;unfold YC;rw [h.sum]
 split
 ·next c=>
  have z:Xn L=0:=by
   by_cases z:Xn L=0
   ·exact z
   ·have:=jbu (show 0<Xn L by grind) (show 0<1 - p by grind)
    grind
  have u:∀x∈L,(0:Rat)=x.am:=λx m=>by
   refine Zu (Z:=L) (f:=λ_=>(0:Rat)) (g:=(·.am)) (λx m=>an x m) ?_ x m;have e:=DV (f:=λ_:Row=>(0:Rat)) 0 (Z:=L)
   have t:zA (L.map λ_:Row=>(0:Rat))=0:=by
    rw [<-show (λ_:Row=>(0:Rat)*0)=λ_=>0 by funext x;grind,e];grind
   rw [t];exact z.symm
  refine s _ λx m=>?_;obtain ⟨y,q,rfl⟩:=Qj.mp m;have a:=u y q;have b:=(h y q).1;exact ⟨by show y.part=y.am*p;rw [b,<-a];grind,by show 0<=y.am*p;rw [<-a];grind⟩
 ·refine r _ λx m=>?_;obtain ⟨y,q,rfl⟩:=Qj.mp m;have b:=h y q;exact ⟨by show y.part - y.am*p=y.am*(1 - p);grind,QT b.2 (by grind)⟩
def tf (h:Vb t b):0<=Rat.divInt t b/\Rat.divInt t b<1:=⟨QF (Ue h).1,(Ue h).2⟩
theorem WU:∀{r:Rl},NG r->POk r->(∀L,mF L->xh r L)/\∀L,DU L->xh r L
 | .shares,_,_=>⟨λL h=>⟨(xO.none h).1,λx g=>by rw [h.sum,(h x g).1];grind⟩,λL h=>⟨(xO.full h).1,λx g=>by rw [h.sum,(h x g).1]⟩⟩
 | .evenly,_,_=>⟨λL h=>⟨(xO.none h).1, .none h⟩,λL h=>⟨(xO.full h).1, .full h⟩⟩
 | .losses,_,_=>⟨λL h=>⟨(xO.none h).1, .full h.flip⟩,λL h=>⟨(xO.full h).1, .none h.flip⟩⟩
 | .halves,_,_=>⟨λL h=>⟨(xO.none h).1,mU (by grind) (λL z=>⟨(xO.none z).1, .none z⟩) h⟩,λL h=>⟨(xO.full h).1,su (by grind) (by grind) (λL z=>⟨(xO.full z).1, .full z⟩) (λL z=>⟨(xO.full z).1, .none z.flip⟩) h⟩⟩
 | .other r,n,p=>by
   obtain ⟨a,b⟩:=WU (r:=r) n p;exact ⟨λL h=>⟨(xO.none h).1,b _ h.flip⟩,λL h=>⟨(xO.full h).1,a _ h.flip⟩⟩
 | .ranks r,n,p=>by
   obtain ⟨a,b⟩:=WU (r:=r) n p
   exact ⟨λL h=>⟨(xO.none h).1,λk=>a _ λx g=>h x (QU.mp g).1,λx g y q _ pos=>by have:=h y q;grind⟩,
    λL h=>⟨(xO.full h).1,λk=>b _ λx g=>h x (QU.mp g).1,λx g _ _ _ _=>(h x g).1⟩⟩
 | .groups _ _,n,_=>absurd n id
 | .upto t b x y,n,p=>by
   obtain ⟨a,b⟩:=WU (r:=x) n.1 p.2.1;obtain ⟨c,d⟩:=WU (r:=y) n.2 p.2.2;obtain ⟨p0,m⟩:=tf p.1;exact ⟨λL h=>⟨(xO.none h).1,mU p0 a h⟩,λL h=>⟨(xO.full h).1,su p0 m b d h⟩⟩
def xO.sub (h:xO L) (s:M.Sublist L):xO M:=⟨h.1.sub s,λx m lt y g=>h.2 x (s.subset m) lt y (s.subset g)⟩
def bP.sub (i:InQ L) (h:bP L) (s:M.Sublist L):bP M:=λx r=>by
 have an:∀x∈L,0<=x.am:=λx r=>by have:=i x r;grind
 by_cases z:Xn L=0
 ·have u:∀y∈L,y.am=0/\y.part=0:=λy m=>by
   have t:zA (L.map λ_:Row=>(0:Rat))=0:=by
    rw [<-show (λ_:Row=>(0:Rat)*0)=λ_=>0 by funext x;grind,DV];grind
   have:=Zu (Z:=L) (f:=λ_=>(0:Rat)) (g:=(·.am)) (λx r=>an x r) (by rw [t];exact z.symm) y m;have:=i y m
   grind
  have:=u x (s.subset r);rw [this.1,this.2];grind
 ·have q:∀y∈L,y.part=y.am*(Xm L / Xn L):=λy m=>by
   have e:=h y m;rw [jah,<-Rat.mul_assoc,<-e,Rat.mul_assoc,TB _ z,Rat.mul_one]
  have e:Xm M=Xn M*(Xm L / Xn L):=by
   unfold Xm Xn;rw [<-DV];exact Xp λy m=>q y (s.subset m)
  rw [e,q x (s.subset r)]
  grind
def sr (p0:0<=p) (t:∀L,X L->InQ L) (r:∀L,Y L->InQ L) (w:∀L M,X L->M.Sublist L->X M) (u:∀L M,Y L->M.Sublist L->Y M) (z:∀L,DU L->X L) (i:InQ L) (h:YC p X Y L) (s:M.Sublist L):YC p X Y M:=by
 unfold YC at h⊢
 split at h
 ·have b:=t _ h
  have c:Xm M<=Xn M*p:=by
   unfold Xm Xn;rw [<-DV];exact DW λx m=>(b (x.first p) (Qj.mpr ⟨x,s.subset m,rfl⟩)).2
  rw [QH c];exact w _ _ h (s.map _)
 ·have b:=r _ h
  have ge:∀x∈M,x.am*p<=x.part:=λx m=>by
   have:=(b (x.rest p) (Qj.mpr ⟨x,s.subset m,rfl⟩)).1;have e:(x.rest p).part=x.part - x.am*p:=rfl
   grind
  split
  ·next c=>
   have le:Xn M*p<=Xm M:=by
    unfold Xm Xn;rw [<-DV];exact DW ge
   have eq:=Zu (Z:=M) (f:=λx=>x.am*p) (g:=(·.part)) ge (by
    rw [DV];have:Xn M*p=Xm M:=by grind
    exact this)
   refine z _ λx m=>?_;obtain ⟨y,q,rfl⟩:=Qj.mp m;have a:=i y (s.subset q);exact ⟨(eq y q).symm,QT (by grind) p0⟩
  ·exact u _ _ h (s.map _)
theorem her:∀{r:Rl},NG r->POk r->∀{L M:List Row},xh r L->M.Sublist L->xh r M
 | .shares,_,_,L,M,h,s=>⟨h.1.sub s,h.2.sub h.1 s⟩
 | .evenly,_,_,L,M,h,s=>⟨h.1.sub s,h.2.sub s⟩
 | .losses,_,_,L,M,h,s=>⟨h.1.sub s,h.2.sub (s.map _)⟩
 | .halves,_,_,L,M,h,s=>⟨h.1.sub s,sr (by grind) (λ_ z=>z.1) (λ_ z=>z.1) (λ_ _ z s=>⟨z.1.sub s,z.2.sub s⟩) (λ_ _ z s=>⟨z.1.sub s,z.2.sub (s.map _)⟩) (λL z=>⟨(xO.full z).1, .full z⟩) h.1 h.2 s⟩
 | .other r,n,p,L,M,h,s=>⟨h.1.sub s,her (r:=r) n p h.2 (s.map _)⟩
 | .ranks r,n,p,L,M,h,s=>⟨h.1.sub s,λk=>her (r:=r) n p (h.2.1 k) (s.filter _),λx m y g=>h.2.2 x (s.subset m) y (s.subset g)⟩
 | .groups _ _,n,_,_,_,_,_=>absurd n id
 | .upto t b x y,n,p,L,M,h,s=>⟨h.1.sub s,sr (tf p.1).1 (λ_ z=>z.inQ) (λ_ z=>z.inQ) (λ_ _ z s=>her n.1 p.2.1 z s) (λ_ _ z s=>her n.2 p.2.2 z s) (WU n.1 p.2.1).2 h.1 h.2 s⟩
noncomputable def tw (z:Row×Rat):Row:={z.1 with part:=z.2}
section
variable {Z:List (Row×Rat)}
def gZ (h:z∈Z):z.1∈Z.map (·.1):=Qj.mpr ⟨z,h,rfl⟩
def ou (h:z∈Z):tw z∈Z.map tw:=Qj.mpr ⟨z,h,rfl⟩
def EE:Xm (Z.map (·.1))=zA (Z.map (·.1.part)):=by unfold Xm;rw [Qm];rfl
def ED:Xm (Z.map tw)=zA (Z.map (·.2)):=by unfold Xm;rw [Qm];rfl
def Aw:Xn (Z.map tw)=Xn (Z.map (·.1)):=by unfold Xn;rw [Qm,Qm];rfl
def ex_lt {α:Type} {f g:α->Rat} {Y:List α} (h:zA (Y.map f)<zA (Y.map g)):∃z∈Y,f z<g z:=
 Classical.byContradiction λn=>by
  have:=DW (f:=g) (g:=f) (Z:=Y) λz hz=>Tp.mp λl=>n ⟨z,hz,l⟩
  grind
def UQ (a:xO (Z.map (·.1))) (b:xO (Z.map tw)) (e:zA (Z.map (·.1.part))=zA (Z.map (·.2))):∀z∈Z,z.1.part=z.2:=by
 have up:∀z∈Z,z.1.part<z.2->∀y∈Z,y.1.part<=y.2:=λz hz lt y q=>by
  have w:=(b.1 _ (ou hz)).2;have a1:=a.2 z.1 (gZ hz) (by have:(tw z).part=z.2:=rfl;have:(tw z).am=z.1.am:=rfl;grind) y.1 (gZ q);have a2:=(a.1 y.1 (gZ q)).2;have u:=(b.1 _ (ou q)).2
  by_cases c:y.2<y.1.am
  ·have:=b.2 (tw y) (ou q) c (tw z) (ou hz);have s:(tw y).part=y.2:=rfl;have r:(tw z).part=z.2:=rfl
   grind
  ·grind
 have t:∀z∈Z,z.2<z.1.part->∀y∈Z,y.2<=y.1.part:=λz hz lt y q=>by
  have w:=(a.1 _ (gZ hz)).2;have a1:=b.2 (tw z) (ou hz) (by have:(tw z).part=z.2:=rfl;have:(tw z).am=z.1.am:=rfl;grind) (tw y) (ou q);have s:(tw y).part=y.2:=rfl;have r:(tw z).part=z.2:=rfl;have a2:=(a.1 y.1 (gZ q)).2;have u:y.2<=y.1.am:=(b.1 _ (ou q)).2
  by_cases c:y.1.part<y.1.am
  ·have:=a.2 y.1 (gZ q) c z.1 (gZ hz)
   grind
  ·grind
 intro z hz
 by_cases l:z.1.part<z.2
 ·exact Zu (f:=λz:Row×Rat=>z.1.part) (g:=λz=>z.2) (up z hz l) e z hz
 ·by_cases m:z.2<z.1.part
  ·exact (Zu (f:=λz:Row×Rat=>z.2) (g:=λz=>z.1.part) (t z hz m) e.symm z hz).symm
  ·grind
noncomputable def flZ (z:Row×Rat):Row×Rat:=(z.1.flip,z.1.am - z.2)
def fiZ (p:Rat) (z:Row×Rat):Row×Rat:=(z.1.first p,z.2)
noncomputable def reZ (p:Rat) (z:Row×Rat):Row×Rat:=(z.1.rest p,z.2 - z.1.am*p)
def fl1:(Z.map (·.1)).map Row.flip=(Z.map flZ).map (·.1):=by rw [Qm,Qm];rfl
def fl2:(Z.map tw).map Row.flip=(Z.map flZ).map tw:=by rw [Qm,Qm];rfl
def fi1:(Z.map (·.1)).map (Row.first p)=(Z.map (fiZ p)).map (·.1):=by rw [Qm,Qm];rfl
def fi2:(Z.map tw).map (Row.first p)=(Z.map (fiZ p)).map tw:=by rw [Qm,Qm];rfl
def re1:(Z.map (·.1)).map (Row.rest p)=(Z.map (reZ p)).map (·.1):=by rw [Qm,Qm];rfl
def re2:(Z.map tw).map (Row.rest p)=(Z.map (reZ p)).map tw:=by rw [Qm,Qm];rfl
def CY (e:zA (Z.map (·.1.part))=zA (Z.map (·.2))):zA ((Z.map flZ).map (·.1.part))=zA ((Z.map flZ).map (·.2)):=by
 rw [Qm,Qm];show zA (Z.map λz=>z.1.am - z.1.part)=zA (Z.map λz=>z.1.am - z.2);rw [smsu (f:=λz:Row×Rat=>z.1.am) (g:=λz=>z.1.part),smsu (f:=λz:Row×Rat=>z.1.am) (g:=λz=>z.2),e]
def CZ (h:∀z∈Z.map flZ,z.1.part=z.2):∀z∈Z,z.1.part=z.2:=λz hz=>by
 have e:z.1.am - z.1.part=z.1.am - z.2:=h (flZ z) (Qj.mpr ⟨z,hz,rfl⟩)
 grind
def mT (r:∀Z:List (Row×Rat),X (Z.map (·.1))->X (Z.map tw)->zA (Z.map (·.1.part))=zA (Z.map (·.2))->∀z∈Z,z.1.part=z.2) (m:∀Z:List (Row×Rat),Y (Z.map (·.1))->Y (Z.map tw)->zA (Z.map (·.1.part))=zA (Z.map (·.2))->∀z∈Z,z.1.part=z.2)
 (a:YC p X Y (Z.map (·.1))) (b:YC p X Y (Z.map tw)) (e:zA (Z.map (·.1.part))=zA (Z.map (·.2))):∀z∈Z,z.1.part=z.2:=by
 unfold YC at a b;rw [Aw,ED,<-e] at b;rw [EE] at a
 split at a
 ·next c=>
  rw [QH c] at b;rw [fi1] at a;rw [fi2] at b;intro z hz;exact r _ a b (by rw [Qm,Qm];exact e) (fiZ p z) (Qj.mpr ⟨z,hz,rfl⟩)
 ·next c=>
  rw [QP c] at b;rw [re1] at a;rw [re2] at b;intro z hz
  have q:z.1.part - z.1.am*p=z.2 - z.1.am*p:=m _ a b (by
   rw [Qm,Qm];show zA (Z.map λz=>z.1.part - z.1.am*p)=zA (Z.map λz=>z.2 - z.1.am*p)
   rw [smsu (f:=λz:Row×Rat=>z.1.part) (g:=λz=>z.1.am*p),smsu (f:=λz:Row×Rat=>z.2) (g:=λz=>z.1.am*p),e]) (reZ p z) (Qj.mpr ⟨z,hz,rfl⟩)
  grind
def qi (i:InQ (Z.map (·.1))) (j:InQ (Z.map tw)) (a:bP (Z.map (·.1))) (b:bP (Z.map tw)) (e:zA (Z.map (·.1.part))=zA (Z.map (·.2))):∀z∈Z,z.1.part=z.2:=λz hz=>by
 have p:=a z.1 (gZ hz);have q:z.2*Xn (Z.map tw)=z.1.am*Xm (Z.map tw):=b (tw z) (ou hz);rw [Aw,ED,<-e,<-EE,<-p] at q
 by_cases s:Xn (Z.map (·.1))=0
 ·have w:z.1.am=0:=by
   have r:zA ((Z.map (·.1)).map λ_:Row=>(0:Rat))=0:=by
    rw [<-show (λ_:Row=>(0:Rat)*0)=λ_=>0 by funext x;grind,DV];grind
   exact (Zu (Z:=Z.map (·.1)) (f:=λ_=>(0:Rat)) (g:=(·.am)) (λx m=>by have:=i x m;grind) (by rw [r];exact s.symm) z.1 (gZ hz)).symm
  have u:=i z.1 (gZ hz);have t:0<=z.2/\z.2<=z.1.am:=j (tw z) (ou hz)
  grind
 ·have:=congrArg (·*(Xn (Z.map (·.1)))⁻¹) q;simp only [Rat.mul_assoc,TB _ s,Rat.mul_one] at this;exact this.symm
def Fc (i:InQ (Z.map (·.1))) (j:InQ (Z.map tw)) (a:∀x∈Z.map (·.1),∀y∈Z.map (·.1),x.rank<y.rank->0<y.part->x.part=x.am) (b:∀x∈Z.map tw,∀y∈Z.map tw,x.rank<y.rank->0<y.part->x.part=x.am)
 (e:zA (Z.map (·.1.part))=zA (Z.map (·.2))) (k:Int):zA ((Z.filter (·.1.rank=k)).map (·.1.part))=zA ((Z.filter (·.1.rank=k)).map (·.2)):=by
 have s1:=smsp (f:=λz:Row×Rat=>z.1.part) (λz=>decide (z.1.rank=k)) (Z:=Z);have s2:=smsp (f:=λz:Row×Rat=>z.2) (λz=>decide (z.1.rank=k)) (Z:=Z)
 have mm:∀{z:Row×Rat},z∈Z.filter (λz=>decide (z.1.rank=k))->z∈Z/\z.1.rank=k:=λ{z} h=>by
  have:=QU.mp h;exact ⟨this.1,by simpa using this.2⟩
 have mn:∀{z:Row×Rat},z∈Z.filter (λz=>!decide (z.1.rank=k))->z∈Z/\z.1.rank≠k:=λ{z} h=>by
  have:=QU.mp h;exact ⟨this.1,by simpa using this.2⟩
 by_cases l:zA ((Z.filter λz=>decide (z.1.rank=k)).map (·.1.part))<zA ((Z.filter λz=>decide (z.1.rank=k)).map (·.2))
 ·obtain ⟨x,r,t⟩:=ex_lt l;obtain ⟨r,u⟩:=mm r;have A:0<=x.2/\x.2<=x.1.am:=j (tw x) (ou r);have D:=i x.1 (gZ r)
  have le:=DW (f:=λz:Row×Rat=>z.1.part) (g:=λz=>z.2) (Z:=Z.filter λz=>!decide (z.1.rank=k)) λz hz=>by
   obtain ⟨hz,s⟩:=mn hz;have C:=i z.1 (gZ hz);have w:0<=z.2/\z.2<=z.1.am:=j (tw z) (ou hz)
   rcases Int.lt_or_gt_of_ne s with c|c
   ·have q:z.2=z.1.am:=b (tw z) (ou hz) (tw x) (ou r) (by show z.1.rank<x.1.rank;omega) (by show 0<x.2;grind)
    grind
   ·by_cases pz:0<z.1.part
    ·have:=a x.1 (gZ r) z.1 (gZ hz) ⋯ pz
     grind
    ·grind
  grind
 ·by_cases m:zA ((Z.filter λz=>decide (z.1.rank=k)).map (·.2))<zA ((Z.filter λz=>decide (z.1.rank=k)).map (·.1.part))
  ·obtain ⟨x,r,t⟩:=ex_lt m;obtain ⟨r,u⟩:=mm r;have A:0<=x.2/\x.2<=x.1.am:=j (tw x) (ou r);have D:=i x.1 (gZ r)
   have le:=DW (f:=λz:Row×Rat=>z.2) (g:=λz=>z.1.part) (Z:=Z.filter λz=>!decide (z.1.rank=k)) λz hz=>by
    obtain ⟨hz,s⟩:=mn hz;have C:=i z.1 (gZ hz);have w:0<=z.2/\z.2<=z.1.am:=j (tw z) (ou hz)
    rcases Int.lt_or_gt_of_ne s with c|c
    ·have q:=a z.1 (gZ hz) x.1 (gZ r) ⋯ (by grind)
     grind
    ·by_cases pz:0<z.2
     ·have q:x.2=x.1.am:=b (tw x) (ou r) (tw z) (ou hz) (by show x.1.rank<z.1.rank;omega) pz
      grind
     ·grind
   grind
  ·grind
end
def Gw {Z:List (Row×Rat)} (k:Int):(Z.map (·.1)).filter (·.rank=k)=(Z.filter (·.1.rank=k)).map (·.1):=by rw [List.filter_map];rfl
def Gv {Z:List (Row×Rat)} (k:Int):(Z.map tw).filter (·.rank=k)=(Z.filter (·.1.rank=k)).map tw:=by rw [List.filter_map];rfl
theorem smad {α:Type} {f g:α->Rat}:∀{Z:List α},zA (Z.map λz=>f z+g z)=zA (Z.map f)+zA (Z.map g)
 |[]=>by show (0:Rat)=0+0;grind
 |z::Z=>by rw [Ql,Ql,Ql,zA,zA,zA,smad (Z:=Z)];grind
theorem sm0 {α:Type} {f:α->Rat}:∀{Z:List α},(∀z∈Z,f z=0)->zA (Z.map f)=0
 |[],_=>rfl
 |z::Z,h=>by rw [Ql,zA,h z (Qe ..),sm0 (Z:=Z) λx g=>h x (Qf _ g)];grind
theorem Ar {k:Int} {x:Rat}:∀{m:List Int},m.Pairwise (·<·)->k∈m->zA (m.map λg=>if k=g then x else 0)=x
 |[],_,h=>absurd h Qp
 |g::m,hp,h=>by
  rw [Qo] at hp;rw [Ql,zA]
  rcases Qn.mp h with rfl|h
  ·rw [QH rfl,sm0 λz hz=>QP (by have:=hp.1 z hz;omega)]
   grind
  ·rw [QP (by have:=hp.1 k h;omega),Ar hp.2 h]
   grind
theorem dO {α:Type} (key:α->Int) (w:α->Rat) {m:List Int} (q:m.Pairwise (·<·)):∀l:List α,(∀c∈l,key c∈m)->zA (m.map λg=>zA ((l.filter λc=>decide (key c=g)).map w))=zA (l.map w)
 |[],_=>sm0 λz _=>rfl
 |c::l,h=>by
  rw [Ql,zA,<-dO key w q l λx r=>h x (Qf _ r),<-Ar (x:=w c) q (h c (Qe ..)),<-smad];refine Xp λg _=>?_
  by_cases e:key c=g
  ·rw [List.filter_cons_of_pos ‹e›,Ql,zA,QH e]
  ·rw [List.filter_cons_of_neg ‹e›,QP e];grind
def fgr1 {Z:List (Row×Rat)} (k:Int):(Z.map (·.1)).filter (·.group=k)=(Z.filter (·.1.group=k)).map (·.1):=by rw [List.filter_map];rfl
def fgr2 {Z:List (Row×Rat)} (k:Int):(Z.map tw).filter (·.group=k)=(Z.filter (·.1.group=k)).map tw:=by rw [List.filter_map];rfl
def qY {A B:List Row->Prop} (G:∀Z:List (Row×Rat),A (Z.map (·.1))->A (Z.map tw)->zA (Z.map (·.1.part))=zA (Z.map (·.2))->∀z∈Z,z.1.part=z.2) (D:∀Z:List (Row×Rat),B (Z.map (·.1))->B (Z.map tw)->zA (Z.map (·.1.part))=zA (Z.map (·.2))->∀z∈Z,z.1.part=z.2)
 {Z:List (Row×Rat)} (a1:∀g,B ((Z.map (·.1)).filter (·.group=g))) (a2:∀g,B ((Z.map tw).filter (·.group=g))) (w:A (Um (Z.map (·.1)))) (t:A (Um (Z.map tw))) (e:zA (Z.map (·.1.part))=zA (Z.map (·.2))):∀z∈Z,z.1.part=z.2:=by
 have I:xN (Z.map tw)=xN (Z.map (·.1)):=Zi (xQ _).1 (xQ _).1 λk=>by rw [(xQ _).2,(xQ _).2,Qm,Qm];exact Iff.rfl
 have m:=xQ (Z.map (·.1))
 have K:Um (Z.map (·.1))=((xN (Z.map (·.1))).map λg=>((⟨Xn ((Z.map (·.1)).filter (·.group=g)),jo (((Z.map (·.1)).filter (·.group=g)).map (·.rank)),g,Xm ((Z.map (·.1)).filter (·.group=g))⟩:Row),Xm ((Z.map tw).filter (·.group=g)))).map (·.1):=by
  rw [Qm];rfl
 have J:Um (Z.map tw)=((xN (Z.map (·.1))).map λg=>((⟨Xn ((Z.map (·.1)).filter (·.group=g)),jo (((Z.map (·.1)).filter (·.group=g)).map (·.rank)),g,Xm ((Z.map (·.1)).filter (·.group=g))⟩:Row),Xm ((Z.map tw).filter (·.group=g)))).map tw:=by
  unfold Um;rw [I,Qm];refine QG λg _=>?_;show (⟨Xn ((Z.map tw).filter (·.group=g)),jo (((Z.map tw).filter (·.group=g)).map (·.rank)),g,Xm ((Z.map tw).filter (·.group=g))⟩:Row)=⟨Xn ((Z.map (·.1)).filter (·.group=g)),jo (((Z.map (·.1)).filter (·.group=g)).map (·.rank)),g,Xm ((Z.map tw).filter (·.group=g))⟩;rw [fgr1,fgr2,Aw,Qm,Qm];rfl
 have mem:∀z∈Z,z.1.group∈xN (Z.map (·.1)):=λz hz=>(m.2 _).mpr (Qj.mpr ⟨z.1,gZ hz,rfl⟩);have C:=dO (λz:Row×Rat=>z.1.group) (λz=>z.1.part) m.1 Z mem;have y:=dO (λz:Row×Rat=>z.1.group) (λz=>z.2) m.1 Z mem;rw [K] at w;rw [J] at t
 have u:=G _ w t (by
  rw [Qm,Qm];show zA ((xN (Z.map (·.1))).map λg=>Xm ((Z.map (·.1)).filter (·.group=g)))=zA ((xN (Z.map (·.1))).map λg=>Xm ((Z.map tw).filter (·.group=g)));simp only [fgr1,fgr2,EE,ED]
  rw [C,y,e])
 intro z hz;have q:=u _ (Qj.mpr ⟨z.1.group,mem z hz,rfl⟩);have q:Xm ((Z.map (·.1)).filter (·.group=z.1.group))=Xm ((Z.map tw).filter (·.group=z.1.group)):=q;have s:=a1 z.1.group;have r:=a2 z.1.group;rw [fgr1] at s q;rw [fgr2] at r q;rw [EE,ED] at q;exact D _ s r q z (QU.mpr ⟨hz,by simp⟩)
theorem Ii:∀{r:Rl} {Z:List (Row×Rat)},xh r (Z.map (·.1))->xh r (Z.map tw)->zA (Z.map (·.1.part))=zA (Z.map (·.2))->∀z∈Z,z.1.part=z.2
 | .shares,Z,a,b,e=>qi a.1 b.1 a.2 b.2 e
 | .evenly,Z,a,b,e=>UQ a.2 b.2 e
 | .losses,Z,a,b,e=>CZ (UQ (by have:=a.2;rwa [fl1] at this) (by have:=b.2;rwa [fl2] at this) (CY e))
 | .halves,Z,a,b,e=>mT (λZ a b e=>UQ a.2 b.2 e) (λZ a b e=>CZ (UQ (by have:=a.2;rwa [fl1] at this) (by have:=b.2;rwa [fl2] at this) (CY e))) a.2 b.2 e
 | .other r,Z,a,b,e=>CZ (Ii (r:=r) (by have:=a.2;rwa [fl1] at this) (by have:=b.2;rwa [fl2] at this) (CY e))
 | .ranks r,Z,a,b,e=>λz hz=>by
   have m:=a.2.1 z.1.rank;have g:=b.2.1 z.1.rank;rw [Gw] at m;rw [Gv] at g;exact Ii (r:=r) m g (Fc a.1 b.1 a.2.2 b.2.2 e z.1.rank) z (QU.mpr ⟨hz,by simp⟩)
 | .groups x y,Z,a,b,e=>qY (λZ a b e=>Ii (r:=x) a b e) (λZ a b e=>Ii (r:=y) a b e) a.2.1 b.2.1 a.2.2 b.2.2 e
 | .upto _ _ x y,Z,a,b,e=>mT (λZ a b e=>Ii (r:=x) a b e) (λZ a b e=>Ii (r:=y) a b e) a.2 b.2 e
def zipZ (l:List Cl) (v w:List Rat):List (Row×Rat):=(zC l v).zip w
theorem zip1:∀{l:List Cl} {v w:List Rat},v.length=l.length->w.length=l.length->(zipZ l v w).map (·.1)=zC l v/\(zipZ l v w).map tw=zC l w/\(zipZ l v w).map (·.1.part)=v/\(zipZ l v w).map (·.2)=w
 |[],[],[],_,_=>⟨rfl,rfl,rfl,rfl⟩
 |c::l,x::v,y::w,h1,h2=>by
  obtain ⟨a,b,d,e⟩:=zip1 (l:=l) (v:=v) (w:=w) (Nat.succ.inj h1) (Nat.succ.inj h2);refine ⟨congrArg (xC c x::·) a,congrArg (xC c y::·) b,congrArg (x::·) d,congrArg (y::·) e⟩
def JX {Z:List (Row×Rat)} (h:∀z∈Z,z.1.part=z.2):Z.map (·.1.part)=Z.map (·.2):=QG h
def Dc {r:Rl} {l:List Cl} {v w:List Rat} (q:v.length=l.length) (hw:w.length=l.length) (a:xh r (zC l v)) (b:xh r (zC l w)) (e:zA v=zA w):v=w:=by
 obtain ⟨z1,z2,m,g⟩:=zip1 q hw;rw [<-z1] at a;rw [<-z2] at b;have:=JX (Ii a b (by rw [m,g];exact e));rwa [m,g] at this
def oC (p:Nat->Bool) (n:Nat):List Nat:=(List.range n).filter p
theorem si {α β γ δ:Type} (f:β->γ->δ) (g:α->β) (h:α->γ):∀pl:List α,List.zipWith f (pl.map g) (pl.map h)=pl.map λi=>f (g i) (h i)
 |[]=>rfl
 |a::pl=>by rw [Ql,Ql,Ql,jab,si f g h pl]
def uY (g:v.length=l.length):zC l v=(List.range l.length).map λi=>xC (l.getD i (0,0,0)) (v.getD i 0):=by
 unfold zC;refine Tn λi=>?_;rw [Qt,Qh]
 by_cases h:i<l.length
 ·rw [List.getElem?_range h,Qb h,Qb ⋯];simp [Qk,Qb h,Qb (show i<v.length by omega)]
 ·rw [QD (l:=l) ⋯,QD (l:=List.range l.length) (by rw [jaN];omega)];rfl
def Bd (g:v.length=l.length) (p:Nat->Bool):(zC (zP (0,0,0) (oC p l.length) l) (zP 0 (oC p l.length) v)).Sublist (zC l v):=by
 rw [uY g];unfold zC zP;rw [si];exact (List.filter_sublist).map _
theorem mY:∀{l:List Cl} {v:List Rat},v.length=l.length->Xm (zC l v)=zA v
 |[],[],_=>rfl
 |c::l,x::v,h=>by
  have:=mY (l:=l) (v:=v) (Nat.succ.inj h);unfold Xm zC at*;rw [jab,Ql,zA,zA,this];rfl
def JD (q:v.length=l.length) (i:InQ (zC l v)):0<=zA v/\zA v<=zA (amQ l):=by
 have a:=DW (Z:=zC l v) (f:=(·.part)) (g:=(·.am)) λx m=>(i x m).2;have b:=DW (Z:=zC l v) (f:=λ_=>(0:Rat)) (g:=(·.part)) λx m=>(i x m).1;rw [sm0 λ_ _=>rfl] at b;have s:zA ((zC l v).map (·.part))=zA v:=mY q;have r:zA ((zC l v).map (·.am))=zA (amQ l):=Yr q;rw [s] at a b;rw [r] at a;exact ⟨b,a⟩
def AA (m:NG r) (po:POk r) (g:GF r l P) (p:Nat->Bool) (g':GF r (zP (0,0,0) (oC p l.length) l) P') (h0:0<=e):
 zg P' (zA (zP 0 (oC p l.length) (zg P e)))=zP 0 (oC p l.length) (zg P e):=by
 have q:(zg P e).length=l.length:=g.ful.std.len;have f:=her m po (g.good.fit e h0) (Bd q p);have lv:(zP 0 (oC p l.length) (zg P e)).length=(zP ((0:Int),(0:Int),(0:Int)) (oC p l.length) l).length:=by rw [yV,yV]
 obtain ⟨s0,s1⟩:=JD lv f.inQ;refine Dc (r:=r) (l:=zP (0,0,0) (oC p l.length) l) g'.ful.std.len lv (g'.good.fit _ s0) f ?_;rw [g'.ful.std.sum s0];unfold mn
 split
 ·rfl
 ·grind
def vN {a b N:Nat} (h:b<N) (g:N<=a):a≠b:=⋯
abbrev JZ (h:Heap) (z TI TO T:Addr) (f:Bool):Prop:=
 h.get? z=some {cls:= .type "zip",dict:=none,data:= .fields #[rawInt T, .bool f, .bool false, .ref TI, .ref TO],slots:=#[]}
section
variable {prog:Program} {w:World} {A:Around} {E:Value->Shared->Prop} {s:Shared}
def alive_ (g:s.heap.get? a=some o) (h:Q (some o) s):wpAny (model prog w) A (loadIfAlive a) Q E s:=by
 have h':Q (s.heap.get? a) s:=by rw [g];exact h
 exact λ_ _ _=>h'
def mM {z TI TO T:Addr} {f:Bool} {m:Obj} {Q:Bool->Shared->Prop} (q:s.heap.get? T=some m) (hz:JZ s.heap z TI TO T f)
 (g:∀h',JZ h' z TI TO T true->Heap.SameBut z s.heap h'->Q false {s with heap:=h'}):wpAny (model prog w) A (Builtin.SmallTypes.ownedTupleIsFree (.ref z)) Q E s:=by
 unfold Builtin.SmallTypes.ownedTupleIsFree;refine Qg (jam hz rfl (x:=rawInt T) rfl ?_);show wpAny _ _ (loadIfAlive ((T:Int).toNat)>>=_) _ _ _;rw [Tj];refine Qg (alive_ q ?_);simp only [Option.isNone_some,jaE,if_false];refine Qg (jam hz rfl (x:= .bool f) rfl ?_)
 cases f with
 |true=>
  rw [QP (show ¬((Value.bool true !=Value.bool true)=true) from QA)];exact Qq (g s.heap hz (Heap.SameBut.refl _ _))
 |false=>
  rw [QH (show (Value.bool false !=Value.bool true)=true from rfl)];refine Qg (jaU hz (by simp) λh₃ he₃ hs₃=>?_);exact Qq (g h₃ he₃ hs₃)
def Af {J I f:Bool} {z TI TO T m g r q:Addr} {u t:Nat} {xs ys:Array Value} {x y:Value} {K:Obj} {Q:Value->Shared->Prop} (D:ZipApart z TI TO m g r q) (N:s.heap.get? T=some K)
 (hz:JZ s.heap z TI TO T f) (P:IsPair s.heap TI (.ref m) (.ref g))
 (G:ItB J s.heap m r u) (C:ItB I s.heap g q t) (U:SeB J s.heap r xs) (X:SeB I s.heap q ys) (M:xs[u]? =some x) (L:ys[t]? =some y)
 (O:∀h',JZ h' z TI TO T true->ItB J h' m r (u+1)->ItB I h' g q (t+1)->IsPair h' s.heap.objs.size x y->h'.objs.size=s.heap.objs.size+1->
  (∀c o,c≠z->c≠m->c≠g->s.heap.get? c=some o->h'.get? c=some o)->Q (.ref s.heap.objs.size) {s with heap:=h'}):
 wpAny (model prog w) A (Builtin.«zip.__next__» ⟨[.ref z],[]⟩) (λfin s'=>∃v,fin= .done (.ret v)/\Q v s') E s:=by
 show wpAny _ _ (field (.ref z) 2>>=_) _ _ _;refine Qg (jam hz rfl (x:= .bool false) rfl ?_);show wpAny _ _ (field (.ref z) 3>>=_) _ _ _;refine Qg (jam hz rfl (x:= .ref TI) rfl ?_);refine Qg (jaC P rfl ?_);show wpAny _ _ (Builtin.SmallTypes.ownedTupleIsFree (.ref z)>>=_) _ _ _;refine Qg (mM N hz λh₁ hz₁ hs₁=>?_);simp only [jaE,if_false];refine Qg ?_;simp only [List.forIn_toArray,List.forIn_cons,List.forIn_nil];refine Qg (Qg (jaD ?_));show wpAny _ _ (Builtin.SmallTypes.nextOf (.ref m)>>=_) _ _ _;refine Qg (Yk (G.extBut hs₁.extBut D.i1z) (U.extBut hs₁.extBut D.l1z) M λh₂ G₂ hs₂=>Qq ?_);refine Qq (Qg (Qg (jaD ?_)));show wpAny _ _ (Builtin.SmallTypes.nextOf (.ref g)>>=_) _ _ _;refine Qg (Yk ((C.extBut hs₁.extBut D.i2z).extBut hs₂.extBut D.i12.symm) ((X.extBut hs₁.extBut D.l2z).extBut hs₂.extBut D.l2i1) L λh₃ C₃ hs₃=>Qq ?_);refine Qq (Qq ?_);refine Qg (wpAny_newTuple (hsz:=by show (2:Nat)<=sizeLine;rw [sizeLine_eq];omega) ?_);have hsz:h₃.objs.size=s.heap.objs.size:=by rw [hs₃.1,hs₂.1,hs₁.1]
 refine Qq ⟨_,rfl,?_⟩;show Q (.ref h₃.objs.size) _;rw [hsz];have up:∀c o,h₃.get? c=some o->(h₃.push {cls:= .type "tuple",data:= .seq #[x,y]}).get? c=some o:=λc o e=>Qi _ e
 refine O _ (up _ _ (hs₃.extBut _ _ D.i2z.symm (hs₂.extBut _ _ D.i1z.symm hz₁))) ((G₂.extBut hs₃.extBut D.i12).at λo e=>up _ o e) (C₃.at λo e=>up _ o e) ?_ (by rw [QV,hsz])
  λc o a1 a2 a3 e=>up _ _ (hs₃.extBut _ _ a3 (hs₂.extBut _ _ a2 (hs₁.extBut _ _ a1 e)))
 rw [<-hsz];exact Qw _ rfl
def Eo {u f:Bool} {z TI TO T g t m C:Addr} {r:Nat} {xs:Array Value} {y:Obj} {Q:Fin->Shared->Prop} (I:A.handled=none) (D:ZipApart z TI TO g t m C) (J:s.heap.get? T=some y)
 (hz:JZ s.heap z TI TO T f) (M:IsPair s.heap TI (.ref g) (.ref t))
 (L:ItB u s.heap g m r) (N:SeB u s.heap m xs) (G:xs[r]? =none)
 (K:∀h' e,(∀c o,c≠z->c≠g->s.heap.get? c=some o->h'.get? c=some o)->(∃o,h'.get? e=some o/\o.cls= .type "StopIteration")->E (.ref e) {s with heap:=h'}):
 wpAny (model prog w) A (Builtin.«zip.__next__» ⟨[.ref z],[]⟩) Q E s:=by
 show wpAny _ _ (field (.ref z) 2>>=_) _ _ _;refine Qg (jam hz rfl (x:= .bool false) rfl ?_);show wpAny _ _ (field (.ref z) 3>>=_) _ _ _;refine Qg (jam hz rfl (x:= .ref TI) rfl ?_);refine Qg (jaC M rfl ?_);show wpAny _ _ (Builtin.SmallTypes.ownedTupleIsFree (.ref z)>>=_) _ _ _;refine Qg (mM J hz λh₁ hz₁ hs₁=>?_);simp only [jaE,if_false];refine Qg ?_;simp only [List.forIn_toArray,List.forIn_cons,List.forIn_nil];refine Qg (Qg (jaD ?_));show wpAny _ _ (Builtin.SmallTypes.nextOf (.ref g)>>=_) _ _ _;exact Qg (WL I (L.extBut hs₁.extBut D.i1z) (N.extBut hs₁.extBut D.l1z) G λh₂ e hs₂ he=>K h₂ e (λc o a1 a2 q=>hs₂ _ _ a2 (hs₁.extBut _ _ a1 q)) he)
structure ZL (c1 c2:Bool) (N:Nat) (h:Heap) (z TI TO i1 i2 l1 l2:Addr) (xs ys:Array Value) (k:Nat):Prop where
 zip:(IsZip h z TI TO .none/\∃a b,IsPair h TO a b)\/∃T f o,JZ h z TI TO T f/\h.get? T=some o/\N<=T
 pair:IsPair h TI (.ref i1) (.ref i2)
 it1:ItB c1 h i1 l1 k
 it2:ItB c2 h i2 l2 k
 s1:SeB c1 h l1 xs
 s2:SeB c2 h l2 ys
 size:h.objs.size=N+k
 made:∀j x y,j<k->xs[j]? =some x->ys[j]? =some y->IsPair h (N+j) x y
def ZL.type {y u:Bool} {N:Nat} {z TI TO t r m g:Addr} {xs ys:Array Value} {k:Nat} (Z:ZL y u N s.heap z TI TO t r m g xs ys k):s.TypeIs (.ref z) "zip":=by
 rcases Z.zip with ⟨q,_⟩|⟨_,_,_,q,_⟩
 ·exact ⟨_,q,rfl⟩
 ·exact ⟨_,q,rfl⟩
def ZL.at {G D:Bool} {N:Nat} {h h':Heap} {z TI TO u t m g S:Addr} {xs ys:Array Value} {k:Nat} (Z:ZL G D N h z TI TO u t m g xs ys k) (e:∀a o,a≠S->h.get? a=some o->h'.get? a=some o)
 (sz:h'.objs.size=h.objs.size) (L:S∉[z,TI,TO,u,t,m,g]) (C:S<N):ZL G D N h' z TI TO u t m g xs ys k:=by
 have ne:∀a∈[z,TI,TO,u,t,m,g],a≠S:=λa ha q=>L (q▸ha);refine ⟨?_,e _ _ (ne _ (by simp)) Z.pair,Z.it1.at λo q=>e _ o (ne _ (by simp)) q,Z.it2.at λo q=>e _ o (ne _ (by simp)) q,Z.s1.at λo q=>e _ o (ne _ (by simp)) q,Z.s2.at λo q=>e _ o (ne _ (by simp)) q,sz.trans Z.size,λj x y K J I=>e _ _ (vN C (Nat.le_add_right _ _)) (Z.made j x y K J I)⟩
 rcases Z.zip with ⟨q,a,b,r⟩|⟨T,f,o,q,r,l⟩
 ·exact .inl ⟨e _ _ (ne _ (by simp)) q,a,b,e _ _ (ne _ (by simp)) r⟩
 ·exact .inr ⟨T,f,o,e _ _ (ne _ (by simp)) q,e _ _ (vN C l) r,l⟩
def Ic {L K:Bool} {N:Nat} {z TI TO r m u t:Addr} {xs ys:Array Value} {k:Nat} {Q:Option Value->Shared->Prop} (D:ZipApart z TI TO r m u t) (lt:∀a∈[z,TI,TO,r,m,u,t],a<N)
 (Z:ZL L K N s.heap z TI TO r m u t xs ys k) (hx:k<xs.size) (hy:k<ys.size)
 (hQ:∀h',ZL L K N h' z TI TO r m u t xs ys (k+1)->(∀c o,c≠z->c≠TO->c≠r->c≠m->s.heap.get? c=some o->h'.get? c=some o)->Q (some (.ref (N+k))) {s with heap:=h'}):
 wpAny (model prog w) A (pyNext (.ref z)) Q E s:=by
 have C:=Z.type;have ex:xs[k]? =some xs[k]:=by simp [hx]
 have J:ys[k]? =some ys[k]:=by simp [hy]
 have P:=lt z (by simp);have lTI:=lt TI (by simp);have I:=lt TO (by simp);have X:=lt r (by simp);have Y:=lt m (by simp);have sz:=Z.size;unfold pyNext
 have fin:∀h',(IsZip h' z TI TO .none/\(∃a b,IsPair h' TO a b)\/∃T f o,JZ h' z TI TO T f/\h'.get? T=some o/\N<=T)->ItB L h' r u (k+1)->ItB K h' m t (k+1)->IsPair h' s.heap.objs.size xs[k] ys[k]->h'.objs.size=s.heap.objs.size+1->
  (∀c o,c≠z->c≠TO->c≠r->c≠m->s.heap.get? c=some o->h'.get? c=some o)->Q (some (.ref s.heap.objs.size)) {s with heap:=h'}:=λh' z0 a1 a2 a3 a4 g=>by
  rw [sz];refine hQ h' ⟨z0,g _ _ D.TIz D.TITO D.TIi1 D.TIi2 Z.pair,a1,a2,Z.s1.at λo q=>g _ o D.l1z D.l1TO D.l1i1 D.l1i2 q,Z.s2.at λo q=>g _ o D.l2z D.l2TO D.l2i1 D.l2i2 q,by rw [a4,sz];omega,λj x y hj O M=>?_⟩ g
  by_cases e:j=k
  ·subst e;rw [ex] at O;rw [J] at M;cases O;cases M;rw [<-sz];exact a3
  ·exact g _ _ (vN P (Nat.le_add_right _ _)) (vN I (Nat.le_add_right _ _)) (vN X (Nat.le_add_right _ _)) (vN Y (Nat.le_add_right _ _)) (Z.made j x y ⋯ O M)
 rcases Z.zip with ⟨hz,a,b,LI⟩|⟨T,f,o,hz,U,l⟩
 ·refine Qg (jaQ (Te (name:=Str.ofString "__next__") C F.slot_zip_next (Ts F.slot_zip_next C F.entry_zip_next
   (mN D hz Z.pair LI Z.it1 Z.it2 Z.s1 Z.s2 ex J λh' a1 a2 a3 a4 G a6 g=>Qq ?_) (F.args_zip_next_1 _))))
  exact fin h' (.inr ⟨_,false,_,a1,G,⋯⟩) a3 a4 G a6 g
 ·refine Qg (jaQ (Te (name:=Str.ofString "__next__") C F.slot_zip_next (Ts F.slot_zip_next C F.entry_zip_next
   (Af D U hz Z.pair Z.it1 Z.it2 Z.s1 Z.s2 ex J λh' a1 a3 a4 G a6 g=>Qq ?_) (F.args_zip_next_1 _))))
  exact fin h' (.inr ⟨T,true,o,a1,g _ _ (vN P l) (vN X l) (vN Y l) U,l⟩) a3 a4 G a6 λc o b1 _ b3 b4 q=>g c o b1 b3 b4 q
def zl_end {M L:Bool} {N:Nat} {z TI TO r m G C:Addr} {xs ys:Array Value} {k:Nat} {Q:Option Value->Shared->Prop} (I:A.handled=none) (D:ZipApart z TI TO r m G C)
 (Z:ZL M L N s.heap z TI TO r m G C xs ys k) (K:xs.size<=k)
 (J:∀h',(∀c o,c≠z->c≠TO->c≠r->c≠m->s.heap.get? c=some o->h'.get? c=some o)->Q none {s with heap:=h'}):
 wpAny (model prog w) A (pyNext (.ref z)) Q E s:=by
 have g:=Z.type;have ex:xs[k]? =none:=by simp [K]
 unfold pyNext
 rcases Z.zip with ⟨hz,a,b,X⟩|⟨T,f,o,hz,U,l⟩
 ·refine Qg (jaQ (Te (name:=Str.ofString "__next__") g F.slot_zip_next (Ts F.slot_zip_next g F.entry_zip_next
   (sk (A:=A.in1) I D hz Z.pair X Z.it1 Z.it2 Z.s1 Z.s2 (.inl ex) λh' e u he=>?_) (F.args_zip_next_1 _))))
  obtain ⟨o,t,y⟩:=he;exact Qg (wpAny_isInstance (T:="StopIteration") (b:=true) ⟨o,t,y⟩ isSubtype_stop (Qq (J h' u)))
 ·refine Qg (jaQ (Te (name:=Str.ofString "__next__") g F.slot_zip_next (Ts F.slot_zip_next g F.entry_zip_next
   (Eo (A:=A.in1) I D U hz Z.pair Z.it1 Z.s1 ex λh' e u he=>?_) (F.args_zip_next_1 _))))
  obtain ⟨o,t,y⟩:=he;exact Qg (wpAny_isInstance (T:="StopIteration") (b:=true) ⟨o,t,y⟩ isSubtype_stop (Qq (J h' (λc o P _ O _ q=>u c o P O q))))
def FX {c1 c2:Bool} {R:Result->Shared->Prop} {N:Nat} {z TI TO r m G C S:Addr} {xs ys:Array Value} {res:Value} (hh:A.handled=none) (D:ZipApart z TI TO r m G C) (lt:∀a∈[z,TI,TO,r,m,G,C],a<N)
 (u:S∉[z,TI,TO,r,m,G,C]) (hN:S<N) (same:xs.size<=ys.size) (hn:xs.size<=sizeLine):
 ∀(k i:Nat) (s:Shared) (acc:Array Value) (c:Nat),xs.size - i=k->i<=xs.size->ZL c1 c2 N s.heap z TI TO r m G C xs ys i->s.heap.get? S=some {cls:= .type "list",dict:=none,data:= .seq acc c,slots:=#[]}->
 acc.toList=(List.range i).map (λj=>Value.ref (N+j))->
 (∀h' J T,(∀b o,b∉[S,z,TO,r,m]->s.heap.get? b=some o->h'.get? b=some o)->h'.get? S=some {cls:= .type "list",dict:=none,data:= .seq J T,slots:=#[]}->
  J.toList=(List.range xs.size).map (λj=>Value.ref (N+j))->(∀j x y,xs[j]? =some x->ys[j]? =some y->IsPair h' (N+j) x y)->R (.ok (.ret res)) {s with heap:=h'})->
 codeAny (model prog w) A (.builtin "list.extend.loop" ⟨[.ref S, .ref z,res],[]⟩) R s:=by
 have sz:S≠z:=λe=>u (by simp [e]);have t:S≠TO:=λe=>u (by simp [e]);have s1:S≠r:=λe=>u (by simp [e]);have s2:S≠m:=λe=>u (by simp [e]);have Y:=lt z (by simp);have K:=lt TO (by simp);have PV:=lt r (by simp);have PU:=lt m (by simp);intro k
 induction k with
 |zero=>
  intro i s acc c hk hi Z P I O;have M:i=xs.size:=⋯
  subst M;refine jbf F.entry_extend_loop ?_;rw [jaH F.plain_extend_loop _];show wpAny _ A.in1 (pyNext (.ref z)>>=_) _ _ s;refine Qg (zl_end (by simp [hh]) D Z (Qu _) λh' kp=>?_);refine Qq (O h' acc c (λb o g q=>kp b o (λe=>g (by simp [e])) (λe=>g (by simp [e])) (λe=>g (by simp [e])) (λe=>g (by simp [e])) q) (kp _ _ sz t s1 s2 P) I λj x y L hy=>?_)
  have hj:j<xs.size:=by
   rcases Nat.lt_or_ge j xs.size with q|q
   ·exact q
   ·rw [Array.getElem?_eq_none q] at L;cases L
  exact kp _ _ (vN Y (Nat.le_add_right _ _)) (vN K (Nat.le_add_right _ _)) (vN PV (Nat.le_add_right _ _)) (vN PU (Nat.le_add_right _ _)) (Z.made j x y hj L hy)
 |succ k ih=>
  intro i s acc c hk hi Z P I O;have U:i<xs.size:=⋯
  have hz:acc.size=i:=by rw [<-jaq,I];simp
  refine jbf F.entry_extend_loop ?_;rw [jaH F.plain_extend_loop _];show wpAny _ A.in1 (pyNext (.ref z)>>=_) _ _ s;refine Qg (Ic D lt Z U (Ta U same) λh' Z' kp=>?_);have X:=kp _ _ sz t s1 s2 P;show wpAny _ A.in1 (updateSeq S (·.push (.ref (N+i)))>>=_) _ _ _;refine Qg ?_;have oth:∀b o,b≠S->h'.get? b=some o->(h'.update S (Obj.mapSeq (·.push (.ref (N+i))))).get? b=some o:=λb o g e=>(Tu _ _ (Ne.symm g)).trans e
  refine wpAny_updateSeq X rfl (Qq ⟨plainId_quiet F.plain_extend_loop _,ih (i+1) {s with heap:=h'.update S (Obj.mapSeq (·.push (.ref (N+i))))} (acc.push (.ref (N+i))) _ ⋯ U (Z'.at (λa o ha q=>oth a o ha q) (Tq ..).1 u hN) (TV _ X rfl)
   (by rw [Array.toList_push,I,List.range_succ,QM];rfl) λh2 J T OB Nv Py made=>?_⟩) (by rw [hz];omega) (by show (acc.push (.ref (N+i))).size<=sizeLine+1;rw [Array.size_push,hz];omega)
  exact O h2 J T (λb o g q=>OB b o g (oth b o (λe=>g (by simp [e])) (kp b o (λe=>g (by simp [e])) (λe=>g (by simp [e])) (λe=>g (by simp [e])) (λe=>g (by simp [e])) q))) Nv Py made
def uL:typeLookup (.type "zip") "__len__"=pure none:=by rw [typeLookup_type,builtinLookup_eq_fast];kernel_rfl
def pT:typeLookup (.type "zip") "__length_hint__"=pure none:=by rw [typeLookup_type,builtinLookup_eq_fast];kernel_rfl
def ZL.iter {y u:Bool} {N:Nat} {z TI TO t r q m:Addr} {xs ys:Array Value} {k:Nat} {Q:Value->Shared->Prop} (Z:ZL y u N s.heap z TI TO t r q m xs ys k) (h:Q (.ref z) s):wpAny (model prog w) A (pyIter (.ref z)) Q E s:=by
 have g:=Z.type;refine wpAny_pyIter_slot g F.slot_zip_iter (Ts F.slot_zip_iter g F.entry_zip_iter ?_ (F.args_zip_iter_1 _));show wpAny _ _ (ret (.ref z)) _ _ s;exact Qq ⟨_,rfl,"zip",_,g,F.slot_zip_next.lookup,h⟩
def md {M L:Bool} {z TI TO t r C u:Addr} {xs ys:Array Value} {Q:Value->Shared->Prop} (hh:A.handled=none) (D:ZipApart z TI TO t r C u) (lt:∀a∈[z,TI,TO,t,r,C,u],a<s.heap.objs.size)
 (same:xs.size<=ys.size) (hn:xs.size<=sizeLine) (hz:IsZip s.heap z TI TO .none) (Ms:IsPair s.heap TI (.ref t) (.ref r)) (O:∃a b,IsPair s.heap TO a b) (h1:ItB M s.heap t C 0) (h2:ItB L s.heap r u 0) (Z:SeB M s.heap C xs) (Y:SeB L s.heap u ys)
 (hQ:∀h' K N,(∀b o,b∉[z,TO,t,r]->s.heap.get? b=some o->h'.get? b=some o)->h'.get? s.heap.objs.size=some {cls:= .type "list",dict:=none,data:= .seq K N,slots:=#[]}->
  K.toList=(List.range xs.size).map (λj=>Value.ref (s.heap.objs.size+1+j))->(∀j x y,xs[j]? =some x->ys[j]? =some y->IsPair h' (s.heap.objs.size+1+j) x y)->Q (.ref s.heap.objs.size) {s with heap:=h'}):
 wpAny (model prog w) A (call (.type "list") [.ref z]) Q E s:=by
 refine callType_codes (Q₁:=λobj s₁=>obj= .ref s.heap.objs.size/\s₁={s with heap:=s.heap.push {cls:= .type "list",data:= .seq #[]}}) F.called_list (F.typeCall_list_1 _) F.entry_list_init
  (code_list_new _ ⟨rfl,rfl⟩) λobj s₁ h₁=>?_
 obtain ⟨rfl,rfl⟩:=h₁;have m:(s.heap.push {cls:= .type "list",data:= .seq #[]}).get? s.heap.objs.size=some {cls:= .type "list",data:= .seq #[]}:=Qw _ rfl;have up:∀c o,s.heap.get? c=some o->(s.heap.push {cls:= .type "list",data:= .seq #[]}).get? c=some o:=λc o e=>Qi _ e;have g:s.heap.objs.size∉[z,TI,TO,t,r,C,u]:=λq=>jan _ (lt _ q);have nz:s.heap.objs.size≠z:=λe=>g (by simp [e]);obtain ⟨a,b,O⟩:=O
 have Z0:ZL M L (s.heap.objs.size+1) (s.heap.push {cls:= .type "list",data:= .seq #[]}) z TI TO t r C u xs ys 0:=
  ⟨.inl ⟨up _ _ hz,a,b,up _ _ O⟩,up _ _ Ms,h1.at λo e=>up _ o e,h2.at λo e=>up _ o e,Z.at λo e=>up _ o e,Y.at λo e=>up _ o e,QV ..,λj x y hj=>absurd hj (Nat.not_lt_zero _)⟩
 refine ⟨⟨_,m,rfl⟩,F.args_list_init_2 _ _,?_⟩;show wpAny _ A.in1.in1 (do let old<-Builtin.List.listItems (.ref s.heap.objs.size);Builtin.List.listUpdate (.ref s.heap.objs.size) (λ_=>#[]);letGo old.toList.reverse;Builtin.List.listExtendWith (.ref s.heap.objs.size) (.ref z) .none) _ _ _;refine Qg ?_;unfold Builtin.List.listItems;refine Qg (jaC m rfl (Qq ?_));show wpAny _ A.in1.in1 (updateSeq s.heap.objs.size (λ_=>#[])>>=λ_=>letGo (#[]:Array Value).toList.reverse>>=λ_=>Builtin.List.listExtendWith (.ref s.heap.objs.size) (.ref z) .none) _ _ _;refine Qg (wpAny_updateSeq m rfl ?_);have m₂:=TV (Obj.mapSeq (λ_=>(#[]:Array Value))) m rfl;have G:=Z0.at (S:=s.heap.objs.size) (h':=(s.heap.push {cls:= .type "list",data:= .seq #[]}).update s.heap.objs.size (Obj.mapSeq (λ_=>(#[]:Array Value)))) (λa o ha q=>(Tu _ _ (Ne.symm ha)).trans q) (Tq ..).1 g (Td _);have J:∀b o,s.heap.get? b=some o->((s.heap.push {cls:= .type "list",data:= .seq #[]}).update s.heap.objs.size (Obj.mapSeq (λ_=>(#[]:Array Value)))).get? b=some o:=λb o q=>(Tu _ _ (jaI (Qr q))).trans (up _ _ q);generalize (s.heap.push {cls:= .type "list",data:= .seq #[]}).update s.heap.objs.size (Obj.mapSeq (λ_=>(#[]:Array Value)))=g1 at m₂ G J⊢;refine Qg (wpAny_letGo ?_);unfold Builtin.List.listExtendWith;refine Qg (wpAny_typeOf (s:={s with heap:=g1}) G.type ?_);have e1:Builtin.List.listSameRef (.ref s.heap.objs.size) (.ref z)=false:=by simp [Builtin.List.listSameRef,nz]
 have e2:(Value.type "zip"==Value.type "list")=false:=by decide
 have e3:(Value.type "zip"==Value.type "tuple")=false:=by decide
 simp only [e1,e2,e3,Bool.or_false,jaE,if_false];refine Qg (G.iter (s:={s with heap:=g1}) ?_);refine Qg (jaD ?_);unfold Builtin.List.listLengthHint;refine Qg (wpAny_specialOf (s:={s with heap:=g1}) G.type uL ?_);show wpAny _ A.in1.in1 (specialOf (Value.ref z) (Str.ofString "__length_hint__")>>=_) _ _ _;refine Qg (wpAny_specialOf (s:={s with heap:=g1}) G.type pT ?_);refine Qq ?_
 show wpAny _ A.in1.in1 (rule "list.extend.makes-room">>=λ_=>Builtin.List.listTouch (.ref s.heap.objs.size)>>=λ_=>
  again (.builtin "list.extend.loop" ⟨[.ref s.heap.objs.size, .ref z, .none],[]⟩)) _ _ _
 refine Qg (jca ?_);refine Qg ?_;show wpAny _ A.in1.in1 (updateSeq s.heap.objs.size (·.push .none)>>=λ_=>updateSeq s.heap.objs.size (·.pop)) _ _ _;refine Qg (wpAny_updateSeq (s:={s with heap:=g1}) m₂ rfl ?_);have m₃:=TV (Obj.mapSeq (·.push Value.none)) m₂ rfl;have T:=G.at (S:=s.heap.objs.size) (h':=g1.update s.heap.objs.size (Obj.mapSeq (·.push Value.none))) (λa o ha q=>(Tu _ _ (Ne.symm ha)).trans q) (Tq ..).1 g (Td _);have U:∀b o,s.heap.get? b=some o->(g1.update s.heap.objs.size (Obj.mapSeq (·.push Value.none))).get? b=some o:=λb o q=>(Tu _ _ (jaI (Qr q))).trans (J _ _ q);generalize g1.update s.heap.objs.size (Obj.mapSeq (·.push Value.none))=g2 at m₃ T U⊢;refine wpAny_updateSeq (s:={s with heap:=g2}) (hz:=by seq_fits) m₃ rfl ?_;have m₄:=TV (Obj.mapSeq (·.pop)) m₃ rfl;have P:=T.at (S:=s.heap.objs.size) (h':=g2.update s.heap.objs.size (Obj.mapSeq (·.pop))) (λa o ha q=>(Tu _ _ (Ne.symm ha)).trans q) (Tq ..).1 g (Td _);have I:∀b o,s.heap.get? b=some o->(g2.update s.heap.objs.size (Obj.mapSeq (·.pop))).get? b=some o:=λb o q=>(Tu _ _ (jaI (Qr q))).trans (U _ _ q);generalize g2.update s.heap.objs.size (Obj.mapSeq (·.pop))=g3 at m₄ P I⊢;refine Qq ⟨plainId_quiet F.plain_extend_loop _,FX (by simp [hh]) D (λa ha=>Tx (lt a ha)) g (Td _) same hn xs.size 0 {s with heap:=g3} _ _ rfl (jar _) P m₄ rfl λh' K N kp hL Mz made=>?_⟩;refine ⟨rfl,hQ h' K N (λb o hb q=>kp b o (λX=>?_) (I b o q)) hL Mz made⟩
 rcases Qn.mp X with e|e
 ·exact QN (Qr q) e
 ·exact hb e
end
section
variable {X:Cx}
def Gh (I:Inv X pins σ H s) (k:∀b u,s.heap.get? b=some u->h'.get? b=some u) (old:∀a,a<s.heap.objs.size->H' a=H a)
 (new:∀a o,s.heap.objs.size<=a->H' a=some o->ZY X.prog X.w H' h' a o):Inv X pins σ H' {s with heap:=h',toks:=t'}:=by
 have g:∀b o,H b=some o->H' b=some o:=λb o e=>by rw [old b (I.hok.lt e)];exact e
 refine I.un ⟨λb u q _ _ _=>k b u q,λb u q _ _ _=>⟨u.slots,k b u q⟩,λb u q n _=>by rw [old b (Qr q)];exact n,λb u q _=>⟨u,k b u q⟩,λb xs e=>g _ _ e,λb o u e=>g _ _ e,λb ps e=>⟨#[],by rw [g _ _ e];simp⟩⟩ λa o e=>?_
 rcases Nat.lt_or_ge a s.heap.objs.size with q|q
 ·rw [old a q] at e;exact (I.hok a o e).stay (λb u _ q=>k b u q) (λ_ q=>g _ _ q) λ_ _ q=>g _ _ q
 ·exact new a o q e
def nn1 (n j:Nat):¬(n+1+j<n):=⋯
def nn2 (n j:Nat):n+1+j≠n:=⋯
def nn3 (n j:Nat):n+1+j - (n+1)=j:=⋯
def nn4 (h:n<a):∃j,a=n+1+j:=⟨a - (n+1),⋯⟩
def GA:bootBuiltins "list"=some (.type "list"):=by decide+kernel
def rLZip (m g:Bool) (K:Frg):List V->Hp->VK->Prop:=λvs H1 Q=>∃(a1 a2:Addr) (xs ys:List V),vs=[.ref a1, .ref a2]/\SqB m K H1 a1 xs/\SqB g K H1 a2 ys/\xs.length<=ys.length/\
 ∀(M:Nat) (H':Hp),(∀a,M<=a->H1 a=none)->(∀a,a<M->H' a=H1 a)->H' M=some (.lst ((List.range xs.length).map λj=>V.ref (M+1+j)))->(∀j x y,xs[j]? =some x->ys[j]? =some y->H' (M+1+j)=some (.tup [x,y]))->Q (.ref M) H'
def tLZip (q m:Bool) (K:Frg) (g:TA):TE:=λσ H Q=>g σ H λvs H1=>rLZip q m K vs H1 Q
theorem mR (M:Nat):∀l:List Nat,xD (l.map λj=>V.ref (M+j)) (l.map λj=>Value.ref (M+j))
 |[]=> .nil
 |_::l=> .cons rfl (mR M l)
def pe_lzip (c1 c2:Bool) {a b:Expr} {T:TA} {u g w t:Pos} (A:X.calm=true) (g1:Gl X "list") (m1:X.mg "list"=none) (g2:Gl X "zip") (m2:X.mg "zip"=none) (ha:PA X [a,b] T)
 (OR:starEach [.Call (.Name "zip" g) [a,b] [] t] X.env=[(false,eval (.Call (.Name "zip" g) [a,b] [] t) X.env)]:=by rfl) (hs:starEach [a,b] X.env=[(false,eval a X.env),(false,eval b X.env)]:=by rfl) (MO:starEach [b] X.env=[(false,eval b X.env)]:=by rfl):
 PE X (.Call (.Name "list" u) [.Call (.Name "zip" g) [a,b] [] t] [] w) (tLZip c1 c2 X.K T):=by
 intro pins s σ H Q I h;refine jax (WR I g1 m1 GA ?_ nofun nofun);refine TF ?_ OR (by rfl);rw [OR];show wpAny _ _ (spliced ((false,eval (.Call (.Name "zip" g) [a,b] [] t) X.env)::backTo w (starEach [] X.env))) _ _ s;refine Calls.spliced_cons ?_;refine jax (WR I g2 m2 HL ?_ nofun nofun);refine TF (thn (ha t pins s σ H _ I h) ?_) (by rw [hs,MO]) (by rw [MO];rfl);rintro us s1 ⟨vs,H1,r,r1,w⟩;obtain ⟨Y,U,xs,ys,e,MV,NH,same,q⟩:=w;subst e;obtain ⟨u1,u2,rfl,OV,OU⟩:=Ez r1;cases (show u1=Value.ref Y from OV);cases (show u2=Value.ref U from OU);obtain ⟨Np,NW,u,few⟩:=seB r MV;obtain ⟨LN,NV,g,_⟩:=seB r NH;have NY:Y<s1.heap.objs.size:=by obtain ⟨o,z⟩:=u.obj;exact Qr z
 have PR:U<s1.heap.objs.size:=by obtain ⟨o,z⟩:=g.obj;exact Qr z
 have G:=NW.length;have le2:=NV.length;have quiet:=r.ok.hd A;refine oO u g λh' a1 a2 a3 a4 a5 m=>?_;have n1:s1.heap.objs.size+4<h'.objs.size:=Qr a1;have L:∀k:Nat,k<=4->s1.heap.objs.size+k<h'.objs.size:=λk m=>Nat.lt_of_le_of_lt (Nat.add_le_add_left m _) n1;refine Calls.spliced_nil ?_;refine md (s:={s1 with heap:=h'}) quiet (zipApart_new NY PR) (λc A=>?_) (by simp;omega) (by simp;omega) a1 a2 ⟨_,_,a3⟩ a4 a5 (u.at λo e=>m _ o e) (g.at λo e=>m _ o e) λh3 acc c kp hL Mz made=>?_
 ·show c<h'.objs.size;simp only [Qn,Qp,or_false] at A
  rcases A with z|z|z|z|z|z|z<;>rw [z]
  ·exact L 4 nofun
  ·exact L 2 nofun
  ·exact L 3 nofun
  ·exact L 0 nofun
  ·exact L 1 nofun
  ·exact Nat.lt_trans NY (L 0 nofun)
  ·exact Nat.lt_trans PR (L 0 nofun)
 ·have I2:Inv X pins σ H1 {s1 with heap:=h'}:=r.kept (t':=s1.toks) m;have fr:∀a,h'.objs.size<=a->H1 a=none:=λa ha=>I2.hok.fresh ha
  let H':Hp:=λa=>if a<h'.objs.size then H1 a else if a=h'.objs.size then some (.lst ((List.range xs.length).map λj=>V.ref (h'.objs.size+1+j))) else ((xs.zip ys)[a - (h'.objs.size+1)]?).map λp=> .tup [p.1,p.2]
  have Z:H' h'.objs.size=some (.lst ((List.range xs.length).map λj=>V.ref (h'.objs.size+1+j))):=by simp [H']
  have old:∀a,a<h'.objs.size->H' a=H1 a:=λa ha=>by simp [H',ha]
  have tup:∀j,H' (h'.objs.size+1+j)=((xs.zip ys)[j]?).map λp=> .tup [p.1,p.2]:=λj=>by
   simp only [H'];rw [QP (nn1 _ _),QP (nn2 _ _),nn3]
  refine ⟨.ref h'.objs.size,H',?_,rfl,q _ H' fr old Z λj x y M J=>by rw [tup,(Ti (z:=(x,y))).mpr ⟨M,J⟩];rfl⟩
  have keep:∀b o,s1.heap.get? b=some o->h3.get? b=some o:=λb o e=>kp b o (λz=>by
   have:=Qr e;simp only [Qn,Qp,or_false] at z
   rcases z with z|z|z|z<;>rw [z] at this
   ·exact absurd this (Nat.not_lt.mpr (Nat.le_add_right _ 4))
   ·exact absurd this (Nat.not_lt.mpr (Nat.le_add_right _ 3))
   ·exact absurd this (jan _)
   ·exact absurd this (Nat.not_lt.mpr (Nat.le_add_right _ 1))) (m b o e)
  refine Gh (s:=s1) (t':=s1.toks) r keep (λa ha=>old a (Nat.lt_trans ha (L 0 nofun))) λa o ha e=>?_
  rcases Nat.lt_trichotomy a h'.objs.size with z|z|z
  ·rw [old a z,r.hok.fresh ha] at e;cases e
  ·rw [z,Z] at e;cases e;refine ⟨by simp;omega,(List.range xs.length).map (λj=>Value.ref (h'.objs.size+1+j)),c,mR _ _,?_⟩;rw [z,hL,<-show (List.range Np.toArray.size).map (λj=>Value.ref (h'.objs.size+1+j))=(List.range xs.length).map (λj=>Value.ref (h'.objs.size+1+j)) by simp [G],<-Mz]
  ·obtain ⟨j,rfl⟩:=nn4 z;rw [tup] at e;obtain ⟨⟨x,y⟩,e1,e2⟩:=Option.map_eq_some_iff.mp e;obtain ⟨M,J⟩:=Ti.mp e1;obtain ⟨P,N,D⟩:=NW.get M;obtain ⟨O,Si,C⟩:=NV.get J;cases e2;exact ⟨dR,[P,O], .cons D (.cons C .nil),⟨_,made j P O ‹N› ‹Si›,rfl,_,rfl⟩⟩
end
def kLZip (m g:Bool) (K:Frg) (Q:VK):List V->Hp->Prop:=λvs H1=>rLZip m g K vs H1 Q
def rd_lz {q m:Bool} {K:Frg} {g:TA} {σ:L2.St} {H:Hp} {Q:VK} (h:g σ H (kLZip q m K Q)):tLZip q m K g σ H Q:=h
theorem HC (e:zS G G'):∀(m s:List PyData) (xs ys:List V) (off:Nat),zJ G m xs->zJ G s ys->m.length=s.length->(∀j x y,xs[j]? =some x->ys[j]? =some y->G' (off+j)=some (.tup [x,y]))->
 zJ G' (sj m s) ((List.range xs.length).map λj=>V.ref (off+j))
 |[],s,xs,ys,off,g,t,_,_=>by
  rw [zJ] at g;subst g;simp [sj,zJ]
 |d1::m,[],xs,ys,off,_,_,hl,_=>by simp at hl
 |d1::m,d2::s,xs,ys,off,g,t,hl,k=>by
  rw [zJ] at g t;obtain ⟨x,xs,rfl,w,g⟩:=g;obtain ⟨y,ys,rfl,u,t⟩:=t;have r:=HC e m s xs ys (off+1) g t ‹hl› λj a b ha A=>by rw [Nat.add_right_comm];exact k (j+1) a b ‹ha› ‹A›
  have z:=k 0 x y (by simp) (by simp);show zJ G' (.tuple [d1,d2]::sj m s) _;rw [Qy,List.range_succ_eq_map,Ql,Qm,zJ];refine ⟨_,_,rfl,?_,?_⟩
  ·rw [Is];refine ⟨_,_,rfl,z,?_⟩;rw [zJ];refine ⟨_,_,rfl,Is.mono e _ _ w,?_⟩;rw [zJ];refine ⟨_,_,rfl,Is.mono e _ _ u,?_⟩;rw [zJ]
  ·have q:((λj=>V.ref (off+j))∘Nat.succ)=λj=>V.ref (off+1+j):=funext λj=>by show V.ref (off+(j+1))=_;rw [Nat.add_right_comm];rfl
   rw [q];exact r
def IK {B N H:Hp} {cs:yp} {ds:Dat} {K:Frg} {Q:VK} {v w:V} {xs ys:List PyData} (S:Sta B N H cs ds) (Z:Has ds (.list xs) v) (Y:Has ds (.tuple ys) w) (L:xs.length=ys.length)
 (k:∀r H',zS H H'->Sta B N H' cs ((.list (sj xs ys),r)::ds)->Q r H'):kLZip true false K Q [v,w] H:=by
 obtain ⟨G,a,b,c,d,e,f,g⟩:=S;have J:=Z G g;have I:=Y G g;rw [Is] at J;rw [Is] at I;obtain ⟨P,us,rfl,e1,D⟩:=J;obtain ⟨O,ws,rfl,e2,C⟩:=I;refine ⟨P,O,us,ws,rfl, .inl (.inl (b _ _ e1)), .inl (.inl (b _ _ e2)),by rw [<-D.len,<-C.len,L];exact Qu _,λM H' fr old X ht=>?_⟩
 have lt:∀p o,H p=some o->p<M:=λp o q=>by
  rcases Nat.lt_or_ge p M with z|z
  ·exact z
  ·rw [fr p z] at q;cases q
 have u:zS H H':=λp o q=>by rw [old p (lt p o q)];exact q
 let m:Hp:=λa=>if a<M then G a else H' a
 have s:∀p,p<M->m p=G p:=λp z=>by simp [m,z]
 have t:∀p,M<=p->m p=H' p:=λp z=>by simp [m,Nat.not_lt.mpr z]
 have A:zS G m:=λp o q=>by rw [s p (lt p o (b _ _ q))];exact q
 have sub:zS m H':=λp o q=>by
  rcases Nat.lt_or_ge p M with z|z
  ·rw [s p z] at q;rw [old p z];exact b _ _ q
  ·rw [t p z] at q;exact q
 have gr:Grow G H m H':=⟨u,A,sub,λp hp=>by
  cases q:H p with
  |none=>exact absurd q hp
  |some o=>exact s p (lt p o q)⟩
 refine k _ H' u ?_;obtain ⟨a',b',c',d',e',f',g'⟩:=HS.grow (G:=G) ⟨a,b,c,d,e,f,g⟩ gr;refine ⟨m,a',b',c',d',e',f',g'.cons ?_⟩;rw [Is];exact ⟨M,_,rfl,(t M (Qu _)).trans X,HC A xs ys us ws (M+1) D C L λj x y U T=>(t _ ⋯).trans (ht j x y U T)⟩
theorem CL (i:Int):∀ns:List Int,inV (.int i) (ns.map V.int)=decide (i∈ns)
 |[]=>by simp [inV]
 |n::ns=>by
  have r:=CL i ns;unfold inV at r⊢;rw [Ql,List.any_cons,r,show eqV (.int n) (.int i)=(n==i) from rfl]
  by_cases e:i=n
  ·subst e;simp
  ·have:(n==i)=false:=by simpa using λz=>e z.symm
   simp [this,e]
def Hs {B m H:Hp} {cs:yp} {ds:Dat} {K:Frg} {Q:VK} {v:V} {ns:List Int} {i:Int} {neg:Bool} (S:Sta B m H cs ds) (h:Has ds (.list (ns.map PyData.int)) v)
 (k:Q (.bl (if neg then !decide (i∈ns) else decide (i∈ns))) H):rIn K neg (.int i) v H Q:=by
 have z:=S.hp h;rw [Is] at z;obtain ⟨p,vs,rfl,e,a⟩:=z;cases yF a;refine ⟨p,_,rfl, .inl (.inl (.inl e)),rfl,?_,?_⟩
 ·rw [TU];intro x g;obtain ⟨n,_,rfl⟩:=Qj.mp g;rfl
 ·rw [CL];exact k
def GZ (n:Int) (ps:List Int):Prop:=∀p∈ps,0<=p/\p<n
def Ful.parts (h:Ful m T as P) (h0:0<=e):∀q∈zg P e,0<=q/\q<=T:=by
 have nn:∀q∈zg P e,0<=q:=λq g=>by
  obtain ⟨i,u,rfl⟩:=QS g;have ln:=h.std.len (e:=e);have z:=h.std.zero;have pm:=h.pm;obtain ⟨r,t⟩:=h.std.cons;rw [t] at pm;have mo:=Yv h0 pm QR;rw [<-t,z] at mo;exact mo i 0 _ (by rw [QX,QH ⋯]) (Qb u)
 obtain ⟨_,le⟩:=xH nn;have s:=h.std.sum h0;have w:mn e T<=T:=by unfold mn;split<;>grind
 intro q g;have:=le q g;exact ⟨nn q g,by grind⟩
section
variable {t de:Nat} {r:Rl} {l:List Cl} {e:Rat}
def RuS.dens (h:RuS t r) (ok:ClS t l) (he:DQ de e):∀q∈zg (zE r l) e,DQ (de+4*Xh t r+t) q:=by
 have g:=(h.gf ok).ful;have w:=YB h.pok ok.n1 ok.sum;refine aS (m:=0) (T:=(amV l).sum) he ok.sum g.std.rise (λc u=>?_) w;have s:=g.std.range u;rw [xA] at s;exact s
def RuS.part (h:RuS t r) (ok:ClS t l) (he:DQ de e) (h0:0<=e):∀q∈zg (zE r l) e,0<=q/\SzQ (de+4*Xh t r+2*t+2) q:=λq g=>by
 have p:=(h.gf ok).ful.parts h0 q g;rw [xA] at p;exact ⟨p.1,((h.dens ok he q g).sz p.1 p.2 (VB (Xv ok.n1)) ok.sum).mono ⋯⟩
end
noncomputable def zZ (n:Nat) (ps:List Int):List Nat:=(List.range n).filter λ(i:Nat)=>!decide ((i:Int)∈ps)
def UJ {α:Type} (d:α) (l:List α) (ps:List Int):(zP d (zZ l.length ps) l).Sublist l:=by
 have h:((List.range l.length).map λi=>l.getD i d)=l:=by
  have:=zm (λx:α=>x) d l
  simpa using this
 have:=(List.filter_sublist (p:=λ(i:Nat)=>!decide ((i:Int)∈ps)) (l:=List.range l.length)).map λi=>l.getD i d;rw [h] at this;exact this
def Ik (h:a.Sublist b):(∀c∈b,0<=c.1)->(amV a).sum<=(amV b).sum:=by
 induction h with
 |slnil=>intro _;exact jbD _
 |cons x h g=>
  intro nn;have:=g λc m=>nn c (Qf _ m);have:=nn x (Qe ..);show _<=x.1+(amV _).sum;omega
 |cons_cons x h g=>
  intro nn;have:=g λc m=>nn c (Qf _ m);show x.1+(amV _).sum<=x.1+(amV _).sum;omega
def ClS.stay (h:ClS t l) (ne:zZ l.length ps≠[]):ClS t (zP (0,0,0) (zZ l.length ps) l):=by
 have s:=UJ (0,0,0) l ps;refine ⟨?_,QW s.length_le h.few,λc g=>h.nn c (s.subset g),jbt (Ik s λc g=>(h.nn c g).1) h.sum⟩;rw [yV];exact jaP.mpr ne
noncomputable def bj (r:Rl) (l:List Cl) (e:Rat) (ps:List Int):Rat:=zA (zP 0 (zZ l.length ps) (zg (zE r l) e))
def qS (h:RuS t r) (ok:ClS t l) (h0:0<=e):0<=bj r l e ps:=by
 have g:=(h.gf ok).ful;have s:=UJ 0 (zg (zE r l) e) ps;rw [g.std.len] at s;exact (xH λq m=>(g.parts h0 q (s.subset m)).1).1
theorem As:∀{v:List Rat},(∀q∈v,DQ d q)->DQ (v.length*d) (zA v)
 |[],_=>by rw [zA];exact DQ.zero.mono ⋯
 |x::v,h=>by
  rw [zA];exact ((h x (Qe ..)).add (As λq g=>h q (Qf _ g))).mono (by rw [Qy,Nat.succ_mul];omega)
theorem Dd {α:Type} (p:α->Bool):∀Z:List α,(Z.filter p).length+(Z.filter λz=>!p z).length=Z.length
 |[]=>rfl
 |z::Z=>by
  have:=Dd p Z;rw [jbj,jbj];cases p z<;>simp<;>omega
section
variable {t de:Nat} {r:Rl} {l:List Cl} {e:Rat} {ps:List Int}
def ju (h:RuS t r) (ok:ClS t l) (h0:0<=e):∃v:List Rat,v.length+(zZ l.length ps).length=l.length/\(∀q∈v,q∈zg (zE r l) e)/\bj r l e ps+zA v=mn e ((amV l).sum:Rat):=by
 have g:=(h.gf ok).ful;have ln:=g.std.len (e:=e);have m:=g.std.sum h0;rw [xA] at m
 let p:Nat->Bool:=λi=>!decide ((i:Int)∈ps)
 refine ⟨zP 0 ((List.range l.length).filter λi=>!p i) (zg (zE r l) e),?_,λq w=>?_,?_⟩
 ·rw [yV];have:=Dd p (List.range l.length);rw [jaN] at this;show _+((List.range l.length).filter p).length=_;omega
 ·obtain ⟨i,z,rfl⟩:=Qj.mp w;have A:=jbm.mp (QU.mp z).1;rw [Qk,Qb ⋯];exact Tf _
 ·have s:=smsp (f:=λi=>(zg (zE r l) e).getD i 0) p (Z:=List.range l.length);have u:=zm (λy:Rat=>y) 0 (zg (zE r l) e);rw [ln,List.map_id'] at u;rw [u,m] at s;exact s.symm
def Jx (h:RuS t r) (ok:ClS t l) (h0:0<=e):bj r l e ps<=((amV l).sum:Rat):=by
 obtain ⟨v,_,m,s⟩:=ju (ps:=ps) h ok h0;have g:=(h.gf ok).ful;have nn:=(xH λq u=>(g.parts h0 q (m q u)).1).1;have:mn e ((amV l).sum:Rat)<=((amV l).sum:Rat):=by unfold mn;split<;>grind
 grind
def Cw (h:RuS t r) (ok:ClS t l) (h0:0<=e) (he:DQ de e) (few:l.length<=6):DQ (3*(de+4*Xh t r+t)) (bj r l e ps):=by
 obtain ⟨v,A,u,s⟩:=ju (ps:=ps) h ok h0;have m:=h.dens ok he;have sb:=UJ 0 (zg (zE r l) e) ps;rw [(h.gf ok).ful.std.len] at sb
 by_cases c:(zZ l.length ps).length<=3
 ·refine (As λq g=>m q (sb.subset g)).mono ?_;rw [yV];exact Nat.mul_le_mul_right _ c
 ·have z:DQ de (mn e ((amV l).sum:Rat)):=by
   unfold mn
   split
   ·exact he
   ·exact (DQ.int _).mono ⋯
  have y:=As λq g=>m q (u q g);have w:bj r l e ps=mn e ((amV l).sum:Rat) - zA v:=by grind
  rw [w];refine (z.sub y).mono ?_;have:=Nat.mul_le_mul_right (de+4*Xh t r+t) (show v.length<=2 by omega);omega
def Jw (h:RuS t r) (ok:ClS t l) (h0:0<=e) (he:DQ de e) (few:l.length<=6):SzQ (t+3*(de+4*Xh t r+t)+2) (bj r l e ps):=
 (Cw h ok h0 he few).sz (qS h ok h0) (Jx h ok h0) (VB (Xv ok.n1)) ok.sum
end
section
variable {B G0 H:Hp} {cs:yp} {ds:Dat} {Q:VK} {E:XK} {v w u x:V}
def AE:Sp:=spT (α:=List Rat) (λps=>[.list (ps.map frD)]) (λps=>(∃n,(∀p∈ps,SzQ n p)/\n<=4499)/\ps.length<=8) (λps=>frD (zA ps))
def Ip:Sp:=λvs H Q _=>∃(ps:List Int) (n:Int),zJ H [xk ps, .int n] vs/\GZ n ps/\∀H',zS H H'->Q .non H'
def rd_pl0 (S:Sta B G0 H cs ds) (h:Has ds (xk ps) v) (g:GZ m ps) (k:∀H',zS H H'->Sta B G0 H' cs ds->Q .non H'):Ip [v, .int m] H Q E:=⟨ps,m,S.hpAll (.cons h (.cons .int .nil)),g,λH' e=>k H' e (S.same e)⟩
noncomputable def cY (A:RAd) (t n:Nat):Sp:=spT (α:=Rl×List Cl×Rat) (λa=>[a.1.ins A,zo a.2.1,frD a.2.2]) (λa=>((RuS t a.1/\a.1.deep<=n)/\ClS t a.2.1)/\SzQ 6800 a.2.2/\0<=a.2.2) (λa=>ym (zg (zE a.1 a.2.1) a.2.2))
def ff (S:Sta B G0 H cs ds) (q:Has ds (r.ins A) v) (h:Has ds (zo l) w) (m:Has ds (frD e) u) (ru:RuS t r) (hn:r.deep<=n) (ok:ClS t l) (g:SzQ 6800 e) (e0:0<=e) (k:∀p H',zS H H'->Sta B G0 H' cs ((ym (zg (zE r l) e),p)::ds)->Q p H'):cY A t n [v,w,u] H Q E:=Zf (r,l,e) S (.cons q (.cons h (.cons m .nil))) ⟨⟨⟨ru,hn⟩,ok⟩,g,e0⟩ k
noncomputable def cD (r:Rl) (l:List Cl) (e:Rat) (ps:List Int):List PyData:=sj ((zZ l.length ps).map λ(j:Nat)=>PyData.int (j:Int)) ((zg (zE r (zP (0,0,0) (zZ l.length ps) l)) (bj r l e ps)).map frD)
structure StOk (t n:Nat) (r:Rl) (l:List Cl) (e:Rat) (ps:List Int):Prop where
 ru:RuS t r
 deep:r.deep<=n
 cl:ClS t l
 e0:0<=e
 ez:SzQ 300 e
 good:GZ (l.length:Nat) ps
 left:SzQ 6800 (bj r l e ps)
 part:∀q∈zg (zE r l) e,SzQ 4499 q
noncomputable def AF (A:RAd) (t n:Nat):Sp:=spT (α:=Rl×List Cl×Rat×List Int) (λa=>[a.1.ins A,zo a.2.1,frD a.2.2.1,xk a.2.2.2]) (λa=>StOk t n a.1 a.2.1 a.2.2.1 a.2.2.2) (λa=> .list (cD a.1 a.2.1 a.2.2.1 a.2.2.2))
def ID (S:Sta B G0 H cs ds) (s:Has ds (r.ins A) v) (q:Has ds (zo l) w) (m:Has ds (frD e) u) (g:Has ds (xk ps) x) (ok:StOk t n r l e ps) (k:∀p H',zS H H'->Sta B G0 H' cs ((.list (cD r l e ps),p)::ds)->Q p H'):AF A t n [v,w,u,x] H Q E:=Zf (r,l,e,ps) S (.cons s (.cons q (.cons m (.cons g .nil)))) ok k
def spSum:Sp:=spT (α:=List Rat) (λps=>[.list (ps.map frD)]) (λps=>(∃n,(∀p∈ps,SzQ n p)/\n<=4499)/\ps.length<=8) (λps=>frD (zA ps))
noncomputable def kh (t:Nat):Sp:=spB (α:=Rl×List Cl×Rat) (λa=>[a.1.shape,zo a.2.1,frD a.2.2,ym (zg (zE a.1 a.2.1) a.2.2)]) (λa=>((RuS t a.1/\Vz a.1<=12)/\ClS t a.2.1)/\SzQ 6800 a.2.2/\0<=a.2.2/\∀p∈zg (zE a.1 a.2.1) a.2.2,SzQ 8900 p) (λ_=> .bl true)
def Bk (S:Sta B G0 H cs ds) (A:Has ds r.shape u) (y:Has ds (zo l) v) (t:Has ds (frD e) w) (s:Has ds (ym (zg (zE r l) e)) z) (ru:RuS m r) (hd:Vz r<=12) (ok:ClS m l) (q:SzQ 6800 e) (e0:0<=e) (g:∀p∈zg (zE r l) e,SzQ 8900 p) (k:∀H',zS H H'->Sta B G0 H' cs ds->Q (.bl true) H'):kh m [u,v,w,z] H Q E:=UE (r,l,e) (S.hpAll (.cons A (.cons y (.cons t (.cons s .nil))))) ⟨⟨⟨ru,hd⟩,ok⟩,q,e0,g⟩ λH' e=>k H' e (S.same e)
end
def PSG (g:Bool) (r:Rl):Prop:=PS6 r/\(g=false->NG r)
def JJ (n:Nat):NG (gn n):=by
 match n with
 |0=>exact trivial
 |1=>exact trivial
 |2=>exact trivial
 |n+3=>exact trivial
section
variable {B G0 H:Hp} {cs:yp} {ds:Dat} {Q:VK} {E:XK} {v w:V}
def DrG (g:Bool) (r:Rl):Prop:=Drn r/\(g=false->NG r)
def jY:Sp:=λvs H Q _=>∃(G:Hp) (ns:List Int) (g:Bool) (v:V),vs=[v, .bl g]/\zS G H/\Is G (xk ns) v/\ns.length<=6/\∀w H' G' (r:Rl),Grow G H G' H'->Is G' r.shape w->DrG g r->Q w H'
def Bj (S:Sta B G0 H cs ds) (h:Has ds (xk ns) v) (q:ns.length<=6) (k:∀w H' (r:Rl),DrG g r->zS H H'->Sta B G0 H' cs ((r.shape,w)::ds)->Q w H'):jY [v, .bl g] H Q E:=by
 obtain ⟨G,S⟩:=S;refine ⟨G,ns,g,v,rfl,S.2.1,h G S.2.2.2.2.2.2,q,λw H' A r gr m good=>k w H' r good gr.h ?_⟩;obtain ⟨z,y,u,d',t,s,g'⟩:=S.grow gr;exact ⟨A,z,y,u,d',t,s,g'.cons m⟩
def jd (S:Sta H G H' cs ds) (k:∀w H' m (r:Rl),Grow G H m H'->Is m r.shape w->DrG g r->Q w H') (h:Has ds r.shape w) (q:DrG g r):Q w H':=
 xE S (λv H' m a b=>k v H' m r a b q) h
def kj:Sp:=λvs H Q _=>∃(G:Hp) (g c:Int),vs=[.int g, .int c]/\zS G H/\(0<=g/\Sz 180 g)/\∀v H' G' (e:Rat),Grow G H G' H'->Is G' (frD e) v->(0<=e/\SzQ 300 e)/\DQ 40 e->Q v H'
def Bn (S:Sta B G0 H cs ds) (m:0<=wh/\Sz 180 wh) (k:∀v H' (e:Rat),(0<=e/\SzQ 300 e)/\DQ 40 e->zS H H'->Sta B G0 H' cs ((frD e,v)::ds)->Q v H'):kj [.int wh, .int c] H Q E:=by
 obtain ⟨G,S⟩:=S;refine ⟨G,wh,c,rfl,S.2.1,m,λv H' y e gr g good=>k v H' e good gr.h ?_⟩;obtain ⟨u,t,s,d',r,q,g'⟩:=S.grow gr;exact ⟨y,u,t,s,d',r,q,g'.cons g⟩
def fc (S:Sta H G H' cs ds) (k:∀v H' g (e:Rat),Grow G H g H'->Is g (frD e) v->(0<=e/\SzQ 300 e)/\DQ 40 e->Q v H') (h:Has ds (frD e) v) (m:0<=e/\SzQ 300 e) (hd:DQ 40 e):Q v H':=
 xE S (λv H' g a b=>k v H' g e a b ⟨m,hd⟩) h
def ub (m:0<j) (g:j<=2 ^ 40):DQ 40 (Rat.divInt i j):=by
 refine ⟨j,⟨m,g⟩,i,?_⟩;rw [Rat.divInt_eq_div];exact Rat.div_mul_cancel λz=>absurd (Rat.intCast_eq_zero_iff.mp z) ⋯
end
def all1 {p:List Value->Prop} (h:∀a,p [a]) (us:List Value) (g:us.length=1):p us:=by
 obtain ⟨a,rfl⟩:=List.length_eq_one_iff.mp g;exact h a
def all2 {p:List Value->Prop} (h:∀a b,p [a,b]) (us:List Value) (g:us.length=2):p us:=by
 cases us with
 |nil=>cases g
 |cons a us=>exact all1 (p:=λus=>p (a::us)) (h a) us (Nat.succ.inj g)
def all3 {p:List Value->Prop} (h:∀a b c,p [a,b,c]) (us:List Value) (g:us.length=3):p us:=by
 cases us with
 |nil=>cases g
 |cons a us=>exact all2 (p:=λus=>p (a::us)) (h a) us (Nat.succ.inj g)
def all4 {p:List Value->Prop} (h:∀a b c d,p [a,b,c,d]) (us:List Value) (g:us.length=4):p us:=by
 cases us with
 |nil=>cases g
 |cons a us=>exact all3 (p:=λus=>p (a::us)) (h a) us (Nat.succ.inj g)
def all5 {p:List Value->Prop} (h:∀a b c d e,p [a,b,c,d,e]) (us:List Value) (g:us.length=5):p us:=by
 cases us with
 |nil=>cases g
 |cons a us=>exact all4 (p:=λus=>p (a::us)) (h a) us (Nat.succ.inj g)
structure DkT (K:Frg) (mg:Str->Option Value) (nm:Str) (st:Stmt) (f:Addr) (fd:FuncData) (ps:List Str):Prop where
 F:Fun K nm nm st f fd
 m:mg nm=some (.ref f)
 b:xi K fd ps []
structure FkT (K:Frg) (x q:Str) (st:Stmt) (f:Addr) (fd:FuncData) (ps:List Str):Prop where
 F:Fun K x q st f fd
 b:xi K fd ps []
 k:PySem.W.keepIn K (.ref f)=true
section
variable {K:Frg} {h:Heap} {mg:Str->Option Value} {x q:Str} {st:Stmt} {f:Addr} {oc:Value} {od an:Option Addr} {osl:Array (Option Value)} {kV doc pm LF ct:Value} {ps:List Str}
def fk_mk (l:K.lookup f=some ⟨oc,od, .func (PySem.W.fnOf x q (ZX st) (Zq st) (zk st) .none kV doc pm an LF ct),osl⟩) (c:PySem.W.codeIn K LF q=true) (k:PySem.W.keepIn K (.ref f)=true)
 (b:∀(kV doc pm:Value) (an:Option Addr) (LF ct:Value) (us:List Value),us.length=ps.length->bindArgs (PySem.W.fnOf x q (ZX st) (Zq st) (zk st) .none kV doc pm an LF ct) ⟨us,[]⟩=pure (ps.zip us)):
 FkT K x q st f (PySem.W.fnOf x q (ZX st) (Zq st) (zk st) .none kV doc pm an LF ct) ps:=⟨oG l c k,(oG l c k).binds b,k⟩
def dk_mk (X:K.In h) (G:h.Ns mainGlobals mg) (a:PySem.W.nsIn K mainGlobals x=some (some (.ref f))) (l:K.lookup f=some ⟨oc,od, .func (PySem.W.fnOf x x (ZX st) (Zq st) (zk st) .none kV doc pm an LF ct),osl⟩) (c:PySem.W.codeIn K LF x=true) (k:PySem.W.keepIn K (.ref f)=true)
 (b:∀(kV doc pm:Value) (an:Option Addr) (LF ct:Value) (us:List Value),us.length=ps.length->bindArgs (PySem.W.fnOf x x (ZX st) (Zq st) (zk st) .none kV doc pm an LF ct) ⟨us,[]⟩=pure (ps.zip us)):
 DkT K mg x st f (PySem.W.fnOf x x (ZX st) (Zq st) (zk st) .none kV doc pm an LF ct) ps:=⟨oG l c k,jaG X G a,(oG l c k).binds b⟩
end
structure CkT (K:Frg) (c fI Ru fS fT fP fQ:Addr):Prop where
 e:PySem.W.findIn K (.ref c) "__init__"=some (some (.ref fI))
 es:PySem.W.findIn K (.ref c) "shape"=some (some (.ref fS))
 et:PySem.W.findIn K (.ref c) "text"=some (some (.ref fT))
 ep:PySem.W.findIn K (.ref c) "path"=some (some (.ref fP))
 eq:PySem.W.findIn K (.ref c) "parts"=some (some (.ref fQ))
 pg:PySem.W.plainGet K c Str.empty=true
 hd:PySem.W.hasDictIn K c=true
 po:PySem.W.plainOver K c=true
 sa:PySem.W.findIn K (.ref c) "__setattr__"=some (some (.builtin "object.__setattr__"))
 na:PySem.W.findIn K (.ref c) "form"=some none
 ha:PySem.W.findIn K (.ref c) "__class__"=some (some (.builtin "object.__class__"))
 mo:PySem.W.mroIn K c (.type "object")=some true
 kt:PySem.W.kitOne K (.ref c) (.ref Ru)=some true
 mq:PySem.W.makesIn K c=true
 nf:PySem.W.isFn K (.ref fI)=true
 kc:PySem.W.keepIn K (.ref c)=true
section
variable {K:Frg} {c fI Ru fS fT fP fQ:Addr}
def CkT.ok (Q:CkT K c fI Ru fS fT fP fQ) (n1:PySem.W.isFn K (.ref fS)=true) (q:PySem.W.keepIn K (.ref fS)=true) (g:PySem.W.isFn K (.ref fT)=true) (m:PySem.W.keepIn K (.ref fT)=true) (hn:PySem.W.specialIn K (.builtin "object.__class__") "__get__"=some (some (.builtin "getset_descriptor.__get__"))) (ht:PySem.W.takesIn K (.builtin "object.__class__")=some true):ROk K fS fT Ru c:=
 ⟨⟨Q.pg,Q.hd,Q.po,Q.sa⟩,Q.na,⟨Q.es,n1,q⟩,⟨Q.et,g,m⟩,Q.ha,hn,ht,Q.mo,Q.kt⟩
def CkT.MK (Q:CkT K c fI Ru fS fT fP fQ):Mk K c fI:=⟨Q.mq,Q.e,Q.nf,Q.kc⟩
def CkT.mp (Q:CkT K c fI Ru fS fT fP fQ) (n:PySem.W.isFn K (.ref fP)=true) (k:PySem.W.keepIn K (.ref fP)=true) (g:PySem.W.isFn K (.ref fQ)=true) (m:PySem.W.keepIn K (.ref fQ)=true):Meth K c "path" fP/\Meth K c "parts" fQ:=⟨⟨Q.ep,n,k⟩,⟨Q.eq,g,m⟩⟩
end
section
variable {X:Cx}
def ps_a (i:Nat)   (r:X.N.Nodup) (he:PE X e te) (q:X.N[i]? =some x:=by rfl) (g:Loc X.env.scope x:=by walk_at "o") (m:swapsWith e (some (.Name x pos')) pos.line X.env=pure false:=by rfl) (hf:X.fn x=true\/X.env.scope.names.lookup x=some .local:=by walk_at "f"):
 PS X (.Assign [.Name x pos'] e pos) (Kk te (lT i)):=ps_set r q g he m hf
def pg_a (i:Nat)  (q:X.N.Nodup) (m:X.N[i]? =some x:=by rfl) (g:Loc X.env.scope x:=by walk_at "o") (hf:X.fn x=true\/X.env.scope.names.lookup x=some .local:=by walk_at "f"):PG X (.Name x pos) (lT i):=qF q m g hf
def pcl (C:Cal X.prog X.w X.K X.mg X.base CX0 k x ps sp) (hr:Room j X.A) (ha:PA X (e::es) t) (g:k<=j:=by walk_at "l") (m:Gl X x:=by rfl) (r:(x==("__debug__":Str))=false:=by decide) (he:starEach (e::es) X.env=(false,eval e X.env)::starEach es X.env:=by rfl) (q:(backTo pos (starEach es X.env)).any (·.1)=false:=by rfl):
 PE X (.Call (.Name x p) (e::es) [] pos) (uQ sp [] E0 t):=pe_cal C hr g pass0 m ha r he q
def pix (i:Nat)   (q:X.N[i]? =some x:=by rfl) (g:Vis X.env.scope x:=by walk_at "v") (hd:(x==("__debug__":Str))=false:=by decide) (m:(x==("__classdict__":Str))=false:=by decide):PE X (.Subscript (.Name x p1) (.Constant (.int k) j p2) p3) (tOp (rIx X.K) (tVar i) (tC (.int k))):=pe_ix ix_seq (pv i q g hd m) tj (λ_ _=>rfl)
def pg_c (i:Nat)     (q:N.Nodup:=by decide+kernel) (m:(xv X N scope C ex s H).N[i]? =some x:=by rfl) (g:Loc (xv X N scope C ex s H).env.scope x:=by walk_at "o") (hf:(xv X N scope C ex s H).fn x=true\/(xv X N scope C ex s H).env.scope.names.lookup x=some .local:=by walk_at "f"):
 PG (xv X N scope C ex s H) (.Name x pos) (lT i):=qF q m g hf
def pcf (N:List Str) (n:Nat) (fr:List Nat)     (q:PI X tg iter wi) (r:∀{C ex s H},PG (xv X N scope C ex s H) tg (g C ex s H)) (ht:∀{C ex s H},PIf (xv X N scope C ex s H) ifs (tt C ex s H)) (he:∀{C ex s H},PE (xv X N scope C ex s H) elt (te C ex s H))
 (t:X.calm=true:=by rfl) (O:CompOk X N n fr scope:=by exact ⟨rfl,by decide+kernel,rfl,nofun,rfl,rfl,rfl,rfl,rfl⟩) (m:∀x,foldedSetIterable iter X.env x=pure x:=by intro _;rfl):
 PE X (.ListComp elt [⟨tg,iter,ifs,0⟩] scope pos) (uP n fr wi g tt te):=Ja t O q (λ_ _ _ _=>r) (λ_ _ _ _=>ht) (λ_ _ _ _=>he) m
def pscf (i:Nat) (y:X.N.Nodup) (N:List Str) (n:Nat) (fr:List Nat)      (t:PI X tg iter wi) (u:∀{C ex s H},PG (xv X N scope C ex s H) tg (g C ex s H)) (ht:∀{C ex s H},PIf (xv X N scope C ex s H) ifs (tt C ex s H)) (he:∀{C ex s H},PE (xv X N scope C ex s H) elt (te C ex s H))
 (m:X.N[i]? =some x:=by rfl) (r:X.env.scope.names.lookup x=some .local:=by rfl) (w:X.calm=true:=by rfl) (O:CompOk X N n fr scope:=by exact ⟨rfl,by decide+kernel,rfl,nofun,rfl,rfl,rfl,rfl,rfl⟩)
 (z:swapsWith (.ListComp elt [⟨tg,iter,ifs,0⟩] scope pos) (some (.Name x px)) spos.line X.env=pure true:=by rfl) (q:∀x,foldedSetIterable iter X.env x=pure x:=by intro _;rfl):
 PS X (.Assign [.Name x px] (.ListComp elt [⟨tg,iter,ifs,0⟩] scope pos) spos) (Kk (uP n fr wi g tt te) (lT i)):=vx y m r w O t (λ_ _ _ _=>u) (λ_ _ _ _=>ht) (λ_ _ _ _=>he) z q
def xu (a:sc.kind= .function:=by rfl) (b:sc.isCoroutine=false:=by rfl) (c:sc.isGenerator=false:=by rfl) (d:N.Nodup:=by decide+kernel) (e:N.take P.length=P:=by rfl) (f:∀x∈P,sc.names.lookup x=some .local\/sc.names.lookup x=some .cell:=by decide+kernel) (g:∀y∈sc.names,y.2≠ .free:=by decide+kernel):FnScope N P sc:=⟨a,b,c,d,e,f,g⟩
def _root_.L2.Fun.oo {P:Program} {w:World} {K:Frg} {mg:Str->Option Value} {base:Heap} {x qual:Str} {st:Stmt} {f:Addr} {fd:FuncData} {N ps:List Str} {k:Nat} {sp:Sp} (F:Fun K x qual st f fd) (s1:FnScope N ps (zk st))
 (m:∀{g:Value} {A:Around} {outer:List Env} {s:Shared} (H:Hp) (vs:List V) (Q:VK) (E:XK),Room k (A.deeper (envOfC qual (zk st) s.heap.objs.size f g))->N.Nodup->sp vs H Q E->
  ∃t,PSs (HI CX0 P w K mg base N qual (zk st) f g A outer s H E).nox (Zq st) t/\t {nx:=λ_ H'=>Q .non H',rt:=Q} (jX N vs) H) (len:∀vs H Q E,sp vs H Q E->vs.length=ps.length:=by walk_at "n"):FnOk P w K mg base CX0 (k+1) f fd ps sp:=F.ok s1 len λ_ _ _ _ H vs Q E hr h=>m H vs Q E hr s1.nd h
def ye (w:Wk B G0 J xs P) (f:Nat->PyData) (u:(List.range xs.length).map f=ys) (s1:Sta B G0 H cs ds)
 (z:∀(i:Nat) (x:PyData) (v:V) {m q:Hp} {r:VK} {G:Hp->Prop} {C ex s0 H0},xs[i]? =some x->Turn1 B G0 cs m q->Sta m q m [] ((x,v)::ds)->(∀{y:V} {s:Hp} {cs':yp} {ds':Dat},Sta m q s cs' ds'->Has ds' (f i) y->r y s)->
  g C ex s0 H0 v (List.replicate n none++frσ σ fr) m λσ4 H4=>σ4.drop n=frσ σ fr/\tt C ex s0 H0 σ4 H4 λb t=>if b=true then te C ex s0 H0 σ4 t r else G t)
 (k:∀D H',zS H H'->Sta B G0 H' ((D,ys)::cs) ds->Q (.ref D) H') (A:∀D ys,P ((D,ys)::cs) ds:=by intro _ _;exact .mem (by walk_at "mem")) (hn:xs.length<=1000:=by rw [Qa];omega):Gf n fr g tt te σ Q J H:=
 yG w f u s1 A hn (λi x v _ _ _ _ a b c d _ _ _ _=>z i x v a b c d) k
def kxx {CX:CXT} {P:Program} {w:World} {K:Frg} {mg:Str->Option Value} {base:Heap} {N:List Str} {q:Str} {sc:Scope} {f:Addr} {cd:Value} {A:Around} {o:List Env} {s:Shared} {H:Hp} {E:XK}:(HI CX P w K mg base N q sc f cd A o s H E).nox.K=K:=rfl
def kyy:(xv X N sc C ex s H).K=X.K:=rfl
end
def Has.mm (h:(x,v)∈ds:=by walk_at "mem"):Has ds x v:= .mem h
end S
namespace K
open PySem L2 S
abbrev paa:List Str:=["_law_shape_here","_law_claims_here","_law_parts"]
abbrev pab:List Str:=["one","two"]
abbrev pac:List Str:=["self"]
abbrev pae:List Str:=["self","form"]
abbrev paf:List Str:=["_law_shape_here","_law_claims_here","_law_purse_here","_law_parts"]
abbrev pag:List Str:=["claims","group"]
abbrev pah:List Str:=["ones","twos"]
abbrev pai:List Str:=["self","claims","purse"]
abbrev paj:List Str:=["self","portion","first","last"]
abbrev pak:List Str:=["_law_script","_law_at","_law_many","_law_size"]
abbrev pal:List Str:=["self","inner"]
abbrev pam:List Str:=["claims"]
abbrev pan:List Str:=["path","places","count"]
abbrev pao:List Str:=["_law_one","_law_two"]
abbrev paq:List Str:=["_law_found"]
abbrev pas:List Str:=["claims","places"]
abbrev pau:List Str:=["start","end","portion"]
abbrev pav:List Str:=["start","end","amount"]
abbrev paw:List Str:=["self","outer","inner"]
abbrev pax:List Str:=["shape","claims"]
abbrev pay:List Str:=["_law_script","_law_k"]
abbrev paz:List Str:=["_law_shape_here"]
abbrev paA:List Str:=["portion","first","last"]
abbrev paB:List Str:=["outer","inner","claims"]
abbrev paC:List Str:=["_law_top","_law_bottom"]
abbrev paD:List Str:=["rule","claims","purse","away"]
abbrev paE:List Str:=["_law_whole_here","_law_cell"]
abbrev paF:List Str:=["ahead","corner","following"]
abbrev paG:List Str:=["_law_cell"]
abbrev paH:List Str:=["_law_amounts","_law_parts"]
abbrev paI:List Str:=["top","bottom"]
abbrev paJ:List Str:=["_law_cells","_law_groups"]
abbrev paK:List Str:=["parts","places","count"]
abbrev paL:List Str:=["_law_cell","_law_place"]
abbrev paM:List Str:=["path","second"]
abbrev paN:List Str:=["self","claims"]
abbrev paO:List Str:=["claims","rank"]
abbrev paP:List Str:=["amounts","amount"]
abbrev paQ:List Str:=["path","place","levels"]
abbrev paR:List Str:=["path","others","purse"]
abbrev paS:List Str:=["start","end","purse"]
abbrev paT:List Str:=["path","portion"]
abbrev paU:List Str:=["inner","claims"]
abbrev paV:List Str:=["path","others"]
local macro_rules|`(tactic|assumption)=>`(tactic|first|exact .mm|fail)
local macro_rules|`(tactic|right)=>`(tactic|walk_at "mem")
local macro_rules|`(tactic|left)=>`(tactic|walk_at "walk")
abbrev mtM:=Lean.MacroM (Lean.TSyntax `tactic)
def mwt (s:String):mtM:=`(tactic|walk_at $(Lean.quote s))
def mtU (c:Char):mtM:=match c with
 |'a'=>`(tactic|assumption)
 |'H'=>mwt "has"
 |'M'=>mwt "mem"
 |'A'=>mwt "hasall"
 |'z'=>mwt "szq"
 |'D'=>mwt "dom"
 |'m'=>mwt "mul"
 |'s'=>mwt "sz"
 |'u'=>mwt "sub"
 |'v'=>mwt "dats"
 |'r'=>`(tactic|exact rfl)
 |'o'=>`(tactic|omega)
 |'d'=>`(tactic|decide)
 |'K'=>`(tactic|decide+kernel)
 |'x'=>mwt "x"
 |'y'=>mwt "y"
 |'t'=>mwt "t"
 |'T'=>mwt "T"
 |'N'=>mwt "N"
 |'i'=>`(tactic|(show (0:Int)<_;decide))
 |'j'=>`(tactic|(show (0:Int)<_;omega))
 |'q'=>mwt "q"
 |'L'=>`(tactic|first|assumption|omega|(simp only [str_len];omega)|(simp only [str_len] at*;omega))
 |_=>Lean.Macro.throwUnsupported
def mtY (n:Lean.Name) (s:List Char):mtM:=do
 match s with
 |'!'::c::_=>mtU c
 |'*'::c::_=>Lean.Macro.throwUnsupported
 |'='::r=>do
  let mut a:Array Lean.Term:=#[]
  for c in r do
   if c=='_' then a:=a.push (<-`(_))
   else
    let u<-mtU c
    a:=a.push (<-`(by $u:tactic))
  `(tactic|exact $(Lean.Syntax.mkApp (Lean.mkIdent n) a))
 |_=>do
  let r:=if s.head? ==some '+' then s.tail else s
  let mut a:Array Lean.Term:=#[]
  let mut cs:Array (Lean.TSyntax `tactic):=#[]
  for c in r do
   if c=='_' then a:=a.push (<-`(_))
   else if c.isDigit then
    for _ in List.range (c.toNat - 48) do cs:=cs.push (<-`(tactic|intro _))
   else
    let h:=Lean.mkIdent (<-Lean.Macro.addMacroScope (Lean.Name.mkSimple (if c=='k' then "k" else s!"x{a.size}")))
    a:=a.push (<-`(?$h))
    if c !='k' then
     let u<-mtU c
     cs:=cs.push (<-`(tactic|case $h:ident=>$u:tactic))
  let e:Lean.Term:=Lean.Syntax.mkApp (Lean.mkIdent n) a
  let t<-`(tactic|refine' $e)
  let t<-if s.head? ==some '+' then pure t else `(tactic|with_reducible $t:tactic)
  `(tactic|($t:tactic;$[$cs:tactic];*))
def mtTK:String:="rk:rd_var k:rd_c k:rd_cons k:rd_nil k:rd_seq k:rd_asg k:zH k:rd_nx k:rd_op k:rd_next k:rd_call k:rd_cb k:rd_tup k:rd_fld k:xG k:yN k:Wc k:rd_if k:rd_test k:rd_tB k:rd_rI0 k:rd_bm k:rd_rt k:rd_ret k:rd_for k:rd_comp k:rd_drop k:rd_lst k:Hr k:rd_make k:rd_sl k:rd_part k:rd_kPart k:rd_un k:rd_and k:rd_or k:rd_not aHrk:rd_ixTS ak:rd_strI k:rd_rev aqkr:rd_isi k:rd_jCons k:rd_fmt k:rd_methA k:rd_kBMs k:rd_addSI k:rd_eqS k:rd_neS Lk:rd_kJ Lk:rd_jNil Lk:rd_kFmtS ak:rd_kFmtI Lk:rd_addS aHHzzdDk4:nR aHHzzdk:nX aok:rd_cell ok:rd_div2 aqk:rd_isi k:rd_noPart k:rd_iRv k:rd_true k:rd_gsub k:rd_mix aHk:rd_sumL aMk:rd_sumC k:rd_addI aHrk:rd_ixTI aHrk2:cu aHrk:Yt aHrk2:xc mk:rd_mulB xk:rd_modL yk:rd_modN tk:rd_fdivL ak:rd_fdivB Tk:rd_pow k:rd_nxL k:rd_rtL aANk4:rd_kTup aANk4:IP k:rd_isbl k:rd_eqI k:rd_neI k:rd_andV k:rd_orV k:rd_notV k:rd_ifE k:rd_rU k:rd_retN aHk:rd_lenT aHk:rd_lenL aMk:rd_lenC k:rd_abs k:rd_min k:rd_max k:rd_iList k:rd_iTup k:rd_iR1 k:rd_iR2 k:rd_iEn k:rd_iZi aHk3:xF aHk4:rd_kGT3 k:rd_bm0 aMk:rd_kBM aMk:rd_kBM0 aHk4:rd_listL aMk4:rd_listC aHk4:rd_listT aHk4:rd_tupleL aMk4:rd_tupleC k:rd_par k:rd_is2 rk:rd_aug k:rd_ipI k:iteT k:iteF k:iteNF k:iteNT k:rd_nx0 k:rd_ctL k:rd_bkL k:rd_ct k:rd_bk k:rd_eqB k:rd_neB . =_:List.Mem.head +_M:List.Mem.tail . =:Has.int =:Has.bl =:Has.non =:Has.str =:Has.mm . =:yI.nil +HA:yI.cons . !a:- =a:SzQ.num =a:SzQ.den =ss:Sz.mul =ss:Sz.add' =ss:Sz.sub' =d:Sz.lit . !a:- =d:IntMulOk.of_left =d:IntMulOk.of_right =d:mulModOk =ssd:Sz.mulOk . !i:- !j:- !d:- !a:- . =_:List.Sublist.refl =_:List.nil_sublist +_u:List.Sublist.cons₂ +_u:List.Sublist.cons . =:Dats.nil +Hv:Dats.cons . !a:- =zz:SzQ.add =zz:SzQ.sub =zz:SzQ.mul =zz:SzQ.div . =:True.intro !a:- . aHHaak4:rd_gap . rk:iteSY Kk:iteSN k:rd_sortS k:rd_methB . k:rd_methB k:rd_lz . k:ET . k:rd_methB k:ET . =:kit_tt =:kit_tl =:kit_lt =:kit_ll =:kit_it =:kit_il =:kit_ib =:kit_ii =:kit_st =:kit_sl =:kit_sb =:kit_si =:kit_ss . =r:jcd . !d:_ !o:_ . !a:_ !o:_ . =dd:And.intro . =dt:And.intro ."
def mtK (k:Nat):String:=(mtTK.splitOn " ").getD k "."
def mtN (c:Char):Nat:=if c.isDigit then c.toNat - 48 else c.toNat - 87
def mtT:String:="`apv %`bWK # #`cfC`dtj`esZ # #`ffj #`gpix %`hpcl !3 hr #`ips_ret #`jCg _`kps_a % nd0 #`lEA hr`mps_if # # #`npg_c %`oqC # # # #`pBC`qpe_ix ix_seq # # !1`rop_eqA #`spe_tup #`tqD`ukZ #`vpe_op op_mulB # #`wpe_str`xpcf $ % & # # # #`ypgs_cons # #`zdh oR rfl B.len HN #`Ape_op BG # #`Bpe_lst #`Cpe_op op_mod # #`Dpg_a % nd0`Eps_expr #`Fps_for PassesOwn.never rfl # # #`Gpe_bl`Hpt_val #`Ipg_tup rfl #`Jpgs_nil`KPW.pt #`Lpe_un un_neg #`Mpw_or # #`Npscf % nd0 $ % & # # # #`Ope_op op_fdiv # #`Ppt_not #`Qop_neA #`Rpo_some #`Sdh # rfl B.sum bt_sum #`Tcall_sumA rfl`Upe_op op_sub # #`VqC op_gt # # #`WqC op_lt # # #`Xpe_slice sl_list # # #`Ypw_and # #`Zpe_bm PySem.F.plainAttrs_list PySem.F.slot_list_append PySem.F.type_list_append om # #`0pw_and1 #`1pe_op op_modN # #`2pe_callTy JQ rfl B.tuple bt_tuple #`3pw_or1 #`4po_none`5pe_ccall rfl Ya eY fi Zb # hr Za Zc pass0 #`6Zd.mono !2`7dh call_isi rfl B.isinstance GC #`8pe_op op_fdivB # #`9pif_one #`+pe_op op_pow # #`-pe_methA # # hr xq pass0`*ZS.mono !2`/pi_zip true true rfl B.zip #`<ps_while PassesOwn.never # #`>pi_range1 rfl B.range #`=pe_op op_addS # #`!pi_enum true rfl B.enumerate #`?Fh rfl rfl B2.sorted rfl B2.set #`@pe_and # #`#pe_one #`$pe_cmpR # # # #`%dh call_absA rfl B.abs bt_abs #`&fj td`^pi_zip false false rfl B.zip #`~pi_tup #`|ps_aug !6 nd0 rfl !7 # ip_add`:dh # rfl B.min HM #`.pe_methB # # hr YU pass0 #`,Vd.mono !2`;pe_bltn !4 rfl B.tuple bt_tuple rfl`_pe_callTy Ko rfl B.list bt_list #`(pe_fld # rfl`)pe_op op_rep # #`[pi_zip false true rfl B.zip #`]call_minL rfl`{ps_asg # #`}pe_bltn !4 rfl B.int bt_int rfl`αpe_not #`βpe_bltn !4 rfl B.bool bt_bool rfl`γqC Hu # # rfl`δdh # rfl B.max bt_max #`εcall_maxL rfl`ζpe_cmpR op_lt # # #`ηpi_enum false rfl B.enumerate #`θpi_rev rfl B.reversed #`ιps_fld # # rfl`κpe_bm PySem.F.plainAttrs_list PySem.F.slot_list_extend PySem.F.type_list_extend Kl # #`μpg_sub # # set_list`νpe_bm PySem.F.plainAttrs_list PySem.F.slot_list_extend PySem.F.type_list_extend mt_extend # #`ξpe_methB # # hr gC pass0 #`πgX.mono !2`ρqC op_ge # # #`σpe_lzip true false rfl rfl B.list rfl B.zip #`τps_par !6 !a rfl nd0 rfl rfl !b rfl rfl # rfl`υpe_cmpR op_gt # # #`φqC op_le # # #`χDw rfl`ψpe_make0 pF # hr rfl tS DX !8 pass0`ωEe.mono !2`Γpe_make0 pJ # hr rfl tW Eb !8 pass0`ΔEi.mono !2`Θpe_make0 pG # hr rfl tT DY !8 pass0`ΞEf.mono !2`Πpe_make0 pH # hr rfl tU DZ !8 pass0`ΣEg.mono !2`Φpe_make uq # hr rfl CT GU !8 pass0 #`ΨHd.mono !2`Ωpe_make uo # hr rfl CS GS !8 pass0 #`аHc.mono !2`бpe_make pI # hr rfl tV Ea !8 pass0 #`вEh.mono !2`гpe_make DK # hr rfl HE HP !8 pass0 #`дHX.mono !2`еpe_bltn !4 rfl B.list bt_list rfl"
def mtZ (w:String):Lean.MacroM Lean.Term:=do
 match w with
 |"_"=>`(_)
 |"!1"=>`(λ_ _=>rfl)
 |"!2"=>`(by walk_at "l")
 |"!5"=>return ⟨<-`(Lean.Parser.Term.namedArgument|(v:= .ref _))⟩
 |"!7"=>`(by walk_at "o")
 |"!8"=>`(.nil)
 |"!9"=>`(⟨_,rfl⟩)
 |"!a"=>return ⟨<-`(Lean.Parser.Term.namedArgument|(j:=1))⟩
 |"!b"=>`(by decide)
 |"!3"=>`(by assumption)
 |_=>return Lean.mkIdent w.toName
def mtG:Nat->List Char->Lean.MacroM (Lean.Term×List Char)
 |0,_=>Lean.Macro.throwUnsupported
 |_,[]=>Lean.Macro.throwUnsupported
 |k+1,c::r=>do
  let mut a:Array Lean.Term:=#[]
  let mut r:=r
  for w in ((((mtT.splitOn ("`"++c.toString)).getD 1 "").splitOn "`").head!).splitOn " " do
   if w=="#" then
    let p<-mtG k r
    a:=a.push p.1
    r:=p.2
   else if w=="%" then
    a:=a.push (Lean.quote (mtN r.head!))
    r:=r.tail!
   else if w=="$" then
    a:=a.push (Lean.quote ((String.ofList (r.takeWhile (·!=';'))).splitOn ","))
    r:=(r.dropWhile (·!=';')).tail!
   else if w=="&" then
    a:=a.push (Lean.quote ((r.takeWhile (·!=';')).map mtN))
    r:=(r.dropWhile (·!=';')).tail!
   else if w=="!4" then
    a:=a.push ⟨<-`(Lean.Parser.Term.namedArgument|(v:= .ty $(Lean.quote (String.ofList (r.takeWhile (·!=';')))):term))⟩
    r:=(r.dropWhile (·!=';')).tail!
   else if w=="!6" then
    a:=a.push ⟨<-`(Lean.Parser.Term.namedArgument|(i:=$(Lean.quote (mtN r.head!))))⟩
    r:=r.tail!
   else a:=a.push (<-mtZ w)
  return (Lean.Syntax.mkApp a[0]! (a.extract 1 a.size),r)
local macro_rules|`(tactic|walk_at $s:str)=>do
 match s.getString.toList with
 |'+'::r=>
  let i:=λs:String=>Lean.mkIdent s.toName
  `(tactic|refine $(i "F.oo") $(i (String.ofList r)) fun $(i "H") $(i "vs") $(i "Q") $(i "E") $(i "hr") $(i "nd0") $(i "h")=>?_)
 |'='::r=>
  let p<-mtG 999 r
  `(tactic|(refine ⟨_,$(p.1),kS ?_⟩;try dsimp only [kxx,kyy]))
 |_=>
  let w:=(" mem 127 has 130 hasall 136 sz 139 mul 147 mod 153 rd 0 sub 158 dats 163 szq 166 dom 172 q 190 N 204 x 206 y 209 t 212 T 214 div 212 ".splitOn (" "++s.getString++" ")).getD 1 ""
  if w=="" then Lean.Macro.throwUnsupported
  else `(tactic|first|fail $(Lean.quote ("&"++(w.splitOn " ").head!))|fail)
local macro_rules|`(tactic|fail $s:str)=>do
 match s.getString.toList with
 |'&'::r=>
  let k:=(String.ofList r).toNat! +1
  if mtK k=="." then Lean.Macro.throwUnsupported
  else `(tactic|fail $(Lean.quote ("&"++toString k)))
 |_=>Lean.Macro.throwUnsupported
local macro_rules|`(tactic|fail $s:str)=>do
 match s.getString.toList with
 |'&'::r=>
  let w:=mtK (String.ofList r).toNat!
  if w=="." then Lean.Macro.throwUnsupported
  else match w.splitOn ":" with
   |[c,n]=>mtY n.toName c.toList
   |_=>Lean.Macro.throwUnsupported
 |_=>Lean.Macro.throwUnsupported
local macro_rules|`(tactic|walk_at "n")=>`(tactic|(intro _ _ _ _ h;first|(obtain ⟨_,_,_,h,_⟩:=h;rw [<-h.len];rfl)|(obtain ⟨_,h,_⟩:=h;rw [<-h.len];rfl)|(obtain ⟨_,_,h,_⟩:=h;rw [<-h.len];rfl)|(obtain ⟨_,_,e,_⟩:=h;subst e;rfl)|(obtain ⟨_,_,_,e,_⟩:=h;subst e;rfl)|(obtain ⟨_,e,_⟩:=h;subst e;rfl)|(obtain ⟨_,_,_,_,e,_⟩:=h;subst e;rfl)|(obtain ⟨_,_,_,_,_,e,_⟩:=h;subst e;rfl)|(obtain ⟨_,_,_,_,_,_,e,_⟩:=h;subst e;rfl)))
local macro_rules|`(tactic|walk_at "walk")=>`(tactic|repeat walk_at "rd")
def EH (K:Frg):Sp:=λvs H Q _=>∃(a:Addr) (ns:List Int),vs=[.ref a]/\SqL K H a (ns.map V.int)/\ns.length<=63/\Only H/\∀H',Q (.bl true) H'
def US {P:Program} {w:World} {K:Frg} {mg:Str->Option Value} {base:Heap} {f:Addr} {fd:FuncData} {k:Nat} {x:Str} {st:Stmt} {ps:List Str} {sp:Sp} (F:Fun K x x st f fd) (G:FnOk P w K mg base CX0 k f fd ps sp) (hm:mg x=some (.ref f)) (b:xi K fd ps []):Cal P w K mg base CX0 k x ps sp:=⟨f,fd,G,hm,F.kp,b⟩
section
variable {P:Program} {w:World} {K:Frg} {mg:Str->Option Value} {base:Heap} {f:Addr} {fd:FuncData}
def top (i:Nat):Stmt:=PySem.Challenge.pw_shortpurse_k31_who_stays.main.body.getD i (.Pass ⟨0,0,0,0⟩)
abbrev Zk:Stmt:=top 22
def VT:FnScope ["one","two","rest"] pab (zk Zk):=xu
abbrev kK:Stmt:=top 21
def AV:FnScope ["top","bottom","divisor"] paI (zk kK):=xu
def spGcd:Sp:=λvs H Q _=>∃a b:Int,vs=[.int a, .int b]/\0<=a/\0<=b/\Q (.int (Int.gcd a b:Nat)) H
def ok_gcd (F:Fun K "greatest_divisor" "greatest_divisor" Zk f fd):FnOk P w K mg base CX0 1 f fd pab spGcd:=by
 walk_at "+VT";obtain ⟨a,b,rfl,ha,r,q⟩:=h;walk_at "=e<oQla1djek21a0a1ek0a1fk1a2fia0";refine pU (λm σ H2=>∃(x y:Int) (v:Option V),σ=[some (.int x),some (.int y),v]/\0<=x/\0<=y/\Int.gcd x y=Int.gcd a b/\H2=H/\m=y.toNat) _ ⟨a,b,none,rfl,ha,r,rfl,rfl,rfl⟩ ?_
 rintro m σ H2 ⟨x,y,v,rfl,hx,hy,hg,rfl,rfl⟩
 left;refine vh (λc=>?_) (λc=>?_)
 ·have c:y≠0:=by simpa using c
  left;have e:x.fmod y=x % y:=Tw x hy;have g:=jaF x c;have s:=jao x (show 0<y by omega);refine ⟨(x.fmod y).toNat,by rw [e];omega,y,x.fmod y,_,rfl,hy,by rw [e];exact g,?_,rfl,rfl⟩;rw [e,tQ,hg]
 ·have c:y=0:=by simpa using c
  subst c;left;have e:x=((Int.gcd a b:Nat):Int):=by rw [<-hg,Int.gcd_zero];omega
  show Q (.int x) H2;rw [e];exact q
def BV (B:Bl mg) (t:Cal P w K mg base CX0 1 "greatest_divisor" pab spGcd) (F:Fun K "lowest" "lowest" kK f fd):FnOk P w K mg base CX0 2 f fd paI Vg:=by
 walk_at "+AV";obtain ⟨G,⟨a,b⟩,s,r,⟨m,g⟩,k⟩:=h;cases (yF (ns:=[a,b]) r);have S:Sta H G H [] []:=Sta.enter s λp hp=>absurd hp Qp;dsimp only at m g k;walk_at "=ek2hb%ba0cb%ba1ccemWa1djfk2La2pfisb8a0a2b8a1a2c";left;refine ⟨_,_,rfl,⋯,⋯,?_⟩;rw [show Int.gcd (a.natAbs:Int) (b.natAbs:Int)=Int.gcd a b by simp;rfl];have u:0<Int.gcd a b:=jbA a m;left;refine Yy (λc=>?_) (λc=>?_)
 ·have q:CDv a (-((Int.gcd a b:Nat):Int)):=⟨⋯,g.le ⋯⟩;left;refine xE (by assumption) k (.mem ?_);rw [show frD (Rat.divInt a b)= .tuple [.int (a.fdiv (-((Int.gcd a b:Nat):Int))), .int (b.fdiv (-((Int.gcd a b:Nat):Int)))] by unfold frD;rw [<-(Cs c).1,<-(Cs c).2]];walk_at "mem"
 ·have q:CDv a ((Int.gcd a b:Nat):Int):=⟨⋯,g⟩;left;refine xE (by assumption) k (.mem ?_);rw [show frD (Rat.divInt a b)= .tuple [.int (a.fdiv ((Int.gcd a b:Nat):Int)), .int (b.fdiv ((Int.gcd a b:Nat):Int))] by unfold frD;rw [<-(bh (show 0<b by omega)).1,<-(bh (show 0<b by omega)).2]];walk_at "mem"
abbrev Bb:Stmt:=top 15
def Iy:FnScope pab pab (zk Bb):=xu
def Jf (I:Cal P w K mg base CX0 2 "lowest" paI Vg) (F:Fun K "plus" "plus" Bb f fd):FnOk P w K mg base CX0 3 f fd pab ni:=by
 walk_at "+Iy";obtain ⟨G,⟨p,q⟩,t,s,⟨⟨m,n,hp,g,u⟩,_⟩,k⟩:=h;obtain ⟨v,y,rfl,al⟩:=xB s;have S:Sta H G H [] _:=Sta.enter t al;dsimp only at hp g k S;have D:IntMulOk p.num (q.den:Int):=hp.1.mulOk g.2 ⋯;have C:IntMulOk q.num (p.den:Int):=g.1.mulOk hp.2 ⋯;have A:IntMulOk (p.den:Int) (q.den:Int):=hp.2.mulOk g.2 ⋯;have z:IntMulOk p.num q.num:=hp.1.mulOk g.1 ⋯;walk_at "=fihbAvg0g1vg1g0bvg0g1c";left;refine UG (by assumption) (xx p q) (bq hp g u) λr H' e S=>?_;rw [rT] at S;exact xE S k .mm
abbrev qw:Stmt:=top 16
def ER:FnScope pab pab (zk qw):=xu
def Fx (I:Cal P w K mg base CX0 2 "lowest" paI Vg) (F:Fun K "minus" "minus" qw f fd):FnOk P w K mg base CX0 3 f fd pab aA:=by
 walk_at "+ER";obtain ⟨G,⟨p,q⟩,t,s,⟨⟨m,n,hp,g,u⟩,_⟩,k⟩:=h;obtain ⟨v,y,rfl,al⟩:=xB s;have S:Sta H G H [] _:=Sta.enter t al;dsimp only at hp g k S;have D:IntMulOk p.num (q.den:Int):=hp.1.mulOk g.2 ⋯;have C:IntMulOk q.num (p.den:Int):=g.1.mulOk hp.2 ⋯;have A:IntMulOk (p.den:Int) (q.den:Int):=hp.2.mulOk g.2 ⋯;have z:IntMulOk p.num q.num:=hp.1.mulOk g.1 ⋯;walk_at "=fihbUvg0g1vg1g0bvg0g1c";left;refine UG (by assumption) (xx p q) (wu hp g u) λr H' e S=>?_;rw [Ax] at S;exact xE S k .mm
abbrev qv:Stmt:=top 17
def EN:FnScope pab pab (zk qv):=xu
def Fm (I:Cal P w K mg base CX0 2 "lowest" paI Vg) (F:Fun K "times" "times" qv f fd):FnOk P w K mg base CX0 3 f fd pab qc:=by
 walk_at "+EN";obtain ⟨G,⟨p,q⟩,t,s,⟨⟨m,n,hp,g,u⟩,_⟩,k⟩:=h;obtain ⟨v,y,rfl,al⟩:=xB s;have S:Sta H G H [] _:=Sta.enter t al;dsimp only at hp g k S;have D:IntMulOk p.num (q.den:Int):=hp.1.mulOk g.2 ⋯;have C:IntMulOk q.num (p.den:Int):=g.1.mulOk hp.2 ⋯;have A:IntMulOk (p.den:Int) (q.den:Int):=hp.2.mulOk g.2 ⋯;have z:IntMulOk p.num q.num:=hp.1.mulOk g.1 ⋯;walk_at "=fihbvg0g1bvg0g1c";left;refine UG (by assumption) (xx p q) (wx hp g u) λr H' e S=>?_;rw [Ci] at S;exact xE S k .mm
abbrev Bc:Stmt:=top 18
def Iz:FnScope pab pab (zk Bc):=xu
def Jg (D:Cal P w K mg base CX0 2 "lowest" paI Vg) (F:Fun K "over" "over" Bc f fd):FnOk P w K mg base CX0 3 f fd pab Hn:=by
 walk_at "+Iz";obtain ⟨G,⟨p,q⟩,u,t,⟨⟨m,n,hp,g,y⟩,h0⟩,k⟩:=h;obtain ⟨v,z,rfl,al⟩:=xB t;have S:Sta H G H [] _:=Sta.enter u al;dsimp only at hp g k S h0;have C:IntMulOk p.num (q.den:Int):=hp.1.mulOk g.2 ⋯;have A:IntMulOk (p.den:Int) q.num:=hp.2.mulOk g.1 ⋯;have s:=Hv h0;walk_at "=emorlg1dj&pfihbvg0g1bvg0g1c";left;refine Yy (λc=>absurd c s) (λ_=>?_);left;refine UG (by assumption) (Int.mul_ne_zero (Int.ne_of_gt (den_pos p)) s) (wA hp g s y) λr H' e S=>?_;rw [Dj p q h0] at S;exact xE S k .mm
abbrev kQ:Stmt:=top 19
def AZ:FnScope pab pab (zk kQ):=xu
def Cd (F:Fun K "before" "before" kQ f fd):FnOk P w K mg base CX0 1 f fd pab cZ:=by
 walk_at "+AZ";obtain ⟨⟨p,q⟩,r,⟨m,n,hp,g,y⟩,k⟩:=h;obtain ⟨v,s,rfl,al⟩:=xB r;have S:Sta H H H [] _:=Sta.enter (zS.refl _) al;dsimp only at hp g k S;have u:IntMulOk p.num (q.den:Int):=hp.1.mulOk g.2 ⋯;have t:IntMulOk q.num (p.den:Int):=g.1.mulOk hp.2 ⋯;walk_at "=fiζvg0g1vg1g0j";left;rw [show decide (p<q)=decide (p.num*(q.den:Int)<q.num*(p.den:Int)) from decide_eq_decide.mpr (Rat.lt_iff p q)] at k;exact k
abbrev Xc:Stmt:=top 41
def eI:FnScope ["amounts","amount","low","high","middle"] paP (zk Xc):=xu
def Jh (B:Bl mg) (T:Cal P w K mg base CX0 1 "before" pab cZ) (F:Fun K "last_reached" "last_reached" Xc f fd):FnOk P w K mg base CX0 2 f fd paP sL:=by
 walk_at "+eI";obtain ⟨qs,e,n,J,⟨y,U,D,I,hn,N⟩,k⟩:=h;obtain ⟨C,A,rfl,al⟩:=xB J;have S:Sta H H H [] [(.list (qs.map frD),C),(frD e,A)]:=Sta.enter (zS.refl _) al;have t:n+n<=100000000:=⋯
 walk_at "=ek2dek3zba0ce<VUa3a2djek4OAa2a3dfmHhba1bqa0a4cfk3a4fk2a4fia2";left
 refine pU (λm σ H2=>∃(low high:Nat) (z:Option V) (q:Rat),σ=[some C,some A,some (.int (low:Nat)),some (.int (high:Nat)),z]/\H2=H/\low<high/\high<=qs.length/\qs[low]? =some q/\q<=e/\(high=qs.length\/∃r,qs[high]? =some r/\e<r)/\m=high - low) (qs.length - 0) ⟨0,qs.length,none,qs[0],by
  rw [Qa];rfl,rfl,y,Qu _,Qb y,N _ (Qb y), .inl rfl,rfl⟩ ?_
 rintro m σ H2 ⟨low,high,z,q,rfl,rfl,hlh,hhn,hq,MB,Rh,rfl⟩
 left;refine vh (λc=>?_) (λc=>?_)
 ·have c:1<(high:Int) - low:=by simpa using c
  have em:((low:Int)+high) / 2=(((low+high) / 2:Nat):Int):=⋯
  have s:low<(low+high) / 2:=⋯
  have M:(low+high) / 2<high:=⋯
  left;rw [em];generalize (low+high) / 2=mid at*;have g:qs[mid]? =some (qs[mid]'⋯):=Qb _;generalize (qs[mid]'⋯)=p at*;refine xc (xs:=qs.map frD) (x:=frD p) S .mm (yl (by rw [Qh,g];rfl)) λwp O=>?_;have G:=D p (Qc g);refine nX (m:=n) (n:=n) O .mm .mm I G t ?_;left;refine Yy (λu=>?_) (λu=>?_)
  ·left;exact ⟨mid - low,⋯,low,mid,_,q,rfl,rfl,s,⋯,hq,MB, .inr ⟨p,g,u⟩,rfl⟩
  ·left;exact ⟨high - mid,⋯,mid,high,_,p,rfl,rfl,M,hhn,g,Tp.mp u,Rh,rfl⟩
 ·have c:¬1<(high:Int) - low:=by simpa using c
  have L:high=low+1:=⋯
  subst L;left;exact k low q hq MB Rh
abbrev Zw:Stmt:=top 37
def Uz:FnScope pav pav (zk Zw):=xu
def vE (O:Cal P w K mg base CX0 3 "minus" pab aA) (T:Cal P w K mg base CX0 3 "over" pab Hn) (F:Fun K "portion_reached" "portion_reached" Zw f fd):FnOk P w K mg base CX0 4 f fd pav Ut:=by
 walk_at "+Uz";obtain ⟨G,⟨s',N,x⟩,s,r,⟨⟨m,n,z1,z2,g,hz⟩,q⟩,k⟩:=h;obtain ⟨v1,v2,A,rfl,al⟩:=ZZ r;have S:Sta H G H [] _:=Sta.enter s al;dsimp only at z1 z2 g q k S;walk_at "=fihbhba2ba0cbhba1ba0cc";left;refine nR S .mm .mm g z1 ⋯ True.intro λI H1 M y=>?_;left;refine nR y .mm .mm z2 z1 ⋯ True.intro λD X L u=>?_;left;refine nR u .mm .mm (g.sub z1) (z2.sub z1) ⋯ (λz=>q (by grind)) λC U J t=>?_;exact xE t k .mm
abbrev Ub:Stmt:=top 38
def nF:FnScope pau pau (zk Ub):=xu
def Ce (O:Cal P w K mg base CX0 3 "plus" pab ni) (T:Cal P w K mg base CX0 3 "minus" pab aA) (I:Cal P w K mg base CX0 3 "times" pab qc) (F:Fun K "amount_at" "amount_at" Ub f fd):FnOk P w K mg base CX0 4 f fd pau dc:=by
 walk_at "+nF";obtain ⟨G,⟨s',N,t⟩,r,q,⟨m,n,z1,z2,g,hz⟩,k⟩:=h;obtain ⟨v1,v2,z,rfl,al⟩:=ZZ q;have S:Sta H G H [] _:=Sta.enter r al;dsimp only at z1 z2 g k S;walk_at "=fihba0bhba2bhba1ba0ccc";left;refine nR S .mm .mm z2 z1 ⋯ True.intro λD H1 M y=>?_;left;refine nR y .mm .mm g (z2.sub z1) ⋯ True.intro λC X L u=>?_;left;refine nR u .mm .mm z1 (g.mul (z2.sub z1)) ⋯ True.intro λA U J s=>?_;exact xE s k .mm
abbrev Yn:Stmt:=top 36
def cE:FnScope ["start","end","purse","portion"] paS (zk Yn):=xu
def vL (B:Bl mg) (cc:Cal P w K mg base CX0 4 "portion_reached" pav Ut) (sg:Cal P w K mg base CX0 4 "amount_at" pau dc) (F:Fun K "parts_between" "parts_between" Yn f fd):FnOk P w K mg base CX0 5 f fd paS dY:=by
 walk_at "+cE";obtain ⟨G,⟨c,d,e⟩,Y,T,⟨⟨m,n,z1,z2,g,hz⟩,q,O⟩,k⟩:=h;obtain ⟨v1,v2,v3,rfl,al⟩:=ZZ T;have S:Sta H G H [] _:=Sta.enter Y al;dsimp only at z1 z2 g q O k S;walk_at "=ek3hbg0bg1ba2cfi2bxone,two,portion;23;^bg0bg1cIyn0yn1Jthba0ba1ba2cc";left;rename_i M S1 L S2;refine jf S2 .mm .mm .mm z1.1 z2.1 g ⋯ (λz=>by rw [z] at q;exact jaX q) λr3 H3 e3 S3=>?_;have A:SzQ (m+3*n+2) ((e - c.1) / (d.1 - c.1)):=((g.sub z1.1).div (z2.1.sub z1.1)).mono ⋯;left;rename_i w4 S4 w5 s;unfold XS at k;generalize (e - c.1) / (d.1 - c.1)=t at*;refine kU (xs:=c.2.map frD) (ys:=d.2.map frD) s .mm .mm λJ I=>?_;refine yG I (λj=>frD ((List.zipWith (xY t) c.2 d.2).getD j 0)) (ys:=(List.zipWith (xY t) c.2 d.2).map frD) ?_ s (λ_ _=>⟨.mem (by right),λ_ _ h=>h.tail, .mem (by right)⟩) (by rw [yL,Qa,Qa];omega) (λj x v B' G' Kd Kn N t1 S hd C ex s0 H0=>?_) λD H1 e1 S1=>?_
 ·rw [yL,Qa,Qa,show min c.2.length d.2.length=(List.zipWith (xY t) c.2 d.2).length by rw [QC]];exact zm frD 0 _
 ·obtain ⟨x1,x2,X,U,rfl⟩:=Zt N;obtain ⟨n1,y,rfl⟩:=zL X;obtain ⟨r,u,rfl⟩:=zL U;refine xG (xF S .mm λM L S=>?_);refine yN (zH (yN (zH (Wc ⟨rfl,?_⟩))));left;refine nY S .mm .mm .mm (z1.2 n1 (Qc y)) (z2.2 r (Qc u)) A ⋯ λr6 H6 e6 Z=>?_;refine hd Z ?_;rw [zF (n:=xY t n1 r) (by rw [Qt,y,u])];exact .mem (by right)
 left;exact xE (by assumption) k .mm
abbrev aG:Stmt:=top 29
def qo:FnScope ["path","purse","place"] ["path","purse"] (zk aG):=xu
def vG (B:Bl mg) (iU:Cal P w K mg base CX0 2 "last_reached" paP sL) (DS:Cal P w K mg base CX0 5 "parts_between" paS dY) (F:Fun K "parts_at" "parts_at" aG f fd):FnOk P w K mg base CX0 6 f fd ["path","purse"] Uu:=by
 walk_at "+qo";obtain ⟨G,⟨a,e⟩,Y,X,⟨m,n,ok,u,hz,h0⟩,k⟩:=h;obtain ⟨v1,v2,rfl,al⟩:=xB X;have S:Sta H G H [] _:=Sta.enter Y al;dsimp only at ok u h0 k S;have few:=ok.few
 have Nj:¬e.num<0:=by
  have:=Rat.num_nonneg.mpr h0;omega
 have O:0<a.length:=jaP.mpr ok.ne;walk_at "=emWg1dj&pek2hbxcorner;1;ua0n0tg0ba1cemorla2Uzba0cdjfiqqa0a2dpfihbqa0a2bqa0Aa2dba1c";left;refine Yy (λc=>absurd c Nj) (λ_=>?_);left;refine zM (xs:=a.map zN) S .mm λJ M=>?_;refine ye M (λj=>frD ((λc:zh=>c.1) (a.getD j (0,[])))) (ys:=(a.map λc=>c.1).map frD) (by rw [Qa,Qm];exact zm (λc:zh=>frD c.1) (0,[]) a) S (λj x v=>λT t1 S hd=>?_) λD H1 e1 s=>?_
 ·obtain ⟨c,g,rfl⟩:=zL T;refine zH ⟨rfl,?_⟩;left;refine hd (by assumption) ?_;rw [zF g];exact .mem (by right)
 left;refine Bq (qs:=a.map λc=>c.1) (e:=e) (n:=9000) s (s.hpC (by right)) (s.hp .mm) ⟨by rw [Qa];exact O,by rw [Qa];omega,λq y=>?_,u.mono ⋯,nofun,λq y=>?_⟩ λi q U MB Oe=>?_
 ·obtain ⟨c,g,rfl⟩:=Qj.mp y;exact (ok.sz c g).1.mono ⋯
 ·obtain ⟨c,g,rfl⟩:=zL y;rw [ok.zero c g];exact h0
 obtain ⟨c,g,rfl⟩:=zL U;have C:i<a.length:=(Qd.mp g).1
 have key:=Zm (E:=e) ok.rise g MB (by
  rcases Oe with h|⟨r,t,h⟩
  ·exact Or.inl ‹h›
  ·obtain ⟨d,hd,rfl⟩:=zL t
   exact .inr ⟨d,hd,h⟩)
 left;refine Yy (λz=>?_) (λz=>?_)
 ·rw [Qa] at z;rw [QD (show a.length<=i+1 by omega)] at key;left;refine xc (xs:=a.map zN) (x:=zN c) s .mm (yl (by rw [Qh,g];rfl)) λN A=>?_;left;rw [key] at k;exact xE (by assumption) k .mm
 ·rw [Qa] at z;have L:i+1<a.length:=⋯
  have hd:=Qb L;have t:=ok.rise;unfold yr at t;rw [QO] at t;have I:=t i (i+1) C L ⋯;rw [List.getElem_eq_iff C|>.mpr g] at I;generalize a[i+1]=d at*;rw [hd] at key;left;refine xc (xs:=a.map zN) (x:=zN c) s .mm (yl (by rw [Qh,g];rfl)) λN A=>?_;left;refine xc (xs:=a.map zN) (x:=zN d) A .mm (by rw [show ((i:Nat):Int)+1=((i+1:Nat):Int) by omega];exact yl (by rw [Qh,hd];rfl)) λwd S3=>?_;left;refine vv S3 .mm .mm .mm (ok.sz c (Qc g)) (ok.sz d (Qc hd)) u hz I (ok.len c (Qc g)) λr4 H4 e4 Z=>?_;rw [key] at k;exact xE Z k .mm
local macro_rules|`(tactic|walk_at "rd")=>`(tactic|first|fail "&175"|fail)
abbrev IA:Stmt:=top 35
def sc_gap:FnScope pab pab (zk IA):=xu
abbrev XZ:Stmt:=top 34
def ij:FnScope ["ahead","corner","following","near","far","place","start","rise","whole"] paF (zk XZ):=xu
abbrev eO:Stmt:=top 28
def uU:FnScope ["corners","last"] ["corners"] (zk eO):=xu
def ok_gap (F:Fun K "gap" "gap" IA f fd):FnOk P w K mg base CX0 1 f fd pab Iu:=by
 walk_at "+sc_gap";obtain ⟨G,⟨p,q⟩,r,m,⟨hp,g⟩,k⟩:=h;obtain ⟨v,s,rfl,al⟩:=xB m;have S:Sta H G H [] _:=Sta.enter r al;dsimp only at hp g k S;have y:IntMulOk q.num (p.den:Int):=g.1.mulOk hp.2 nofun;have u:IntMulOk p.num (q.den:Int):=hp.1.mulOk g.2 nofun;have t:IntMulOk (p.den:Int) (q.den:Int):=hp.2.mulOk g.2 nofun;walk_at "=fisbUvg1g0vg0g1bvg0g1c";left;exact xE (by assumption) k .mm
def qH (B:Bl mg) (Lb:Cal P w K mg base CX0 1 "gap" pab Iu) (F:Fun K "is_straight" "is_straight" XZ f fd):FnOk P w K mg base CX0 2 f fd paF Im:=by
 walk_at "+ij";obtain ⟨⟨a,b,c⟩,hA,⟨sa,sb,sc,l1,l2,l3⟩,k⟩:=h;obtain ⟨U,T,O,rfl,al⟩:=ZZ hA;have S:Sta H H H [] _:=Sta.enter (zS.refl _) al;dsimp only at sa sb sc l1 l2 l3 k S;have za:=sa.1;have zb:=sb.1;have zc:=sc.1;have zn:=tR za zb;have C:=tR za zc;walk_at "=ek3hbg0bg1cek4hbg0bg2ceFηbg0cIyD5yD6Jek7hba6bqg1a5cek8hba6bqg2a5cfmoQlvvvg7g3g8g4vvvg8g4g7g3jfiGpfiG";left;rename_i w1 _ w2 _ M H1 e1 S1 w3 _ w4 _ N H2 e2 S2 w5 S3;refine IQ (xs:=a.2.map frD) S3 .mm λJ wk=>?_;have S4:Sta H H H2 [] [(ym a.2,w5),(Km a.1 b.1,M),(Km a.1 c.1,N),(zN a,U),(zN b,T),(zN c,O)]:=S3.dat ‹()›
 refine Zp wk (λi σ cs ds=>∃(L I G D:Option V),σ=[some U,some T,some O,some M,some N,L,I,G,D]/\cs=[]/\ds=[(ym a.2,w5),(Km a.1 b.1,M),(Km a.1 c.1,N),(zN a,U),(zN b,T),(zN c,O)]/\
  ∀(j:Nat) (x y z:Rat),j<i->a.2[j]? =some x->b.2[j]? =some y->c.2[j]? =some z->(y - x)*(c.1 - a.1)=(z - x)*(b.1 - a.1)) S4 ⟨none,none,none,none,rfl,rfl,rfl,λj x y z hj=>absurd hj (Nat.not_lt_zero _)⟩ (λi σ cs ds h=>?_) ?_ ?_
 ·obtain ⟨_,_,_,_,_,_,rfl,_⟩:=h;exact .mem (by right)
 ·rintro i x u σ H5 cs ds s ⟨L,I,G,D,rfl,rfl,rfl,inv⟩ S5
  obtain ⟨x0,Mh,rfl⟩:=Vo s;obtain ⟨p,hp,rfl⟩:=zL Mh;have hi:i<a.2.length:=(Qd.mp hp).1;have t:b.2[i]? =some (b.2[i]'⋯):=Qb _;have A:c.2[i]? =some (c.2[i]'⋯):=Qb _;generalize (b.2[i]'⋯)=q at*;generalize (c.2[i]'⋯)=r at*;have zp:SzQ 2000 p:=sa.2 p (Qc hp);have zq:SzQ 2000 q:=sb.2 q (Qc t);have zr:SzQ 2000 r:=sc.2 r (Qc A);have g:=tR zp zq;have m:=tR zp zr;have ib:atI (b.2.map frD) ((i:Nat):Int)=some (frD q):=yl (by rw [Qh,t];rfl);have ic:atI (c.2.map frD) ((i:Nat):Int)=some (frD r):=yl (by rw [Qh,A];rfl);refine xG (xF S5 .mm λu1 u2 S6=>?_);cases S6.int1;left;rename_i u3 S7;refine cu (xs:=b.2.map frD) S7 .mm ib λu4 S8=>?_;left;rename_i vr H9 e9 S9 u5 LX;refine cu (xs:=c.2.map frD) LX .mm ic λu6 LW=>?_;have m1:=g.1.mul zn.2;have m2:=m1.mul m.2;have m3:=m.1.mul C.2;have m4:=m3.mul g.2;have o1:=g.1.mulOk zn.2 nofun;have o2:=m1.mulOk m.2 nofun;have o3:=m2.mulOk C.1 nofun;have o4:=m.1.mulOk C.2 nofun;have o5:=m3.mulOk g.2 nofun;have o6:=m4.mulOk zn.1 nofun;left
  have cr:=Ds (rn:=q.num*(p.den:Int) - p.num*(q.den:Int)) (rd:=(p.den:Int)*(q.den:Int)) (nn:=b.1.num*(a.1.den:Int) - a.1.num*(b.1.den:Int)) (nd:=(a.1.den:Int)*(b.1.den:Int))
   (wn:=r.num*(p.den:Int) - p.num*(r.den:Int)) (wd:=(p.den:Int)*(r.den:Int)) (fn:=c.1.num*(a.1.den:Int) - a.1.num*(c.1.den:Int)) (fd:=(a.1.den:Int)*(c.1.den:Int)) (xx _ _) (xx _ _) (xx _ _) (xx _ _)
  rw [lS,lS,lS,lS] at cr;refine CH (λz=>?_) (λz=>?_)
  ·left;have LP:¬zR a b c:=λst=>z (cr.mp (st i _ _ _ hp t A));rw [show (@decide (zR a b c) (Classical.propDecidable _))=false from @decide_eq_false _ (Classical.propDecidable _) LP] at k;exact ret_B (by assumption) k
  ·left;rename_i vw NR PH Me;refine YD (Me.dat ‹()›) ⟨_,_,_,_,rfl,rfl,rfl,λj x y z' hj Y Z X=>?_⟩
   by_cases SF:j<i
   ·exact inv j x y z' SF Y Z X
   ·have:j=i:=⋯
    subst this;rw [hp] at Y;rw [t] at Z;rw [A] at X;cases Y;cases Z;cases X;exact cr.mpr z
 ·rintro σ H5 cs ds ⟨L,I,G,D,rfl,rfl,rfl,inv⟩ S5
  left
  have LP:zR a b c:=λi x y z s hy hz=>inv i x y z (by
   have:=(Qd.mp s).1
   rw [xV,Qa];exact this) s hy hz
  rw [show (@decide (zR a b c) (Classical.propDecidable _))=true from @decide_eq_true _ (Classical.propDecidable _) LP] at k;exact ret_B S5 k
def vB (B:Bl mg) (Hf:Cal P w K mg base CX0 2 "is_straight" paF Im) (F:Fun K "thinned" "thinned" eO f fd):FnOk P w K mg base CX0 3 f fd ["corners"] dS:=by
 walk_at "+uU";obtain ⟨G,a,eG,hA,⟨m,ok⟩,k⟩:=h;obtain ⟨v0,rfl,al⟩:=Yz hA;have S:Sta H G H [] _:=Sta.enter eG al;have few:=ok.few;walk_at "=ek1Uzba0cdfixplace,corner,corners,last;201;!ba0cIyn0yn1J9KMorla0djMorla0a3j3PHhbqa2Ua0dba1bqa2Aa0dca1";left;refine kW (xs:=a.map zN) S .mm λJ wk=>?_;refine WX wk (λj=>if Yx a j then (a[j]?).map zN else none) S (λ_ _=> .mem (by right)) (by rw [xV,Qa];omega) (λi x v B' G' Kd Kn u t1 S hd hn C ex s0 H0=>?_) λD H1 e1 Z=>?_
 ·obtain ⟨x0,Mh,rfl⟩:=Vo u;obtain ⟨c,s,rfl⟩:=zL Mh;have hi:i<a.length:=(Qd.mp s).1;refine xG (xF S .mm λu1 U A=>?_);cases A.int1;refine yN (zH (yN (zH (Wc ⟨rfl,?_⟩))));rw [s] at hd hn;have yes:Yx a i=true->∀{g:Hp} {cs':yp} {ds':Dat},Sta B' G' g cs' ds'->Has ds' (zN c) U->Kd U g:=λhk {g cs' ds'} r h5=>hd (by rw [hk];rfl) r h5;have no:Yx a i=false->∀{g:Hp} {cs':yp} {ds':Dat},Sta B' G' g cs' ds'->Kn g:=λhk {g cs' ds'} r=>hn (by rw [hk];rfl) r;left;refine Yy (λc0=>?_) (λc0=>?_)
  ·left;exact yes (Xw (.inl ⋯)) A .mm
  ·left;refine Yy (λM=>?_) (λM=>?_)
   ·left;rw [Qa] at M;exact yes (Xw (.inr (.inl ⋯))) A .mm
   ·rw [Qa] at M;have h0:i - 1<a.length:=⋯
    have Y:i+1<a.length:=⋯
    have I:=Qb h0;have g2:=Qb Y;have t:=Tf h0;have O:=Tf Y;generalize a[i - 1]=N at*;generalize a[i+1]=L at*;have T:=Qc s;left;refine xc (xs:=a.map zN) (x:=zN N) A .mm (HQ ⋯ (by rw [show ((i:Int) - 1).toNat=i - 1 by omega,Qh,I];rfl)) λu3 S3=>?_;left;refine xc (xs:=a.map zN) (x:=zN L) S3 .mm (HQ ⋯ (by rw [show ((i:Int)+1).toNat=i+1 by omega,Qh,g2];rfl)) λu4 S4=>?_;left;refine rd_str S4 .mm .mm .mm (ok.sz _ t) (ok.sz _ T) (ok.sz _ O) (by rw [ok.len _ T,ok.len _ t]) (by rw [ok.len _ O,ok.len _ t]) (by rw [ok.len _ t];exact ok.m) λg r=>?_;left;refine @CH _ _ _ (_) (λz=>?_) (λz=>?_)
    ·left;exact yes (Xw (.inr (.inr λq=>z (q _ _ _ I s g2)))) r .mm
    ·refine no ?_ r;refine jw ?_
     rintro (q|q|q)
     ·omega
     ·omega
     ·refine q λx y z' u X hz=>?_;rw [I] at u;rw [s] at X;rw [g2] at hz;cases u;cases X;cases hz;exact z
 ·left;rw [xV,Qa,vZ] at Z;exact xR Z k
abbrev VU:Stmt:=top 39
def nu:FnScope pah pah (zk VU):=xu
def oh (B:Bl mg) (cC:Cal P w K mg base CX0 3 "plus" pab ni) (F:Fun K "plus_each" "plus_each" VU f fd):FnOk P w K mg base CX0 4 f fd pah (nj λp q=>p+q):=by
 walk_at "+nu";obtain ⟨G,⟨p,q⟩,L,z,⟨s1,s2,y⟩,k⟩:=h;obtain ⟨v,X,rfl,al⟩:=xB z;have S:Sta H G H [] _:=Sta.enter L al;dsimp only at s1 s2 y k S;walk_at "=fi2bxone,two;2;^ba0ba1cIyn0yn1Jthba0ba1cc";left;refine kU (xs:=p.map frD) (ys:=q.map frD) S .mm .mm λJ t=>?_;refine yG t (λj=>frD ((List.zipWith (λp q=>p+q) p q).getD j 0)) (ys:=(List.zipWith (λp q=>p+q) p q).map frD) ?_ S (λ_ _=>⟨.mem (by right),λ_ _ h=>h.tail, .mem (by right)⟩) (by rw [yL,Qa,Qa];omega) (λj x v B' G' Kd Kn u t1 S hd C ex s0 H0=>?_) λD H1 Z S1=>?_
 ·rw [yL,Qa,Qa,show min p.length q.length=(List.zipWith (λp q=>p+q) p q).length by rw [QC]];exact zm frD 0 _
 ·obtain ⟨O,N,I,A,rfl⟩:=Zt u;obtain ⟨n1,s,rfl⟩:=zL I;obtain ⟨g,m,rfl⟩:=zL A;have z1:=s1 n1 (Qc s);have z2:=s2 g (Qc m);refine xG (xF S .mm λU T S=>?_);refine yN (zH (yN (zH (Wc ⟨rfl,?_⟩))));left;rename_i r H2 Y M;refine hd M ?_;rw [zF (n:=n1+g) (by rw [Qt,s,m])];exact .mem (by right)
 left;exact xE (by assumption) k .mm
abbrev VV:Stmt:=top 40
def nv:FnScope pah pah (zk VV):=xu
def oi (B:Bl mg) (Xk:Cal P w K mg base CX0 3 "minus" pab aA) (F:Fun K "less_each" "less_each" VV f fd):FnOk P w K mg base CX0 4 f fd pah (nj λp q=>p - q):=by
 walk_at "+nv";obtain ⟨G,⟨p,q⟩,L,z,⟨s1,s2,y⟩,k⟩:=h;obtain ⟨v,X,rfl,al⟩:=xB z;have S:Sta H G H [] _:=Sta.enter L al;dsimp only at s1 s2 y k S;walk_at "=fi2bxone,two;2;^ba0ba1cIyn0yn1Jthba0ba1cc";left;refine kU (xs:=p.map frD) (ys:=q.map frD) S .mm .mm λJ t=>?_;refine yG t (λj=>frD ((List.zipWith (λp q=>p - q) p q).getD j 0)) (ys:=(List.zipWith (λp q=>p - q) p q).map frD) ?_ S (λ_ _=>⟨.mem (by right),λ_ _ h=>h.tail, .mem (by right)⟩) (by rw [yL,Qa,Qa];omega) (λj x v B' G' Kd Kn u t1 S hd C ex s0 H0=>?_) λD H1 Z S1=>?_
 ·rw [yL,Qa,Qa,show min p.length q.length=(List.zipWith (λp q=>p - q) p q).length by rw [QC]];exact zm frD 0 _
 ·obtain ⟨O,N,I,A,rfl⟩:=Zt u;obtain ⟨n1,s,rfl⟩:=zL I;obtain ⟨g,m,rfl⟩:=zL A;have z1:=s1 n1 (Qc s);have z2:=s2 g (Qc m);refine xG (xF S .mm λU T S=>?_);refine yN (zH (yN (zH (Wc ⟨rfl,?_⟩))));left;rename_i r H2 Y M;refine hd M ?_;rw [zF (n:=n1 - g) (by rw [Qt,s,m])];exact .mem (by right)
 left;exact xE (by assumption) k .mm
abbrev kD:Stmt:=top 30
def AO:FnScope ["path","end"] ["path"] (zk kD):=xu
def BI (B:Bl mg) (Z:Cal P w K mg base CX0 3 "minus" pab aA) (Kf:Cal P w K mg base CX0 4 "less_each" pah (nj λp q=>p - q)) (F:Fun K "turned" "turned" kD f fd):FnOk P w K mg base CX0 5 f fd ["path"] cX:=by
 walk_at "+AO";obtain ⟨G,a,M,L,ok,k⟩:=h;obtain ⟨v0,rfl,al⟩:=Yz L;have S:Sta H G H [] _:=Sta.enter M al;have few:=ok.few;obtain ⟨T,y⟩:=ok.last;have g:=ok.sz _ y;have z:=g.1;walk_at "=ek1qa0Ldfixcorner,end;11;θba0cn0tsbhbg1bg0cbhbg1bg0cc";left;refine xc (xs:=a.map zN) (x:=zN (lastC a)) S .mm (uj (by rw [jaO,T];rfl)) λU u=>?_;left;refine IM (xs:=a.map zN) u .mm λJ I=>?_;refine yG I (λj=>zN (VO (lastC a) (a.reverse.getD j (0,[])))) (ys:=(yu a).map zN) ?_ u (λ_ _=> .mem (by right)) (by rw [TK,Qa];omega) (λj x v B' G' Kd Kn s t1 S hd C ex s0 H0=>?_) λD H2 Y O=>?_
 ·unfold yu;rw [Qm,TK,Qa,<-TK];exact zm (λc=>zN (VO (lastC a) c)) (0,[]) _
 ·rw [<-List.map_reverse] at s;obtain ⟨c,t,rfl⟩:=zL s;have N:c∈a:=jbJ.mp (Qc t);have m:=ok.sz c N;have A:=m.1;refine zH ⟨rfl,?_⟩;left;refine Bv (p:=(lastC a).2) (q:=c.2) (by assumption) .mm .mm g.2 m.2 (ok.len _ y) λr H3 X S3=>?_;left;refine hd (by assumption) ?_;rw [zF t];exact .mem (by right)
 exact xR O k
abbrev kG:Stmt:=top 31
def AS:FnScope paT paT (zk kG):=xu
def BM (B:Bl mg) (mG:Cal P w K mg base CX0 3 "times" pab qc) (F:Fun K "scaled" "scaled" kG f fd):FnOk P w K mg base CX0 4 f fd paT jZ:=by
 walk_at "+AS";obtain ⟨G,⟨a,p⟩,L,I,⟨ok,t⟩,k⟩:=h;obtain ⟨v0,vp,rfl,al⟩:=xB I;have S:Sta H G H [] _:=Sta.enter L al;dsimp only at ok t k S;have few:=ok.few;walk_at "=fixcorner,portion;11;ua0n0tsbhbg0ba1cb2bxpart,portion;11;~g0n0thba0ba1ccc";left;refine zM (xs:=a.map zN) S .mm λJ z=>?_;refine ye z (λj=>zN ((λc:zh=>(c.1*p,c.2.map (·*p))) (a.getD j (0,[])))) (ys:=(zU p a).map zN) ?_ S (λj x v=>λA t1 S hd=>?_) λD H2 e2 s=>?_
 ·unfold zU;rw [Qm,Qa];exact zm (λc=>zN ((λc:zh=>(c.1*p,c.2.map (·*p))) c)) (0,[]) _
 ·obtain ⟨c,g,rfl⟩:=zL A;have m:=ok.sz c (Qc g);have u:=m.1;have lc:=ok.len c (Qc g);refine zH ⟨rfl,?_⟩;left;rename_i Z S1 r1 H1 e1 s Y r;refine qB (xs:=c.2.map frD) r .mm λJ2 N=>?_;refine yG N (λj=>frD (c.2.getD j 0*p)) (ys:=(c.2.map (·*p)).map frD) (by rw [Qa,Qm];exact zm (λx=>frD (x*p)) 0 c.2) r (λ_ _=> .mem (by right)) (by rw [Qa];exact lc) (λj x v B' G' U T O t2 S hd2 C ex s0 H0=>?_) λD2 H4 e4 S4=>?_
  ·obtain ⟨y,q,rfl⟩:=zL O;have X:=m.2 y (Qc q);refine zH ⟨rfl,?_⟩;left;rename_i r5 H5 e5 M;refine hd2 M ?_;rw [zF q];exact .mem (by right)
  left;refine hd (by assumption) ?_;rw [zF g];exact .mem (by right)
 exact xR s k
abbrev kP:Stmt:=top 32
def AY:FnScope ["path","second","end","moved"] paM (zk kP):=xu
def Cc (B:Bl mg) (cC:Cal P w K mg base CX0 3 "plus" pab ni) (Ke:Cal P w K mg base CX0 4 "plus_each" pah (nj λp q=>p+q)) (pQ:Cal P w K mg base CX0 3 "thinned" ["corners"] dS) (F:Fun K "behind" "behind" kP f fd):FnOk P w K mg base CX0 5 f fd paM Uw:=by
 walk_at "+AY";obtain ⟨G,⟨a,b⟩,eG,Y,⟨ok,s,m,L⟩,k⟩:=h;obtain ⟨v0,v1,rfl,al⟩:=xB Y;have S:Sta H G H [] _:=Sta.enter eG al;dsimp only at ok s L k S;have few:=ok.few;have A:=s.few;obtain ⟨LQ,M⟩:=ok.last;have u:=ok.sz _ M;have N:=u.1;walk_at "=ek2qa0LdeN3corner,end;12;uXa1Rd4n0tsbhbg1bg0cbhbg1bg0ccfihbAa0a3c";left;refine xc (xs:=a.map zN) (x:=zN (lastC a)) S .mm (uj (by rw [jaO,LQ];rfl)) λve S1=>?_;left;refine nN (xs:=b.map zN) S1 .mm λl2 H2 e2 t=>?_
 have Z:oN (b.map zN) (some 1) none=b.tail.map zN:=by
  unfold oN;rw [HT.sIx_none,show (some (1:Int))=some ((1:Nat):Int) from rfl,HT.sIx_nat,Qa];have X:1<=b.length:=jaP.mpr s.ne;rw [Nat.min_eq_left X,QQ (by rw [Tz,Qa];exact Qu _),<-List.map_drop,List.drop_one]
 rw [Z] at t;refine Br (xs:=b.tail.map zN) t (by right) λJ T=>?_;refine yG T (λj=>zN (Vy (lastC a) (b.tail.getD j (0,[])))) (ys:=(yE a b).map zN) ?_ t (λ_ _=>Qf _ (by right)) (by rw [Qa,jaW];omega) (λj x v B' G' Kd Kn U t1 S hd C ex s0 H0=>?_) λD H3 e3 g=>?_
 ·unfold yE;rw [Qm,Qa];exact zm (λc=>zN (Vy (lastC a) c)) (0,[]) _
 ·obtain ⟨c,z,rfl⟩:=zL U;have cm:c∈b:=jad (Qc z);have y:=s.sz c cm;have O:=y.1;refine zH ⟨rfl,?_⟩;left;refine Bv (p:=(lastC a).2) (q:=c.2) (by assumption) .mm .mm u.2 y.2 (ok.len _ M) λr H3 e3 g=>?_;left;refine hd (by assumption) ?_;rw [zF z];exact .mem (by right)
 left;obtain ⟨pa,rfl⟩:=g.refL (xs:=a.map zN) (v:=v0) .mm
 refine ZG g (g.vwL (xs:=a.map zN) .mm) (g.vwC (by right)) (by
  rw [Qa,Qa];unfold yE
  rw [Qa,jaW];omega) λp4 H4 e4 I=>?_
 rw [<-QM] at I;have S5:=I.freeze;left;refine vi (a:=a++yE a b) S5 .mm L λp6 H6 e6 S6=>?_;exact xR (S6.weak (cs':=[_]) (by walk_at "sub") Dats.nil) k
section
variable {fS fT Ru:Addr} {A:RAd}
noncomputable abbrev Yp:Stmt:=ZM (top 58) 0
def Wm:FnScope pae pae (zk Yp):=xu
def Fq (F:Fun K "__init__" "Rule.__init__" Yp f fd):FnOk P w K mg base CX0 1 f fd pae (YY K fS fT Ru):=by
 refine F.ok Wm (λvs H Q E h=>?_) (λy A outer s H vs Q E hr h=>?_)
 ·obtain ⟨C,ok,G,d,x,m,us,rfl,_,_,_,g,_⟩:=h;rw [Qy,<-g.len];rfl
 obtain ⟨C,ok,G,d,x,m,us,rfl,u,t,q,g,k⟩:=h;obtain ⟨v,rfl,al⟩:=Yz g;have nd0:=Wm.nd;walk_at "=fιa0a1";refine ⟨v,rfl, .ref x,rfl,x,C,m,[],rfl,q,ok.cl,ok.na,nofun,?_⟩;refine k _ G v (λp o hp r=>by rw [yh hp];exact r) (zS.refl _) (λp o hp=>?_) (λ_ _=>rfl) ?_ (al _ (Qv.mpr rfl))
 ·rw [yh (yj hp t)];exact u p o hp
 ·rw [yM];rfl
noncomputable abbrev WD:Stmt:=ZM (top 58) 1
def kA:FnScope pac pac (zk WD):=xu
def Fo (s:∀r:Rl,ROk K fS fT Ru (A.cls r)) (F:Fun K "shape" "Rule.shape" WD f fd):FnOk P w K mg base CX0 1 f fd pac (ax A):=by
 walk_at "+kA";obtain ⟨G,r,m,g,_,k⟩:=h;obtain ⟨v,rfl,al⟩:=Yz g;have S:Sta H G H [] _:=Sta.enter m al;walk_at "=fi(a0";refine rd_ret (rd_fld ?_);left;refine Bs S .mm (s r) λw q=>?_;exact xE q k .mm
noncomputable abbrev Zz:Stmt:=ZM (top 59) 0
def YF:FnScope pac pac (zk Zz):=xu
def ik (Ya:mg "Rule"=some (.ref Ru)) (eY:PySem.W.specialIn K (.ref Ru) "__getattribute__"=some (some (.builtin "type.__getattribute__"))) (fi:PySem.W.readsIn K Ru (.type "type")=true) {m:Addr} {q:FuncData} (Zb:PySem.W.findCls K (.ref Ru) (.type "type") "__init__"=some (.val (.ref m))) (Zd:FnOk P w K mg base CX0 1 m q pae (YY K fS fT Ru)) (Za:PySem.W.keepIn K (.ref m)=true) (Zc:xi K q pae []) (ok:ROk K fS fT Ru (A.cls .shares)) (F:Fun K "__init__" "Shares.__init__" Zz f fd):FnOk P w K mg base CX0 2 f fd pac (xj (A.cls .shares) (α:=Unit) (λ_=>[]) (λ_=>Rl.shares.shape)):=by
 refine F.ok YF (λvs H Q E h=>?_) (λN A outer s H vs Q E hr h=>?_)
 ·obtain ⟨G,d,x,L,us,rfl,_,_,_,g,_⟩:=h;rw [Qy,<-g.len];rfl
 obtain ⟨G,d,x,L,us,rfl,J,I,r,g,k⟩:=h;rw [zJ] at g;subst g;have S:Sta H G H [] []:=Sta.enter J λp hp=>absurd hp Qp;have nd0:=YF.nd;walk_at "=fE56ba0bsbwcc";left;refine YK (d:=Rl.shares.shape) (by assumption) I r ok .mm λH' M w D C z y u t=>?_;exact k H' M w D C z y u t
noncomputable abbrev ZE:Stmt:=ZM (top 60) 0
def YJ:FnScope pac pac (zk ZE):=xu
def iw (Ya:mg "Rule"=some (.ref Ru)) (eY:PySem.W.specialIn K (.ref Ru) "__getattribute__"=some (some (.builtin "type.__getattribute__"))) (fi:PySem.W.readsIn K Ru (.type "type")=true) {m:Addr} {q:FuncData} (Zb:PySem.W.findCls K (.ref Ru) (.type "type") "__init__"=some (.val (.ref m))) (Zd:FnOk P w K mg base CX0 1 m q pae (YY K fS fT Ru)) (Za:PySem.W.keepIn K (.ref m)=true) (Zc:xi K q pae []) (ok:ROk K fS fT Ru (A.cls .evenly)) (F:Fun K "__init__" "Evenly.__init__" ZE f fd):FnOk P w K mg base CX0 2 f fd pac (xj (A.cls .evenly) (α:=Unit) (λ_=>[]) (λ_=>Rl.evenly.shape)):=by
 refine F.ok YJ (λvs H Q E h=>?_) (λN A outer s H vs Q E hr h=>?_)
 ·obtain ⟨G,d,x,L,us,rfl,_,_,_,g,_⟩:=h;rw [Qy,<-g.len];rfl
 obtain ⟨G,d,x,L,us,rfl,J,I,r,g,k⟩:=h;rw [zJ] at g;subst g;have S:Sta H G H [] []:=Sta.enter J λp hp=>absurd hp Qp;have nd0:=YJ.nd;walk_at "=fE56ba0bsbwcc";left;refine YK (d:=Rl.evenly.shape) (by assumption) I r ok .mm λH' M w D C z y u t=>?_;exact k H' M w D C z y u t
noncomputable abbrev ZA:Stmt:=ZM (top 61) 0
def YG:FnScope pac pac (zk ZA):=xu
def iq (Ya:mg "Rule"=some (.ref Ru)) (eY:PySem.W.specialIn K (.ref Ru) "__getattribute__"=some (some (.builtin "type.__getattribute__"))) (fi:PySem.W.readsIn K Ru (.type "type")=true) {m:Addr} {q:FuncData} (Zb:PySem.W.findCls K (.ref Ru) (.type "type") "__init__"=some (.val (.ref m))) (Zd:FnOk P w K mg base CX0 1 m q pae (YY K fS fT Ru)) (Za:PySem.W.keepIn K (.ref m)=true) (Zc:xi K q pae []) (ok:ROk K fS fT Ru (A.cls .losses)) (F:Fun K "__init__" "Losses.__init__" ZA f fd):FnOk P w K mg base CX0 2 f fd pac (xj (A.cls .losses) (α:=Unit) (λ_=>[]) (λ_=>Rl.losses.shape)):=by
 refine F.ok YG (λvs H Q E h=>?_) (λN A outer s H vs Q E hr h=>?_)
 ·obtain ⟨G,d,x,L,us,rfl,_,_,_,g,_⟩:=h;rw [Qy,<-g.len];rfl
 obtain ⟨G,d,x,L,us,rfl,J,I,r,g,k⟩:=h;rw [zJ] at g;subst g;have S:Sta H G H [] []:=Sta.enter J λp hp=>absurd hp Qp;have nd0:=YG.nd;walk_at "=fE56ba0bsbwcc";left;refine YK (d:=Rl.losses.shape) (by assumption) I r ok .mm λH' M w D C z y u t=>?_;exact k H' M w D C z y u t
noncomputable abbrev ZC:Stmt:=ZM (top 62) 0
def YH:FnScope pac pac (zk ZC):=xu
def ir (Ya:mg "Rule"=some (.ref Ru)) (eY:PySem.W.specialIn K (.ref Ru) "__getattribute__"=some (some (.builtin "type.__getattribute__"))) (fi:PySem.W.readsIn K Ru (.type "type")=true) {m:Addr} {q:FuncData} (Zb:PySem.W.findCls K (.ref Ru) (.type "type") "__init__"=some (.val (.ref m))) (Zd:FnOk P w K mg base CX0 1 m q pae (YY K fS fT Ru)) (Za:PySem.W.keepIn K (.ref m)=true) (Zc:xi K q pae []) (ok:ROk K fS fT Ru (A.cls .halves)) (F:Fun K "__init__" "Halves.__init__" ZC f fd):FnOk P w K mg base CX0 2 f fd pac (xj (A.cls .halves) (α:=Unit) (λ_=>[]) (λ_=>Rl.halves.shape)):=by
 refine F.ok YH (λvs H Q E h=>?_) (λN A outer s H vs Q E hr h=>?_)
 ·obtain ⟨G,d,x,L,us,rfl,_,_,_,g,_⟩:=h;rw [Qy,<-g.len];rfl
 obtain ⟨G,d,x,L,us,rfl,J,I,r,g,k⟩:=h;rw [zJ] at g;subst g;have S:Sta H G H [] []:=Sta.enter J λp hp=>absurd hp Qp;have nd0:=YH.nd;walk_at "=fE56ba0bsbwcc";left;refine YK (d:=Rl.halves.shape) (by assumption) I r ok .mm λH' M w D C z y u t=>?_;exact k H' M w D C z y u t
noncomputable abbrev ZV:Stmt:=ZM (top 63) 0
def Xt:FnScope pal pal (zk ZV):=xu
def lr (Ya:mg "Rule"=some (.ref Ru)) (eY:PySem.W.specialIn K (.ref Ru) "__getattribute__"=some (some (.builtin "type.__getattribute__"))) (fi:PySem.W.readsIn K Ru (.type "type")=true) {q:Addr} {t:FuncData} (Zb:PySem.W.findCls K (.ref Ru) (.type "type") "__init__"=some (.val (.ref q))) (Zd:FnOk P w K mg base CX0 1 q t pae (YY K fS fT Ru)) (Za:PySem.W.keepIn K (.ref q)=true) (Zc:xi K t pae []) {g:FuncData} (ZS:FnOk P w K mg base CX0 1 fS g pac (ax A)) (xq:xi K g pac []) (u:∀r:Rl,ROk K fS fT Ru (A.cls r)) (F:Fun K "__init__" "Other.__init__" ZV f fd):FnOk P w K mg base CX0 2 f fd pal (xj (A.cls (.other .shares)) (α:=Rl) (λr=>[r.ins A]) (λr=>(Rl.other r).shape)):=by
 refine F.ok Xt (λvs H Q E h=>?_) (λZ A' outer s H vs Q E hr h=>?_)
 ·obtain ⟨G,d,x,O,us,rfl,_,_,_,m,_⟩:=h;rw [Qy,<-m.len];rfl
 obtain ⟨G,r,x,O,us,rfl,N,M,y,m,k⟩:=h;obtain ⟨v,rfl,al⟩:=Yz m;have S:Sta H G H [] _:=Sta.enter N al;have nd0:=Xt.nd;walk_at "=fE56ba0bsbwb-a1*cc";left;refine jg S .mm (u r) ?_;refine Vk S .mm λU H1 X Y=>?_;left;refine YK (d:=(Rl.other r).shape) (by assumption) M y (u (.other .shares)) .mm λH' T w L J I D C z=>?_;exact k H' T w L J I D C z
noncomputable abbrev ZU:Stmt:=ZM (top 64) 0
def Xs:FnScope pal pal (zk ZU):=xu
def lj (Ya:mg "Rule"=some (.ref Ru)) (eY:PySem.W.specialIn K (.ref Ru) "__getattribute__"=some (some (.builtin "type.__getattribute__"))) (fi:PySem.W.readsIn K Ru (.type "type")=true) {q:Addr} {t:FuncData} (Zb:PySem.W.findCls K (.ref Ru) (.type "type") "__init__"=some (.val (.ref q))) (Zd:FnOk P w K mg base CX0 1 q t pae (YY K fS fT Ru)) (Za:PySem.W.keepIn K (.ref q)=true) (Zc:xi K t pae []) {g:FuncData} (ZS:FnOk P w K mg base CX0 1 fS g pac (ax A)) (xq:xi K g pac []) (u:∀r:Rl,ROk K fS fT Ru (A.cls r)) (F:Fun K "__init__" "Ranks.__init__" ZU f fd):FnOk P w K mg base CX0 2 f fd pal (xj (A.cls (.ranks .shares)) (α:=Rl) (λr=>[r.ins A]) (λr=>(Rl.ranks r).shape)):=by
 refine F.ok Xs (λvs H Q E h=>?_) (λZ A' outer s H vs Q E hr h=>?_)
 ·obtain ⟨G,d,x,O,us,rfl,_,_,_,m,_⟩:=h;rw [Qy,<-m.len];rfl
 obtain ⟨G,r,x,O,us,rfl,N,M,y,m,k⟩:=h;obtain ⟨v,rfl,al⟩:=Yz m;have S:Sta H G H [] _:=Sta.enter N al;have nd0:=Xs.nd;walk_at "=fE56ba0bsbwb-a1*cc";left;refine jg S .mm (u r) ?_;refine Vk S .mm λU H1 X Y=>?_;left;refine YK (d:=(Rl.ranks r).shape) (by assumption) M y (u (.ranks .shares)) .mm λH' T w L J I D C z=>?_;exact k H' T w L J I D C z
noncomputable abbrev ZD:Stmt:=ZM (top 65) 0
def YI:FnScope paw paw (zk ZD):=xu
def iu (Ya:mg "Rule"=some (.ref Ru)) (eY:PySem.W.specialIn K (.ref Ru) "__getattribute__"=some (some (.builtin "type.__getattribute__"))) (fi:PySem.W.readsIn K Ru (.type "type")=true) {q:Addr} {z:FuncData} (Zb:PySem.W.findCls K (.ref Ru) (.type "type") "__init__"=some (.val (.ref q))) (Zd:FnOk P w K mg base CX0 1 q z pae (YY K fS fT Ru)) (Za:PySem.W.keepIn K (.ref q)=true) (Zc:xi K z pae []) {g:FuncData} (ZS:FnOk P w K mg base CX0 1 fS g pac (ax A)) (xq:xi K g pac []) (t:∀r:Rl,ROk K fS fT Ru (A.cls r)) (F:Fun K "__init__" "Groups.__init__" ZD f fd):FnOk P w K mg base CX0 2 f fd paw (xj (A.cls (.groups .shares .shares)) (α:=Rl×Rl) (λr=>[r.1.ins A,r.2.ins A]) (λr=>(Rl.groups r.1 r.2).shape)):=by
 refine F.ok YI (λvs H Q E h=>?_) (λLF A' outer s H vs Q E hr h=>?_)
 ·obtain ⟨G,d,x,U,us,rfl,_,_,_,m,_⟩:=h;rw [Qy,<-m.len];rfl
 obtain ⟨G,⟨r,u⟩,x,U,us,rfl,T,O,C,m,k⟩:=h;obtain ⟨v,v2,rfl,al⟩:=xB m;have S:Sta H G H [] _:=Sta.enter T al;dsimp only at k S;have nd0:=YI.nd;walk_at "=fE56ba0bsbwb-a1*b-a2*cc";left;refine jg S .mm (t r) ?_;refine Vk S .mm λZ H1 e1 y=>?_;left;refine jg y .mm (t u) ?_;refine Vk y .mm λY H2 e2 S2=>?_;left;refine YK (d:=(Rl.groups r u).shape) (by assumption) O C (t (.groups .shares .shares)) .mm λH' X w N M L J I D=>?_;exact k H' X w N M L J I D
noncomputable abbrev Yo:Stmt:=ZM (top 66) 0
def Wl:FnScope paj paj (zk Yo):=xu
def oj (Ya:mg "Rule"=some (.ref Ru)) (eY:PySem.W.specialIn K (.ref Ru) "__getattribute__"=some (some (.builtin "type.__getattribute__"))) (fi:PySem.W.readsIn K Ru (.type "type")=true) {q:Addr} {C:FuncData} (Zb:PySem.W.findCls K (.ref Ru) (.type "type") "__init__"=some (.val (.ref q))) (Zd:FnOk P w K mg base CX0 1 q C pae (YY K fS fT Ru)) (Za:PySem.W.keepIn K (.ref q)=true) (Zc:xi K C pae []) {g:FuncData} (ZS:FnOk P w K mg base CX0 1 fS g pac (ax A)) (xq:xi K g pac []) (u:∀r:Rl,ROk K fS fT Ru (A.cls r)) (F:Fun K "__init__" "Upto.__init__" Yo f fd):FnOk P w K mg base CX0 2 f fd paj (xj (A.cls (.upto 0 0 .shares .shares)) (α:=(Int×Int)×Rl×Rl) (λr=>[.tuple [.int r.1.1, .int r.1.2],r.2.1.ins A,r.2.2.ins A]) (λr=>(Rl.upto r.1.1 r.1.2 r.2.1 r.2.2).shape)):=by
 refine F.ok Wl (λvs H Q E h=>?_) (λLF A' outer s H vs Q E hr h=>?_)
 ·obtain ⟨G,d,x,X,us,rfl,_,_,_,m,_⟩:=h;rw [Qy,<-m.len];rfl
 obtain ⟨G,⟨⟨t,b⟩,r,y⟩,x,X,us,rfl,U,T,D,m,k⟩:=h;obtain ⟨v0,v,v2,rfl,al⟩:=ZZ m;have S:Sta H G H [] _:=Sta.enter U al;dsimp only at k S;have nd0:=Wl.nd;walk_at "=fE56ba0bsbwba1b-a2*b-a3*cc";left;refine jg S .mm (u r) ?_;refine Vk S .mm λw1 H1 e1 z=>?_;left;refine jg z .mm (u y) ?_;refine Vk z .mm λZ H2 e2 S2=>?_;left;refine YK (d:=(Rl.upto t b r y).shape) (by assumption) T D (u (.upto 0 0 .shares .shares)) .mm λH' Y w O N M L J I=>?_;exact k H' Y w O N M L J I
end
noncomputable abbrev eV:Stmt:=ZM (top 58) 2
def Ho:FnScope pac pac (zk eV):=xu
local macro_rules|`(tactic|walk_at "rd")=>`(tactic|first|fail "&177"|fail)
section
variable {A:RAd}
abbrev Xe:Stmt:=top 9
def Wz:FnScope ["claims","claim"] pam (zk Xe):=xu
def FA (B:Bl mg) (g:mg "MOST"=some (.int 8 tM)) (F:Fun K "check_claims" "check_claims" Xe f fd):FnOk P w K mg base CX0 1 f fd pam qh:=by
 walk_at "+Wz";obtain ⟨l,s,ok,k⟩:=h;obtain ⟨v,rfl,al⟩:=Yz s;have S:Sta H H H [] [(zo l,v)]:=Sta.enter (zS.refl _) al;have pos:=ok.pos;have few:=ok.few;refine ⟨_,(sZ (ps_if (PW.pt (pw_or (qC (op_eqA (EA hr)) (dh oR rfl B.len HN (WK (pv 0) fC)) tj (Cg _)) (pw_or1 (qC op_gt (dh oR rfl B.len HN (WK (pv 0) fC)) (IZ (v:= .int 8) rfl g ⟨_,rfl⟩) (Cg _))))) (fj td) BC) (fj (ps_for PassesOwn.never rfl (kZ (pv 0)) (pg_a 1 Wz.nd) (fj (ps_if (qC op_lt (dh (Dv rfl) rfl B.min HM (WK (pv 1) fC)) tj (Cg _)) (fj td) BC))))),kS ?_⟩;left;refine Yy (λc=>absurd c (by rw [Qa];omega)) (λ_=>?_);left;refine Yy (λc=>absurd c (by rw [Qa];omega)) (λ_=>?_);left;refine zM (xs:=l.map zG) S .mm λJ q=>?_;refine Zp q (λi σ cs ds=>(∃x,σ=[some v,x])/\cs=[]/\ds=[(zo l,v)]) S ⟨⟨none,rfl⟩,rfl,rfl⟩ (λi σ cs ds h=>?_) ?_ ?_
 ·obtain ⟨_,rfl,rfl⟩:=h;exact .mem (by right)
 ·rintro i x u σ H2 cs ds hx ⟨⟨x1,rfl⟩,rfl,rfl⟩ S2
  obtain ⟨c,r,rfl⟩:=zL hx;have nn:=ok.nn c (Qc r);left;refine IH (ns:=[c.1,c.2.1,c.2.2]) S2 .mm (Nat.zero_lt_succ _) λm hm _=>?_
  have m0:¬m<0:=by
   simp only [Qn,Qp,or_false] at hm
   rcases hm with rfl|rfl|rfl<;>omega
  left;refine Yy (λc=>absurd c m0) (λ_=>?_);left;exact YD (S2.dat ‹()›) ⟨⟨_,rfl⟩,rfl,rfl⟩
 ·rintro σ H2 cs ds ⟨⟨x1,rfl⟩,rfl,rfl⟩ S2
  exact k _ S2.base
abbrev YZ:Stmt:=top 54
def eB:FnScope ["parts"] ["parts"] (zk YZ):=xu
def ok_wc (B:Bl mg) (F:Fun K "whole_corner" "whole_corner" YZ f fd):FnOk P w K mg base CX0 1 f fd ["parts"] spWC:=by
 walk_at "+eB";obtain ⟨G,l,t,s,ok,k⟩:=h;obtain ⟨v,rfl,al⟩:=Yz s;have S:Sta H G H [] _:=Sta.enter t al;walk_at "=fisbsbSTba0cbdcb2bxpart;1;ua0n0tsba0bdccc";left;rename_i u H1 C g;refine zM (xs:=l.map PyData.int) g .mm λJ m=>?_;refine ye m (λj=>frD ((l.getD j 0:Int):Rat)) (ys:=(ya l).2.map frD) (by unfold ya;rw [Qa,Qm];exact zm (λx:Int=>frD ((x:Int):Rat)) 0 l) g (λj x v=>λr t1 S hd=>?_) λD L z I=>?_
 ·obtain ⟨y,q,rfl⟩:=zL r;cases S.int1;refine zH ⟨rfl,?_⟩;left;refine hd (by assumption) ?_;rw [zF q];exact .mem (by right)
 left;exact xE (by assumption) k .mm
abbrev eS:Stmt:=top 53
def uW:FnScope ["count"] ["count"] (zk eS):=xu
def vH (J:Cal P w K mg base CX0 1 "whole_corner" ["parts"] spWC) (F:Fun K "nothing" "nothing" eS f fd):FnOk P w K mg base CX0 2 f fd ["count"] Ww:=by
 walk_at "+uW";obtain ⟨G,n,q,m,ok,k⟩:=h;cases (yF (ns:=[(n:Int)]) m);have S:Sta H G H [] []:=Sta.enter q λp hp=>absurd hp Qp;walk_at "=fiBbhb)Bbdca0cc";left;rename_i z H1 I t;refine IG t (by right) ⋯ λg u D s=>?_;have r:Sta H G u [] [(.list ((Yc n).map PyData.int), .ref g)]:=s.freeze.weak (by walk_at "sub") ‹()›;refine IC r .mm (by rw [Ul];exact ok) λy M C L=>?_;left;exact xR (by assumption) k
abbrev kF:Stmt:=top 47
def AR:FnScope ["claims","amounts"] pam (zk kF):=xu
def BK (B:Bl mg) (XR:Cal P w K mg base CX0 2 "nothing" ["count"] Ww) (Xj:Cal P w K mg base CX0 1 "whole_corner" ["parts"] spWC) (F:Fun K "shares" "shares" kF f fd):FnOk P w K mg base CX0 3 f fd pam (cn 0):=by
 walk_at "+AR";obtain ⟨G,l,L,C,ok,k⟩:=h;obtain ⟨v,rfl,al⟩:=Yz C;have S:Sta H G H [] _:=Sta.enter L al;have few:=ok.few;walk_at "=eN1claim;1;ua0n0tg0emorlSTba1cdjfihbzba1ccpfiAhbzba1ccBbhba1cc";left;refine zM (xs:=l.map zG) S .mm λJ t=>?_;refine ye t (λj=> .int (l.getD j (0,0,0)).1) (ys:=(amV l).map PyData.int) (by unfold amV;rw [Qa,Qm];exact zm (λc:Cl=>PyData.int c.1) (0,0,0) l) S (λj x v=>λy t1 S hd=>?_) λD H1 e1 s=>?_
 ·obtain ⟨c,z,rfl⟩:=zL y;refine zH ⟨rfl,?_⟩;left;refine hd (by assumption) ?_;rw [zF z];exact Has.int
 have r:Sta H G H1 [] [(.list ((amV l).map PyData.int), .ref D)]:=s.freeze.weak (by walk_at "sub") ‹()›;clear s;have g:(amV l).length<=8:=by rw [yi];omega
 dsimp only at k;unfold flV at k;have I:JK (amV l) (lvV (amV l)) 0=shP (amV l):=rfl;rw [I] at k;generalize amV l=as at*;unfold shP at k;left;refine Yy (λc=>?_) (λc=>?_)
 ·rw [QH c] at k;left;rw [Qa];refine aO r g λu O M q=>?_;exact xR q k
 ·rw [QP c] at k;left;rw [Qa];refine aO r g λu O M q=>?_;left;refine IC q .mm g λT H4 e4 S4=>?_;left;rename_i X H5 Z m;refine ZG m (m.vwC (by right)) (m.vwC (by right)) (by show 1+1<=1000;decide) λU H6 Y N=>?_;exact xR N k
abbrev kN:Stmt:=top 48
def nE:FnScope ["claims","amounts"] pam (zk kN):=xu
def Ca (B:Bl mg) (B2:Bl3 mg) (Xj:Cal P w K mg base CX0 1 "whole_corner" ["parts"] spWC) (F:Fun K "evenly" "evenly" kN f fd):FnOk P w K mg base CX0 2 f fd pam (cn 1):=by
 walk_at "+nE";obtain ⟨G,l,eG,T,ok,k⟩:=h;obtain ⟨v,rfl,al⟩:=Yz T;have S:Sta H G H [] _:=Sta.enter eG al;have few:=ok.few;refine ⟨_,(sZ (ps_a 1 nE.nd (pcf ["claim"] 1 [] (kZ (pv 0)) (pg_c 0) qD (pix 0))) (fj (ps_ret (Fi (N:=["level","amounts"]) (n:=1) (fr:=[1]) (y:="level") rfl ⟨rfl,by decide+kernel,rfl,nofun,rfl,rfl,λ_ _=>rfl,λ_=>rfl,rfl,rfl,rfl,rfl⟩ (kZ (Fh rfl rfl B2.sorted rfl B2.set (pe_op BG (pe_lst (WK tj fC)) (pv 1)))) (λ_ _ _ _=>(qF (i:=0) (show (["level","amounts"]:List Str).Nodup from by decide+kernel) rfl (by walk_at "o"))) (λ_ _ _ _=>qD) (λ_ _ _ _=>(pcl Xj hr (WK (pcf ["amount","level"] 1 [0] (kZ (pv 1)) (pg_c 0) qD (dh (Dw rfl) rfl B.min HM (WK (pv 0) (WK (pv 1) fC)))) fC))))))),kS ?_⟩;left;refine zM (xs:=l.map zG) S .mm λJ I=>?_;refine ye I (λj=> .int (l.getD j (0,0,0)).1) (ys:=(amV l).map PyData.int) (by unfold amV;rw [Qa,Qm];exact zm (λc:Cl=>PyData.int c.1) (0,0,0) l) S (λj x v=>λg t1 S hd=>?_) λD H1 e1 t=>?_
 ·obtain ⟨c,O,rfl⟩:=zL g;refine zH ⟨rfl,?_⟩;left;refine hd (by assumption) ?_;rw [zF O];exact Has.int
 have q:Sta H G H1 [] [(.list ((amV l).map PyData.int), .ref D)]:=t.freeze.weak (by walk_at "sub") ‹()›;clear t;have M:(amV l).length<=8:=by rw [yi];omega
 have L:=ok.lv;have Lf:=L.few;dsimp only at k;unfold flV at k;have Z:JK (amV l) (lvV (amV l)) 1=evP (amV l) (lvV (amV l)):=rfl;rw [Z] at k;generalize amV l=as at*;left;rename_i p3 H3 e3 m;refine ZG m (m.vwC (by right)) (m.vwL .mm) (by rw [Qa];show 1+_<=1000;omega) λp4 H4 e4 s=>?_;rw [show [PyData.int 0]++as.map PyData.int=(0::as).map PyData.int from rfl] at s;refine WG s (by right) (by rw [Qy];omega) λos l5 H5 X U e5 r=>?_;cases lvV_eq X U;generalize lvV as=ls at*;refine Br (xs:=ls.map PyData.int) r (by right) λJ2 Ni=>?_;refine yG Ni (λj=>zN (ya (Wu as (ls.getD j 0)))) (ys:=(evP as ls).map zN) (by unfold evP;rw [Qa,Qm];exact zm (λz:Int=>zN (ya (Wu as z))) 0 ls) r (λ_ _=>Qf _ (by right)) (by rw [Qa];omega) (λj x v B' G' Kd Kn g t1 S hd C ex s0 H0=>?_) λD6 H6 e6 S6=>?_
 ·obtain ⟨z,hz,rfl⟩:=zL g;cases S.int1;refine zH ⟨rfl,?_⟩;left;refine zM (xs:=as.map PyData.int) S .mm λJ3 MR=>?_;refine yG MR (λi=> .int (min (as.getD i 0) z)) (ys:=(Wu as z).map PyData.int) (by unfold Wu;rw [Qa,Qm];exact zm (λa:Int=>PyData.int (min a z)) 0 as) S (λ_ _=> .mem (by right)) (by rw [Qa];omega) (λi x u B3 G3 Kd2 Kn2 MU t2 q hd2 C2 Y s2 H2=>?_) λD7 H7 e7 S7=>?_
  ·obtain ⟨a,ha,rfl⟩:=zL MU;cases q.int1;refine zH ⟨rfl,?_⟩;left;refine hd2 q ?_;rw [zF ha];exact Has.int
  left;refine IC S7.freeze .mm (by unfold Wu;rw [Qa];exact M) λw8 H8 e8 S8=>?_;refine hd S8 ?_;rw [zF hz];exact .mem (by right)
 exact xR S6 k
abbrev kL:Stmt:=top 49
def AW:FnScope pam pam (zk kL):=xu
def BW (z:Cal P w K mg base CX0 2 "evenly" pam (cn 1)) (C:Cal P w K mg base CX0 5 "turned" ["path"] cX) (F:Fun K "losses" "losses" kL f fd):FnOk P w K mg base CX0 6 f fd pam (cn 2):=by
 walk_at "+AW";obtain ⟨G,l,q,m,ok,k⟩:=h;obtain ⟨v,rfl,al⟩:=Yz m;have S:Sta H G H [] _:=Sta.enter q al;walk_at "=fihbhba0cc";left;refine aP S .mm ok λt H1 y r=>?_;left;refine nL (a:=flV 1 l) r.freeze .mm (ok.lv.inE ok.am) λs D u g=>?_;rw [show yu (flV 1 l)=flV 2 l from dJ ok.lv] at g;exact xR g k
abbrev Ba:Stmt:=top 52
def Iw:FnScope paA paA (zk Ba):=xu
def Jd (Vx:Cal P w K mg base CX0 5 "behind" paM Uw) (I:Cal P w K mg base CX0 4 "scaled" paT jZ) (Z:Cal P w K mg base CX0 3 "minus" pab aA) (F:Fun K "upto" "upto" Ba f fd):FnOk P w K mg base CX0 6 f fd paA AD:=by
 walk_at "+Iw";obtain ⟨G,⟨p,a,b⟩,s,r,ok,k⟩:=h;obtain ⟨v0,v1,v2,rfl,al⟩:=ZZ r;have S:Sta H G H [] _:=Sta.enter s al;dsimp only at ok k S;have g:=ok.sz;have one:SzQ 1 (1:Rat):=by unfold SzQ Sz;decide+kernel
 obtain ⟨m,pm⟩:=ok.m;walk_at "=fihbhba1ba0cbhba2bhbsbdbdcba0ccc";left;refine nP (a:=a) (p:=p) S .mm .mm ok.pa (g.mono nofun) λN H1 Y C=>?_;have S2:=C.freeze;left;rename_i M H3 X z;refine nR (p:=(1:Rat)) (q:=p) z .mm .mm one g nofun True.intro λD H4 U y=>?_;left;refine nP (a:=b) (p:=1 - p) y .mm .mm ok.pb ((one.sub g).mono nofun) λL H5 T u=>?_;left;refine nW (a:=zU p a) (b:=zU (1 - p) b) u.freeze .mm .mm ok.sa ok.sb pm λJ H6 O t=>?_;exact xR t k
abbrev kO:Stmt:=top 46
def eJ:FnScope ["shape","claims","word"] pax (zk kO):=xu
noncomputable abbrev Uc:Stmt:=ZM (top 58) 3
def nG:FnScope paN paN (zk Uc):=xu
noncomputable abbrev WE:Stmt:=ZM (top 58) 4
def kB:FnScope pai pai (zk WE):=xu
end
abbrev kI:Stmt:=top 44
def AU:FnScope ["ones","twos","numbers","one","two"] pah (zk kI):=xu
def BU (B:Bl mg) (dF:Cal P w K mg base CX0 1 "before" pab cZ) (F:Fun K "merged" "merged" kI f fd):FnOk P w K mg base CX0 2 f fd pah km:=by
 walk_at "+AU";obtain ⟨G,⟨p,q⟩,eG,hA,⟨⟨n,z1,z2,hn⟩,l1,l2⟩,k⟩:=h;obtain ⟨v1,v2,rfl,al⟩:=xB hA;have S:Sta H G H [] [(.list (p.map frD),v1),(.list (q.map frD),v2)]:=Sta.enter eG al;dsimp only at z1 z2 l1 l2 k;have I:n+n<=100000000:=⋯
 walk_at "=ek2Bcek3dek4de<KYWa3zba0cj0Wa4zba1cjfmHhbqa0a3bqa1a4ceEZa2bqa0a3cf|3demorlqa0a3qa1a4jf|3dpeEZa2bqa1a4cf|4dfiAAa2Xa0Ra34Xa1Ra44";left;rename_i pn H1 e1 S1;refine mP (λm σ cs ds=>∃(i j:Nat) (ns:List Rat),σ=[some v1,some v2,some (.ref pn),some (.int (i:Nat)),some (.int (j:Nat))]/\cs=[(pn,ns.map frD)]/\ds=[(.list (p.map frD),v1),(.list (q.map frD),v2)]/\i<=p.length/\j<=q.length/\ns.length<=i+j/\ns++yw (p.drop i) (q.drop j)=yw p q/\m=(p.length - i)+(q.length - j)) ((p.length - 0)+(q.length - 0)) S1 ⟨0,0,[],rfl,rfl,rfl,jar _,jar _,jar _,rfl,rfl⟩ ?_
 rintro m σ H2 cs ds ⟨i,j,ns,rfl,rfl,rfl,hi,hj,MP,Ml,rfl⟩ S2
 have cd:∀(l:List Rat) (t:Nat),t<=l.length->oN (l.map frD) (some ((t:Nat):Int)) none=(l.drop t).map frD:=by
  intro l t ht;unfold oN;rw [HT.sIx_none,HT.sIx_nat,Qa,Nat.min_eq_left ht,QQ (by rw [Tz,Qa];exact Qu _),<-List.map_drop]
 left;refine Yy (λN=>?_) (λN=>?_)
 ·rw [Qa] at N;left;refine vh (λM=>?_) (λM=>?_)
  ·rw [Qa,decide_eq_true_eq] at M;have A:i<p.length:=⋯
   have z:j<q.length:=⋯
   have gi:=Qb A;have gj:=Qb z;have Y:=jbI A;have X:=jbI z;have zi:=z1 _ (Tf A);have zj:=z2 _ (Tf z);generalize p[i]=x at*;generalize q[j]=y at*;have D:atI (p.map frD) ((i:Nat):Int)=some (frD x):=yl (by rw [Qh,gi];rfl);have C:atI (q.map frD) ((j:Nat):Int)=some (frD y):=yl (by rw [Qh,gj];rfl);rw [Y,X,yw] at Ml;left;refine xc (xs:=p.map frD) (x:=frD x) S2 .mm D λw3 s=>?_;left;refine xc (xs:=q.map frD) (x:=frD y) s .mm C λw4 u=>?_;left;refine nX u .mm .mm zi zj I ?_;left;refine Yy (λL=>?_) (λL=>?_)
   ·rw [QH L] at Ml;left;refine xc (xs:=p.map frD) (x:=frD x) u .mm D λw5 g=>?_;left;refine yU (y:=frD x) g .mm (by rw [Qa];omega) λZ r=>?_;left;refine ⟨_,?_,_,_,r.dat ‹()›,i+1,j,ns++[x],rfl,by rw [QM];rfl,rfl,A,hj,by rw [QB,TX];omega,?_,rfl⟩
    ·omega
    ·rw [<-Ml,X,jaj];rfl
   ·rw [QP L] at Ml;left;refine xc (xs:=p.map frD) (x:=frD x) u .mm D λw5 g=>?_;left;refine xc (xs:=q.map frD) (x:=frD y) g .mm C λw6 r=>?_;refine Bu (x:=frD x) (y:=frD y) (r.hp .mm) (r.hp .mm) (Vi _) (Vi _) ?_;rw [JO];left;refine Yy (λJ=>?_) (λJ=>?_)
    ·rw [QH J] at Ml;left;refine xc (xs:=q.map frD) (x:=frD y) r .mm C λw7 T=>?_;left;refine yU (y:=frD y) T .mm (by rw [Qa];omega) λH8 O=>?_;left;refine ⟨_,?_,_,_,O.dat ‹()›,i+1,j+1,ns++[y],rfl,by rw [QM];rfl,rfl,A,z,by rw [QB,TX];omega,?_,rfl⟩
     ·omega
     ·rw [<-Ml,jaj];rfl
    ·rw [QP J] at Ml;left;refine xc (xs:=q.map frD) (x:=frD y) r .mm C λw7 T=>?_;left;refine yU (y:=frD y) T .mm (by rw [Qa];omega) λH8 O=>?_;left;refine ⟨_,?_,_,_,O.dat ‹()›,i,j+1,ns++[y],rfl,by rw [QM];rfl,rfl,hi,z,by rw [QB,TX];omega,?_,rfl⟩
     ·omega
     ·rw [<-Ml,Y,jaj];rfl
  ·rw [Qa,decide_eq_false_iff_not] at M;have U:p.length<=i\/q.length<=j:= .inr ⋯;left;refine nN (xs:=p.map frD) S2 .mm λl3 H3 e3 s=>?_;rw [cd p i hi] at s;refine ZG s (s.vwC (by right)) (s.vwC (by right)) (by rw [Qa,Qa,Tz];omega) λp4 H4 e4 u=>?_;left;refine nN (xs:=q.map frD) u .mm λl5 H5 e5 g=>?_;rw [cd q j hj] at g;refine ZG g (g.vwC (by right)) (g.vwC (by right)) (by rw [QB,Qa,Qa,Qa,Tz,Tz];omega) λp6 Z e6 r=>?_;refine Hr ?_
   have em:(ns.map frD++(p.drop i).map frD)++(q.drop j).map frD=(yw p q).map frD:=by
    rw [<-Ml,QM,jaj]
    congr 1
    rcases U with h|h
    ·rw [jby h,yw];simp
    ·rw [jby h,fJ];simp
   rw [em] at r;exact xR (r.weak (cs':=[_]) (by walk_at "sub") Dats.nil) k
 ·rw [Qa] at N;have U:p.length<=i\/q.length<=j:= .inl ⋯;refine vh (λh=>by cases h) (λ_=>?_);left;refine nN (xs:=p.map frD) S2 .mm λl3 H3 e3 s=>?_;rw [cd p i hi] at s;refine ZG s (s.vwC (by right)) (s.vwC (by right)) (by rw [Qa,Qa,Tz];omega) λp4 H4 e4 u=>?_;left;refine nN (xs:=q.map frD) u .mm λl5 H5 e5 g=>?_;rw [cd q j hj] at g;refine ZG g (g.vwC (by right)) (g.vwC (by right)) (by rw [QB,Qa,Qa,Qa,Tz,Tz];omega) λp6 Z e6 r=>?_;refine Hr ?_
  have em:(ns.map frD++(p.drop i).map frD)++(q.drop j).map frD=(yw p q).map frD:=by
   rw [<-Ml,QM,jaj]
   congr 1
   rcases U with h|h
   ·rw [jby h,yw];simp
   ·rw [jby h,fJ];simp
  rw [em] at r;exact xR (r.weak (cs':=[_]) (by walk_at "sub") Dats.nil) k
abbrev Zv:Stmt:=top 42
def Uy:FnScope ["path","place","levels","amounts","purses","level","reached","portion"] paQ (zk Zv):=xu
def Fs (B:Bl mg) (iU:Cal P w K mg base CX0 2 "last_reached" paP sL) (cc:Cal P w K mg base CX0 4 "portion_reached" pav Ut) (sg:Cal P w K mg base CX0 4 "amount_at" pau dc) (F:Fun K "purses_reaching" "purses_reaching" Zv f fd):FnOk P w K mg base CX0 5 f fd paQ qd:=by
 walk_at "+Uy";obtain ⟨G,⟨a,g,L⟩,eG,hA,⟨m,n,b,ok⟩,k⟩:=h;obtain ⟨v1,v2,N,rfl,al⟩:=ZZ hA;have S:Sta H G H [] [(yv a,v1),(.int (g:Nat),v2),(.list (L.map frD),N)]:=Sta.enter eG al;dsimp only at ok k;cases (S.hp (x:= .int (g:Nat)) (v:=v2) .mm).int_of;have la:0<a.length:=jaP.mpr ok.pr.ne;have fa:=ok.pr.few;have fl:=ok.few;have hz:=ok.sz;walk_at "=eN3corner,place;11;ua0n0tqg0a1ek4BceFua2D5ek6hba3ba5cfmWa6Uzba0cdjek7hbqa3a6bqa3Aa6dba5cfEZa4bhbqqa0a6dbqqa0Aa6ddba7ccpfia4";left;refine zM (xs:=a.map zN) S .mm λJ Z=>?_;refine ye Z (λj=>frD ((λc:zh=>c.2.getD g 0) (a.getD j (0,[])))) (ys:=(a.map λc=>c.2.getD g 0).map frD) (by rw [Qa,Qm];exact zm (λc:zh=>frD (c.2.getD g 0)) (0,[]) a) S (λj x v=>λhx t1 S hd=>?_) λD H1 e1 S1=>?_
 ·obtain ⟨c,s,rfl⟩:=zL hx;have gc:=getD_some (l:=c.2) (k:=g) (by rw [ok.pm.t.len c (Qc s)];exact ok.kn);refine zH ⟨rfl,?_⟩;left;rename_i w2 S2;refine cu (xs:=c.2.map frD) (x:=frD (c.2.getD g 0)) S2 .mm (yl (by rw [Qh,gc];rfl)) λw3 S3=>?_;refine hd S3 ?_;rw [zF s];exact .mem (by right)
 have S2:=S1.freeze;clear S1;left;rename_i pp H3 e3 S3;have S4:Sta H G H3 [(pp,[])] [(.list ((a.map λc=>c.2.getD g 0).map frD), .ref D),(yv a,v1),(.list (L.map frD),N)]:=S3.dat ‹()›;refine zM (xs:=L.map frD) S4 .mm λJ Z=>?_;refine Zp Z (λi σ cs ds=>∃(Y X U:Option V),σ=[some v1,some (.int (g:Nat)),some N,some (.ref D),some (.ref pp),Y,X,U]/\cs=[(pp,((L.take i).filterMap (yZ a g)).map frD)]/\ds=[(.list ((a.map λc=>c.2.getD g 0).map frD), .ref D),(yv a,v1),(.list (L.map frD),N)]) S4 ⟨none,none,none,rfl,rfl,rfl⟩ (λi σ cs ds h=>?_) ?_ ?_
 ·obtain ⟨_,_,_,_,_,rfl⟩:=h;exact .mem (by right)
 ·rintro i x u σ H5 cs ds hx ⟨Y,X,U,rfl,rfl,rfl⟩ S5
  obtain ⟨l,hl,rfl⟩:=zL hx;obtain ⟨T,l0⟩:=ok.lev l (Qc hl);have Rg:i<L.length:=(Qd.mp hl).1;have O:∀c∈a,SzQ n (c.2.getD g 0):=λc s=>(ok.pr.sz c s).2 _ (Qc (getD_some (l:=c.2) (k:=g) (by rw [ok.pm.t.len c s];exact ok.kn)))
  have A:∀o:Option Rat,yZ a g l=o->((L.take (i+1)).filterMap (yZ a g)).map frD=((L.take i).filterMap (yZ a g)).map frD++(o.toList.map frD):=λo ho=>by
   rw [Tr,hl,List.filterMap_append,QM]
   congr 1
   cases o with
   |none=>simp [ho]
   |some y=>simp [ho]
  left;refine Bq (qs:=a.map λc=>c.2.getD g 0) (e:=l) (n:=9000) S5 (S5.hp .mm) (S5.hp .mm) ⟨by rw [Qa];exact la,by rw [Qa];omega,λq hq=>?_,T.mono ⋯,nofun,λq hq=>?_⟩ λr q hi MB Oe=>?_
  ·obtain ⟨c,s,rfl⟩:=Qj.mp hq;exact (O c s).mono ⋯
  ·obtain ⟨c,s,rfl⟩:=zL hq;exact l0 c s
  obtain ⟨c,s,rfl⟩:=zL hi;have M:r<a.length:=(Qd.mp s).1;rw [Qa] at Oe;left;refine Yy (λc1=>?_) (λc1=>?_)
  ·rw [Qa] at c1
   obtain ⟨y,hy,Sw⟩:∃y,(a.map λc=>c.2.getD g 0)[r+1]? =some y/\l<y:=by
    rcases Oe with h|h
    ·omega
    ·exact h
   obtain ⟨d,hd,rfl⟩:=zL hy
   have key:yZ a g l=some (xY ((l - c.2.getD g 0) / (d.2.getD g 0 - c.2.getD g 0)) c.1 d.1):=by
    have pm:=ok.pm;have C:=ok.kn
    obtain ⟨c0,r0,e0⟩:∃c r,a=c::r:=by
     cases a with
     |nil=>simp at M
     |cons c r=>exact ⟨c,r,rfl⟩
    rw [e0] at pm s hd⊢;exact nK C pm s hd MB Sw
   have zc:=O c (Qc s);have zd:=O d (Qc hd);have z1:=(ok.pr.sz c (Qc s)).1;have z2:=(ok.pr.sz d (Qc hd)).1;have er:((r:Nat):Int)+1=((r+1:Nat):Int):=⋯
   have LV:d.2.getD g 0≠c.2.getD g 0:=λz=>by rw [z] at Sw;exact jat.mpr Sw MB
   have zt:=SzQ.port T zc zd;have st:=A _ key;left;refine xc (xs:=(a.map λc=>c.2.getD g 0).map frD) (x:=frD (c.2.getD g 0)) S5 .mm (yl (by rw [Qh,hi];rfl)) λw6 S6=>?_;left;refine xc (xs:=(a.map λc=>c.2.getD g 0).map frD) (x:=frD (d.2.getD g 0)) S6 .mm (by rw [er];exact yl (by rw [Qh,hy];rfl)) λw7 S7=>?_;left;generalize c.2.getD g 0=x0 at*;generalize d.2.getD g 0=y0 at*;refine jf S7 .mm .mm .mm zc zd T ⋯ LV λr8 H8 e8 S8=>?_;generalize (l - x0) / (y0 - x0)=t at*;left;refine xc (xs:=a.map zN) (x:=zN c) S8 .mm (yl (by rw [Qh,s];rfl)) λw9 S9=>?_;left;rename_i OP LX;refine xc (xs:=a.map zN) (x:=zN d) LX .mm (by rw [er];exact yl (by rw [Qh,hd];rfl)) λw11 LW=>?_;left;rename_i w12 Me;refine nY Me .mm .mm .mm z1 z2 zt ⋯ λr13 RG RD Mo=>?_;left;refine yU (y:=frD (xY t c.1 d.1)) Mo .mm ?_ λH14 Nm=>?_
   ·rw [Qa];have:=jbq (yZ a g) (L.take i);rw [TR] at this;omega
   left;exact YD (Nm.dat ‹()›) ⟨_,_,_,rfl,by rw [st];rfl,rfl⟩
  ·rw [Qa] at c1;have I:r+1=a.length:=⋯
   have key:yZ a g l=none:=by
    have pm:=ok.pm;have C:=ok.kn
    obtain ⟨c0,r0,e0⟩:∃c r,a=c::r:=by
     cases a with
     |nil=>simp at M
     |cons c r=>exact ⟨c,r,rfl⟩
    rw [e0] at pm s I⊢;refine je C pm λl' LY=>?_;rw [jaB,<-I,Nat.add_sub_cancel,s] at LY;cases LY;exact MB
   have st:=A _ key;left;exact YD (S5.dat ‹()›) ⟨_,_,_,rfl,by rw [st];simp,rfl⟩
 ·rintro σ H5 cs ds ⟨Y,X,U,rfl,rfl,rfl⟩ S5
  rw [Qa,List.take_length] at S5;left;exact xR S5 k
abbrev Xb:Stmt:=top 43
def eE:FnScope ["path","others","purse","parts","part","other"] paR (zk Xb):=xu
def vD (B:Bl mg) (wW:Cal P w K mg base CX0 6 "parts_at" ["path","purse"] Uu) (F:Fun K "parts_within" "parts_within" Xb f fd):FnOk P w K mg base CX0 7 f fd paR ay:=by
 walk_at "+eE";obtain ⟨G,⟨a,Qs,e⟩,T,M,ok,k⟩:=h;obtain ⟨v1,v2,y,rfl,al⟩:=ZZ M;have S:Sta H G H [] [(yv a,v1),(.list (Qs.map yv),v2),(frD e,y)]:=Sta.enter T al;dsimp only at ok k;unfold yQ at k;have few:=ok.few;have len:=ok.len;have part:=ok.part;walk_at "=ek3BceF[bhba0ba2cba1cIyD4yD5JfEκa3bhba5ba4ccfi2ba3c";left;rename_i pp H1 e1 S1;refine aN (a:=a) (e:=e) (m:=700) (n:=700) S1 .mm .mm ok.p ok.ez nofun ok.e0 λA H2 e2 Z=>?_;left;generalize zg a e=ps at*;have C:Sta H G H2 [(pp,[])] [(ym ps,A),(.list (Qs.map yv),v2)]:=Z.dat ‹()›;refine sV (xs:=ps.map frD) (ys:=Qs.map yv) C .mm .mm λJ D=>?_;refine Zp D (λi σ cs ds=>∃(s r:Option V),σ=[some v1,some v2,some y,some (.ref pp),s,r]/\cs=[(pp,(((List.zipWith zg Qs ps).take i).flatten).map frD)]/\ds=[(ym ps,A),(.list (Qs.map yv),v2)]) C ⟨none,none,rfl,rfl,rfl⟩ (λi σ cs ds h=>?_) ?_ ?_
 ·obtain ⟨_,_,_,_,rfl⟩:=h;exact ⟨.mem (by right),λ_ _ h=>h.tail, .mem (by right)⟩
 ·rintro i z u σ H4 cs ds hz ⟨s,r,rfl,rfl,rfl⟩ S4
  obtain ⟨z1,z2,O,N,rfl⟩:=Zt hz;obtain ⟨p,hp,rfl⟩:=zL O;obtain ⟨t,g,rfl⟩:=zL N;have op:=part p (Qc hp);obtain ⟨I,ql⟩:=ok.q t (Qc g);refine xG (xF S4 .mm λw4 w5 Y=>?_);left;refine aN (a:=t) (e:=p) (m:=700) (n:=700) Y .mm .mm I op.1 nofun op.2 λr6 H6 e6 X=>?_;left;refine vo (ys:=(zg t p).map frD) X .mm ?_ λH7 U=>?_
  ·rw [Qa,Qa];have l1:=CW (ps:=ps) i λQ g c L=>(ok.q Q g).2 c L;have l2:=fA (e:=p) ql;omega
  left;refine YD (U.dat ‹()›) ⟨_,_,rfl,?_,rfl⟩;rw [Tr,Qt,g,hp]
  simp
 ·rintro σ H4 cs ds ⟨s,r,rfl,rfl,rfl⟩ S4
  rw [yL,Qa,Qa,QQ (by rw [QC];omega)] at S4;left;exact xE (by assumption) k .mm
abbrev kC:Stmt:=top 33
def AN:FnScope ["path","others","purses","place","other"] paV (zk kC):=xu
def BH (B:Bl mg) (uI:Cal P w K mg base CX0 2 "merged" pah km) (wV:Cal P w K mg base CX0 5 "purses_reaching" paQ qd) (Ek:Cal P w K mg base CX0 7 "parts_within" paR ay) (F:Fun K "within" "within" kC f fd):FnOk P w K mg base CX0 8 f fd paV Ur:=by
 walk_at "+AN";obtain ⟨G,⟨a,Qs⟩,eG,Z,ok,k⟩:=h;obtain ⟨v1,v2,rfl,al⟩:=xB Z;have S:Sta H G H [] [(yv a,v1),(.list (Qs.map yv),v2)]:=Sta.enter eG al;dsimp only at ok k;have pl:=ok.pl;have few:=ok.few;walk_at "=eN2corner;1;ua0n0tg0eF!ba1cIyD3yD4Jfk2hba2bhba0ba3bxcorner;1;ua4n0tg0ccfixpurse,path,others;101;ua2n0tsba0bhba1ba2ba0cc";left;refine zM (xs:=a.map zN) S .mm λJ z=>?_;refine ye z (λj=>frD ((λc:zh=>c.1) (a.getD j (0,[])))) (ys:=(yb a).map frD) (by unfold yb;rw [Qa,Qm];exact zm (λc:zh=>frD c.1) (0,[]) a) S (λj x v=>λm t1 S hd=>?_) λD H1 e1 X=>?_
 ·obtain ⟨c,I,rfl⟩:=zL m;refine zH ⟨rfl,?_⟩;left;refine hd (by assumption) ?_;rw [zF I];exact .mem (by right)
 have U:=X.freeze;clear X;left;refine kW (xs:=Qs.map yv) U .mm λJ z=>?_;refine Zp z (λi σ cs ds=>∃(pp:Addr) (y t:Option V),σ=[some v1,some v2,some (.ref pp),y,t]/\cs=[]/\ds=[(.list ((wpF a 0 (Qs.take i) (yb a)).map frD), .ref pp),(yv a,v1),(.list (Qs.map yv),v2)]) U ⟨D,none,none,rfl,rfl,rfl⟩ (λi σ cs ds h=>?_) ?_ ?_
 ·obtain ⟨_,_,_,_,_,rfl⟩:=h;exact .mem (by right)
 ·rintro i x u σ H3 cs ds m ⟨pp,y,t,rfl,rfl,rfl⟩ S3
  obtain ⟨x0,Mh,rfl⟩:=Vo m;obtain ⟨g,r,rfl⟩:=zL Mh;have Rg:i<Qs.length:=(Qd.mp r).1;have ql:=ok.ql g (Qc r);refine xG (xF S3 .mm λw3 w4 M=>?_);cases M.int1;left;refine zM (xs:=g.map zN) M .mm λJ2 N=>?_;refine ye N (λj=>frD ((λc:zh=>c.1) (g.getD j (0,[])))) (ys:=(yb g).map frD) (by unfold yb;rw [Qa,Qm];exact zm (λc:zh=>frD c.1) (0,[]) g) M (λj x v=>λm t1 S hd=>?_) λD5 H5 e5 s=>?_
  ·obtain ⟨c,I,rfl⟩:=zL m;refine zH ⟨rfl,?_⟩;left;refine hd (by assumption) ?_;rw [zF I];exact .mem (by right)
  have T:=s.freeze;clear s;left;refine EU (P:=a) (k:=i) (L:=yb g) T .mm .mm (ok.reach r) λY H7 e7 O=>?_;have S8:Sta H G H7 [] [(.list ((Ys a i g).map frD), .ref Y),(.list ((wpF a 0 (Qs.take i) (yb a)).map frD), .ref pp),(yv a,v1),(.list (Qs.map yv),v2)]:=O.freeze.dat ‹()›;clear O;left;refine Bp (p:=wpF a 0 (Qs.take i) (yb a)) (q:=Ys a i g) (n:=700) S8 .mm .mm (λq A=>(ok.szM _ (Ex A)).1) (λq A=>(ok.szM _ (aU.mpr (.inr ⟨i,g,r,by rw [jbP];exact A⟩))).1) nofun (by have:=ok.len i;omega) ?_ λpm H9 e9 S9=>?_
  ·unfold Ys;have:=jbq (yZ a i) (yb g);have e:(yb g).length=g.length:=by unfold yb;rw [Qa]
   omega
  left;have et:Qs.take (i+1)=Qs.take i++[g]:=by rw [Tr,r];rfl
  have ew:wpF a 0 (Qs.take (i+1)) (yb a)=yw (wpF a 0 (Qs.take i) (yb a)) (Ys a i g):=by
   rw [et,so,jbP,TR,Nat.min_eq_left ⋯]
  refine YD (S9.freeze.dat (ds':=[(.list ((yw (wpF a 0 (Qs.take i) (yb a)) (Ys a i g)).map frD), .ref pm),(yv a,v1),(.list (Qs.map yv),v2)]) ‹()›) ⟨pm,_,_,rfl,rfl,by rw [ew]⟩
 ·rintro σ H3 cs ds ⟨pp,y,t,rfl,rfl,rfl⟩ S3
  rw [xV,Qa,List.take_length] at S3;left;refine zM (xs:=(wpV a Qs).map frD) S3 .mm λJ2 N=>?_;refine yG N (λj=>zN ((λe:Rat=>(e,yQ Qs (zg a e))) ((wpV a Qs).getD j 0))) (ys:=(yt a Qs).map zN) (by unfold yt;rw [Qa,Qm];exact zm (λe:Rat=>zN (e,yQ Qs (zg a e))) 0 (wpV a Qs)) S3 (λ_ _=> .mem (by right)) (by rw [Qa];have:=ok.lenV;omega) (λj x v B' G' Kd Kn m t1 S hd C ex s0 H0=>?_) λD5 H5 e5 s=>?_
  ·obtain ⟨e,he,rfl⟩:=zL m;refine zH ⟨rfl,?_⟩;left;refine qA (P:=a) (Qs:=Qs) (e:=e) S .mm .mm .mm (ok.pw (Qc he)) λr6 H6 e6 T=>?_;left;refine hd (by assumption) ?_;rw [zF he];exact .mem (by right)
  left;exact xR s k
abbrev aF:Stmt:=top 10
def qm:FnScope pas pas (zk aF):=xu
def Fn (F:Fun K "those_at" "those_at" aF f fd):FnOk P w K mg base CX0 1 f fd pas aw:=by
 walk_at "+qm";obtain ⟨G,⟨l,pl⟩,u,t,⟨lt,few⟩,k⟩:=h;obtain ⟨v0,v1,rfl,al⟩:=xB t;have S:Sta H G H [] [(zo l,v0),(plD pl,v1)]:=Sta.enter u al;dsimp only at lt few k;walk_at "=fixplace,claims;10;ua1n0tqa1a0";left;refine zM (xs:=pl.map λ(i:Nat)=>PyData.int (i:Int)) S .mm λJ q=>?_;refine ye q (λj=>zG (l.getD (pl.getD j 0) (0,0,0))) (ys:=(zP (0,0,0) pl l).map zG) (by unfold zP;rw [Qa,Qm];exact zm (λi:Nat=>zG (l.getD i (0,0,0))) 0 pl) S (λj x v=>λs t1 S hd=>?_) λD H1 C z=>?_
 ·obtain ⟨i,g,rfl⟩:=zL s;cases S.int1;have r:=lt i (Qc g);have m:=Qb r;refine zH ⟨rfl,?_⟩;left;refine xc (xs:=l.map zG) (x:=zG l[i]) S .mm (yl (by rw [Qh,m];rfl)) λA y=>?_;refine hd y ?_;rw [zF g,zF m];exact .mem (by right)
 exact xR z k
abbrev ZT:Stmt:=top 11
def aD:FnScope paO paO (zk ZT):=xu
def BQ (B:Bl mg) (F:Fun K "places_of_rank" "places_of_rank" ZT f fd):FnOk P w K mg base CX0 1 f fd paO (XU zK):=by
 walk_at "+aD";obtain ⟨G,⟨l,g⟩,I,A,few,k⟩:=h;obtain ⟨v0,v1,rfl,al⟩:=xB A;have r:Sta H G H [] [(.int g,v1),(zo l,v0)]:=(Sta.enter I al).dat ‹()›;cases r.int1;have S:Sta H G H [] [(zo l,v0)]:=r.dat ‹()›;dsimp only at few k;walk_at "=fixplace,claim,rank;21;!ba0cIyn0yn1J9orlg1a2ja0";left;refine kW (xs:=l.map zG) S .mm λJ s=>?_;refine WX s (λj=>if zK g (l.getD j (0,0,0)) then some (.int (j:Int)) else none) S (λ_ _=> .mem (by right)) (by rw [xV,Qa];omega) (λi x v Z Y U T t t1 S hd hn C ex s0 X=>?_) λD H1 O q=>?_
 ·obtain ⟨x0,L,rfl⟩:=Vo t;obtain ⟨c,u,rfl⟩:=zL L;refine xG (xF S .mm λN M m=>?_);cases m.int1;refine yN (zH (yN (zH (Wc ⟨rfl,?_⟩))));rw [zF u] at hd hn;left;refine Yy (λz=>?_) (λz=>?_)
  ·left;exact hd (QH (QZ z)) m Has.int
  ·exact hn (QP λy=>z (Qz y)) m
 rw [xV,Qa,fm] at q;exact xR q k
abbrev Zx:Stmt:=top 12
def UA:FnScope pag pag (zk Zx):=xu
def vF (B:Bl mg) (F:Fun K "places_of_group" "places_of_group" Zx f fd):FnOk P w K mg base CX0 1 f fd pag (XU zu):=by
 walk_at "+UA";obtain ⟨G,⟨l,g⟩,I,A,few,k⟩:=h;obtain ⟨v0,v1,rfl,al⟩:=xB A;have r:Sta H G H [] [(.int g,v1),(zo l,v0)]:=(Sta.enter I al).dat ‹()›;cases r.int1;have S:Sta H G H [] [(zo l,v0)]:=r.dat ‹()›;dsimp only at few k;walk_at "=fixplace,claim,group;21;!ba0cIyn0yn1J9orlg1a2ja0";left;refine kW (xs:=l.map zG) S .mm λJ s=>?_;refine WX s (λj=>if zu g (l.getD j (0,0,0)) then some (.int (j:Int)) else none) S (λ_ _=> .mem (by right)) (by rw [xV,Qa];omega) (λi x v Z Y U T t t1 S hd hn C ex s0 X=>?_) λD H1 O q=>?_
 ·obtain ⟨x0,L,rfl⟩:=Vo t;obtain ⟨c,u,rfl⟩:=zL L;refine xG (xF S .mm λN M m=>?_);cases m.int1;refine yN (zH (yN (zH (Wc ⟨rfl,?_⟩))));rw [zF u] at hd hn;left;refine Yy (λz=>?_) (λz=>?_)
  ·left;exact hd (QH (QZ z)) m Has.int
  ·exact hn (QP λy=>z (Qz y)) m
 rw [xV,Qa,fm] at q;exact xR q k
abbrev Xf:Stmt:=top 13
def eN:FnScope pag pag (zk Xf):=xu
def ok_one (B:Bl mg) (F:Fun K "as_one_claim" "as_one_claim" Xf f fd):FnOk P w K mg base CX0 1 f fd pag EG:=by
 walk_at "+eN";obtain ⟨G,⟨l,g⟩,A,z,⟨pos,few⟩,k⟩:=h;obtain ⟨v0,v1,rfl,al⟩:=xB z;have y:Sta H G H [] [(.int g,v1),(zo l,v0)]:=(Sta.enter A al).dat ‹()›;cases y.int1;have S:Sta H G H [] [(zo l,v0)]:=y.dat ‹()›;dsimp only at pos few k;walk_at "=fisbSTbxclaim;1;ua0n0tg0cb:]bxclaim;1;ua0n0tg0cba1c";left;refine zM (xs:=l.map zG) S .mm λJ q=>?_;refine ye q (λj=> .int (l.getD j (0,0,0)).1) (ys:=(amV l).map PyData.int) (by unfold amV;rw [Qa,Qm];exact zm (λc:Cl=>PyData.int c.1) (0,0,0) l) S (λj x v=>λr t1 S hd=>?_) λD H1 L u=>?_
 ·obtain ⟨c,s,rfl⟩:=zL r;refine zH ⟨rfl,?_⟩;left;refine hd (by assumption) ?_;rw [zF s];exact Has.int
 left;have t:Sta H G H1 [] [(zo l,v0)]:=u.dropC;clear u;refine zM (xs:=l.map zG) t .mm λJ q=>?_;refine ye q (λj=> .int (l.getD j (0,0,0)).2.1) (ys:=(l.map (·.2.1)).map PyData.int) (by rw [Qa,Qm];exact zm (λc:Cl=>PyData.int c.2.1) (0,0,0) l) t (λj x v=>λr t1 S hd=>?_) λN M I C=>?_
 ·obtain ⟨c,s,rfl⟩:=zL r;refine zH ⟨rfl,?_⟩;left;refine hd (by assumption) ?_;rw [zF s];exact Has.int
 left;refine Bo (ns:=l.map (·.2.1)) C (by right) (by rw [Qa];exact pos) λm hm low=>?_;have em:m=jo (l.map (·.2.1)):=Cn hm low;subst em;left;exact xE (by assumption) k .mm
abbrev Xa:Stmt:=top 56
def eD:FnScope ["parts","places","count","wide","part","place"] paK (zk Xa):=xu
def vC (B:Bl mg) (F:Fun K "spread_parts" "spread_parts" Xa f fd):FnOk P w K mg base CX0 1 f fd paK dU:=by
 walk_at "+eD";obtain ⟨G,⟨x,pl,n⟩,X,O,ok,k⟩:=h;obtain ⟨v0,v1,v2,rfl,al⟩:=ZZ O;have D:Sta H G H [] [(.int (n:Int),v2),(ym x,v0),(plD pl,v1)]:=(Sta.enter X al).dat ‹()›;cases D.int1;have S:Sta H G H [] [(ym x,v0),(plD pl,v1)]:=D.dat ‹()›;dsimp only at ok k;have few:=ok.few;walk_at "=ek3)Bbsbdbdcca2eF[ba0ba1cIyD4yD5Jf{a4μa3a5fi2ba3c";left;rename_i q1 H1 e1 S1 q2 H2 e2 C;refine IF (n:=n) C (by right) ⋯ λg H3 e3 r=>?_;left
 have ez:List.replicate n (PyData.tuple [.int 0, .int 1])=(xU ((x.zip pl).take 0) (List.replicate n 0)).map frD:=by
  rw [List.take_zero,xU,jbz];rfl
 rw [ez] at r;have A:Sta H G H3 [(g,(xU ((x.zip pl).take 0) (List.replicate n 0)).map frD)] [(ym x,v0),(plD pl,v1)]:=r.weak (by walk_at "sub") ‹()›;clear r C S1;refine sV (xs:=x.map frD) (ys:=pl.map λ(i:Nat)=>PyData.int (i:Int)) A .mm .mm λJ I=>?_;refine Zp I (λi σ cs ds=>∃(q m:Option V),σ=[some v0,some v1,some (.int (n:Int)),some (.ref g),q,m]/\cs=[(g,(xU ((x.zip pl).take i) (List.replicate n 0)).map frD)]/\ds=[(ym x,v0),(plD pl,v1)]) A ⟨none,none,rfl,rfl,rfl⟩ (λi σ cs ds h=>?_) ?_ ?_
 ·obtain ⟨_,_,_,_,rfl⟩:=h;exact ⟨.mem (by right),λ_ _ h=>h.tail, .mem (by right)⟩
 ·rintro i z u σ H5 cs ds hz ⟨q,m,rfl,rfl,rfl⟩ S5
  obtain ⟨z1,z2,U,T,rfl⟩:=Zt hz;obtain ⟨p,hp,rfl⟩:=zL U;obtain ⟨j,s,rfl⟩:=zL T;have N:=ok.pls.lt j (Qc s);refine xG (xF S5 .mm λM L S6=>?_);have t:Sta H G H5 [(g,(xU ((x.zip pl).take i) (List.replicate n 0)).map frD)] [(.int (j:Int),L),(frD p,M),(ym x,v0),(plD pl,v1)]:=S6.dat ‹()›;cases t.int1;left;refine IE (j:=j) (y:=frD p) t .mm (JB (by rw [Qa,aB,QE];exact N)) λH8 Z=>?_;left;refine YD (Z.dat ‹()›) ⟨_,_,rfl,?_,rfl⟩;have Y:(x.zip pl)[i]? =some (p,j):=by rw [Ti];exact ⟨hp,s⟩
  rw [Tr,Y];show [(g,_)]=[(g,(xU ((x.zip pl).take i++[(p,j)]) (List.replicate n 0)).map frD)];rw [ef,List.map_set]
 ·rintro σ H5 cs ds ⟨q,m,rfl,rfl,rfl⟩ S5
  rw [yL,Qa,Qa,QQ (by rw [List.length_zip];exact Qu _)] at S5;left;exact xE (by assumption) k .mm
abbrev kE:Stmt:=top 55
def AQ:FnScope pan pan (zk kE):=xu
def BJ (X:Cal P w K mg base CX0 1 "spread_parts" paK dU) (F:Fun K "spread" "spread" kE f fd):FnOk P w K mg base CX0 2 f fd pan Us:=by
 walk_at "+AQ";obtain ⟨G,⟨x,pl,n⟩,t,s,⟨ok,few⟩,k⟩:=h;obtain ⟨v0,v1,v2,rfl,al⟩:=ZZ s;have m:Sta H G H [] [(.int (n:Int),v2),(yv x,v0),(plD pl,v1)]:=(Sta.enter t al).dat ‹()›;cases m.int1;have S:Sta H G H [] [(yv x,v0),(plD pl,v1)]:=m.dat ‹()›;dsimp only at ok few k;walk_at "=fixcorner,places,count;112;ua0n0tsbg0bhbg0ba1ba2cc";left;refine zM (xs:=x.map zN) S .mm λJ q=>?_;refine yG q (λj=>zN (YX pl n (x.getD j (0,[])))) (ys:=(yq pl n x).map zN) (by unfold yq;rw [Qa,Qm];exact zm (λc:zh=>zN (YX pl n c)) (0,[]) x) S (λ_ _=> .mem (by right)) (by rw [Qa];omega) (λj y v Y U N M r t1 S hd C ex s0 T=>?_) λD H1 I u=>?_
 ·obtain ⟨c,g,rfl⟩:=zL r;refine zH ⟨rfl,?_⟩;left;refine vj (x:=c.2) (pl:=pl) (n:=n) (by assumption) .mm .mm (ok c (Qc g)) λz O A L=>?_;left;refine hd (by assumption) ?_;rw [zF g];exact .mem (by right)
 exact xR u k
section
variable {A:RAd} {t:Nat}
abbrev kH:Stmt:=top 50
def EO:FnScope ["inner","claims","path","rank","places","paid"] paU (zk kH):=xu
def BO {n:Nat} (B:Bl mg) (B2:Bl3 mg) (XR:Cal P w K mg base CX0 2 "nothing" ["count"] Ww) (Ws:Cal P w K mg base CX0 1 "places_of_rank" paO (XU zK)) (XO:Cal P w K mg base CX0 1 "those_at" pas aw) (Wi:Cal P w K mg base CX0 (2*n+8) "course" pax (Xr t n)) (dD:Cal P w K mg base CX0 2 "spread" pan Us) (Vx:Cal P w K mg base CX0 5 "behind" paM Uw) (F:Fun K "ranks" "ranks" kH f fd):FnOk P w K mg base CX0 (2*n+9) f fd paU (ki t n):=by
 walk_at "+EO";obtain ⟨G,⟨r,l⟩,eG,hA,⟨⟨ru,hd⟩,ok⟩,k⟩:=h;obtain ⟨v0,v1,rfl,al⟩:=xB hA;have S:Sta H G H [] [(r.shape,v0),(zo l,v1)]:=Sta.enter eG al;dsimp only at ru hd ok k;have few:=ok.few;walk_at "=ek2hbzba1cceFu?xclaim;1;ua1n0tg0D3ek4hba1ba3cek5hba0bhba1ba4ccfk2hba2bhba5ba4bzba1cccfia2";left;rw [Qa];refine aO S few λX H1 e1 y=>?_;have ez:[ya (Yc l.length)]=rkP r l 0:=by rw [Wj];rfl
 rw [ez] at y;left;refine zM (xs:=l.map zG) y .mm λJ L=>?_;refine ye L (λj=> .int (l.getD j (0,0,0)).2.1) (ys:=(l.map (·.2.1)).map PyData.int) (by rw [Qa,Qm];exact zm (λc:Cl=>PyData.int c.2.1) (0,0,0) l) y (λj x v=>λM t1 S hd=>?_) λD2 H2 e2 S2=>?_
 ·obtain ⟨c,O,rfl⟩:=zL M;refine zH ⟨rfl,?_⟩;left;refine hd (by assumption) ?_;rw [zF O];exact Has.int
 refine WG S2 (by right) (by rw [Qa];omega) λos s H3 h1 h2 e3 S3=>?_;have eo:os=zQ l:=Zi h1 (yD l).1 λz=>by rw [h2,(yD l).2]
 subst eo;have S4:Sta H G H3 [(X,(rkP r l 0).map zN)] [(.list ((zQ l).map PyData.int), .ref s),(r.shape,v0),(zo l,v1)]:=S3.freeze.weak (by walk_at "sub") ‹()›;clear y S2 S3;left;refine zM (xs:=(zQ l).map PyData.int) S4 .mm λJ L=>?_;refine Zp L (λi σ cs ds=>∃(pp:Addr) (I D C:Option V),σ=[some v0,some v1,some (.ref pp),I,D,C]/\cs=[(pp,(rkP r l i).map zN)]/\ds=[(.list ((zQ l).map PyData.int), .ref s),(r.shape,v0),(zo l,v1)]) S4 ⟨X,none,none,none,rfl,rfl,rfl⟩ (λi σ cs ds h=>?_) ?_ ?_
 ·obtain ⟨_,_,_,_,_,_,rfl⟩:=h;exact .mem (by right)
 ·rintro i x u σ H5 cs ds M ⟨pp,I,D,C,rfl,rfl,rfl⟩ S5
  obtain ⟨m,N,rfl⟩:=zL M;cases S5.int1;have q:=ok.filter (zK m) (fh (Qc N));obtain ⟨b1,b2,b3⟩:=Bf ru ok N;have U:=YO (zK m) l;have lk:=Zl (zK m) l;have fk:=q.few;have gk:=(ru.gf q).ful.std;have fw:=ru.few q;left;refine nS (p:=zK) (l:=l) (g:=m) S5 .mm few λp6 H6 e6 S6=>?_;have Z:=S6.freeze;left;refine dg (l:=l) (pl:=zO (zK m) l) Z .mm .mm U.lt ⋯ λp8 H8 e8 T=>?_;rw [<-ZR] at T;have Y:=T.freeze;left;refine ZF (r:=r) (l:=l.filter (zK m)) Y .mm .mm ru hd q λRU Nh PL LX=>?_;have LW:=LX.freeze;left;rw [Qa];refine nM (x:=zE r (l.filter (zK m))) (pl:=zO (zK m) l) (n:=l.length) LW .mm .mm (λc O=>⟨U,by rw [(gk.ok c O).1,lk],few⟩) ⋯ λOz NR PH Me=>?_;have Mo:Sta H G NR [(pp,(rkP r l i).map zN)] [(yv (yq (zO (zK m) l) l.length (zE r (l.filter (zK m)))), .ref Oz),(.list ((zQ l).map PyData.int), .ref s),(r.shape,v0),(zo l,v1)]:=Me.freeze.dat ‹()›;have Nm:=Mo.freeze;clear S6 Z T Y LX LW Me Mo;left;refine nW (a:=rkP r l i) (b:=yq (zO (zK m) l) l.length (zE r (l.filter (zK m)))) Nm .mm .mm b1 b2 b3 λRT RF e15 Nl=>?_;left;refine YD (Nl.dat (ds':=[(.list ((zQ l).map PyData.int), .ref s),(r.shape,v0),(zo l,v1)]) ‹()›) ⟨RT,_,_,_,rfl,?_,rfl⟩;rw [ES N];rfl
 ·rintro σ H5 cs ds ⟨pp,I,D,C,rfl,rfl,rfl⟩ S5
  rw [Qa,IB] at S5;left;exact xR S5 k
abbrev df:Stmt:=top 51
def AX:FnScope ["outer","inner","claims","sums","others","places","group","members"] paB (zk df):=xu
def vI {n:Nat} (B:Bl mg) (B2:Bl3 mg) (XQ:Cal P w K mg base CX0 1 "places_of_group" pag (XU zu)) (XO:Cal P w K mg base CX0 1 "those_at" pas aw) (VN:Cal P w K mg base CX0 1 "as_one_claim" pag EG) (Wi:Cal P w K mg base CX0 (2*n+8) "course" pax (Xr t n)) (dD:Cal P w K mg base CX0 2 "spread" pan Us) (dB:Cal P w K mg base CX0 8 "within" paV Ur) (F:Fun K "groups" "groups" df f fd):FnOk P w K mg base CX0 (2*n+9) f fd paB (dW t n):=by
 walk_at "+AX";obtain ⟨G,⟨⟨a,b⟩,l⟩,eG,hA,⟨⟨ru,da,db⟩,ok⟩,k⟩:=h;obtain ⟨v0,v1,v2,rfl,al⟩:=ZZ hA;have S:Sta H G H [] [(a.shape,v0),(b.shape,v1),(zo l,v2)]:=Sta.enter eG al;dsimp only at ru da db ok k;obtain ⟨ra,rb⟩:=ru.groups;have few:=ok.few;have gfew:=Ym l;walk_at "=ek3Bcek4Bcek5BceFu?xclaim;1;ua2n0tg0D6ek7hba2ba6ceEZa3bhbhba2ba7cba6cceEZa4bhba1bhba2ba7cccfEνa5ba7cfihbhbhba0ba3cba4cba5bzba2cc";left;rename_i C H1 e1 S1 s H2 e2 S2 q H3 e3 S3;refine zM (xs:=l.map zG) S3 .mm λJ Y=>?_;refine ye Y (λj=> .int (l.getD j (0,0,0)).2.2) (ys:=(l.map (·.2.2)).map PyData.int) (by rw [Qa,Qm];exact zm (λc:Cl=>PyData.int c.2.2) (0,0,0) l) S3 (λj x v=>λhx t1 S hd=>?_) λD4 H4 e4 S4=>?_
 ·obtain ⟨c,hc,rfl⟩:=zL hx;refine zH ⟨rfl,?_⟩;left;refine hd (by assumption) ?_;rw [zF hc];exact Has.int
 refine WG S4 (by right) (by rw [Qa];omega) λos M H5 h1 h2 e5 S5=>?_;have eo:os=zB l:=Zi h1 (zY l).1 λz=>by rw [h2,(zY l).2]
 subst eo;have S6:Sta H G H5 [(q,((mJ l).take 0).flatten.map λ(i:Nat)=>PyData.int (i:Int)),(s,((zV (λl=>zE b l) l).take 0).map yv),(C,((zI l).take 0).map zG)] [(.list ((zB l).map PyData.int), .ref M),(a.shape,v0),(b.shape,v1),(zo l,v2)]:=S5.freeze.weak (by walk_at "sub") ‹()›;clear S1 S2 S3 S4 S5;left;refine zM (xs:=(zB l).map PyData.int) S6 .mm λJ Y=>?_;refine Zp Y (λi σ cs ds=>∃(X U:Option V),σ=[some v0,some v1,some v2,some (.ref C),some (.ref s),some (.ref q),X,U]/\cs=[(q,((mJ l).take i).flatten.map λ(i:Nat)=>PyData.int (i:Int)),(s,((zV (λl=>zE b l) l).take i).map yv),(C,((zI l).take i).map zG)]/\ds=[(.list ((zB l).map PyData.int), .ref M),(a.shape,v0),(b.shape,v1),(zo l,v2)]) S6 ⟨none,none,rfl,rfl,rfl⟩ (λi σ cs ds h=>?_) ?_ ?_
 ·obtain ⟨_,_,_,_,rfl⟩:=h;exact .mem (by right)
 ·rintro i x u σ H7 cs ds hx ⟨X,U,rfl,rfl,rfl⟩ S7
  obtain ⟨g,D,rfl⟩:=zL hx;cases S7.int1;have gl:=(Qd.mp D).1;have m:=ok.filter (zu g) (Xy (Qc D));have pk:=YO (zu g) l;have lk:=Zl (zu g) l;have fk:=m.few
  have t1:(zI l).take (i+1)=(zI l).take i++[Aa g (l.filter (zu g))]:=by
   rw [Tr];unfold zI;rw [Qh,D];rfl
  have t2:(zV (λl=>zE b l) l).take (i+1)=(zV (λl=>zE b l) l).take i++[zE b (l.filter (zu g))]:=by
   rw [Tr];unfold zV;rw [Qh,D];rfl
  have t3:((mJ l).take (i+1)).flatten=((mJ l).take i).flatten++zO (zu g) l:=by
   rw [Tr,List.flatten_append];unfold mJ;rw [Qh,D];show _++(zO (zu g) l++[])=_;rw [jbc]
  have fl:((mJ l).take i).flatten.length<=64:=by
   have:∀L∈(mJ l).take i,L.length<=8:=λL hL=>by
    obtain ⟨g',OE,rfl⟩:=Qj.mp (List.mem_of_mem_take hL);rw [Zl];exact QW (jag _ _) few
   have h1:=oI this;have h2:((mJ l).take i).length<=8:=by rw [TR];unfold mJ;rw [Qa];omega
   omega
  left;refine nS (p:=zu) (l:=l) (g:=g) S7 .mm few λp8 H8 e8 O=>?_;have N:=O.freeze;left;refine dg (l:=l) (pl:=zO (zu g) l) N .mm .mm pk.lt ⋯ λRU Nh PL I=>?_;rw [<-ZR] at I;have T:=I.freeze;left;refine rd_one (l:=l.filter (zu g)) (g:=g) T .mm m.pos fk λZ NR PH Me=>?_;have Mo:Sta H G NR [(C,((zI l).take i).map zG),(q,((mJ l).take i).flatten.map λ(i:Nat)=>PyData.int (i:Int)),(s,((zV (λl=>zE b l) l).take i).map yv)] [(zG (Aa g (l.filter (zu g))),Z),(plD (zO (zu g) l), .ref p8),(.list ((zB l).map PyData.int), .ref M),(a.shape,v0),(b.shape,v1),(zo l,v2)]:=(Me.dat ‹()›).rot3;left;refine yU (y:=zG (Aa g (l.filter (zu g)))) Mo .mm (by rw [Qa,TR];unfold zI;rw [Qa];omega) λH14 Nm=>?_;left;refine dg (l:=l) (pl:=zO (zu g) l) Nm .mm .mm pk.lt ⋯ λRT RF e15 Nl=>?_;rw [<-ZR] at Nl;have NQ:=Nl.freeze;left;refine ZF (r:=b) (l:=l.filter (zu g)) NQ .mm .mm rb db m λp17 H17 e17 NP=>?_;have NO:=NP.freeze.rot3;clear O N I T Me Mo Nm Nl NQ NP;left;refine yU (y:=yv (zE b (l.filter (zu g)))) NO .mm (by rw [Qa,TR];unfold zV;rw [Qa];omega) λH19 Ou=>?_;have OM:=Ou.rot3;left;refine vq (ys:=(zO (zu g) l).map λ(i:Nat)=>PyData.int (i:Int)) OM .mm (by rw [Qa,Qa];omega) λH21 NN=>?_;left;refine YD (NN.dat (ds':=[(.list ((zB l).map PyData.int), .ref M),(a.shape,v0),(b.shape,v1),(zo l,v2)]) ‹()›) ⟨_,_,rfl,?_,rfl⟩;rw [t1,t2,t3,QM,QM,QM];rfl
 ·rintro σ H7 cs ds ⟨X,U,rfl,rfl,rfl⟩ S7
  have e1:(zI l).take (zB l).length=zI l:=QQ (by rw [xP];exact Qu _);have e2:(zV (λl=>zE b l) l).take (zB l).length=zV (λl=>zE b l) l:=QQ (by rw [Yj];exact Qu _);have e3:(mJ l).take (zB l).length=mJ l:=QQ (by unfold mJ;rw [Qa];exact Qu _);rw [Qa,e1,e2,e3] at S7;have O:Sta H G H7 [] [(zo (zI l), .ref C),(.list ((zV (λl=>zE b l) l).map yv), .ref s),(plD (vz l), .ref q),(a.shape,v0),(zo l,v2)]:=S7.freeze.freeze.freeze.dat ‹()›;clear S7;obtain ⟨g1,g2⟩:=CQ ru ok;left;refine ZF (r:=a) (l:=zI l) O .mm .mm ra da ok.sums λp9 H9 e9 N=>?_;left;refine vg (P:=zE a (zI l)) (Qs:=zV (λl=>zE b l) l) N.freeze .mm .mm (CP ru ok) λRU Nh PL I=>?_;left;rw [Qa];refine nM (x:=yt (zE a (zI l)) (zV (λl=>zE b l) l)) (pl:=vz l) (n:=l.length) I.freeze .mm .mm g1 g2 λp11 Ov NM T=>?_;exact xR T k
def vK (B:Bl mg) (B2:Bl3 mg) (uG:Cal P w K mg base CX0 3 "shares" pam (cn 0)) (dE:Cal P w K mg base CX0 2 "evenly" pam (cn 1)) (uJ:Cal P w K mg base CX0 6 "losses" pam (cn 2)) (HY:Cal P w K mg base CX0 6 "upto" paA AD) (dC:Cal P w K mg base CX0 5 "turned" ["path"] cX)
 (XR:Cal P w K mg base CX0 2 "nothing" ["count"] Ww) (Ws:Cal P w K mg base CX0 1 "places_of_rank" paO (XU zK)) (XQ:Cal P w K mg base CX0 1 "places_of_group" pag (XU zu)) (X:Cal P w K mg base CX0 1 "those_at" pas aw) (VN:Cal P w K mg base CX0 1 "as_one_claim" pag EG) (U:Cal P w K mg base CX0 2 "spread" pan Us) (Vx:Cal P w K mg base CX0 5 "behind" paM Uw) (dB:Cal P w K mg base CX0 8 "within" paV Ur)
 {fr T:Addr} {z C:FuncData} (Fr:Fun K "ranks" "ranks" kH fr z) (Su:mg "ranks"=some (.ref fr)) (br:xi K z paU []) (Fg:Fun K "groups" "groups" df T C) (Ml:mg "groups"=some (.ref T)) (bg:xi K C paB [])
 (F:Fun K "course" "course" kO f fd) (hm:mg "course"=some (.ref f)) (b:xi K fd pax []):∀n:Nat,FnOk P w K mg base CX0 (2*n+8) f fd pax (Xr t n):=by
 intro n
 induction n with
 |zero=>
  refine F.ok eJ (λvs H Q E h=>?_) (λLF A outer s H vs Q E hr h=>?_)
  ·obtain ⟨G,a,_,h,_⟩:=h;rw [<-h.len];rfl
  obtain ⟨G,⟨r,l⟩,_,_,⟨⟨_,hd⟩,_⟩,_⟩:=h;exact absurd hd (by cases r<;>simp [Rl.deep])
 |succ n ih=>
  have Y:Cal P w K mg base CX0 (2*n+8) "course" pax (Xr t n):=US F ih hm b;have Lz:Cal P w K mg base CX0 (2*n+9) "ranks" paU (ki t n):=US Fr (BO B B2 XR Ws X Y U Vx Fr) Su br;have Lo:Cal P w K mg base CX0 (2*n+9) "groups" paB (dW t n):=US Fg (vI B B2 XQ X VN Y U dB Fg) Ml bg;refine F.ok eJ (λvs H Q E h=>?_) (λLF A outer s H vs Q E hr h=>?_)
  ·obtain ⟨G,a,_,h,_⟩:=h;rw [<-h.len];rfl
  obtain ⟨G,⟨r,l⟩,eG,hA,⟨⟨ru,hd⟩,q⟩,k⟩:=h;obtain ⟨v0,v1,rfl,al⟩:=xB hA;have S:Sta H G H [] _:=Sta.enter eG al;dsimp only at ru hd q k S;have ok:=q.ok ru.ht;have nd0:=eJ.nd;walk_at "=ek2g0emorla2wjfihba1cpemorla2wjfihba1cpemorla2wjfihba1cpemorla2wjfihbsbdbdcbhba1cbhba1ccpemorla2wjfihbhbg0ba1ccpemorla2wjfihbg0ba1cpemorla2wjfihbg0bg0ba1cpfihbg0bhbg0ba1cbhbg0ba1cc"
  cases r with
  |shares=>
   simp only [Rl.shape] at S;left;refine aP (n:=0) S .mm ok λL H1 N g=>?_;exact xR g k
  |evenly=>
   simp only [Rl.shape] at S;left;refine aP (n:=1) S .mm ok λL H1 N g=>?_;exact xR g k
  |losses=>
   simp only [Rl.shape] at S;left;refine aP (n:=2) S .mm ok λL H1 N g=>?_;exact xR g k
  |halves=>
   simp only [Rl.shape] at S;left;rename_i p0 H0 e0 S0
   have eh:PyData.tuple [.int 1, .int 2]=frD (1 / 2):=by
    unfold frD;rw [show ((1:Rat) / 2).num=1 by decide+kernel,show ((1:Rat) / 2).den=2 by decide+kernel];rfl
   rw [eh] at S0;refine aP (n:=1) S0 .mm ok λL H1 N g=>?_;have m:=g.freeze;left;refine aP (n:=2) m .mm ok λJ O M u=>?_;have Z:=u.freeze;left;refine Bi (p:=1 / 2) (a:=flV 1 l) (b:=flV 2 l) Z .mm .mm .mm (up_ok ok) λp5 H5 e5 D=>?_;rw [Al] at D;exact xR D k
  |other r=>
   simp only [Rl.shape] at S;left;rename_i I g;refine ZF (r:=r) g .mm .mm ru.other (by simp only [Rl.deep] at hd;omega) q λp2 H2 e2 m=>?_;left;refine nL (a:=zE r l) m.freeze .mm (ru.other.inn q) λJ O M u=>?_;exact xR u k
  |upto t b x y=>
   obtain ⟨px,py⟩:=ru.upto;have dx:x.deep<=n:=by simp only [Rl.deep] at hd;omega
   have dy:y.deep<=n:=by simp only [Rl.deep] at hd;omega
   have hp:PyData.tuple [.int t, .int b]=frD (Rat.divInt t b):=Ff ru.pok.1;simp only [Rl.shape] at S;rw [hp] at S;left;rename_i I g w2 m;refine ZF (r:=x) m .mm .mm px dx q λJ O M u=>?_;have Z:=u.freeze;left;rename_i w5 D;refine ZF (r:=y) D .mm .mm py dy q λp6 H6 e6 S6=>?_;have S7:=S6.freeze;left;refine Bi (p:=Rat.divInt t b) (a:=zE x l) (b:=zE y l) S7 .mm .mm .mm (ru.up q) λp8 H8 e8 S8=>?_;exact xR S8 k
  |ranks r=>
   simp only [Rl.shape] at S;left;rename_i I g;refine Bm (r:=r) g .mm .mm ru.ranks (by simp only [Rl.deep] at hd;omega) q λp2 H2 e2 m=>?_;exact xR m k
  |groups a b=>
   simp only [Rl.shape] at S;left;rename_i I g w2 m;refine vm (a:=a) (b:=b) m .mm .mm .mm ru (by simp only [Rl.deep] at hd;omega) (by simp only [Rl.deep] at hd;omega) q λJ O M u=>?_;exact xR u k
def Fv {fS fT Ru:Addr} {n:Nat} (z:∀r:Rl,ROk K fS fT Ru (A.cls r)) (N:Cal P w K mg base CX0 1 "check_claims" pam qh) (L:Cal P w K mg base CX0 (2*n+8) "course" pax (Xr t n)) (F:Fun K "path" "Rule.path" Uc f fd):FnOk P w K mg base CX0 (2*n+9) f fd paN (qf A t n):=by
 walk_at "+nG";obtain ⟨G,⟨r,l⟩,q,m,⟨⟨pl,hn⟩,g⟩,k⟩:=h;obtain ⟨v0,v1,rfl,al⟩:=xB m;have S:Sta H G H [] _:=Sta.enter q al;dsimp only at pl hn g k S;have ok:=g.ok pl.ht;walk_at "=eEhba1cfihb(a0ba1c";left;refine EZ S .mm ok λH1 J y=>?_;left;refine Bs y .mm (z r) λC u=>?_;left;refine ZF u .mm .mm pl hn g λD M I s=>?_;exact xR s k
end
abbrev aL:Stmt:=top 20
def qt:FnScope ["number"] ["number"] (zk aL):=xu
def qI (B:Bl mg) (F:Fun K "is_whole" "is_whole" aL f fd):FnOk P w K mg base CX0 1 f fd ["number"] av:=by
 walk_at "+qt";obtain ⟨n,rfl,q⟩:=h;have S:Sta H H H [] []:=Sta.enter (zS.refl _) λp hp=>absurd hp Qp;have g:Is H (.int n) (.int n):=S.hp Has.int;walk_at "=fi@7ba0b}int;c#α7ba0bβbool;c";left;exact q
section
variable {A:RAd} {t:Nat}
def BS {fS fT Ru u:Addr} {g:FuncData} {n:Nat} (L:∀r:Rl,ROk K fS fT Ru (A.cls r)) (J:∀r:Rl,Meth K (A.cls r) "path" u) (gX:FnOk P w K mg base CX0 (2*n+9) u g paN (qf A t n)) (gC:xi K g paN []) (M:Cal P w K mg base CX0 6 "parts_at" ["path","purse"] Uu) (F:Fun K "parts" "Rule.parts" WE f fd):FnOk P w K mg base CX0 (2*n+10) f fd pai (cY A t n):=by
 walk_at "+kB";obtain ⟨G,⟨r,l,e⟩,z,y,⟨⟨⟨pl,hn⟩,q⟩,s,e0⟩,k⟩:=h;obtain ⟨v0,v1,v2,rfl,al⟩:=ZZ y;have S:Sta H G H [] _:=Sta.enter z al;dsimp only at pl hn q s e0 k S;walk_at "=fihbξa0πba1cba2c";left;refine sW (C:=A.cls r) S .mm (L r).cl (J r) (by decide+kernel) ?_;left;refine EW (r:=r) S .mm .mm pl hn q λO H1 U I=>?_;left;refine aN (a:=zE r l) (e:=e) (m:=6800) (n:=700) I.freeze .mm .mm (pl.R q) s nofun e0 λN X T D=>?_;exact xE D k .mm
end
section
local macro_rules|`(tactic|walk_at "rd")=>`(tactic|first|fail "&182"|fail)
abbrev Xd:Stmt:=top 25
def eM:FnScope ["places","count","place"] ["places","count"] (zk Xd):=xu
def ok_pl0 (t:Cal P w K mg base CX0 1 "is_whole" ["number"] av) (F:Fun K "check_places" "check_places" Xd f fd):FnOk P w K mg base CX0 2 f fd ["places","count"] Ip:=by
 walk_at "+eM";obtain ⟨ps,n,r,s,q⟩:=h;obtain ⟨v,v1,rfl,al⟩:=xB r;have g:Sta H H H [] [(.int n,v1),(xk ps,v)]:=(Sta.enter (zS.refl _) al).dat ‹()›;cases g.int1;have S:Sta H H H [] [(xk ps,v)]:=g.dat ‹()›;walk_at "=fFua0D2fmKMPHhba2cMWa2dj3ρa2a1j&p";left;refine zM (xs:=ps.map PyData.int) S .mm λJ m=>?_;refine Zp m (λi σ cs ds=>(∃x,σ=[some v,some (.int n),x])/\cs=[]/\ds=[(xk ps,v)]/\∀(j:Nat) (p:Int),j<i->ps[j]? =some p->0<=p/\p<n) S ⟨⟨none,rfl⟩,rfl,rfl,λj c h=>absurd h (Nat.not_lt_zero _)⟩ (λi σ cs ds h=>?_) ?_ ?_
 ·obtain ⟨_,rfl,rfl,_⟩:=h;exact .mem (by right)
 ·rintro i x u σ H2 cs ds hx ⟨⟨x1,rfl⟩,rfl,rfl,hg⟩ S2
  obtain ⟨p,hp,rfl⟩:=zL hx;cases S2.int1;have pg:=s p (Qc hp);left;refine ET ?_;left;refine Yy (λc=>absurd pg.1 ⋯) (λA=>?_);left;refine Yy (λc=>absurd pg.2 ⋯) (λz=>?_);left;refine YD (S2.dat ‹()›) ⟨⟨_,rfl⟩,rfl,rfl,λj d y hd=>?_⟩
  by_cases e:j=i
  ·subst e;rw [hp] at hd;cases hd;omega
  ·exact hg j d ⋯ hd
 ·rintro σ H2 cs ds ⟨⟨x1,rfl⟩,rfl,rfl,hg⟩ S2
  exact q _ S2.base
abbrev qu:Stmt:=top 26
def EM:FnScope ["numbers","whole","number"] ["numbers"] (zk qu):=xu
def Fl (O:Cal P w K mg base CX0 3 "plus" pab ni) (F:Fun K "total" "total" qu f fd):FnOk P w K mg base CX0 4 f fd ["numbers"] AE:=by
 walk_at "+EM";obtain ⟨G,ps,C,z,⟨⟨n,zs,hn⟩,few⟩,k⟩:=h;obtain ⟨v,rfl,al⟩:=Yz z;have S:Sta H G H [] [(.list (ps.map frD),v)]:=Sta.enter C al;dsimp only at k
 have snoc:∀(qs:List Rat) (q:Rat),zA (qs++[q])=zA qs+q:=λqs q=>by
  induction qs with
  |nil=>show q+0=0+q;rw [Rat.add_zero,Rat.zero_add]
  |cons a qs g=>rw [Tv,zA,zA,g,Rat.add_assoc]
 have sz:∀i:Nat,i<=8->SzQ ((i+1)*(n+1)) (zA (ps.take i)):=λi L=>by
  induction i with
  |zero=>rw [List.take_zero];exact (show SzQ 1 0 from ⟨by unfold Sz;decide,by unfold Sz;decide⟩).mono ⋯
  |succ i g=>
   cases e:ps[i]? with
   |none=>
    rw [QQ (by have:=jaa.mp e;omega)];have:=g ⋯;rw [QQ (by have:=jaa.mp e;omega)] at this;exact this.mono (Nat.mul_le_mul_right _ ⋯)
   |some q=>
    rw [Tr,e];show SzQ _ (zA (ps.take i++[q]));rw [snoc];exact ((g ⋯).add (zs q (Qc e))).mono (by rw [Nat.succ_mul (i+1)];omega)
 walk_at "=ek1sbdbdceFua0D2fk1hba1ba2cfia1";left;rename_i D H1 N s;rw [show PyData.tuple [.int 0, .int 1]=frD (zA (ps.take 0)) from rfl] at s;refine zM (xs:=ps.map frD) s .mm λJ y=>?_;refine Zp y (λi σ cs ds=>∃(w:V) (x:Option V),σ=[some v,some w,x]/\cs=[]/\ds=[(frD (zA (ps.take i)),w),(.list (ps.map frD),v)]) s ⟨_,none,rfl,rfl,rfl⟩ (λi σ cs ds h=>?_) ?_ ?_
 ·obtain ⟨_,_,_,_,rfl⟩:=h;exact .mem (by right)
 ·rintro i x u σ H2 cs ds hx ⟨w0,x2,rfl,rfl,rfl⟩ S2
  obtain ⟨q,m,rfl⟩:=zL hx;have I:=(Qd.mp m).1;have z1:=sz i ⋯;have z2:=zs q (Qc m)
  have b:(i+1)*(n+1)<=100000:=by
   have:=Nat.mul_le_mul (show i+1<=8 by omega) (show n+1<=4500 by omega);omega
  left;refine nR (p:=zA (ps.take i)) (q:=q) S2 .mm .mm z1 z2 ⋯ True.intro λr T M t=>?_;left
  have A:zA (ps.take i)+q=zA (ps.take (i+1)):=by
   rw [Tr,m];exact (snoc _ _).symm
  rw [A] at t;exact YD (t.dat ‹()›) ⟨_,_,rfl,rfl,rfl⟩
 ·rintro σ H2 cs ds ⟨w0,x2,rfl,rfl,rfl⟩ S2
  rw [Qa,QQ (Qu _)] at S2;left;exact xE S2 k .mm
section
variable {A:RAd} {t:Nat}
abbrev eR:Stmt:=top 24
def uV:FnScope ["rule","claims","purse","away","parts","places","left"] paD (zk eR):=xu
def Je {fS fT Ru U:Addr} {s:FuncData} {n:Nat} (B:Bl mg) (Z:∀r:Rl,ROk K fS fT Ru (A.cls r)) (Y:∀r:Rl,Meth K (A.cls r) "parts" U) (Em:Cal P w K mg base CX0 2 "check_places" ["places","count"] Ip) (DR:Cal P w K mg base CX0 4 "total" ["numbers"] AE) (XO:Cal P w K mg base CX0 1 "those_at" pas aw) (Vd:FnOk P w K mg base CX0 (2*n+10) U s pai (cY A t n)) (YU:xi K s pai []) (F:Fun K "staying" "staying" eR f fd):FnOk P w K mg base CX0 (2*n+11) f fd paD (AF A t n):=by
 walk_at "+uV";obtain ⟨G,⟨r,l,e,ps⟩,eG,hA,m,k⟩:=h;obtain ⟨v0,v1,v2,v3,rfl,al⟩:=isAll4 hA;have S:Sta H G H [] [(r.ins A,v0),(zo l,v1),(frD e,v2),(xk ps,v3)]:=Sta.enter eG al;dsimp only at m k;have gp:=m.good;have zl:=m.left;walk_at "=ek4.a0,ba1ba2ceEhba3bzba1cceN5place,away;13;>bzba1ccn09γa0a1a0emorlzba5cdjfiBcpek6hbxplace,parts;14;ua5n0tqa1a0cfiσba5b.a0,bhba1ba5cba6cc";left;refine sW (C:=A.cls r) S .mm (Z r).cl (Y r) (by decide+kernel) ?_;left;have few:=m.cl.few;refine (ff (r:=r) S .mm .mm .mm m.ru m.deep m.cl (m.ez.mono nofun) m.e0 λw1 H1 e1 S1=>?_);left;rw [Qa];refine rd_pl0 S1 .mm gp λH2 e2 M=>?_;left;rw [Qa];refine nV H G ⋯ ⋯ λJ I=>?_;refine WX I (λj=>if !decide ((j:Int)∈ps) then some (.int (j:Int)) else none) M (λ_ _=>trivial) (by rw [yR];omega) (λi x v B' G' Kd Kn L t1 S hd hn C ex s0 H0=>?_) λD H3 e3 y=>?_
 ·obtain ⟨q,rfl⟩:=Xu L;cases S.int1;have S:=S.drop1;refine zH ⟨rfl,?_⟩;left;refine Hs (ns:=ps) S .mm ?_;rw [show (0:Int)+(i:Int)=(i:Int) from Int.zero_add _];refine ⟨_,rfl,?_⟩
  by_cases z:(i:Int)∈ps
  ·rw [QZ z];exact hn (by rw [QZ z];rfl) S
  ·rw [Tc z];refine Eq.mpr (QH nofun) ?_;left;exact hd (by rw [Tc z];rfl) S Has.int
 rw [yR,lU (λ(j:Nat)=>!decide ((j:Int)∈ps)) (λ(j:Nat)=>PyData.int (j:Int))] at y;have y:Sta H G H3 [(D,(zZ l.length ps).map λ(j:Nat)=>PyData.int (j:Int))] _:=y;left;rw [Qa];refine Yy (λc=>?_) (λc=>?_)
 ·left;rename_i p4 H4 e4 u;rw [show cD r l e ps=[] by unfold cD;rw [List.eq_nil_of_length_eq_zero (l:=zZ l.length ps) ⋯];rfl] at k;exact xE (u.freeze) k .mm
 have u:=y.freeze;have ne:zZ l.length ps≠[]:=λz=>c (by rw [z];rfl);have g:=(m.ru.gf m.cl).ful;have pl:=g.std.len (e:=e);have N:(zZ l.length ps).length<=8:=QW (jag ..) (by rw [jaN];omega);have lt:∀i∈zZ l.length ps,i<l.length:=λi q=>jbm.mp (QU.mp q).1;left;refine zM (xs:=(zZ l.length ps).map λ(j:Nat)=>PyData.int (j:Int)) u .mm λJ I=>?_;refine ye I (λj=>frD ((zg (zE r l) e).getD ((zZ l.length ps).getD j 0) 0)) (ys:=(zP 0 (zZ l.length ps) (zg (zE r l) e)).map frD) (by unfold zP;rw [Qa,Qm];exact zm (λi:Nat=>frD ((zg (zE r l) e).getD i 0)) 0 (zZ l.length ps)) u (λj x v=>λL t1 S hd=>?_) λD5 H5 e5 S5=>?_
 ·obtain ⟨i,q,rfl⟩:=zL L;cases S.int1;have O:=lt i (Qc q);rw [<-pl] at O;have T:=Qb O;refine zH ⟨rfl,?_⟩;left;refine cu (xs:=(zg (zE r l) e).map frD) (x:=frD (zg (zE r l) e)[i]) S .mm (yl (by rw [Qh,T];rfl)) λw2 M=>?_;refine hd M ?_;rw [zF q,zF T];exact .mem (by right)
 have S6:=S5.freeze;have dd:=m.ru.den;have sb:=UJ 0 (zg (zE r l) e) ps;rw [pl] at sb;have sz:∀p∈zP 0 (zZ l.length ps) (zg (zE r l) e),SzQ 4499 p:=λp hp=>m.part p (sb.subset hp);left;refine Zf (zP 0 (zZ l.length ps) (zg (zE r l) e)) S6 (.cons .mm .nil) ⟨⟨_,sz,⋯⟩,by rw [yV];exact N⟩ λw7 H7 e7 X=>?_;left;refine sW (C:=A.cls r) X .mm (Z r).cl (Y r) (by decide+kernel) ?_;left;refine dg (l:=l) (pl:=zZ l.length ps) X .mm .mm lt N λp8 H8 e8 S8=>?_;have S9:=S8.freeze;left;have cs:=m.cl.stay ne;refine (ff (r:=r) (l:=zP (0,0,0) (zZ l.length ps) l) (e:=bj r l e ps) S9 .mm .mm .mm m.ru m.deep cs zl (qS m.ru m.cl m.e0) λOP Nh PL LX=>?_);left;refine IK (xs:=(zZ l.length ps).map λ(j:Nat)=>PyData.int (j:Int)) (ys:=(zg (zE r (zP (0,0,0) (zZ l.length ps) l)) (bj r l e ps)).map frD) LX .mm .mm (by rw [Qa,Qa,(m.ru.gf cs).ful.std.len,yV]) λw11 Ov NM LW=>?_;left;exact xE LW k .mm
end
end
abbrev XY:Stmt:=top 68
def ig:FnScope pay pay (zk XY):=xu
def Jk (B:Bl mg) (F:Fun K "_law_cell_at" "_law_cell_at" XY f fd):FnOk P w K mg base CX0 1 f fd pay (sM K):=by
 walk_at "+ig";obtain ⟨a,ns,k,rfl,g,h0,q⟩:=h;walk_at "=emWa1zba0cjfiqa0a1pfid";left;refine IL g ?_;left;refine Yy (λc=>?_) (λc=>?_)
 ·left;refine rd_ixS g h0 c ?_;unfold gv at q;rw [QH c] at q;exact q
 ·left;unfold gv at q;rw [QP c] at q;exact q
abbrev Ua:Stmt:=top 69
def nD:FnScope ["_law_cell","_law_place","_law_number"] paL (zk Ua):=xu
def Fw (F:Fun K "_law_mixed" "_law_mixed" Ua f fd):FnOk P w K mg base CX0 1 f fd paL Iq:=by
 walk_at "+nD";obtain ⟨c,p,rfl,q⟩:=h;walk_at "=ek2CAAvCa0ddvda1ddek2CAAva2a2vda1ddfiCva2dd";left;exact q
abbrev XX:Stmt:=top 70
def ie:FnScope pao pao (zk XX):=xu
def vJ (B:Bl mg) (F:Fun K "_law_divisor" "_law_divisor" XX f fd):FnOk P w K mg base CX0 1 f fd pao nk:=by
 walk_at "+ie";obtain ⟨a,b,rfl,r,q⟩:=h;walk_at "=e<oQla1djfτ0ba1b1a0a1cfi%ba0c";refine pU (λm σ H2=>∃(x y:Int),σ=[some (.int x),some (.int y)]/\0<=y/\Int.gcd x y=Int.gcd a b/\H2=H/\m=y.toNat) _ ⟨a,b,rfl,r,rfl,rfl,rfl⟩ ?_
 rintro m σ H2 ⟨x,y,rfl,hy,hg,rfl,rfl⟩
 left;refine vh (λc=>?_) (λc=>?_)
 ·have c:y≠0:=by simpa using c
  left;have e:x.fmod y=x % y:=Tw x hy;have g:=jaF x c;have s:=jao x (show 0<y by omega);refine ⟨(x.fmod y).toNat,by rw [e];omega,y,x.fmod y,rfl,by rw [e];exact g,?_,rfl,rfl⟩;rw [e,tQ,hg]
 ·have c:y=0:=by simpa using c
  subst c;left
  have e:(x.natAbs:Int)=((Int.gcd a b:Nat):Int):=by
   rw [<-hg,Int.gcd_zero]
  rw [e];exact q
abbrev WA:Stmt:=top 71
def kr:FnScope ["_law_top","_law_bottom","_law_by"] paC (zk WA):=xu
def BY (t:Cal P w K mg base CX0 1 "_law_divisor" pao nk) (F:Fun K "_law_lowest" "_law_lowest" WA f fd):FnOk P w K mg base CX0 2 f fd paC Uv:=by
 walk_at "+kr";obtain ⟨G,⟨a,b⟩,q,m,⟨g,sb⟩,k⟩:=h;cases (yF (ns:=[a,b]) m);have S:Sta H G H [] []:=Sta.enter q λp hp=>absurd hp Qp;dsimp only at g sb k;have s:0<Int.gcd a b:=jbA a ⋯;have r:CDv a ((Int.gcd a b:Nat):Int):=⟨⋯,sb⟩;walk_at "=ek2hba0ba1cfisb8a0a2b8a1a2c";left;refine xE (by assumption) k (.mem ?_);rw [show frD (Rat.divInt a b)= .tuple [.int (a.fdiv ((Int.gcd a b:Nat):Int)), .int (b.fdiv ((Int.gcd a b:Nat):Int))] by unfold frD;rw [<-(bh g).1,<-(bh g).2]];walk_at "mem"
local macro_rules|`(tactic|walk_at "rd")=>`(tactic|first|fail "&185"|fail)
abbrev VW:Stmt:=top 72
def ny:FnScope paq paq (zk VW):=xu
def Fj (B:Bl mg) (F:Fun K "_law_whole" "_law_whole" VW f fd):FnOk P w K mg base CX0 1 f fd paq av:=by
 walk_at "+ny";obtain ⟨n,rfl,q⟩:=h;have S:Sta H H H [] []:=Sta.enter (zS.refl _) λp hp=>absurd hp Qp;have g:Is H (.int n) (.int n):=S.hp Has.int;walk_at "=fi@7ba0b}int;c#α7ba0bβbool;c";left;exact q
abbrev Zy:Stmt:=top 73
def UB:FnScope paq paq (zk Zy):=xu
def Ji (B:Bl mg) (q:Cal P w K mg base CX0 1 "_law_whole" paq av) (s:Cal P w K mg base CX0 1 "_law_divisor" pao nk) (F:Fun K "_law_is_fraction" "_law_is_fraction" Zy f fd):FnOk P w K mg base CX0 2 f fd paq AG:=by
 walk_at "+UB";obtain ⟨a,m,_,k⟩:=h;obtain ⟨v,rfl,al⟩:=Yz m;have S:Sta H H H [] [(frD a,v)]:=Sta.enter (zS.refl _) al;have r:=S.hp (x:=frD a) (v:=v) .mm;walk_at "=emKMPH7ba0b;tuple;cMoQlzba0cdjMPHhbg0c3PHhbg0cfiGpfi@υg0dj#$rlhbg0bg0cdj";left;refine qV rfl ?_;left;refine Yy (λ_=>?_) (λc=>absurd (by have:=a.den_pos;omega) c);left
 have g:((a.num.gcd (a.den:Int):Nat):Int)=1:=by
  have:=a.reduced;unfold Nat.Coprime at this;rw [Int.gcd,Int.natAbs_natCast,this];rfl
 rw [QZ g];exact k H (zS.refl _)
abbrev WB:Stmt:=top 74
def ku:FnScope ["_law_number"] ["_law_number"] (zk WB):=xu
def BZ (F:Fun K "_law_labels" "_law_labels" WB f fd):FnOk P w K mg base CX0 1 f fd ["_law_number"] ko:=by
 walk_at "+ku";obtain ⟨G,n,m,g,_,k⟩:=h;cases (yF (ns:=[n]) g);have S:Sta H G H [] []:=Sta.enter m λp hp=>absurd hp Qp;dsimp only at k;unfold lM at k;walk_at "=emorlCa0ddjfiBbdbdbdcpemorlCa0ddjfiBbA+dddbdbdcpemorlCa0ddjfiBbdb+ddbdcpfiBbdbdbdc";left;refine Yy (λc=>?_) (λc=>?_)
 ·rw [QH c] at k;left;exact xR (by assumption) k
 rw [QP c] at k;left;refine Yy (λc=>?_) (λc=>?_)
 ·rw [QH c] at k;left;exact xR (by assumption) k
 rw [QP c] at k;left;refine Yy (λc=>?_) (λc=>?_)
 ·rw [QH c] at k;left;exact xR (by assumption) k
 rw [QP c] at k;left;exact xR (by assumption) k
section
variable {A:RAd}
abbrev WC:Stmt:=top 75
def kv:FnScope ["_law_script","_law_at","_law_many","_law_size","_law_labels_here","_law_ranks","_law_groups","_law_claims_here","_law_k","_law_cell","_law_amount"] pak (zk WC):=xu
def Cb (B:Bl mg) (mH:Cal P w K mg base CX0 1 "_law_cell_at" pay (sM K)) (Kj:Cal P w K mg base CX0 1 "_law_mixed" paL Iq) (Ia:Cal P w K mg base CX0 1 "_law_labels" ["_law_number"] ko) (F:Fun K "_law_claims" "_law_claims" WC f fd):FnOk P w K mg base CX0 2 f fd pak (dX K):=by
 walk_at "+kv";obtain ⟨G,a,ns,at',many,size,rfl,eG,hS,⟨Rt,hm1,hm8,hs0,Pc⟩,k⟩:=h;have S:Sta H G H [] []:=Sta.enter eG λp hp=>absurd hp Qp;walk_at "=ek4hbhba0ba1cbdcek5hba4cek6hbOa4dcek7BceF>ba2cD8ek9hba0bAa1a8ceka1Oa9da3emorlCa9ddjfkaCOa9ddpemKYorlCa9ddj0Va8djfkaqqa71Oa9da8dpfEZa7bsbaabqa5Chba9bdcdbqa6Chba9bdcdccfia7";left;generalize mixV (gv ns at') 3=m at*;refine nU S λN H1 e1 S1=>?_;have S1':=S1.freeze;left;refine nU S1' λM H2 e2 S2=>?_;have S2':=S2.freeze;left;rename_i u H3 e3 S3;refine nV H G ⋯ ⋯ λJ wk=>?_
 refine Zp wk (λi σ cs ds=>∃(l:List Cl) (T O Y:Option V),σ=[some (.ref a),some (.int at'),some (.int many),some (.int size),some (.int m),some (.ref N),some (.ref M),some (.ref u),T,O,Y]/\cs=[(u,l.map zG)]/\ds=[(xk (lM (m / 5)), .ref M),(xk (lM m), .ref N)]/\l.length=i/\∀c∈l,(0<=c.1/\0<=c.2.1/\0<=c.2.2)/\c.1<size) S3
  ⟨[],none,none,none,rfl,rfl,rfl,rfl,λc C=>absurd C Qp⟩ (λ_ _ _ _ _=>trivial) ?_ ?_
 ·rintro i x v σ H4 cs ds hx ⟨l,T,O,Y,rfl,rfl,rfl,hlen,hok⟩ s
  obtain ⟨hi,rfl⟩:=Xu hx;cases s.int1;have hS4:SqL K H4 a (ns.map V.int):=s.base.seq hS;have s:=s.drop1;left;generalize gv ns (at'+(0+(i:Int)))=c at*
  have fin:∀(am:Int) (y8 y9 RH:Option V) (r g:Int) (L:Hp),0<=am->am<size->0<=r->0<=g->Sta H G L [(u,l.map zG++[zG (am,r,g)])] [(xk (lM (m / 5)), .ref M),(xk (lM m), .ref N)]->
   AtP H G (λσ cs ds=>∃(l:List Cl) (T O Y:Option V),σ=[some (.ref a),some (.int at'),some (.int many),some (.int size),some (.int m),some (.ref N),some (.ref M),some (.ref u),T,O,Y]/\cs=[(u,l.map zG)]/\ds=[(xk (lM (m / 5)), .ref M),(xk (lM m), .ref N)]/\l.length=i+1/\∀c∈l,(0<=c.1/\0<=c.2.1/\0<=c.2.2)/\c.1<size) [some (.ref a),some (.int at'),some (.int many),some (.int size),some (.int m),some (.ref N),some (.ref M),some (.ref u),y8,y9,RH] L:=by
   intro am y8 y9 RH r g L h0 hz hr hg t;refine YD t ⟨l++[(am,r,g)],y8,y9,RH,rfl,by rw [QM];rfl,rfl,by rw [QB,hlen];rfl,λc C=>?_⟩
   rcases QY.mp C with z|z
   ·exact hok c z
   ·rw [Qv.mp z];exact ⟨⟨h0,hr,hg⟩,hz⟩
  have q:(l.map zG).length<=1000:=by rw [Qa];omega
  obtain ⟨r,Ra,PZ⟩:=CC m (mixV c 1);obtain ⟨g,Z,Ri⟩:=CC (m / 5) (mixV c 2);have sz0:size≠0:=⋯
  have f0:(c / 9).fmod size=c / 9 % size:=Tw _ ⋯;have m1:=jaF (c / 9) sz0;have m2:=jao (c / 9) (show 0<size by omega);left;refine Yy (λc1=>?_) (λc1=>?_)
  ·left;refine Yy (λc2=>absurd c2 ⋯) (λ_=>?_);left;refine Yt (xs:=(lM m).map PyData.int) s .mm PZ ?_;left;refine Yt (xs:=(lM (m / 5)).map PyData.int) s .mm Ri ?_;left;rename_i q5 L e5 t;refine yU (y:=zG (c / 9 % 5,r,g)) t .mm q λI D=>?_;left;exact fin (c / 9 % 5) _ _ _ r g I ⋯ ⋯ Ra Z (D.dat ‹()›)
  ·have q0:0<=(c / 9).fmod size:=by rw [f0];exact m1
   have qz:(c / 9).fmod size<size:=by rw [f0];exact m2
   left;refine Yy (λc2=>?_) (λ_=>?_)
   ·left;refine Yy (λc3=>?_) (λ_=>?_)
    ·have i0:0+(i:Int)≠0:=⋯
     have e1:=Tw (c / 9) (show 0<=0+(i:Int) by omega);have n1:=jaF (c / 9) i0;have n2:=jao (c / 9) (show 0<0+(i:Int) by omega);rw [<-e1] at n1 n2;left;have hj:((c / 9).fmod (0+(i:Int))).toNat<l.length:=⋯
     have LK:=Qb hj
     have Rr:atI (l.map zG) ((c / 9).fmod (0+(i:Int)))=some (zG (l[((c / 9).fmod (0+(i:Int))).toNat])):=by
      have:=yl (xs:=l.map zG) (j:=((c / 9).fmod (0+(i:Int))).toNat) (v:=zG (l[((c / 9).fmod (0+(i:Int))).toNat])) (by rw [Qh,LK];rfl);rwa [Int.toNat_of_nonneg n1] at this
     have U:=hok _ (Tf hj);generalize l[((c / 9).fmod (0+(i:Int))).toNat]=X at*;refine YM (x:=zG X) s (by right) Rr λw7 S7=>?_;left;refine Yt (xs:=(lM m).map PyData.int) S7 .mm PZ ?_;left;refine Yt (xs:=(lM (m / 5)).map PyData.int) S7 .mm Ri ?_;left;rename_i q5 L e5 t;refine yU (y:=zG (X.1,r,g)) t .mm q λI D=>?_;left;exact fin (X.1) _ _ _ r g I U.1.1 U.2 Ra Z (D.dat ‹()›)
    ·skip
     left;refine Yt (xs:=(lM m).map PyData.int) s .mm PZ ?_;left;refine Yt (xs:=(lM (m / 5)).map PyData.int) s .mm Ri ?_;left;rename_i q5 L e5 t;refine yU (y:=zG ((c / 9).fmod size,r,g)) t .mm q λI D=>?_;left;exact fin ((c / 9).fmod size) _ _ _ r g I q0 qz Ra Z (D.dat ‹()›)
   ·skip
    left;refine Yt (xs:=(lM m).map PyData.int) s .mm PZ ?_;left;refine Yt (xs:=(lM (m / 5)).map PyData.int) s .mm Ri ?_;left;rename_i q5 L e5 t;refine yU (y:=zG ((c / 9).fmod size,r,g)) t .mm q λI D=>?_;left;exact fin ((c / 9).fmod size) _ _ _ r g I q0 qz Ra Z (D.dat ‹()›)
 ·rintro σ H4 cs ds ⟨l,T,O,Y,rfl,rfl,rfl,hlen,hok⟩ s
  left;rw [yR] at hlen;obtain ⟨G',a',b',X,d',e',f',g'⟩:=s;obtain ⟨z1,z2,us,z3,z4⟩:=e' _ (Qe ..);exact k l u H4 G' us hlen ⟨⋯,⋯,λc C=>(hok c C).1,λc C=>(hok c C).2⟩ ⟨X,a',b',d'⟩ z1 z2 z3 z4
end
section
variable {A:RAd}
abbrev aK:Stmt:=top 79
def qq:FnScope ["_law_amounts","_law_parts","_law_level","_law_amount","_law_part"] paH (zk aK):=xu
def Jj (B:Bl mg) (F:Fun K "_law_even" "_law_even" aK f fd):FnOk P w K mg base CX0 1 f fd paH AH:=by
 walk_at "+qq";obtain ⟨⟨am,tk⟩,G,⟨D,ok⟩,k⟩:=h;obtain ⟨v0,v1,rfl,al⟩:=xB G;have S:Sta H H H [] [(xk am,v0),(xk tk,v1)]:=Sta.enter (zS.refl _) al;dsimp only at D ok;have lt:=ok.1;walk_at "=ek2δεbABbdca1ceF/ba0ba1cIyD3yD4JfmKMWa4djMVa4a3j3KYWa4a3j0oQla4a2jfiGpfiG";left;rename_i Z H1 e1 r;obtain ⟨a1,rfl⟩:=r.refL (xs:=tk.map PyData.int) (v:=v1) .mm;refine ZG r (r.vwC (by right)) (r.vwL .mm) (by rw [Qa];show 1+_<=1000;omega) λY N e2 t=>?_;left;refine IJ (ns:=0::tk) t (by right) (Nat.zero_lt_succ _) λm hm top=>?_;have y:Sta H H N [] [(xk am,v0),(xk tk, .ref a1)]:=t.weak (by walk_at "sub") ‹()›;clear t r;left;refine Vl (xs:=am.map PyData.int) (ys:=tk.map PyData.int) y .mm .mm λJ C=>?_;refine Zp C (λi σ cs ds=>(∃q g,σ=[some v0,some (.ref a1),some (.int m),q,g])/\cs=[]/\ds=[(xk am,v0),(xk tk, .ref a1)]) y ⟨⟨none,none,rfl⟩,rfl,rfl⟩ (λi σ cs ds h=>?_) ?_ ?_
 ·obtain ⟨_,rfl,rfl⟩:=h;exact ⟨.mem (by right),λ_ _ h=>h.tail, .mem (by right)⟩
 ·rintro i x u σ H4 cs ds hx ⟨⟨q,g,rfl⟩,rfl,rfl⟩ S4
  obtain ⟨T,O,L,I,rfl⟩:=Zt hx;obtain ⟨a,ha,rfl⟩:=zL L;obtain ⟨p,hp,rfl⟩:=zL I;obtain ⟨b1,b2,M⟩:=ok.2 i a p ha hp;refine xG (xF S4 .mm λX U s=>?_);cases s.int1;cases s.drop1.int1;left;refine Yy (λc=>absurd c ⋯) (λ_=>?_);left;refine Yy (λc=>absurd c ⋯) (λ_=>?_);left;have fin:∀σ',(∃q g,σ'=[some v0,some (.ref a1),some (.int m),q,g])->AtP H H (λσ cs ds=>(∃q g,σ=[some v0,some (.ref a1),some (.int m),q,g])/\cs=[]/\ds=[(xk am,v0),(xk tk, .ref a1)]) σ' H4:=λσ' h=>YD (s.dat ‹()›) ⟨h,rfl,rfl⟩;refine Yy (λc=>?_) (λc=>?_)
  ·have e:p=m:=by
    have t1:=top p (Qf _ (Qc hp))
    rcases Qn.mp hm with z|z
    ·omega
    ·have:=M c m z;omega
   left;refine qV e ?_;left;exact fin _ ⟨_,_,rfl⟩
  ·left;exact fin _ ⟨_,_,rfl⟩
 ·rintro σ H4 cs ds ⟨⟨q,g,rfl⟩,rfl,rfl⟩ S4
  left;exact k _ S4.base
end
abbrev aJ:Stmt:=top 80
def VS:FnScope ["_law_shape_here","_law_claims_here","_law_parts","_law_amounts","_law_whole_here","_law_purse_here","_law_amount","_law_part"] paa (zk aJ):=xu
abbrev ZO:Stmt:=top 81
def eH:FnScope ["_law_shape_here","_law_claims_here","_law_parts","_law_top","_law_bottom","_law_many","_law_here","_law_there"] paa (zk ZO):=xu
def ok_upA {n:Nat} (B:Bl mg) (ZN:Cal P w K mg base CX0 (2*n+2) "_law_fits" paa (VP n)) (F:Fun K "_law_upto_fit" "_law_upto_fit" ZO f fd):FnOk P w K mg base CX0 (2*n+3) f fd paa (Il (n+1)):=by
 walk_at "+eH";obtain ⟨⟨⟨t,b⟩,⟨x,y⟩,l,tk⟩,hA,ok,k⟩:=h;obtain ⟨v0,v1,v2,rfl,al⟩:=ZZ hA;dsimp only at ok al;have S:Sta H H H [] [((Rl.upto t b x y).shape,v0),(zo l,v1),(xk tk,v2)]:=Sta.enter (zS.refl _) al;have few:=ok.few;have inb:=ok.fit.inB;have l8:(amV l).length<=8:=by rw [yi];exact few
 have step:=ok.upto;obtain ⟨it,ia⟩:=inb.inS l8 ok.sz;have po:=ok.pok.1.1;have lt:=ok.fit.len;have M:∀{i:Nat} {c:Cl},l[i]? =some c->c.1∈amV l:=λm=>Qj.mpr ⟨_,Qc m,rfl⟩;walk_at "=e{g0IyD3yD4JeN5_law_part,_law_bottom;14;ua2n0tva1a0eN6_law_claim,_law_top;13;ua1n0tsbva1g0bg0bg0cemφSTba5cSTbx_law_claim;1;ua6n0tg0cjfihbg0ba6ba5cpeN7_law_claim,_law_top,_law_bottom;134;ua1n0tsbvUa2a1g0bg0bg0cfihbg0ba7bx_law_part,_law_claim;2;/ba5ba6cIyn0yn1JtUa0g1c";simp only [Rl.shape] at S;left;rename_i Z S1;refine xG (xF S1 .mm λX w3 u=>?_);cases u.int1;cases u.drop1.int1;left;refine zM (xs:=tk.map PyData.int) u .mm λJ q=>?_;refine yG q (λj=> .int (b*tk.getD j 0)) (ys:=(yT b tk).map PyData.int) (by unfold yT;rw [Qa,Qm];exact zm (λx:Int=>PyData.int (b*x)) 0 tk) u (λ_ _=> .mem (by right)) (by rw [Qa,inb.1];omega) (λj x v L I D A g t1 S hd C ex s0 G=>?_) λD3 H3 e3 S3=>?_
 ·obtain ⟨y,N,rfl⟩:=zL g;cases S.int1;have o:IntMulOk b y:=po.2.mulOk (it.2 y (Qc N)).2 ⋯;refine zH ⟨rfl,?_⟩;left;refine hd S ?_;rw [zF N];exact Has.int
 have T:=S3.freeze;left;refine zM (xs:=l.map zG) T .mm λJ q=>?_
 refine yG q (λj=>zG ((λc:Cl=>((t*c.1,c.2):Cl)) (l.getD j (0,0,0)))) (ys:=(yd t l).map zG) (by
  unfold yd;rw [Qm,Qa];exact zm (λc:Cl=>zG ((t*c.1,c.2):Cl)) (0,0,0) l) T (λ_ _=> .mem (by right)) (by rw [Qa];omega) (λj x v L I D A g t1 S hd C ex s0 G=>?_) λD5 H5 e5 S5=>?_
 ·obtain ⟨c,m,rfl⟩:=zL g;have o:IntMulOk t c.1:=po.1.mulOk (ok.sz _ (M m)) ⋯;refine zH ⟨rfl,?_⟩;left;refine hd (by assumption) ?_;rw [zF m];exact .mem (by right)
 have O:=S5.freeze;have tl:=Zg t l;left;refine zM (xs:=(yd t l).map zG) O .mm λJ q=>?_;refine ye q (λj=> .int ((yd t l).getD j (0,0,0)).1) (ys:=(amV (yd t l)).map PyData.int) (by unfold amV;rw [Qa,Qm];exact zm (λc:Cl=>PyData.int c.1) (0,0,0) (yd t l)) O (λj x v=>λg t1 S hd=>?_) λD7 H7 e7 S7=>?_
 ·obtain ⟨c,m,rfl⟩:=zL g;refine zH ⟨rfl,?_⟩;left;refine hd (by assumption) ?_;rw [zF m];exact Has.int
 left;refine Yy (λc=>?_) (λc=>?_)
 ·rw [QH c] at step;left;rename_i w8 s;refine YN (r:=x) (l:=yd t l) (tk:=yT b tk) s .mm .mm .mm step λH9 e9 z=>?_;exact k _ z.base
 ·rw [QP c] at step;have s:=S7.freeze;have zs:Sz 211 (b - t):=po.2.sub po.1;left;refine zM (xs:=l.map zG) s .mm λJ q=>?_
  refine yG q (λj=>zG ((λc:Cl=>(((b - t)*c.1,c.2):Cl)) (l.getD j (0,0,0)))) (ys:=(yd (b - t) l).map zG) (by
   unfold yd;rw [Qm,Qa];exact zm (λc:Cl=>zG (((b - t)*c.1,c.2):Cl)) (0,0,0) l) s (λ_ _=> .mem (by right)) (by rw [Qa];omega) (λj x v L I D A g t1 S hd C ex s0 G=>?_) λD9 H9 e9 z=>?_
  ·obtain ⟨c,m,rfl⟩:=zL g;have o:IntMulOk (b - t) c.1:=zs.mulOk (ok.sz _ (M m)) ⋯;refine zH ⟨rfl,?_⟩;left;refine hd (by assumption) ?_;rw [zF m];exact .mem (by right)
  have LX:=z.freeze;left;rename_i Y U;have ld:(yT b tk).length=(amV (yd t l)).length:=by rw [Xo,yi,Zg];exact lt
  have ll:(xZ (yT b tk) (amV (yd t l))).length=(amV (yd t l)).length:=by rw [WO ld.symm,ld]
  have l9:(amV (yd t l)).length<=8:=by rw [yi,Zg];exact few
  refine Vl (xs:=(yT b tk).map PyData.int) (ys:=(yd t l).map zG) U .mm .mm λJ3 MR=>?_;refine yG MR (λj=> .int ((xZ (yT b tk) (amV (yd t l))).getD j 0)) (ys:=(xZ (yT b tk) (amV (yd t l))).map PyData.int) ?_ U (λ_ _=>⟨.mem (by right),λ_ _ h=>h.tail, .mem (by right)⟩) ?_ (λj x v L I D A g t1 S hd C ex s0 G=>?_) λON NR PH Me=>?_
  ·rw [yL,Qa,Qa,ld,yi,TM,<-yi,<-ll];exact zm (λx=>PyData.int x) 0 _
  ·rw [yL,Qa,Qa];omega
  ·obtain ⟨x1,x2,h1,h2,rfl⟩:=Zt g;obtain ⟨n1,ME,rfl⟩:=zL h1;obtain ⟨c2,OJ,rfl⟩:=zL h2;refine xG (xF S .mm λZ X S=>?_);cases S.int1;refine yN (zH (yN (zH (Wc ⟨rfl,?_⟩))));left;refine hd (by assumption) ?_;rw [zF (show (xZ (yT b tk) (amV (yd t l)))[j]? =some (n1 - c2.1) by unfold xZ amV;rw [Qt,ME,Qh,OJ];rfl)];exact Has.int
  left;refine YN (r:=y) (l:=yd (b - t) l) (tk:=xZ (yT b tk) (amV (yd t l))) Me.freeze .mm .mm .mm step λRG RD Mo=>?_;exact k _ Mo.base
abbrev Zj:Stmt:=top 82
def cF:FnScope ["_law_shape_here","_law_claims_here","_law_parts","_law_full","_law_rank","_law_places","_law_some"] paa (zk Zj):=xu
def ok_rkF {n:Nat} (B:Bl mg) (B2:Bl3 mg) (ZN:Cal P w K mg base CX0 (2*n+2) "_law_fits" paa (VP n)) (F:Fun K "_law_ranks_fit" "_law_ranks_fit" Zj f fd):FnOk P w K mg base CX0 (2*n+3) f fd paa (Io (n+1)):=by
 walk_at "+cF";obtain ⟨⟨r,l,tk⟩,hA,ok,k⟩:=h;obtain ⟨v0,v1,v2,rfl,al⟩:=ZZ hA;dsimp only at ok al;have S:Sta H H H [] [(r.shape,v0),(zo l,v1),(xk tk,v2)]:=Sta.enter (zS.refl _) al;have few:=ok.few;have tl:=ok.fit.len;walk_at "=ek3GeFu?x_law_claim;1;ua1n0tg0D4eN5_law_k,_law_claims_here,_law_rank;114;>bzba1ccn09orlqqa1a0da2ja0eN6_law_k,_law_parts;12;ua5n0tqa1a0emKYPHa30Vδεba6cdjfiGpemPHhba0bx_law_k,_law_claims_here;11;ua5n0tqa1a0ba6cfiGpfk3@a3#$rla6x_law_k,_law_claims_here;11;ua5n0tqqa1a0djfiG";left;refine zM (xs:=l.map zG) S .mm λJ wk=>?_;refine ye wk (λj=> .int (l.getD j (0,0,0)).2.1) (ys:=(l.map (·.2.1)).map PyData.int) (by rw [Qa,Qm];exact zm (λc:Cl=>PyData.int c.2.1) (0,0,0) l) S (λj x v=>λt t1 S hd=>?_) λD2 H2 e2 I=>?_
 ·obtain ⟨c,D,rfl⟩:=zL t;refine zH ⟨rfl,?_⟩;left;refine hd (by assumption) ?_;rw [zF D];exact Has.int
 refine WG I (by right) (by rw [Qa];omega) λos X H3 h1 h2 e3 S3=>?_;have eo:os=zQ l:=Zi h1 (yD l).1 λz=>by rw [h2,(yD l).2]
 subst eo;have S4:Sta H H H3 [] [(.list ((zQ l).map PyData.int), .ref X),(r.shape,v0),(zo l,v1),(xk tk,v2)]:=S3.freeze.weak (by walk_at "sub") ‹()›;clear I S3;left;refine zM (xs:=(zQ l).map PyData.int) S4 .mm λJ wk=>?_;refine Zp wk (λi σ cs ds=>∃(N:Bool) (x4 x5 x6:Option V),σ=[some v0,some v1,some v2,some (.bl N),x4,x5,x6]/\cs=[]/\ds=[(.list ((zQ l).map PyData.int), .ref X),(r.shape,v0),(zo l,v1),(xk tk,v2)]/\(N=false->∃(j:Nat) (c:Cl) (p:Int),l[j]? =some c/\tk[j]? =some p/\p≠c.1/\∀z∈(zQ l).drop i,c.2.1<z)) S4 ⟨true,none,none,none,rfl,rfl,rfl,λz=>Bool.noConfusion z⟩ (λi σ cs ds h=>?_) ?_ ?_
 ·obtain ⟨_,_,_,_,_,_,rfl,_⟩:=h;exact .mem (by right)
 ·rintro i x u σ H5 cs ds t ⟨N,x4,x5,x6,rfl,rfl,rfl,inv⟩ S5
  obtain ⟨g,Y,rfl⟩:=zL t;cases S5.int1;have M:=YO (zK g) l;have lk:=Zl (zK g) l;have fk:=QW (jag (zK g) l) few;have pos:=fh (Qc Y);have step:=ok.ranks g;left;refine nV H H (by rw [Qa];omega) (by rw [Qa];omega) λJ6 RK=>?_;refine WX RK (λj=>if zK g (l.getD j (0,0,0)) then some (.int (0+(j:Int))) else none) S5 (λ_ _=>trivial) (by rw [yR,Tj,Qa];omega) (λj x v B' G' Kd Kn t t1 S hd hn C ex s0 H0=>?_) λD6 H6 e6 S6=>?_
  ·obtain ⟨Z,rfl⟩:=Xu t;rw [Tj,Qa] at Z;cases S.int1;have D:=Qb Z;rw [zF D] at hd hn;refine zH ⟨rfl,?_⟩;left;refine xc (xs:=l.map zG) (x:=zG l[j]) S .mm (by rw [Int.zero_add];exact yl (by rw [Qh,D];rfl)) λw2 I=>?_;left;refine Yy (λz=>?_) (λz=>?_)
   ·left;exact hd (QH (QZ z)) I Has.int
   ·exact hn (QP λy=>z (Qz y)) I
  rw [yR,Tj,Qa,ji] at S6;have S7:Sta H H H6 [] [(plD (zO (zK g) l), .ref D6),(.list ((zQ l).map PyData.int), .ref X),(r.shape,v0),(zo l,v1),(xk tk,v2)]:=S6.freeze.weak (by walk_at "sub") ‹()›;clear S6;left;refine zM (xs:=(zO (zK g) l).map λ(i:Nat)=>PyData.int (i:Int)) S7 .mm λJ8 Ow=>?_;refine ye Ow (λj=> .int (tk.getD ((zO (zK g) l).getD j 0) 0)) (ys:=(zP 0 (zO (zK g) l) tk).map PyData.int) (by unfold zP;rw [Qa,Qm];exact zm (λi:Nat=>PyData.int (tk.getD i 0)) 0 (zO (zK g) l)) S7 (λj x v=>λt t1 S hd=>?_) λD8 H8 e8 S8=>?_
  ·obtain ⟨s,A,rfl⟩:=zL t;cases S.int1;have G:=M.lt s (Qc A);have D:=Qb (l:=tk) (i:=s) ⋯;refine zH ⟨rfl,?_⟩;left;refine Yt (xs:=tk.map PyData.int) S .mm (yl (by rw [Qh,D];rfl)) ?_;refine hd S ?_;rw [zF A,zF D];exact Has.int
  have S9:Sta H H H8 [] [(xk (zP 0 (zO (zK g) l) tk), .ref D8),(plD (zO (zK g) l), .ref D6),(.list ((zQ l).map PyData.int), .ref X),(r.shape,v0),(zo l,v1),(xk tk,v2)]:=S8.freeze.weak (by walk_at "sub") ‹()›;clear S8;have plen:(zP 0 (zO (zK g) l) tk).length=(zO (zK g) l).length:=yV ..;left;refine EY (q:=(zP 0 (zO (zK g) l) tk).any λx=>decide (0<x)) (λhh=>?_) (λc=>?_) (λc=>?_)
  ·left;refine II (ns:=zP 0 (zO (zK g) l) tk) S9 .mm (by rw [plen];omega) λm hm top=>?_;left
   have em:decide (0<m)=(zP 0 (zO (zK g) l) tk).any λx=>decide (0<x):=jbS.mpr ⟨λh=>List.any_eq_true.mpr ⟨m,hm,h⟩,λh=>by
    obtain ⟨x,t,MU⟩:=List.any_eq_true.mp h;have:=top x t;have:=Qz MU
    exact QZ ⋯⟩
   rw [em];exact hh
  ·obtain ⟨c1,c2⟩:=Bool.and_eq_true_iff.mp c;obtain ⟨j,c0,p,L,hp,ne,later⟩:=inv (by cases N<;>simp_all);obtain ⟨x,t,MU⟩:=List.any_eq_true.mp c2;obtain ⟨s,A,rfl⟩:=Qj.mp t;have G:=M.lt s A;have O:=Qb G;have rk:l[s].2.1=g:=Qz ((Yu O).mp A);have ht:=Qb (l:=tk) (i:=s) ⋯;rw [zF ht] at MU;have lt:=later g (Qc (i:=0) (by rw [jay,Nat.add_zero];exact Y));exact absurd (ok.fit.order L hp O ht (by rw [rk];exact lt) (Qz MU)) ne
  ·left;refine zM (xs:=(zO (zK g) l).map λ(i:Nat)=>PyData.int (i:Int)) S9 .mm λJ10 U=>?_;refine ye U (λj=>zG (l.getD ((zO (zK g) l).getD j 0) (0,0,0))) (ys:=(l.filter (zK g)).map zG) (by rw [ZR];unfold zP;rw [Qa,Qm];exact zm (λi:Nat=>zG (l.getD i (0,0,0))) 0 (zO (zK g) l)) S9 (λj x v=>λt t1 S hd=>?_) λD10 Nh PL LX=>?_
   ·obtain ⟨s,A,rfl⟩:=zL t;cases S.int1;have G:=M.lt s (Qc A);have D:=Qb G;refine zH ⟨rfl,?_⟩;left;refine xc (xs:=l.map zG) (x:=zG l[s]) S .mm (yl (by rw [Qh,D];rfl)) λw2 I=>?_;refine hd I ?_;rw [zF A,zF D];exact .mem (by right)
   left;refine YN (r:=r) (l:=l.filter (zK g)) (tk:=zP 0 (zO (zK g) l) tk) LX.freeze .mm .mm .mm step λOv NM LW=>?_;left;have Me:Sta H H Ov [] [(xk (zP 0 (zO (zK g) l) tk), .ref D8),(plD (zO (zK g) l), .ref D6),(.list ((zQ l).map PyData.int), .ref X),(r.shape,v0),(zo l,v1),(xk tk,v2)]:=LW.dat ‹()›
   cases N with
   |false=>
    rw [QP QA];left;refine YD (Me.dat ‹()›) ⟨false,_,_,_,rfl,rfl,rfl,λ_=>?_⟩;obtain ⟨j,c0,p,L,hp,ne,later⟩:=inv rfl;exact ⟨j,c0,p,L,hp,ne,λz hz=>later z (by rw [jbI (Qd.mp Y).1];exact Qf _ hz)⟩
   |true=>
    rw [QH rfl];left;refine zM (xs:=(zO (zK g) l).map λ(i:Nat)=>PyData.int (i:Int)) Me .mm λJ13 T=>?_
    refine yG T (λj=> .int (l.getD ((zO (zK g) l).getD j 0) (0,0,0)).1) (ys:=(zP 0 (zO (zK g) l) (amV l)).map PyData.int) (by
     unfold zP;rw [Qa,Qm];refine (zm (λi:Nat=>PyData.int (l.getD i (0,0,0)).1) 0 (zO (zK g) l)).trans (QG λi hi=>?_);show PyData.int _=PyData.int _
     rw [DI (M.lt i hi)]) Me (λ_ _=> .mem (by right)) (by rw [Qa];omega) (λj x v B' G' Kd Kn t t1 S hd C ex s0 H0=>?_) λD13 RG RD Mo=>?_
    ·obtain ⟨s,A,rfl⟩:=zL t;cases S.int1;have G:=M.lt s (Qc A);have D:=Qb G;refine zH ⟨rfl,?_⟩;left;refine xc (xs:=l.map zG) (x:=zG l[s]) S .mm (yl (by rw [Qh,D];rfl)) λw2 I=>?_;left;refine hd (by assumption) ?_;rw [zF A,zF D];exact Has.int
    refine Bu (x:=xk (zP 0 (zO (zK g) l) tk)) (y:=xk (zP 0 (zO (zK g) l) (amV l))) (Mo.hp .mm) (Mo.hpC (by right)) (Vh _) (Vh _) ?_;rw [Dh];left;refine YD (Mo.dropC.dat ‹()›) ⟨_,_,_,_,rfl,rfl,rfl,λz=>?_⟩;have ne:=of_decide_eq_false z
    obtain ⟨s,A,ne'⟩:∃s∈zO (zK g) l,tk.getD s 0≠(amV l).getD s 0:=by
     refine Classical.byContradiction λno=>ne (QG λi hi=>Classical.byContradiction λh=>no ⟨i,hi,h⟩)
    have G:=M.lt s A;have O:=Qb G;have rk:l[s].2.1=g:=Qz ((Yu O).mp A);have ht:=Qb (l:=tk) (i:=s) ⋯;rw [zF ht,<-DI G,zF O] at ne';refine ⟨s,l[s],tk[s],O,ht,ne',λz hz=>?_⟩;rw [rk];have pw:=(yD l).1;obtain ⟨kl,ek⟩:=Qd.mp Y;obtain ⟨j,Z,rfl⟩:=QS hz;rw [List.getElem_drop,<-ek];exact QO.mp pw i (i+1+j) kl (by rw [Tz] at Z;omega) ⋯
 ·rintro σ H5 cs ds ⟨N,x4,x5,x6,rfl,rfl,rfl,inv⟩ S5
  left;exact k _ S5.base
abbrev xW:Stmt:=top 83
def aE:FnScope ["_law_shape_here","_law_claims_here","_law_parts","_law_sums","_law_told","_law_group","_law_places","_law_some"] paa (zk xW):=xu
def ok_grF {n:Nat} (B:Bl mg) (B2:Bl3 mg) (ZN:Cal P w K mg base CX0 (2*n+2) "_law_fits" paa (VP n)) (F:Fun K "_law_groups_fit" "_law_groups_fit" xW f fd):FnOk P w K mg base CX0 (2*n+3) f fd paa (Ir (n+1)):=by
 walk_at "+aE";obtain ⟨⟨⟨a,b⟩,l,tk⟩,hA,ok,k⟩:=h;obtain ⟨v0,v1,v2,rfl,al⟩:=ZZ hA;dsimp only at ok al;have S:Sta H H H [] [((Rl.groups a b).shape,v0),(zo l,v1),(xk tk,v2)]:=Sta.enter (zS.refl _) al;have few:=ok.few;have tl:=ok.fit.len;have gfew:=Ym l;simp only [Rl.shape] at S;walk_at "=ek3Bcek4BceFu?x_law_claim;1;ua1n0tg0D5eN6_law_k,_law_claims_here,_law_group;115;>bzba1ccn09orlqqa1a0da2ja0eN7_law_k,_law_claims_here;11;ua6n0tqa1a0eEZa3bsbSTbx_law_claim;1;ua7n0tg0cb:]bx_law_claim;1;ua7n0tg0cba5cceEZa4bSTbx_law_k,_law_parts;12;ua6n0tqa1a0ccfmPHhbg0ba7bx_law_k,_law_parts;12;ua6n0tqa1a0cfiGpfihbg0ba3ba4c";left;rename_i U H1 e1 S1 T H2 e2 D;refine zM (xs:=l.map zG) D .mm λJ wk=>?_;refine ye wk (λj=> .int (l.getD j (0,0,0)).2.2) (ys:=(l.map (·.2.2)).map PyData.int) (by rw [Qa,Qm];exact zm (λc:Cl=>PyData.int c.2.2) (0,0,0) l) D (λj x v=>λs t1 S hd=>?_) λD3 H3 e3 S3=>?_
 ·obtain ⟨c,q,rfl⟩:=zL s;refine zH ⟨rfl,?_⟩;left;refine hd (by assumption) ?_;rw [zF q];exact Has.int
 refine WG S3 (by right) (by rw [Qa];omega) λos X H4 h1 h2 e4 S4=>?_;have eo:os=zB l:=Zi h1 (zY l).1 λz=>by rw [h2,(zY l).2]
 subst eo;have S5:Sta H H H4 [(T,(ai ((zB l).take 0) l tk).map PyData.int),(U,((zI l).take 0).map zG)] [(.list ((zB l).map PyData.int), .ref X),(.tuple [.str "groups",a.shape,b.shape],v0),(zo l,v1),(xk tk,v2)]:=S4.freeze.weak (by walk_at "sub") ‹()›;clear S1 D S3 S4;left;refine zM (xs:=(zB l).map PyData.int) S5 .mm λJ wk=>?_;refine Zp wk (λi σ cs ds=>∃(x5 x6 x7:Option V),σ=[some v0,some v1,some v2,some (.ref U),some (.ref T),x5,x6,x7]/\cs=[(T,(ai ((zB l).take i) l tk).map PyData.int),(U,((zI l).take i).map zG)]/\ds=[(.list ((zB l).map PyData.int), .ref X),(.tuple [.str "groups",a.shape,b.shape],v0),(zo l,v1),(xk tk,v2)]) S5 ⟨none,none,none,rfl,rfl,rfl⟩ (λi σ cs ds h=>?_) ?_ ?_
 ·obtain ⟨_,_,_,_,_,rfl⟩:=h;exact .mem (by right)
 ·rintro i x u σ H6 cs ds s ⟨x5,x6,x7,rfl,rfl,rfl⟩ S6
  obtain ⟨g,Y,rfl⟩:=zL s;cases S6.int1;have gl:=(Qd.mp Y).1;have pk:=YO (zu g) l;have lk:=Zl (zu g) l;have fk:=QW (jag (zu g) l) few;have pos:=Xy (Qc Y);have step:=ok.group g
  have t1:(zI l).take (i+1)=(zI l).take i++[Aa g (l.filter (zu g))]:=by
   rw [Tr];unfold zI;rw [Qh,Y];rfl
  have t2:ai ((zB l).take (i+1)) l tk=ai ((zB l).take i) l tk++[(zP 0 (zO (zu g) l) tk).sum]:=by
   rw [Tr,Y];unfold ai;rw [QM];rfl
  left;refine nV H H (by rw [Qa];omega) (by rw [Qa];omega) λJ7 wk7=>?_;refine WX wk7 (λj=>if zu g (l.getD j (0,0,0)) then some (.int (0+(j:Int))) else none) S6 (λ_ _=>trivial) (by rw [yR,Tj,Qa];omega) (λj x v B' G' Kd Kn s t1 S hd hn C ex s0 H0=>?_) λD7 H7 e7 S7=>?_
  ·obtain ⟨hj,rfl⟩:=Xu s;rw [Tj,Qa] at hj;cases S.int1;have q:=Qb hj;rw [zF q] at hd hn;refine zH ⟨rfl,?_⟩;left;refine xc (xs:=l.map zG) (x:=zG l[j]) S .mm (by rw [Int.zero_add];exact yl (by rw [Qh,q];rfl)) λw2 D=>?_;left;refine Yy (λz=>?_) (λz=>?_)
   ·left;exact hd (QH (QZ z)) D Has.int
   ·exact hn (QP λy=>z (Qz y)) D
  rw [yR,Tj,Qa,ji] at S7;have O:=S7.freeze;clear S7;left;refine zM (xs:=(zO (zu g) l).map λ(i:Nat)=>PyData.int (i:Int)) O .mm λJ9 wk9=>?_;refine ye wk9 (λj=>zG (l.getD ((zO (zu g) l).getD j 0) (0,0,0))) (ys:=(l.filter (zu g)).map zG) (by rw [ZR];unfold zP;rw [Qa,Qm];exact zm (λi:Nat=>zG (l.getD i (0,0,0))) 0 (zO (zu g) l)) O (λj x v=>λs t1 S hd=>?_) λD9 H9 e9 Z=>?_
  ·obtain ⟨A,G,rfl⟩:=zL s;cases S.int1;have il:=pk.lt A (Qc G);have q:=Qb il;refine zH ⟨rfl,?_⟩;left;refine xc (xs:=l.map zG) (x:=zG l[A]) S .mm (yl (by rw [Qh,q];rfl)) λw2 D=>?_;refine hd D ?_;rw [zF G,zF q];exact .mem (by right)
  have LX:=Z.freeze;clear Z;generalize hlg:l.filter (zu g)=t at*;left;refine zM (xs:=t.map zG) LX .mm λJ11 N=>?_;refine ye N (λj=> .int (t.getD j (0,0,0)).1) (ys:=(amV t).map PyData.int) (by unfold amV;rw [Qa,Qm];exact zm (λc:Cl=>PyData.int c.1) (0,0,0) t) LX (λj x v=>λs t1 S hd=>?_) λD11 Ov NM LW=>?_
  ·obtain ⟨c,q,rfl⟩:=zL s;refine zH ⟨rfl,?_⟩;left;refine hd (by assumption) ?_;rw [zF q];exact Has.int
  left;have Me:=LW.dropC;clear LW;refine zM (xs:=t.map zG) Me .mm λJ13 M=>?_;refine ye M (λj=> .int (t.getD j (0,0,0)).2.1) (ys:=(t.map (·.2.1)).map PyData.int) (by rw [Qa,Qm];exact zm (λc:Cl=>PyData.int c.2.1) (0,0,0) t) Me (λj x v=>λs t1 S hd=>?_) λD13 RG RD Mo=>?_
  ·obtain ⟨c,q,rfl⟩:=zL s;refine zH ⟨rfl,?_⟩;left;refine hd (by assumption) ?_;rw [zF q];exact Has.int
  left;refine Bo (ns:=t.map (·.2.1)) Mo (by right) (by rw [Qa];exact pos) λm hm low=>?_;have em:m=jo (t.map (·.2.1)):=Cn hm low;subst em;have Nm:=Mo.dropC;clear Mo;left;rename_i q15 RF e15 Nl;have NQ:Sta H H RF [(U,((zI l).take i).map zG),(T,(ai ((zB l).take i) l tk).map PyData.int)] [(zG (Aa g t), .ref q15),(zo t, .ref D9),(plD (zO (zu g) l), .ref D7),(.list ((zB l).map PyData.int), .ref X),(.tuple [.str "groups",a.shape,b.shape],v0),(zo l,v1),(xk tk,v2)]:=(Nl.dat ‹()›).swap;clear O LX Me Nm Nl;refine yU (y:=zG (Aa g t)) NQ .mm (by rw [Qa,TR];unfold zI;rw [Qa];omega) λH17 NP=>?_;have NO:=NP.swap;clear NQ NP;left;refine zM (xs:=(zO (zu g) l).map λ(i:Nat)=>PyData.int (i:Int)) NO .mm λJ19 L=>?_;refine ye L (λj=> .int (tk.getD ((zO (zu g) l).getD j 0) 0)) (ys:=(zP 0 (zO (zu g) l) tk).map PyData.int) (by unfold zP;rw [Qa,Qm];exact zm (λi:Nat=>PyData.int (tk.getD i 0)) 0 (zO (zu g) l)) NO (λj x v=>λs t1 S hd=>?_) λD19 H19 e19 Ou=>?_
  ·obtain ⟨A,G,rfl⟩:=zL s;cases S.int1;have il:=pk.lt A (Qc G);have q:=Qb (l:=tk) (i:=A) ⋯;refine zH ⟨rfl,?_⟩;left;refine Yt (xs:=tk.map PyData.int) S .mm (yl (by rw [Qh,q];rfl)) ?_;refine hd S ?_;rw [zF G,zF q];exact Has.int
  left;have OM:=Ou.dropC;clear NO Ou;refine yU (y:= .int (zP 0 (zO (zu g) l) tk).sum) OM Has.int (by rw [Qa];unfold ai;rw [Qa,TR];omega) λH21 NN=>?_;left;rename_i w22 Ot;refine zM (xs:=(zO (zu g) l).map λ(i:Nat)=>PyData.int (i:Int)) Ot .mm λJ23 I=>?_;refine ye I (λj=> .int (tk.getD ((zO (zu g) l).getD j 0) 0)) (ys:=(zP 0 (zO (zu g) l) tk).map PyData.int) (by unfold zP;rw [Qa,Qm];exact zm (λi:Nat=>PyData.int (tk.getD i 0)) 0 (zO (zu g) l)) Ot (λj x v=>λs t1 S hd=>?_) λD23 H23 e23 RE=>?_
  ·obtain ⟨A,G,rfl⟩:=zL s;cases S.int1;have il:=pk.lt A (Qc G);have q:=Qb (l:=tk) (i:=A) ⋯;refine zH ⟨rfl,?_⟩;left;refine Yt (xs:=tk.map PyData.int) S .mm (yl (by rw [Qh,q];rfl)) ?_;refine hd S ?_;rw [zF G,zF q];exact Has.int
  left;refine YN (r:=b) (l:=t) (tk:=zP 0 (zO (zu g) l) tk) RE.freeze .mm .mm .mm step λH24 e24 S24=>?_;left;refine YD (S24.dat (ds':=[(.list ((zB l).map PyData.int), .ref X),(.tuple [.str "groups",a.shape,b.shape],v0),(zo l,v1),(xk tk,v2)]) ‹()›) ⟨_,_,_,rfl,?_,rfl⟩;rw [t1,t2,QM,QM];rfl
 ·rintro σ H6 cs ds ⟨x5,x6,x7,rfl,rfl,rfl⟩ S6
  have e1:(zI l).take (zB l).length=zI l:=QQ (by rw [xP];exact Qu _);rw [Qa,e1,List.take_length] at S6;have S7:=S6.freeze.freeze;clear S6;left;rename_i w8 O;refine YN (r:=a) (l:=zI l) (tk:=ai (zB l) l tk) O .mm .mm .mm ok.outer λH9 e9 Z=>?_;exact k _ Z.base
def Fz (B:Bl mg) (B2:Bl3 mg) (Kq:Cal P w K mg base CX0 1 "_law_even" paH AH) {fu:Addr} {M:FuncData} (Fu:Fun K "_law_upto_fit" "_law_upto_fit" ZO fu M) (hmu:mg "_law_upto_fit"=some (.ref fu)) (bu:xi K M paa []) {fr fg:Addr} {N O:FuncData} (Fr:Fun K "_law_ranks_fit" "_law_ranks_fit" Zj fr N) (Su:mg "_law_ranks_fit"=some (.ref fr)) (br:xi K N paa []) (Fg:Fun K "_law_groups_fit" "_law_groups_fit" xW fg O) (Ml:mg "_law_groups_fit"=some (.ref fg)) (bg:xi K O paa []) (F:Fun K "_law_fits" "_law_fits" aJ f fd) (hm:mg "_law_fits"=some (.ref f)) (bf:xi K fd paa []):∀n:Nat,FnOk P w K mg base CX0 (2*n+2) f fd paa (VP n):=by
 intro n
 induction n with
 |zero=>
  refine F.ok VS (λvs H Q E h=>?_) (λLF A outer s H vs Q E hr h=>?_)
  ·obtain ⟨a,h,_⟩:=h;rw [<-h.len];rfl
  obtain ⟨⟨r,l,tk⟩,_,ok,_⟩:=h;dsimp only at ok;exact absurd ok.dep (by have:=Gx r;omega)
 |succ n ih=>
  have ZN:Cal P w K mg base CX0 (2*n+2) "_law_fits" paa (VP n):=US F ih hm bf;have El:Cal P w K mg base CX0 (2*n+3) "_law_upto_fit" paa (Il (n+1)):=US Fu (ok_upA B ZN Fu) hmu bu;have DT:Cal P w K mg base CX0 (2*n+3) "_law_ranks_fit" paa (Io (n+1)):=US Fr (ok_rkF B B2 ZN Fr) Su br;have Ad:Cal P w K mg base CX0 (2*n+3) "_law_groups_fit" paa (Ir (n+1)):=US Fg (ok_grF B B2 ZN Fg) Ml bg;refine F.ok VS (λvs H Q E h=>?_) (λLF A outer s H vs Q E hr h=>?_)
  ·obtain ⟨a,h,_⟩:=h;rw [<-h.len];rfl
  obtain ⟨⟨r,l,tk⟩,hA,ok,k⟩:=h;obtain ⟨v0,v1,v2,rfl,al⟩:=ZZ hA;dsimp only at ok al;have S:Sta H H H [] [(r.shape,v0),(zo l,v1),(xk tk,v2)]:=Sta.enter (zS.refl _) al;have few:=ok.few;have hn20:=ok.hn;have nd0:=VS.nd;walk_at "=eN3_law_claim;1;ua1n0tg0ek4STba3cek5STba2ceF/ba3ba2cIyD6yD7JfmKMWa7dj3Va7a6jfiGpemorlg0wjfi$rlx_law_part,_law_whole_here;14;ua2n0tva0a1x_law_amount,_law_purse_here;15;ua3n0tva0a1jpemorlg0wjfihba3ba2cpemorlg0wjfihba3bx_law_amount,_law_part;2;/ba3ba2cIyn0yn1JtUa0a1cpemorlg0wjfihbsbwbsbdbdcbsbwcbsbwccba1ba2cpemorlg0wjfihbg0ba1bx_law_amount,_law_part;2;/ba3ba2cIyn0yn1JtUa0a1cpemorlg0wjfihbg0ba1ba2cpemorlg0wjfihba0ba1ba2cpfihba0ba1ba2c";left;refine zM (xs:=l.map zG) S .mm λJ wk=>?_;refine ye wk (λj=> .int (l.getD j (0,0,0)).1) (ys:=(amV l).map PyData.int) (by unfold amV;rw [Qa,Qm];exact zm (λc:Cl=>PyData.int c.1) (0,0,0) l) S (λj x v=>λq t1 S hd=>?_) λD H1 e1 S1=>?_
  ·obtain ⟨c,hc,rfl⟩:=zL q;refine zH ⟨rfl,?_⟩;left;refine hd (by assumption) ?_;rw [zF hc];exact Has.int
  have S2:Sta H H H1 [] [(xk (amV l), .ref D),(r.shape,v0),(zo l,v1),(xk tk,v2)]:=S1.freeze;clear S1;have l8:(amV l).length<=8:=by rw [yi];exact few
  have hsz:=ok.sz;have inb:=ok.fit.inB;left;refine Vl (xs:=(amV l).map PyData.int) (ys:=tk.map PyData.int) S2 .mm .mm λJ2 Ni=>?_;refine Zp Ni (λi σ cs ds=>(∃x6 x7,σ=[some v0,some v1,some v2,some (.ref D),some (.int (amV l).sum),some (.int tk.sum),x6,x7])/\cs=[]/\ds=[(xk (amV l), .ref D),(r.shape,v0),(zo l,v1),(xk tk,v2)]) S2 ⟨⟨none,none,rfl⟩,rfl,rfl⟩ (λi σ cs ds h=>?_) ?_ ?_
  ·obtain ⟨_,rfl,rfl⟩:=h;exact ⟨.mem (by right),λ_ _ h=>h.tail, .mem (by right)⟩
  ·rintro i x u σ H2 cs ds q ⟨⟨x6,x7,rfl⟩,rfl,rfl⟩ m
   obtain ⟨xa,xb,L,I,rfl⟩:=Zt q;obtain ⟨a,ha,rfl⟩:=zL L;obtain ⟨p,hp,rfl⟩:=zL I;have b:=inb.2 i a p ha hp;refine xG (xF m .mm λw1 w2 g=>?_);cases g.int1;cases g.drop1.int1;left;refine Yy (λc=>absurd c ⋯) (λ_=>?_);left;refine Yy (λc=>absurd c ⋯) (λ_=>?_);left;exact YD (g.dat ‹()›) ⟨⟨_,_,rfl⟩,rfl,rfl⟩
  rintro σ H2 cs ds ⟨⟨x6,x7,rfl⟩,rfl,rfl⟩ m
  clear S2 wk Ni
  cases r with
  |shares=>
   simp only [Rl.shape] at m;obtain ⟨it,ia⟩:=inb.inS l8 hsz;have st:=it.sum.2;have sa:=ia.sum.2;left;refine zM (xs:=tk.map PyData.int) m .mm λJ3 U=>?_;refine yG U (λj=> .int (tk.getD j 0*(amV l).sum)) (ys:=(tk.map (·*(amV l).sum)).map PyData.int) (by rw [Qa,Qm];exact zm (λx:Int=>PyData.int (x*(amV l).sum)) 0 tk) m (λ_ _=> .mem (by right)) (by rw [Qa,inb.1];omega) (λj x v B' G' Kd Kn q t1 S hd C ex s0 H0=>?_) λD4 Z Y g=>?_
   ·obtain ⟨y,G,rfl⟩:=zL q;cases S.int1;have o:IntMulOk y (amV l).sum:=(it.2 y (Qc G)).2.mulOk sa ⋯;refine zH ⟨rfl,?_⟩;left;refine hd S ?_;rw [zF G];exact Has.int
   left;refine zM (xs:=(amV l).map PyData.int) g .mm λJ5 wk5=>?_;refine ye wk5 (λj=> .int ((amV l).getD j 0*tk.sum)) (ys:=((amV l).map (·*tk.sum)).map PyData.int) (by rw [Qa,Qm];exact zm (λx:Int=>PyData.int (x*tk.sum)) 0 (amV l)) g (λj x v=>λq t1 S hd=>?_) λD6 H6 e6 S6=>?_
   ·obtain ⟨y,G,rfl⟩:=zL q;cases S.int1;have o:IntMulOk y tk.sum:=(ia.2 y (Qc G)).2.mulOk st ⋯;refine zH ⟨rfl,?_⟩;left;refine hd S ?_;rw [zF G];exact Has.int
   refine Bu (x:=xk (tk.map (·*(amV l).sum))) (y:=xk ((amV l).map (·*tk.sum))) (S6.hpC (by right)) (S6.hpC (by right)) (Vh _) (Vh _) ?_;rw [Dh,QZ (show tk.map (·*(amV l).sum)=(amV l).map (·*tk.sum) from ok.fit.shares)];exact k _ S6.base
  |evenly=>
   simp only [Rl.shape] at m;left;refine Bt m .mm .mm l8 ok.fit.evenly λZ Y g=>?_;exact k _ g.base
  |losses=>
   simp only [Rl.shape] at m;left;refine Vl (xs:=(amV l).map PyData.int) (ys:=tk.map PyData.int) m .mm .mm λJ3 U=>?_;have ll:(xZ (amV l) tk).length=(amV l).length:=WO inb.1;refine yG U (λj=> .int ((xZ (amV l) tk).getD j 0)) (ys:=(xZ (amV l) tk).map PyData.int) ?_ m (λ_ _=>⟨.mem (by right),λ_ _ h=>h.tail, .mem (by right)⟩) ?_ (λj x v B' G' Kd Kn q t1 S hd C ex s0 H0=>?_) λD4 Z Y g=>?_
   ·rw [yL,Qa,Qa,inb.1,TM,<-ll];exact zm (λx=>PyData.int x) 0 _
   ·rw [yL,Qa,Qa];omega
   ·obtain ⟨x1,x2,L,I,rfl⟩:=Zt q;obtain ⟨n1,ME,rfl⟩:=zL L;obtain ⟨n2,Mw,rfl⟩:=zL I;refine xG (xF S .mm λw1 w2 S=>?_);cases S.int1;cases S.drop1.int1;refine yN (zH (yN (zH (Wc ⟨rfl,?_⟩))));left;refine hd S ?_;rw [zF (show (xZ (amV l) tk)[j]? =some (n1 - n2) by unfold xZ;rw [Qt,ME,Mw])];exact Has.int
   left;refine Bt (am:=amV l) (tk:=xZ (amV l) tk) g.freeze .mm .mm l8 ok.fit.losses λX T z=>?_;exact k _ z.base
  |halves=>
   simp only [Rl.shape] at m;left;rename_i p4 Z Y g;refine YN (r:= .upto 1 2 .evenly .losses) (l:=l) (tk:=tk) g .mm .mm .mm ok.halves λX T z=>?_;exact k _ z.base
  |other r=>
   simp only [Rl.shape] at m;left;rename_i w4 S4';have m:=S4';refine Vl (xs:=(amV l).map PyData.int) (ys:=tk.map PyData.int) m .mm .mm λJ3 U=>?_;have ll:(xZ (amV l) tk).length=(amV l).length:=WO inb.1;refine yG U (λj=> .int ((xZ (amV l) tk).getD j 0)) (ys:=(xZ (amV l) tk).map PyData.int) ?_ m (λ_ _=>⟨.mem (by right),λ_ _ h=>h.tail, .mem (by right)⟩) ?_ (λj x v B' G' Kd Kn q t1 S hd C ex s0 H0=>?_) λD4 Z Y g=>?_
   ·rw [yL,Qa,Qa,inb.1,TM,<-ll];exact zm (λx=>PyData.int x) 0 _
   ·rw [yL,Qa,Qa];omega
   ·obtain ⟨x1,x2,L,I,rfl⟩:=Zt q;obtain ⟨n1,ME,rfl⟩:=zL L;obtain ⟨n2,Mw,rfl⟩:=zL I;refine xG (xF S .mm λw1 w2 S=>?_);cases S.int1;cases S.drop1.int1;refine yN (zH (yN (zH (Wc ⟨rfl,?_⟩))));left;refine hd S ?_;rw [zF (show (xZ (amV l) tk)[j]? =some (n1 - n2) by unfold xZ;rw [Qt,ME,Mw])];exact Has.int
   left;refine YN (r:=r) (l:=l) (tk:=xZ (amV l) tk) g.freeze .mm .mm .mm ok.other λX T z=>?_;exact k _ z.base
  |upto t b x y=>
   have g:=m;simp only [Rl.shape] at m;left;refine rd_upA (t:=t) (b:=b) (x:=x) (y:=y) (l:=l) (tk:=tk) g .mm .mm .mm ok λX T z=>?_;exact k _ z.base
  |ranks r=>
   simp only [Rl.shape] at m;left;rename_i w4 g;refine rd_rkF (r:=r) (l:=l) (tk:=tk) g .mm .mm .mm ok λX T z=>?_;exact k _ z.base
  |groups x y=>
   have g:=m;simp only [Rl.shape] at m;left;refine rd_grF (x:=x) (y:=y) (l:=l) (tk:=tk) g .mm .mm .mm ok λX T z=>?_;exact k _ z.base
abbrev VY:Stmt:=top 84
def nB:FnScope ["_law_shape_here","_law_claims_here","_law_purse_here","_law_parts","_law_by","_law_part","_law_told","_law_due"] paf (zk VY):=xu
def BN {t:Nat} (B:Bl mg) (wY:Cal P w K mg base CX0 2 "_law_is_fraction" paq AG) (af:Cal P w K mg base CX0 1 "_law_divisor" pao nk) (ZN:Cal P w K mg base CX0 26 "_law_fits" paa (VP 12)) (F:Fun K "_law_right" "_law_right" VY f fd):FnOk P w K mg base CX0 27 f fd paf (kh t):=by
 walk_at "+nB";obtain ⟨⟨r,l,e⟩,hA,⟨⟨⟨pl,Z⟩,T⟩,D,e0,hsz⟩,k⟩:=h;obtain ⟨v0,v1,v2,G,rfl,al⟩:=JC hA;dsimp only at pl Z T D e0 al hsz;have ok:=T.ok pl.ht;have S:Sta H H H [] [(r.shape,v0),(zo l,v1),(frD e,v2),(ym (zg (zE r l) e),G)]:=Sta.enter (zS.refl _) al;have g:=(pl.gf (l:=l) T).good;have hlen:(zg (zE r l) e).length=l.length:=g.std.len;have key:=λB (hB:0<B) de hd=>wo (B:=B) (e:=e) g hB e0 de hd;have few:=ok.few;generalize zg (zE r l) e=ps at*;have hv:=S.hp (x:=ym ps) (v:=G) .mm;walk_at "=emKMPH7ba3b;tuple;c3oQlzba3czba1cjfiGpek4g2eF~a3D5emPHhba5cfiGpfk4v8a4hba4bg5cg5eN6_law_part,_law_by;14;~a3n0tvg08a1g0ek7:χbvg28a4g2bva4STbx_law_claim;1;ua1n0tg0ccemoQlSTba6ca7jfiGpfihba0bx_law_claim,_law_by;14;ua1n0tsbva1g0bg0bg0cba6c";left;refine qV (by rw [Qa,Qa,hlen]) ?_;left;refine qB (xs:=ps.map frD) S .mm λJ wk=>?_
 refine Zp wk (λi σ cs ds=>∃(b:Int) (N M L:Option V),σ=[some v0,some v1,some v2,some G,some (.int b),N,M,L]/\cs=[]/\ds=[(r.shape,v0),(zo l,v1),(frD e,v2),(ym ps,G)]/\0<b/\Sz (6800+i*8900) b/\(e.den:Int)∣b/\∀j p,j<i->ps[j]? =some p->(p.den:Int)∣b) S
  ⟨(e.den:Int),none,none,none,rfl,rfl,rfl,den_pos e,D.2.mono ⋯,⟨1,by rw [jcb]⟩,λj p A=>absurd A (Nat.not_lt_zero _)⟩ (λi σ cs ds h=>?_) ?_ ?_
 ·obtain ⟨_,_,_,_,_,_,rfl,_⟩:=h;exact .mem (by right)
 ·rintro i x u σ H2 cs ds s ⟨b,N,M,L,rfl,rfl,rfl,b0,m,de,hd⟩ S2
  obtain ⟨p,hp,rfl⟩:=zL s;have y:=hsz p (Qc hp);have I:=den_pos p;have st:=Gb b0 I;left;refine IT S2 .mm λH3 S3=>?_;have gp:0<Int.gcd b (p.den:Int):=jbA b ⋯
  have z:CDv b ((Int.gcd b (p.den:Int):Nat):Int):=⟨⋯,by
   refine (Sz.le y.2 ?_).mono nofun;have:=Nat.le_of_dvd ⋯ (Int.gcd_dvd_natAbs_right b (p.den:Int))
   omega⟩
  have qn:0<=b.fdiv ((Int.gcd b (p.den:Int):Nat):Int):=by
   rw [TN _ ⋯];exact Int.ediv_nonneg ⋯ ⋯
  have ql:b.fdiv ((Int.gcd b (p.den:Int):Nat):Int)<=b:=by
   rw [TN _ ⋯];exact Int.ediv_le_self _ ⋯
  have U:=mW qn ql m;have hi:i<ps.length:=(Qd.mp hp).1;have o:IntMulOk (b.fdiv ((Int.gcd b (p.den:Int):Nat):Int)) (p.den:Int):=U.mulOk y.2 ⋯;left;refine YD ((by assumption:Sta H H H3 [] _).dat ‹()›) ⟨_,_,_,_,rfl,rfl,rfl,st.1,(U.mul y.2).mono ⋯,Int.dvd_trans de st.2.1,λj q A O=>?_⟩
  by_cases SF:j<i
  ·exact Int.dvd_trans (hd j q SF O) st.2.1
  ·have:j=i:=⋯
   subst this;rw [hp] at O;cases O;exact st.2.2
 rintro σ H2 cs ds ⟨b,N,M,L,rfl,rfl,rfl,b0,m,de,hd⟩ S2
 rw [Qa,hlen] at m;have m:Sz 80000 b:=m.mono ⋯
 have Rp:∀p∈ps,(p.den:Int)∣b:=λp hp=>by
  obtain ⟨j,A,rfl⟩:=QS hp;exact hd j _ (by rw [Qa];exact A) (Qb A)
 obtain ⟨ks,kf⟩:=key b b0 de Rp
 have dq:∀d:Int,0<d->0<=b.fdiv d/\b.fdiv d<=b:=λd SV=>by
  rw [TN _ ⋯];exact ⟨Int.ediv_nonneg ⋯ ⋯,Int.ediv_le_self _ ⋯⟩
 left;refine qB (xs:=ps.map frD) S2 .mm λJ3 MR=>?_;refine ye MR (λj=> .int ((tkV b ps).getD j 0)) (ys:=(tkV b ps).map PyData.int) (by rw [Qa,show ps.length=(tkV b ps).length by unfold tkV;rw [Qa]];exact zm (λx=>PyData.int x) 0 _) S2 (λj x v=>λs t1 S hd=>?_) λD4 H4 e4 S4=>?_
 ·obtain ⟨p,hp,rfl⟩:=zL s;have y:=hsz p (Qc hp);have I:=den_pos p;have z:CDv b (p.den:Int):=⟨⋯,y.2.mono nofun⟩;have o:IntMulOk p.num (b.fdiv (p.den:Int)):=y.1.mulOk (mW (dq _ I).1 (dq _ I).2 m) nofun;refine zH ⟨rfl,?_⟩;left;refine hd (by assumption) ?_;rw [zF (show (tkV b ps)[j]? =some (p.num*b.fdiv (p.den:Int)) by unfold tkV;rw [Qh,hp];rfl)];exact Has.int
 have S5:=S4.freeze;have X:=den_pos e;have OI:CDv b (e.den:Int):=⟨⋯,D.2.mono nofun⟩;have o1:IntMulOk e.num (b.fdiv (e.den:Int)):=D.1.mulOk (mW (dq _ X).1 (dq _ X).2 m) nofun;have o2:IntMulOk b (amV l).sum:=m.mulOk ok.am.sum.2 nofun;left;refine zM (xs:=l.map zG) (by assumption) .mm λJ6 RK=>?_;refine ye RK (λj=> .int (l.getD j (0,0,0)).1) (ys:=(amV l).map PyData.int) (by unfold amV;rw [Qa,Qm];exact zm (λc:Cl=>PyData.int c.1) (0,0,0) l) (by assumption) (λj x v=>λs t1 S hd=>?_) λD6 H6 e6 S6=>?_
 ·obtain ⟨c,z,rfl⟩:=zL s;refine zH ⟨rfl,?_⟩;left;refine hd (by assumption) ?_;rw [zF z];exact Has.int
 left;refine qV ks ?_;have Y:=S6.freeze;left;refine zM (xs:=l.map zG) Y .mm λJ8 Ow=>?_
 refine yG Ow (λj=>zG ((λc:Cl=>((b*c.1,c.2):Cl)) (l.getD j (0,0,0)))) (ys:=(yd b l).map zG) (by
  unfold yd;rw [Qm,Qa];exact zm (λc:Cl=>zG ((b*c.1,c.2):Cl)) (0,0,0) l) Y (λ_ _=> .mem (by right)) (by rw [Qa];omega) (λj x v B' G' Kd Kn s t1 S hd C ex s0 H0=>?_) λD8 H8 e8 S8=>?_
 ·obtain ⟨c,z,rfl⟩:=zL s;have o:IntMulOk b c.1:=m.mulOk (ok.sz c (Qc z)) nofun;refine zH ⟨rfl,?_⟩;left;refine hd (by assumption) ?_;rw [zF z];exact .mem (by right)
 left;refine YN (r:=r) (l:=yd b l) (tk:=tkV b ps) S8.freeze .mm .mm .mm (by exact ⟨pl.pok,Z,nofun,by rw [Zg];exact few,λx s=>by rw [Va] at s;obtain ⟨a,ha,rfl⟩:=Qj.mp s;exact (m.mul (ok.am.2 a ha).2).mono nofun,kf⟩) λH9 e9 S9=>?_;exact k _ S9.base
abbrev aH:Stmt:=top 85
def VR:FnScope paz paz (zk aH):=xu
section
variable {A:RAd}
def Fp (m:VA P w K mg base "Shares" (A.cls .shares) pac (xj (A.cls .shares) (α:=Unit) (λ_=>[]) (λ_=>Rl.shares.shape))) (C:VA P w K mg base "Evenly" (A.cls .evenly) pac (xj (A.cls .evenly) (α:=Unit) (λ_=>[]) (λ_=>Rl.evenly.shape))) (q:VA P w K mg base "Losses" (A.cls .losses) pac (xj (A.cls .losses) (α:=Unit) (λ_=>[]) (λ_=>Rl.losses.shape))) (u:VA P w K mg base "Halves" (A.cls .halves) pac (xj (A.cls .halves) (α:=Unit) (λ_=>[]) (λ_=>Rl.halves.shape))) (I:VA P w K mg base "Other" (A.cls (.other .shares)) pal (xj (A.cls (.other .shares)) (α:=Rl) (λr=>[r.ins A]) (λr=>(Rl.other r).shape))) (D:VA P w K mg base "Ranks" (A.cls (.ranks .shares)) pal (xj (A.cls (.ranks .shares)) (α:=Rl) (λr=>[r.ins A]) (λr=>(Rl.ranks r).shape))) (z:VA P w K mg base "Groups" (A.cls (.groups .shares .shares)) paw (xj (A.cls (.groups .shares .shares)) (α:=Rl×Rl) (λr=>[r.1.ins A,r.2.ins A]) (λr=>(Rl.groups r.1 r.2).shape))) (L:VA P w K mg base "Upto" (A.cls (.upto 0 0 .shares .shares)) paj (xj (A.cls (.upto 0 0 .shares .shares)) (α:=(Int×Int)×Rl×Rl) (λr=>[.tuple [.int r.1.1, .int r.1.2],r.2.1.ins A,r.2.2.ins A]) (λr=>(Rl.upto r.1.1 r.1.2 r.2.1 r.2.2).shape))) (F:Fun K "_law_rule" "_law_rule" aH f fd) (hm:mg "_law_rule"=some (.ref f)) (b:xi K fd paz []):∀n:Nat,FnOk P w K mg base CX0 (n+4) f fd paz (kd A n):=by
 obtain ⟨Lj,KN,pF,Ee,DX,tS⟩:=m;obtain ⟨Ln,KR,pJ,Ei,Eb,tW⟩:=C;obtain ⟨Lk,KO,pG,Ef,DY,tT⟩:=q;obtain ⟨Ll,KP,pH,Eg,DZ,tU⟩:=u;obtain ⟨Lw,Li,uq,Hd,GU,CT⟩:=I;obtain ⟨Lv,Lh,uo,Hc,GS,CS⟩:=D;obtain ⟨Lm,KQ,pI,Eh,Ea,tV⟩:=z;obtain ⟨LA,Lu,DK,HX,HP,HE⟩:=L;intro n
 induction n with
 |zero=>
  refine F.ok VR (λvs H Q E h=>?_) (λLF A' outer s H vs Q E hr h=>?_)
  ·obtain ⟨G,a,_,h,_⟩:=h;rw [<-h.len];rfl
  obtain ⟨G,r,_,_,hd,_⟩:=h;exact absurd hd (by cases r<;>simp [Rl.deep])
 |succ n ih=>
  have wX:Cal P w K mg base CX0 (n+4) "_law_rule" paz (kd A n):=US F ih hm b;refine F.ok VR (λvs H Q E h=>?_) (λLF A' outer s H vs Q E hr h=>?_)
  ·obtain ⟨G,a,_,h,_⟩:=h;rw [<-h.len];rfl
  obtain ⟨G,r,eG,hA,hd,k⟩:=h;obtain ⟨v,rfl,al⟩:=Yz hA;have S:Sta H G H [] [(r.shape,v)]:=Sta.enter eG al;have nd0:=VR.nd;walk_at "=emorlg0wjfiψωpemorlg0wjfiΓΔpemorlg0wjfiΘΞpemorlg0wjfiΠΣpemorlg0wjfiΦΨbhbg0ccpemorlg0wjfiΩаbhbg0ccpemorlg0wjfiбвbhbg0cbhbg0ccpfiгдbg0bhbg0cbhbg0cc"
  cases r with
  |shares=>
   simp only [Rl.shape] at S;left;refine YL () S yI.nil λJ H1 U g=>?_;exact xE g k .mm
  |evenly=>
   simp only [Rl.shape] at S;left;refine YL () S yI.nil λJ H1 U g=>?_;exact xE g k .mm
  |losses=>
   simp only [Rl.shape] at S;left;refine YL () S yI.nil λJ H1 U g=>?_;exact xE g k .mm
  |halves=>
   simp only [Rl.shape] at S;left;refine YL () S yI.nil λJ H1 U g=>?_;exact xE g k .mm
  |other r=>
   simp only [Rl.shape] at S;left;rename_i O g;refine Wb (r:=r) g .mm (by simp only [Rl.deep] at hd;omega) λw2 H2 e2 N=>?_;left;refine YL r N (yI.cons .mm yI.nil) λJ H3 T M=>?_;exact xE M k .mm
  |upto t b x y=>
   have Y:x.deep<=n:=by simp only [Rl.deep] at hd;omega
   have X:y.deep<=n:=by simp only [Rl.deep] at hd;omega
   simp only [Rl.shape] at S;left;rename_i O g w2 N;refine Wb (r:=x) N .mm Y λw3 H3 T M=>?_;left;rename_i w4 S4;refine Wb (r:=y) S4 .mm X λw5 H5 e5 S5=>?_;left;refine YL (((t,b),x,y):(Int×Int)×Rl×Rl) S5 (yI.cons .mm (yI.cons .mm (yI.cons .mm yI.nil))) λJ H6 e6 Z=>?_;exact xE Z k .mm
  |ranks r=>
   simp only [Rl.shape] at S;left;rename_i O g;refine Wb (r:=r) g .mm (by simp only [Rl.deep] at hd;omega) λw2 H2 e2 N=>?_;left;refine YL r N (yI.cons .mm yI.nil) λJ H3 T M=>?_;exact xE M k .mm
  |groups x y=>
   have Y:x.deep<=n:=by simp only [Rl.deep] at hd;omega
   have X:y.deep<=n:=by simp only [Rl.deep] at hd;omega
   simp only [Rl.shape] at S;left;rename_i O g;refine Wb (r:=x) g .mm Y λw3 H3 T M=>?_;left;rename_i w4 S4;refine Wb (r:=y) S4 .mm X λw5 H5 e5 S5=>?_;left;refine YL ((x,y):Rl×Rl) S5 (yI.cons .mm (yI.cons .mm yI.nil)) λJ H6 e6 Z=>?_;exact xE Z k .mm
end
abbrev XW:Stmt:=top 76
def hU:FnScope ["_law_cell","_law_number"] paG (zk XW):=xu
def Ft (F:Fun K "_law_portion" "_law_portion" XW f fd):FnOk P w K mg base CX0 1 f fd paG qe:=by
 walk_at "+hU";obtain ⟨G,c,rfl,z,k⟩:=h;have S:Sta H G H [] []:=Sta.enter z λp hp=>absurd hp Qp;walk_at "=ek1Ca0+ddemorlCa1ddjfisbdbAdCOa1ddcpemorlCa1ddjfisbAdCOa1ddbdcpfisbAdCOa1ddbAdCOa1ddc";left;generalize c % 10 ^ Int.toNat 9=m at*;have hm:0<=m / 3 % 60/\m / 3 % 60<60:=⋯
 have g:∀t b:Int,0<t->t<b->b<=61->Int.gcd t b=1->Small t b:=λt b y u s r=>⟨⟨⟨by unfold Sz;omega,by unfold Sz;omega⟩,y,u,r⟩,s⟩;refine Yy (λ_=>?_) (λ_=>?_)
 ·left;exact Bg (by assumption) k .mm (g _ _ nofun ⋯ ⋯ (by rw [Int.gcd_one_left]))
 left;refine Yy (λ_=>?_) (λ_=>?_)
 ·left;refine Bg (by assumption) k .mm (g _ _ ⋯ ⋯ ⋯ ?_);obtain ⟨i,q,e⟩:∃i:Nat,i<60/\m / 3 % 60=(i:Int):=⟨(m / 3 % 60).toNat,⋯,⋯⟩;rw [e];clear e hm
  revert q
  revert i
  decide+kernel
 left;refine Bg (by assumption) k .mm (g _ _ ⋯ ⋯ ⋯ ?_);obtain ⟨i,q,e⟩:∃i:Nat,i<60/\m / 3 % 60=(i:Int):=⟨(m / 3 % 60).toNat,⋯,⋯⟩;rw [e];clear e hm
 revert q
 revert i
 decide+kernel
abbrev aI:Stmt:=top 77
def qp:FnScope paG paG (zk aI):=xu
def Fy (F:Fun K "_law_leaf" "_law_leaf" aI f fd):FnOk P w K mg base CX0 1 f fd paG qg:=by
 walk_at "+qp";obtain ⟨G,c,rfl,g,k⟩:=h;have S:Sta H G H [] []:=Sta.enter g λp hp=>absurd hp Qp;walk_at "=fiqBbsbwcbsbwcbsbwcbsbwccCa0d";left;rename_i z Z J O y Y I N u X D M t U C L s T A q
 obtain ⟨n,hn⟩:∃n,atI [PyData.tuple [.str "shares"], .tuple [.str "evenly"], .tuple [.str "losses"], .tuple [.str "halves"]] (c % 4)=some (gn n).shape:=by
  rcases (by omega:c % 4=0\/c % 4=1\/c % 4=2\/c % 4=3) with h|h|h|h<;>rw [h]
  ·exact ⟨0,rfl⟩
  ·exact ⟨1,rfl⟩
  ·exact ⟨2,rfl⟩
  ·exact ⟨3,rfl⟩
 refine YM (x:=(gn n).shape) q (by right) hn λr m=>?_;exact Bh (n:=n) m k .mm
abbrev VX:Stmt:=top 78
def nA:FnScope ["_law_cells","_law_groups","_law_pile","_law_cell","_law_more","_law_kind"] paJ (zk VX):=xu
def BL (B:Bl mg) (He:Cal P w K mg base CX0 1 "_law_portion" paG qe) (Kp:Cal P w K mg base CX0 1 "_law_leaf" paG qg) (F:Fun K "_law_shape" "_law_shape" VX f fd):FnOk P w K mg base CX0 2 f fd paJ jY:=by
 walk_at "+nA";obtain ⟨G,ns,g,v,rfl,eG,hv,hl6,k⟩:=h;have S:Sta H G H [] [(xk ns,v)]:=Sta.enter eG λp hp=>by rw [Qv.mp hp];exact hv
 have two:∀rs:List Rl,1<rs.length->∃ls ra s,rs=ls++[ra,s]:=λrs h=>by
  refine ⟨rs.dropLast.dropLast,rs.dropLast.getLast (λz=>?_),rs.getLast (λz=>?_),?_⟩
  ·have:=congrArg List.length z;rw [List.length_dropLast,List.length_nil] at this;omega
  ·rw [z,List.length_nil] at h;omega
  ·rw [show ∀a b:Rl,[a,b]=[a]++[b] from λ_ _=>rfl,<-jaj,jap,jap]
 have one:∀rs:List Rl,0<rs.length->∃ls ra,rs=ls++[ra]:=λrs h=>by
  refine ⟨rs.dropLast,rs.getLast (λz=>?_),?_⟩
  ·rw [z,List.length_nil] at h;omega
  ·rw [jap]
 have U:∀(ls:List Rl) (r:Rl),atI ((ls++[r]).map Rl.shape) (-1)=some r.shape:=λls r=>by
  rw [QM];exact uk _ _
 have at2:∀(ls:List Rl) (r q:Rl),atI ((ls++[r,q]).map Rl.shape) (-2)=some r.shape/\atI ((ls++[r,q]).map Rl.shape) (-1)=some q.shape:=λls r q=>⟨by rw [QM];exact GV,by rw [show ls++[r,q]=ls++[r]++[q] by simp];exact U _ _⟩;walk_at "=ek2BceFua0D3ek4COa3d+ddek5Ca3dfmKYorla5dj0Vzba2cdjfk2=Xa24RLdBbsbwbqa2LdccfmKYorla5dj0Vzba2cdjfk2=Xa24RLdBbsbwbqa2LdccfmKYorla5djYVzba2cdj0Ha1fk2=Xa24RLdBbsbwbqa2Ldbqa2LdccfmKYVa5dj0Vzba2cdjfk2=Xa24RLdBbsbwbhba4cbqa2Ldbqa2LdccfEZa2bhba4ccemorlzba2cdjfisbwcpe<Vzba2cdjfk2=Xa24RLdBbsbwbsbdbAdzba2ccbqa2Ldbqa2Ldccfig2";left;rename_i p1 H1 e1 S1;refine zM (xs:=ns.map PyData.int) S1 .mm λJ wk=>?_;refine Zp wk (λi σ cs ds=>∃(rs:List Rl) (p:Addr) (Z Y X:Option V),σ=[some v,some (.bl g),some (.ref p),Z,Y,X]/\cs=[(p,rs.map Rl.shape)]/\ds=[(xk ns,v)]/\(∀r∈rs,PSG g r)/\ndS rs<=i) S1 ⟨[],p1,none,none,none,rfl,rfl,rfl,λr hr=>absurd hr Qp,Qu _⟩ (λi σ cs ds h=>?_) ?_ ?_
 ·obtain ⟨_,_,_,_,_,_,_,rfl,_⟩:=h;exact .mem (by right)
 ·rintro i x u σ H2 cs ds hx ⟨rs,p,Z,Y,X,rfl,rfl,rfl,Mi,Pf⟩ O
  obtain ⟨c,hc,rfl⟩:=zL hx;have hi:=(Qd.mp hc).1;cases O.int1;have O:=O.drop1;have ll:=WM rs
  have fin:∀(q:Addr) (ls:List Rl) (r:Rl) (y3 y4 y5:Option V) (H5:Hp),(∀r∈ls,PSG g r)->PSG g r->ndS ls+nd r<=i+1->Sta H G H5 [(q,ls.map Rl.shape++[r.shape])] [(xk ns,v)]->
   AtP H G (λσ cs ds=>∃(rs:List Rl) (p:Addr) (Z Y X:Option V),σ=[some v,some (.bl g),some (.ref p),Z,Y,X]/\cs=[(p,rs.map Rl.shape)]/\ds=[(xk ns,v)]/\(∀r∈rs,PSG g r)/\ndS rs<=i+1) [some v,some (.bl g),some (.ref q),y3,y4,y5] H5:=by
   intro q ls r y3 y4 y5 H5 h1 h2 h3 T;refine YD T ⟨ls++[r],q,y3,y4,y5,rfl,by rw [QM];rfl,rfl,λz hz=>?_,by rw [Ye];exact h3⟩
   rcases QY.mp hz with z'|z'
   ·exact h1 z z'
   ·rw [Qv.mp z'];exact h2
  left;refine' if2 ?gh1 ?gk1 ?gn1
  case gh1=>
   intro z;left;exact z
  case gk1=>
   intro c1 C;have C:=Qz C;rw [Qa] at C;left;obtain ⟨ls,ra,rfl⟩:=one rs ⋯;have I:=Mi ra (by simp);have nn:=Ye ls ra;refine nO O (by right) λq3 H3 e3 A=>?_;rw [show oN ((ls++[ra]).map Rl.shape) none (some (-1))=ls.map Rl.shape by rw [QM];exact uc _ _] at A;left;refine YM (x:=ra.shape) A (by right) (U ls ra) λw4 M=>?_;left;rename_i q5 H5 e5 T q6 H6 e6 L;refine .inl (ZG (xs:=ls.map Rl.shape) (zs:=[(Rl.other ra).shape]) L (L.vwC (by right)) (L.vwC (by right)) (by have:=WM ls;rw [Qa];show _+1<=1000;omega) λq7 H7 e7 D=>?_);left;exact fin q7 ls (Rl.other ra) _ _ _ H7 (λr hr=>Mi r (by simp [hr])) I (by simp only [nd];omega) (D.weak (by walk_at "sub") ‹()›)
  intro _;left;refine' if2 ?gh2 ?gk2 ?gn2
  case gh2=>
   intro z;left;exact z
  case gk2=>
   intro c1 C;have C:=Qz C;rw [Qa] at C;left;obtain ⟨ls,ra,rfl⟩:=one rs ⋯;have I:=Mi ra (by simp);have nn:=Ye ls ra;refine nO O (by right) λq3 H3 e3 A=>?_;rw [show oN ((ls++[ra]).map Rl.shape) none (some (-1))=ls.map Rl.shape by rw [QM];exact uc _ _] at A;left;refine YM (x:=ra.shape) A (by right) (U ls ra) λw4 M=>?_;left;rename_i q5 H5 e5 T q6 H6 e6 L;refine .inl (ZG (xs:=ls.map Rl.shape) (zs:=[(Rl.ranks ra).shape]) L (L.vwC (by right)) (L.vwC (by right)) (by have:=WM ls;rw [Qa];show _+1<=1000;omega) λq7 H7 e7 D=>?_);left;exact fin q7 ls (Rl.ranks ra) _ _ _ H7 (λr hr=>Mi r (by simp [hr])) I (by simp only [nd];omega) (D.weak (by walk_at "sub") ‹()›)
  intro _;left;refine' if3 ?gh3 ?gi3 ?gk3 ?gn3
  case gh3=>
   intro z;left;exact z
  case gi3=>
   intro z;left;exact z
  case gk3=>
   intro c1 C c3;have C:=Qz C;rw [Qa] at C;left;obtain ⟨ls,ra,s,rfl⟩:=two rs ⋯;have I:=Mi ra (by simp);have ob:=Mi s (by simp);have nn:ndS (ls++[ra,s])=ndS ls+nd ra+nd s:=by rw [show ls++[ra,s]=ls++[ra]++[s] by simp,Ye,Ye]
   refine nO O (by right) λq3 H3 e3 A=>?_;rw [show oN ((ls++[ra,s]).map Rl.shape) none (some (-2))=ls.map Rl.shape by rw [QM];exact lX _ _ _] at A;left;refine YM (x:=ra.shape) A (by right) (at2 ls ra s).1 λw4 M=>?_;left;refine YM (x:=s.shape) M (by right) (at2 ls ra s).2 λw5 T=>?_;left;rename_i q6 H6 e6 L q7 H7 e7 D;refine .inl (ZG (xs:=ls.map Rl.shape) (zs:=[(Rl.groups ra s).shape]) D (D.vwC (by right)) (D.vwC (by right)) (by have:=WM ls;rw [Qa];show _+1<=1000;omega) λq8 H8 e8 S8=>?_);left;exact fin q8 ls (Rl.groups ra s) _ _ _ H8 (λr hr=>Mi r (by simp [hr])) ⟨⟨I.1,ob.1⟩,λz=>absurd (z▸c3:false=true) nofun⟩ (by simp only [nd];omega) (S8.weak (by walk_at "sub") ‹()›)
  intro _;left;refine' if2 ?gh4 ?gk4 ?gn4
  case gh4=>
   intro z;left;exact z
  case gk4=>
   intro c1 C;have C:=Qz C;rw [Qa] at C;left;obtain ⟨ls,ra,s,rfl⟩:=two rs ⋯;have I:=Mi ra (by simp);have ob:=Mi s (by simp);have nn:ndS (ls++[ra,s])=ndS ls+nd ra+nd s:=by rw [show ls++[ra,s]=ls++[ra]++[s] by simp,Ye,Ye]
   refine nO O (by right) λq3 H3 e3 A=>?_;rw [show oN ((ls++[ra,s]).map Rl.shape) none (some (-2))=ls.map Rl.shape by rw [QM];exact lX _ _ _] at A;left;refine EV A λwp Hp t b sm ep Sp=>?_;left;refine YM (x:=ra.shape) Sp (by right) (at2 ls ra s).1 λw4 M=>?_;left;refine YM (x:=s.shape) M (by right) (at2 ls ra s).2 λw5 T=>?_;left;rename_i q6 H6 e6 L q7 H7 e7 D;refine .inl (ZG (xs:=ls.map Rl.shape) (zs:=[(Rl.upto t b ra s).shape]) D (D.vwC (by right)) (D.vwC (by right)) (by have:=WM ls;rw [Qa];show _+1<=1000;omega) λq8 H8 e8 S8=>?_);left;exact fin q8 ls (Rl.upto t b ra s) _ _ _ H8 (λr hr=>Mi r (by simp [hr])) ⟨⟨sm.ps,I.1,ob.1⟩,λz=>⟨I.2 z,ob.2 z⟩⟩ (by simp only [nd];omega) (S8.weak (by walk_at "sub") ‹()›)
  intro _;left;refine EX O λw3 H3 n e3 A=>?_;left;refine yU (y:=(gn n).shape) A .mm (by rw [Qa];omega) λH4 M=>?_;left;exact fin p rs (gn n) _ _ _ H4 Mi ⟨(CV n).1,λ_=>JJ n⟩ (by rw [(CV n).2];omega) (M.dat ‹()›)
 ·rintro σ H2 cs ds ⟨rs,p,Z,Y,X,rfl,rfl,rfl,Mi,Pf⟩ O
  rw [Qa] at Pf;have ll:=WM rs;left;rw [Qa];refine Yy (λc1=>?_) (λc1=>?_)
  ·left;exact jd (r:= .halves) (by assumption) k .mm ⟨⟨0,1,λt=>JOk.of (r:= .halves) trivial nofun,nofun,nofun⟩,λ_=>trivial⟩
  obtain ⟨ls,y,rfl⟩:=one rs ⋯;have nn:=Ye ls y;left;refine mP (λm σ cs ds=>∃(ls:List Rl) (y:Rl) (p:Addr) (j N:Nat),σ=[some v,some (.bl g),some (.ref p),Z,Y,X]/\cs=[(p,(ls++[y]).map Rl.shape)]/\ds=[(xk ns,v)]/\(∀r∈ls,PSG g r)/\((∀t,JOk t j N y)/\(g=false->NG y))/\j+ls.length<=5/\N+ndS ls<=6/\m=ls.length) _ O ⟨ls,y,p,0,nd y,rfl,rfl,rfl,λr hr=>Mi r (by simp [hr]),⟨λt=>JOk.of (Mi y (by simp)).1 ⋯,(Mi y (by simp)).2⟩,by rw [QB,TX] at ll;omega,⋯,rfl⟩ ?_;clear Mi Pf O ll nn c1
  rintro m σ H3 cs ds ⟨ls,y,p,j,N,rfl,rfl,rfl,Mi,hy,hj,hN,rfl⟩ A
  left;rw [Qa,QB,TX];refine vh (λc=>?_) (λc=>?_)
  ·have c:0<ls.length:=by
    have:=Qz c;omega
   obtain ⟨ls,ra,rfl⟩:=one ls c;have I:=Mi ra (by simp);have nn:=Ye ls ra;have pa:=fD ra;have ll:=WM ls;rw [QB,TX] at hj;rw [show ls++[ra]++[y]=ls++[ra,y] by simp] at A;have hb:(((ls++[ra,y]).map Rl.shape).length:Int)=ls.length+2:=by rw [Qa,QB];rfl
   left;refine nO A (by right) λq4 H4 e4 M=>?_;rw [show oN ((ls++[ra,y]).map Rl.shape) none (some (-2))=ls.map Rl.shape by rw [QM];exact lX _ _ _] at M;left;rename_i q5 H5 e5 T;rw [hb] at T;refine YM (x:=ra.shape) T (by right) (at2 ls ra y).1 λw6 L=>?_;left;refine YM (x:=y.shape) L (by right) (at2 ls ra y).2 λw7 D=>?_;left;rename_i q8 H8 e8 S8 q9 H9 e9 S9;refine .inl (ZG (xs:=ls.map Rl.shape) (zs:=[(Rl.upto 1 (1+((ls.length:Int)+2)) ra y).shape]) S9 (S9.vwC (by right)) (S9.vwC (by right)) (by rw [Qa];show _+1<=1000;omega) λqa Ha ea Sa=>?_);left;have po:Vb 1 (1+((ls.length:Int)+2)):=⟨⟨by unfold Sz;omega,by unfold Sz;omega⟩,⋯,⋯,Int.gcd_one_left _⟩;refine ⟨ls.length,by simp,_,_,Sa.weak (cs':=[(qa,ls.map Rl.shape++[(Rl.upto 1 (1+((ls.length:Int)+2)) ra y).shape])]) (ds':=[(xk ns,v)]) (by walk_at "sub") ‹()›,ls,_,qa,j+1,nd ra+N,rfl,by rw [QM];rfl,rfl,λr hr=>Mi r (by simp [hr]),⟨λt=>JOk.join po (Hz ⋯ ⋯) (JOk.of I.1 ⋯) (hy.1 t),λz=>⟨I.2 z,hy.2 z⟩⟩,⋯,⋯,rfl⟩
  ·have c:ls=[]:=by
    have:=of_decide_eq_false c;exact List.length_eq_zero_iff.mp ⋯
   subst c;left;refine YM (x:=y.shape) A (by right) rfl λw4 M=>?_;exact jd (r:=y) M k .mm ⟨⟨j,N,hy.1,⋯,⋯⟩,hy.2⟩
abbrev VZ:Stmt:=top 86
def nC:FnScope ["_law_whole_here","_law_cell","_law_kind","_law_number"] paE (zk VZ):=xu
def BP (L:Cal P w K mg base CX0 2 "_law_lowest" paC Uv) (F:Fun K "_law_purse" "_law_purse" VZ f fd):FnOk P w K mg base CX0 3 f fd paE kj:=by
 walk_at "+nC";obtain ⟨G,g,c,rfl,J,⟨y,s⟩,k⟩:=h;have S:Sta H G H [] []:=Sta.enter J λp hp=>absurd hp Qp;have good:∀(i j:Int),0<=i->0<j->Sz 300 i->Sz 300 j->0<=Rat.divInt i j/\SzQ 300 (Rat.divInt i j):=λi j I O z1 z2=>⟨Rat.divInt_nonneg I ⋯,SzQ.divInt z1 z2 ⋯⟩;have C:g+3≠0:=⋯
 have A:2*g+5≠0:=⋯
 have T:g<2 ^ 180:=by unfold Sz at s;omega
 have u:(0:Int)<10 ^ Int.toNat 12:=by decide
 walk_at "=ek2Ca1dek3Oa1demorla2djfisb1a3Aa0dbdcpemorla2djfihba0bdcpemorla2djfihb1a3Avda0dbdcpemorla2djfihbva0Ca3dbdcpfihb1a3vAa0d+ddb+ddc";left;refine Yy (λ_=>?_) (λ_=>?_)
 ·left;rename_i M H1 t m;have e:=Tw (c / 5) (show 0<=g+3 by omega);have q:=jaF (c / 5) C;have m2:=jao (c / 5) (show 0<g+3 by omega);rw [<-e] at q m2;have D:PyData.tuple [.int ((c / 5).fmod (g+3)), .int 1]=frD (((c / 5).fmod (g+3):Int):Rat):=rfl;rw [D] at m;exact fc m k .mm ⟨bD q,by show Sz 300 ((c / 5).fmod (g+3));unfold Sz;omega,by show Sz 300 1;unfold Sz;decide⟩ ((DQ.int _).mono nofun)
 left;refine Yy (λ_=>?_) (λ_=>?_)
 ·left;refine UH S nofun (by unfold Sz;decide+kernel) λr H1 t m=>?_;exact fc m k .mm (good _ _ y nofun (s.mono nofun) (by unfold Sz;decide)) (ub nofun nofun)
 left;refine Yy (λ_=>?_) (λ_=>?_)
 ·left;have e:=Tw (c / 5) (show 0<=2*g+5 by omega);have q:=jaF (c / 5) A;have m2:=jao (c / 5) (show 0<2*g+5 by omega);rw [<-e] at q m2;refine UH S nofun (by unfold Sz;decide+kernel) λr H1 t m=>?_;exact fc m k .mm (good _ _ q nofun (by unfold Sz;omega) (by unfold Sz;decide)) (ub nofun nofun)
 left;refine Yy (λ_=>?_) (λ_=>?_)
 ·have o:IntMulOk g (c / 5 % 1009):=s.mulOk (n:=10) (by unfold Sz;omega) nofun;left;refine UH S nofun (by unfold Sz;decide+kernel) λr H1 t m=>?_;exact fc m k .mm (good _ _ (Int.mul_nonneg y ⋯) nofun ((s.mul (n:=10) (by unfold Sz;omega)).mono nofun) (by unfold Sz;decide)) (ub nofun nofun)
 have z1:Sz 181 (g+1):=by unfold Sz;omega
 have z2:Sz 60 ((10:Int) ^ Int.toNat 12):=by unfold Sz;decide
 have N:IntMulOk (g+1) (10 ^ Int.toNat 12):=z1.mulOk z2 nofun;have zz:=z1.mul z2;have pp:0<(g+1)*(10:Int) ^ Int.toNat 12:=Int.mul_pos ⋯ u;have z:(g+1)*(10:Int) ^ Int.toNat 12≠0:=⋯
 have e:=Tw (c / 5) (show 0<=(g+1)*(10:Int) ^ Int.toNat 12 by omega);have q:=jaF (c / 5) z;have m2:=jao (c / 5) pp;rw [<-e] at q m2;left;refine UH S u (z2.mono nofun) λr H1 t m=>?_;exact fc m k .mm (good _ _ q u ((mW q (jbr m2) zz).mono nofun) (z2.mono nofun)) (ub u nofun)
abbrev eU:Stmt:=top 87
def uX:FnScope ["_law_parts","_law_found","_law_part"] ["_law_parts"] (zk eU):=xu
def BX (D:Cal P w K mg base CX0 2 "_law_lowest" paC Uv) (F:Fun K "_law_sum" "_law_sum" eU f fd):FnOk P w K mg base CX0 3 f fd ["_law_parts"] spSum:=by
 walk_at "+uX";obtain ⟨G,ps,C,z,⟨⟨n,zs,hn⟩,few⟩,k⟩:=h;obtain ⟨v,rfl,al⟩:=Yz z;have S:Sta H G H [] [(.list (ps.map frD),v)]:=Sta.enter C al;dsimp only at k
 have snoc:∀(qs:List Rat) (q:Rat),zA (qs++[q])=zA qs+q:=λqs q=>by
  induction qs with
  |nil=>show q+0=0+q;rw [Rat.add_zero,Rat.zero_add]
  |cons a qs g=>rw [Tv,zA,zA,g,Rat.add_assoc]
 have sz:∀i:Nat,i<=8->SzQ ((i+1)*(n+1)) (zA (ps.take i)):=λi T=>by
  induction i with
  |zero=>rw [List.take_zero];exact (show SzQ 1 0 from ⟨by unfold Sz;decide,by unfold Sz;decide⟩).mono ⋯
  |succ i g=>
   cases e:ps[i]? with
   |none=>
    rw [QQ (by have:=jaa.mp e;omega)];have:=g ⋯;rw [QQ (by have:=jaa.mp e;omega)] at this;exact this.mono (Nat.mul_le_mul_right _ ⋯)
   |some q=>
    rw [Tr,e];show SzQ _ (zA (ps.take i++[q]));rw [snoc];exact ((g ⋯).add (zs q (Qc e))).mono (by rw [Nat.succ_mul (i+1)];omega)
 walk_at "=ek1sbdbdceFua0D2fk1hbAvg1g2vg2g1bvg1g2cfia1";left;rename_i I H1 X t;rw [show PyData.tuple [.int 0, .int 1]=frD (zA (ps.take 0)) from rfl] at t;refine zM (xs:=ps.map frD) t .mm λJ y=>?_;refine Zp y (λi σ cs ds=>∃(w:V) (x:Option V),σ=[some v,some w,x]/\cs=[]/\ds=[(frD (zA (ps.take i)),w),(.list (ps.map frD),v)]) t ⟨_,none,rfl,rfl,rfl⟩ (λi σ cs ds h=>?_) ?_ ?_
 ·obtain ⟨_,_,_,_,rfl⟩:=h;exact .mem (by right)
 ·rintro i x u σ H2 cs ds hx ⟨w0,x2,rfl,rfl,rfl⟩ S2
  obtain ⟨q,m,rfl⟩:=zL hx;have O:=(Qd.mp m).1;have z1:=sz i ⋯;have z2:=zs q (Qc m)
  have b:(i+1)*(n+1)<=100000:=by
   have:=Nat.mul_le_mul (show i+1<=8 by omega) (show n+1<=4500 by omega);omega
  have N:IntMulOk (zA (ps.take i)).num (q.den:Int):=z1.1.mulOk z2.2 ⋯;have M:IntMulOk q.num ((zA (ps.take i)).den:Int):=z2.1.mulOk z1.2 ⋯;have L:IntMulOk ((zA (ps.take i)).den:Int) (q.den:Int):=z1.2.mulOk z2.2 ⋯;left;refine vk (by assumption) (Int.mul_pos (den_pos _) (den_pos _)) (bq z1 z2 ⋯) λr Y U s=>?_;rw [rT] at s;left
  have A:zA (ps.take i)+q=zA (ps.take (i+1)):=by
   rw [Tr,m];exact (snoc _ _).symm
  rw [A] at s;exact YD (s.dat ‹()›) ⟨_,_,rfl,rfl,rfl⟩
 ·rintro σ H2 cs ds ⟨w0,x2,rfl,rfl,rfl⟩ S2
  rw [Qa,QQ (Qu _)] at S2;left;exact xE S2 k .mm
local macro_rules|`(tactic|walk_at "rd")=>`(tactic|first|fail "&187"|fail)
section
variable {A:RAd}
abbrev kM:Stmt:=top 88
def sc_law:FnScope ["_law_script","_law_first","_law_many","_law_groups","_law_claims_here","_law_shape_here","_law_rule_here","_law_purse_here","_law_away","_law_parts","_law_handed","_law_found","_law_stay","_law_told","_law_place","_law_row","_law_left"] ["_law_script"] (zk kM):=xu
def ok_law {fS fT fQ Yb:Addr} {fdQ:FuncData} (B:Bl mg) (LJ:∀r:Rl,ROk K fS fT Yb (A.cls r)) (MS:∀r:Rl,Meth K (A.cls r) "parts" fQ) (Vd:FnOk P w K mg base CX0 24 fQ fdQ pai (cY A 33 7)) (YU:xi K fdQ pai []) (mH:Cal P w K mg base CX0 1 "_law_cell_at" pay (sM K)) (Ib:Cal P w K mg base CX0 2 "_law_claims" pak (dX K)) (Kg:Cal P w K mg base CX0 2 "_law_shape" paJ jY) (wX:Cal P w K mg base CX0 11 "_law_rule" paz (kd A 7)) (Ki:Cal P w K mg base CX0 3 "_law_purse" paE kj) (KZ:Cal P w K mg base CX0 25 "staying" paD (AF A 33 7)) (sf:Cal P w K mg base CX0 1 "_law_whole" paq av) (La:Cal P w K mg base CX0 3 "_law_sum" ["_law_parts"] spSum) (Kh:Cal P w K mg base CX0 27 "_law_right" paf (kh 33)) (F:Fun K "law" "law" kM f fd):FnOk P w K mg base CX0 28 f fd ["_law_script"] (EH K):=by
 walk_at "+sc_law";obtain ⟨a,ns,rfl,hS,hlen,_,q⟩:=h;have S:Sta H H H [] []:=Sta.enter (zS.refl _) λp hp=>absurd hp Qp;walk_at "=ek1hba0bdcek2AdCa1dek3$rlCOa1dddjek4hba0bdba2bqBbdb+ddcCOa1ddcek5hbXa0RdRdba3cek6hba5cek7hbSTbx_law_claim;1;ua4n0tg0cbhba0bdccek8x_law_cell,_law_many;12;uXa0RAda2RAAda2COa1ddn0t1a0a1ek9.a6,b_ba4cba7cekaBb_ba4cb_ba8ccekbhba6bgaba7bgaceNc_law_place,_law_away;18;>ba2cn09γa0a1a0emKMPH7babbеlist;cMoQlaaBba4ba8cj3oQlzbabczbaccjfiGpekdBceF/bacbabcIyDeyDfJemKMPH7bafb;tuple;cMoQlzbafcdjMPHhbgfc3oQlgfaejfiGpeEZadbgfcfmKYPHa30oQlgfqa9aejfiGpemorlzbaccdjfiGpekghbx_law_place,_law_parts;19;uacn0tqa1a0cfihba5bx_law_place,_law_claims_here;14;uacn0tqa1a0bagb2badcc";left;generalize gv ns 0=c at*;rename_i p1 H1 e1 S1
 obtain ⟨size,Rr,Pc,MO⟩:∃n:Int,atI [PyData.int 10, .int (10 ^ Int.toNat 9)] (c / 12 % 2)=some (.int n)/\10<=n/\n<=10 ^ 9:=by
  rcases (by omega:c / 12 % 2=0\/c / 12 % 2=1) with h|h<;>rw [h]
  ·exact ⟨10,rfl,nofun,nofun⟩
  ·exact ⟨10 ^ Int.toNat 9,rfl,nofun,nofun⟩
 refine IS S1 (by right) Rr ?_;have S2:Sta H H H1 [] []:=S1.dropC;clear S1;have hS1:SqL K H1 a (ns.map V.int):=S2.base.seq hS;left;have p46:(10:Int) ^ 9<=10 ^ 46:=by decide+kernel
 refine vt S2 hS1 ⟨nofun,⋯,⋯,Pc,⋯⟩ λl G H3 hl okZ e3 M=>?_
 have t:ClS 33 l:=okZ.S (s:=30) ⋯ (by
  have:(10:Int) ^ 9<=2 ^ 30:=by decide+kernel
  omega)
 have PF:l.length<=6:=⋯
 have pos:=t.pos;have em:1+c % 6=((l.length:Nat):Int):=⋯
 rw [em];clear hl Rr okZ p46 Pc MO;have S4:Sta H H H3 [] [(zo l, .ref G)]:=M.freeze;clear M S2
 have Pr:(HK ns (some 1) (some 7)).length<=6:=by
  unfold HK;rw [TR,show HT.sIx ns.length ns.length (some 7)=min 7 ns.length from HT.sIx_nat _ _ 7,show HT.sIx ns.length 0 (some 1)=min 1 ns.length from HT.sIx_nat _ _ 1];omega
 left;refine Hq S4 (S4.base.seq hS) λp5 H5 e5 S5=>?_;left;refine Bj S5.freeze .mm Pr λT H6 r dr e6 m=>?_;obtain ⟨⟨j,N,hJ,X,hN⟩,ng⟩:=dr;obtain ⟨ru,Nu,OH⟩:=(hJ 33).ru nofun X hN;have den:Xh 33 r<=530:=by have:=(hJ 33).den;omega
 have S6:Sta H H H6 [] [(r.shape,T),(zo l, .ref G)]:=m.dat ‹()›;clear m S5 S4 Pr hJ;left;refine Wb (A:=A) (r:=r) S6 .mm OH λw7 H7 e7 Z=>?_;clear S6;left;refine zM (xs:=l.map zG) Z .mm λJ8 Ow=>?_;refine ye Ow (λj=> .int (l.getD j (0,0,0)).1) (ys:=(amV l).map PyData.int) (by unfold amV;rw [Qa,Qm];exact zm (λc:Cl=>PyData.int c.1) (0,0,0) l) Z (λj x v=>λI t1 S hd=>?_) λD8 H8 e8 L=>?_
 ·obtain ⟨c,hc,rfl⟩:=zL I;refine zH ⟨rfl,?_⟩;left;refine hd (by assumption) ?_;rw [zF hc];exact Has.int
 have ok:ClOk 160 l:=t.ok nofun;have sum:=ok.am.sum;have hS8:SqL K H8 a (ns.map V.int):=L.base.seq hS;left;refine Bn L ⟨sum.1,sum.2.mono nofun⟩ λw9 H9 e ⟨⟨e0,ez⟩,ed⟩ e9 S9'=>?_;have S9:Sta H H H9 [] [(frD e,w9),(r.ins A,w7),(r.shape,T),(zo l, .ref G)]:=S9'.dropC;clear S9' L Z Ow J8 hS8;left;refine Hq S9 (S9.base.seq hS) λRU Nh PL LX=>?_;left;have MF:(HK ns (some (8+(l.length:Int))) (some (8+(l.length:Int)+c / 24 % 7))).length<=63:=by unfold HK;rw [TR,Tz];omega
 generalize HK ns (some (8+(l.length:Int))) (some (8+(l.length:Int)+c / 24 % 7))=cells at*;have LW:=LX.freeze;refine zM (xs:=cells.map PyData.int) LW .mm λJ O=>?_;refine ye O (λj=> .int (cells.getD j 0 % (l.length:Int))) (ys:=(cells.map λx=>x % (l.length:Int)).map PyData.int) (by rw [Qa,Qm];exact zm (λx:Int=>PyData.int (x % (l.length:Int))) 0 cells) LW (λj x v=>λI t1 S hd=>?_) λON NR PH S12'=>?_
 ·obtain ⟨y,hy,rfl⟩:=zL I;cases S.int1;refine zH ⟨rfl,?_⟩;left;refine hd S ?_;rw [zF hy,Tw _ ⋯];exact Has.int
 have gp:GZ (l.length:Nat) (cells.map λx=>x % (l.length:Int)):=λp hp=>by
  obtain ⟨x,_,rfl⟩:=Qj.mp hp;exact ⟨jaF _ ⋯,jao _ ⋯⟩
 generalize Mi:(cells.map λx=>x % (l.length:Int))=ps at*;have Me:Sta H H NR [] [(xk ps, .ref ON),(frD e,w9),(r.ins A,w7),(r.shape,T),(zo l, .ref G)]:=S12'.freeze.dat ‹()›;clear S12' LW LX S9 O J;left;refine sW (C:=A.cls r) Me .mm (LJ r).cl (MS r) (by decide+kernel) ?_;left;rename_i p13 RG RD Mo;refine ff (r:=r) (l:=l) (e:=e) Mo.freeze .mm .mm .mm ru OH t (ez.mono nofun) e0 λOy H14 e14 S14'=>?_;have Nm:Sta H H H14 [] [(ym (zg (zE r l) e),Oy),(xk ps, .ref ON),(frD e,w9),(r.ins A,w7),(r.shape,T),(zo l, .ref G)]:=S14'.dat ‹()›;clear S14' Mo Me;left;rename_i RT RF e15 Nl p16 H16 e16 NQ;refine IP NQ.freeze.freeze (.cons .mm (.cons .mm .nil)) (by show 2<=1000;decide) λp17 H17 e17 NP=>?_;clear NQ Nl Nm;left;refine YM (x:=zo l) NP (by right) rfl λw18 NO=>?_;left;refine YM (x:=xk ps) NO (by right) rfl λw19 Ou=>?_;left;have dd:33+3*(40+4*Xh 33 r+33)+2<=6800:=⋯
 have zl:=(Jw (ps:=ps) ru t e0 ed PF).mono dd;have zp:∀q∈zg (zE r l) e,SzQ 4499 q:=λq U=>(ru.part t ed e0 q U).2.mono ⋯;refine ID (r:=r) (l:=l) (e:=e) (ps:=ps) Ou .mm .mm .mm .mm ⟨ru,OH,t,e0,ez,gp,zl,zp⟩ λOx H20 e20 OM=>?_;clear Ou NO NP;left;refine nV H H ⋯ ⋯ λJ O=>?_;refine WX O (λj=>if !decide ((j:Int)∈ps) then some (.int (j:Int)) else none) OM (λ_ _=>trivial) (by rw [yR];omega) (λi x v B' G' Kd Kn I t1 S hd hn C ex s0 H0=>?_) λNx H21 e21 NN=>?_
 ·obtain ⟨Y,rfl⟩:=Xu I;cases S.int1;have S:=S.drop1;refine zH ⟨rfl,?_⟩;left;refine Hs (ns:=ps) S .mm ?_;rw [show (0:Int)+(i:Int)=(i:Int) from Int.zero_add _];refine ⟨_,rfl,?_⟩
  by_cases z:(i:Int)∈ps
  ·rw [QZ z];exact hn (by rw [QZ z];rfl) S
  ·rw [Tc z];refine Eq.mpr (QH nofun) ?_;left;exact hd (by rw [Tc z];rfl) S Has.int
 rw [yR,lU (λ(j:Nat)=>!decide ((j:Int)∈ps)) (λ(j:Nat)=>PyData.int (j:Int))] at NN;have NN:Sta H H H21 ((Nx,(zZ l.length ps).map λ(j:Nat)=>PyData.int (j:Int))::_) _:=NN;have hv:=NN.hp (x:= .list (cD r l e ps)) (v:=Ox) .mm;left;rename_i p22 H22 e22 Ot;have ly:(PyData.list [zo l,xk ps]).canLay0=true:=by rw [PyData.canLay0,PyData.canLayAll0,PyData.canLayAll0,PyData.canLayAll0,vY,Cz];rfl
 have sh:SeqAt.shaped (.list [zo l,xk ps])=true:=dZ (n:=4) ly (by
  have h1:(zo l).depth<=3:=by unfold zo;rw [PyData.depth];exact Nat.succ_le_succ (rz Dm l)
  have h2:=Dk ps;rw [PyData.depth,PyData.depthAll,PyData.depthAll,PyData.depthAll]
  omega) nofun
 refine Ht (x:= .list [zo l,xk ps]) (y:= .list [zo l,xk ps]) (Ot.hpC (by right)) (Ot.hpC (by right)) sh sh ?_;rw [SeqAt.eqv_refl _ ly];clear sh ly;have RE:Sta H H H22 [(Nx,(zZ l.length ps).map λ(j:Nat)=>PyData.int (j:Int))] [(.list (cD r l e ps),Ox),(ym (zg (zE r l) e),Oy),(r.shape,T),(zo l, .ref G)]:=Ot.weak (by walk_at "sub") ‹()›;have S24:=RE.freeze;clear RE Ot NN OM;left;have g:=(ru.gf t).ful;have pl:=g.std.len (e:=e);have lt:∀i∈zZ l.length ps,i<l.length:=λi Y=>jbm.mp (QU.mp Y).1;have sl:(zZ l.length ps).length<=6:=QW (jag ..) (by rw [jaN];omega);have e0l:=qS (ps:=ps) ru t e0;obtain ⟨D,hV⟩:∃D:List Rat,D=zg (zE r (zP (0,0,0) (zZ l.length ps) l)) (bj r l e ps):=⟨_,rfl⟩;have sd:cD r l e ps=sj ((zZ l.length ps).map λ(j:Nat)=>PyData.int (j:Int)) (D.map frD):=by rw [hV];rfl
 have vl:zZ l.length ps≠[]->D.length=(zZ l.length ps).length:=λne=>by rw [hV,(ru.gf (t.stay ne)).ful.std.len,yV]
 have sm:decide (c / 6 % 2=1)=false->∀(i j:Nat) (q:Rat),(zZ l.length ps)[i]? =some j->D[i]? =some q->(zg (zE r l) e)[j]? =some q:=λgf i j q X U=>by
  have ne:zZ l.length ps≠[]:=λz=>by rw [z] at X;cases X
  have h1:=AA (ng gf) ru.pok (ru.gf t) (λi=>!decide ((i:Int)∈ps)) (ru.gf (t.stay ne)) e0;have h2:D=zP 0 (zZ l.length ps) (zg (zE r l) e):=hV.trans h1;rw [h2] at U;unfold zP at U;rw [Qh,X] at U;have jl:=lt j (Qc X);rw [<-pl] at jl;rw [<-U,Option.map_some,Qk,Qb jl];rfl
 have fl:(cD r l e ps).length=((zZ l.length ps).map λ(j:Nat)=>PyData.int (j:Int)).length:=by
  rw [sd,yL,Qa,Qa]
  by_cases ne:zZ l.length ps=[]
  ·rw [ne];exact Nat.zero_min _
  ·rw [vl ne,TM]
 refine qV (congrArg _ fl) ?_;left;rename_i OW H25 e25 S25;refine Vl (xs:=(zZ l.length ps).map λ(j:Nat)=>PyData.int (j:Int)) (ys:=cD r l e ps) S25 .mm .mm λJ O=>?_;refine Zp O (λi σ cs ds=>(∃RJ RI,σ=[some (.ref a),some (.int c),some (.int (l.length:Nat)),some (.bl (decide (c / 6 % 2=1))),some (.ref G),some T,some w7,some w9,some (.ref ON),some Oy,some (.ref p17),some Ox,some (.ref Nx),some (.ref OW),RJ,RI,none])/\cs=[(OW,(D.take i).map frD)]/\ds=[(.list ((zZ l.length ps).map λ(j:Nat)=>PyData.int (j:Int)), .ref Nx),(.list (cD r l e ps),Ox),(ym (zg (zE r l) e),Oy),(r.shape,T),(zo l, .ref G)]) S25 ⟨⟨none,none,rfl⟩,rfl,rfl⟩ (λi σ cs ds h=>?_) ?_ ?_
 ·obtain ⟨_,rfl,rfl⟩:=h;exact ⟨.mem (by right),λ_ _ h=>h.tail, .mem (by right)⟩
 ·rintro i x u σ H3 cs ds I ⟨⟨RJ,RI,rfl⟩,rfl,rfl⟩ M
  obtain ⟨z1,z2,h1,h2,rfl⟩:=Zt I;obtain ⟨j,X,rfl⟩:=zL h1;rw [sd] at h2;obtain ⟨y1,y2,h3,h4,rfl⟩:=Zt h2;rw [h1] at h3;cases h3;obtain ⟨q,U,rfl⟩:=zL h4;refine xG (xF M .mm λu1 u2 S4'=>?_);have S4:Sta H H H3 [(OW,(D.take i).map frD)] [(.int (j:Int),u1),(.tuple [.int (j:Int),frD q],u2),(.list ((zZ l.length ps).map λ(j:Nat)=>PyData.int (j:Int)), .ref Nx),(.list (cD r l e ps),Ox),(ym (zg (zE r l) e),Oy),(r.shape,T),(zo l, .ref G)]:=S4'.dat ‹()›;cases S4.int1;have hv:=S4.hp (x:= .tuple [.int (j:Int),frD q]) (v:=u2) .mm;clear S4' M;left;refine qV rfl ?_;left;refine qV rfl ?_;left;rename_i u3 S5;have i6:=(Qd.mp X).1;refine yU (y:=frD q) S5 .mm (by rw [Qa,TR];omega) λH6 m=>?_;rw [show (D.take i).map frD++[frD q]=(D.take (i+1)).map frD by rw [Tr,U,QM];rfl] at m;have S6:Sta H H H6 [(OW,(D.take (i+1)).map frD)] [(.tuple [.int (j:Int),frD q],u2),(.list ((zZ l.length ps).map λ(j:Nat)=>PyData.int (j:Int)), .ref Nx),(.list (cD r l e ps),Ox),(ym (zg (zE r l) e),Oy),(r.shape,T),(zo l, .ref G)]:=m.dat ‹()›;clear m S5 S4;left;refine CH (λng'=>?_) (λ_=>?_)
  ·left;rename_i u4 Z;have hp:=sm (Tc ng') i j q X U;refine cu (xs:=(zg (zE r l) e).map frD) (x:=frD q) Z .mm (yl (by rw [Qh,hp];rfl)) λu5 L=>?_;left;refine Ht (x:=frD q) (y:=frD q) (L.hp .mm) (L.hp .mm) (Vi _) (Vi _) ?_;rw [SeqAt.eqv_refl _ (HA _)];left;exact YD (L.dat ‹()›) ⟨⟨_,_,rfl⟩,rfl,rfl⟩
  ·left;exact YD (S6.dat ‹()›) ⟨⟨_,_,rfl⟩,rfl,rfl⟩
 ·rintro σ H3 cs ds ⟨⟨RJ,RI,rfl⟩,rfl,rfl⟩ M
  rw [yL,fl,TM,Qa] at M;left;refine Yy (λc0=>?_) (λc0=>?_)
  ·left;exact q _
  have ne:zZ l.length ps≠[]:=λz=>c0 (by rw [z];rfl);rw [<-vl ne,QQ (Qu _)] at M;have okl:=t.stay ne;have sb:=UJ 0 (zg (zE r l) e) ps;rw [pl] at sb;left;refine zM (xs:=(zZ l.length ps).map λ(j:Nat)=>PyData.int (j:Int)) M .mm λJ O=>?_;refine ye O (λj=>frD ((zg (zE r l) e).getD ((zZ l.length ps).getD j 0) 0)) (ys:=(zP 0 (zZ l.length ps) (zg (zE r l) e)).map frD) (by unfold zP;rw [Qa,Qm];exact zm (λi:Nat=>frD ((zg (zE r l) e).getD i 0)) 0 (zZ l.length ps)) M (λj x v=>λI t1 S hd=>?_) λD5 H5 e5 S5=>?_
  ·obtain ⟨i,Y,rfl⟩:=zL I;cases S.int1;have il:=lt i (Qc Y);rw [<-pl] at il;have hc:=Qb il;refine zH ⟨rfl,?_⟩;left;refine cu (xs:=(zg (zE r l) e).map frD) (x:=frD (zg (zE r l) e)[i]) S .mm (yl (by rw [Qh,hc];rfl)) λw2 S2=>?_;refine hd S2 ?_;rw [zF Y,zF hc];exact .mem (by right)
  have S6:=S5.freeze;clear S5 M;left;refine Zf (zP 0 (zZ l.length ps) (zg (zE r l) e)) S6 (.cons .mm .nil) ⟨⟨_,λp hp=>zp p (sb.subset hp),Qu _⟩,by rw [yV];omega⟩ λw7' H7 e7 Z=>?_;clear S6;have L:Sta H H H7 [(OW,D.map frD)] [(frD (bj r l e ps),w7'),(.list ((zZ l.length ps).map λ(j:Nat)=>PyData.int (j:Int)), .ref Nx),(r.shape,T),(zo l, .ref G)]:=Z.dat ‹()›;clear Z;left;refine zM (xs:=(zZ l.length ps).map λ(j:Nat)=>PyData.int (j:Int)) L .mm λJ O=>?_;refine ye O (λj=>zG (l.getD ((zZ l.length ps).getD j 0) (0,0,0))) (ys:=(zP (0,0,0) (zZ l.length ps) l).map zG) (by unfold zP;rw [Qa,Qm];exact zm (λi:Nat=>zG (l.getD i (0,0,0))) 0 (zZ l.length ps)) L (λj x v=>λI t1 S hd=>?_) λD9 H9 e9 S9=>?_
  ·obtain ⟨i,Y,rfl⟩:=zL I;cases S.int1;have il:=lt i (Qc Y);have hc:=Qb il;refine zH ⟨rfl,?_⟩;left;refine xc (xs:=l.map zG) (x:=zG l[i]) S .mm (yl (by rw [Qh,hc];rfl)) λw2 S2=>?_;refine hd S2 ?_;rw [zF Y,zF hc];exact .mem (by right)
  have LX:=S9.freeze;clear S9 L;left;rename_i p11 Ov NM LW;refine Bk (r:=r) (l:=zP (0,0,0) (zZ l.length ps) l) (e:=bj r l e ps) LW .mm .mm .mm (by rw [<-hV];exact .mem (by right)) ru Nu okl zl e0l (λp hp=>(ru.part okl (Cw ru t e0 ed PF) e0l p hp).2.mono ⋯) λNR PH Me=>?_;left;exact q _
end
end
def all_mk {l:PySem.W.OpenLaw} {w:World} {K:Frg} {h:Heap} {mg:Str->Option Value} {fa:Addr} (X:K.In h) (G:h.Ns mainGlobals mg) (hfa:mg "law"=some (.ref fa))
 {od65 an65:Option Addr} {sl65:Array (Option Value)} {oc65 kV65 dc65 pm65 cd65 ct65:Value}
 (D1:DkT K mg "check_claims" Xe f1 d1 pam)
 (D2:DkT K mg "those_at" aF f2 d2 pas)
 (D3:DkT K mg "places_of_rank" ZT f3 d3 paO)
 (D4:DkT K mg "places_of_group" Zx f4 d4 pag)
 (D5:DkT K mg "as_one_claim" Xf f5 d5 pag)
 (D6:DkT K mg "plus" Bb f6 d6 pab)
 (D7:DkT K mg "minus" qw f7 d7 pab)
 (D8:DkT K mg "times" qv f8 d8 pab)
 (D9:DkT K mg "over" Bc f9 d9 pab)
 (D10:DkT K mg "before" kQ f10 d10 pab)
 (D11:DkT K mg "is_whole" aL f11 d11 ["number"])
 (ON:DkT K mg "lowest" kK f12 d12 paI)
 (D13:DkT K mg "greatest_divisor" Zk f13 d13 pab)
 (D14:DkT K mg "staying" eR f14 d14 paD)
 (D15:DkT K mg "check_places" Xd f15 d15 ["places","count"])
 (D16:DkT K mg "total" qu f16 d16 ["numbers"])
 (D17:DkT K mg "thinned" eO f17 d17 ["corners"])
 (D18:DkT K mg "parts_at" aG f18 d18 ["path","purse"])
 (D19:DkT K mg "turned" kD f19 d19 ["path"])
 (D20:DkT K mg "scaled" kG f20 d20 paT)
 (Nx:DkT K mg "behind" kP f21 d21 paM)
 (D22:DkT K mg "is_straight" XZ f22 d22 paF)
 (D23:DkT K mg "gap" IA f23 d23 pab)
 (D24:DkT K mg "parts_between" Yn f24 d24 paS)
 (D25:DkT K mg "portion_reached" Zw f25 d25 pav)
 (D26:DkT K mg "amount_at" Ub f26 d26 pau)
 (D27:DkT K mg "plus_each" VU f27 d27 pah)
 (D28:DkT K mg "less_each" VV f28 d28 pah)
 (D29:DkT K mg "last_reached" Xc f29 d29 paP)
 (D30:DkT K mg "purses_reaching" Zv f30 d30 paQ)
 (D31:DkT K mg "parts_within" Xb f31 d31 paR)
 (D32:DkT K mg "merged" kI f32 d32 pah)
 (D33:DkT K mg "within" kC f33 d33 paV)
 (D34:DkT K mg "course" kO f34 d34 pax)
 (D35:DkT K mg "shares" kF f35 d35 pam)
 (D36:DkT K mg "evenly" kN f36 d36 pam)
 (D37:DkT K mg "losses" kL f37 d37 pam)
 (D38:DkT K mg "ranks" kH f38 d38 paU)
 (D39:DkT K mg "groups" df f39 d39 paB)
 (D40:DkT K mg "upto" Ba f40 d40 paA)
 (D41:DkT K mg "nothing" eS f41 d41 ["count"])
 (D42:DkT K mg "whole_corner" YZ f42 d42 ["parts"])
 (D43:DkT K mg "spread" kE f43 d43 pan)
 (D44:DkT K mg "spread_parts" Xa f44 d44 paK)
 (D45:DkT K mg "_law_cell_at" XY f45 d45 pay)
 (D46:DkT K mg "_law_mixed" Ua f46 d46 paL)
 (D47:DkT K mg "_law_divisor" XX f47 d47 pao)
 (D48:DkT K mg "_law_lowest" WA f48 d48 paC)
 (D49:DkT K mg "_law_whole" VW f49 d49 paq)
 (D50:DkT K mg "_law_is_fraction" Zy f50 d50 paq)
 (D51:DkT K mg "_law_labels" WB f51 d51 ["_law_number"])
 (D52:DkT K mg "_law_claims" WC f52 d52 pak)
 (D53:DkT K mg "_law_even" aK f53 d53 paH)
 (D54:DkT K mg "_law_fits" aJ f54 d54 paa)
 (D55:DkT K mg "_law_upto_fit" ZO f55 d55 paa)
 (D56:DkT K mg "_law_ranks_fit" Zj f56 d56 paa)
 (D57:DkT K mg "_law_groups_fit" xW f57 d57 paa)
 (D58:DkT K mg "_law_right" VY f58 d58 paf)
 (D59:DkT K mg "_law_rule" aH f59 d59 paz)
 (D60:DkT K mg "_law_portion" XW f60 d60 paG)
 (D61:DkT K mg "_law_leaf" aI f61 d61 paG)
 (D62:DkT K mg "_law_shape" VX f62 d62 paJ)
 (D63:DkT K mg "_law_purse" VZ f63 d63 paE)
 (D64:DkT K mg "_law_sum" eU f64 d64 ["_law_parts"])
 (a65:PySem.W.nsIn K mainGlobals "law"=some (some (.ref f65))) (l65:K.lookup f65=some ⟨oc65,od65, .func (PySem.W.fnOf "law" "law" (ZX kM) (Zq kM) (zk kM) .none kV65 dc65 pm65 an65 cd65 ct65),sl65⟩) (c65:PySem.W.codeIn K cd65 "law"=true) (k65:PySem.W.keepIn K (.ref f65)=true)
 {M Vp Vu Vq Vr bF bE Vt jE WW Z yH yK yy XA XF XC XD Wq Wo XE WV:Addr} {gu oK rB rC oM bx bC bz bA cK cJ bB gq:FuncData} {t_MOST:Tok} (Ks:PySem.W.nsIn K mainGlobals "Rule"=some (some (.ref M))) (yA:PySem.W.findCls K (.ref M) (.type "type") "__init__"=some (.val (.ref WW)))
 (Er:PySem.W.nsIn K mainGlobals "Shares"=some (some (.ref Vp)))
 (Ew:PySem.W.nsIn K mainGlobals "Evenly"=some (some (.ref Vu)))
 (Es:PySem.W.nsIn K mainGlobals "Losses"=some (some (.ref Vq)))
 (Et:PySem.W.nsIn K mainGlobals "Halves"=some (some (.ref Vr)))
 (Ig:PySem.W.nsIn K mainGlobals "Other"=some (some (.ref bF)))
 (Ie:PySem.W.nsIn K mainGlobals "Ranks"=some (some (.ref bE)))
 (Eu:PySem.W.nsIn K mainGlobals "Groups"=some (some (.ref Vt)))
 (Kr:PySem.W.nsIn K mainGlobals "Upto"=some (some (.ref jE)))
 (my:CkT K Vp XA M Z yH yK yy)
 (mE:CkT K Vu XF M Z yH yK yy)
 (mB:CkT K Vq XC M Z yH yK yy)
 (mC:CkT K Vr XD M Z yH yK yy)
 (rZ:CkT K bF Wq M Z yH yK yy)
 (rY:CkT K bE Wo M Z yH yK yy)
 (mD:CkT K Vt XE M Z yH yK yy)
 (DJ:CkT K jE WV M Z yH yK yy)
 (gH:FkT K "__init__" "Rule.__init__" Yp WW gu pae)
 (pB:FkT K "shape" "Rule.shape" WD Z oK pac)
 (rW:FkT K "text" "Rule.text" eV yH rB pac)
 (rX:FkT K "path" "Rule.path" Uc yK rC paN)
 (pC:FkT K "parts" "Rule.parts" WE yy oM pai)
 (bQ:FkT K "__init__" "Shares.__init__" Zz XA bx pac)
 (bV:FkT K "__init__" "Evenly.__init__" ZE XF bC pac)
 (bR:FkT K "__init__" "Losses.__init__" ZA XC bz pac)
 (bS:FkT K "__init__" "Halves.__init__" ZC XD bA pac)
 (cQ:FkT K "__init__" "Other.__init__" ZV Wq cK pal)
 (cP:FkT K "__init__" "Ranks.__init__" ZU Wo cJ pal)
 (bU:FkT K "__init__" "Groups.__init__" ZD XE bB paw)
 (gG:FkT K "__init__" "Upto.__init__" Yo WV gq paj)
 (xm:PySem.W.isFn K (.ref Z)=true) (xI:PySem.W.isFn K (.ref yH)=true) (xJ:PySem.W.isFn K (.ref yK)=true) (xn:PySem.W.isFn K (.ref yy)=true) (x_MOST:PySem.W.nsIn K mainGlobals "MOST"=some (some (.int 8 t_MOST)))
 (Wv:PySem.W.specialIn K (.ref M) "__getattribute__"=some (some (.builtin "type.__getattribute__"))) (WH:PySem.W.readsIn K M (.type "type")=true) (Nj:PySem.W.specialIn K (.builtin "object.__class__") "__get__"=some (some (.builtin "getset_descriptor.__get__"))) (NB:PySem.W.takesIn K (.builtin "object.__class__")=some true) (B:Bl mg) (B2:Bl3 mg):
 ∃fd:FuncData,(∀(s:Shared) (v:Value),BindsTo s fd ⟨[v],[]⟩ [("_law_script",v)])/\∀base:Heap,K.In base->base.Ns mainGlobals mg->FnOk l.prog w K mg base CX0 28 fa fd ["_law_script"] (EH K):=by
 have e:=hfa.symm.trans (jaG X G a65);cases e;obtain ⟨VL,iG,iQ⟩:=D1;obtain ⟨jJ,vS,wN⟩:=D2;obtain ⟨Wr,cH,cL⟩:=D3;obtain ⟨XM,aY,bI⟩:=D4;obtain ⟨VM,iH,iR⟩:=D5;obtain ⟨HV,KH,KU⟩:=D6;obtain ⟨DO,Js,JU⟩:=D7;obtain ⟨DN,Jq,JS⟩:=D8;obtain ⟨HW,KI,KW⟩:=D9;obtain ⟨uF,FQ,GR⟩:=D10;obtain ⟨jP,vW,wU⟩:=D11;obtain ⟨uA,FK,GL⟩:=ON;obtain ⟨YV,UN,UT⟩:=D13;obtain ⟨pL,Cp,DD⟩:=D14;obtain ⟨VJ,iF,iP⟩:=D15;obtain ⟨DM,Jp,JR⟩:=D16;obtain ⟨pK,Co,DB⟩:=D17;obtain ⟨jK,vT,wO⟩:=D18;obtain ⟨uv,FF,GG⟩:=D19;obtain ⟨uy,FI,GJ⟩:=D20;obtain ⟨uE,FP,GQ⟩:=Nx;obtain ⟨ae,lJ,mr⟩:=D22;obtain ⟨KY,Lr,Lx⟩:=D23;obtain ⟨Vc,fK,gw⟩:=D24;obtain ⟨XJ,aW,bH⟩:=D25;obtain ⟨gU,qR,rQ⟩:=D26;obtain ⟨gI,qK,rH⟩:=D27;obtain ⟨gJ,qL,rJ⟩:=D28;obtain ⟨VI,iE,iO⟩:=D29;obtain ⟨XI,aV,bG⟩:=D30;obtain ⟨VH,iC,iM⟩:=D31;obtain ⟨uz,FJ,GK⟩:=D32;obtain ⟨uu,FE,GD⟩:=D33;obtain ⟨uD,tE,ui⟩:=D34;obtain ⟨ux,FH,GI⟩:=D35;obtain ⟨uC,FO,GP⟩:=D36;obtain ⟨uB,FL,GN⟩:=D37;obtain ⟨Kb,Jr,JT⟩:=D38;obtain ⟨Hb,FN,GO⟩:=D39;obtain ⟨HU,KG,KS⟩:=D40;obtain ⟨pM,Cq,DE⟩:=D41;obtain ⟨VF,iA,iK⟩:=D42;obtain ⟨uw,FG,GH⟩:=D43;obtain ⟨VG,iB,iL⟩:=D44;obtain ⟨aa,lH,mj⟩:=D45;obtain ⟨gT,qQ,rO⟩:=D46;obtain ⟨UZ,lG,mi⟩:=D47;obtain ⟨cz,ox,oZ⟩:=D48;obtain ⟨gK,qM,rK⟩:=D49;obtain ⟨XN,aZ,bJ⟩:=D50;obtain ⟨cA,oy,pf⟩:=D51;obtain ⟨cB,oz,ph⟩:=D52;obtain ⟨jO,vV,wR⟩:=D53;obtain ⟨jN,js,jH⟩:=D54;obtain ⟨iT,iD,iN⟩:=D55;obtain ⟨gQ,fL,gA⟩:=D56;obtain ⟨cR,cI,cM⟩:=D57;obtain ⟨gP,qO,rM⟩:=D58;obtain ⟨jL,jr,jG⟩:=D59;obtain ⟨UY,lF,mh⟩:=D60;obtain ⟨jM,vU,wQ⟩:=D61;obtain ⟨gM,qN,rL⟩:=D62;obtain ⟨gR,qP,rN⟩:=D63;obtain ⟨pO,Cr,DF⟩:=D64;have Ly:=oG (st:=kM) l65 c65 k65;refine ⟨PySem.W.fnOf "law" "law" (ZX kM) (Zq kM) (zk kM) .none kV65 dc65 pm65 an65 cd65 ct65,λs v=> .of_eq rfl,λbase XB GB=>?_⟩;obtain ⟨gY,yC,yx⟩:=gH;obtain ⟨ZS,xq,xo⟩:=pB;obtain ⟨Kc,JV,xK⟩:=rW;obtain ⟨gX,gC,xM⟩:=rX;obtain ⟨Vd,YU,xp⟩:=pC;obtain ⟨bW,bK,wa⟩:=bQ;obtain ⟨cb,bO,wj⟩:=bV;obtain ⟨bX,bL,wb⟩:=bR;obtain ⟨bY,bM,we⟩:=bS;obtain ⟨cU,cO,Ac⟩:=cQ;obtain ⟨cS,cN,Ab⟩:=cP;obtain ⟨bZ,bN,wg⟩:=bU;obtain ⟨gW,gB,CF⟩:=gG;have Ya:=jaG XB GB Ks;have g_MOST:=jaG XB GB x_MOST;have tS:=jaG XB GB Er;have pF:=my.MK;have Kt:=my.ok xm xo xI xK Nj NB;have Ky:=my.mp xJ xM xn xp;have tW:=jaG XB GB Ew;have pJ:=mE.MK;have Kx:=mE.ok xm xo xI xK Nj NB;have KD:=mE.mp xJ xM xn xp;have tT:=jaG XB GB Es;have pG:=mB.MK;have Ku:=mB.ok xm xo xI xK Nj NB;have Kz:=mB.mp xJ xM xn xp;have tU:=jaG XB GB Et;have pH:=mC.MK;have Kv:=mC.ok xm xo xI xK Nj NB;have KA:=mC.mp xJ xM xn xp;have CT:=jaG XB GB Ig;have uq:=rZ.MK;have Ld:=rZ.ok xm xo xI xK Nj NB;have Lg:=rZ.mp xJ xM xn xp;have CS:=jaG XB GB Ie;have uo:=rY.MK;have Lc:=rY.ok xm xo xI xK Nj NB;have Le:=rY.mp xJ xM xn xp;have tV:=jaG XB GB Eu;have pI:=mD.MK;have Kw:=mD.ok xm xo xI xK Nj NB;have KC:=mD.mp xJ xM xn xp;have HE:=jaG XB GB Kr;have DK:=DJ.MK;have Lp:=DJ.ok xm xo xI xK Nj NB;have Lq:=DJ.mp xJ xM xn xp;have N:∀r:Rl,ROk K Z yH M ((⟨Vp,Vu,Vq,Vr,bF,bE,Vt,jE⟩:RAd).cls r):=λr=>by cases r<;>assumption
 have MS:∀r:Rl,Meth K ((⟨Vp,Vu,Vq,Vr,bF,bE,Vt,jE⟩:RAd).cls r) "path" yK/\Meth K ((⟨Vp,Vu,Vq,Vr,bF,bE,Vt,jE⟩:RAd).cls r) "parts" yy:=λr=>by cases r<;>assumption
 generalize NL:(⟨Vp,Vu,Vq,Vr,bF,bE,Vt,jE⟩:RAd)=A at N MS;have g:=Fq (P:=l.prog) (w:=w) (mg:=mg) (base:=base) (fS:=Z) (fT:=yH) (Ru:=M) gY;have m:=Fo (P:=l.prog) (w:=w) (mg:=mg) (base:=base) N ZS;have Gj:=ik (A:=A) Ya Wv WH yA g yx yC (N .shares) bW
 have FR:VA l.prog w K mg base "Shares" (A.cls .shares) pac (xj (A.cls .shares) (α:=Unit) (λ_=>[]) (λ_=>Rl.shares.shape)):=by
  subst NL;exact ⟨_,_,pF,Gj,bK,tS⟩
 have Gp:=iw (A:=A) Ya Wv WH yA g yx yC (N .evenly) cb
 have FW:VA l.prog w K mg base "Evenly" (A.cls .evenly) pac (xj (A.cls .evenly) (α:=Unit) (λ_=>[]) (λ_=>Rl.evenly.shape)):=by
  subst NL;exact ⟨_,_,pJ,Gp,bO,tW⟩
 have Gk:=iq (A:=A) Ya Wv WH yA g yx yC (N .losses) bX
 have FT:VA l.prog w K mg base "Losses" (A.cls .losses) pac (xj (A.cls .losses) (α:=Unit) (λ_=>[]) (λ_=>Rl.losses.shape)):=by
  subst NL;exact ⟨_,_,pG,Gk,bL,tT⟩
 have Gm:=ir (A:=A) Ya Wv WH yA g yx yC (N .halves) bY
 have FU:VA l.prog w K mg base "Halves" (A.cls .halves) pac (xj (A.cls .halves) (α:=Unit) (λ_=>[]) (λ_=>Rl.halves.shape)):=by
  subst NL;exact ⟨_,_,pH,Gm,bM,tU⟩
 have JF:=lr (A:=A) Ya Wv WH yA g yx yC m xq N cU
 have Ju:VA l.prog w K mg base "Other" (A.cls (.other .shares)) pal (xj (A.cls (.other .shares)) (α:=Rl) (λr=>[r.ins A]) (λr=>(Rl.other r).shape)):=by
  subst NL;exact ⟨_,_,uq,JF,cO,CT⟩
 have JE:=lj (A:=A) Ya Wv WH yA g yx yC m xq N cS
 have Jt:VA l.prog w K mg base "Ranks" (A.cls (.ranks .shares)) pal (xj (A.cls (.ranks .shares)) (α:=Rl) (λr=>[r.ins A]) (λr=>(Rl.ranks r).shape)):=by
  subst NL;exact ⟨_,_,uo,JE,cN,CS⟩
 have Gn:=iu (A:=A) Ya Wv WH yA g yx yC m xq N bZ
 have FV:VA l.prog w K mg base "Groups" (A.cls (.groups .shares .shares)) paw (xj (A.cls (.groups .shares .shares)) (α:=Rl×Rl) (λr=>[r.1.ins A,r.2.ins A]) (λr=>(Rl.groups r.1 r.2).shape)):=by
  subst NL;exact ⟨_,_,pI,Gn,bN,tV⟩
 have KL:=oj (A:=A) Ya Wv WH yA g yx yC m xq N gW
 have KJ:VA l.prog w K mg base "Upto" (A.cls (.upto 0 0 .shares .shares)) paj (xj (A.cls (.upto 0 0 .shares .shares)) (α:=(Int×Int)×Rl×Rl) (λr=>[.tuple [.int r.1.1, .int r.1.2],r.2.1.ins A,r.2.2.ins A]) (λr=>(Rl.upto r.1.1 r.1.2 r.2.1 r.2.2).shape)):=by
  subst NL;exact ⟨_,_,DK,KL,gB,HE⟩
 have cm {f:Addr} {fd:FuncData} {k:Nat} {x:Str} {st:Stmt} {ps:List Str} {sp:Sp} (F:Fun K x x st f fd) (a:FnOk l.prog w K mg base CX0 k f fd ps sp) (hm:mg x=some (.ref f)) (b:xi K fd ps []):Cal l.prog w K mg base CX0 k x ps sp:=US F a hm b;have C_gcd:=cm YV (ok_gcd YV) UN UT;have YW:=cm uA (BV B C_gcd uA) FK GL;have cC:=cm HV (Jf YW HV) KH KU;have Xk:=cm DO (Fx YW DO) Js JU;have mG:=cm DN (Fm YW DN) Jq JS;have HZ:=cm HW (Jg YW HW) KI KW;have dF:=cm uF (Cd uF) FQ GR;have O:=cm VI (Jh B dF VI) iE iO;have q:=cm XJ (vE Xk HZ XJ) aW bH;have y:=cm gU (Ce cC Xk mG gU) qR rQ;have L:=cm Vc (vL B q y Vc) fK gw;have u:=cm jK (vG B O L jK) vT wO;have Lb:=cm KY (ok_gap KY) Lr Lx;have I:=cm ae (qH B Lb ae) lJ mr;have pQ:=cm pK (vB B I pK) Co DB;have C_pe:=cm gI (oh B cC gI) qK rH;have C_le:=cm gJ (oi B Xk gJ) qL rJ;have dC:=cm uv (BI B Xk C_le uv) FF GG;have uH:=cm uy (BM B mG uy) FI GJ;have Vx:=cm uE (Cc B cC C_pe pQ uE) FP GQ;have C_check:=cm VL (FA B g_MOST VL) iG iQ;have C_wc:=cm VF (ok_wc B VF) iA iK;have XR:=cm pM (vH C_wc pM) Cq DE;have uG:=cm ux (BK B XR C_wc ux) FH GI;have dE:=cm uC (Ca B B2 C_wc uC) FO GP;have uJ:=cm uB (BW dE dC uB) FL GN;have HY:=cm HU (Jd Vx uH Xk HU) KG KS;have C_reach:=cm XI (Fs B O q y XI) aV bG;have C_pwith:=cm VH (vD B u VH) iC iM;have uI:=cm uz (BU B dF uz) FJ GK;have dB:=cm uu (BH B uI C_reach C_pwith uu) FE GD;have D:=cm jJ (Fn jJ) vS wN;have C_plr:=cm Wr (BQ B Wr) cH cL;have C_plg:=cm XM (vF B XM) aY bI;have C_one:=cm VM (ok_one B VM) iH iR;have C_sprv:=cm VG (vC B VG) iB iL;have C_spr:=cm uw (BJ C_sprv uw) FG GH;have Wi:=cm uD (vK (t:=33) B B2 uG dE uJ HY dC XR C_plr C_plg D C_one C_spr Vx dB Kb Jr JT Hb FN GO uD tE ui 7) tE ui;have F_path:=Fv (A:=A) (t:=33) (n:=7) N C_check Wi gX;have z:=BS (A:=A) (t:=33) (n:=7) N (λr=>(MS r).1) F_path gC u Vd;have jQ:=cm jP (qI B jP) vW wU;have C_pl0:=cm VJ (ok_pl0 jQ VJ) iF iP;have DR:=cm DM (Fl cC DM) Jp JR;have C_stay:=cm pL (Je (A:=A) (t:=33) (n:=7) B N (λr=>(MS r).2) C_pl0 DR D z YU pL) Cp DD;have T:=cm aa (Jk B aa) lH mj;have C_mix:=cm gT (Fw gT) qQ rO;have J:=cm UZ (vJ B UZ) lG mi;have C_low:=cm cz (BY J cz) ox oZ;have C:=cm gK (Fj B gK) qM rK;have C_frac:=cm XN (Ji B C J XN) aZ bJ;have U:=cm cA (BZ cA) oy pf;have Y:=cm cB (Cb B T C_mix U cB) oz ph;have C_even:=cm jO (Jj B jO) vV wR;have C_fits:=cm jN (Fz B B2 C_even iT iD iN gQ fL gA cR cI cM jN js jH 12) js jH;have C_right:=cm gP (BN (t:=33) B C_frac J C_fits gP) qO rM;have C_rule:=cm jL (Fp FR FW FT FU Ju Jt FV KJ jL jr jG 7) jr jG;have C_por:=cm UY (Ft UY) lF mh;have C_leaf:=cm jM (Fy jM) vU wQ;have C_shape:=cm gM (BL B C_por C_leaf gM) qN rL;have C_purse:=cm gR (BP C_low gR) qP rN;have C_sum:=cm pO (BX C_low pO) Cr DF;exact ok_law (A:=A) B N (λr=>(MS r).2) z YU T Y C_shape C_rule C_purse C_stay C C_sum C_right Ly
def walk {l:PySem.W.OpenLaw} {q:Program} {loose:List Str} {A:(Str->Option Value)->Heap->Prop} {g:World->Heap->Prop} {d:DefRec} {K:Params->Frg} (hn:l.most=some 63) (C:d.params.defaults=[])
 (r:∀(w:World) (h:Heap),g w h->(K w.params).In h)
 (F:∀(w:World) (mg:Str->Option Value) (fa:Addr) (h:Heap),(K w.params).In h->h.Ns mainGlobals mg->mg d.name=some (.ref fa)->
  ∃fd:FuncData,(∀(s:Shared) (u:Value),BindsTo s fd ⟨[u],[]⟩ [("_law_script",u)])/\∀base:Heap,(K w.params).In base->base.Ns mainGlobals mg->FnOk l.prog w (K w.params) mg base CX0 28 fa fd ["_law_script"] (EH (K w.params))):
 PySem.W.WalkO q loose A g l.row.toRowW d [] (λf vs=>PySem.call f vs):=
 L2.Ih (n:=63) (k:=28) (x:="_law_script") (CX:=λ_=>CX0) (sp:=λw=>EH (K w.params)) hn nofun C ⟨rfl,nofun,nofun⟩ r F (λ_ _ a ns m y t=>⟨a,ns,rfl,t,m,y,λ_=>rfl⟩) λ_ _ _ _ _ z=>z
end K
structure PySem.W.Fast:Prop where(tw11294652666942064442 tw11181046155058940005 tw707995489224605275 tw7132413981566526953 tw7566050290812427664 tw6307844675615579705 tw3817282302488948891 tw4634602878064233331 tw2093164894042394118 tw11810379227919629858 tw17360180918597411042 tw17652853647430635432 tw14610207504155670747 tw13621390044391727394 tw1445787946044612429 tw4120186027144375153 tw15880244319781079118 tw5777492351360755638 tw6529029696037657063 tw4808842848333493854 tw721875777647458836 tw15565272058360794794 tw10505398841401186669 tw4926166660304203141 tw13792151896784306611 tw2175178702685045837 tw14797100489374787371 tw9741798540578902928 tw9034451996766865031 tw8171736639287638849 tw6545324955772182491 tw9388583399422077810 tw14235514139522583726 tw2380126314960627511 tw9440724688853287809 tw10144157410105388358 tw7207539029042266432 tw769088056957664328 tw5803951259512016138 tw6694614534146743154 tw16937166043531978895 tw11570360078689192726 tw16895092626683207936 tw9045296850807523252 tw12012304147803802156 tw8389432440498759967 tw16810417000480245601 tw12040336895792605551 tw3045383564122232857 tw2514576021073814588 tw4358100266657389914 tw7508372929945349594 tw12884946803644059543 tw7032386603209848585 tw15687654067647862588 tw6128930816871498775 tw9476839104262623894 tw15672343529582389424 tw13567880298442220086 tw5509156486654550544 tw16734237537682995638 tw18164683573190007951 tw4491526628557703874 tw9325761677147865219 tw11349791796240216294 tw5038460136079631808 tw6741408889889668255 tw10682769088173612105 tw3172940620493154162 tw4237889910850040747 tw11315137309301871554 tw3717314741549792127 tw13634663396473550690 tw18414996968391350357 tw17291220780370488457 tw8168928872164703832 tw16890634343756093023 tw9311016694270462031 tw17328004550654203207 tw11109889947876206518 tw6756213364784123658 tw5630498417709608387 tw7400146617398404960 tw6859852629394432929 tw15598872721696915804 tw3374002198426614240 tw15287581874494197491 tw10011052932535094323 tw15476495289111094010 tw18124265525496469099 tw6195520569727015407 tw1932651338913298807 tw11450279838389678823 tw2450706322446285139 tw477688727167053778 tw6109794647860905460 tw979428889392105838 tw14091015342410877325 tw5871854261149364317 tw11699710921349761867 tw720967764752105452 tw15447288803422455733 tw608465406422973899 tw11259760402758230646 tw16558022377816763060 tw2648791137304748284 tw8923748841957940448 tw13584931706136253622 tw15476238761626838360 tw9660527233522858374 tw15829784105365731955 tw855990391404688519 tw8992068928862549801 tw855345625438772514 tw4620900627628688962 tw18073180405508855993 tw2748279758682887698 tw16746548545546657200 tw11857119356888856636 tw12486761493646388000 tw11179196044447602407 tw13149024048603990028 tw10289126630561577622 tw10600180499708099398 tw3210018471461475133 tw12400962934219097619 tw16045050281904811479 tw15901676258640787573 tw8885945013630233167 tw2715877460352280865 tw9527957362518607630 tw10760594310260737919 tw7374318383271165294 tw9453106776620490152 tw10897849248132558599 tw5361871297083399053 tw3690815062031946512 tw6006919421288366083 tw5084691602834077989 tw7749830382285637532 tw12574316289599576461 tw18398055155805396719 tw3835673109046505600 tw6478079869669092781 tw14686498462015448769 tw10514471520339514764 tw14026599409299344228 tw2720039955384881173 tw9786476124339056881 tw6383484221107457828 tw10136154363017855710 tw5061963861603429070 tw16996318940308824095 tw11007631987615673850 tw2488413872627042153 tw15640639131660014928 tw8605196620099839660 tw16915121150175014413 tw14640186159885339007 tw16278603626029416519 tw10849520971390657982 tw9761802321689212060 tw2804619710480880743 tw11081515223741490419 tw5437516731142233343 tw13728088262566484887 tw6772736472422349005 tw6225029277950929901 tw11313289539451412551 tw2105885385413465304 tw10973457998759630994 tw9027351861441135861 tw10660104941272407975 tw2175378851790571265 tw56340876627278358 tw3608021379814578245 tw6859199941017151153 tw4478194484572790458 tw8899035239004607742 tw7668712438865938389 tw12204409527129037109 tw7251183196247285000 tw17583142856220258052 tw7030161702937274382 tw12783485834535542024 tw14853974687029492181 tw3858541874567926050 tw2615305192621065540 tw2014062221562721873 tw17725854843504247443 tw3285082724622989174 tw3109596509854300337 tw2891217414167183621 tw15542867370010779755 tw14534862737364768117 tw14461744144985269867 tw17568630580834818679 tw947646162370513440 tw17602747866154465975 tw4806465624744673188 tw9576932122605045554 tw12743387814649023195 tw7390979869581936528 tw13107334689152542214 tw13852735917652686801 tw16689148457661977101 tw7112366573289949868 tw2141591288139041632 tw10789009678395557183 tw10831571030699865470 tw2483740606071976963 tw8751470581642156537 tw9894928556063113943 tw18263718894821403556 tw16678084205462454251 tw781157508804460794 tw3632698510048398340 tw11234626103777212240 tw7302329445261373928 tw1904109686548995922 tw1808230373648969046 tw327672365932931966 tw12467189402990915090 tw7917756532970884698 tw15189770903161876459 tw4411796189729780855 tw14387105708463617667 tw3116589534649479248 tw4433152347138427579 tw7792040415044963850 tw4827655861122293034 tw14257912737821890775 tw14295136713126299010 tw8667054825536328989 tw11744027275884534248 tw2281464336882047980 tw1161916655566241704 tw482815487989439865 tw8186404551419654971 tw14964314449611404433 tw5326241353261949382 tw4846595156326923410 tw14242739984754767985 tw8150779232435695735 tw2449447080271290987 tw1707219601834824658 tw5352370486550437926 tw3190155138710066860 tw7890581754763033334 tw7486685558482850673 tw9205433175793074531 tw12309858239871398392 tw15712329307733605904 tw3849406616588045963 tw2559155677109235713 tw11068997305396126345 tw15129537393555635991 tw7159095097833872004 tw11194587842202092902 tw10675986888823887809 tw2672590873129107742 tw4399962312150065868 tw2043886228364641790 tw14708675631502651726 tw12724256753577286999 tw2728780769199168603 tw14010045989594359616 tw14610492674422635746 tw15980259183929382489 tw7136781799300888730 tw5019237679500220681 tw16817305891346901983 tw3981490318799910567 tw18346427717871694436 tw3390554396493279387 tw9934942718417778416 tw120569175146116575 tw18309488206146074945 tw15265638817612136523 tw2701531091928066464 tw8024248064809623036 tw14027535499931479892 tw9628877548738813794 tw13367046468522612216 tw3861742245409306386 tw2869650948469337307 tw13299518283970938 tw8477307660906515264 tw6859701612712175726 tw372621135325945167 tw9582209362595707090 tw7157898815899880512 tw13391515483763316483 tw1219538569671554177 tw3686524464208058786 tw6672620706228007782 tw6726865446719531775 tw508081083440933443 tw3928602409794810610 tw12760803480042262470 tw17517455669982068406 tw2726374131516173845 tw6689598010703461026:True)
open PySem PySem.W PyProof.Rows
set_option maxRecDepth 100000 in
set_option maxHeartbeats 0 in
theorem PySem.Challenge.cw_shortpurse_k31_who_stays_holds : PySem.Challenge.rw_shortpurse_k31_who_stays.Holds := by
 w_on;o_law;k_head;(case hw=>w_witness2)
 k_fill
 refine K.walk (l:=PySem.Challenge.rw_shortpurse_k31_who_stays) rfl rfl (λw h Y=>PySem.W.kIn_of Y) ?F
 case F=>
  intro w mg fa h g G m;refine' K.all_mk g G m ?_ ?_ ?_ ?_ ?_ ?_ ?_ ?_ ?_ ?_ ?_ ?_ ?_ ?_ ?_ ?_ ?_ ?_ ?_ ?_ ?_ ?_ ?_ ?_ ?_ ?_ ?_ ?_ ?_ ?_ ?_ ?_ ?_ ?_ ?_ ?_ ?_ ?_ ?_ ?_ ?_ ?_ ?_ ?_ ?_ ?_ ?_ ?_ ?_ ?_ ?_ ?_ ?_ ?_ ?_ ?_ ?_ ?_ ?_ ?_ ?_ ?_ ?_ ?_ ?_ ?_ ?_ ?_ ?_ ?_ ?_ ?_ ?_ ?_ ?_ ?_ ?_ ?_ ?_ ?_ ?_ ?_ ?_ ?_ ?_ ?_ ?_ ?_ ?_ ?_ ?_ ?_ ?_ ?_ ?_ ?_ ?_ ?_ ?_ ?_ ?_ ?_ ?_ ?_ ?_ ?_ ?_ ?_ ?_ ?_
  all_goals try first
   |(refine' S.dk_mk g G ?a ?l ?c ?k ?b;(case a=>k_is);(case l=>k_is);(case c=>k_is);(case k=>k_is);(case b=>first|(exact λ_ _ _ _ _ _=>S.all1 λ_=>rfl)|(exact λ_ _ _ _ _ _=>S.all2 λ_ _=>rfl)|(exact λ_ _ _ _ _ _=>S.all3 λ_ _ _=>rfl)|(exact λ_ _ _ _ _ _=>S.all4 λ_ _ _ _=>rfl)))
   |(refine' S.fk_mk ?l ?c ?k ?b;(case l=>k_is);(case c=>k_is);(case k=>k_is);(case b=>first|(exact λ_ _ _ _ _ _=>S.all1 λ_=>rfl)|(exact λ_ _ _ _ _ _=>S.all2 λ_ _=>rfl)|(exact λ_ _ _ _ _ _=>S.all3 λ_ _ _=>rfl)|(exact λ_ _ _ _ _ _=>S.all4 λ_ _ _ _=>rfl)))
   |(exact S.CkT.mk (by k_is) (by k_is) (by k_is) (by k_is) (by k_is) (by k_is) (by k_is) (by k_is) (by k_is) (by k_is) (by k_is) (by k_is) (by kit_is) (by k_is) (by k_is) (by k_is))
   |(refine' S.Bl.mk ?_ ?_ ?_ ?_ ?_ ?_ ?_ ?_ ?_ ?_ ?_ ?_ ?_ ?_ ?_ ?_;all_goals exact PySem.W.mg_none_of g G (by k_is))
   |(refine' S.Bl3.mk ?_ ?_;all_goals exact PySem.W.mg_none_of g G (by k_is))
   |k_is
