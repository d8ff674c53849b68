import PyProof.Rows.All
import Wide.All
import OpenK.KLine
import OpenK.KWalk
import OpenK.KOwn
import KE.RegKIsAll
import KE.IntBitsLaws
import KE.KItem
import Wide.FinOn
import Lean
import PyProof.EqAt
import PyProof.EqKinds
import PyProof.TupleCall
import PyProof.Draws
import PyProof.EnumMake
import PyProof.ZipIter
import PyProof.Rows.SumAny
import KE.KRevIter
import PyProof.StrCalls2
import KE.KRevSl
import KE.LcSums
import PyProof.Rows.SetFrom
import PyProof.DictIter
import PyProof.CollectWalk
import PyProof.Rows.SortRev
import PySem.Challenge.RW_shortpurse_k28_claims_and_purses_refused
set_option compiler.extract_closed false
set_option Elab.async false
set_option linter.all false
set_option maxRecDepth 100000
set_option maxHeartbeats 4000000
abbrev Qa:=@List.length_map
abbrev Qb:=@List.mem_of_getElem?
abbrev Qc:=@List.mem_cons_self
abbrev Qd:=@PySem.wpAny_bind
abbrev Qe:=@List.getElem?_eq_getElem
abbrev Qf:=@List.mem_cons_of_mem
abbrev Qg:=@List.getElem?_eq_some_iff
abbrev Qh:=@PySem.Heap.get?_push_of_some
abbrev Qi:=@List.getElem?_map
abbrev Qj:=@List.mem_map
abbrev Qk:=@List.mem_cons
abbrev Ql:=@PySem.wpAny_pure
abbrev Qm:=@List.pairwise_cons
abbrev Qn:=@PySem.Heap.lt_size
abbrev Qo:=@List.getD_eq_getElem?_getD
abbrev Qp:=@List.map_cons
abbrev Qq:=@Nat.le_refl
abbrev Qr:=@List.length_append
abbrev Qt:=@PySem.Heap.get?_push_size
abbrev Qu:=@List.mem_iff_getElem?
abbrev Qv:=@List.mem_singleton
abbrev Qw:=@List.length_cons
abbrev Qx:=@List.not_mem_nil
abbrev Qy:=@Bool.false_ne_true
abbrev Qz:=@List.mem_append_right
abbrev QA:=@List.length_replicate
abbrev QB:=@List.size_toArray
abbrev QC:=@PySem.W.mg_of
abbrev QD:=@of_decide_eq_true
abbrev QE:=@Nat.ne_of_lt
abbrev QF:=@List.map_append
abbrev QG:=@List.sum_cons
abbrev QH:=@if_pos
abbrev QI:=@List.map_map
abbrev QJ:=@Nat.lt_of_lt_of_le
abbrev QK:=@Option.some.inj
abbrev QL:=@List.getElem?_replicate
abbrev QM:=@PySem.Heap.size_push
abbrev QN:=@List.getElem?_eq_none
abbrev QO:=@List.length_zipWith
abbrev QP:=@List.getElem?_zipWith
abbrev QQ:=@List.take_of_length_le
abbrev QR:=@PySem.wpAny_callSpecial?_slot
abbrev QS:=@if_neg
abbrev QT:=@Nat.le_trans
abbrev QU:=@Nat.lt_succ_self
abbrev QV:=@Rat.le_of_lt
abbrev QW:=@List.getElem?_zip_eq_some
abbrev QX:=@List.mem_append
abbrev QY:=@Rat.le_refl
abbrev QZ:=@List.length_drop
abbrev Ta:=@List.getLast?_eq_some_getLast
abbrev Tb:=@decide_eq_false
abbrev Tc:=@List.replicate_succ
abbrev Td:=@PySem.Heap.SameBut.update
abbrev Te:=@PySem.wpAny_call_entry
abbrev Tf:=@List.pairwise_iff_getElem
abbrev Tg:=@PyProof.Rows.callWith_type1
abbrev Th:=@PySem.Heap.get?_update_other
abbrev Ti:=@List.flatten_cons
abbrev Tj:=@List.pairwise_map
abbrev Tn:=@List.all_eq_true
abbrev To:=@List.length_reverse
abbrev Tp:=@decide_eq_true
abbrev Tq:=@List.getElem?_append_right
abbrev Tr:=@List.length_take
abbrev Ts:=@Int.toNat_natCast
abbrev Tt:=@Nat.lt_succ_of_lt
abbrev Tu:=@List.getElem_mem
abbrev Tv:=@List.mem_filter
abbrev Tw:=@PySem.Heap.get?_update_self
abbrev Tx:=@List.length_singleton
abbrev Tz:=@Rat.not_lt
abbrev TB:=@Rat.le_trans
abbrev TC:=@List.pairwise_append
abbrev TF:=@List.mem_of_mem_tail
abbrev TH:=@List.cons_append
abbrev TK:=@List.nodup_cons
abbrev TL:=@Int.fmod_eq_emod_of_nonneg
abbrev TM:=@List.getLast?_cons_cons
abbrev TN:=@List.getElem_of_mem
abbrev TQ:=@List.map_congr_left
abbrev TR:=@Bool.and_eq_true
abbrev TU:=@PySem.wpAny_newObj_type
abbrev TV:=@List.append_assoc
abbrev TX:=@List.take_add_one
abbrev TY:=@PySem.wpAny_field
abbrev TZ:=@List.dropLast_concat_getLast
abbrev jaa:=@PySem.F.slot_list_append
abbrev jab:=@PySem.F.type_list_append
abbrev jac:=@Array.length_toList
abbrev jad:=@Int.emod_nonneg
abbrev jae:=@Rat.intCast_mul
abbrev jaf:=@Nat.lt_irrefl
abbrev jag:=@PySem.F.plainAttrs_list
abbrev jah:=@List.mem_append_left
abbrev jai:=@Nat.zero_le
abbrev jaj:=@Nat.le_succ
abbrev jak:=@List.mem_of_getLast?
abbrev jal:=@List.getElem_zipWith
abbrev jam:=@PySem.wpAny_pyIter_tuple
abbrev jan:=@PySem.wpAny_Call_Name_kw
abbrev jao:=@Int.emod_lt_of_pos
abbrev jap:=@List.zipWith_cons_cons
abbrev jaq:=@Rat.intCast_le_intCast
abbrev jar:=@PySem.W.kia_one
abbrev jas:=@List.getElem?_append_left
abbrev jat:=@PySem.wpAny_seqItems
abbrev jau:=@PySem.wpAny_holding
abbrev jav:=@Bool.false_eq_true
abbrev jaw:=@List.getElem?_drop
abbrev jax:=@List.pairwise_singleton
abbrev jay:=@PySem.Around.under_plainId
abbrev jaz:=@Nat.ne_of_gt
abbrev jaA:=@List.getElem_replicate
abbrev jaB:=@List.filterMap_cons
abbrev jaC:=@PySem.mem_of_lookup
abbrev jaD:=@List.getLast?_map
abbrev jaE:=@PySem.wpAny_attempt
abbrev jaF:=@List.getLast?_eq_getElem?
abbrev jaG:=@List.nil_append
abbrev jaH:=@PySem.codeAny_builtin
abbrev jaI:=@Option.isSome_iff_exists
abbrev jaJ:=@PySem.wpAny_setField_rec
abbrev jaK:=@List.map_replicate
abbrev jaL:=@List.lookup_cons
abbrev jaM:=@List.length_tail
abbrev jaN:=@PyProof.Rows.F.plain_set_update_loop
abbrev jaO:=@PySem.wpAny_pyIter_list
abbrev jaP:=@List.ext_getElem?
abbrev jaQ:=@beq_eq_false_iff_ne
abbrev jaR:=@List.append_nil
abbrev jaS:=@List.length_set
abbrev jaT:=@List.length_pos_iff
abbrev jaU:=@List.length_pos_of_mem
abbrev jaV:=@PySem.F.slot_tuple_iterator_next
abbrev jaW:=@Array.getElem?_eq_some_iff
abbrev jaX:=@List.ext_getElem
abbrev jaY:=@List.map_nil
abbrev jaZ:=@List.Pairwise.sublist
abbrev jba:=@Int.le_trans
abbrev jbb:=@PySem.wpAny_setField
abbrev jbc:=@List.getElem?_eq_none_iff
abbrev jbd:=@List.getElem?_set_ne
abbrev jbe:=@PySem.wpAny_passesOwn
abbrev jbf:=@List.Sublist.refl
abbrev jbg:=@List.length_filterMap_le
abbrev jbh:=@Rat.not_le
abbrev jbi:=@PySem.wpAny_setEntries_of
abbrev jbj:=@List.mem_singleton_self
abbrev jbk:=@PySem.SeqAt.canLay_of_shaped
abbrev jbl:=@List.drop_eq_nil_of_le
abbrev jbm:=@Rat.mul_inv_cancel
abbrev jbn:=@Int.gcd_pos_of_ne_zero_right
abbrev jbo:=@Nat.le_of_lt
abbrev jbp:=@List.of_mem_zip
abbrev jbq:=@PySem.wpAny_loadPart'
abbrev jbr:=@Rat.divInt_mul_divInt
abbrev jbs:=@Nat.min_self
abbrev jbt:=@PySem.F.called_set
abbrev jbu:=@List.map_const'
abbrev jbv:=@Rat.intCast_sub
abbrev jbw:=@List.length_range
abbrev jbx:=@PySem.wpAny_setState_of
abbrev jby:=@List.Pairwise.imp
abbrev jbz:=@Int.fdiv_eq_ediv_of_nonneg
abbrev jbA:=@Rat.mul_nonneg
abbrev jbB:=@List.filter_cons
abbrev jbC:=@PySem.codeAny_mono
abbrev jbD:=@PySem.wpAny_comprehension_free
abbrev jbE:=@Nat.zero_add
abbrev jbF:=@List.mem_filterMap
abbrev jbG:=@PySem.W.callWith_K
abbrev jbH:=@PySem.Obj.data_mapFields
abbrev jbI:=@List.getLast?_cons
abbrev jbJ:=@Rat.intCast_lt_intCast
abbrev jbK:=@PySem.wpAny_truthy_bool
abbrev jbL:=@PySem.wpAny_rule
abbrev jbM:=@Rat.div_def
abbrev jbN:=@Int.le_refl
abbrev jbO:=@List.mem_range
abbrev jbP:=@Nat.le_of_ble_eq_true
abbrev jbQ:=@List.length_filter_le
abbrev jbR:=@List.mem_reverse
abbrev jbS:=@Rat.lt_irrefl
abbrev jbT:=@Bool.eq_iff_iff
abbrev jbU:=@Rat.le_antisymm
abbrev jbV:=@Rat.mul_pos
abbrev jbW:=@Int.natCast_pow
abbrev jbX:=@Rat.zero_mul
set_option exponentiation.threshold 2000
local macro_rules|`(tactic|walk_at "f")=>`(tactic|first|exact .inl rfl|exact .inr rfl|assumption)
local macro_rules|`(tactic|walk_at "o")=>`(tactic|first|exact Or.inl rfl|exact Or.inr rfl)
local macro_rules|`(tactic|walk_at "v")=>`(tactic|first|exact Or.inl rfl|exact Or.inr (Or.inl rfl)|exact Or.inr (Or.inr rfl))
local macro_rules|`(tactic|walk_at "l")=>`(tactic|first|decide|exact Qq _|omega)
namespace L2
open PySem PySem.Spec PyProof.Rows
abbrev Key:=Sum Int Str
def keyIs:Key->Value->Bool
 | .inl k,v=>Value.isInt k v
 | .inr x,v=>Value.isStrOf x v
def keyH (w:World):Key->Int
 | .inl k=>hashInt k
 | .inr x=>hashStr w x
theorem xt:∀{k:Key} {v:Value},keyIs k v=true->(∃i t,k=Sum.inl i/\v=Value.int i t)\/(∃x t,k=Sum.inr x/\v=Value.str x t)
 | .inl i,v,h=>by
   obtain ⟨t,e⟩:=Value.isInt_shape (k:=i) (v:=v) h;exact .inl ⟨i,t,rfl,e⟩
 | .inr x,v,h=>by
   obtain ⟨t,e⟩:=Value.isStrOf_shape (x:=x) (v:=v) h;exact .inr ⟨x,t,rfl,e⟩
theorem key_ll (a b:Int):decide ((Sum.inl a:Key)=Sum.inl b)=(a==b):=by
 by_cases e:a=b
 ·subst e;simp
 ·have h:¬(Sum.inl a:Key)=Sum.inl b:=λq=>e (Sum.inl.inj q);rw [Tb h];exact (jaQ.mpr e).symm
theorem key_rr (a b:Str):decide ((Sum.inr a:Key)=Sum.inr b)=decide (a=b):=by
 by_cases e:a=b
 ·subst e;simp
 ·have h:¬(Sum.inr a:Key)=Sum.inr b:=λq=>e (Sum.inr.inj q);rw [Tb h,Tb e]
theorem key_lr (a:Int) (b:Str):decide ((Sum.inl a:Key)=Sum.inr b)=false:=Tb (λq=>nomatch q)
theorem key_rl (a:Str) (b:Int):decide ((Sum.inr a:Key)=Sum.inl b)=false:=Tb (λq=>nomatch q)
def Bz (prog:Program) (w:World):PySem.KeyKind prog w Key where
 is:=keyIs
 hash:=keyH w
 inj:=λv a b ha p=>by
  rcases xt ha with ⟨i,t,rfl,rfl⟩|⟨x,t,rfl,rfl⟩
  ·rcases xt p with ⟨j,u,rfl,e⟩|⟨y,u,rfl,e⟩
   ·injection e with g _;rw [g]
   ·exact nomatch e
  ·rcases xt p with ⟨j,u,rfl,e⟩|⟨y,u,rfl,e⟩
   ·exact nomatch e
   ·injection e with g _;rw [g]
 byValue:=λk v h=>by
  rcases xt h with ⟨i,t,rfl,rfl⟩|⟨x,t,rfl,rfl⟩<;>rfl
 pyHash:=λm h=>by
  rcases xt m with ⟨i,t,rfl,rfl⟩|⟨x,t,rfl,rfl⟩
  ·exact wpAny_pyHash_int h
  ·exact wpAny_pyHash_str h
 eqBool:=λq m h=>by
  rcases xt q with ⟨i,t,rfl,rfl⟩|⟨x,t,rfl,rfl⟩
  ·rcases xt m with ⟨j,u,rfl,rfl⟩|⟨y,u,rfl,rfl⟩
   ·rw [key_ll] at h;exact wpAny_eqBool_int h
   ·rw [key_lr] at h;exact SeqAt.EqAt.int_str i t y u _ _ _ _ h
  ·rcases xt m with ⟨j,u,rfl,rfl⟩|⟨y,u,rfl,rfl⟩
   ·rw [key_rl] at h;exact SeqAt.EqAt.str_int x t j u _ _ _ _ h
   ·rw [key_rr] at h;exact wpAny_eqBool_str h
 «strs»:=λk x t v h=>by
  rcases xt h with ⟨i,u,rfl,e⟩|⟨y,u,rfl,e⟩
  ·exact nomatch e
  ·injection e with g _
   subst g;cases v<;>rfl
end L2
namespace L2
open PySem PySem.Spec PyProof.Rows
inductive V where
 |non|bl (b:Bool)|int (i:Int)|str (x:Str)|byt (b:Array UInt8)|flt (b:UInt64)|ref (a:Addr)|ty (n:String)
 deriving DecidableEq
def ZE:V->Value->Prop
 | .non,u=>u=Value.none
 | .bl b,u=>u=Value.bool b
 | .int i,u=>∃t,u=Value.int i t
 | .str x,u=>∃t,u=Value.str x t
 | .byt b,u=>∃t,u=Value.bytes b t
 | .flt b,u=>∃t,u=Value.float b t
 | .ref a,u=>u=Value.ref a
 | .ty n,u=>u=Value.type n
abbrev xE:List V->List Value->Prop:=Paired ZE
theorem xE.length {xs:List V} {us:List Value} (r:xE xs us):xs.length=us.length:=Paired.length r
theorem xE.get:∀{xs:List V} {us:List Value} {i:Nat} {x:V},xE xs us->xs[i]? =some x->∃u,us[i]? =some u/\ZE x u
 |_,_,_,_, .nil,e=>by simp at e
 |_,_,0,_, .cons r _,e=>by simp at e;subst e;exact ⟨_,rfl,r⟩
 |_,_,i+1,x, .cons _ t,e=>by
  obtain ⟨u,h,g⟩:=xE.get (i:=i) (x:=x) t (by simpa using e);exact ⟨u,by simpa using h,g⟩
theorem xE.set {x:V} {u:Value} (r:ZE x u):∀{xs:List V} {us:List Value} (i:Nat),xE xs us->xE (xs.set i x) (us.set i u)
 |_,_,_, .nil=> .nil
 |_,_,0, .cons _ t=> .cons r t
 |_,_,i+1, .cons q t=> .cons q (xE.set r i t)
theorem xE.append {xs ys:List V} {us ws:List Value} (h:xE xs us) (s:xE ys ws):xE (xs++ys) (us++ws):=by
 induction h with
 |nil=>exact s
 |cons r t g=>exact .cons r g
theorem xE.take:∀{xs:List V} {us:List Value} (n:Nat),xE xs us->xE (xs.take n) (us.take n)
 |_,_,0,_=> .nil
 |_,_,_+1, .nil=> .nil
 |_,_,n+1, .cons r t=> .cons r (xE.take n t)
theorem xE.drop:∀{xs:List V} {us:List Value} (n:Nat),xE xs us->xE (xs.drop n) (us.drop n)
 |_,_,0,r=>r
 |_,_,_+1, .nil=> .nil
 |_,_,n+1, .cons _ t=>xE.drop n t
def CZ:Option V->Option Value->Prop
 |some v,some u=>ZE v u
 |none,none=>True
 |_,_=>False
def KV {κ:Type}:List (κ×V)->List (κ×Value)->Prop:=Paired λ(p:κ×V) (q:κ×Value)=>p.1=q.1/\ZE p.2 q.2
def kV:Key->V
 | .inl i=> .int i
 | .inr x=> .str x
inductive HO where
 |lst (xs:List V)
 |tup (xs:List V)
 |dK (kvs:List (Key×V))|dT (kvs:List (List Key×V))
 |set (S:Int->Bool) (n:Nat)
 |ins (C dx:Addr) (fs:List (Str×V))
 |own (x:Addr)
 |xd (fs:List (Str×V))
 |met (f x:Addr)
 |rng (lo hi:Int)
 |frz (o:Obj) (u:HO)
 |tbl (ps:Array Value)
 |ext (φ:Heap->Prop)
abbrev Hp:=Addr->Option HO
def upd (H:Hp) (a:Addr) (o:HO):Hp:=λb=>if b=a then some o else H b
theorem yE {H:Hp} {a:Addr} {o:HO}:upd H a o a=some o:=by unfold upd;rw [QH rfl]
theorem yb {H:Hp} {a b:Addr} {o:HO} (h:b≠a):upd H a o b=H b:=by unfold upd;rw [QS h]
theorem yh {H:Hp} {a b:Addr} {o:HO} (h:H a=some o) (h':H b=none):a≠b:=by
 intro e;subst e;rw [h] at h';cases h'
section
variable (P:Program) (w:World)
def ZF (H:Hp) (h:Heap) (a:Addr):HO->Prop
 | .lst xs=>xs.length<=sizeLine/\∃(its:List Value) (n:Nat),xE xs its/\h.get? a=some {cls:= .type "list",data:= .seq its.toArray n}
 | .tup xs=>xs.length<=sizeLine/\∃its:List Value,xE xs its/\IsTup h a its.toArray
 | .dK g=>g.length<=sizeLine/\(a==sysModules)=false/\∃vs,KV g vs/\h.DictOf (Bz P w) a vs
 | .dT g=>g.length<=sizeLine/\(a==sysModules)=false/\∃xs:List (List Key×Addr×Value),
  Paired (λ(p:List Key×V) (q:List Key×Addr×Value)=>p.1=q.1/\H q.2.1=some (.tup (p.1.map kV))/\ZE p.2 q.2.2) g xs/\
  ∃o es ep,h.get? a=some o/\o.ExactDict/\o.data= .dict es ep/\es.toList=xs.map (entryOfKey (tupleKind (Bz P w)))/\(xs.map (·.1)).Nodup
 | .set S n=>h.SetOf (intKind P w) a S n
 | .ins C r fs=>H r=some (.own a)/\fs.length<=1000/\r≠a/\h.get? a=some (PySem.W.instObj C r)/\
  ∃m,h.Ns1 r m/\(∀f,CZ (fs.lookup f) (m f))/\PySem.Within m (fs.map (·.1))
 | .own _=>∃o,h.get? a=some o
 | .xd fs=>∃m,h.Ns1 a m/\∀f,CZ (fs.lookup f) (m f)
 | .rng lo z=>∃t u v,h.get? a=some {cls:= .type "range",data:= .fields #[.int lo t, .int z u, .int 1 v]}
 | .frz o u=>h.get? a=some o/\ZF H h a u
 | .tbl ps=>h.get? a=some {cls:= .none,data:= .fields ps}
 | .met f x=>h.get? a=some (PySem.W.methodObj (.ref f) (.ref x))
 | .ext φ=>φ h/\(∃o,h.get? a=some o)/\∀y s:Heap,φ y->(∀o,y.get? a=some o->s.get? a=some o)->φ s
def HOk (H:Hp) (h:Heap):Prop:=∀a o,H a=some o->ZF P w H h a o
end
section
variable {P:Program} {w:World} {H H':Hp} {h h':Heap} {a:Addr} {o:HO}
theorem ZF.lt (x:ZF P w H h a o):a<h.objs.size:=by
 cases o with
 |lst xs=>obtain ⟨_,_,_,_,e⟩:=x;exact Qn e
 |tup xs=>obtain ⟨_,_,_,p⟩:=x;exact p.lt
 |dK g=>obtain ⟨_,_,_,_,o,_,_,e,_⟩:=x;exact Qn e
 |dT g=>obtain ⟨_,_,_,_,o,_,_,e,_⟩:=x;exact Qn e
 |set S n=>obtain ⟨o,_,_,_,e,_⟩:=x;exact Qn e
 |ins C r fs=>obtain ⟨_,_,_,e,_⟩:=x;exact Qn e
 |own y=>obtain ⟨_,e⟩:=x;exact Qn e
 |xd fs=>obtain ⟨_,⟨_,_,_,e,_⟩,_⟩:=x;exact Qn e
 |rng lo q=>obtain ⟨_,_,_,e⟩:=x;exact Qn e
 |frz m u=>obtain ⟨e,_⟩:=x;exact Qn e
 |tbl ps=>exact Qn (show h.get? a=some _ from x)
 |met f y=>exact Qn (show h.get? a=some _ from x)
 |ext φ=>obtain ⟨_,⟨_,e⟩,_⟩:=x;exact Qn e
theorem Paired.mapP {α β:Type} {F G:α->β->Prop}:∀{l₁:List α} {l₂:List β},Paired F l₁ l₂->(∀a b,F a b->G a b)->Paired G l₁ l₂
 |_,_, .nil,_=> .nil
 |_,_, .cons r t,f=> .cons (f _ _ r) (Paired.mapP t f)
theorem ZF.stay (x:ZF P w H h a o) (k:∀b u,(b=a\/H b=some (.own a))->h.get? b=some u->h'.get? b=some u)
 (E:∀b,H b=some (.own a)->H' b=some (.own a)) (ht:∀b xs,H b=some (.tup xs)->H' b=some (.tup xs)):ZF P w H' h' a o:=by
 induction o with
 |lst xs=>obtain ⟨z,its,n,r,e⟩:=x;exact ⟨z,its,n,r,k _ _ (.inl rfl) e⟩
 |tup xs=>obtain ⟨z,its,r,g,e,c⟩:=x;exact ⟨z,its,r,g,k _ _ (.inl rfl) e,c⟩
 |dK A=>obtain ⟨z,y,vs,r,g,es,ep,e,c⟩:=x;exact ⟨z,y,vs,r,g,es,ep,k _ _ (.inl rfl) e,c⟩
 |dT A=>
  obtain ⟨z,y,xs,r,g,es,ep,e,c⟩:=x;exact ⟨z,y,xs,Paired.mapP r λp q z=>⟨z.1,ht _ _ z.2.1,z.2.2⟩,g,es,ep,k _ _ (.inl rfl) e,c⟩
 |set S n=>obtain ⟨g,es,ep,t,e,c⟩:=x;exact ⟨g,es,ep,t,k _ _ (.inl rfl) e,c⟩
 |ins C J fs=>
  obtain ⟨d,z,ne,e,s,⟨m,es,ep,G,c⟩,r⟩:=x;exact ⟨E _ d,z,ne,k _ _ (.inl rfl) e,s,⟨m,es,ep,k _ _ (.inr d) G,c⟩,r⟩
 |own y=>obtain ⟨g,e⟩:=x;exact ⟨g,k _ _ (.inl rfl) e⟩
 |xd fs=>obtain ⟨s,⟨m,es,ep,e,c⟩,r⟩:=x;exact ⟨s,⟨m,es,ep,k _ _ (.inl rfl) e,c⟩,r⟩
 |rng lo I=>obtain ⟨t,u,v,e⟩:=x;exact ⟨t,u,v,k _ _ (.inl rfl) e⟩
 |frz g u D=>obtain ⟨e,q⟩:=x;exact ⟨k _ _ (.inl rfl) e,D q⟩
 |tbl ps=>
  have e:h.get? a=some {cls:= .none,data:= .fields ps}:=x;show h'.get? a=some {cls:= .none,data:= .fields ps};exact k a _ (.inl rfl) e
 |met f y=>
  have e:h.get? a=some (PySem.W.methodObj (.ref f) (.ref y)):=x;show h'.get? a=some (PySem.W.methodObj (.ref f) (.ref y));exact k a _ (.inl rfl) e
 |ext φ=>obtain ⟨p,⟨o,e⟩,st⟩:=x;exact ⟨st _ _ p λo q=>k _ _ (.inl rfl) q,⟨o,k _ _ (.inl rfl) e⟩,st⟩
theorem HOk.lt (x:HOk P w H h) (e:H a=some o):a<h.objs.size:=(x a o e).lt
theorem HOk.fresh (x:HOk P w H h) (e:h.objs.size<=a):H a=none:=by
 cases q:H a with
 |none=>rfl
 |some u=>exact absurd (QJ (x.lt q) e) (jaf _)
theorem HOk.kept (x:HOk P w H h) (k:∀b u,h.get? b=some u->h'.get? b=some u):HOk P w H h':=λa o e=>
 (x a o e).stay (λb u _ q=>k b u q) (λ_ q=>q) λ_ _ q=>q
theorem HOk.laid (x:HOk P w H h) (k:∀b u,h.get? b=some u->h'.get? b=some u) (hp:h.objs.size<=a) (new:ZF P w (upd H a o) h' a o):HOk P w (upd H a o) h':=λb u e=>by
 have hn:=x.fresh hp
 by_cases g:b=a
 ·subst g;rw [yE] at e;cases e;exact new
 ·rw [yb g] at e;exact (x b u e).stay (λc v _ q=>k c v q) (λc q=>by rw [yb (yh q hn)];exact q) λc xs q=>by rw [yb (yh q hn)];exact q
end
def Rd (H:Hp) (a:Addr) (u:HO):Prop:=H a=some u\/∃o,H a=some (.frz o u)
theorem Rd.ok {P:Program} {w:World} {H:Hp} {h:Heap} {a:Addr} {u:HO} (r:Rd H a u) (x:HOk P w H h):ZF P w H h a u:=by
 rcases r with r|⟨o,r⟩
 ·exact x a u r
 ·obtain ⟨_,q⟩:=x a _ r;exact q
def Mut:Option HO->Prop
 |some (.lst _)=>True
 |some (.dK _)=>True
 |some (.dT _)=>True
 |some (.set _ _)=>True
 |some (.ins _ _ _)=>True
 |some (.ext _)=>True
 |_=>False
section
variable {P:Program} {w:World} {H:Hp} {h h':Heap} {x e:Addr} {o':HO}
theorem HOk.write (ok:HOk P w H h) (p:Mut (H x)) (he:e=x\/H e=some (.own x)) (k:∀b u,b≠e->h.get? b=some u->h'.get? b=some u) (E:∃u,h'.get? e=some u)
 (new:ZF P w (upd H x o') h' x o'):HOk P w (upd H x o') h':=λb u q=>by
 have g:∀c y,H c=some (.own y)->c≠x:=λc y r z=>by subst z;rw [r] at p;exact p
 have m:∀c xs,H c=some (.tup xs)->c≠x:=λc xs r z=>by subst z;rw [r] at p;exact p
 by_cases t:b=x
 ·subst t;rw [yE] at q;cases q;exact new
 ·rw [yb t] at q
  by_cases A:b=e
  ·have C:H b=some (.own x):=by
    rcases he with z|z
    ·exact absurd (A.trans z) t
    ·rw [A];exact z
   rw [q] at C;cases C;obtain ⟨v,D⟩:=E;exact ⟨v,by rw [A];exact D⟩
  ·refine (ok b u q).stay (λc v s r=>k c v ?_ r) (λc r=>by rw [yb (g c b r)];exact r) λc xs r=>by rw [yb (m c xs r)];exact r
   rcases s with rfl|s
   ·exact A
   ·rintro rfl
    rcases he with z|z
    ·exact g c b s z
    ·rw [s] at z;cases z;exact t rfl
end
structure Un (fs ex:List Addr) (H H':Hp) (h h':Heap):Prop where
 keep:∀b o,h.get? b=some o->H b=none->b∉fs->b∉ex->h'.get? b=some o
 slot:∀b o,h.get? b=some o->H b=none->b∈fs->b∉ex->∃sl,h'.get? b=some {o with slots:=sl}
 free:∀b o,h.get? b=some o->H b=none->b∉ex->H' b=none
 there:∀b o,h.get? b=some o->b∉ex->∃o',h'.get? b=some o'
 tups:∀b xs,H b=some (.tup xs)->H' b=some (.tup xs)
 frzs:∀b o u,H b=some (.frz o u)->H' b=some (.frz o u)
 tbls:∀b ps,H b=some (.tbl ps)->∃more,H' b=some (.tbl (ps++more))
section
variable {fs fs' ex ex':List Addr} {H H1 H2:Hp} {h h1 h2 h':Heap} {a x e:Addr} {o:HO}
theorem Un.any (u:Un fs ex H H1 h h1) {b:Addr} {g:Obj} (q:h.get? b=some g) (n:H b=none) (m:b∉ex):∃sl,h1.get? b=some {g with slots:=sl}:=by
 by_cases p:b∈fs
 ·exact u.slot b g q n p m
 ·exact ⟨g.slots,u.keep b g q n p m⟩
theorem Un.trans (a:Un fs ex H H1 h h1) (b:Un fs ex H1 H2 h1 h2):Un fs ex H H2 h h2 where
 keep:=λc g q n r m=>b.keep c g (a.keep c g q n r m) (a.free c g q n m) r m
 slot:=λc g q n r m=>by
  obtain ⟨sl,p⟩:=a.slot c g q n r m;obtain ⟨w,t⟩:=b.slot c _ p (a.free c g q n m) r m;exact ⟨w,t⟩
 free:=λc g q n m=>by
  obtain ⟨s,p⟩:=a.there c g q m;exact b.free c s p (a.free c g q n m) m
 there:=λc g q m=>by
  obtain ⟨s,p⟩:=a.there c g q m;exact b.there c s p m
 tups:=λc xs q=>b.tups c xs (a.tups c xs q)
 frzs:=λc g xs q=>b.frzs c g xs (a.frzs c g xs q)
 tbls:=λc ps q=>by
  obtain ⟨u,p⟩:=a.tbls c ps q;obtain ⟨m2,t⟩:=b.tbls c _ p;exact ⟨u++m2,by rw [t,Array.append_assoc]⟩
theorem Un.kept (k:∀b u,h.get? b=some u->h'.get? b=some u):Un fs ex H H h h':=
 ⟨λb g q _ _ _=>k b g q,λb g q _ _ _=>⟨g.slots,k b g q⟩,λ_ _ _ n _=>n,λb g q _=>⟨g,k b g q⟩,λ_ _ q=>q,λ_ _ _ q=>q,λ_ ps q=>⟨#[],by rw [q];simp⟩⟩
theorem Un.refl:Un fs ex H H h h:=Un.kept λ_ _ q=>q
theorem Un.laid (k:∀b u,h.get? b=some u->h'.get? b=some u) (hp:h.objs.size<=a) (hn:H a=none):Un fs ex H (upd H a o) h h' where
 keep:=λb u q _ _ _=>k b u q
 slot:=λb u q _ _ _=>⟨u.slots,k b u q⟩
 free:=λb u q n _=>by rw [yb (QE (QJ (Qn q) hp))];exact n
 there:=λb u q _=>⟨u,k b u q⟩
 tups:=λb xs q=>by rw [yb (yh q hn)];exact q
 frzs:=λb u xs q=>by rw [yb (yh q hn)];exact q
 tbls:=λb ps q=>⟨#[],by rw [yb (yh q hn),q];simp⟩
theorem Un.write (g:Mut (H x)) (he:e=x\/H e=some (.own x)) (k:∀b u,b≠e->h.get? b=some u->h'.get? b=some u) (t:∃u,h'.get? e=some u):Un fs ex H (upd H x o) h h':=by
 have m:∀b,H b=none->b≠x:=λb n z=>by subst z;rw [n] at g;exact g
 have p:∀b,H b=none->b≠e:=λb n z=>by
  subst z
  rcases he with r|r
  ·exact m b n r
  ·rw [n] at r;cases r
 have hm:∀b u,H b=some u->¬Mut (some u)->b≠x:=λb u q nm z=>by subst z;rw [q] at g;exact nm g
 refine ⟨λb u q n _ _=>k b u (p b n) q,λb u q n _ _=>⟨u.slots,k b u (p b n) q⟩,λb u q n _=>by rw [yb (m b n)];exact n,λb u q _=>?_,
  λb xs q=>by rw [yb (hm b _ q λz=>z)];exact q,λb u xs q=>by rw [yb (hm b _ q λz=>z)];exact q,λb ps q=>⟨#[],by rw [yb (hm b _ q λz=>z),q];simp⟩⟩
 by_cases s:b=e
 ·subst s;exact t
 ·exact ⟨u,k b u s q⟩
end
def trk (h:Heap) (H:Hp):List Addr:=(List.range h.objs.size).filter λa=>(H a).isSome
def Ft (h:Heap) (H:Hp):Heap:=PySem.W.hideAll h (trk h H)
theorem BW (h:Heap) (H:Hp):(Ft h H).objs.size=h.objs.size:=PySem.W.hideAll_size _ _
theorem Fs {h:Heap} {H:Hp} {b:Addr} {o:Obj} (e:h.get? b=some o) (n:H b=none):(Ft h H).get? b=some o:=
 PySem.W.hideAll_get _ e λhm=>by
  have q:(H b).isSome=true:=(Tv.mp hm).2;rw [n] at q;simp at q
theorem Ir {h:Heap} {H:Hp} {b:Addr} {o:Obj} (e:(Ft h H).get? b=some o):h.get? b=some o/\H b=none:=by
 have g:h.get? b=some o:=PySem.W.of_hideAll (trk h H) e;refine ⟨g,?_⟩
 cases q:H b with
 |none=>rfl
 |some x=>
  have hm:b∈trk h H:=Tv.mpr ⟨jbO.mpr (Qn g),by simp [q]⟩;have z:(Ft h H).get? b=none:=PySem.W.hideAll_none (trk h H) hm;rw [z] at e;cases e
def Jd (g h:Heap) (L:Addr):List (Addr×Obj):=(List.range h.objs.size).filterMap λa=>if a=L\/(g.get? a).isSome=true then none else (h.get? a).map λo=>(a,o)
def pA (g h:Heap) (L d:Addr):List (Addr×Obj):=(Jd g h L).filter λp=>decide (p.1≠d)
end L2
namespace L2
open PySem PySem.Spec PyProof.Rows
structure Mod (K:PySem.W.Frag) (mg:Str->Option Value) (base:Heap):Prop where
 kin:K.In base
 glob:base.Ns mainGlobals mg
 blt:∃mb,base.Ns builtinsNs mb/\∀x:Str,x≠"__name__"->mb x=bootBuiltins x
 nolimit:base.NoLimit
structure Cx where
 prog:Program
 w:World
 K:PySem.W.Frag
 mg:Str->Option Value
 base:Heap
 A:Around
 N:List Str
 s₀:Shared
 H₀:Hp
 env:Env
 outer:List Env
 stack:List Env
 ex:List Addr
 fn:Str->Bool
 calm:Bool
 pn:List (Addr×Obj)
 xe:Value->Shared->Prop
def frs (l:List Env):List Addr:=l.filterMap (·.frame)
abbrev Cx.fs (X:Cx):List Addr:=frs X.outer
def Vis (sc:Scope) (x:Str):Prop:=sc.names.lookup x=some .local\/sc.names.lookup x=some .cell\/sc.names.lookup x=some .free
def Loc (sc:Scope) (x:Str):Prop:=sc.names.lookup x=some .local\/sc.names.lookup x=some .cell
def Look (env:Env) (h:Heap) (m:Str->Option Value) (x:Str) (u:Value):Prop:=
 (env.kindOf x=some .local/\m x=some u)\/((env.kindOf x=some .cell\/env.kindOf x=some .free)/\∃c,env.cells.lookup x=some c/\h.IsCell c (some u))
structure Cx.Ok (X:Cx):Prop where
 mod:Mod X.K X.mg X.base
 kind:X.env.scope.kind= .function
 glob:X.env.globals=mainGlobals
 blt:X.env.builtins=builtinsNs
 above:X.s₀.heap.objs.size<=X.env.locals
 inj:∀x y c,X.env.cells.lookup x=some c->X.env.cells.lookup y=some c->x=y
 has:∀x,(X.env.kindOf x=some .cell\/X.env.kindOf x=some .free)->∃c,X.env.cells.lookup x=some c
 cab:∀x c,X.fn x=true->X.env.cells.lookup x=some c->X.s₀.heap.objs.size<=c
 hd:X.calm=true->X.A.handled=none
 frames:X.A.frames=some X.stack
 stk:X.stack=X.outer\/(X.stack=X.env::X.outer/\X.env.frame=some X.env.locals)
 exf:∀b∈X.ex,b≠X.env.locals/\∀x c,X.env.cells.lookup x=some c->c≠b
 bs:∀b o,X.base.get? b=some o->X.s₀.heap.get? b=some o/\X.H₀ b=none
 bsz:X.base.objs.size<=X.s₀.heap.objs.size
 noex:∀b o,X.base.get? b=some o->b∉X.ex
 exfs:∀b∈X.ex,b∉X.fs
 funs:X.s₀.heap.FunFrames X.base X.outer
 frf:∀b∈X.fs,X.H₀ b=none
structure Inv (X:Cx) (pins:List (Addr×Obj)) (σ:List (Option V)) (H:Hp) (s:Shared):Prop where
 ok:X.Ok
 os:s.os=X.s₀.os
 bare:AllBare s.gens
 base:Un X.fs X.ex X.H₀ H X.s₀.heap s.heap
 loc:∃m,s.heap.Ns X.env.locals m/\∀(i:Nat) (x:Str) (v:V),X.N[i]? =some x->σ[i]? =some (some v)->Vis X.env.scope x->∃u,ZE v u/\Look X.env s.heap m x u
 cell:∀x c,X.env.cells.lookup x=some c->∃v,s.heap.IsCell c v
 free:H X.env.locals=none
 freeC:∀x c,X.env.cells.lookup x=some c->H c=none
 pin:∀p∈X.pn++pins,s.heap.get? p.1=some p.2/\H p.1=none/\p.1≠X.env.locals/\p.1∉X.fs/\∀v,p.2.data≠ .cell v
 hok:HOk X.prog X.w H s.heap
 len:σ.length=X.N.length
section
variable {X:Cx} {pins:List (Addr×Obj)} {σ:List (Option V)} {H H':Hp} {s:Shared} {h':Heap}
theorem Cx.Ok.nofr (ok:X.Ok) {b:Addr} {o:Obj} (e:X.base.get? b=some o):b∉X.fs:=λg=>by
 have:=(ok.funs.mem g).1;rw [e] at this;cases this
theorem Inv.bs (I:Inv X pins σ H s):∀b o,X.base.get? b=some o->s.heap.get? b=some o/\H b=none:=λb o e=>
 ⟨I.base.keep b o (I.ok.bs b o e).1 (I.ok.bs b o e).2 (I.ok.nofr e) (I.ok.noex b o e),I.base.free b o (I.ok.bs b o e).1 (I.ok.bs b o e).2 (I.ok.noex b o e)⟩
theorem Inv.bk (I:Inv X pins σ H s):∀b o,X.base.get? b=some o->s.heap.get? b=some o:=λb o e=>(I.bs b o e).1
theorem Inv.mod (I:Inv X pins σ H s):Mod X.K X.mg X.base:=I.ok.mod
theorem Inv.kIn (I:Inv X pins σ H s):X.K.In s.heap:=I.ok.mod.kin.keeps I.bk
theorem Inv.lt (I:Inv X pins σ H s):X.env.locals<s.heap.objs.size:=by
 obtain ⟨_,hn,_⟩:=I.loc;exact hn.lt
theorem Inv.sz (I:Inv X pins σ H s):X.s₀.heap.objs.size<=s.heap.objs.size:=QT I.ok.above (jbo I.lt)
theorem Inv.nofs (I:Inv X pins σ H s) {a:Addr} (h:s.heap.objs.size<=a):a∉X.fs:=λm=>by
 obtain ⟨_,o,g,_⟩:=I.ok.funs.mem m;exact absurd (QJ (Qn g) (QT I.sz h)) (jaf _)
theorem Inv.cne (I:Inv X pins σ H s):∀x c,X.env.cells.lookup x=some c->c≠X.env.locals:=λx c e z=>by
 obtain ⟨v,o,g,hd⟩:=I.cell x c e;obtain ⟨m,⟨q,es,ep,h,p,_⟩,_⟩:=I.loc;rw [z,h] at g;cases g;rw [p] at hd;cases hd
theorem Inv.funs (I:Inv X pins σ H s):s.heap.FunFrames X.base X.outer:=by
 have all:∀(l:List Env),(∀b∈frs l,b∈X.fs)->X.s₀.heap.FunFrames X.base l->s.heap.FunFrames X.base l:=by
  intro l
  induction l with
  |nil=>intro _ _;trivial
  |cons env r p=>
   intro m t;obtain ⟨u,⟨L,o,hf,hn,q,hd⟩,hr⟩:=t;have h:L∈X.fs:=m L (by unfold frs;rw [jaB,hf];exact Qc);obtain ⟨sl,e⟩:=I.base.slot L o q (I.ok.frf L h) h λz=>I.ok.exfs L z h;exact ⟨u,⟨L,_,hf,hn,e,hd⟩,p (λb g=>m b (by unfold frs;rw [jaB,hf];exact Qf _ g)) hr⟩
 exact all X.outer (λ_ g=>g) I.ok.funs
theorem Inv.stack (I:Inv X pins σ H s):s.heap.FunFrames X.base X.stack:=by
 rcases I.ok.stk with e|⟨e,hf⟩
 ·rw [e];exact I.funs
 ·rw [e];obtain ⟨m,hn,_⟩:=I.loc;refine .cons (by rw [I.ok.kind];decide) hf hn ?_ I.funs;exact Heap.get?_none_of_le (QT I.ok.bsz I.ok.above)
theorem Inv.stkSub (I:Inv X pins σ H s):∀b∈frs X.stack,b∈X.env.locals::X.fs:=λb g=>by
 rcases I.ok.stk with e|⟨e,hf⟩
 ·rw [e] at g;exact Qf _ g
 ·rw [e] at g;unfold frs at g;rw [jaB,hf] at g;exact g
theorem Inv.stkFree (I:Inv X pins σ H s):∀b∈frs X.stack,H b=none:=λb g=>by
 rcases Qk.mp (I.stkSub b g) with e|g
 ·rw [e];exact I.free
 ·obtain ⟨_,o,h,_⟩:=I.ok.funs.mem g;exact I.base.free b o h (I.ok.frf b g) λz=>I.ok.exfs b z g
theorem Inv.step {g':Array GenState} {t':Nat} {d':Drawn} {ch:List Addr} (I:Inv X pins σ H s)
 (J:∀b∈ch,(b∈X.ex\/X.s₀.heap.objs.size<=b)/\b≠X.env.locals/\(∀x c,X.env.cells.lookup x=some c->c≠b)/\∀p∈X.pn++pins,p.1≠b)
 (keep:∀b o,b≠X.env.locals->b∉X.fs->b∉ch->s.heap.get? b=some o->H b=none->h'.get? b=some o)
 (slot:∀b o,b≠X.env.locals->b∈X.fs->b∉ch->s.heap.get? b=some o->H b=none->∃sl,h'.get? b=some {o with slots:=sl}) (free:∀b o,b∉ch->s.heap.get? b=some o->H b=none->H' b=none)
 (there:∀b o,b∉ch->s.heap.get? b=some o->∃D,h'.get? b=some D)
 (tups:∀b xs,H b=some (.tup xs)->H' b=some (.tup xs)) (frzs:∀b o u,H b=some (.frz o u)->H' b=some (.frz o u)) (tbls:∀b ps,H b=some (.tbl ps)->∃more,H' b=some (.tbl (ps++more)))
 (ns:∀m,s.heap.Ns X.env.locals m->h'.Ns X.env.locals m) (hok:HOk X.prog X.w H' h') (N:AllBare g'):
 Inv X pins σ H' {s with heap:=h',gens:=g',drawn:=d',toks:=t'}:=by
 have E:∀b o,X.s₀.heap.get? b=some o->b≠X.env.locals:=λb o e=>QE (QJ (Qn e) I.ok.above)
 have t:∀b o,X.s₀.heap.get? b=some o->b∉X.ex->b∉ch:=λb o e g A=>by
  rcases (J b A).1 with z|z
  ·exact g z
  ·exact absurd (QJ (Qn e) z) (jaf _)
 have cellK:∀x c,X.env.cells.lookup x=some c->∀v,s.heap.IsCell c v->h'.IsCell c v:=λx c e v ⟨o,C,hd⟩=>by
  have h:c∉ch:=λz=>(J c z).2.2.1 x c e rfl
  by_cases K:c∈X.fs
  ·obtain ⟨sl,q⟩:=slot c o (I.cne x c e) K h C (I.freeC x c e);exact ⟨_,q,hd⟩
  ·exact ⟨o,keep c o (I.cne x c e) K h C (I.freeC x c e),hd⟩
 refine ⟨I.ok,I.os,N,⟨λb o e n A g=>?_,λb o e n A g=>?_,λb o e n g=>?_,λb o e g=>?_,λb xs e=>tups b xs (I.base.tups b xs e),λb o xs e=>frzs b o xs (I.base.frzs b o xs e),λb ps e=>?_⟩,?_,λx c e=>?_,?_,λx c e=>?_,λp hp=>?_,hok,I.len⟩
 ·exact keep b o (E b o e) A (t b o e g) (I.base.keep b o e n A g) (I.base.free b o e n g)
 ·obtain ⟨sl,y⟩:=I.base.slot b o e n A g;obtain ⟨P,G⟩:=slot b _ (E b o e) A (t b o e g) y (I.base.free b o e n g);exact ⟨P,G⟩
 ·obtain ⟨D,y⟩:=I.base.there b o e g;exact free b D (t b o e g) y (I.base.free b o e n g)
 ·obtain ⟨D,y⟩:=I.base.there b o e g;exact there b D (t b o e g) y
 ·obtain ⟨L,y⟩:=I.base.tbls b ps e;obtain ⟨m2,G⟩:=tbls b _ y;exact ⟨L++m2,by rw [G,Array.append_assoc]⟩
 ·obtain ⟨m,hn,M⟩:=I.loc;refine ⟨m,ns m hn,λi x v y G O=>?_⟩;obtain ⟨u,r,l⟩:=M i x v y G O;refine ⟨u,r,?_⟩
  rcases l with l|⟨k,c,e,z⟩
  ·exact .inl l
  ·exact .inr ⟨k,c,e,cellK x c e _ z⟩
 ·obtain ⟨v,z⟩:=I.cell x c e;exact ⟨v,cellK x c e v z⟩
 ·obtain ⟨m,⟨o,_,_,C,_⟩,_⟩:=I.loc;exact free _ o (λz=>(J _ z).2.1 rfl) C I.free
 ·obtain ⟨v,o,C,hd⟩:=I.cell x c e;exact free c o (λz=>(J c z).2.2.1 x c e rfl) C (I.freeC x c e)
 ·obtain ⟨e,n,ne,nf,d⟩:=I.pin p hp;have h:p.1∉ch:=λz=>(J p.1 z).2.2.2 p hp rfl;exact ⟨keep p.1 p.2 ne nf h e n,free p.1 p.2 h e n,ne,nf,d⟩
theorem Inv.un {t':Nat} (I:Inv X pins σ H s) (u:Un X.fs [] H H' s.heap h') (hok:HOk X.prog X.w H' h'):Inv X pins σ H' {s with heap:=h',toks:=t'}:=by
 obtain ⟨m,⟨o,es,ep,h,r⟩,_⟩:=id I.loc;obtain ⟨sl,t⟩:=u.any h I.free (by simp)
 exact I.step (g':=s.gens) (d':=s.drawn) (ch:=[]) (λ_ z=>nomatch z) (λb o _ g _ e n=>u.keep b o e n g (by simp)) (λb o _ g _ e n=>u.slot b o e n g (by simp)) (λb o _ e n=>u.free b o e n (by simp)) (λb o _ e=>u.there b o e (by simp)) u.tups u.frzs u.tbls (λD hm=>by
  obtain ⟨C,y,A,p,q⟩:=hm;rw [h] at p;cases p
  exact ⟨_,y,A,t,q⟩) hok I.bare
theorem Inv.call {g':Array GenState} {t':Nat} {d':Drawn} {ch:List Addr} (I:Inv X pins σ H s) (u:Un (frs X.stack) ch H H' s.heap h') (hok:HOk X.prog X.w H' h') (C:AllBare g')
 (t:∀b∈ch,(b∈X.ex\/X.s₀.heap.objs.size<=b)/\b≠X.env.locals/\(∀x c,X.env.cells.lookup x=some c->c≠b)/\∀p∈X.pn++pins,p.1≠b):
 Inv X pins σ H' {s with heap:=h',gens:=g',drawn:=d',toks:=t'}:=by
 obtain ⟨m,⟨o,es,ep,q,r⟩,_⟩:=id I.loc;obtain ⟨sl,h⟩:=u.any q I.free λz=>(t _ z).2.1 rfl
 exact I.step (ch:=ch) t (λb o h D g e n=>u.keep b o e n (λz=>(Qk.mp (I.stkSub b z)).elim h D) g) (λb o _ _ g e n=>u.any e n g) (λb o g e n=>u.free b o e n g) (λb o g e=>u.there b o e g) u.tups u.frzs u.tbls (λK hm=>by
  obtain ⟨J,E,G,y,A⟩:=hm;rw [q] at y;cases y
  exact ⟨_,E,G,h,A⟩) hok C
theorem Inv.turned {t':Nat} {it:Addr} (I:Inv X pins σ H s) (k:∀b o,b≠it->s.heap.get? b=some o->h'.get? b=some o) (hn:H it=none) (t:it≠X.env.locals)
 (D:it∈X.ex\/X.s₀.heap.objs.size<=it) (C:∀x c,X.env.cells.lookup x=some c->c≠it) (A:∀p∈X.pn++pins,p.1≠it):Inv X pins σ H {s with heap:=h',toks:=t'}:=by
 have h:∀b u,H b=some u->b≠it:=λb u e z=>by rw [z,hn] at e;cases e
 refine I.step (g':=s.gens) (d':=s.drawn) (ch:=[it]) (λb y=>?_) (λb o _ _ g e _=>k b o (λz=>g (by simp [z])) e) (λb o _ _ g e _=>⟨o.slots,k b o (λz=>g (by simp [z])) e⟩) (λ_ _ _ _ n=>n)
  (λb o g e=>⟨o,k b o (λz=>g (by simp [z])) e⟩) (λ_ _ e=>e) (λ_ _ _ e=>e) (λb ps e=>⟨#[],by rw [e];simp⟩) (λm hm=>?_) (λb u e=>?_) I.bare
 ·have e:b=it:=by simpa using y
  subst e;exact ⟨D,t,C,A⟩
 ·obtain ⟨o,es,ep,w,r⟩:=hm;exact ⟨o,es,ep,k _ o (Ne.symm t) w,r⟩
 ·refine (I.hok b u e).stay (λc v g q=>k c v ?_ q) (λ_ q=>q) λ_ _ q=>q
  rcases g with z|z
  ·rw [z];exact h b u e
  ·exact h c _ z
theorem Inv.tok (I:Inv X pins σ H s) (t:Nat):Inv X pins σ H {s with toks:=t}:=I.un (h':=s.heap) (t':=t) Un.refl I.hok
theorem Inv.kept {t':Nat} (I:Inv X pins σ H s) (k:∀b u,s.heap.get? b=some u->h'.get? b=some u):Inv X pins σ H {s with heap:=h',toks:=t'}:=I.un (Un.kept k) (I.hok.kept k)
theorem Inv.laid {a:Addr} {o:HO} {t':Nat} (I:Inv X pins σ H s) (k:∀b u,s.heap.get? b=some u->h'.get? b=some u) (hp:s.heap.objs.size<=a) (new:ZF X.prog X.w (upd H a o) h' a o):
 Inv X pins σ (upd H a o) {s with heap:=h',toks:=t'}:=I.un (Un.laid k hp (I.hok.fresh hp)) (I.hok.laid k hp new)
theorem Inv.write {x e:Addr} {o:HO} {t':Nat} (I:Inv X pins σ H s) (g:Mut (H x)) (he:e=x\/H e=some (.own x)) (k:∀b u,b≠e->s.heap.get? b=some u->h'.get? b=some u) (h:∃u,h'.get? e=some u)
 (new:ZF X.prog X.w (upd H x o) h' x o):Inv X pins σ (upd H x o) {s with heap:=h',toks:=t'}:=I.un (Un.write g he k h) (I.hok.write g he k h new)
theorem Inv.weak {σ':List (Option V)} (I:Inv X pins σ H s) (g:σ'.length=σ.length) (w:∀(i:Nat) v,σ'[i]? =some (some v)->σ[i]? =some (some v)):Inv X pins σ' H s:=
 ⟨I.ok,I.os,I.bare,I.base,let ⟨m,hn,r⟩:=I.loc;⟨m,hn,λi x v q p h=>r i x v q (w i v p) h⟩,I.cell,I.free,I.freeC,I.pin,I.hok,g.trans I.len⟩
theorem Inv.pins_of {g:List (Addr×Obj)} (I:Inv X pins σ H s) (h:∀p∈g,s.heap.get? p.1=some p.2/\H p.1=none/\p.1≠X.env.locals/\p.1∉X.fs/\∀v,p.2.data≠ .cell v):Inv X g σ H s:=
 ⟨I.ok,I.os,I.bare,I.base,I.loc,I.cell,I.free,I.freeC,λp hp=>(QX.mp hp).elim (λz=>I.pin p (jah _ z)) (h p),I.hok,I.len⟩
theorem kU {N:List Str} (g:N.Nodup) {i j:Nat} {x:Str} (a:N[i]? =some x) (b:N[j]? =some x):i=j:=by
 obtain ⟨q,m⟩:=Qg.mp a;obtain ⟨p,h⟩:=Qg.mp b;exact (List.getElem_inj g).mp (m.trans h.symm)
theorem mK {M:Model} {A:Around} {E:Value->Shared->Prop} {i:Nat} {x:Str} {v:V} {u:Value} {Q:Unit->Shared->Prop} (I:Inv X pins σ H s) (hN:X.N.Nodup) (K:X.N[i]? =some x) (D:Loc X.env.scope x) (r:ZE v u)
 (h:∀s',Inv X pins (σ.set i (some v)) H s'->(∃a,Heap.SameBut a s.heap s'.heap/\(a=X.env.locals\/X.env.cells.lookup x=some a))->Q () s') (hf:X.fn x=true\/X.env.scope.names.lookup x=some .local:=by walk_at "f"):wpAny M A (storeName X.env x u) Q E s:=by
 obtain ⟨m,hn,hl⟩:=id I.loc;have Nf:(X.env.scope.kind== .class||(X.env.scope.kind== .module && X.env.locals !=X.env.globals))=false:=by rw [I.ok.kind];rfl
 have Kσ:i<σ.length:=by rw [I.len];exact (Qg.mp K).1
 have cne:=I.cne
 have tracked:∀{a:Addr} {h':Heap},(∃o,s.heap.get? a=some o/\H a=none)->Heap.SameBut a s.heap h'->HOk X.prog X.w H h':=λ{a h'} ha g b ob e=>by
  obtain ⟨_,_,MI⟩:=ha;refine (I.hok b ob e).stay (λc T C q=>(g.2 c ?_).trans q) (λ_ q=>q) λ_ _ q=>q
  rintro rfl
  rcases C with rfl|C
  ·rw [MI] at e;cases e
  ·rw [MI] at C;cases C
 rcases D with J|J
 ·refine wpAny_storeName_local J hn (λh' Rq g=>?_) Nf;obtain ⟨oL,_,_,hoL,_⟩:=id hn;refine h _ ⟨I.ok,I.os,I.bare,⟨λb o e n O D=>?_,λb o e n O D=>?_,I.base.free,λb o e D=>?_,I.base.tups,I.base.frzs,I.base.tbls⟩,⟨_,Rq,λj y Y t G e3=>?_⟩,λy c e=>?_,I.free,I.freeC,λp hp=>?_,tracked ⟨oL,hoL,I.free⟩ g,by simpa using I.len⟩ ⟨_,g, .inl rfl⟩
  ·exact (g.2 b (QE (QJ (Qn e) I.ok.above))).trans (I.base.keep b o e n O D)
  ·obtain ⟨sl,t⟩:=I.base.slot b o e n O D;exact ⟨sl,(g.2 b (QE (QJ (Qn e) I.ok.above))).trans t⟩
  ·obtain ⟨o',t⟩:=I.base.there b o e D;exact ⟨o',(g.2 b (QE (QJ (Qn e) I.ok.above))).trans t⟩
  ·by_cases L:j=i
   ·subst L;rw [K] at t;cases t;rw [List.getElem?_set_self Kσ] at G;cases G;exact ⟨u,r, .inl ⟨J,by simp⟩⟩
   ·rw [jbd (Ne.symm L)] at G;obtain ⟨Z,r',q⟩:=hl j y Y t G e3;refine ⟨Z,r',?_⟩
    rcases q with ⟨k,e⟩|⟨k,c,e,z⟩
    ·refine .inl ⟨k,?_⟩;have:y≠x:=λe=>L (kU hN t (e▸K));simp [this,e]
    ·exact .inr ⟨k,c,e,z.sameBut g (cne y c e)⟩
  ·obtain ⟨T,z⟩:=I.cell y c e;exact ⟨T,z.sameBut g (cne y c e)⟩
  ·obtain ⟨e,n,ne,nf,d⟩:=I.pin p hp;exact ⟨(g.2 p.1 ne).trans e,n,ne,nf,d⟩
 ·have RG:X.fn x=true:=by
   rcases hf with z|z
   ·exact z
   ·rw [z] at J;cases J
  obtain ⟨c,C⟩:=I.ok.has x (.inl J);obtain ⟨T,z⟩:=I.cell x c C;refine wpAny_storeName_cell I.ok.kind J C z (λh' Kx g=>?_);obtain ⟨oc,P,Rm⟩:=id z;refine h {s with heap:=h'} ⟨I.ok,I.os,I.bare,⟨λb o e n O D=>?_,λb o e n O D=>?_,I.base.free,λb o e D=>?_,I.base.tups,I.base.frzs,I.base.tbls⟩,⟨m,hn.sameBut g (Ne.symm (cne x c C)),λj y Y t G e3=>?_⟩,λy U e=>?_,I.free,I.freeC,λp hp=>?_,tracked ⟨oc,P,I.freeC x c C⟩ g,by simpa using I.len⟩ ⟨c,g, .inr C⟩
  ·exact (g.2 b (QE (QJ (Qn e) (I.ok.cab x c RG C)))).trans (I.base.keep b o e n O D)
  ·obtain ⟨sl,t⟩:=I.base.slot b o e n O D;exact ⟨sl,(g.2 b (QE (QJ (Qn e) (I.ok.cab x c RG C)))).trans t⟩
  ·obtain ⟨o',t⟩:=I.base.there b o e D;exact ⟨o',(g.2 b (QE (QJ (Qn e) (I.ok.cab x c RG C)))).trans t⟩
  ·by_cases L:j=i
   ·subst L;rw [K] at t;cases t;rw [List.getElem?_set_self Kσ] at G;cases G;exact ⟨u,r, .inr ⟨.inl J,c,C,Kx⟩⟩
   ·rw [jbd (Ne.symm L)] at G;obtain ⟨Z,r',q⟩:=hl j y Y t G e3;refine ⟨Z,r',?_⟩
    rcases q with q|⟨k,U,e,z'⟩
    ·exact .inl q
    ·refine .inr ⟨k,U,e,z'.sameBut g ?_⟩
     rintro rfl
     exact L (kU hN t (I.ok.inj _ _ _ e C▸K))
  ·by_cases Pj:U=c
   ·subst Pj;exact ⟨_,Kx⟩
   ·obtain ⟨w2,z2⟩:=I.cell y U e;exact ⟨w2,z2.sameBut g Pj⟩
  ·obtain ⟨e,n,ne,nf,d⟩:=I.pin p hp;refine ⟨(g.2 p.1 ?_).trans e,n,ne,nf,d⟩;intro q;rw [q,P] at e;have q':oc=p.2:=QK e;exact d T (by rw [<-q'];exact Rm)
theorem Vi {M:Model} {A:Around} {E:Value->Shared->Prop} {i:Nat} {x:Str} {v:V} {u:Value} {Q:Unit->Shared->Prop} (I:Inv X pins σ H s) (p:X.N.Nodup) (m:X.N[i]? =some x) (g:Loc X.env.scope x) (r:ZE v u)
 (h:∀s',Inv X pins (σ.set i (some v)) H s'->Q () s') (hf:X.fn x=true\/X.env.scope.names.lookup x=some .local:=by walk_at "f"):wpAny M A (storeName X.env x u) Q E s:=
 mK I p m g r (λs' q _=>h s' q) hf
theorem Inv.call' {s':Shared} {ch:List Addr} (I:Inv X pins σ H s) (h:s'.os=s.os) (u:Un (frs X.stack) ch H H' s.heap s'.heap) (hok:HOk X.prog X.w H' s'.heap) (m:AllBare s'.gens)
 (q:∀b∈ch,(b∈X.ex\/X.s₀.heap.objs.size<=b)/\b≠X.env.locals/\(∀x c,X.env.cells.lookup x=some c->c≠b)/\∀p∈X.pn++pins,p.1≠b):Inv X pins σ H' s':=by
 obtain ⟨h',g',d',t',g⟩:=s';have e:g=s.os:=h;subst e;exact I.call (g':=g') (t':=t') (d':=d') u hok m q
end
abbrev XK:=Value->Option Addr->Hp->Prop
abbrev St:=List (Option V)
abbrev VK:=V->Hp->Prop
abbrev TE:=St->Hp->VK->Prop
abbrev TT:=St->Hp->(Bool->Hp->Prop)->Prop
abbrev TA:=St->Hp->(List V->Hp->Prop)->Prop
structure Ends where
 nx:St->Hp->Prop
 rt:VK
 bk:St->Hp->Prop:=λ_ _=>False
 ct:St->Hp->Prop:=λ_ _=>False
abbrev TS:=Ends->St->Hp->Prop
def EP (X:Cx) (pins:List (Addr×Obj)) (σ:St) (Q:VK) (u:Value) (s':Shared):Prop:=∃v H',Inv X pins σ H' s'/\ZE v u/\Q v H'
def TP (X:Cx) (pins:List (Addr×Obj)) (σ:St) (Q:Bool->Hp->Prop) (b:Bool) (s':Shared):Prop:=∃H',Inv X pins σ H' s'/\Q b H'
def AP (X:Cx) (pins:List (Addr×Obj)) (σ:St) (Q:List V->Hp->Prop) (us:List Value) (s':Shared):Prop:=∃vs H',Inv X pins σ H' s'/\xE vs us/\Q vs H'
def SP (X:Cx) (pins:List (Addr×Obj)) (D:Ends) (f:Flow) (s':Shared):Prop:=
 match f with
 | .next=>∃σ' H',Inv X pins σ' H' s'/\D.nx σ' H'
 | .brk=>∃σ' H',Inv X pins σ' H' s'/\D.bk σ' H'
 | .cont=>∃σ' H',Inv X pins σ' H' s'/\D.ct σ' H'
 | .ret u=>∃v σ' H',Inv X pins σ' H' s'/\ZE v u/\D.rt v H'
def PE (X:Cx) (e:Expr) (t:TE):Prop:=
 ∀(pins:List (Addr×Obj)) (s:Shared) (σ:St) (H:Hp) (Q:VK),Inv X pins σ H s->t σ H Q->wpAny (model X.prog X.w) X.A (eval e X.env) (EP X pins σ Q) X.xe s
def PT (X:Cx) (e:Expr) (t:TT):Prop:=
 ∀(pins:List (Addr×Obj)) (s:Shared) (σ:St) (H:Hp) (Q:Bool->Hp->Prop),Inv X pins σ H s->t σ H Q->wpAny (model X.prog X.w) X.A (isTrue e X.env (eval e X.env)) (TP X pins σ Q) X.xe s
def PW (X:Cx) (e:Expr) (t:TT):Prop:=
 ∀(whole:Sem Value) (pins:List (Addr×Obj)) (s:Shared) (σ:St) (H:Hp) (Q:Bool->Hp->Prop),Inv X pins σ H s->t σ H Q->wpAny (model X.prog X.w) X.A (isTrue e X.env whole) (TP X pins σ Q) X.xe s
theorem PW.pt {X:Cx} {e:Expr} {t:TT} (h:PW X e t):PT X e t:=h _
def PA (X:Cx) (es:List Expr) (t:TA):Prop:=
 ∀(pos:Pos) (pins:List (Addr×Obj)) (s:Shared) (σ:St) (H:Hp) (Q:List V->Hp->Prop),Inv X pins σ H s->t σ H Q->wpAny (model X.prog X.w) X.A (spliced (backTo pos (starEach es X.env))) (AP X pins σ Q) X.xe s
def PS (X:Cx) (st:Stmt) (t:TS):Prop:=
 ∀(pins:List (Addr×Obj)) (s:Shared) (σ:St) (H:Hp) (D:Ends),Inv X pins σ H s->t D σ H->wpAny (model X.prog X.w) X.A (exec st X.env) (SP X pins D) X.xe s
def PSs (X:Cx) (st:List Stmt) (t:TS):Prop:=
 ∀(pins:List (Addr×Obj)) (s:Shared) (σ:St) (H:Hp) (D:Ends),Inv X pins σ H s->t D σ H->wpAny (model X.prog X.w) X.A (execs st X.env) (SP X pins D) X.xe s
theorem thn {α:Type} {t:Sem α} {Q g:α->Shared->Prop} {M:Model} {A:Around} {E:Value->Shared->Prop} {s:Shared} (h:wpAny M A t Q E s) (m:∀a s,Q a s->g a s):wpAny M A t g E s:=wpAny_mono h m λ_ _ x=>x
end L2
namespace L2
open PySem PySem.Spec PyProof.Rows
section
variable {X:Cx}
def tVar (i:Nat):TE:=λσ H Q=>∃v,σ[i]? =some (some v)/\Q v H
def tC (v:V):TE:=λ_ H Q=>Q v H
theorem pe_var {i:Nat} {x:Str} {pos:Pos} (y:X.N[i]? =some x) (t:Vis X.env.scope x) (hd:(x==("__debug__":Str))=false:=by decide) (z:(x==("__classdict__":Str))=false:=by decide):PE X (.Name x pos) (tVar i):=by
 intro pins s σ H Q I h;obtain ⟨v,e,h⟩:=h;obtain ⟨m,hn,w⟩:=I.loc;obtain ⟨u,r,l⟩:=w i x v y e t;have fin:EP X pins σ Q u s:=⟨v,H,I,r,h⟩
 rcases l with ⟨g,hm⟩|⟨g,c,p,q⟩
 ·exact wpAny_Name (wpAny_loadName_local I.ok.kind g hn hm fin) hd
 ·rcases g with g|g
  ·exact wpAny_Name (wpAny_loadName_cell I.ok.kind g p q fin) hd
  ·exact wpAny_Name (wpAny_loadName_free I.ok.kind g p q fin z) hd
theorem Yb {i j pos}:PE X (.Constant (.int i) j pos) (tC (.int i)):=λ_ _ _ H _ I h=>wpAny_Constant_int ⟨.int i,H,I.tok _,⟨_,rfl⟩,h⟩
theorem pe_bl {b j pos}:PE X (.Constant (.bool b) j pos) (tC (.bl b)):=λ_ _ _ H _ I h=>Constant_bool ⟨.bl b,H,I,rfl,h⟩
theorem sr {j pos}:PE X (.Constant .none j pos) (tC .non):=λ_ _ _ H _ I h=>Constant_none ⟨.non,H,I,rfl,h⟩
theorem Xt {x j pos}:PE X (.Constant (.str x) j pos) (tC (.str x)):=λ_ _ _ H _ I h=>Calls.Constant_str ⟨.str x,H,I.tok _,⟨_,rfl⟩,h⟩
def Gl (X:Cx) (x:Str):Prop:=X.env.kindOf x=some .globalImplicit
theorem Up {E:Value->Shared->Prop} {pins:List (Addr×Obj)} {s:Shared} {σ:St} {H:Hp} {x:Str} {u:Value} {pos:Pos} {Q:Value->Shared->Prop} (I:Inv X pins σ H s) (g:Gl X x) (hm:X.mg x=some u) (h:Q u s)
 (hd:(x==("__debug__":Str))=false:=by decide):wpAny (model X.prog X.w) X.A (eval (.Name x pos) X.env) Q E s:=
 Calls.Name_function_global I.ok.kind g (Calls.loadGlobal_global (by rw [I.ok.glob];exact I.mod.glob.keeps I.bk) hm h) hd
theorem Wm {E:Value->Shared->Prop} {pins:List (Addr×Obj)} {s:Shared} {σ:St} {H:Hp} {x:Str} {u:Value} {pos:Pos} {Q:Value->Shared->Prop} (I:Inv X pins σ H s) (m:Gl X x) (hm:X.mg x=none) (g:bootBuiltins x=some u) (h:Q u s)
 (hn:x≠"__name__":=by decide) (hd:(x==("__debug__":Str))=false:=by decide):wpAny (model X.prog X.w) X.A (eval (.Name x pos) X.env) Q E s:=by
 obtain ⟨r,q,p⟩:=I.mod.blt;exact Calls.Name_function_global I.ok.kind m (Calls.loadGlobal_builtin (by rw [I.ok.glob];exact I.mod.glob.keeps I.bk) hm (by rw [I.ok.blt];exact q.keeps I.bk) ((p x hn).trans g) h) hd
theorem WQ {x:Str} {v:V} {u:Value} {pos:Pos} (g:Gl X x) (hm:X.mg x=some u) (r:ZE v u) (hd:(x==("__debug__":Str))=false:=by decide):PE X (.Name x pos) (tC v):=
 λ_ _ _ H _ I h=>Up I g hm ⟨v,H,I,r,h⟩ hd
theorem Ig {x:Str} {v:V} {u:Value} {pos:Pos} (m:Gl X x) (hm:X.mg x=none) (g:bootBuiltins x=some u) (r:ZE v u) (hn:x≠"__name__":=by decide) (hd:(x==("__debug__":Str))=false:=by decide):PE X (.Name x pos) (tC v):=
 λ_ _ _ H _ I h=>Wm I m hm g ⟨v,H,I,r,h⟩ hn hd
variable {a b:Expr} {ta tb:TE} {pos:Pos}
def tB (t:TE):TT:=λσ H Q=>t σ H λx H1=>∃c,x= .bl c/\Q c H1
theorem UJ {e:Expr} {t:TE} (h:PE X e t) (he:∀whole,isTrue e X.env whole=(do let v<-whole;standAt e.pos;holding [v] (truthy v)):=by intro _;rfl):PT X e (tB t):=by
 intro pins s σ H Q I hw;refine isTrue_plain (thn (h pins s σ H _ I hw) λv s1 ⟨x,H1,p,g,m⟩=>?_) (he _);obtain ⟨d,rfl,q⟩:=m;cases g;exact jbK ⟨H1,p,q⟩
variable {tA tB':TT} {pA:List Expr}
def tAnd (t u:TT):TT:=λσ H Q=>t σ H λc H1=>if c=true then u σ H1 Q else Q false H1
def tOr (t u:TT):TT:=λσ H Q=>t σ H λc H1=>if c=true then Q true H1 else u σ H1 Q
def tNot (t:TT):TT:=λσ H Q=>t σ H λc H1=>Q (!c) H1
theorem pw_and1 (ha:PT X a tA):PW X (.BoolOp .And [a] pos) tA:=by
 intro wh pins s σ H Q I h;refine isTrue_and (thn (ha pins s σ H Q I h) λc s1 e=>?_)
 cases c with
 |true=>exact isTrue_and_nil e
 |false=>exact e
theorem sk (ha:PT X a tA):PW X (.BoolOp .Or [a] pos) tA:=by
 intro wh pins s σ H Q I h;refine isTrue_or (thn (ha pins s σ H Q I h) λc s1 e=>?_)
 cases c with
 |false=>exact isTrue_or_nil e
 |true=>exact e
theorem pw_and (ha:PT X a tA) (q:PW X (.BoolOp .And (b::pA) pos) tB'):PW X (.BoolOp .And (a::b::pA) pos) (tAnd tA tB'):=by
 intro wh pins s σ H Q I h;refine isTrue_and (thn (ha pins s σ H _ I h) λc s1 p=>?_);obtain ⟨H1,m,g⟩:=p
 cases c with
 |true=>exact q wh pins s1 σ H1 Q m g
 |false=>exact ⟨H1,m,g⟩
theorem AR (ha:PT X a tA) (q:PW X (.BoolOp .Or (b::pA) pos) tB'):PW X (.BoolOp .Or (a::b::pA) pos) (tOr tA tB'):=by
 intro wh pins s σ H Q I h;refine isTrue_or (thn (ha pins s σ H _ I h) λc s1 p=>?_);obtain ⟨H1,m,g⟩:=p
 cases c with
 |true=>exact ⟨H1,m,g⟩
 |false=>exact q wh pins s1 σ H1 Q m g
theorem Gy (ha:PT X a tA):PT X (.UnaryOp .Not a pos) (tNot tA):=by
 intro pins s σ H Q I h;exact isTrue_not (ha pins s σ H (λc H1=>Q (!c) H1) I h)
def tAndV (ta tb:TE):TE:=λσ H Q=>ta σ H λx H1=>∃c,x= .bl c/\if c=true then tb σ H1 Q else Q (.bl false) H1
def tNotV (ta:TE):TE:=λσ H Q=>ta σ H λx H1=>∃c,x= .bl c/\Q (.bl (!c)) H1
theorem pe_one {op} {t:TE} (h:PE X a t):PE X (.BoolOp op [a] pos) t:=λpins s σ H Q I hw=>BoolOp_one (h pins s σ H Q I hw)
theorem pe_and (ha:PE X a ta) (r:PE X (.BoolOp .And (b::pA) pos) tb):PE X (.BoolOp .And (a::b::pA) pos) (tAndV ta tb):=by
 intro pins s σ H Q I h;refine BoolOp_and (thn (ha pins s σ H _ I h) λv s1 q=>?_);obtain ⟨x,H1,m,p,g⟩:=q;obtain ⟨c,rfl,g⟩:=g;cases p;refine jbK ?_
 cases c with
 |true=>exact r pins s1 σ H1 Q m g
 |false=>exact ⟨.bl false,H1,m,rfl,g⟩
theorem pe_not (ha:PE X a ta):PE X (.UnaryOp .Not a pos) (tNotV ta):=by
 intro pins s σ H Q I h;refine UnaryOp_ (thn (ha pins s σ H _ I h) λv s1 p=>?_);obtain ⟨x,H1,q,m,g⟩:=p;obtain ⟨c,rfl,g⟩:=g;cases m;exact not_of (jbK ⟨.bl (!c),H1,q,rfl,g⟩)
end
end L2
namespace L2
open PySem PySem.Spec PyProof.Rows
def SqL (K:PySem.W.Frag) (H:Hp) (a:Addr) (xs:List V):Prop:=
 Rd H a (.lst xs)\/
  ∃(o:Obj) (its:Array Value) (n:Nat),K.lookup a=some o/\o.cls= .type "list"/\o.dict=none/\o.data= .seq its n/\its.size<=sizeLine/\xE xs its.toList
def SqT (K:PySem.W.Frag) (H:Hp) (a:Addr) (xs:List V):Prop:=
 Rd H a (.tup xs)\/
  ∃(o:Obj) (its:Array Value) (n:Nat),K.lookup a=some o/\o.cls= .type "tuple"/\o.data= .seq its n/\its.size<=sizeLine/\xE xs its.toList
def absV:Value->Option V
 | .none=>some .non
 | .bool b=>some (.bl b)
 | .int i _=>some (.int i)
 | .str x _=>some (.str x)
 | .bytes b _=>some (.byt b)
 | .float b _=>some (.flt b)
 | .ref a=>some (.ref a)
 | .type n=>some (.ty n)
 |_=>none
theorem ZE.abs {x:V} {u:Value} (r:ZE x u):absV u=some x:=by
 cases x with
 |non=>cases r;rfl
 |bl _=>cases r;rfl
 |int _=>obtain ⟨t,rfl⟩:=r;rfl
 |str _=>obtain ⟨t,rfl⟩:=r;rfl
 |byt _=>obtain ⟨t,rfl⟩:=r;rfl
 |flt _=>obtain ⟨t,rfl⟩:=r;rfl
 |ref _=>cases r;rfl
 |ty _=>cases r;rfl
theorem ZE.inj {x y:V} {u:Value} (r:ZE x u) (q:ZE y u):x=y:=QK (r.abs.symm.trans q.abs)
theorem xE.inj {xs ys:List V} {us:List Value} (h:xE xs us) (g:xE ys us):xs=ys:=by
 induction h generalizing ys with
 |nil=>cases g;rfl
 |cons r t p=>
  cases g with
  |cons m t'=>rw [r.inj m,p t']
section
variable {X:Cx} {pins:List (Addr×Obj)} {σ:St} {H:Hp} {s:Shared} {a:Addr} {xs ys:List V}
theorem SqL.of {K:PySem.W.Frag} (h:H a=some (.lst xs)):SqL K H a xs:= .inl (.inl h)
theorem SqT.of {K:PySem.W.Frag} (h:H a=some (.tup xs)):SqT K H a xs:= .inl (.inl h)
theorem Inv.list (I:Inv X pins σ H s) (h:SqL X.K H a xs):∃its:List Value,xE xs its/\PlainL s.heap a its.toArray/\xs.length<=sizeLine:=by
 rcases h with h|⟨o,its,n,m,p,hd,g,hz,r⟩
 ·obtain ⟨z,its,n,r,e⟩:=h.ok I.hok;exact ⟨its,r,⟨_,n,e,rfl,rfl,rfl⟩,z⟩
 ·refine ⟨its.toList,r,⟨o,n,I.kIn a o m,p,hd,by simpa using g⟩,?_⟩;have e:=r.length;simp only [jac] at e;omega
theorem Inv.tuple (I:Inv X pins σ H s) (h:SqT X.K H a xs):∃its:List Value,xE xs its/\IsTup s.heap a its.toArray/\xs.length<=sizeLine:=by
 rcases h with h|⟨o,its,n,m,q,g,hz,r⟩
 ·obtain ⟨z,its,r,p⟩:=h.ok I.hok;exact ⟨its,r,p,z⟩
 ·refine ⟨its.toList,r,⟨o,I.kIn a o m,q,n,by simpa using g⟩,?_⟩;have e:=r.length;simp only [jac] at e;omega
theorem Inv.list_inj (I:Inv X pins σ H s) (h:SqL X.K H a xs) (h':SqL X.K H a ys):xs=ys:=by
 obtain ⟨its,r,⟨o,n,e,_,_,d⟩,_⟩:=I.list h;obtain ⟨its',m,⟨q,t,g,_,_,d'⟩,_⟩:=I.list h';rw [e] at g;cases g;rw [d] at d'
 injection d' with p _
 have:its=its':=by simpa using congrArg Array.toList p
 subst this;exact r.inj m
theorem Inv.tuple_inj (I:Inv X pins σ H s) (h:SqT X.K H a xs) (h':SqT X.K H a ys):xs=ys:=by
 obtain ⟨its,r,⟨o,e,_,n,d⟩,_⟩:=I.tuple h;obtain ⟨its',m,⟨q,g,_,t,d'⟩,_⟩:=I.tuple h';rw [e] at g;cases g;rw [d] at d'
 injection d' with p _
 have:its=its':=by simpa using congrArg Array.toList p
 subst this;exact r.inj m
end
abbrev Cx.wish (X:Cx) (E:Value->Shared->Prop):Cx:={X with xe:=E}
abbrev Cx.nox (X:Cx):Cx:=X.wish λ_ _=>False
theorem Cx.Ok.wish {X:Cx} (ok:X.Ok) (E:Value->Shared->Prop):(X.wish E).Ok:=
 ⟨ok.mod,ok.kind,ok.glob,ok.blt,ok.above,ok.inj,ok.has,ok.cab,ok.hd,ok.frames,ok.stk,ok.exf,ok.bs,ok.bsz,ok.noex,ok.exfs,ok.funs,ok.frf⟩
theorem Cx.Ok.unwish {X:Cx} {E:Value->Shared->Prop} (ok:(X.wish E).Ok):X.Ok:=
 ⟨ok.mod,ok.kind,ok.glob,ok.blt,ok.above,ok.inj,ok.has,ok.cab,ok.hd,ok.frames,ok.stk,ok.exf,ok.bs,ok.bsz,ok.noex,ok.exfs,ok.funs,ok.frf⟩
section
variable {X:Cx} {pins:List (Addr×Obj)} {σ:St} {H:Hp} {s:Shared} {E:Value->Shared->Prop}
theorem Inv.wish (I:Inv X pins σ H s) (E:Value->Shared->Prop):Inv (X.wish E) pins σ H s:=⟨I.ok.wish E,I.os,I.bare,I.base,I.loc,I.cell,I.free,I.freeC,I.pin,I.hok,I.len⟩
theorem Inv.unwish (I:Inv (X.wish E) pins σ H s):Inv X pins σ H s:=⟨I.ok.unwish,I.os,I.bare,I.base,I.loc,I.cell,I.free,I.freeC,I.pin,I.hok,I.len⟩
theorem SP.unwish {D:Ends} {f:Flow} {s':Shared} (h:SP (X.wish E) pins D f s'):SP X pins D f s':=by
 cases f with
 |next=>obtain ⟨σ',H',I,q⟩:=h;exact ⟨σ',H',I.unwish,q⟩
 |brk=>obtain ⟨σ',H',I,q⟩:=h;exact ⟨σ',H',I.unwish,q⟩
 |cont=>obtain ⟨σ',H',I,q⟩:=h;exact ⟨σ',H',I.unwish,q⟩
 |ret u=>obtain ⟨v,σ',H',I,r,q⟩:=h;exact ⟨v,σ',H',I.unwish,r,q⟩
theorem PSs.nox {st:List Stmt} {t:TS} (h:PSs X.nox st t):PSs X st t:=λpins s σ H D I hw=>
 wpAny_mono (h pins s σ H D (I.wish _) hw) (λ_ _ q=>q.unwish) λ_ _ z=>False.elim z
end
section
variable {X:Cx} {st:Stmt} {pA:List Stmt} {t u:TS} {e:Expr} {te:TE} {pos:Pos}
def tNext:TS:=λD σ H=>D.nx σ H
def tSeq (t u:TS):TS:=λD σ H=>t {D with nx:=u D} σ H
theorem yQ:PSs X [] tNext:=λ_ _ σ H _ I h=>wpAny_execs_nil ⟨σ,H,I,h⟩
theorem zK (m:PS X st t) (g:PSs X pA u):PSs X (st::pA) (tSeq t u):=by
 intro pins s σ H D I h;refine wpAny_execs_cons (thn (m pins s σ H {D with nx:=u D} I h) λf s1 q=>?_)
 cases f with
 |next=>
  obtain ⟨σ',H',p,q⟩:=q;exact g pins s1 σ' H' D p q
 |ret v=>exact q
 |brk=>exact q
 |cont=>exact q
theorem zJ (g:PS X st t):PSs X [st] t:=by
 intro pins s σ H D I h;refine wpAny_execs_cons (thn (g pins s σ H D I h) λf s1 q=>?_)
 cases f with
 |next=>exact wpAny_execs_nil q
 |ret v=>exact q
 |brk=>exact q
 |cont=>exact q
theorem Inv.quiet {pins:List (Addr×Obj)} {σ:St} {H:Hp} {s:Shared} (I:Inv X pins σ H s):interactive X.env=false:=by simp [interactive,I.ok.kind]
def tDrop (te:TE):TS:=λD σ H=>te σ H λ_ H1=>D.nx σ H1
theorem Zh (he:PE X e te) (m:swapsWith e none pos.line X.env=pure false:=by rfl):PS X (.Expr e pos) (tDrop te):=by
 intro pins s σ H D I h;exact wpAny_Expr_any (thn (he pins s σ H _ I h) λv s1 ⟨x,H1,p,q,g⟩=>⟨σ,H1,p,g⟩) I.quiet m
def tRet (te:TE):TS:=λD σ H=>te σ H D.rt
theorem ZR (he:PE X e te):PS X (.Return (some e) pos) (tRet te):=by
 intro pins s σ H D I h;exact wpAny_Return_some (thn (he pins s σ H _ I h) λv s1 ⟨x,H1,p,g,m⟩=>⟨x,σ,H1,p,g,m⟩)
def tIfS (c:TT) (t u:TS):TS:=λD σ H=>c σ H λb H1=>if b=true then t D σ H1 else u D σ H1
theorem YI {c:Expr} {a b:List Stmt} {g:TT} (r:PT X c g) (ha:PSs X a t) (w:PSs X b u):PS X (.If c a b pos) (tIfS g t u):=by
 intro pins s σ H D I h;refine wpAny_If (thn (r pins s σ H _ I h) λd s1 q=>?_);obtain ⟨H1,p,m⟩:=q
 cases d with
 |true=>exact ha pins s1 σ H1 D p m
 |false=>exact w pins s1 σ H1 D p m
def tNever:TS:=λ_ _ _=>False
theorem UK:PS X st tNever:=λ_ _ _ _ _ _ h=>h.elim
end
abbrev TG:=V->St->Hp->(St->Hp->Prop)->Prop
abbrev TGs:=List V->St->Hp->(St->Hp->Prop)->Prop
def PG (X:Cx) (target:Expr) (t:TG):Prop:=
 ∀(pins:List (Addr×Obj)) (s:Shared) (σ:St) (H:Hp) (v:V) (u:Value) (Q:St->Hp->Prop),Inv X pins σ H s->ZE v u->t v σ H Q->
  wpAny (model X.prog X.w) X.A (assign target X.env u) (λ_ s'=>∃σ' H',Inv X pins σ' H' s'/\Q σ' H') X.xe s
def PGs (X:Cx) (g:List Expr) (t:TGs):Prop:=
 ∀(pins:List (Addr×Obj)) (s:Shared) (σ:St) (H:Hp) (vs:List V) (us:List Value) (Q:St->Hp->Prop),Inv X pins σ H s->xE vs us->t vs σ H Q->
  wpAny (model X.prog X.w) X.A (assignInOrder ((assignEach g X.env).map (·.2)) us) (λ_ s'=>∃σ' H',Inv X pins σ' H' s'/\Q σ' H') X.xe s
abbrev TSet:=V->V->V->Hp->(Hp->Prop)->Prop
def PSet (X:Cx) (t:TSet):Prop:=
 ∀(pins:List (Addr×Obj)) (s:Shared) (σ:St) (H:Hp) (o i v:V) (g h u:Value) (Q:Hp->Prop),Inv X pins σ H s->ZE o g->ZE i h->ZE v u->t o i v H Q->
  wpAny (model X.prog X.w) X.A (setItem g h u) (λ_ s'=>∃H',Inv X pins σ H' s'/\Q H') X.xe s
abbrev TIp:=V->V->Hp->VK->Prop
def PIp (X:Cx) (op:Operator) (t:TIp):Prop:=
 ∀(pins:List (Addr×Obj)) (s:Shared) (σ:St) (H:Hp) (x y:V) (v u:Value) (Q:VK),Inv X pins σ H s->ZE x v->ZE y u->t x y H Q->
  wpAny (model X.prog X.w) X.A (inplaceOp op v u) (EP X pins σ Q) X.xe s
section
variable {X:Cx} {pos:Pos}
def lJ (i:Nat):TG:=λv σ H Q=>Q (σ.set i (some v)) H
theorem qg {i:Nat} {x:Str} (p:X.N.Nodup) (m:X.N[i]? =some x) (g:Loc X.env.scope x) (hf:X.fn x=true\/X.env.scope.names.lookup x=some .local:=by walk_at "f"):PG X (.Name x pos) (lJ i):=by
 intro pins s σ H v u Q I r h;exact wpAny_assign_Name (Vi I p m g r (λs' q=>⟨_,H,q,h⟩) hf)
def gNil:TGs:=λvs σ H Q=>vs=[]/\Q σ H
def gCons (t:TG) (u:TGs):TGs:=λvs σ H Q=>∃v r,vs=v::r/\t v σ H λσ' H'=>u r σ' H' Q
theorem HZ:PGs X [] gNil:=by
 intro pins s σ H vs us Q I r h;obtain ⟨e,h⟩:=h;subst e;cases r;exact assignInOrder_nil ⟨σ,H,I,h⟩
theorem so {e:Expr} {es:List Expr} {t:TG} {u:TGs} (y:PG X e t) (w:PGs X es u)
 (p:(assignEach (e::es) X.env).map (·.2)=assign e X.env::(assignEach es X.env).map (·.2):=by rfl):PGs X (e::es) (gCons t u):=by
 intro pins s σ H vs us Q I r h;obtain ⟨v,C,z,h⟩:=h;subst z
 cases r with
 |cons r g=>
  rw [p];refine assignInOrder_cons (thn (y pins s σ H _ _ _ I r h) λ_ s1 q=>?_);obtain ⟨σ1,H1,A,m⟩:=q;exact w pins s1 σ1 H1 _ _ Q A g m
def gTup (K:PySem.W.Frag) (n:Nat) (t:TGs):TG:=λv σ H Q=>∃a xs,v= .ref a/\SqT K H a xs/\xs.length=n/\t xs σ H Q
theorem pg_tup {es:List Expr} {k:Nat} {t:TGs} {n:Nat} (w:X.calm=true) (h:PGs X es t)
 (hn:(assignEach es X.env).length=n:=by rfl) (z:(assignEach es X.env).findIdx? (·.1)=none:=by rfl):PG X (.Tuple es k pos) (gTup X.K n t):=by
 intro pins s σ H v u Q I r hw;obtain ⟨a,xs,y,p,q,hw⟩:=hw;subst y;cases r;obtain ⟨its,g,ht,hz⟩:=I.tuple p;refine assign_Tuple_tuple (I.ok.hd w) ht (by simp [hn,<-q,g.length]) z λh' m=>?_;have A:Inv X pins σ H {s with heap:=h'}:=I.kept (t':=s.toks) λb o e=>m b o (QE (Qn e)) e;exact h pins _ σ H xs _ Q A (by simpa using g) hw
def gSub (to g:TE) (t:TSet):TG:=λv σ H Q=>to σ H λo H1=>g σ H1 λi m=>t o i v m λh=>Q σ h
theorem pg_sub {o i:Expr} {to q:TE} {t:TSet} (G:PE X o to) (J:PE X i q) (E:PSet X t)
 (ha:∀v,assign (.Subscript o i pos) X.env v=(do
  let g<-holding [v] (eval o X.env)
  let m<-holding [v,g] (eval i X.env)
  standAt pos
  holding [v,g,m] (setItem g m v)
  release [v,g,m] []):=by intro _;rfl):PG X (.Subscript o i pos) (gSub to q t):=by
 intro pins s σ H v u Q I r h;rw [ha];refine Qd (jau (thn (G pins s σ H _ I h) λg s1 p=>?_));obtain ⟨x,H1,M,z,D⟩:=p;refine Qd (jau (thn (J pins s1 σ H1 _ M D) λm s2 p=>?_));obtain ⟨y,O,L,w,C⟩:=p;refine Qd (wpAny_standAt (Qd (jau (thn (E pins s2 σ O x y v g m u _ L z w r C) λ_ s3 p=>?_))));obtain ⟨N,K,A⟩:=p;exact wpAny_release ⟨σ,N,K,A⟩
def Jm (h:TE) (g:TG):TS:=λD σ H=>h σ H λx H1=>g x σ H1 D.nx
theorem ps_asg {m e:Expr} {p:TE} {g:TG} (he:PE X e p) (w:PG X m g) (u:swapsWithSole [m] e pos.line X.env=pure false:=by rfl) (hw:swappedStores [m] e X.env=pure none:=by rfl)
 (y:(assignEach [m] X.env).map (·.2)=[assign m X.env]:=by rfl):PS X (.Assign [m] e pos) (Jm p g):=by
 intro pins s σ H D I h;refine wpAny_Assign_stores (thn (he pins s σ H _ I h) λv s1 ⟨x,H1,z,r,t⟩=>?_) u hw;rw [y];exact thn (w pins s1 σ H1 x v _ z r t) λ_ s2 q=>q
theorem ps_set {i:Nat} {x:Str} {e:Expr} {g:TE} {pos':Pos} (u:X.N.Nodup) (t:X.N[i]? =some x) (q:Loc X.env.scope x) (he:PE X e g) (r:swapsWith e (some (.Name x pos')) pos.line X.env=pure false:=by rfl) (hf:X.fn x=true\/X.env.scope.names.lookup x=some .local:=by walk_at "f"):
 PS X (.Assign [.Name x pos'] e pos) (Jm g (lJ i)):=by
 intro pins s σ H D I h;refine wpAny_Assign_Name (thn (he pins s σ H _ I h) λv s1 ⟨y,H1,z,m,p⟩=>?_) r;exact Vi z u t q m (λs2 w=>⟨_,H1,w,p⟩) hf
def tPar (i j:Nat) (g:TA):TS:=λD σ H=>g σ H λvs H1=>∃v w,vs=[v,w]/\D.nx ((σ.set i (some v)).set j (some w)) H1
theorem ps_par {i j:Nat} {x y:Str} {a b:Expr} {u:TA} {t py pt:Pos} {kt k2 PB} (U:X.calm=true) (E:X.N.Nodup) (Q:X.N[i]? =some x) (P:X.N[j]? =some y) (Z:i≠j)
 (C:X.env.scope.names.lookup x=some .local) (z:X.env.scope.names.lookup y=some .local) (ha:PA X [a,b] u)
 (hw:swappedStores [.Tuple [.Name x t, .Name y py] kt pt] (.Tuple [a,b] k2 PB) X.env=pure (some [x,y]))
 (O:swapsWithSole [.Tuple [.Name x t, .Name y py] kt pt] (.Tuple [a,b] k2 PB) pos.line X.env=pure false:=by rfl):
 PS X (.Assign [.Tuple [.Name x t, .Name y py] kt pt] (.Tuple [a,b] k2 PB) pos) (tPar i j u):=by
 intro pins s σ H D I h;rw [exec_Assign_arm];refine Qd (wpAny_standAt ?_);rw [O];refine Qd (Ql ?_);rw [QS (by decide)];refine Qd (Tuple_ (thn (ha _ pins s σ H _ I h) λus s1 T=>?_));obtain ⟨vs,H1,I1,K,r⟩:=T;obtain ⟨v,w,Y,r⟩:=r;subst Y
 obtain ⟨m,g,rfl,J,LO⟩:∃m g,us=[m,g]/\ZE v m/\ZE w g:=by
  cases K with
  |cons p q=>
   cases q with
   |cons M L=>
    cases L;exact ⟨_,_,rfl,p,M⟩
 refine TU ?_ (by show 2<=sizeLine;decide);have I2:Inv X pins σ H1 {s1 with heap:=s1.heap.push {cls:= .type "tuple",data:= .seq [m,g].toArray}}:=I1.kept (t':=s1.toks) λb o e=>Qh _ e;rw [hw];refine Qd (Ql ?_);show wpAny (model X.prog X.w) X.A (do rule "assign.swapped-stores";let items<-unpackItems (.ref s1.heap.objs.size) 2 none;assignInOrder [λv=>bindName X.env y v,λv=>bindName X.env x v] items.reverse;pure Flow.next) _ _ _;refine Qd (jbL (Qd (unpackItems_tuple (items:=#[m,g]) (I.ok.hd U) (IsTup.new s1.heap _) λh' Ky=>?_)));have I3:=I2.kept (h':=h') (t':=s1.toks) λb o e=>Ky b o (QE (Qn e)) e;show wpAny _ _ (assignInOrder [λv=>bindName X.env y v,λv=>bindName X.env x v] [g,m]>>=λ_=>pure Flow.next) _ _ _;refine Qd (assignInOrder_cons (wpAny_bindName (Vi I3 E P (.inl z) LO (λs2 I4=>?_) (.inr z))));refine assignInOrder_cons (wpAny_bindName (Vi I4 E Q (.inl C) J (λs3 G=>assignInOrder_nil (Ql ?_)) (.inr C)));rw [List.set_comm _ _ (Ne.symm Z)] at G;exact ⟨_,H1,G,r⟩
def tAug (i:Nat) (h:TE) (g:TIp):TS:=λD σ H=>∃x,σ[i]? =some (some x)/\h σ H λy H1=>g x y H1 λz m=>D.nx (σ.set i (some z)) m
theorem ps_aug {i:Nat} {x:Str} {e:Expr} {E:TE} {op:Operator} {C:TIp} {pos':Pos} (T:X.N.Nodup) (G:X.N[i]? =some x) (q:Loc X.env.scope x) (he:PE X e E) (O:PIp X op C) (hf:X.fn x=true\/X.env.scope.names.lookup x=some .local:=by walk_at "f"):
 PS X (.AugAssign (.Name x pos') op e pos) (tAug i E C):=by
 intro pins s σ H D I h;obtain ⟨v,U,h⟩:=h;obtain ⟨m,hn,P⟩:=I.loc
 have p:Vis X.env.scope x:=by rcases q with k|k;exact .inl k;exact .inr (.inl k)
 obtain ⟨u,r,l⟩:=P i x v G U p;refine wpAny_AugAssign_Name ?_
 have go:wpAny (model X.prog X.w) X.A (eval e X.env) (λw s₂=>wpAny (model X.prog X.w) X.A (inplaceOp op u w) (λr s₃=>wpAny (model X.prog X.w) X.A (storeName X.env x r) (λ_=>SP X pins D .next) X.xe s₃) X.xe s₂) X.xe s:=by
  refine thn (he pins s σ H _ I h) λw s1 t=>?_;obtain ⟨y,H1,I1,K,M⟩:=t;refine thn (O pins s1 σ H1 v y u w _ I1 r K M) λz s2 t=>?_;obtain ⟨zv,H2,I2,J,L⟩:=t;exact Vi I2 T G q J (λs3 Z=>⟨_,H2,Z,L⟩) hf
 rcases l with ⟨g,hm⟩|⟨g,c,Q,Y⟩
 ·exact wpAny_loadName_local I.ok.kind g hn hm go
 ·rcases g with g|g
  ·exact wpAny_loadName_cell I.ok.kind g Q Y go
  ·rcases q with k|k
   ·have:X.env.scope.names.lookup x=some .free:=g;rw [k] at this;cases this
   ·have:X.env.scope.names.lookup x=some .free:=g;rw [k] at this;cases this
def ipI (f:Int->Int->Int):TIp:=λx y H Q=>∃i j,x= .int i/\y= .int j/\Q (.int (f i j)) H
theorem ip_add:PIp X .Add (ipI λi j=>i+j):=by
 intro pins s σ H x y v u Q I r1 r2 h;obtain ⟨i,j,m,g,q⟩:=h;subst m;subst g;obtain ⟨t,rfl⟩:=r1;obtain ⟨t',rfl⟩:=r2;exact iadd_int ⟨.int _,H,I.tok _,⟨_,rfl⟩,q⟩
end
section
variable {X:Cx} {pos:Pos}
def wI (c:TT) (h:TS):TS:=λD σ H=>∃W:Nat->St->Hp->Prop,(∃m,W m σ H)/\∀m σ H,W m σ H->
 c σ H λb H1=>if b=true then ∃N:St->Hp->Prop,(∀σ' H',N σ' H'->∃g,g<m/\W g σ' H')/\h {D with nx:=N,ct:=N,bk:=D.nx} σ H1 else D.nx σ H1
theorem ps_while {c:Expr} {body:List Stmt} {y:TT} {z:TS} (hp:PassesOwn (model X.prog X.w) X.A X.env X.xe) (L:PT X c y) (M:PSs X body z):PS X (.While c body [] pos) (wI y z):=by
 intro pins s σ H D I h;obtain ⟨W,⟨m0,J⟩,turn⟩:=h;refine wpAny_While (codeAny_whileLoop (λn s'=>∃σ' H',Inv X pins σ' H' s'/\W n σ' H') ?_ m0 ⟨σ,H,I,J⟩)
 rintro n s1 ⟨σ1,H1,I1,w1⟩
 refine jbe hp (thn (L pins s1 σ1 H1 _ I1 (turn n σ1 H1 w1)) λb s2 K=>?_);obtain ⟨G,E,p⟩:=K
 cases b with
 |true=>
  obtain ⟨N,C,p⟩:=p;rw [QH rfl];refine jbe hp (thn (M pins s2 σ1 G _ E p) λf s3 m=>?_)
  cases f with
  |next=>
   obtain ⟨σ3,g,u,r⟩:=m;obtain ⟨t,hm,q⟩:=C σ3 g r;exact ⟨t,hm,σ3,g,u,q⟩
  |cont=>
   obtain ⟨σ3,g,u,r⟩:=m;obtain ⟨t,hm,q⟩:=C σ3 g r;exact ⟨t,hm,σ3,g,u,q⟩
  |brk=>exact m
  |ret v=>exact m
 |false=>
  rw [QS Qy];exact wpAny_execs_nil ⟨σ1,G,E,p⟩
end
structure It where
 go:Nat->Hp->Prop
 yld:Nat->Hp->V->Hp->Prop
 stop:Nat->Hp->Prop
def rE (X:Cx) (pins:List (Addr×Obj)) (H:Hp) (b:Addr):Prop:=
 H b=none/\b≠X.env.locals/\b∉X.fs/\(b∈X.ex\/X.s₀.heap.objs.size<=b)/\(∀x c,X.env.cells.lookup x=some c->c≠b)/\∀p∈X.pn++pins,p.1≠b
theorem Inv.fpOk {X:Cx} {pins:List (Addr×Obj)} {σ:St} {H H':Hp} {s:Shared} {b:Addr} (I:Inv X pins σ H s) (g:s.heap.objs.size<=b) (hn:H' b=none):rE X pins H' b:=by
 refine ⟨hn,jaz (QJ I.lt g),I.nofs g, .inr (QT I.sz g),λx c e z=>?_,λp hp z=>?_⟩
 ·obtain ⟨v,q⟩:=I.cell x c e;exact absurd (QJ q.lt (by rw [z];exact g)) (jaf _)
 ·exact absurd (QJ (Qn (I.pin p hp).1) (by rw [z];exact g)) (jaf _)
structure Turn (P:Program) (w:World) (K:PySem.W.Frag) (tg:Expr) (J:It) (fp:List Addr) (it:Addr) (tn:Nat->Heap->Prop):Prop where
 mem:it∈fp
 obj:∀i h,tn i h->∀b∈fp,∃o,h.get? b=some o/\∀v,o.data≠ .cell v
 keep:∀i h h',tn i h->(∀b∈fp,∀o,h.get? b=some o->h'.get? b=some o)->tn i h'
 item:∀(X:Cx),X.prog=P->X.w=w->X.K=K->X.calm=true->∀(i:Nat) (pins:List (Addr×Obj)) (s:Shared) (σ:St) (H:Hp) (E:Value->Shared->Prop),Inv X pins σ H s->(∀b∈fp,rE X pins H b)->tn i s.heap->J.go i H->
  wpAny (model P w) X.A (pyNext (.ref it)) (λr s1=>∃u,r=some u/\
   wpAny (model P w) X.A (letOwnedTupleGo tg (.ref it) u) (λ_ s2=>∃x H',Inv X pins σ H' s2/\ZE x u/\J.yld i H x H'/\tn (i+1) s2.heap/\∀b∈fp,H' b=none) E s1) E s
 done:∀(X:Cx),X.prog=P->X.w=w->X.K=K->X.calm=true->∀(i:Nat) (pins:List (Addr×Obj)) (s:Shared) (σ:St) (H:Hp) (E:Value->Shared->Prop),Inv X pins σ H s->(∀b∈fp,rE X pins H b)->tn i s.heap->J.stop i H->
  wpAny (model P w) X.A (pyNext (.ref it)) (λr s1=>r=none/\Inv X pins σ H s1) E s
 self:∀(A:Around) (i:Nat) (s:Shared) (Q:Value->Shared->Prop) (E:Value->Shared->Prop),tn i s.heap->Q (.ref it) s->wpAny (model P w) A (pyIter (.ref it)) Q E s
abbrev TI:=St->Hp->(It->Hp->Prop)->Prop
def PIE (X:Cx) (pins:List (Addr×Obj)) (σ:St) (p:Expr) (R:It->Hp->Prop) (g:Value) (s2:Shared):Prop:=
 ∃(it:Addr) (m:List Addr) (h:Nat->Heap->Prop) (J:It) (H':Hp),g= .ref it/\Inv X pins σ H' s2/\Turn X.prog X.w X.K p J m it h/\h 0 s2.heap/\(∀b∈m,rE X pins H' b)/\R J H'
def PI (X:Cx) (h iter:Expr) (g:TI):Prop:=
 ∀(pins:List (Addr×Obj)) (s:Shared) (σ:St) (H:Hp) (R:It->Hp->Prop),Inv X pins σ H s->g σ H R->
  wpAny (model X.prog X.w) X.A (eval iter X.env) (λv s1=>wpAny (model X.prog X.w) X.A (pyIter v) (PIE X pins σ h R) X.xe s1) X.xe s
theorem Fw {M:Model} {A:Around} {E:Value->Shared->Prop} {s:Shared} {m:Expr} {it:Addr} {u:Value} {o:Obj} {n:String} {vs:Array Value} {Q:Unit->Shared->Prop} (p:s.heap.get? it=some o) (q:o.cls= .type n) (hd:o.data= .fields vs)
 (hn:["enumerate","zip","dict_itemiterator","dict_reverseitemiterator","odict_iterator","itertools.zip_longest","itertools.pairwise"].contains n=false) (g:Q () s):wpAny M A (letOwnedTupleGo m (.ref it) u) Q E s:=by
 unfold letOwnedTupleGo
 cases m<;>first
  |exact Ql g
  |(cases u<;>first
   |exact Ql g
   |(refine Qd (wpAny_load p ?_)
     rw [q,hd];show wpAny M A (if (["enumerate","zip","dict_itemiterator","dict_reverseitemiterator","odict_iterator","itertools.zip_longest","itertools.pairwise"].contains n && vs[0]? ==some (rawInt _))=true then _ else _) Q E s;rw [QS (by intro h;rw [hn,Bool.false_and] at h;cases h)]
     exact Ql g))
def Itl (K:PySem.W.Frag) (a:Addr):It:=
 ⟨λi H=>∃xs x,SqL K H a xs/\xs[i]? =some x,λi H x H'=>H'=H/\∀xs,SqL K H a xs->xs[i]? =some x,λi H=>∃xs,SqL K H a xs/\xs.length<=i⟩
def Itt (K:PySem.W.Frag) (a:Addr):It:=
 ⟨λi H=>∃xs x,SqT K H a xs/\xs[i]? =some x,λi H x H'=>H'=H/\∀xs,SqT K H a xs->xs[i]? =some x,λi H=>∃xs,SqT K H a xs/\xs.length<=i⟩
def Itr (lo:Int) (n:Nat):It:=⟨λi _=>i<n,λi H x H'=>H'=H/\x= .int (lo+i),λi _=>n<=i⟩
theorem wG {P:Program} {w:World} {K:PySem.W.Frag} {C:Expr} (a it:Addr):Turn P w K C (Itl K a) [it] it (λi h=>h.IsListIter it a i) where
 mem:=by simp
 obj:=λi h st b g=>by
  have e:b=it:=by simpa using g
  subst e;obtain ⟨o,e,c,d⟩:=st;exact ⟨o,e,λv z=>by rw [d] at z;cases z⟩
 keep:=λi h h' st k=>st.at λo e=>k it (by simp) o e
 item:=by
  intro X hP hw hK hc i pins s σ H E I hf st hg;subst hP hw hK;obtain ⟨xs,x,m,r⟩:=hg;obtain ⟨its,q,p,hz⟩:=I.list m;obtain ⟨u,G,ru⟩:=q.get r;obtain ⟨f0,f1,f2,y,f4,t⟩:=hf it (by simp);refine wpAny_pyNext_list_item st p.isList (x:=u) (by simpa using G) λh' A sb=>?_;have L:Inv X pins σ H {s with heap:=h'}:=I.turned (t':=s.toks) (λb o g e=>(sb.2 b g).trans e) f0 f1 y f4 t;obtain ⟨o,e,c,d⟩:=id A;exact ⟨u,rfl,Fw (s:={s with heap:=h'}) e c d (by decide) ⟨x,H,L,ru,⟨rfl,λys D=>by rw [I.list_inj D m];exact r⟩,A,λb g=>(hf b g).1⟩⟩
 done:=by
  intro X hP hw hK hc i pins s σ H E I hf st hg;subst hP hw hK;obtain ⟨xs,m,r⟩:=hg;obtain ⟨its,q,p,hz⟩:=I.list m;obtain ⟨f0,f1,f2,y,f4,t⟩:=hf it (by simp);have M:=q.length;exact wpAny_pyNext_list_end (I.ok.hd hc) st p.isList (by simp;omega) λh' J=>⟨rfl,I.turned (t':=s.toks) (λb o g e=>J b o g e) f0 f1 y f4 t⟩
 self:=λ_ _ _ _ _ st h=>wpAny_pyIter_listiter st h
theorem uq {P:Program} {w:World} {K:PySem.W.Frag} {C:Expr} (a it:Addr):Turn P w K C (Itt K a) [it] it (λi h=>h.IsTupleIter it a i) where
 mem:=by simp
 obj:=λi h st b g=>by
  have e:b=it:=by simpa using g
  subst e;obtain ⟨o,e,c,d⟩:=st;exact ⟨o,e,λv z=>by rw [d] at z;cases z⟩
 keep:=λi h h' st k=>st.at λo e=>k it (by simp) o e
 item:=by
  intro X hP hw hK hc i pins s σ H E I hf st hg;subst hP hw hK;obtain ⟨xs,x,m,r⟩:=hg;obtain ⟨its,q,p,hz⟩:=I.tuple m;obtain ⟨u,G,ru⟩:=q.get r;obtain ⟨f0,f1,f2,y,f4,t⟩:=hf it (by simp);refine wpAny_pyNext_tuple_item st (show s.heap.IsTuple a its.toArray from p) (x:=u) (by simpa using G) λh' A sb=>?_;have L:Inv X pins σ H {s with heap:=h'}:=I.turned (t':=s.toks) (λb o g e=>(sb.2 b g).trans e) f0 f1 y f4 t;obtain ⟨o,e,c,d⟩:=id A;exact ⟨u,rfl,Fw (s:={s with heap:=h'}) e c d (by decide) ⟨x,H,L,ru,⟨rfl,λys D=>by rw [I.tuple_inj D m];exact r⟩,A,λb g=>(hf b g).1⟩⟩
 done:=by
  intro X hP hw hK hc i pins s σ H E I hf st hg;subst hP hw hK;obtain ⟨xs,m,r⟩:=hg;obtain ⟨its,q,p,hz⟩:=I.tuple m;obtain ⟨f0,f1,f2,y,f4,t⟩:=hf it (by simp);have M:=q.length;exact wpAny_pyNext_tuple_end (I.ok.hd hc) st (show s.heap.IsTuple a its.toArray from p) (by simp;omega) λh' J=>⟨rfl,I.turned (t':=s.toks) (λb o g e=>J b o g e) f0 f1 y f4 t⟩
 self:=λ_ _ _ _ _ st h=>wpAny_pyIter_tupleiter st h
theorem ur {P:Program} {w:World} {K:PySem.W.Frag} {u:Expr} (it:Addr) (lo:Int) (n:Nat):Turn P w K u (Itr lo n) [it] it (λi h=>IsRangeIter h it (lo+(i:Nat)*1) ((n:Int) - (i:Nat)) 1) where
 mem:=by simp
 obj:=λi h st b g=>by
  have e:b=it:=by simpa using g
  subst e
  exact ⟨_,st,λv z=>by
   have r:Data.fields _=Data.cell v:=z
   cases r⟩
 keep:=λi h h' st k=>k it (by simp) _ st
 item:=by
  intro X hP hw hK hc i pins s σ H E I hf st hg;subst hP hw hK;obtain ⟨f0,f1,f2,p,f4,m⟩:=hf it (by simp);have W:=Walks.range (prog:=X.prog) (w:=X.w) (I.ok.hd hc) it lo 1 n;refine W.item i s _ _ hg st λv h' tk A q y=>?_;obtain ⟨t,rfl⟩:=A;have D:Inv X pins σ H {s with heap:=h',toks:=tk}:=I.turned (λb o g e=>y b o (by simpa using g) e) f0 f1 p f4 m;refine ⟨_,rfl,Fw (s:={s with heap:=h',toks:=tk}) (n:="range_iterator") q rfl rfl (by decide) ⟨.int (lo+i),H,D,⟨t,?_⟩,⟨rfl,rfl⟩,q,λb g=>(hf b g).1⟩⟩;rw [Int.mul_one]
 done:=by
  intro X hP hw hK hc i pins s σ H E I hf st hg;subst hP hw hK;obtain ⟨f0,f1,f2,p,f4,m⟩:=hf it (by simp);exact wpAny_pyNext_range_end (I.ok.hd hc) st (by have:n<=i:=hg;omega) λh' C=>⟨rfl,I.turned (t':=s.toks) (λb o g e=>C b o g e) f0 f1 p f4 m⟩
 self:=λ_ _ _ _ _ st h=>wpAny_pyIter_rangeiter st h
end L2
namespace L2
open PySem PySem.Spec PyProof.Rows
section
variable {X:Cx} {tg:Expr}
def iList (K:PySem.W.Frag) (g:TE):TI:=λσ H R=>g σ H λx H1=>∃a,x= .ref a/\(∃xs,SqL K H1 a xs)/\R (Itl K a) H1
def iTup (K:PySem.W.Frag) (g:TE):TI:=λσ H R=>g σ H λx H1=>∃a,x= .ref a/\(∃xs,SqT K H1 a xs)/\R (Itt K a) H1
theorem Ul {l:Expr} {m:TE} (w:PE X l m):PI X tg l (iList X.K m):=by
 intro pins s σ H R I h;refine thn (w pins s σ H _ I h) λv s1 y=>?_;obtain ⟨x,H1,g,r,t⟩:=y;obtain ⟨a,e,⟨xs,u⟩,q⟩:=t;subst e;cases r;obtain ⟨its,A,p,hz⟩:=g.list u;refine jaO p.isList ?_;refine ⟨s1.heap.objs.size,[s1.heap.objs.size],_,_,H1,rfl,g.kept (t':=s1.toks) λb o e=>Qh _ e,wG a _,⟨_,Qt _ rfl,rfl,rfl⟩,λb z=>?_,q⟩;have e:b=s1.heap.objs.size:=by simpa using z
 subst e;exact g.fpOk (Qq _) (g.hok.fresh (Qq _))
theorem pi_tup {l:Expr} {m:TE} (w:PE X l m):PI X tg l (iTup X.K m):=by
 intro pins s σ H R I h;refine thn (w pins s σ H _ I h) λv s1 y=>?_;obtain ⟨x,H1,g,r,t⟩:=y;obtain ⟨a,e,⟨xs,u⟩,q⟩:=t;subst e;cases r;obtain ⟨its,A,p,hz⟩:=g.tuple u;refine jam (show s1.heap.IsTuple a its.toArray from p) ?_;refine ⟨s1.heap.objs.size,[s1.heap.objs.size],_,_,H1,rfl,g.kept (t':=s1.toks) λb o e=>Qh _ e,uq a _,⟨_,Qt _ rfl,rfl,rfl⟩,λb z=>?_,q⟩;have e:b=s1.heap.objs.size:=by simpa using z
 subst e;exact g.fpOk (Qq _) (g.hok.fresh (Qq _))
theorem sg {pins:List (Addr×Obj)} {σ:St} {H:Hp} {s:Shared} {R:It->Hp->Prop} {E:Value->Shared->Prop} {lo g:Int} {t u v:Tok} {tk:Nat} (I:Inv X pins σ H s) (z: -(2 ^ 62)<=lo) (y:lo<2 ^ 62) (r: -(2 ^ 62)<=g) (p:g<2 ^ 62)
 (q:R (Itr lo (g - lo).toNat) H):wpAny (model X.prog X.w) X.A (pyIter (.ref s.heap.objs.size)) (PIE X pins σ tg R) E {s with heap:=s.heap.push {cls:= .type "range",data:= .fields #[.int lo t, .int g u, .int 1 v]},toks:=tk}:=by
 refine wpAny_pyIter_range (IsRange.new ..) (small_one z y r p) ?_;have h:Inv X pins σ H {s with heap:=s.heap.push {cls:= .type "range",data:= .fields #[.int lo t, .int g u, .int 1 v]},toks:=tk}:=I.kept λb o e=>Qh _ e
 refine ⟨(s.heap.push {cls:= .type "range",data:= .fields #[.int lo t, .int g u, .int 1 v]}).objs.size,[(s.heap.push {cls:= .type "range",data:= .fields #[.int lo t, .int g u, .int 1 v]}).objs.size],_,_,H,rfl,
  h.kept (t':=tk) λb o e=>Qh _ e,ur _ lo (g - lo).toNat,?_,λb m=>?_,q⟩
 ·have D:lo+((0:Nat):Int)*1=lo:=by simp
  have C:(((g - lo).toNat:Nat):Int) - ((0:Nat):Int)=Builtin.Range.rangeSize lo g 1:=by rw [rangeSize_one];split<;>omega
  show IsRangeIter _ _ (lo+((0:Nat):Int)*1) ((((g - lo).toNat:Nat):Int) - ((0:Nat):Int)) 1;rw [D,C];exact Qt _ rfl
 ·have e:b=(s.heap.push {cls:= .type "range",data:= .fields #[.int lo t, .int g u, .int 1 v]}).objs.size:=by simpa using m
  subst e;exact h.fpOk (Qq _) (h.hok.fresh (Qq _))
def iRng1 (g:TA):TI:=λσ H R=>g σ H λvs H1=>∃j:Int,vs=[.int j]/\ -(2 ^ 62)<=j/\j<2 ^ 62/\R (Itr 0 j.toNat) H1
def iRng2 (g:TA):TI:=λσ H R=>g σ H λvs H1=>∃i j:Int,vs=[.int i, .int j]/\(-(2 ^ 62)<=i/\i<2 ^ 62/\ -(2 ^ 62)<=j/\j<2 ^ 62)/\R (Itr i (j - i).toNat) H1
theorem fq {a:Expr} {m:TA} {p pos:Pos} (A:Gl X "range") (hm:X.mg "range"=none) (ha:PA X [a] m) (z:starEach [a] X.env=[(false,eval a X.env)]:=by rfl):PI X tg (.Call (.Name "range" p) [a] [] pos) (iRng1 m):=by
 intro pins s σ H R I h;refine Call_ (Wm I A hm boot_range (Tg (thn (ha pos pins s σ H _ I h) λus s1 ⟨vs,H1,C,w,g⟩=>?_) z rfl));obtain ⟨j,e,g,y,q⟩:=g;subst e
 cases w with
 |cons r u=>
  cases u;obtain ⟨t,rfl⟩:=r;exact call_range_1 (sg C (by omega) (by omega) g y (by simpa using q))
theorem nK {a b:Expr} {u:TA} {p pos:Pos} (G:Gl X "range") (hm:X.mg "range"=none) (ha:PA X [a,b] u) (E:starEach [a,b] X.env=[(false,eval a X.env),(false,eval b X.env)]:=by rfl) (w:starEach [b] X.env=[(false,eval b X.env)]:=by rfl):
 PI X tg (.Call (.Name "range" p) [a,b] [] pos) (iRng2 u):=by
 intro pins s σ H R I h;refine Call_ (Wm I G hm boot_range (Tg (thn (ha pos pins s σ H _ I h) λus s1 ⟨vs,H1,J,y,m⟩=>?_) (by rw [E,w]) (by rw [w];rfl)));obtain ⟨i,j,e,⟨m,D,C,A⟩,q⟩:=m;subst e
 cases y with
 |cons r g=>
  cases g with
  |cons z g=>
   cases g;obtain ⟨t,rfl⟩:=r;obtain ⟨t',rfl⟩:=z;exact call_range_2 (sg J m D C A q)
def tFor (p:TI) (g:TG) (q:TS):TS:=λD σ H=>p σ H λJ H1=>∃W:Nat->Nat->St->Hp->Prop,(∃m,W 0 m σ H1)/\∀i m σ H,W i m σ H->
 (J.stop i H/\D.nx σ H)\/(J.go i H/\∃N:St->Hp->Prop,(∀σ' H',N σ' H'->∃h,h<m/\W (i+1) h σ' H')/\∀x H',J.yld i H x H'->g x σ H' λσ2 H2=>q {D with nx:=N,ct:=N,bk:=D.nx} σ2 H2)
def jc (g:List Addr) (h:Heap):List (Addr×Obj):=g.filterMap λb=>(h.get? b).map λo=>(b,o)
theorem Ys {g:List Addr} {h:Heap} {b:Addr} {o:Obj} (m:b∈g) (e:h.get? b=some o):(b,o)∈jc g h:=jbF.mpr ⟨b,m,by rw [e];rfl⟩
theorem Bw {g:List Addr} {h:Heap} {p:Addr×Obj} (hp:p∈jc g h):p.1∈g/\h.get? p.1=some p.2:=by
 obtain ⟨b,m,e⟩:=jbF.mp hp
 cases q:h.get? b with
 |none=>rw [q] at e;cases e
 |some o=>
  rw [q] at e;have r:(b,o)=p:=QK e;subst r;exact ⟨m,q⟩
theorem Inv.pinned {pins:List (Addr×Obj)} {σ:St} {H:Hp} {s:Shared} {g:List Addr} (I:Inv X pins σ H s) (hf:∀b∈g,rE X pins H b) (q:∀b∈g,∃o,s.heap.get? b=some o/\∀v,o.data≠ .cell v):Inv X (pins++jc g s.heap) σ H s:=
 I.pins_of λp hp=>(QX.mp hp).elim (λz=>I.pin p (Qz _ z)) λz=>by
  obtain ⟨h,e⟩:=Bw z;obtain ⟨f0,f1,f2,_⟩:=hf p.1 h;obtain ⟨o,m,d⟩:=q p.1 h;rw [e] at m;cases m;exact ⟨e,f0,f1,f2,d⟩
theorem Inv.unpinned {pins pl:List (Addr×Obj)} {σ:St} {H:Hp} {s:Shared} (I:Inv X (pins++pl) σ H s):Inv X pins σ H s:=I.pins_of λp hp=>I.pin p (Qz _ (jah _ hp))
theorem cg {iter:Expr} {body:List Stmt} {O:TI} {g:TG} {Q:TS} {pos:Pos} (hp:PassesOwn (model X.prog X.w) X.A X.env X.xe) (U:X.calm=true) (hi:PI X tg iter O) (hg:PG X tg g) (q:PSs X body Q)
 (hs:∀x,foldedSetIterable iter X.env x=pure x:=by intro _;rfl):PS X (.For tg iter body [] pos) (tFor O g Q):=by
 intro pins s σ H D I h;refine wpAny_For (thn (hi pins s σ H _ I h) λv s1 h1=>thn h1 λitv s2 h2=>?_) hs;obtain ⟨it,G,P,J,H2,e,I2,T,KR,f2,W,⟨m0,w0⟩,turn⟩:=h2;subst e;have p:∀{H':Hp},(∀b∈G,H' b=none)->∀b∈G,rE X pins H' b:=λhn b q=>⟨hn b q,(f2 b q).2⟩;refine codeAny_forLoop_any (λn s'=>∃i σ' H',Inv X pins σ' H' s'/\P i s'.heap/\(∀b∈G,H' b=none)/\W i n σ' H') ?_ m0 ⟨0,σ,H2,I2,KR,λb q=>(f2 b q).1,w0⟩
 rintro n s3 ⟨i,σ3,H3,I3,SG,fr3,w3⟩
 rcases turn i n σ3 H3 w3 with ⟨stop,qn⟩|⟨go,N,hN,step⟩
 ·refine jbe hp (thn (T.done X rfl rfl rfl U i pins s3 σ3 H3 X.xe I3 (p fr3) SG stop) λr s4 C=>?_);obtain ⟨hr,I4⟩:=C;subst hr;exact wpAny_execs_nil ⟨σ3,H3,I4,qn⟩
 ·refine jbe hp (thn (T.item X rfl rfl rfl U i pins s3 σ3 H3 X.xe I3 (p fr3) SG go) λr s4 C=>?_);obtain ⟨u,hr,h4⟩:=C;subst hr;refine jbe hp (thn h4 λ_ s5 C=>?_);obtain ⟨x,Y,I5,r5,y5,L,Nj⟩:=C;have M:=I5.pinned (p Nj) (T.obj _ _ L);refine jbe hp (thn (hg _ s5 σ3 Y x u _ M r5 (step x Y y5)) λ_ s6 C=>?_);obtain ⟨σ6,H6,I6,q6⟩:=C;refine jbe hp (thn (q _ s6 σ6 H6 _ I6 q6) λf K z=>?_)
  have again:∀{σ7:St} {y:Hp},Inv X (pins++jc G s5.heap) σ7 y K->N σ7 y->∃m,m<n/\∃i σ' H',Inv X pins σ' H' K/\P i K.heap/\(∀b∈G,H' b=none)/\W i m σ' H':=λ{σ7 y} t E=>by
   obtain ⟨m',hm,w7⟩:=hN σ7 y E;refine ⟨m',hm,i+1,σ7,y,t.unpinned,T.keep _ _ _ L λb q o e=>(t.pin (b,o) (Qz _ (Qz _ (Ys q e)))).1,λb q=>?_,w7⟩;obtain ⟨o,e,d⟩:=T.obj _ _ L b q;exact (t.pin (b,o) (Qz _ (Qz _ (Ys q e)))).2.1
  cases f with
  |next=>obtain ⟨σ7,y,t,E⟩:=z;exact again t E
  |cont=>obtain ⟨σ7,y,t,E⟩:=z;exact again t E
  |brk=>obtain ⟨σ7,y,t,z⟩:=z;exact ⟨σ7,y,t.unpinned,z⟩
  |ret v=>obtain ⟨Z,σ7,y,t,r7,z⟩:=z;exact ⟨Z,σ7,y,t.unpinned,r7,z⟩
end
end L2
namespace L2
open PySem PySem.Spec PyProof.Rows
abbrev R2:=V->V->Hp->VK->Prop
def OpR (X:Cx) (f:Value->Value->Sem Value) (r:R2):Prop:=
 ∀(pins:List (Addr×Obj)) (s:Shared) (σ:St) (H:Hp) (x y:V) (v u:Value) (Q:VK),Inv X pins σ H s->ZE x v->ZE y u->r x y H Q->
  wpAny (model X.prog X.w) X.A (f v u) (EP X pins σ Q) X.xe s
def UnR (X:Cx) (f:Value->Sem Value) (r:V->Hp->VK->Prop):Prop:=
 ∀(pins:List (Addr×Obj)) (s:Shared) (σ:St) (H:Hp) (x:V) (v:Value) (Q:VK),Inv X pins σ H s->ZE x v->r x H Q->
  wpAny (model X.prog X.w) X.A (f v) (EP X pins σ Q) X.xe s
def Vf (X:Cx) (f:Value) (r:List V->Hp->VK->Prop):Prop:=
 ∀(pins:List (Addr×Obj)) (s:Shared) (σ:St) (H:Hp) (xs:List V) (us:List Value) (Q:VK),Inv X pins σ H s->xE xs us->r xs H Q->
  wpAny (model X.prog X.w) X.A (call f us) (EP X pins σ Q) X.xe s
def tOp (r:R2) (h g:TE):TE:=λσ H Q=>h σ H λx H1=>g σ H1 λy m=>r x y m Q
def tUn (r:V->Hp->VK->Prop) (g:TE):TE:=λσ H Q=>g σ H λx H1=>r x H1 Q
def rI (C:Int->Int->Prop) (g:Int->Int->V):R2:=λx y H Q=>∃i j,x= .int i/\y= .int j/\C i j/\Q (g i j) H
def rI0 (g:Int->Int->V):R2:=λx y H Q=>∃i j,x= .int i/\y= .int j/\Q (g i j) H
def rU (g:Int->V):V->Hp->VK->Prop:=λx H Q=>∃i,x= .int i/\Q (g i) H
section
variable {X:Cx} {a b c:Expr} {ta tb tc:TE} {pos:Pos}
theorem binT (ha:PE X a ta) (z:PE X b tb) {pins:List (Addr×Obj)} {s:Shared} {σ:St} {H:Hp} {R:V->V->Hp->Prop} (I:Inv X pins σ H s)
 (h:ta σ H λx H1=>tb σ H1 λy g=>R x y g) {Q:Value->Shared->Prop} {f:Value->Value->Sem Value}
 (hf:∀v u s2 x y g,Inv X pins σ g s2->ZE x v->ZE y u->R x y g->wpAny (model X.prog X.w) X.A (f v u) Q X.xe s2):
 wpAny (model X.prog X.w) X.A (eval a X.env) (λv s₁=>wpAny (model X.prog X.w) X.A (eval b X.env) (λu s₂=>wpAny (model X.prog X.w) X.A (f v u) Q X.xe s₂) X.xe s₁) X.xe s:=by
 refine thn (ha pins s σ H _ I h) λv s1 m=>?_;obtain ⟨x,H1,D,q,t⟩:=m;refine thn (z pins s1 σ H1 _ D t) λu s2 m=>?_;obtain ⟨y,g,C,p,r⟩:=m;exact hf v u s2 x y g C q p r
theorem Ia {op:Operator} {r:R2} (p:OpR X (binaryOp op) r) (ha:PE X a ta) (t:PE X b tb):PE X (.BinOp a op b pos) (tOp r ta tb):=by
 intro pins s σ H Q I h;exact wpAny_BinOp (binT ha t I h λv u s2 x y z w m g q=>p pins s2 σ z x y v u Q w m g q)
theorem pe_un {op:UnaryOp} {r:V->Hp->VK->Prop} (p:UnR X (unaryOp op) r) (ha:PE X a ta):PE X (.UnaryOp op a pos) (tUn r ta):=by
 intro pins s σ H Q I h;exact UnaryOp_ (thn (ha pins s σ H _ I h) λv s1 ⟨x,H1,q,g,m⟩=>p pins s1 σ H1 x v Q q g m)
theorem opI {f:Value->Value->Sem Value} {C:Int->Int->Prop} {g:Int->Int->Int}
 (rule:∀(i j:Int) (t u:Tok) (s:Shared) (Q:Value->Shared->Prop) (E:Value->Shared->Prop),C i j->Q (.int (g i j) s.toks) {s with toks:=s.toks+1}->wpAny (model X.prog X.w) X.A (f (.int i t) (.int j u)) Q E s):
 OpR X f (rI C λi j=> .int (g i j)):=by
 intro pins s σ H x y v u Q I rx ry h;obtain ⟨i,j,rfl,rfl,m,q⟩:=h;obtain ⟨t,rfl⟩:=rx;obtain ⟨t',rfl⟩:=ry;exact rule i j t t' s _ _ m ⟨.int (g i j),H,I.tok _,⟨_,rfl⟩,q⟩
theorem opI0 {f:Value->Value->Sem Value} {g:Int->Int->Int}
 (rule:∀(i j:Int) (t u:Tok) (s:Shared) (Q:Value->Shared->Prop) (E:Value->Shared->Prop),Q (.int (g i j) s.toks) {s with toks:=s.toks+1}->wpAny (model X.prog X.w) X.A (f (.int i t) (.int j u)) Q E s):
 OpR X f (rI0 λi j=> .int (g i j)):=by
 intro pins s σ H x y v u Q I rx ry h;obtain ⟨i,j,rfl,rfl,q⟩:=h;obtain ⟨t,rfl⟩:=rx;obtain ⟨t',rfl⟩:=ry;exact rule i j t t' s _ _ ⟨.int (g i j),H,I.tok _,⟨_,rfl⟩,q⟩
theorem opB0 {f:Value->Value->Sem Value} {g:Int->Int->Bool}
 (rule:∀(i j:Int) (t u:Tok) (s:Shared) (Q:Value->Shared->Prop) (E:Value->Shared->Prop),Q (.bool (g i j)) s->wpAny (model X.prog X.w) X.A (f (.int i t) (.int j u)) Q E s):
 OpR X f (rI0 λi j=> .bl (g i j)):=by
 intro pins s σ H x y v u Q I rx ry h;obtain ⟨i,j,rfl,rfl,q⟩:=h;obtain ⟨t,rfl⟩:=rx;obtain ⟨t',rfl⟩:=ry;exact rule i j t t' s _ _ ⟨.bl (g i j),H,I,rfl,q⟩
def CDiv (i j:Int):Prop:=0<j/\j<1073741824
def CPow (i j:Int):Prop:=0<=j/\j<=1000000/\i.natAbs<2 ^ 64
def CMul (i j:Int):Prop:=(-(2 ^ 64)<i/\i<2 ^ 64)\/(-(2 ^ 64)<j/\j<2 ^ 64)
theorem CMul.ok {i j:Int} (h:CMul i j):IntMulOk i j:=by
 rcases h with ⟨m,g⟩|⟨m,g⟩
 ·exact .of_left (intBits_le_64 m g)
 ·exact .of_right (intBits_le_64 m g)
theorem op_add:OpR X (binaryOp .Add) (rI0 λi j=> .int (i+j)):=opI0 λ_ _ _ _ _ _ _ q=>add_int q
theorem op_sub:OpR X (binaryOp .Sub) (rI0 λi j=> .int (i - j)):=opI0 λ_ _ _ _ _ _ _ q=>sub_int q
theorem op_fdiv:OpR X (binaryOp .FloorDiv) (rI CDiv λi j=> .int (i / j)):=opI λi j _ _ _ _ _ g q=>by
 have m:(0:Int)<j:=g.1;have h:j<1073741824:=g.2;exact floordiv_int (by omega) (by rw [jbz i (by omega)];exact q) (.inl (PyProof.noPylong_small (by omega)))
theorem op_mod:OpR X (binaryOp .Mod) (rI (λ_ j=>0<j) λi j=> .int (i % j)):=opI λi j _ _ _ _ _ g q=>by
 have h:(0:Int)<j:=g;exact mod_int' (by omega) (by rw [TL i (by omega)];exact q)
theorem op_modN:OpR X (binaryOp .Mod) (rI (λ_ j=>j≠0) λi j=> .int (i.fmod j)):=opI λ_ _ _ _ _ _ _ g q=>mod_int' g q
theorem op_pow:OpR X (binaryOp .Pow) (rI CPow λi j=> .int (i ^ j.toNat)):=opI λ_ _ _ _ _ _ _ g q=>pow_int_small g.1 g.2.1 g.2.2 q
theorem unI {f:Value->Sem Value} {g:Int->Int}
 (rule:∀(i:Int) (t:Tok) (s:Shared) (Q:Value->Shared->Prop) (E:Value->Shared->Prop),Q (.int (g i) s.toks) {s with toks:=s.toks+1}->wpAny (model X.prog X.w) X.A (f (.int i t)) Q E s):
 UnR X f (rU λi=> .int (g i)):=by
 intro pins s σ H x v Q I rx h;obtain ⟨i,rfl,q⟩:=h;obtain ⟨t,rfl⟩:=rx;exact rule i t s _ _ ⟨.int (g i),H,I.tok _,⟨_,rfl⟩,q⟩
theorem un_neg:UnR X (unaryOp .USub) (rU λi=> .int (-i)):=unI λ_ _ _ _ _ q=>neg_int q
end
def scal:V->V->Bool
 | .non, .non=>true| .non, .int _=>true| .int _, .non=>true| .non, .bl _=>true| .bl _, .non=>true| .non, .str _=>true| .str _, .non=>true
 | .int _, .int _=>true| .bl _, .bl _=>true| .str _, .str _=>true| .byt _, .byt _=>true
 | .int _, .str _=>true| .str _, .int _=>true| .bl _, .str _=>true| .str _, .bl _=>true
 |_,_=>false
def rEq:R2:=λx y H Q=>scal x y=true/\Q (.bl (decide (x=y))) H
def rNe:R2:=λx y H Q=>scal x y=true/\Q (.bl (!decide (x=y))) H
theorem Cq {i j:Int}:decide (V.int i=V.int j)=(i==j):=by
 rw [jbT]
 simp
theorem GU {i j:Bool}:decide (V.bl i=V.bl j)=(i==j):=by
 rw [jbT]
 simp
theorem Cp {i j:Str}:decide (V.str i=V.str j)=(i==j):=by
 rw [jbT]
 simp
theorem Cr {i j:Array UInt8}:decide (V.byt i=V.byt j)=(i.toList==j.toList):=by
 rw [jbT];cases i;cases j
 simp
section
variable {X:Cx} {a b c:Expr} {ta tb tc:TE} {pos:Pos}
theorem yM {pins:List (Addr×Obj)} {σ:St} {H:Hp} {s:Shared} {Q:VK} {k g:Bool} (I:Inv X pins σ H s) (q:Q (.bl k) H) (e:k=g):EP X pins σ Q (.bool g) s:=by
 subst e;exact ⟨.bl k,H,I,rfl,q⟩
theorem op_eq:OpR X (compareOp .Eq) rEq:=by
 intro pins s σ H x y v u Q I rx ry h;obtain ⟨g,q⟩:=h
 cases x with
 |non=>
  cases rx
  cases y with
  |non=>cases ry;exact PySem.EqNone.eq_none_none (yM I q (by simp))
  |bl j=>cases ry;exact PySem.EqNone.eq_none_bool (yM I q (by simp))
  |int j=>obtain ⟨t',rfl⟩:=ry;exact PySem.EqNone.eq_none_int (yM I q (by simp))
  |str j=>obtain ⟨t',rfl⟩:=ry;exact PySem.EqNone.eq_none_str (yM I q (by simp))
  |_=>exact absurd (show false=true from g) Qy
 |bl i=>
  cases rx
  cases y with
  |non=>cases ry;exact PySem.EqNone.eq_bool_none (yM I q (by simp))
  |bl j=>cases ry;exact eq_bool (yM I q GU)
  |str j=>obtain ⟨t',rfl⟩:=ry;exact PySem.EqMixed.eq_bool_str (yM I q (by simp))
  |_=>exact absurd (show false=true from g) Qy
 |int i=>
  obtain ⟨t,rfl⟩:=rx
  cases y with
  |non=>cases ry;exact PySem.EqNone.eq_int_none (yM I q (by simp))
  |int j=>obtain ⟨t',rfl⟩:=ry;exact eq_int (yM I q Cq)
  |str j=>obtain ⟨t',rfl⟩:=ry;exact PySem.EqMixed.eq_int_str (yM I q (by simp))
  |_=>exact absurd (show false=true from g) Qy
 |str i=>
  obtain ⟨t,rfl⟩:=rx
  cases y with
  |non=>cases ry;exact PySem.EqNone.eq_str_none (yM I q (by simp))
  |bl j=>cases ry;exact PySem.EqMixed.eq_str_bool (yM I q (by simp))
  |int j=>obtain ⟨t',rfl⟩:=ry;exact PySem.EqMixed.eq_str_int (yM I q (by simp))
  |str j=>obtain ⟨t',rfl⟩:=ry;exact eq_str (yM I q Cp)
  |_=>exact absurd (show false=true from g) Qy
 |byt i=>
  obtain ⟨t,rfl⟩:=rx
  cases y with
  |byt j=>obtain ⟨t',rfl⟩:=ry;exact PySem.W.eq_bytes (yM I q Cr)
  |_=>exact absurd (show false=true from g) Qy
 |_=>cases y<;>exact absurd (show false=true from g) Qy
theorem op_ne:OpR X (compareOp .NotEq) rNe:=by
 intro pins s σ H x y v u Q I rx ry h;obtain ⟨g,q⟩:=h
 cases x with
 |non=>
  cases rx
  cases y with
  |non=>cases ry;exact PySem.EqNone.ne_none_none (yM I q (by simp))
  |bl j=>cases ry;exact PySem.EqNone.ne_none_bool (yM I q (by simp))
  |int j=>obtain ⟨t',rfl⟩:=ry;exact PySem.EqNone.ne_none_int (yM I q (by simp))
  |str j=>obtain ⟨t',rfl⟩:=ry;exact PySem.EqNone.ne_none_str (yM I q (by simp))
  |_=>exact absurd (show false=true from g) Qy
 |bl i=>
  cases rx
  cases y with
  |non=>cases ry;exact PySem.EqNone.ne_bool_none (yM I q (by simp))
  |bl j=>cases ry;exact ne_bool (yM I q (congrArg not GU))
  |str j=>obtain ⟨t',rfl⟩:=ry;exact PySem.EqMixed.ne_bool_str (yM I q (by simp))
  |_=>exact absurd (show false=true from g) Qy
 |int i=>
  obtain ⟨t,rfl⟩:=rx
  cases y with
  |non=>cases ry;exact PySem.EqNone.ne_int_none (yM I q (by simp))
  |int j=>obtain ⟨t',rfl⟩:=ry;exact ne_int (yM I q (congrArg not Cq))
  |str j=>obtain ⟨t',rfl⟩:=ry;exact PySem.EqMixed.ne_int_str (yM I q (by simp))
  |_=>exact absurd (show false=true from g) Qy
 |str i=>
  obtain ⟨t,rfl⟩:=rx
  cases y with
  |non=>cases ry;exact PySem.EqNone.ne_str_none (yM I q (by simp))
  |bl j=>cases ry;exact PySem.EqMixed.ne_str_bool (yM I q (by simp))
  |int j=>obtain ⟨t',rfl⟩:=ry;exact PySem.EqMixed.ne_str_int (yM I q (by simp))
  |str j=>obtain ⟨t',rfl⟩:=ry;exact ne_str (yM I q (congrArg not Cp))
  |_=>exact absurd (show false=true from g) Qy
 |byt i=>
  obtain ⟨t,rfl⟩:=rx
  cases y with
  |byt j=>obtain ⟨t',rfl⟩:=ry;exact PySem.W.ne_bytes (yM I q (congrArg not Cr))
  |_=>exact absurd (show false=true from g) Qy
 |_=>cases y<;>exact absurd (show false=true from g) Qy
theorem AY:OpR X (compareOp .Lt) (rI0 λi j=> .bl (decide (i<j))):=opB0 λ_ _ _ _ _ _ _ q=>lt_int q
theorem op_gt:OpR X (compareOp .Gt) (rI0 λi j=> .bl (decide (j<i))):=opB0 λ_ _ _ _ _ _ _ q=>gt_int q
theorem op_ge:OpR X (compareOp .GtE) (rI0 λi j=> .bl (decide (j<=i))):=opB0 λ_ _ _ _ _ _ _ q=>ge_int q
theorem op_isN:OpR X (compareOp .Is) (λx y H Q=>y= .non/\Q (.bl (decide (x= .non))) H):=by
 intro pins s σ H x y v u Q I rx ry h;obtain ⟨rfl,q⟩:=h;cases ry;refine is_none_gen (yM I q ?_)
 cases x<;>first
  |(cases rx;rfl)
  |(obtain ⟨t,rfl⟩:=rx;rfl)
theorem OpR.or {f:Value->Value->Sem Value} {r g:R2} (h:OpR X f r) (h':OpR X f g):OpR X f (λx y H Q=>r x y H Q\/g x y H Q):=by
 intro pins s σ H x y v u Q I rx ry q
 rcases q with q|q
 ·exact h pins s σ H x y v u Q I rx ry q
 ·exact h' pins s σ H x y v u Q I rx ry q
theorem Zn (b:Expr) {op:CmpOp} (h:op≠ .In:=by decide) (g:op≠ .NotIn:=by decide):behindInMarks op b=false:=by
 have p:(op==CmpOp.In)=false:=by cases op<;>first|rfl|exact absurd rfl h
 have m:(op==CmpOp.NotIn)=false:=by cases op<;>first|rfl|exact absurd rfl g
 cases b<;>simp [behindInMarks,p,m]
theorem pe_cmpR {op:CmpOp} {r:R2} (p:OpR X (compareOp op) r) (ha:PE X a ta) (t:PE X b tb) (hm:behindInMarks op b=false):PE X (.Compare a [op] [b] pos) (tOp r ta tb):=by
 intro pins s σ H Q I h;exact wpAny_Compare1 (binT ha t I h λv u s2 x y z w m g q=>p pins s2 σ z x y v u Q w m g q) hm
def tTest (t:TE):TT:=λσ H Q=>t σ H λx H'=>∃k,x= .bl k/\Q k H'
theorem xr {op:CmpOp} {r:R2} (A:OpR X (compareOp op) r) (ha:PE X a ta) (C:PE X b tb) (hm:behindInMarks op b=false):PT X (.Compare a [op] [b] pos) (tTest (tOp r ta tb)):=by
 intro pins s σ H Q I h
 refine wpAny_isTrue_Compare1 (thn (ha pins s σ H _ I h) λv s1 ⟨x,H1,G,p,w⟩=>thn (C pins s1 σ H1 _ G w) λu s2 ⟨y,K,E,m,t⟩=>
  thn (A pins s2 σ K x y v u _ E p m t) λc s3 ⟨z,J,D,g,k,e,q⟩=>?_) hm
 subst e;cases g;exact jbK ⟨J,D,q⟩
theorem nW:(sizeLine:Nat)<2 ^ 63:=by rw [sizeLine_eq];decide
theorem uN:OpR X (binaryOp .Add) (λx y H Q=>∃i j,x= .str i/\y= .str j/\i.length+j.length<=sizeLine/\Q (.str (i++j)) H):=by
 intro pins s σ H x y v u Q I rx ry h;obtain ⟨i,j,rfl,rfl,hz,q⟩:=h;obtain ⟨t,rfl⟩:=rx;obtain ⟨t',rfl⟩:=ry;exact add_str (λt' tk=>⟨.str (i++j),H,I.tok _,⟨_,rfl⟩,q⟩) hz
theorem gR {x:V} {us:List Value} (r:xE [x] us):∃u,us=[u]/\ZE x u:=by
 cases r with
 |cons h g=>cases g;exact ⟨_,rfl,h⟩
theorem wD {x y:V} {us:List Value} (r:xE [x,y] us):∃u g,us=[u,g]/\ZE x u/\ZE y g:=by
 cases r with
 |cons q p=>
  cases p with
  |cons m h=>cases h;exact ⟨_,_,rfl,q,m⟩
theorem FA:Vf X (.builtin "abs") (λxs H Q=>∃i,xs=[.int i]/\Q (.int (if i<0 then -i else i)) H):=by
 intro pins s σ H xs us Q I r h;obtain ⟨i,rfl,q⟩:=h;obtain ⟨u,rfl,t,rfl⟩:=gR r;exact call_abs_int λu tk=>⟨.int (if i<0 then -i else i),H,I.tok _,⟨_,rfl⟩,q⟩
theorem Cy (m:X.calm=true):Vf X (.builtin "min") (λxs H Q=>∃i j,xs=[.int i, .int j]/\Q (.int (if j<i then j else i)) H):=by
 intro pins s σ H xs us Q I r h;obtain ⟨i,j,rfl,q⟩:=h;obtain ⟨u,p,rfl,⟨t,rfl⟩,⟨t',rfl⟩⟩:=wD r;refine min_two_ints (I.ok.hd m) λh' tk k=>⟨_,H,I.kept k,?_,q⟩
 by_cases g:j<i
 ·rw [QH g,QH g];exact ⟨_,rfl⟩
 ·rw [QS g,QS g];exact ⟨_,rfl⟩
end
end L2
namespace L2
open PySem PySem.Spec PyProof.Rows
structure ObjM (h:Heap) (x dx C:Addr) (mA:Str->Option Value):Prop where
 obj:h.get? x=some (PySem.W.instObj C dx)
 ns:h.Ns1 dx mA
 ne:dx≠x
theorem BE {h:Heap} {p:Addr} {m:Str->Option Value} (n:h.Ns1 p m):∃g,h.get? p=some g/\∀name,PySem.W.lookIn name g=some (m name):=by
 obtain ⟨o,es,ep,s,hd,u,_,hm⟩:=n;refine ⟨o,s,λname=>?_⟩;have e:=hm name;unfold nsFind findBy at e;rw [<-Array.find?_toList] at e;unfold PySem.W.lookIn;rw [hd];dsimp only
 split
 ·rename_i y q;rw [q] at e;exact congrArg some e
 ·rename_i q;rw [q] at e
  have a:es.toList.any (·.refKey)=false:=by
   rw [List.any_eq_false];intro y r;obtain ⟨z,t,A⟩:=u y (Array.mem_toList_iff.mp r);simp [DictEntry.refKey,A]
  have w:¬es.toList.any (·.refKey)=true:=by rw [a];exact Qy
  rw [QS w];exact congrArg some e
theorem ObjM.look {h:Heap} {x p C:Addr} {m:Str->Option Value} (I:ObjM h x p C m):∃g,PySem.W.InstAt h x (PySem.W.instObj C p) C (some g)/\∀name,PySem.W.lookIn name g=some (m name):=
 let ⟨g,q,r⟩:=BE I.ns
 ⟨g,⟨I.obj,rfl,rfl,q⟩,r⟩
section
variable {prog:Program} {w:World} {A:Around} {E:Value->Shared->Prop} {s:Shared} {K:PySem.W.Frag} {x dx C f:Addr} {mA:Str->Option Value} {name:Str} {v:Value}
theorem IM {expr:Bool} {Q:Value->Shared->Prop} (X:K.In s.heap) (I:ObjM s.heap x dx C mA) (q:PySem.W.plainGet K C name=true) (p:PySem.W.hasDictIn K C=true)
 (ha:PySem.W.findIn K (.ref C) name=some none) (g:mA name=some v) (r:PySem.W.handedIn v=true) (h:Q v {s with toks:=s.toks+1}):
 wpAny (model prog w) A (getAttr (.ref x) name expr) Q E s:=by
 obtain ⟨t,J,m⟩:=I.look;exact PySem.W.get_value X J (PySem.W.plainGet_of q).1 (PySem.W.findObj_own p ha rfl (by rw [m,g])) r h
theorem Fx {pl:Sem Bool} {Q:Value×List Value->Shared->Prop} (X:K.In s.heap) (I:ObjM s.heap x dx C mA) (g:PySem.W.plainGet K C name=true)
 (hf:PySem.W.findIn K (.ref C) name=some (some (.ref f))) (ht:PySem.W.isFn K (.ref f)=true) (p:mA name=none) (h:Q (.ref f,[.ref x]) s):
 wpAny (model prog w) A (getMethod (.ref x) name pl) Q E s:=by
 obtain ⟨m,J,q⟩:=I.look;exact PySem.W.method_fn X J (PySem.W.plainGet_of g).1 (PySem.W.plainGet_of g).2 hf (beq_iff_eq.mp ht) (by show (PySem.W.lookIn name m).map (·.isSome)=some false;rw [q,p];rfl) h
theorem HD {ns:List Str} {Q:Unit->Shared->Prop} (X:K.In s.heap) (I:ObjM s.heap x dx C mA)
 (u:PySem.W.findIn K (.ref C) "__setattr__"=some (some (.builtin "object.__setattr__"))) (hp:PySem.W.plainOver K C=true) (ht:PySem.W.takerIn K C name=some none) (z:PySem.W.hasDictIn K C=true)
 (hw:PySem.Within mA ns) (hsz:ns.length<=sizeLine)
 (h:∀h',ObjM h' x dx C (λy=>if y=name then some v else mA y)->Heap.SameBut dx s.heap h'->Q () {s with heap:=h',toks:=s.toks+2}):
 wpAny (model prog w) A (setAttr (.ref x) name v) Q E s:=by
 obtain ⟨N,J,P⟩:=I.look;refine PySem.W.set_plain X J u (PySem.W.osa_open (s:={s with toks:=s.toks+1}) (r:=none) X J hp ht λb=>?_);obtain ⟨cd,D,M⟩:=PySem.W.any_some z;have t:s.heap.get? x=some ⟨.ref C,some dx, .plain,#[]⟩:=I.obj;refine Qd (Ql (Qd (Qd (wpAny_loadPart t (Qd (PySem.W.Looks.here (s:={s with toks:=s.toks+1}) (PySem.W.looks_clsIn X D) ?_))))));rw [M];refine Ql (a:=some dx) (Qd (Ql (Qd ?_)));refine wpAny_nsSet1 (s:={s with toks:=s.toks+1}) I.ns λh' p q=>?_;obtain ⟨O,G,H,g,m,L⟩:=p.count (PySem.Within.cons name v hw);refine Qd (wpAny_lookBehind g (by rw [m];exact pastItsLine_dict (QT L (by rw [Qw];omega))) ?_);exact Ql (h _ ⟨(q.2 _ (Ne.symm I.ne)).trans I.obj,p,I.ne⟩ q)
theorem EE {R:Result->Shared->Prop} {vs:List Value} {kw:List (Str×Value)} (X:K.In s.heap) (hm:PySem.W.makesIn K C=true)
 (m:PySem.W.findIn K (.ref C) "__init__"=some (some (.ref f))) (hf:PySem.W.typeIn K (.ref f)=some (.type "function"))
 (h:codeAny (model prog w) (A.under (.builtin "type.__call__" ⟨.ref C::vs,kw⟩)) (.call (.ref f) ⟨.ref (s.heap.objs.size+1)::vs,kw⟩) (PySem.W.InitBack (s.heap.objs.size+1) R)
  {s with heap:=(s.heap.push PySem.W.emptyDict).push (PySem.W.instObj C s.heap.objs.size)}):
 codeAny (model prog w) A (.call (.ref C) ⟨vs,kw⟩) R s:=by
 obtain ⟨p,g,d,t,os⟩:=s;exact PySem.W.make_core (PySem.W.makes_of X hm) (PySem.W.looks_findIn X m) (λself=>PySem.W.bind_fn X self hf) (.inl rfl) h
end
def pB (f:Str) (v:V):List (Str×V)->List (Str×V)
 |[]=>[(f,v)]
 |(g,x)::r=>if g=f then (g,v)::r else (g,x)::pB f v r
theorem fK (f g:Str) (v:V):∀fs:List (Str×V),(pB f v fs).lookup g=if g=f then some v else fs.lookup g
 |[]=>by
  show List.lookup g [(f,v)]=_
  by_cases h:g=f
  ·have m:(g==f)=true:=beq_iff_eq.mpr h;simp only [List.lookup,m,QH h]
  ·have m:(g==f)=false:=jaQ.mpr h;simp only [List.lookup,m,QS h]
 |(k,x)::r=>by
  have q:=fK f g v r;rw [show pB f v ((k,x)::r)=(if k=f then (k,v)::r else (k,x)::pB f v r) from rfl]
  by_cases p:k=f
  ·rw [QH p]
   by_cases h:g=k
   ·have m:(g==k)=true:=beq_iff_eq.mpr h;simp only [List.lookup,m,QH (h.trans p)]
   ·have m:(g==k)=false:=jaQ.mpr h;simp only [List.lookup,m,QS (λe:g=f=>h (e.trans p.symm))]
  ·rw [QS p]
   by_cases h:g=k
   ·have m:(g==k)=true:=beq_iff_eq.mpr h;simp only [List.lookup,m,QS (λe:g=f=>p (h.symm.trans e))]
   ·have m:(g==k)=false:=jaQ.mpr h;simp only [List.lookup,m];exact q
theorem fO (f:Str) (v:V):∀fs:List (Str×V),f∈(pB f v fs).map (·.1)/\∀g,g∈fs.map (·.1)->g∈(pB f v fs).map (·.1)
 |[]=>⟨by simp [pB],λg h=>by simp at h⟩
 |(k,x)::r=>by
  obtain ⟨q,p⟩:=fO f v r;rw [show pB f v ((k,x)::r)=(if k=f then (k,v)::r else (k,x)::pB f v r) from rfl]
  by_cases m:k=f
  ·rw [QH m];subst m;exact ⟨by simp,λg h=>by simpa using h⟩
  ·rw [QS m];refine ⟨?_,λg h=>?_⟩
   ·rw [Qp];exact Qf _ q
   ·rw [Qp] at h⊢
    rcases Qk.mp h with e|e
    ·exact Qk.mpr (.inl e)
    ·exact Qf _ (p g e)
theorem fN (f:Str) (v:V):∀fs:List (Str×V),(pB f v fs).length<=fs.length+1
 |[]=>by simp [pB]
 |(k,x)::r=>by
  have h:=fN f v r;rw [show pB f v ((k,x)::r)=(if k=f then (k,v)::r else (k,x)::pB f v r) from rfl]
  by_cases g:k=f
  ·rw [QH g,Qw,Qw];omega
  ·rw [QS g,Qw,Qw];omega
theorem CZ.some_of {v:V} {o:Option Value} (r:CZ (some v) o):∃u,o=some u/\ZE v u:=by
 cases o with
 |none=>exact (show False from r).elim
 |some u=>exact ⟨u,rfl,r⟩
theorem CZ.none_of {o:Option Value} (r:CZ none o):o=none:=by
 cases o with
 |none=>rfl
 |some u=>exact (show False from r).elim
theorem BY {v:V} {u:Value} (r:ZE v u):PySem.W.handedIn u=true:=by
 cases v with
 |non=>cases (show u=Value.none from r);rfl
 |bl b=>cases (show u=Value.bool b from r);rfl
 |int i=>obtain ⟨t,e⟩:=(show ∃t,u=Value.int i t from r);cases e;rfl
 |str x=>obtain ⟨t,e⟩:=(show ∃t,u=Value.str x t from r);cases e;rfl
 |byt b=>obtain ⟨t,e⟩:=(show ∃t,u=Value.bytes b t from r);cases e;rfl
 |flt b=>obtain ⟨t,e⟩:=(show ∃t,u=Value.float b t from r);cases e;rfl
 |ref a=>cases (show u=Value.ref a from r);rfl
 |ty n=>cases (show u=Value.type n from r);rfl
section
variable {P:Program} {w:World} {H H':Hp} {h h':Heap} {a C dx:Addr} {fs fs':List (Str×V)}
theorem lG (hok:HOk P w H h) (e:H a=some (.ins C dx fs)):∃g,ObjM h a dx C g/\(∀f,CZ (fs.lookup f) (g f))/\PySem.Within g (fs.map (·.1))/\fs.length<=1000/\H dx=some (.own a):=by
 obtain ⟨d,z,ne,m,g,n,r,q⟩:=(show ZF P w H h a (.ins C dx fs) from hok a _ e);exact ⟨g,⟨m,n,ne⟩,r,q,z,d⟩
end
structure Cls (K:PySem.W.Frag) (C:Addr):Prop where
 pg:PySem.W.plainGet K C Str.empty=true
 hd:PySem.W.hasDictIn K C=true
 po:PySem.W.plainOver K C=true
 sa:PySem.W.findIn K (.ref C) "__setattr__"=some (some (.builtin "object.__setattr__"))
theorem Cls.get {K:PySem.W.Frag} {C:Addr} (c:Cls K C) (f:Str):PySem.W.plainGet K C f=true:=c.pg
def ck (K:PySem.W.Frag) (C:Addr) (f:Str):Prop:=PySem.W.findIn K (.ref C) f=some none
theorem ck.taker {K:PySem.W.Frag} {C:Addr} {f:Str} (n:ck K C f):PySem.W.takerIn K C f=some none:=by
 unfold PySem.W.takerIn;rw [show PySem.W.findIn K (.ref C) f=some none from n];rfl
structure Meth (K:PySem.W.Frag) (C:Addr) (m:Str) (f:Addr):Prop where
 at_:PySem.W.findIn K (.ref C) m=some (some (.ref f))
 fn:PySem.W.isFn K (.ref f)=true
 kp:PySem.W.keepIn K (.ref f)=true
section
variable {X:Cx} {pins:List (Addr×Obj)} {σ:St} {H:Hp} {s:Shared} {a C dx:Addr} {fs:List (Str×V)} {f:Str} {v:V} {A:Around} {E:Value->Shared->Prop}
theorem vG {b:Bool} {Q:Value->Shared->Prop} (I:Inv X pins σ H s) (e:H a=some (.ins C dx fs)) (c:Cls X.K C) (n:ck X.K C f) (l:fs.lookup f=some v)
 (h:∀u s',Inv X pins σ H s'->ZE v u->Q u s'):wpAny (model X.prog X.w) A (getAttr (.ref a) f b) Q E s:=by
 obtain ⟨g,O,r,_,_,_⟩:=lG I.hok e;obtain ⟨u,m,ru⟩:=CZ.some_of (v:=v) (o:=g f) (by rw [<-l];exact r f);exact IM I.kIn O (c.get f) c.hd n m (BY ru) (h u _ (I.tok _) ru)
theorem jm {m:Str} {g:Addr} {pl:Sem Bool} {Q:Value×List Value->Shared->Prop} (I:Inv X pins σ H s) (e:H a=some (.ins C dx fs)) (c:Cls X.K C) (k:Meth X.K C m g) (l:fs.lookup m=none)
 (h:Q (.ref g,[.ref a]) s):wpAny (model X.prog X.w) A (getMethod (.ref a) m pl) Q E s:=by
 obtain ⟨p,O,r,_,_,_⟩:=lG I.hok e;have hn:p m=none:=CZ.none_of (by rw [<-l];exact r m);exact Fx I.kIn O (c.get m) k.at_ k.fn hn h
theorem ux {y:V} {u:Value} {Q:Unit->Shared->Prop} (I:Inv X pins σ H s) (e:H a=some (.ins C dx fs)) (c:Cls X.K C) (n:ck X.K C f) (N:fs.length<1000) (G:ZE y u)
 (h:∀s',Inv X pins σ (upd H a (.ins C dx (pB f y fs))) s'->Q () s'):wpAny (model X.prog X.w) A (setAttr (.ref a) f u) Q E s:=by
 obtain ⟨t,O,r,p,_,D⟩:=lG I.hok e;have hz:(fs.map (·.1)).length<=sizeLine:=by rw [Qa,sizeLine_eq];omega
 refine HD I.kIn O c.sa c.po n.taker c.hd p hz λh' m sb=>h _ ?_;have hd:∃o,h'.get? dx=some o:=let ⟨o,_,_,M,_⟩:=m.ns;⟨o,M⟩
 refine I.write (x:=a) (e:=dx) (by rw [e];exact True.intro) (.inr D) (λb q L z=>(sb.2 b L).trans z) hd ?_;refine ⟨by rw [yb O.ne];exact D,?_,O.ne,m.obj,_,m.ns,λg=>?_,λg J=>?_⟩
 ·have:=fN f y fs;omega
 ·show CZ ((pB f y fs).lookup g) (if g=f then some u else t g);rw [fK]
  by_cases q:g=f
  ·rw [QH q,QH q];exact G
  ·rw [QS q,QS q];exact r g
 ·by_cases q:g=f
  ·rw [q];exact (fO f y fs).1
  ·refine (fO f y fs).2 g (p g λz=>J ?_);show (if g=f then some u else t g)=none;rw [QS q];exact z
theorem Inv.made (I:Inv X pins σ H s):Inv X pins σ (upd (upd H s.heap.objs.size (.own (s.heap.objs.size+1))) (s.heap.objs.size+1) (.ins C s.heap.objs.size []))
 {s with heap:=(s.heap.push PySem.W.emptyDict).push (PySem.W.instObj C s.heap.objs.size)}:=by
 have g:(s.heap.push PySem.W.emptyDict).get? s.heap.objs.size=some PySem.W.emptyDict:=Qt s.heap rfl
 have p:((s.heap.push PySem.W.emptyDict).push (PySem.W.instObj C s.heap.objs.size)).get? (s.heap.objs.size+1)=some (PySem.W.instObj C s.heap.objs.size):=by
  have:=Qt (s.heap.push PySem.W.emptyDict) (o:=PySem.W.instObj C s.heap.objs.size) rfl;rwa [QM] at this
 have m:(s.heap.push PySem.W.emptyDict).Ns s.heap.objs.size (λ_=>none):=⟨PySem.W.emptyDict,#[],_,g,rfl,(λe he=>absurd he (by simp)),λ_=>rfl⟩;have r:=I.laid (a:=s.heap.objs.size) (o:= .own (s.heap.objs.size+1)) (h':=s.heap.push PySem.W.emptyDict) (t':=s.toks) (λb u q=>Qh _ q) (Qq _) ⟨_,g⟩;refine r.laid (a:=s.heap.objs.size+1) (o:= .ins C s.heap.objs.size []) (t':=s.toks) (λb u q=>Qh _ q) (Nat.le_of_eq (QM _ _)) ?_;have ne:s.heap.objs.size≠s.heap.objs.size+1:=QE (QU _);refine ⟨by rw [yb ne,yE],jai _,ne,p,λ_=>none,(Heap.Ns1.of_empty m).at λo q=>Qh _ q,λ_=>True.intro,λy h=>absurd rfl h⟩
theorem Jc {prog:Program} {w:World} {env:Env} {e:Expr} {f:Str} {pos:Pos} {s:Shared} {Q:Value->Shared->Prop} (g:attributeBase e f env (eval e env)=eval e env)
 (h:wpAny (model prog w) A (eval e env) (λo s₁=>wpAny (model prog w) A (getAttr o f true) Q E s₁) E s):wpAny (model prog w) A (eval (.Attribute e f pos) env) Q E s:=
 Attribute_any_ h (by rw [arm_eval_Attribute,g])
end
def tFld (K:PySem.W.Frag) (g:TE) (f:Str):TE:=λσ H Q=>g σ H λx H1=>∃a C h fs v,x= .ref a/\H1 a=some (.ins C h fs)/\Cls K C/\ck K C f/\fs.lookup f=some v/\Q v H1
def sFld (K:PySem.W.Frag) (p m:TE) (f:Str):TS:=λD σ H=>m σ H λy H1=>p σ H1 λx h=>∃a C g fs,x= .ref a/\h a=some (.ins C g fs)/\Cls K C/\ck K C f/\fs.length<1000/\
 D.nx σ (upd h a (.ins C g (pB f y fs)))
section
variable {X:Cx} {o e value:Expr} {f:Str} {pos pos' tpos:Pos} {ta tv:TE}
theorem pe_fld (he:PE X e ta) (p:attributeBase e f X.env (eval e X.env)=eval e X.env):PE X (.Attribute e f pos) (tFld X.K ta f):=by
 intro pins s σ H Q I h;refine Jc p (thn (he pins s σ H _ I h) λu s1 m=>?_);obtain ⟨x,H1,w,g,a,C,z,fs,v,ex,r,c,n,l,q⟩:=m;subst ex;obtain rfl:u=Value.ref a:=g;exact vG w r c n l λy s2 t ru=>⟨v,H1,t,ru,q⟩
theorem ps_fld (ha:PE X o ta) (t:PE X value tv) (w:swapsWith value (some (.Attribute o f pos')) pos.line X.env=pure false):PS X (.Assign [.Attribute o f pos'] value pos) (sFld X.K ta tv f):=by
 intro pins s σ H D I h;refine plainObj_wpAny_Assign_Attribute (thn (t pins s σ H _ I h) λu s1 ⟨y,H1,J,g,q⟩=>thn (ha pins s1 σ H1 _ J q) λr s2 z=>?_) w;obtain ⟨x,M,G,m,a,C,L,fs,ex,A,c,n,l,p⟩:=z;subst ex;obtain rfl:r=Value.ref a:=m;exact ux G A c n l g λs3 E=>⟨σ,_,E,p⟩
end
section
variable {X:Cx} {pins:List (Addr×Obj)} {σ:St} {H:Hp} {s:Shared} {A:Around} {E:Value->Shared->Prop} {Q:Value->Shared->Prop} {c:Value} {b:Bool}
inductive TyOf (K:PySem.W.Frag) (H:Hp):V->Value->Prop where
 |non:TyOf K H .non (.type "NoneType")
 |bl (x:Bool):TyOf K H (.bl x) (.type "bool")
 |int (i:Int):TyOf K H (.int i) (.type "int")
 |str (x:Str):TyOf K H (.str x) (.type "str")
 |flt (x:UInt64):TyOf K H (.flt x) (.type "float")
 |lst {a:Addr} {xs:List V} (e:H a=some (.lst xs)):TyOf K H (.ref a) (.type "list")
 |frz {a:Addr} {o:Obj} {xs:List V} (e:H a=some (.frz o (.lst xs))):TyOf K H (.ref a) (.type "list")
 |tup {a:Addr} {xs:List V} (e:H a=some (.tup xs)):TyOf K H (.ref a) (.type "tuple")
 |dK {a:Addr} {kvs:List (Key×V)} (e:H a=some (.dK kvs)):TyOf K H (.ref a) (.type "dict")
 |dT {a:Addr} {kvs:List (List Key×V)} (e:H a=some (.dT kvs)):TyOf K H (.ref a) (.type "dict")
 |ins {a C dx:Addr} {fs:List (Str×V)} (e:H a=some (.ins C dx fs)) (cl:Cls K C) (ha:PySem.W.findIn K (.ref C) "__class__"=some (some (.builtin "object.__class__")))
  (hn:PySem.W.specialIn K (.builtin "object.__class__") "__get__"=some (some (.builtin "getset_descriptor.__get__"))) (htk:PySem.W.takesIn K (.builtin "object.__class__")=some true)
  (hm:PySem.W.mroIn K C (.type "object")=some true):TyOf K H (.ref a) (.ref C)
theorem BS {x:V} {u t:Value} (I:Inv X pins σ H s) (g:ZE x u) (ty:TyOf X.K H x t) (e:PySem.W.kitOne X.K t c=some b) (h:∀tk,Q (.bool b) {s with toks:=tk}):
 wpAny (model X.prog X.w) A (call (.builtin "isinstance") [u,c]) Q E s:=by
 cases ty with
 |non=>cases (show u=Value.none from g);exact jar PySem.W.kitx_none I.kIn True.intro e (λz=>nomatch z) h
 |bl y=>cases (show u=Value.bool y from g);exact jar PySem.W.kitx_bool I.kIn True.intro e (λz=>nomatch z) h
 |int i=>obtain ⟨t,q⟩:=(show ∃t,u=Value.int i t from g);cases q;exact jar PySem.W.kitx_int I.kIn True.intro e (λz=>nomatch z) h
 |str y=>obtain ⟨t,q⟩:=(show ∃t,u=Value.str y t from g);cases q;exact jar PySem.W.kitx_str I.kIn True.intro e (λz=>nomatch z) h
 |flt y=>obtain ⟨t,q⟩:=(show ∃t,u=Value.float y t from g);cases q;exact jar PySem.W.kitx_float I.kIn True.intro e (λz=>nomatch z) h
 |@lst a xs ea=>
  cases (show u=Value.ref a from g);obtain ⟨_,_,n,_,m⟩:=(show ZF X.prog X.w H s.heap a (.lst xs) from I.hok a _ ea);exact jar PySem.W.kitx_list I.kIn ⟨_,m,rfl⟩ e (λz=>nomatch z) h
 |@frz a ob xs ea=>
  cases (show u=Value.ref a from g);obtain ⟨_,_,_,n,_,m⟩:=(show ZF X.prog X.w H s.heap a (.frz ob (.lst xs)) from I.hok a _ ea);exact jar PySem.W.kitx_list I.kIn ⟨_,m,rfl⟩ e (λz=>nomatch z) h
 |@tup a xs ea=>
  cases (show u=Value.ref a from g);obtain ⟨_,_,_,p⟩:=(show ZF X.prog X.w H s.heap a (.tup xs) from I.hok a _ ea);obtain ⟨o,m,r,_⟩:=p;exact jar PySem.W.kitx_tuple I.kIn ⟨o,m,r⟩ e (λz=>nomatch z) h
 |@dK a kvs ea=>
  cases (show u=Value.ref a from g);obtain ⟨_,_,vs,_,p⟩:=(show ZF X.prog X.w H s.heap a (.dK kvs) from I.hok a _ ea);obtain ⟨o,es,ep,m,r,_⟩:=p;exact jar PySem.W.kitx_dict I.kIn ⟨o,m,r.1⟩ e (λz=>nomatch z) h
 |@dT a kvs ea=>
  cases (show u=Value.ref a from g);obtain ⟨_,_,xs,_,o,es,ep,m,r,_⟩:=(show ZF X.prog X.w H s.heap a (.dT kvs) from I.hok a _ ea);exact jar PySem.W.kitx_dict I.kIn ⟨o,m,r.1⟩ e (λz=>nomatch z) h
 |@ins a C dx fs ea cl ha hn htk hm=>
  cases (show u=Value.ref a from g);obtain ⟨G,O,_⟩:=lG I.hok ea;obtain ⟨D,J,_⟩:=O.look;exact jar (PySem.W.kitx_own (cl.get _) cl.hd ha hn htk hm) I.kIn J e (λz=>nomatch z) h
end
end L2
namespace L2
open PySem PySem.Spec PyProof.Rows
structure Room (k:Nat) (A:Around):Prop where
 hd:A.handled=none
 dp:A.depth+3*k+5<recursionLimit
 un:A.units+16*k+200<cLine
theorem Room.mono {j k:Nat} {A:Around} (r:Room k A) (h:j<=k):Room j A:=⟨r.hd,by have:=r.dp;omega,by have:=r.un;omega⟩
theorem Room.deeper {k:Nat} {A:Around} (r:Room (k+1) A) (env:Env):Room k (A.deeper env):=
 ⟨r.hd,by have:=r.dp;show A.depth+1+3*k+5<_;omega,by have:=r.un;show A.units+3+16*k+200<_;omega⟩
theorem vo {A:Around} {C:Addr} {us:List Value} {kw:List (Str×Value)}:(A.under (.builtin "type.__call__" ⟨.ref C::us,kw⟩)).depth=A.depth+1:=by
 first|rfl|simp [Around.under,Code.weight,Code.isCreation,Code.isGuard,Code.isCaller,Code.frames,Code.isFrame,guardIds]
theorem vm {A:Around} {C:Addr} {us:List Value} {kw:List (Str×Value)}:(A.under (.builtin "type.__call__" ⟨.ref C::us,kw⟩)).units=A.units+1:=by
 first|rfl|simp [Around.under,Code.cUnits,Code.frames,Code.isFrame]
theorem Room.make {k:Nat} {A:Around} (r:Room (k+1) A) (C:Addr) (us:List Value) (kw:List (Str×Value)):Room k (A.under (.builtin "type.__call__" ⟨.ref C::us,kw⟩)):=
 ⟨r.hd,by have:=r.dp;rw [vo];omega,by have:=r.un;rw [vm];omega⟩
theorem Room.depth {k:Nat} {A:Around} (r:Room k A):A.depth<recursionLimit:=by have:=r.dp;omega
theorem Room.units {k:Nat} {A:Around} (r:Room k A):A.units+64<cLine:=by have:=r.un;omega
def tNil:TA:=λ_ H Q=>Q [] H
def tCons (h:TE) (g:TA):TA:=λσ H Q=>h σ H λx H1=>g σ H1 λxs m=>Q (x::xs) m
section
variable {X:Cx} {e:Expr} {es:List Expr} {te:TE} {t:TA} {pos:Pos}
theorem zA:PA X [] tNil:=λ_ _ _ _ H Q I h=>Calls.spliced_nil ⟨[],H,I, .nil,h⟩
theorem zh (ha:PE X e te) (hr:PA X es t) (r:starEach (e::es) X.env=(false,eval e X.env)::starEach es X.env:=by rfl):PA X (e::es) (tCons te t):=by
 intro pos pins s σ H Q I h;rw [r];show wpAny _ _ (spliced ((false,eval e X.env)::backTo pos (starEach es X.env))) _ _ s;refine Calls.spliced_cons (thn (ha pins s σ H _ I h) λu s1 w=>?_);obtain ⟨x,H1,z,m,q⟩:=w;exact thn (hr pos pins s1 σ H1 _ z q) λus s2 ⟨xs,A,y,g,p⟩=>⟨x::xs,A,y, .cons m g,p⟩
def tTup (t:TA):TE:=λσ H Q=>t σ H λxs H1=>xs.length<=sizeLine/\∀p,H1 p=none->Q (.ref p) (upd H1 p (.tup xs))
def tLst (t:TA):TE:=λσ H Q=>t σ H λxs H1=>xs.length<=sizeLine/\∀p,H1 p=none->Q (.ref p) (upd H1 p (.lst xs))
theorem nL {x1} (h:PA X es t):PE X (.Tuple es x1 pos) (tTup t):=by
 intro pins s σ H Q I hq;refine wpAny_Tuple_spliced (thn (h pos pins s σ H _ I hq) λus s1 ⟨xs,H1,g,r,z,q⟩=>⟨by rw [<-r.length];exact z,?_⟩);have hf:H1 s1.heap.objs.size=none:=g.hok.fresh (Qq _);refine ⟨.ref s1.heap.objs.size,upd H1 s1.heap.objs.size (.tup xs),g.laid (t':=s1.toks) (λb u e=>Qh _ e) (Qq _) ?_,rfl,q _ hf⟩;exact ⟨z,us,r,⟨_,Qt _ rfl,rfl,_,rfl⟩⟩
theorem jd (h:PA X es t):PE X (.List es pos) (tLst t):=by
 intro pins s σ H Q I hq;refine wpAny_List_spliced (thn (h pos pins s σ H _ I hq) λus s1 ⟨xs,H1,g,r,z,q⟩=>⟨by rw [<-r.length];exact z,?_⟩);have hf:H1 s1.heap.objs.size=none:=g.hok.fresh (Qq _);refine ⟨.ref s1.heap.objs.size,upd H1 s1.heap.objs.size (.lst xs),g.laid (t':=s1.toks) (λb u e=>Qh _ e) (Qq _) ?_,rfl,q _ hf⟩;exact ⟨z,us,0,r,Qt _ rfl⟩
end
abbrev Sp:=List V->Hp->VK->XK->Prop
abbrev CXT:=List Env->Hp->Shared->XK->Value->Shared->Prop
structure Env0 (P:Program) (w:World) (K:PySem.W.Frag) (mg:Str->Option Value) (base:Heap) (A:Around) (outer:List Env) (s:Shared) (H:Hp):Prop where
 frames:A.frames=some outer
 mod:Mod K mg base
 bs:∀b o,base.get? b=some o->s.heap.get? b=some o/\H b=none
 bsz:base.objs.size<=s.heap.objs.size
 funs:s.heap.FunFrames base outer
 frf:∀b∈frs outer,H b=none
 hok:HOk P w H s.heap
 bare:AllBare s.gens
def CE (outer:List Env) (P:Program) (w:World) (H:Hp) (s:Shared) (Q:VK) (u:Value) (s':Shared):Prop:=
 ∃v H',s'.os=s.os/\AllBare s'.gens/\Un (frs outer) [] H H' s.heap s'.heap/\HOk P w H' s'.heap/\ZE v u/\Q v H'
def CR (CX:CXT) (outer:List Env) (P:Program) (w:World) (H:Hp) (s:Shared) (Q:VK) (E:XK) (r:Result) (s':Shared):Prop:=
 match r with
 | .ok (.ret u)=>CE outer P w H s Q u s'
 | .ok _=>False
 | .error e=>CX outer H s E e s'
structure FnOk (P:Program) (w:World) (K:PySem.W.Frag) (mg:Str->Option Value) (base:Heap) (CX:CXT) (k:Nat) (f:Addr) (fd:FuncData) (ps:List Str) (sp:Sp):Prop where
 len:∀vs H Q E,sp vs H Q E->vs.length=ps.length
 run:∀(A:Around) (outer:List Env) (s:Shared) (H:Hp) (args:Args) (us:List Value) (vs:List V) (Q:VK) (E:XK),Room k A->Env0 P w K mg base A outer s H->BindsTo s fd args (ps.zip us)->xE vs us->sp vs H Q E->
  codeAny (model P w) A (.call (.ref f) args) (CR CX outer P w H s Q E) s
theorem FnOk.mono {P:Program} {w:World} {K:PySem.W.Frag} {mg:Str->Option Value} {base:Heap} {CX:CXT} {j k:Nat} {f:Addr} {fd:FuncData} {ps:List Str} {sp:Sp} (F:FnOk P w K mg base CX j f fd ps sp) (h:j<=k):
 FnOk P w K mg base CX k f fd ps sp:=⟨F.len,λA outer s H args us vs Q E hr=>F.run A outer s H args us vs Q E (hr.mono h)⟩
theorem FnOk.imp {P:Program} {w:World} {K:PySem.W.Frag} {mg:Str->Option Value} {base:Heap} {CX:CXT} {k:Nat} {f:Addr} {fd:FuncData} {ps:List Str} {sp g:Sp} (F:FnOk P w K mg base CX k f fd ps sp)
 (h:∀vs H Q E,g vs H Q E->sp vs H Q E):FnOk P w K mg base CX k f fd ps g:=
 ⟨λvs H Q E q=>F.len vs H Q E (h _ _ _ _ q),λA outer s H args us vs Q E hr he r m p=>F.run A outer s H args us vs Q E hr he r m (h _ _ _ _ p)⟩
theorem Env0.make {P:Program} {w:World} {K:PySem.W.Frag} {mg:Str->Option Value} {base:Heap} {A:Around} {outer:List Env} {s:Shared} {H:Hp} (e:Env0 P w K mg base A outer s H) (C:Addr) (us:List Value) (kw:List (Str×Value)):
 Env0 P w K mg base (A.under (.builtin "type.__call__" ⟨.ref C::us,kw⟩)) outer s H:=⟨by first|exact e.frames|(simpa [Around.under,Code.envs,Code.isFrame,pushEnvs] using e.frames),e.mod,e.bs,e.bsz,e.funs,e.frf,e.hok,e.bare⟩
section
variable {X:Cx} {pins:List (Addr×Obj)} {σ:St} {H:Hp} {s s':Shared}
theorem Inv.env0 (I:Inv X pins σ H s):Env0 X.prog X.w X.K X.mg X.base X.A X.stack s H:=
 ⟨I.ok.frames,I.ok.mod,I.bs,QT I.ok.bsz I.sz,I.stack,I.stkFree,I.hok,I.bare⟩
theorem Inv.after {Q:VK} {u:Value} (I:Inv X pins σ H s) (h:CE X.stack X.prog X.w H s Q u s'):EP X pins σ Q u s':=by
 obtain ⟨v,H',os,bare,un,hok,r,q⟩:=h;obtain ⟨m,g,d,t,p⟩:=s';obtain rfl:p=s.os:=os;exact ⟨v,H',I.call (h':=m) (g':=g) (d':=d) (t':=t) (ch:=[]) un hok bare (λb z=>absurd z (by simp)),r,q⟩
end
def uv (sp:Sp) (g:List V) (E:XK) (t:TA):TE:=λσ H Q=>t σ H λvs H1=>sp (vs++g) H1 Q E
def Hs (C:Addr) (sp:Sp) (h:List V) (E:XK) (t:TA):TE:=λσ H Q=>t σ H λvs H1=>∀x g,H1 x=none->H1 g=none->g≠x->
 sp (.ref x::(vs++h)) (upd (upd H1 g (.own x)) x (.ins C g [])) (λv m=>v= .non/\Q (.ref x) m) E
def yX (K:PySem.W.Frag) (fd:FuncData) (ps:List Str) (ds:List Value):Prop:=
 ∀(s:Shared) (us:List Value),K.In s.heap->(us++ds).length=ps.length->BindsTo s fd ⟨us,[]⟩ (ps.zip (us++ds))
theorem yX.all {K:PySem.W.Frag} {fd:FuncData} {ps:List Str} (h:∀us:List Value,us.length=ps.length->bindArgs fd ⟨us,[]⟩=pure (ps.zip us)):yX K fd ps []:=λs us _ g=>by
 rw [jaR] at g⊢;exact .of_eq (h us g)
def Wr (CX:CXT) (X:Cx) (E:XK):Prop:=∀(pins:List (Addr×Obj)) (σ:St) (H:Hp) (s:Shared) (e:Value) (s':Shared),Inv X pins σ H s->CX X.stack H s E e s'->X.xe e s'
section
variable {X:Cx} {CX:CXT} {k:Nat} {f C:Addr} {fd:FuncData} {ps:List Str} {sp:Sp} {dvs:List V} {ds:List Value} {E:XK} {x m:Str} {p pos apos:Pos} {e o:Expr} {es:List Expr} {ta:TE} {t:TA}
theorem rX {pins:List (Addr×Obj)} {σ:St} {H:Hp} {s:Shared} {Q:VK} {us:List Value} {vs:List V} (F:FnOk X.prog X.w X.K X.mg X.base CX k f fd ps sp) (hr:Room k X.A) (D:yX X.K fd ps ds) (hd:xE dvs ds) (y:Wr CX X E)
 (I:Inv X pins σ H s) (r:xE vs us) (h:sp (vs++dvs) H Q E):wpAny (model X.prog X.w) X.A (call (.ref f) us) (EP X pins σ Q) X.xe s:=by
 have q:xE (vs++dvs) (us++ds):=r.append hd;have z:(us++ds).length=ps.length:=by rw [<-q.length];exact F.len _ _ _ _ h
 refine wpAny_call (jbC (F.run X.A X.stack s H ⟨us,[]⟩ (us++ds) (vs++dvs) Q E hr I.env0 (D s us I.kIn z) q h) λr s' g=>?_)
 cases r with
 |error e=>exact y pins σ H s e s' I g
 |ok G=>
  cases G with
  |ret u=>exact I.after g
  |next=>exact False.elim g
  |brk=>exact False.elim g
  |cont=>exact False.elim g
theorem Ie (F:FnOk X.prog X.w X.K X.mg X.base CX k f fd ps sp) (hr:Room k X.A) (z:Gl X x) (hm:X.mg x=some (.ref f)) (y:PySem.W.keepIn X.K (.ref f)=true) (D:yX X.K fd ps ds) (hd:xE dvs ds) (u:Wr CX X E)
 (ha:PA X (e::es) t) (G:(x==("__debug__":Str))=false:=by decide) (he:starEach (e::es) X.env=(false,eval e X.env)::starEach es X.env:=by rfl) (J:(backTo pos (starEach es X.env)).any (·.1)=false:=by rfl):
 PE X (.Call (.Name x p) (e::es) [] pos) (uv sp dvs E t):=by
 intro pins s σ H Q I h;refine jan (Up I z hm ?_ G);refine jbG (h₀:=X.base) I.ok.mod.kin y (thn (ha pos pins s σ H _ I h) λus s1 ⟨vs,H1,g,r,q⟩=>⟨g.kIn,?_⟩) he J;exact rX F hr D hd u g r q
structure Mk (K:PySem.W.Frag) (C f:Addr):Prop where
 makes:PySem.W.makesIn K C=true
 init:PySem.W.findIn K (.ref C) "__init__"=some (some (.ref f))
 fn:PySem.W.isFn K (.ref f)=true
 kp:PySem.W.keepIn K (.ref C)=true
theorem rW {pins:List (Addr×Obj)} {σ:St} {H:Hp} {s:Shared} {Q:VK} {us:List Value} {vs:List V} (M:Mk X.K C f) (F:FnOk X.prog X.w X.K X.mg X.base CX k f fd ps sp) (hr:Room (k+1) X.A) (O:yX X.K fd ps ds) (hd:xE dvs ds)
 (L:Wr CX X E) (I:Inv X pins σ H s) (r:xE vs us)
 (h:∀x q,H x=none->H q=none->q≠x->sp (.ref x::(vs++dvs)) (upd (upd H q (.own x)) x (.ins C q [])) (λv U=>v= .non/\Q (.ref x) U) E):
 wpAny (model X.prog X.w) X.A (call (.ref C) us) (EP X pins σ Q) X.xe s:=by
 have D:=h (s.heap.objs.size+1) s.heap.objs.size (I.hok.fresh (jaj _)) (I.hok.fresh (Qq _)) (QE (QU _));have y:=Inv.made (C:=C) I;have z:xE (V.ref (s.heap.objs.size+1)::(vs++dvs)) (Value.ref (s.heap.objs.size+1)::(us++ds)):= .cons rfl (r.append hd)
 have N:(Value.ref (s.heap.objs.size+1)::us++ds).length=ps.length:=by
  have e:=z.length;rw [F.len _ _ _ _ D] at e;exact e.symm
 refine wpAny_call (EE (f:=f) I.kIn M.makes M.init (beq_iff_eq.mp M.fn) (jbC (F.run _ X.stack _ _ ⟨Value.ref (s.heap.objs.size+1)::us,[]⟩ (Value.ref (s.heap.objs.size+1)::(us++ds)) _ _ E (hr.make C us [])
  (y.env0.make C us []) (O _ (Value.ref (s.heap.objs.size+1)::us) y.kIn N) z D) λr s' g=>?_))
 cases r with
 |error e=>exact L pins σ _ _ e s' y g
 |ok P=>
  cases P with
  |ret u=>
   obtain ⟨v,H',T,G,ev,J⟩:=y.after g;subst ev;exact ⟨G,⟨V.ref (s.heap.objs.size+1),H',T,rfl,J⟩⟩
  |next=>exact False.elim g
  |brk=>exact False.elim g
  |cont=>exact False.elim g
theorem pe_make (M:Mk X.K C f) (F:FnOk X.prog X.w X.K X.mg X.base CX k f fd ps sp) (hr:Room (k+1) X.A) (y:Gl X x) (hm:X.mg x=some (.ref C)) (z:yX X.K fd ps ds) (hd:xE dvs ds) (u:Wr CX X E)
 (ha:PA X (e::es) t) (D:(x==("__debug__":Str))=false:=by decide) (he:starEach (e::es) X.env=(false,eval e X.env)::starEach es X.env:=by rfl) (G:(backTo pos (starEach es X.env)).any (·.1)=false:=by rfl):
 PE X (.Call (.Name x p) (e::es) [] pos) (Hs C sp dvs E t):=by
 intro pins s σ H Q I h;refine jan (Up I y hm ?_ D);refine jbG (h₀:=X.base) I.ok.mod.kin M.kp (thn (ha pos pins s σ H _ I h) λus s1 ⟨vs,H1,g,r,q⟩=>⟨g.kIn,?_⟩) he G;exact rW M F hr z hd u g r q
theorem pe_make0 (M:Mk X.K C f) (F:FnOk X.prog X.w X.K X.mg X.base CX k f fd ps sp) (hr:Room (k+1) X.A) (q:Gl X x) (hm:X.mg x=some (.ref C)) (r:yX X.K fd ps ds) (hd:xE dvs ds) (g:Wr CX X E)
 (u:(x==("__debug__":Str))=false:=by decide):PE X (.Call (.Name x p) [] [] pos) (Hs C sp dvs E tNil):=by
 intro pins s σ H Q I h;refine jan (Up I q hm ?_ u);exact PySem.W.callWith_K0 I.kIn M.kp (rW (us:=[]) M F hr r hd g I .nil h)
end
section
variable {X:Cx} {CX:CXT} {k:Nat} {f C:Addr} {fd:FuncData} {ps ks:List Str} {sp:Sp} {E:XK} {x m:Str} {p pos apos kpos:Pos} {e o:Expr} {es:List Expr} {kws:List Keyword} {te ta:TE} {t tk:TA} {nm:Option Str}
variable {g:List Value->List Value->List Value} {gV:List V->List V->List V}
end
structure FnScope (N P:List Str) (sc:Scope):Prop where
 kind:sc.kind= .function
 co:sc.isCoroutine=false
 gen:sc.isGenerator=false
 nd:N.Nodup
 pre:N.take P.length=P
 par:∀x∈P,sc.names.lookup x=some .local\/sc.names.lookup x=some .cell
 nofree:∀y∈sc.names,y.2≠ .free
theorem oI {kindOf:Str->Option NameKind} {x:Str}:∀{binds:List (Str×Value)} {m:Str->Option Value},(∀v,(x,v)∉binds)->bindL kindOf binds m x=m x
 |[],_,_=>rfl
 |(n,v)::r,m,h=>by
  unfold bindL;rw [oI λw hw=>h w (Qf _ hw)]
  split
  ·have:x≠n:=by rintro rfl;exact h v Qc
   simp [this]
  ·rfl
theorem oK {kindOf:Str->Option NameKind} {x:Str}:∀{binds:List (Str×Value)} {m:Str->Option Value},(∀v,(x,v)∉binds)->bindC kindOf binds m x=m x
 |[],_,_=>rfl
 |(n,v)::r,m,h=>by
  unfold bindC;rw [oK λw hw=>h w (Qf _ hw)]
  split
  ·rfl
  ·have:x≠n:=by rintro rfl;exact h v Qc
   simp [this]
theorem oJ {kindOf:Str->Option NameKind} {x:Str} {v:Value}:∀{P:List Str} {vs:List Value} {i:Nat} {m:Str->Option Value},P.Nodup->P[i]? =some x->vs[i]? =some v->kindOf x=some .local->
 bindL kindOf (P.zip vs) m x=some v
 |[],_,_,_,_,h,_,_=>by simp at h
 |_::_,[],_,_,_,_,h,_=>by simp at h
 |p::P,w::vs,0,m,nd,h1,h2,hk=>by
  simp at h1 h2;subst h1;subst h2;show bindL kindOf ((p,w)::P.zip vs) m p=_;unfold bindL;rw [oI λv g=>(TK.mp nd).1 (jbp g).1,QH hk]
  simp
 |p::P,w::vs,i+1,m,nd,h1,h2,hk=>by
  show bindL kindOf ((p,w)::P.zip vs) m x=_;unfold bindL;exact oJ (i:=i) (TK.mp nd).2 (by simpa using h1) (by simpa using h2) hk
theorem oM {kindOf:Str->Option NameKind} {x:Str} {v:Value}:∀{P:List Str} {vs:List Value} {i:Nat} {m:Str->Option Value},P.Nodup->P[i]? =some x->vs[i]? =some v->kindOf x≠some .local->
 bindC kindOf (P.zip vs) m x=some v
 |[],_,_,_,_,h,_,_=>by simp at h
 |_::_,[],_,_,_,_,h,_=>by simp at h
 |p::P,w::vs,0,m,nd,h1,h2,hk=>by
  simp at h1 h2;subst h1;subst h2;show bindC kindOf ((p,w)::P.zip vs) m p=_;unfold bindC;rw [oK λv g=>(TK.mp nd).1 (jbp g).1,QS hk]
  simp
 |p::P,w::vs,i+1,m,nd,h1,h2,hk=>by
  show bindC kindOf ((p,w)::P.zip vs) m x=_;unfold bindC;exact oM (i:=i) (TK.mp nd).2 (by simpa using h1) (by simpa using h2) hk
def gU (N:List Str) (vs:List V):St:=vs.map some++List.replicate (N.length - vs.length) none
def Fz (CX:CXT) (P:Program) (w:World) (K:PySem.W.Frag) (mg:Str->Option Value) (base:Heap) (N:List Str) (qual:Str) (scope:Scope) (f:Addr) (cd:Value) (A:Around) (outer:List Env) (s:Shared) (H:Hp) (E:XK):Cx where
 prog:=P
 w:=w
 K:=K
 mg:=mg
 base:=base
 A:=A.deeper (envOfC qual scope s.heap.objs.size f cd)
 N:=N
 s₀:=s
 H₀:=H
 env:=envOfC qual scope s.heap.objs.size f cd
 outer:=outer
 stack:=envOfC qual scope s.heap.objs.size f cd::outer
 ex:=[]
 calm:=true
 fn:=λ_=>true
 pn:=[]
 xe:=λe s'=>wpAny (model P w) (A.deeper (envOfC qual scope s.heap.objs.size f cd)) (leaving (envOfC qual scope s.heap.objs.size f cd) e) (λ_ g=>CX outer H s E e g) (λh g=>CX outer H s E h g) s'
theorem tF {sc:Scope} {n:Nat} {x:Str} (h:sc.names.lookup x=some .cell):∃c,(cellsFrom n sc.names []).lookup x=some c:=by
 have q:=PySem.W.cellsFrom_some sc.names n [] (.inl h);exact jaI.mp q
theorem BU {CX:CXT} {P:Program} {w:World} {K:PySem.W.Frag} {mg:Str->Option Value} {base:Heap} {N ps:List Str} {qual:Str} {scope:Scope} {f:Addr} {cd:Value} {A:Around} {outer:List Env} {s s1:Shared} {H:Hp} {E:XK} {us:List Value} {vs:List V}
 (S:FnScope N ps scope) (hd:A.handled=none) (e0:Env0 P w K mg base A outer s H) (M:vs.length=ps.length) (r:xE vs us)
 (x:InCallC s s.heap.objs.size (bindL (envOfC qual scope s.heap.objs.size f cd).kindOf (ps.zip us) λ_=>none) (cellsFrom (s.heap.objs.size+1) scope.names []) (bindC (envOfC qual scope s.heap.objs.size f cd).kindOf (ps.zip us) λ_=>none) s1):
 Inv (Fz CX P w K mg base N qual scope f cd A outer s H E) [] (gU N vs) H s1:=by
 have Q:ps.length<=N.length:=by have:=congrArg List.length S.pre;rw [Tr] at this;omega
 obtain ⟨G,tk,rfl,J⟩:=x.done;have m:∀b:Addr,b∉(Fz CX P w K mg base N qual scope f cd A outer s H E).ex:=λb z=>absurd (show b∈([]:List Addr) from z) (by simp)
 refine ⟨⟨e0.mod,S.kind,rfl,rfl,Qq _,λy z c G g=>?_,λy t=>?_,λy c _ h=>?_,λ_=>hd,Around.frames_deeper e0.frames, .inr ⟨rfl,rfl⟩,λb z=>absurd z (m b),e0.bs,e0.bsz,λb _ _=>m b,λb z=>absurd z (m b),e0.funs,e0.frf⟩,
  rfl,e0.bare,Un.kept J,⟨_,x.toInCall.ns,λi y v G g O=>?_⟩,λy c h=>⟨_,x.cell y c h⟩,e0.hok.fresh (Qq _),λy c h=>?_,λp hp=>absurd (show p∈([]:List (Addr×Obj)) from hp) (by simp),e0.hok.kept J,?_⟩
 ·exact name_of_addr x.apart (jaC G) (jaC g)
 ·have t:scope.names.lookup y=some .cell\/scope.names.lookup y=some .free:=t
  rcases t with t|t
  ·exact tF t
  ·exact absurd rfl (S.nofree _ (jaC t))
 ·exact jbo (x.above y c (jaC h))
 ·have D:i<vs.length:=by
   unfold gU at g
   by_cases D:i<vs.length
   ·exact D
   ·rw [Tq (by simpa using D)] at g;rw [QL] at g
    split at g<;>cases g
  have ha:vs[i]? =some v:=by
   unfold gU at g;rw [jas (by simpa using D),Qi] at g
   cases e:vs[i]? with
   |none=>rw [e] at g;cases g
   |some a=>rw [e] at g;cases g;rfl
  obtain ⟨u,I,L⟩:=r.get ha
  have hp:ps[i]? =some y:=by
   rw [<-S.pre,List.getElem?_take_of_lt (by omega)];exact G
  have C:ps.Nodup:=by rw [<-S.pre];exact S.nd.sublist (List.take_sublist _ _)
  refine ⟨u,L,?_⟩
  rcases S.par y (Qb hp) with k|k
  ·exact .inl ⟨k,oJ C hp I k⟩
  ·obtain ⟨c,e⟩:=tF (n:=s.heap.objs.size+1) k;refine .inr ⟨.inl k,c,e,?_⟩;have q:=x.cell y c e;rw [oM C hp I (by show scope.names.lookup y≠_;rw [k];decide)] at q;exact q
 ·exact e0.hok.fresh (jbo (x.above y c (jaC h)))
 ·unfold gU;show _=N.length;rw [Qr,Qa,QA];omega
theorem fn_of {CX:CXT} {P:Program} {w:World} {K:PySem.W.Frag} {mg:Str->Option Value} {base:Heap} {k:Nat} {f:Addr} {name qual:Str} {params:Arguments} {body:List Stmt} {scope:Scope} {z kV doc pm g ct L:Value} {an G:Option Addr}
 {p:Array (Option Value)} {N ps:List Str} {sp:Sp} (lk:K.lookup f=some ⟨L,G, .func (PySem.W.fnOf name qual params body scope z kV doc pm an g ct),p⟩) (Z:PySem.W.codeIn K g qual=true) (S:FnScope N ps scope)
 (len:∀vs H Q E,sp vs H Q E->vs.length=ps.length)
 (KP:∀(A:Around) (outer:List Env) (s:Shared) (H:Hp) (vs:List V) (Q:VK) (E:XK),Room k (A.deeper (envOfC qual scope s.heap.objs.size f g))->sp vs H Q E->
  ∃t,PSs (Fz CX P w K mg base N qual scope f g A outer s H E) body t/\t {nx:=λ_ H'=>Q .non H',rt:=Q} (gU N vs) H):
 FnOk P w K mg base CX (k+1) f (PySem.W.fnOf name qual params body scope z kV doc pm an g ct) ps sp:=by
 refine ⟨len,λA outer s H args us vs Q E hr e0 U r C=>?_⟩;have T:=len _ _ _ _ C;have D:K.In s.heap:=e0.mod.kin.keeps λb o e=>(e0.bs b o e).1;have lim:s.heap.NoLimit:=e0.mod.nolimit.keeps λb o e=>(e0.bs b o e).1
 have Y:∀y∈ps.zip us,scope.names.lookup y.1=some .local\/(scope.names.lookup y.1=some .cell/\((cellsFrom (s.heap.objs.size+1) scope.names []).lookup y.1).isSome=true):=λ⟨n,v⟩ M=>by
  rcases S.par n (jbp M).1 with q|q
  ·exact .inl q
  ·exact .inr ⟨q,PySem.W.cellsFrom_some _ _ _ (.inl q)⟩
 refine codeAny_call_function hr.depth (D _ _ lk) rfl S.co S.gen rfl (PySem.W.codeRec_of D Z) (U _ _ _ _ ?_);refine wpAny_newFunctionEnv_cells S.kind Y λenv he s1 x=>?_;subst he;refine ⟨lim.keeps x.toInCall.keep,codeAny_func ?_⟩;obtain ⟨t,ht,O⟩:=KP A outer s H vs Q E (hr.deeper _) C;have I:Inv (Fz CX P w K mg base N qual scope f g A outer s H E) [] (gU N vs) H s1:=BU S hr.hd e0 T r x;refine wpAny_mono (ht [] s1 (gU N vs) H _ I O) (λX s' h=>?_) λe s' h=>h
 have fin:∀{σ':St} {H':Hp} {v:V} {u:Value},Inv (Fz CX P w K mg base N qual scope f g A outer s H E) [] σ' H' s'->ZE v u->Q v H'->CE outer P w H s Q u s':=
  λ{σ' H' v u} J m q=>⟨v,H',J.os,J.bare,J.base,J.hok,m,q⟩
 cases X with
 |ret u=>
  obtain ⟨v,σ',H',J,m,q⟩:=h;exact fin J m q
 |next=>
  obtain ⟨σ',H',J,q⟩:=h;exact fin (v:=V.non) (u:=Value.none) J rfl q
 |brk=>
  obtain ⟨_,_,_,q⟩:=h;exact False.elim q
 |cont=>
  obtain ⟨_,_,_,q⟩:=h;exact False.elim q
end L2
namespace L2
open PySem PySem.Spec PyProof.Rows
section
variable {X:Cx} {x:Str} {p pos:Pos} {e:Expr} {es:List Expr} {t:TA} {id T:String} {r:List V->Hp->VK->Prop}
def tCB (r:List V->Hp->VK->Prop) (t:TA):TE:=λσ H Q=>t σ H λvs H1=>r vs H1 Q
theorem yk (w:Vf X (.builtin id) r) (u:Gl X x) (hm:X.mg x=none) (q:bootBuiltins x=some (.builtin id)) (ha:PA X (e::es) t) (hn:x≠"__name__":=by decide) (y:(x==("__debug__":Str))=false:=by decide)
 (he:starEach (e::es) X.env=(false,eval e X.env)::starEach es X.env:=by rfl) (z:(backTo pos (starEach es X.env)).any (·.1)=false:=by rfl):PE X (.Call (.Name x p) (e::es) [] pos) (tCB r t):=by
 intro pins s σ H Q I h;refine jan (Wm I u hm q ?_ hn y);exact PyProof.Rows.callWith_builtin1 (thn (ha pos pins s σ H _ I h) λus s1 ⟨vs,H1,A,g,m⟩=>w pins s1 σ H1 vs us Q A g m) he z
theorem pe_callTy (w:Vf X (.type T) r) (u:Gl X x) (hm:X.mg x=none) (q:bootBuiltins x=some (.type T)) (ha:PA X (e::es) t) (hn:x≠"__name__":=by decide) (y:(x==("__debug__":Str))=false:=by decide)
 (he:starEach (e::es) X.env=(false,eval e X.env)::starEach es X.env:=by rfl) (z:(backTo pos (starEach es X.env)).any (·.1)=false:=by rfl):PE X (.Call (.Name x p) (e::es) [] pos) (tCB r t):=by
 intro pins s σ H Q I h;refine jan (Wm I u hm q ?_ hn y);exact Tg (thn (ha pos pins s σ H _ I h) λus s1 ⟨vs,H1,A,g,m⟩=>w pins s1 σ H1 vs us Q A g m) he z
end
end L2
namespace HT
open PySem PyProof.Rows
section
open PySem.SeqAt
open PySem.AutoSeq1 (wpAny_loadPart')
open PySem.MeetsSeq PySem.MeetsSeq2 PySem.MeetsSeq3
end
section
variable {prog:Program} {w:World} {A:Around} {E:Value->Shared->Prop} {s:Shared}
def sIx (n d:Nat):Option Int->Nat
 |none=>d
 |some v=>if v<0 then (v+(n:Int)).toNat else min v.toNat n
theorem sIx_none (n d:Nat):sIx n d none=d:=rfl
theorem sIx_nat (n d k:Nat):sIx n d (some (k:Int))=min k n:=by
 show (if (k:Int)<0 then ((k:Int)+(n:Int)).toNat else min (k:Int).toNat n)=min k n;rw [QS (by omega),Ts]
end
end HT
namespace L2
open PySem PySem.Spec PyProof.Rows
abbrev TO:=St->Hp->(Option Int->Hp->Prop)->Prop
def PO (X:Cx) (e:Option Expr) (t:TO):Prop:=
 ∀(pins:List (Addr×Obj)) (s:Shared) (σ:St) (H:Hp) (Q:Option Int->Hp->Prop),Inv X pins σ H s->t σ H Q->
  wpAny (model X.prog X.w) X.A (evalPart e X.env) (λu s'=>∃o H',Inv X pins σ H' s'/\IsPart u o/\Q o H') X.xe s
def wJ:TO:=λ_ H Q=>Q none H
def tPart (t:TE):TO:=λσ H Q=>t σ H λx H1=>∃i,x= .int i/\Q (some i) H1
theorem Vr {ns:List Int}:∀{us:List Value},xE (ns.map V.int) us->IntsAre us ns:=by
 induction ns with
 |nil=>intro us r;rw [jaY] at r;cases r;exact .nil
 |cons n ns m=>
  intro us r;rw [Qp] at r
  cases r with
  |cons h g=>
   obtain ⟨t,e⟩:=h;subst e;exact .cons n t (m g)
section
variable {X:Cx} {e:Expr} {te:TE} {lo hi:Option Expr} {tl th:TO} {pos p2:Pos}
theorem po_none:PO X none wJ:=by
 intro pins s σ H Q I h;rw [evalPart_none];exact Ql ⟨none,H,I, .none,h⟩
theorem po_some (h:PE X e te):PO X (some e) (tPart te):=by
 intro pins s σ H Q I hw;rw [evalPart_some];refine thn (h pins s σ H _ I hw) λu s1 p=>?_;obtain ⟨x,H1,r,g,m⟩:=p;obtain ⟨i,rfl,q⟩:=m;obtain ⟨t,rfl⟩:=g;exact ⟨some i,H1,r, .int i t,q⟩
def SlR (X:Cx) (r:V->Option Int->Option Int->Hp->VK->Prop):Prop:=
 ∀(pins:List (Addr×Obj)) (s:Shared) (σ:St) (H:Hp) (x:V) (v h g:Value) (lo hi:Option Int) (sl:Addr) (Q:VK),Inv X pins σ H s->ZE x v->s.heap.IsSliceOf sl h g .none->IsPart h lo->IsPart g hi->r x lo hi H Q->
  ∃T id,typeLookup (.type T) "__getitem__"=pure (some (.builtin id))/\s.TypeIs v T/\wpAny (model X.prog X.w) X.A (getItem v (.ref sl)) (EP X pins σ Q) X.xe s
def tSl (r:V->Option Int->Option Int->Hp->VK->Prop) (te:TE) (tl th:TO):TE:=λσ H Q=>te σ H λx H1=>tl σ H1 λl h=>th σ h λu g=>r x l u g Q
theorem pe_slice {r:V->Option Int->Option Int->Hp->VK->Prop} (hr:SlR X r) (he:PE X e te) (G:PO X lo tl) (E:PO X hi th):PE X (.Subscript e (.Slice lo hi none p2) pos) (tSl r te tl th):=by
 intro pins s σ H Q I h;refine Subscript_ (thn (he pins s σ H _ I h) λv s1 p=>?_);obtain ⟨x,H1,O,y,D⟩:=p;refine wpAny_Slice (thn (G pins s1 σ H1 _ O D) λm s2 ⟨l,P,N,pl,C⟩=>thn (E pins s2 σ P _ N C) λg s3 p=>?_);obtain ⟨u,t,M,pu,z⟩:=p;rw [evalPart_none];refine Ql ?_;have L:Inv X pins σ t {s3 with heap:=s3.heap.push {cls:= .type "slice",data:= .fields #[m,g, .none]}}:=M.kept (t':=s3.toks) λb U q=>Qh _ q;obtain ⟨T,id,K,ht,J⟩:=hr pins {s3 with heap:=s3.heap.push {cls:= .type "slice",data:= .fields #[m,g, .none]}} σ t x v m g l u s3.heap.objs.size Q L y (Heap.IsSliceOf.new ..) pl pu z;show wpAny (model X.prog X.w) X.A (subscriptTail e (.Slice lo hi none p2) v (.ref s3.heap.objs.size)) (EP X pins σ Q) X.xe {s3 with heap:=s3.heap.push {cls:= .type "slice",data:= .fields #[m,g, .none]}};exact tail_any (ops:=[.ref s3.heap.objs.size,v]) ht K J (by with_unfolding_all rfl)
def GV (xs:List V) (lo hi:Option Int):List V:=(xs.drop (HT.sIx xs.length 0 lo)).take (HT.sIx xs.length xs.length hi - HT.sIx xs.length 0 lo)
theorem qO (xs:List V) (lo hi:Option Int):(GV xs lo hi).length<=xs.length:=by
 unfold GV;rw [Tr,QZ];omega
end
end L2
namespace L2
open PySem PySem.Spec PyProof.Rows
def ixN (n:Nat) (i:Int):Option Nat:=if 0<=i then (if i<n then some i.toNat else none) else if -(n:Int)<=i then some (i+n).toNat else none
def atI {α:Type} (xs:List α) (i:Int):Option α:=(ixN xs.length i).bind λj=>xs[j]?
theorem BP {n:Nat} {i:Int} {j:Nat} (h:ixN n i=some j):seqIndex? i n=some j/\j<n/\ -(n:Int)<=i/\i<n:=by
 unfold ixN at h
 by_cases h0:0<=i
 ·rw [QH h0] at h
  by_cases g:i<n
  ·rw [QH g] at h;have e:i.toNat=j:=QK h;exact ⟨by rw [seqIndex_of h0 g,e],by omega,by omega,g⟩
  ·rw [QS g] at h;cases h
 ·rw [QS h0] at h
  by_cases g: -(n:Int)<=i
  ·rw [QH g] at h;have e:(i+n).toNat=j:=QK h;exact ⟨by rw [seqIndex_neg (by omega) g,e],by omega,g,by omega⟩
  ·rw [QS g] at h;cases h
theorem rj {α:Type} {xs:List α} {i:Int} {v:α} (h:atI xs i=some v):∃j,seqIndex? i xs.length=some j/\xs[j]? =some v/\j<xs.length/\ -(xs.length:Int)<=i/\i<xs.length:=by
 unfold atI at h
 cases e:ixN xs.length i with
 |none=>rw [e] at h;cases h
 |some j=>
  rw [e] at h;obtain ⟨q,p,m,g⟩:=BP e;exact ⟨j,q,h,p,m,g⟩
theorem yJ {α:Type} {xs:List α} {j:Nat} {v:α} (h:xs[j]? =some v):atI xs (j:Int)=some v:=by
 have g:j<xs.length:=(Qg.mp h).1
 have e:ixN xs.length (j:Int)=some j:=by
  unfold ixN;rw [QH (by omega),QH (by omega)];simp
 unfold atI;rw [e];exact h
theorem tO {α:Type} (xs:List α) (v:α):atI (xs++[v]) (-1)=some v:=by
 have g:(xs++[v]).length=xs.length+1:=by simp
 have e:ixN (xs++[v]).length (-1)=some xs.length:=by
  unfold ixN;rw [g,QS (by decide),QH (by omega)]
  congr 1
  omega
 unfold atI;rw [e];show (xs++[v])[xs.length]? =some v
 simp
def Jf (b:Expr):Prop:=∀o i,subscripted b false o i=operate [o,i] (getItem o i)
def IxR (X:Cx) (r:R2):Prop:=
 ∀(value slice:Expr) (pins:List (Addr×Obj)) (s:Shared) (σ:St) (H:Hp) (x y:V) (v u:Value) (Q:VK),Inv X pins σ H s->ZE x v->ZE y u->r x y H Q->
  subscripted slice false v u=operate [v,u] (getItem v u)->wpAny (model X.prog X.w) X.A (subscriptTail value slice v u) (EP X pins σ Q) X.xe s
def MtR (X:Cx) (id:String) (r:V->List V->Hp->VK->Prop):Prop:=
 ∀(pins:List (Addr×Obj)) (s:Shared) (σ:St) (H:Hp) (x:V) (xs:List V) (v:Value) (us:List Value) (Q:VK),Inv X pins σ H s->ZE x v->xE xs us->r x xs H Q->
  wpAny (model X.prog X.w) X.A (call (.builtin id) (v::us)) (EP X pins σ Q) X.xe s
section
variable {X:Cx} {a b:Expr} {ta tb:TE} {pos:Pos}
theorem IxR.or {r g:R2} (h:IxR X r) (h':IxR X g):IxR X (λx y H Q=>r x y H Q\/g x y H Q):=by
 intro value slice pins s σ H x y v u Q I rx ry q hs
 rcases q with q|q
 ·exact h value slice pins s σ H x y v u Q I rx ry q hs
 ·exact h' value slice pins s σ H x y v u Q I rx ry q hs
theorem UN {r:R2} (hr:IxR X r) (ha:PE X a ta) (t:PE X b tb) (p:Jf b):PE X (.Subscript a b pos) (tOp r ta tb):=by
 intro pins s σ H Q I h;exact Subscript_ (binT ha t I h λv u s2 x y z w m g q=>hr a b pins s2 σ z x y v u Q w m g q (p _ _))
def rIxL (K:PySem.W.Frag):R2:=λx y H Q=>∃p xs i v,x= .ref p/\y= .int i/\SqL K H p xs/\atI xs i=some v/\Q v H
def rIxT (K:PySem.W.Frag):R2:=λx y H Q=>∃p xs i v,x= .ref p/\y= .int i/\SqT K H p xs/\atI xs i=some v/\Q v H
def rIxS:R2:=λx y H Q=>∃z i c,x= .str z/\y= .int i/\z.length<=sizeLine/\atI z.cps.toList i=some c/\Q (.str ⟨#[c]⟩) H
theorem II:IxR X (rIxL X.K):=by
 intro value slice pins s σ H x y v u Q I rx ry h hs;obtain ⟨p,xs,i,z,rfl,rfl,C,he,q⟩:=h;cases rx;obtain ⟨t,rfl⟩:=ry;obtain ⟨its,r,pl,hz⟩:=I.list C;obtain ⟨j,g,J,M,G,E⟩:=rj he;obtain ⟨w,A,L⟩:=r.get J;have D:=r.length;have hn:=nW;have fin:EP X pins σ Q w s:=⟨z,H,I,L,q⟩
 by_cases h0:0<=i
 ·have m:i.toNat=j:=by
   rw [seqIndex_of h0 E] at g;exact QK g
  exact item_listR pl.isList h0 (by omega) (by rw [m];simpa using A) fin hs
 ·have m:(i+(its.toArray.size:Int)).toNat=j:=by
   rw [seqIndex_neg (by omega) G] at g;rw [QB,<-D];exact QK g
  exact subscriptTail_builtinR (x:=w) pl.isList.typeIs slot_list_getitem.lookup
   (wpAny_getItem_list_neg (Q:=λr s'=>r=w/\EP X pins σ Q r s') pl.isList (by omega) (by rw [QB]<;>omega) (by omega) (by rw [m];simpa using A) ⟨rfl,fin⟩) hs
theorem ix_tup:IxR X (rIxT X.K):=by
 intro value slice pins s σ H x y v u Q I rx ry h hs;obtain ⟨p,xs,i,z,rfl,rfl,g,he,q⟩:=h;cases rx;obtain ⟨t,rfl⟩:=ry;obtain ⟨its,r,pl,hz⟩:=I.tuple g;obtain ⟨j,C,A,L,J,G⟩:=rj he;obtain ⟨w,D,E⟩:=r.get A;have m:=r.length;have hn:=nW;have fin:EP X pins σ Q w s:=⟨z,H,I,E,q⟩
 exact subscriptTail_builtinR (x:=w) pl.typeIs slot_tuple_getitem.lookup
  (getItem_tuple (j:=j) (Q:=λr s'=>r=w/\EP X pins σ Q r s') pl (by omega) (by omega) (by rw [QB,<-m];exact C) (by simpa using D) ⟨rfl,fin⟩) hs
theorem ix_str:IxR X rIxS:=by
 intro value slice pins s σ H x y v u Q I rx ry h hs;obtain ⟨z,i,c,rfl,rfl,hz,he,q⟩:=h;obtain ⟨t,rfl⟩:=rx;obtain ⟨t',rfl⟩:=ry;obtain ⟨j,g,w,D,r,p⟩:=rj he;have m:z.cps.toList.length=z.length:=by simp [Str.length]
 rw [m] at g r p;have hn:=nW
 exact tail_any (typeIs_str s z t) slot_str_getitem.lookup (getItem_str (c:=c) (by
  have C:decide (i< -(2 ^ 63:Int))=false:=Tb (by omega);have A:decide (i≥2 ^ 63)=false:=Tb (by omega)
  rw [C,A,Bool.or_false]) (by rw [g];simpa using w) ⟨.str ⟨#[c]⟩,H,I.tok _,⟨_,rfl⟩,q⟩) hs
def rIx (K:PySem.W.Frag):R2:=λx y H Q=>rIxL K x y H Q\/rIxT K x y H Q\/rIxS x y H Q
theorem YV:IxR X (rIx X.K):=II.or (ix_tup.or ix_str)
theorem vk (its:List Value) (n j:Nat) (u:Value):Obj.mapSeq (·.setIfInBounds j u) {cls:= .type "list",data:= .seq its.toArray n}={cls:= .type "list",data:= .seq (its.set j u).toArray n}:=by
 simp [Obj.mapSeq]
theorem Inv.lst {pins:List (Addr×Obj)} {σ:St} {H:Hp} {s:Shared} {p:Addr} {xs:List V} (I:Inv X pins σ H s) (h:H p=some (.lst xs)):
 ∃(its:List Value) (n:Nat),xE xs its/\s.heap.get? p=some {cls:= .type "list",data:= .seq its.toArray n}/\xs.length<=sizeLine:=by
 obtain ⟨z,its,n,r,e⟩:=I.hok p _ h;exact ⟨its,n,r,e,z⟩
theorem Inv.lstUpd {pins:List (Addr×Obj)} {σ:St} {H:Hp} {s:Shared} {p:Addr} {xs ys:List V} {its its':List Value} {n g:Nat} {f:Obj->Obj} (I:Inv X pins σ H s) (h:H p=some (.lst xs))
 (m:s.heap.get? p=some {cls:= .type "list",data:= .seq its.toArray n}) (hf:f {cls:= .type "list",data:= .seq its.toArray n}={cls:= .type "list",data:= .seq its'.toArray g}) (r:xE ys its') (hz:ys.length<=sizeLine) (t:Nat):
 Inv X pins σ (upd H p (.lst ys)) {s with heap:=s.heap.update p f,toks:=t}:=by
 have e:(s.heap.update p f).get? p=some {cls:= .type "list",data:= .seq its'.toArray g}:=by
  rw [Tw f m (by rw [hf]<;>rfl),hf]
 refine I.write (x:=p) (e:=p) (by rw [h];trivial) (.inl rfl) (λb u w q=>(Th _ _ (Ne.symm w)).trans q) ⟨_,e⟩ ?_;exact ⟨hz,its',g,r,e⟩
def rSetL:V->V->V->Hp->(Hp->Prop)->Prop:=λo i v H Q=>∃p xs k j,o= .ref p/\i= .int k/\H p=some (.lst xs)/\ixN xs.length k=some j/\Q (upd H p (.lst (xs.set j v)))
theorem set_list:PSet X rSetL:=by
 intro pins s σ H o i v ov iv u Q I ro ri rv h;obtain ⟨p,xs,k,j,rfl,rfl,hp,D,q⟩:=h;cases ro;obtain ⟨t,rfl⟩:=ri;obtain ⟨its,n,r,m,hz⟩:=I.lst hp;obtain ⟨g,E,A,z⟩:=BP D;have w:=r.length;have hn:=nW
 have C:Inv X pins σ (upd H p (.lst (xs.set j v))) {s with heap:=s.heap.update p (Obj.mapSeq (·.setIfInBounds j u))}:=
  I.lstUpd hp m (vk its n j u) (r.set rv j) (by rw [jaS];exact hz) s.toks
 by_cases h0:0<=k
 ·have y:k.toNat=j:=by
   rw [seqIndex_of h0 z] at g;exact QK g
  exact PySem.W.ki_setAt m h0 (by omega) (by rw [QB,<-w];exact z) (by rw [y];exact ⟨_,C,q⟩)
 ·have y:(k+(its.toArray.size:Int)).toNat=j:=by
   rw [seqIndex_neg (by omega) A] at g;rw [QB,<-w];exact QK g
  exact PySem.W.ki_setBack m (by omega) (by rw [QB,<-w];exact A) (by omega) (by rw [y];exact ⟨_,C,q⟩)
theorem mM (lo g:Option Int) (n:Nat):(sliceBounds lo g none n).1=((HT.sIx n 0 lo:Nat):Int)/\(sliceBounds lo g none n).2.1=((HT.sIx n n g:Nat):Int)/\(sliceBounds lo g none n).2.2=1:=by
 refine ⟨?_,?_,rfl⟩
 ·cases lo with
  |none=>simp [sliceBounds,HT.sIx]
  |some i=>
   simp only [sliceBounds,HT.sIx,Option.getD_none,show (1:Int)>0 by decide,if_true]
   by_cases h:i<0
   ·simp only [h,if_true]<;>omega
   ·simp only [h,if_false]<;>omega
 ·cases g with
  |none=>simp [sliceBounds,HT.sIx]
  |some i=>
   simp only [sliceBounds,HT.sIx,Option.getD_none,show (1:Int)>0 by decide,if_true]
   by_cases h:i<0
   ·simp only [h,if_true]<;>omega
   ·simp only [h,if_false]<;>omega
theorem jU (its:List Value) (lo g:Option Int):slicePick its.toArray lo g none=((its.drop (HT.sIx its.length 0 lo)).take (HT.sIx its.length its.length g - HT.sIx its.length 0 lo)).toArray:=by
 obtain ⟨p,m,h⟩:=mM lo g its.toArray.size;unfold slicePick;rw [p,m,h];simp only [sliceRange_one,pick_run,QB]<;>rfl
def rSlL (K:PySem.W.Frag):V->Option Int->Option Int->Hp->VK->Prop:=λx lo g H Q=>∃a xs,x= .ref a/\SqL K H a xs/\∀p,H p=none->Q (.ref p) (upd H p (.lst (GV xs lo g)))
theorem sl_list:SlR X (rSlL X.K):=by
 intro pins s σ H x v vl vu lo hi sl Q I rx hs pl pu h;obtain ⟨a,xs,rfl,g,q⟩:=h;cases rx;obtain ⟨its,r,ht,hz⟩:=I.list g;have hlen:=r.length;refine ⟨"list",_,slot_list_getitem.lookup,ht.isList.typeIs,?_⟩;refine wpAny_getItem_list_slice ht.isList hs pl pu .none (by simp) ?_ (by rw [QB]<;>omega);rw [jU,<-hlen];refine ⟨.ref s.heap.objs.size,_,I.laid (t':=s.toks) (o:= .lst (GV xs lo hi)) (λb m q=>Qh _ q) (Qq _) ?_,rfl,q _ (I.hok.fresh (Qq _))⟩;exact ⟨QT (qO xs lo hi) hz,_,0,(r.drop (HT.sIx xs.length 0 lo)).take (HT.sIx xs.length xs.length hi - HT.sIx xs.length 0 lo),Qt _ rfl⟩
def om:V->Bool
 | .non=>true
 | .bl _=>true
 | .int _=>true
 | .str _=>true
 |_=>false
def eqV:V->V->Bool
 | .non, .non=>true
 | .bl a, .bl b=>a==b
 | .bl a, .int b=>(if a then 1 else 0)==b
 | .int a, .bl b=>a==(if b then 1 else 0)
 | .int a, .int b=>a==b
 | .str a, .str b=>a==b
 |_,_=>false
theorem eqAt_V {A:Around} {s:Shared} {y x:V} {u v:Value} (h:ZE y u) (g:ZE x v) (p:om y=true) (m:om x=true):SeqAt.EqAt A s u v (eqV y x):=by
 cases y with
 |non=>
  cases h
  cases x with
  |non=>cases g;exact SeqAt.EqAt.same _
  |bl b=>cases g;exact SeqAt.EqAt.none_bool b
  |int b=>obtain ⟨t,rfl⟩:=g;exact SeqAt.EqAt.none_int b t
  |str b=>obtain ⟨t,rfl⟩:=g;exact SeqAt.EqAt.none_str b t
  |_=>exact absurd (show false=true from m) Qy
 |bl a=>
  cases h
  cases x with
  |non=>cases g;exact SeqAt.EqAt.bool_none a
  |bl b=>cases g;exact SeqAt.EqAt.bool_bool a b
  |int b=>obtain ⟨t,rfl⟩:=g;exact SeqAt.EqAt.bool_int a b t
  |str b=>obtain ⟨t,rfl⟩:=g;exact SeqAt.EqAt.bool_str a b t
  |_=>exact absurd (show false=true from m) Qy
 |int a=>
  obtain ⟨t',rfl⟩:=h
  cases x with
  |non=>cases g;exact SeqAt.EqAt.int_none a t'
  |bl b=>cases g;exact SeqAt.EqAt.int_bool a t' b
  |int b=>obtain ⟨t,rfl⟩:=g;exact SeqAt.EqAt.int_int a t' b t
  |str b=>obtain ⟨t,rfl⟩:=g;exact SeqAt.EqAt.int_str a t' b t
  |_=>exact absurd (show false=true from m) Qy
 |str a=>
  obtain ⟨t',rfl⟩:=h
  cases x with
  |non=>cases g;exact SeqAt.EqAt.str_none a t'
  |bl b=>cases g;exact SeqAt.EqAt.str_bool a t' b
  |int b=>obtain ⟨t,rfl⟩:=g;exact SeqAt.EqAt.str_int a t' b t
  |str b=>obtain ⟨t,rfl⟩:=g;exact SeqAt.EqAt.str_str a t' b t
  |_=>exact absurd (show false=true from m) Qy
 |_=>exact absurd (show false=true from p) Qy
def eqU (x:V) (u:Value):Bool:=match u with
 | .none=>eqV .non x
 | .bool b=>eqV (.bl b) x
 | .int i _=>eqV (.int i) x
 | .str z _=>eqV (.str z) x
 |_=>false
theorem GQ {x y:V} {u:Value} (r:ZE y u) (f:om y=true):eqU x u=eqV y x:=by
 cases y with
 |non=>cases r;rfl
 |bl b=>cases r;rfl
 |int i=>obtain ⟨t,rfl⟩:=r;rfl
 |str z=>obtain ⟨t,rfl⟩:=r;rfl
 |_=>exact absurd (show false=true from f) Qy
theorem gA {x:V}:∀{xs:List V} {us:List Value},xE xs us->xs.all om=true->us.any (eqU x)=xs.any λy=>eqV y x
 |_,_, .nil,_=>rfl
 |y::xs,u::us, .cons r t,f=>by
  rw [List.all_cons,TR] at f;rw [List.any_cons,List.any_cons,GQ r f.1,gA t f.2]
theorem UU {A:Around} {s:Shared} {x:V} {v:Value} (h:ZE x v) (m:om x=true):∀{xs:List V} {us:List Value},xE xs us->xs.all om=true->∀u∈us,SeqAt.EqAt A s u v (eqU x u)
 |_,_, .nil,_=>λu g=>by cases g
 |y::xs,u::us, .cons r t,f=>λp g=>by
  rw [List.all_cons,TR] at f
  rcases Qk.mp g with rfl|g
  ·rw [GQ r f.1];exact eqAt_V r h f.1 m
  ·exact UU h m t f.2 p g
def inV (x:V) (xs:List V):Bool:=xs.any λy=>eqV y x
def rIn (K:PySem.W.Frag) (neg:Bool):R2:=λx y H Q=>∃p xs,y= .ref p/\(SqL K H p xs\/SqT K H p xs)/\om x=true/\xs.all om=true/\Q (.bl (if neg then !inV x xs else inV x xs)) H
theorem op_in_seq:OpR X (compareOp .In) (rIn X.K false):=by
 intro pins s σ H x y v u Q I rx ry h;obtain ⟨p,xs,rfl,g,m,fs,q⟩:=h;cases ry
 rcases g with g|g
 ·obtain ⟨its,r,pl,hz⟩:=I.list g;refine SeqAt.in_listAt (eqU x) pl.isList (λw hw=>UU rx m r fs w (by simpa using hw)) ⟨.bl _,H,I,rfl,?_⟩;rw [show its.toArray.any (eqU x)=its.any (eqU x) by simp,gA r fs];exact q
 ·obtain ⟨its,r,pl,hz⟩:=I.tuple g;refine SeqAt.in_tupleAt (eqU x) pl (λw hw=>UU rx m r fs w (by simpa using hw)) ⟨.bl _,H,I,rfl,?_⟩;rw [show its.toArray.any (eqU x)=its.any (eqU x) by simp,gA r fs];exact q
theorem nM:OpR X (compareOp .NotIn) (rIn X.K true):=by
 intro pins s σ H x y v u Q I rx ry h;obtain ⟨p,xs,rfl,g,m,fs,q⟩:=h;cases ry
 rcases g with g|g
 ·obtain ⟨its,r,pl,hz⟩:=I.list g;refine SeqAt.notIn_listAt (eqU x) pl.isList (λw hw=>UU rx m r fs w (by simpa using hw)) ⟨.bl _,H,I,rfl,?_⟩;rw [show its.toArray.any (eqU x)=its.any (eqU x) by simp,gA r fs];exact q
 ·obtain ⟨its,r,pl,hz⟩:=I.tuple g;refine SeqAt.notIn_tupleAt (eqU x) pl (λw hw=>UU rx m r fs w (by simpa using hw)) ⟨.bl _,H,I,rfl,?_⟩;rw [show its.toArray.any (eqU x)=its.any (eqU x) by simp,gA r fs];exact q
theorem oF:Vf X (.builtin "len") (λxs H Q=>∃p ys,xs=[.ref p]/\(SqL X.K H p ys\/SqT X.K H p ys)/\Q (.int ys.length) H):=by
 intro pins s σ H xs us Q I r h;obtain ⟨p,ys,rfl,g,q⟩:=h;obtain ⟨u,rfl,t⟩:=gR r;cases t;have hn:=nW
 rcases g with g|g
 ·obtain ⟨its,m,pl,hz⟩:=I.list g;have hlen:=m.length;exact Calls.call_len_list pl.isList (by simp only [QB]<;>omega) ⟨.int ys.length,H,I.tok _,⟨s.toks+1,by rw [QB,hlen]⟩,q⟩
 ·obtain ⟨its,m,pl,hz⟩:=I.tuple g;have hlen:=m.length;exact len_tuple pl (by simp only [QB]<;>omega) ⟨.int ys.length,H,I.tok _,⟨s.toks+1,by rw [QB,hlen]⟩,q⟩
theorem oE:Vf X (.type "list") (λxs H Q=>∃p ys,xs=[.ref p]/\(SqL X.K H p ys\/SqT X.K H p ys)/\∀l,H l=none->Q (.ref l) (upd H l (.lst ys))):=by
 intro pins s σ H xs us Q I r h;obtain ⟨p,ys,rfl,t,q⟩:=h;obtain ⟨u,rfl,C⟩:=gR r;cases C
 have fin:∀(its:List Value),xE ys its->ys.length<=sizeLine->∀(h':Heap) (m:Nat),(∀b A,s.heap.get? b=some A->h'.get? b=some A)->
  h'.get? s.heap.objs.size=some {cls:= .type "list",dict:=none,data:= .seq its.toArray m,slots:=#[]}->EP X pins σ Q (.ref s.heap.objs.size) {s with heap:=h'}:=λits g hz h' m kp e=>
  ⟨.ref s.heap.objs.size,_,I.laid (t':=s.toks) kp (Qq _) (show ZF X.prog X.w _ h' _ (.lst ys) from ⟨hz,its,m,g,e⟩),rfl,q _ (I.hok.fresh (Qq _))⟩
 rcases t with t|t
 ·obtain ⟨its,g,pl,hz⟩:=I.list t;have hlen:=g.length;obtain ⟨o,y,z,n,hd⟩:=pl.isList;exact call_list_seq p (.inl rfl) y z hd (λh' m kp e=>fin its g hz h' m kp e) (by simp only [QB]<;>omega)
 ·obtain ⟨its,g,pl,hz⟩:=I.tuple t;have hlen:=g.length;obtain ⟨o,y,z,n,hd⟩:=pl;exact call_list_seq p (.inr rfl) y z hd (λh' m kp e=>fin its g hz h' m kp e) (by simp only [QB]<;>omega)
theorem lM:Vf X (.type "tuple") (λxs H Q=>∃p ys,xs=[.ref p]/\((SqL X.K H p ys/\∀l,H l=none->Q (.ref l) (upd H l (.tup ys)))\/(SqT X.K H p ys/\Q (.ref p) H))):=by
 intro pins s σ H xs us Q I r h;obtain ⟨p,ys,rfl,h⟩:=h;obtain ⟨u,rfl,y⟩:=gR r;cases y
 rcases h with ⟨m,q⟩|⟨m,q⟩
 ·obtain ⟨its,g,pl,hz⟩:=I.list m;have hlen:=g.length;refine call_tuple_list pl.isList (λh' kp=>?_) (by simp only [QB]<;>omega);have t:Inv X pins σ H {s with heap:=h'}:=I.kept (t':=s.toks) kp
  have z:Inv X pins σ (upd H h'.objs.size (.tup ys)) {s with heap:=h'.push {cls:= .type "tuple",data:= .seq its.toArray}}:=
   t.laid (t':=s.toks) (λb o e=>Qh _ e) (Qq _) (show ZF X.prog X.w _ _ _ (.tup ys) from ⟨hz,its,g,IsTup.new _ _⟩)
  exact ⟨.ref h'.objs.size,_,z,rfl,q _ (t.hok.fresh (Qq _))⟩
 ·obtain ⟨its,g,pl,hz⟩:=I.tuple m;exact call_tuple_same pl ⟨.ref p,H,I,rfl,q⟩
def tyV (K:PySem.W.Frag) (T:String) (x:V) (H:Hp):Prop:=match x with
 | .str _=>T="str"
 | .int _=>T="int"
 | .ref p=>(T="list"/\∃xs,SqL K H p xs)\/(T="tuple"/\∃o,K.lookup p=some o/\o.cls= .type "tuple"/\o.dict=none)\/
  (T="dict"/\((∃g,H p=some (.dK g))\/∃g,H p=some (.dT g)))\/(T="set"/\∃S n,H p=some (.set S n))
 |_=>False
theorem tyV_is {pins:List (Addr×Obj)} {σ:St} {H:Hp} {s:Shared} {T:String} {x:V} {v:Value} (I:Inv X pins σ H s) (r:ZE x v) (ty:tyV X.K T x H):
 s.TypeIs v T/\∀a,v= .ref a->∃q,s.heap.get? a=some q/\q.dict=none:=by
 cases x with
 |str z=>
  obtain ⟨t,rfl⟩:=r;cases (show T="str" from ty);exact ⟨typeIs_str s z t,λ_ e=>nomatch e⟩
 |int i=>
  obtain ⟨t,rfl⟩:=r;cases (show T="int" from ty);exact ⟨typeIs_int s i t,λ_ e=>nomatch e⟩
 |ref p=>
  cases r
  rcases ty with ⟨rfl,xs,u⟩|⟨rfl,o,g,w,hd⟩|⟨rfl,g⟩|⟨rfl,S,n,g⟩
  ·obtain ⟨its,_,pl,_⟩:=I.list u;refine ⟨pl.isList.typeIs,λa e=>?_⟩;cases e;obtain ⟨o,n,e,c,hd,_⟩:=pl;exact ⟨o,e,hd⟩
  ·refine ⟨⟨o,I.kIn p o g,w⟩,λa e=>?_⟩;cases e;exact ⟨o,I.kIn _ o g,hd⟩
  ·have z:∃o,s.heap.get? p=some o/\o.ExactDict:=by
    rcases g with ⟨h,g⟩|⟨h,g⟩
    ·obtain ⟨_,_,_,_,o,_,_,e,ex,_⟩:=I.hok p _ g;exact ⟨o,e,ex⟩
    ·obtain ⟨_,_,_,_,o,_,_,e,ex,_⟩:=I.hok p _ g;exact ⟨o,e,ex⟩
   obtain ⟨o,e,ex⟩:=z;refine ⟨⟨o,e,ex.1⟩,λa m=>?_⟩;cases m;exact ⟨o,e,ex.2.1⟩
  ·obtain ⟨o,_,_,_,e,ex,_⟩:=I.hok p _ g;refine ⟨⟨o,e,ex.1⟩,λa m=>?_⟩;cases m;exact ⟨o,e,ex.2.1⟩
 |_=>exact False.elim ty
def tBM (K:PySem.W.Frag) (T:String) (r:V->List V->Hp->VK->Prop) (to:TE) (t:TA):TE:=λσ H Q=>to σ H λx H1=>tyV K T x H1/\t σ H1 λxs g=>r x xs g Q
variable {o e:Expr} {es:List Expr} {to:TE} {t:TA} {name:Str} {apos cpos:Pos} {T id:String} {r:V->List V->Hp->VK->Prop}
theorem qh (pa:PlainAttrs T) (slot:Slot T name id) (g:typeOf (.builtin id)=pure (.type "method_descriptor")) (hm:MtR X id r) (A:PE X o to) (ha:PA X (e::es) t)
 (J:attributeBase o name X.env (eval o X.env)=eval o X.env:=by rfl)
 (G:((backTo cpos (starEach (e::es) X.env)).all (λx=>!x.1) && (backToKw cpos (keywordEach [] X.env)).all (λx=>x.1.isSome)
  && decide ((e::es).length+([]:List Keyword).length+(if ([]:List Keyword).isEmpty then 0 else 1)<30))=true:=by rfl)
 (L:(apos.endLine==cpos.line)=true:=by rfl) (z:starEach (e::es) X.env=(false,eval e X.env)::starEach es X.env:=by rfl) (M:(backTo cpos (starEach es X.env)).any (·.1)=false:=by rfl):
 PE X (.Call (.Attribute o name apos) (e::es) [] cpos) (tBM X.K T r to t):=by
 intro pins s σ H Q I h;refine wpAny_Call_method_late J G L rfl (thn (A pins s σ H _ I h) λv s1 C=>?_);obtain ⟨x,H1,q,m,ty,y⟩:=C;obtain ⟨E,D⟩:=tyV_is q m ty;refine ⟨T,id,pa,slot,g,E,D,?_⟩;have p:=ha cpos pins s1 σ H1 _ q y;rw [z] at p⊢;refine Calls.callWith_builtin (by show (false||(backTo cpos (starEach es X.env)).any (·.1))=false;rw [M]<;>rfl) (Calls.evalArgs_plain ?_);exact thn p λus s2 ⟨vs,O,N,u,w⟩=>hm pins s2 σ O x vs v us Q N m u w
end
end L2
namespace L2
open PySem PySem.Spec PyProof.Rows
def MtM (X:Cx) (id:String) (r:V->List V->Hp->VK->Prop):Prop:=
 ∀(pins:List (Addr×Obj)) (s:Shared) (σ:St) (H:Hp) (x:V) (xs:List V) (v:Value) (us:List Value) (Q:VK),Inv X pins σ H s->ZE x v->xE xs us->r x xs H Q->
  wpAny (model X.prog X.w) X.A (call (.builtin id) (v::us)) (EP X pins σ Q) X.xe s
theorem xE.one {x:V} {us:List Value} (h:xE [x] us):∃u,us=[u]/\ZE x u:=by
 cases h with
 |cons r t=>
  cases t;exact ⟨_,rfl,r⟩
theorem xE.zero:∀{us:List Value},xE [] us->us=[]
 |_, .nil=>rfl
theorem xE.rep {xs:List V} {us:List Value} (h:xE xs us):∀k:Nat,xE (List.replicate k xs).flatten (List.replicate k us).flatten
 |0=> .nil
 |k+1=>by
  rw [Tc,Tc,Ti,Ti];exact xE.append h (xE.rep h k)
theorem oi (its:List Value):∀(k:Nat) (acc:List Value),
 List.foldl (λh g=>h++g) acc.toArray (List.replicate k its.toArray)=(acc++(List.replicate k its).flatten).toArray
 |0,acc=>by simp
 |k+1,acc=>by
  have e:acc.toArray++its.toArray=(acc++its).toArray:=by simp
  have m:(acc++its)++(List.replicate k its).flatten=acc++(List.replicate (k+1) its).flatten:=by
   rw [Tc,Ti,TV]
  rw [<-m,<-oi its k (acc++its),<-e,Tc,List.foldl_cons]
section
variable {X:Cx} {pins:List (Addr×Obj)} {σ:St} {H:Hp} {s:Shared} {l b:Addr} {xs ys zs:List V}
theorem Inv.lset {its its':List Value} {n:Nat} {f:Array Value->Array Value} {t':Nat} (I:Inv X pins σ H s) (p:H l=some (.lst xs))
 (e:s.heap.get? l=some {cls:= .type "list",data:= .seq its.toArray n}) (hf:f its.toArray=its'.toArray) (g:xE ys its') (hz:ys.length<=sizeLine):
 Inv X pins σ (upd H l (.lst ys)) {s with heap:=s.heap.update l (Obj.mapSeq f),toks:=t'}:=by
 have q:=PySem.IsL.update e f;rw [hf] at q;refine I.write (x:=l) (e:=l) (by rw [p];exact trivial) (.inl rfl) (λr u m h=>(Th s.heap (Obj.mapSeq f) (Ne.symm m)).trans h) ⟨_,q⟩ ?_;exact ⟨hz,its',_,g,q⟩
theorem Inv.lnew {its:List Value} {t':Nat} (I:Inv X pins σ H s) (g:xE ys its) (hz:ys.length<=sizeLine):
 Inv X pins σ (upd H s.heap.objs.size (.lst ys)) {s with heap:=s.heap.push {cls:= .type "list",data:= .seq its.toArray},toks:=t'}:=
 I.laid (λ_ _ q=>Qh _ q) (Qq _) ⟨hz,its,0,g,Qt _ rfl⟩
theorem Inv.fresh (I:Inv X pins σ H s):H s.heap.objs.size=none:=I.hok.fresh (Qq _)
theorem Inv.lstM (I:Inv X pins σ H s) (g:H l=some (.lst xs)):xs.length<=sizeLine/\∃(its:List Value) (n:Nat),xE xs its/\xs.length=its.length/\s.heap.get? l=some {cls:= .type "list",data:= .seq its.toArray n}:=by
 obtain ⟨z,its,n,r,e⟩:=I.hok l _ g;exact ⟨z,its,n,r,r.length,e⟩
theorem kS {n:Nat} (h:n<=sizeLine):Builtin.List.listTooLong n=false:=by
 unfold Builtin.List.listTooLong;exact Tb (by omega)
end
section
variable {X:Cx}
def AQ:V->List V->Hp->VK->Prop:=λx vs H Q=>∃l xs y,x= .ref l/\vs=[y]/\H l=some (.lst xs)/\xs.length<sizeLine/\Q .non (upd H l (.lst (xs++[y])))
theorem Zi:MtM X "list.append" AQ:=by
 intro pins s σ H x vs v us Q I rx rv h;obtain ⟨l,xs,y,rfl,rfl,g,hz,q⟩:=h;cases rx;obtain ⟨u,rfl,ru⟩:=rv.one;obtain ⟨z,its,n,r,m,e⟩:=I.lstM g;refine call_meets F.slot_list_append ⟨_,e,rfl⟩ F.entry_list_append (F.args_list_append_2 _ _) (PySem.list_append l its.toArray n u (by rw [QB];omega)) ⟨e,?_⟩;refine ⟨.non,_,I.lset (its':=its++[u]) g e (by simp) (r.append (.cons ru .nil)) ?_,rfl,q⟩;rw [Qr,Tx];omega
def AO:V->List V->Hp->VK->Prop:=λx vs H Q=>∃l b xs zs,x= .ref l/\vs=[.ref b]/\H l=some (.lst xs)/\H b=some (.lst zs)/\xs.length+zs.length<=sizeLine/\Q .non (upd H l (.lst (xs++zs)))
theorem mt_extend:MtM X "list.extend" AO:=by
 intro pins s σ H x vs v us Q I rx rv h;obtain ⟨l,b,xs,zs,rfl,rfl,m,w,hz,q⟩:=h;cases rx;obtain ⟨u,rfl,ru⟩:=rv.one;cases ru;obtain ⟨z,its,n,r,C,e⟩:=I.lstM m;obtain ⟨z2,g,t,p,D,y⟩:=I.lstM w;have hsz:its.toArray.size+g.toArray.size<=sizeLine:=by rw [QB,QB];omega
 have A:¬(!its.toArray.isEmpty && Builtin.List.listTooLong (its.toArray.size+g.toArray.size))=true:=by
  rw [kS hsz,Bool.and_false];exact Qy
 refine call_meets F.slot_list_extend ⟨_,e,rfl⟩ F.entry_list_extend (F.args_list_extend_2 _ _)
  (AutoSeq1.list_extend_list_list_0 l its.toArray n b g.toArray t A (by rw [QB];omega) (by omega)) ⟨e,y,?_⟩
 refine ⟨.non,_,I.lset (its':=its++g) m e (by simp) (r.append p) ?_,rfl,q⟩;rw [Qr];omega
def rCat:R2:=λx y H Q=>∃l b xs zs,x= .ref l/\y= .ref b/\H l=some (.lst xs)/\H b=some (.lst zs)/\xs.length+zs.length<=sizeLine/\∀p,H p=none->Q (.ref p) (upd H p (.lst (xs++zs)))
theorem op_cat:OpR X (binaryOp .Add) rCat:=by
 intro pins s σ H x y v u Q I rx ry h;obtain ⟨l,b,xs,zs,rfl,rfl,p,t,hz,q⟩:=h;cases rx;cases ry;obtain ⟨z,its,n,r,D,e⟩:=I.lstM p;obtain ⟨z2,g,C,m,E,A⟩:=I.lstM t;refine PySem.P.add_list e A ?_ (by rw [QB,QB];omega);have w:its.toArray++g.toArray=(its++g).toArray:=by simp
 rw [w];exact ⟨.ref _,_,I.lnew (t':=s.toks) (r.append m) (by rw [Qr];omega),rfl,q _ I.fresh⟩
def rRep:R2:=λx y H Q=>∃l k xs,x= .ref l/\y= .int k/\H l=some (.lst xs)/\ -(2 ^ 63)<=k/\k<2 ^ 63/\xs.length*k.toNat<=sizeLine/\
 ∀p,H p=none->Q (.ref p) (upd H p (.lst (List.replicate k.toNat xs).flatten))
theorem IF {α:Type} (xs:List α) (k:Nat):(List.replicate k xs).flatten.length=k*xs.length:=by
 induction k with
 |zero=>simp
 |succ k g=>rw [Tc,Ti,Qr,g,Nat.succ_mul,Nat.add_comm]
theorem op_rep:OpR X (binaryOp .Mult) rRep:=by
 intro pins s σ H x y v u Q I rx ry h;obtain ⟨l,k,xs,rfl,rfl,A,D,C,hz,q⟩:=h;cases rx;obtain ⟨t,rfl⟩:=ry;obtain ⟨z,its,n,r,w,e⟩:=I.lstM A;have hlen:its.toArray.size*k.toNat<=sizeLine:=by rw [QB,<-w];exact hz
 have G:¬its.toArray.size*k.toNat>(2 ^ 63 - 1) / 8:=by
  have:(sizeLine:Nat)<=(2 ^ 63 - 1) / 8:=by decide
  omega
 have J:¬(!Builtin.List.listFitsIndex k)=true:=by
  rw [fitsIndex_both D C];exact Qy
 have K:¬Builtin.List.listTooLong (its.toArray.size*k.toNat)=true:=by
  rw [kS hlen];exact Qy
 have E:List.foldl (λp g=>p++g) #[] (List.replicate (if its.toArray.isEmpty=true then 0 else k.toNat) its.toArray)=(List.replicate k.toNat its).flatten.toArray:=by
  have f0:∀m:Nat,List.foldl (λp g=>p++g) #[] (List.replicate m its.toArray)=(List.replicate m its).flatten.toArray:=λm=>by
   have:=oi its m [];rw [jaG] at this;exact this
  rw [f0]
  cases its with
  |nil=>simp
  |cons a L=>rw [QS (by simp)]
 refine wpAny_binaryOp_repeat_ref (T:="list") (U:="int") (by decide) ⟨_,e,rfl⟩ (λs'=>typeIs_int s' k t) noFill_list_mul F.fills_int_mul F.slot_int_rmul repeat_list F.slot_int_index.lookup
  (call_meets F.slot_int_rmul (typeIs_int s k t) F.entry_int_rmul (F.args_int_rmul_2 _ _) (int___rmul___int_list k t l its.toArray n)
   ⟨e,rfl,⟨_,e,rfl⟩,call_meets F.slot_list_mul ⟨_,e,rfl⟩ F.entry_list_mul (F.args_list_mul_2 _ _) (AutoListH.list___mul___list_int_3 l its.toArray n k t J G K) ⟨e,?_⟩⟩)
 rw [E];exact ⟨.ref _,_,I.lnew (t':=s.toks) (r.rep k.toNat) (by rw [IF,Nat.mul_comm];exact hz),rfl,q _ I.fresh⟩
end
section
variable {prog:Program} {w:World} {A:Around} {E:Value->Shared->Prop} {s:Shared}
set_option maxRecDepth 100000 in
end
section
variable {X:Cx}
end
end L2
namespace Att
open PySem PySem.W PySem.Calls PyProof.Rows
theorem fU {P:Params} {h:Heap}:∀(ns:List Int) (vs:List Value),WellAll P h vs (ns.map WData.int)->IntsAre vs ns:=by
 intro ns
 induction ns with
 |nil=>
  intro vs w;rw [jaY] at w;cases w;exact .nil
 |cons n ns g=>
  intro vs w;rw [Qp] at w
  cases w with
  |cons a b=>
   cases a;exact .cons _ _ (g _ b)
theorem Ad {l:OpenLaw} {n:Nat} (hn:l.most=some n) {P:Params} {h:Heap} {args:List WData} {vals:List Value}
 (t:l.row.toRowW.claim.pre args=true) (G:WellAll P h vals args):
 ∃a vs ns,vals=[Value.ref a]/\args=[WData.list (ns.map WData.int)]/\h.get? a=some {cls:= .type "list",data:= .seq vs.toArray}/\IntsAre vs ns/\ns.length<=n:=by
 have p:WShape.hasAll [] args [.list .int]=true:=(pre_splitW t).1;have s:l.pre.holds [] {args:=args}=true:=(pre_splitW t).2;obtain ⟨d,r,rfl,D,C⟩:=hasAllW_cons p;obtain rfl:=hasAllW_nil C;obtain ⟨xs,rfl,A⟩:=hasW_list D;obtain ⟨ns,rfl⟩:=items_int A
 have hlen:ns.length<=n:=by
  unfold OpenLaw.pre at s
  have m:(WTm.not (.lt (.lit (.int (n:Int))) (.len (.arg 0)))).holds [] {args:=[.list (ns.map .int)]}=true:=by
   have m:=(holds_andW s).1;rw [hn] at m;exact m
  have g:=condW_of m (w_not (w_lt w_lit (w_len_list (w_arg rfl))));rw [Qa] at g;refine Nat.le_of_not_lt λq=>?_;have y:(n:Int)<((ns.length:Nat):Int):=by omega
  first
   |(rw [Tp y] at g;exact absurd g (by decide))
   |(simp at g;omega)
 cases G with
 |cons w u=>
  cases u
  cases w with
  |list z E=>exact ⟨_,_,ns,rfl,rfl,z,fU ns _ E,hlen⟩
theorem AU (l:OpenLaw) (args:List WData):l.row.toRowW.claim.post args (.bool true) args=true:=
 postW_of (r:=l.row.toRowW) (X:=(true==true))
  (show WShape.has [] (.bool true) .bool=true by first|rfl|decide|simp [WShape.has,WShape.arms,WShape.armsAll])
  (show (WTm.eq .res (.lit (.bool true))).value [] {args:=args,res:=some (.bool true),after:=args}=some (.bool (true==true)) from w_eq_bool (w_res rfl) w_lit) rfl
theorem attach_call {l:OpenLaw} {n:Nat} {q:Program} {loose:List Str} {m:(Str->Option Value)->Heap->Prop} {h:World->Heap->Prop} {d:DefRec}
 (hn:l.most=some n) (z:d.params.defaults=[])
 (call:∀(w:World) (s₀ s₁:Shared) (mg g:Str->Option Value) (fa:Addr) (o:Obj) (pm cd doc:Value) (a:Addr) (vs:List Value) (ns:List Int),
  Ground q loose [] m w s₀ mg g s₁.heap->h w s₁.heap->
  s₁.heap.get? fa=some o->o.data= .func (docDef d.name d.params d.body d.scope pm cd doc)->s₁.heap.CodeRec cd d.name->mg d.name=some (.ref fa)->
  s₁.heap.get? a=some {cls:= .type "list",data:= .seq vs.toArray}->IntsAre vs ns->ns.length<=n->s₁.gens=#[]->
  codeAny (model l.prog w) callerA (.call (.ref fa) ⟨[.ref a],[]⟩) (λr s'=>r= .ok (.ret (.bool true))/\OldK s₁.heap s'.heap/\s'.os=s₁.os/\AllBare s'.gens) s₁):
 WalkO q loose m h l.row.toRowW d [] (λf vs=>PySem.call f vs):=by
 intro w s₀ s₁ mg g G Y fa o pm cd doc dV kV ho hd Kt hD Lo hg args vals as Mu hlay hrd PX hlo;obtain rfl:dV= .none:=Dflts.none hD z;obtain rfl:kV= .none:=Dflts.noKw hD;obtain ⟨a,vs,ns,rfl,rfl,A,hints,hlen⟩:=Ad hn Mu PX;refine enter_call (jbC (call w s₀ s₁ mg g fa o pm cd doc a vs ns G Y ho (fd_plain hd) Kt Lo A hints hlen hg) λr s' p=>?_);obtain ⟨rfl,y,u,t⟩:=p;exact ⟨.inl ⟨.bool true, .bool true,[],rfl,λ_=>rfl, .bool true,AU l _,λ_=>⟨List.Pairwise.nil,λ_ hm=>(nomatch hm)⟩⟩,y,u,t⟩
section
variable {prog:Program} {w:World} {A:Around} {E:Value->Shared->Prop} {s:Shared} {K:Frag}
def ledger (h:Heap) (L d:Addr):List (Addr×Obj):=(List.range h.objs.size).filterMap λa=>if a=L\/a=d then none else (h.get? a).map λo=>(a,o)
end
end Att
namespace L2
open PySem PySem.Spec PyProof.Rows
theorem mG:∀{vs:List Value} {ns:List Int},IntsAre vs ns->xE (ns.map V.int) vs
 |_,_, .nil=> .nil
 |_,_, .cons n t h=> .cons ⟨t,rfl⟩ (mG h)
def Only (H:Hp):Prop:=∀b,H b=none\/∃o xs,H b=some (.frz o (.lst xs))
theorem Fe {P:Program} {w:World} {K:PySem.W.Frag} {mg D:Str->Option Value} {CX:CXT} {k:Nat} {fa a:Addr} {fd:FuncData} {x:Str} {sp:Sp} {s₁:Shared} {vs:List Value} {ns:List Int}
 (T:K.In s₁.heap) (Q:s₁.heap.Ns mainGlobals mg) (p:s₁.heap.Ns builtinsNs D) (E:∀x:Str,x≠"__name__"->D x=bootBuiltins x) (Rv:s₁.heap.NoLimit) (hg:s₁.gens=#[])
 (ha:s₁.heap.get? a=some {cls:= .type "list",data:= .seq vs.toArray}) (L:IntsAre vs ns) (J:ns.length<=sizeLine) (hr:Room k callerA)
 (F:∀base:Heap,K.In base->base.Ns mainGlobals mg->FnOk P w K mg base CX k fa fd [x] sp) (Ov:∀(s:Shared) (u:Value),BindsTo s fd ⟨[u],[]⟩ [(x,u)])
 (Ml:∀H:Hp,Only H->SqL K H a (ns.map V.int)->sp [.ref a] H (λv _=>v= .bl true) λ_ _ _=>False)
 (RX:∀H e s',CX [] H s₁ (λ_ _ _=>False) e s'->False):
 codeAny (model P w) callerA (.call (.ref fa) ⟨[.ref a],[]⟩) (λr s'=>r= .ok (.ret (.bool true))/\OldK s₁.heap s'.heap/\s'.os=s₁.os/\AllBare s'.gens) s₁:=by
 have I:=mG L;have lenV:=L.length
 have core:∀H:Hp,Only H->SqL K H a (ns.map V.int)->HOk P w H s₁.heap->(∀b,H b≠none->b=a)->(H a≠none->K.lookup a=none)->
  codeAny (model P w) callerA (.call (.ref fa) ⟨[.ref a],[]⟩) (λr s'=>r= .ok (.ret (.bool true))/\OldK s₁.heap s'.heap/\s'.os=s₁.os/\AllBare s'.gens) s₁:=by
  intro H M hS hok N hK;have g:∀{b:Addr} {o:Obj},s₁.heap.get? b=some o->H b=none->(Ft s₁.heap H).get? b=some o:=λe n=>Fs e n
  have C:∀{b:Addr} {o:Obj} {es:Array DictEntry} {ep:Nat},s₁.heap.get? b=some o->o.data= .dict es ep->H b=none:=λ{b o es ep} e d=>by
   cases q:H b with
   |none=>rfl
   |some u=>
    have G:b=a:=N b (by rw [q];simp);subst G;rw [ha] at e;cases e;have d':Data.seq vs.toArray _=Data.dict es ep:=d;cases d'
  have t:∀{b:Addr} {m:Str->Option Value},s₁.heap.Ns b m->(Ft s₁.heap H).Ns b m:=λ{b m} ⟨o,es,ep,e,d,r⟩=>⟨o,es,ep,g e (C e d),d,r⟩
  have A:K.In (Ft s₁.heap H):=λb o e=>g (T b o e) (by
   cases q:H b with
   |none=>rfl
   |some u=>
    have G:b=a:=N b (by rw [q];simp);subst G
    rw [hK (by rw [q];simp)] at e;cases e)
  have hM:Mod K mg (Ft s₁.heap H):=⟨A,t Q,⟨D,t p,E⟩,let ⟨Z,h1,h2⟩:=Rv;⟨Z,t h1,h2⟩⟩;have e0:Env0 P w K mg (Ft s₁.heap H) callerA [] s₁ H:=⟨rfl,hM,λb o e=>Ir e,Nat.le_of_eq (BW _ _),trivial,λb p=>absurd (show b∈([]:List Addr) from p) (by simp),hok, .of_eq hg⟩;refine jbC ((F _ A (t Q)).run callerA [] s₁ H ⟨[.ref a],[]⟩ [.ref a] [.ref a] _ _ hr e0 (Ov s₁ (.ref a)) (.cons rfl .nil) (Ml H M hS)) λr s' h=>?_
  cases r with
  |error e=>exact (RX H e s' h).elim
  |ok fl=>
   cases fl with
   |next=>exact False.elim h
   |brk=>exact False.elim h
   |cont=>exact False.elim h
   |ret u=>
    obtain ⟨v,H',os,bare,un,LZ,U,q⟩:=h;have X:v= .bl true:=q;subst X;obtain rfl:u=Value.bool true:=U;refine ⟨rfl,OldK.of_keep λb o e=>?_,os,bare⟩
    cases q:H b with
    |none=>exact un.keep b o e q (by intro z;exact absurd (show b∈([]:List Addr) from z) (by simp)) (by simp)
    |some u=>
     rcases M b with z|⟨Y,xs,z⟩
     ·rw [q] at z;cases z
     ·have z2:=un.frzs b Y _ z;obtain ⟨O,_⟩:=hok b _ z;obtain ⟨e2,_⟩:=LZ b _ z2;rw [e] at O;cases O;exact e2
 cases hk:K.lookup a with
 |some o=>
  have e:=T a o hk;rw [ha] at e;cases e;refine core (λ_=>none) (λ_=> .inl rfl) (.inr ⟨_,vs.toArray,_,hk,rfl,rfl,rfl,by rw [QB,lenV];exact J,by simpa using I⟩) (λb u z=>by have y:(none:Option HO)=some u:=z;cases y) (λb z=>absurd rfl z) λz=>absurd rfl z
 |none=>
  refine core (λb=>if b=a then some (.frz {cls:= .type "list",data:= .seq vs.toArray} (.lst (ns.map V.int))) else none) (λb=>?_) (.inl (.inr ⟨{cls:= .type "list",data:= .seq vs.toArray},QH rfl⟩)) (λb u z=>?_) (λb z=>?_) λ_=>hk
  ·by_cases p:b=a
   ·exact .inr ⟨_,_,QH p⟩
   ·exact .inl (QS p)
  ·by_cases p:b=a
   ·have y:=(QH p).symm.trans z;cases y;subst p;exact ⟨ha,by rw [Qa];exact J,vs,_,I,ha⟩
   ·have y:=(QS p).symm.trans z;cases y
  ·by_cases p:b=a
   ·exact p
   ·exact absurd (QS p) z
end L2
namespace L2
open PySem PySem.Spec PyProof.Rows
theorem Hr {l:PySem.W.OpenLaw} {n k:Nat} {q:Program} {loose:List Str} {C:(Str->Option Value)->Heap->Prop} {m:World->Heap->Prop} {d:DefRec} {K:Params->PySem.W.Frag} {CX:World->CXT} {sp:World->Sp} {x:Str}
 (hn:l.most=some n) (J:n<=sizeLine) (E:d.params.defaults=[]) (hr:Room k callerA)
 (t:∀(w:World) (h:Heap),m w h->(K w.params).In h)
 (F:∀(w:World) (mg:Str->Option Value) (fa:Addr) (h:Heap),(K w.params).In h->h.Ns mainGlobals mg->mg d.name=some (.ref fa)->
  ∃fd:FuncData,(∀(s:Shared) (u:Value),BindsTo s fd ⟨[u],[]⟩ [(x,u)])/\
   ∀base:Heap,(K w.params).In base->base.Ns mainGlobals mg->FnOk l.prog w (K w.params) mg base (CX w) k fa fd [x] (sp w))
 (I:∀(w:World) (H:Hp) (a:Addr) (ns:List Int),ns.length<=n->Only H->SqL (K w.params) H a (ns.map V.int)->sp w [.ref a] H (λv _=>v= .bl true) λ_ _ _=>False)
 (D:∀(w:World) (H:Hp) (s:Shared) (e:Value) (s':Shared),CX w [] H s (λ_ _ _=>False) e s'->False):
 PySem.W.WalkO q loose C m l.row.toRowW d [] (λf vs=>PySem.call f vs):=by
 refine Att.attach_call hn E λw s₀ s₁ mg mb fa o pm cd doc a vs ns G Y ho hd Kt Lo MY hints hlen hg=>?_;have p:=t w _ Y;obtain ⟨fd,r,A⟩:=F w mg fa _ p G.T.g Lo;exact Fe p G.T.g G.T.b G.T.builtins G.T.nolimit hg MY hints (QT hlen J) hr A r (λH z y=>I w H a ns hlen z y) λH e s'=>D w H s₁ e s'
end L2
namespace L2
open PySem PySem.Spec PyProof.Rows
def ZD (s:Stmt) (j:Nat):Stmt:=match s with
 | .ClassDef _ _ _ body _ _ _ _ _ _ _=>body.getD j (.Pass ⟨0,0,0,0⟩)
 |_=> .Pass ⟨0,0,0,0⟩
def ZZ (s:Stmt):Arguments:=match s with
 | .FunctionDef _ a _ _ _ _ _ _ _ _=>a
 |_=>{posonlyargs:=[],args:=[],vararg:=none,kwonlyargs:=[],kw_defaults:=[],kwarg:=none,defaults:=[]}
def xX (s:Stmt):List Stmt:=match s with
 | .FunctionDef _ _ b _ _ _ _ _ _ _=>b
 |_=>[]
def zk (s:Stmt):Scope:=match s with
 | .FunctionDef _ _ _ _ _ _ sc _ _ _=>sc
 |_=>{kind:= .function,names:=[],isGenerator:=false,isCoroutine:=false}
abbrev CX0:CXT:=λ_ _ _ _ _ _=>False
abbrev E0:XK:=λ_ _ _=>False
theorem Ef {X:Cx}:Wr CX0 X E0:=λ_ _ _ _ _ _ _ h=>h.elim
structure Fun (K:PySem.W.Frag) (x qual:Str) (st:Stmt) (f:Addr) (fd:FuncData):Prop where
 ex:∃(oc:Value) (od:Option Addr) (kV doc pm:Value) (an:Option Addr) (Kq ct:Value) (osl:Array (Option Value)),
  fd=PySem.W.fnOf x qual (ZZ st) (xX st) (zk st) .none kV doc pm an Kq ct/\K.lookup f=some ⟨oc,od, .func fd,osl⟩/\PySem.W.codeIn K Kq qual=true
 kp:PySem.W.keepIn K (.ref f)=true
section
variable {P:Program} {w:World} {K:PySem.W.Frag} {mg:Str->Option Value} {base:Heap}
theorem Fun.ok {x qual:Str} {st:Stmt} {f:Addr} {fd:FuncData} {N ps:List Str} {k:Nat} {sp:Sp} (F:Fun K x qual st f fd) (S:FnScope N ps (zk st)) (len:∀vs H Q E,sp vs H Q E->vs.length=ps.length)
 (u:∀(g:Value) (A:Around) (outer:List Env) (s:Shared) (H:Hp) (vs:List V) (Q:VK) (E:XK),Room k (A.deeper (envOfC qual (zk st) s.heap.objs.size f g))->sp vs H Q E->
  ∃t,PSs (Fz CX0 P w K mg base N qual (zk st) f g A outer s H E).nox (xX st) t/\t {nx:=λ_ H'=>Q .non H',rt:=Q} (gU N vs) H):FnOk P w K mg base CX0 (k+1) f fd ps sp:=by
 obtain ⟨z,y,kV,doc,pm,an,g,ct,m,rfl,lk,r⟩:=F.ex;refine fn_of lk r S len λA outer s H vs Q E hr p=>?_;obtain ⟨t,h,q⟩:=u g A outer s H vs Q E hr p;exact ⟨t,h.nox,q⟩
theorem Fun.binds {x qual:Str} {st:Stmt} {f:Addr} {fd:FuncData} {ps:List Str} (F:Fun K x qual st f fd)
 (h:∀(kV doc pm:Value) (an:Option Addr) (g ct:Value) (us:List Value),us.length=ps.length->bindArgs (PySem.W.fnOf x qual (ZZ st) (xX st) (zk st) .none kV doc pm an g ct) ⟨us,[]⟩=pure (ps.zip us)):yX K fd ps []:=by
 obtain ⟨q,p,kV,doc,pm,an,g,ct,m,rfl,lk,r⟩:=F.ex;exact .all (h kV doc pm an g ct)
theorem oh {x qual:Str} {st:Stmt} {f:Addr} {p:Value} {m an:Option Addr} {g:Array (Option Value)} {kV doc pm h ct:Value} (l:K.lookup f=some ⟨p,m, .func (PySem.W.fnOf x qual (ZZ st) (xX st) (zk st) .none kV doc pm an h ct),g⟩)
 (c:PySem.W.codeIn K h qual=true) (k:PySem.W.keepIn K (.ref f)=true):Fun K x qual st f (PySem.W.fnOf x qual (ZZ st) (xX st) (zk st) .none kV doc pm an h ct):=⟨⟨p,m,kV,doc,pm,an,h,ct,g,rfl,l,c⟩,k⟩
end
theorem WE {n:Nat} (h:n<=1000):n<sizeLine:=Nat.lt_of_le_of_lt h (by decide)
section
variable {X:Cx}
theorem pv (i:Nat) {x:Str} {pos:Pos} (h:X.N[i]? =some x:=by rfl) (g:Vis X.env.scope x:=by walk_at "v") (hd:(x==("__debug__":Str))=false:=by decide)
 (m:(x==("__classdict__":Str))=false:=by decide):PE X (.Name x pos) (tVar i):=pe_var h g hd m
end
theorem iteF {A B:Prop} (h:B):if false=true then A else B:=by
 rw [QS Qy];exact h
theorem iteT {A B:Prop} (h:A):if true=true then A else B:=by
 rw [QH rfl];exact h
def zH (H H':Hp):Prop:=∀b o,H b=some o->H' b=some o
theorem zH.refl (H:Hp):zH H H:=λ_ _ h=>h
theorem zH.trans {H H1 g:Hp} (a:zH H H1) (b:zH H1 g):zH H g:=λc o h=>b c o (a c o h)
theorem zH.free {H H':Hp} (e:zH H H') {l:Addr} (h:H' l=Option.none):H l=Option.none:=by
 cases q:H l with
 |none=>rfl
 |some o=>
  rw [e l o q] at h;cases h
theorem zH.seq {K:PySem.W.Frag} {H H':Hp} {a:Addr} {xs:List V} (e:zH H H') (h:SqL K H a xs):SqL K H' a xs:=by
 rcases h with (h|⟨o,h⟩)|h
 ·exact .inl (.inl (e _ _ h))
 ·exact .inl (.inr ⟨o,e _ _ h⟩)
 ·exact .inr h
end L2
namespace L2
open PySem PySem.Spec PyProof.Rows
def less (h:Heap) (p:Addr->Bool):Heap:=⟨h.objs.mapIdx λi o=>if p i then {o with data:= .freed} else o,h.life⟩
theorem lB {h:Heap} {p:Addr->Bool} {a:Addr}:(less h p).get? a=if p a then none else h.get? a:=by
 unfold less Heap.get?;simp only [Array.getElem?_mapIdx]
 cases e:h.objs[a]? with
 |none=>simp
 |some o=>
  by_cases hp:p a
  ·simp [hp]
  ·simp [hp]
theorem fX {h base g:Heap}:∀{l:List Env},h.FunFrames base l->(∀b∈frs l,g.get? b=none)->h.FunFrames g l
 |[],_,_=>trivial
 |env::pA,⟨hk,⟨L,o,hf,hn,ho,hd⟩,hr⟩,hb=>by
  have e:frs (env::pA)=L::frs pA:=by unfold frs;rw [jaB,hf]
  rw [e] at hb;exact ⟨hk,⟨L,o,hf,hb L (Qc ..),ho,hd⟩,fX hr λb h=>hb b (Qf _ h)⟩
def CX1 (P:Program) (w:World):CXT:=λouter H s E e s'=>∃(a C:Addr) (a0:Value) (H':Hp) (bs:Heap),e= .ref a/\s'.os=s.os/\AllBare s'.gens/\Un (frs outer) [] H H' s.heap s'.heap/\HOk P w H' s'.heap/\
 Heap.FlyingW bs outer a (.ref C) a0 s'.heap/\(∀b o,s.heap.get? b=some o->b∉frs outer->∃g,bs.get? b=some g)/\(∀b u,H' b=some u->∃o,bs.get? b=some o)/\E (.ref C) none H'
theorem ZF.obj {P:Program} {w:World} {H:Hp} {h:Heap} {a:Addr} {o:HO} (x:ZF P w H h a o):∃u,h.get? a=some u:=by
 cases o with
 |lst xs=>obtain ⟨_,_,_,_,e⟩:=x;exact ⟨_,e⟩
 |tup xs=>obtain ⟨_,_,_,o,e,_⟩:=x;exact ⟨_,e⟩
 |dK g=>obtain ⟨_,_,_,_,o,_,_,e,_⟩:=x;exact ⟨_,e⟩
 |dT g=>obtain ⟨_,_,_,_,o,_,_,e,_⟩:=x;exact ⟨_,e⟩
 |set S n=>obtain ⟨o,_,_,_,e,_⟩:=x;exact ⟨_,e⟩
 |ins C q fs=>obtain ⟨_,_,_,e,_⟩:=x;exact ⟨_,e⟩
 |own y=>exact x
 |xd fs=>obtain ⟨_,⟨_,_,_,e,_⟩,_⟩:=x;exact ⟨_,e⟩
 |rng lo p=>obtain ⟨_,_,_,e⟩:=x;exact ⟨_,e⟩
 |frz m u=>obtain ⟨e,_⟩:=x;exact ⟨_,e⟩
 |tbl ps=>exact ⟨_,(show h.get? a=some _ from x)⟩
 |met f y=>exact ⟨_,(show h.get? a=some _ from x)⟩
 |ext φ=>obtain ⟨_,e,_⟩:=x;exact e
def Gk (C:Addr) (E:XK) (t:TA):TS:=λ_ σ H=>t σ H λvs H1=>vs.length<=sizeLine/\E (.ref C) none H1
theorem Vq {X:Cx} {x:Str} {C:Addr} {B newId J:String} {bm:List Value} {e₀:Expr} {es:List Expr} {np p pos:Pos} {t:TA} {E:XK} (O:OwnCls x C bm newId X.mg X.base) (FB:ExcBaseFacts B newId J bm) (hg:Gl X x)
 (L:X.calm=true) (hex:X.ex=[]) (Kv:X.stack=X.env::X.outer) (hf:X.env.frame=some X.env.locals)
 (PU:∀e s',wpAny (model X.prog X.w) X.A (leaving X.env e) (λ_ LG=>CX1 X.prog X.w X.outer X.H₀ X.s₀ E e LG) (λe' LG=>CX1 X.prog X.w X.outer X.H₀ X.s₀ E e' LG) s'->X.xe e s')
 (ha:PA X (e₀::es) t) (hd:(x==("__debug__":Str))=false:=by decide)
 (he:starEach (e₀::es) X.env=(false,eval e₀ X.env)::starEach es X.env:=by rfl) (KU:(backTo p (starEach es X.env)).any (·.1)=false:=by rfl):PS X (.Raise (some (.Call (.Name x np) (e₀::es) [] p)) none pos) (Gk C E t):=by
 intro pins s σ H D I h;obtain ⟨l0,N0,z1,z2,z3,z4,z5,z6,z7,z8,z9,j0,j1,j2,j3,j5,mN,hC,hN,hni,hT⟩:=O.obj
 have y:(backTo p (starEach (e₀::es) X.env)).any (·.1)=false:=by
  rw [he];show (false||(backTo p (starEach es X.env)).any (·.1))=false;rw [KU];rfl
 refine wpAny_Raise_call_subT (nm:=z1) (q:=z2) (N:=N0) (bs:=z3) (bm:=l0) (hdct:=z4) (sn:=z5) (sub:=z6) (ab:=z7) (col:=z8) (dd:=z9) (k0:=j0) (k1:=j1) (k2:=j2) (k3:=j3) (k5:=j5) FB (mN:=mN) (hT.hasType FB.hasBase) (I.ok.hd L) y hni (Up I hg O.bound ⟨rfl,?_⟩ hd);have key:=ha p pins s σ H _ I h;rw [he] at key⊢;refine Calls.evalArgs_plain (thn key λus s2 ⟨vs,H1,m,r1,hl,hE⟩=>⟨rfl,by rw [<-r1.length];exact hl,m.bk _ _ hC,hN.keeps m.bk,hT.keeps m.bk,λh' e Z=>PU _ _ ?_⟩);have fr:X.A.frames=some (X.env::X.outer):=by rw [I.ok.frames,Kv]
 have T:∀b o,b∉frs X.stack->s2.heap.get? b=some o->(less s2.heap λb=>decide (b∈frs X.stack)).get? b=some o:=λb o g K=>by
  rw [lB,QS (by simpa using g)];exact K
 refine wpAny_leaves_madeW (base:=less s2.heap λb=>decide (b∈frs X.stack)) (h:=s2.heap) fr hf (λb o g=>?_) (fX (Kv▸m.stack) λb g=>?_) Z λMh t Y _ _ up=>?_
 ·rw [lB] at g
  split at g
  ·cases g
  ·exact g
 ·rw [lB,QH (by rw [Kv];simpa using g)]
 have low:∀b o,X.s₀.heap.get? b=some o->b∉X.fs->b∉frs X.stack:=λb o K g KL=>by
  rcases Qk.mp (I.stkSub b KL) with z|z
  ·exact absurd (Qn K) (Nat.not_lt.mpr (by rw [z];exact I.ok.above))
  ·exact g z
 have r:∀b,b∉X.ex:=λb g=>by rw [hex] at g;cases g
 refine ⟨e,C, .ref t,H1,_,rfl,m.os,m.bare,⟨λb o G M U _=>?_,λb o G M U _=>?_,λb o G M _=>m.base.free b o G M (r b),λb o G _=>?_,m.base.tups,m.base.frzs,m.base.tbls⟩,λb u g=>?_,Y,λb o G M=>?_,λb u g=>?_,hE⟩
 ·exact Y.1 b o (T b o (low b o G U) (m.base.keep b o G M U (r b)))
 ·obtain ⟨sl,Q⟩:=m.base.slot b o G M U (r b)
  obtain ⟨Mr,h5⟩:=up b _ (Z.keeps b _ Q) (by
   obtain ⟨_,P,Lw,KJ⟩:=m.funs.mem U;rw [Q] at Lw;cases Lw
   exact KJ)
  exact ⟨Mr,h5⟩
 ·obtain ⟨P,Q⟩:=m.base.there b o G (r b)
  by_cases g:b∈frs X.stack
  ·obtain ⟨_,o2,MZ,hd2⟩:=m.stack.mem g;obtain ⟨sl,h5⟩:=up b _ (Z.keeps b _ MZ) hd2;exact ⟨_,h5⟩
  ·exact ⟨_,Y.1 b P (T b P g Q)⟩
 ·refine (m.hok b u g).stay (λc o L K=>Y.1 c o (T c o (λz=>?_) K)) (λ_ q=>q) λ_ _ q=>q;have:=m.stkFree c z
  rcases L with L|L
  ·rw [L,g] at this;cases this
  ·rw [L] at this;cases this
 ·obtain ⟨P,Q⟩:=m.base.there b o G (r b);exact ⟨P,T b P (low b o G M) Q⟩
 ·obtain ⟨o,K⟩:=(m.hok b u g).obj;exact ⟨o,T b o (λz=>by have:=m.stkFree b z;rw [g] at this;cases this) K⟩
def tq (a C:Addr):HO:= .ext λh=>∃g,h.get? a=some g/\g.cls= .ref C
theorem vO {X:Cx} {pins:List (Addr×Obj)} {σ:St} {H:Hp} {s s':Shared} {E:XK} {e:Value} (I:Inv X pins σ H s) (h:CX1 X.prog X.w X.stack H s E e s'):
 ∃(a C:Addr) (a0:Value) (H':Hp) (bs:Heap),e= .ref a/\E (.ref C) none H'/\H' a=none/\Heap.FlyingW bs X.stack a (.ref C) a0 s'.heap/\
  ∀s5:Shared,Heap.FlyingW bs X.stack a (.ref C) a0 s5.heap->s'.heap.UpToSlots s5.heap->s5.os=s'.os->s5.gens=s'.gens->Inv X pins σ (upd H' a (tq a C)) s5/\(∃G,s5.heap.get? a=some G/\G.cls= .ref C):=by
 obtain ⟨a,C,a0,H',bs,rfl,os,bare,un,hok,y,g,trk,hE⟩:=h
 have ha:H' a=none:=by
  cases q:H' a with
  |none=>rfl
  |some u=>
   obtain ⟨o,O⟩:=trk a u q;rw [y.2.1] at O;cases O
 have Rp:∀b o,s.heap.get? b=some o->b≠a:=by
  rintro b o r rfl
  by_cases m:b∈frs X.stack
  ·obtain ⟨_,o2,T,hd2⟩:=y.2.2.1.mem m;obtain ⟨G,vs,_,_,_,he,_,hd,_⟩:=y.2.2.2;rw [T] at he;cases he;exact hd2 vs hd
  ·obtain ⟨J,p⟩:=g b o r m;rw [y.2.1] at p;cases p
 have t:∀b u,H' b=some u->upd H' a (tq a C) b=some u:=λb u q=>by
  rw [yb (λz=>by rw [z,ha] at q;cases q)];exact q
 refine ⟨a,C,a0,H',bs,rfl,hE,ha,y,λs5 L up Q g5=>⟨I.call' (ch:=[]) (Q.trans os) ⟨λb o r K N _=>?_,λb o r K N _=>?_,λb o r K _=>?_,λb o r _=>?_,λb xs q=>t b _ (un.tups b xs q),λb o u q=>t b _ (un.frzs b o u q),λb ps q=>?_⟩ (λb u m=>?_) (by rw [g5];exact bare) (λb m=>by cases m),L.there⟩⟩
 ·obtain ⟨J,p⟩:=g b o r N;have D:=y.1 b J p;rw [un.keep b o r K N (by simp)] at D;cases D;exact L.1 b _ p
 ·obtain ⟨sl,p⟩:=un.slot b o r K N (by simp)
  obtain ⟨Mr,D⟩:=up b _ p (by
   obtain ⟨_,J,U,KJ⟩:=y.2.2.1.mem N;rw [p] at U;cases U
   exact KJ)
  exact ⟨Mr,D⟩
 ·rw [yb (Rp b o r)];exact un.free b o r K (by simp)
 ·by_cases m:b∈frs X.stack
  ·obtain ⟨_,o2,T,_⟩:=L.2.2.1.mem m;exact ⟨_,T⟩
  ·obtain ⟨J,p⟩:=g b o r m;exact ⟨_,L.1 b _ p⟩
 ·obtain ⟨more,q'⟩:=un.tbls b ps q;exact ⟨more,t b _ q'⟩
 ·by_cases M:b=a
  ·subst M;rw [yE] at m;cases m;obtain ⟨G,he,A⟩:=L.there;refine ⟨⟨G,he,A⟩,⟨G,he⟩,λr K ⟨o1,Z,Y⟩ k=>⟨o1,k _ Z,Y⟩⟩
  ·rw [yb M] at m;refine (hok b u m).stay (λc o A O=>?_) (λc q=>t c _ q) λc xs q=>t c _ q
   have:∃P,H' c=some P:=by
    rcases A with A|A
    ·exact ⟨u,by rw [A];exact m⟩
    ·exact ⟨_,A⟩
   obtain ⟨P,Ra⟩:=this;obtain ⟨J,p⟩:=trk c P Ra;have D:=y.1 c J p;rw [O] at D;cases D;exact L.1 c _ p
def ag (h:Heap) (C D:Addr):Prop:=(∃nm q N bs bm hdct sn sub ab col dd k0 k1 k2 k3 k5 newId,h.get? C=some (excClassObj nm q C N bs bm hdct sn sub ab col dd k0 k1 k2 k3 k5 newId)/\(Value.ref C::bm).contains (.ref D)=true)/\
 ∃nm q N bs bm hdct sn sub ab col dd k0 k1 k2 k3 k5 newId,h.get? D=some (excClassObj nm q D N bs bm hdct sn sub ab col dd k0 k1 k2 k3 k5 newId)/\(Value.ref D::bm).contains (.type "BaseException")=true
theorem ag.keeps {h h':Heap} {C D:Addr} (u:ag h C D) (k:∀b o,h.get? b=some o->h'.get? b=some o):ag h' C D:=by
 obtain ⟨⟨a1,a2,a3,a4,a5,a6,a7,a8,a9,b1,Z,Y,X,U,T,Q,P,q,p⟩,O,N,M,L,K,J,I,H,G,E,A,z,y,w,t,s,r,m,g⟩:=u;exact ⟨⟨a1,a2,a3,a4,a5,a6,a7,a8,a9,b1,Z,Y,X,U,T,Q,P,k _ _ q,p⟩,O,N,M,L,K,J,I,H,G,E,A,z,y,w,t,s,r,k _ _ m,g⟩
theorem kY {M:Model} {A:Around} {E:Value->Shared->Prop} {s:Shared} {e C D:Addr} {h:Obj} {Q:Bool->Shared->Prop} (u:ag s.heap C D) (he:s.heap.get? e=some h) (w:h.cls= .ref C) (p:Q true s):wpAny M A (excMatches (.ref e) (.ref D)) Q E s:=by
 obtain ⟨⟨a1,a2,a3,a4,a5,a6,a7,a8,a9,b1,b2,b3,b4,b5,b6,b7,b8,q,t⟩,c1,Z,Y,X,U,T,P,O,N,L,K,J,I,H,G,z,y,m,r⟩:=u;obtain ⟨hp,g,d,tk,os⟩:=s;have nt:=tc_notTuple;unfold excMatches
 repeat (first|(with_reducible refine wpAny_loadPart_at he ?_;rw [w])|with_reducible refine wpAny_loadPart_at m ?_|(with_reducible refine wpAny_isSubtype_exc m ?_;rw [r])|(with_reducible refine wpAny_isSubtype_exc q ?_;rw [t])|wp_step)
 exact p
theorem Inv.unname {X:Cx} {pins:List (Addr×Obj)} {σ:St} {H:Hp} {s:Shared} {M:Model} {A:Around} {E:Value->Shared->Prop} {i:Nat} {x:Str} {pos:Pos} {Q:Unit->Shared->Prop} (I:Inv X pins σ H s) (hN:X.N.Nodup) (hi:X.N[i]? =some x) (U:X.env.kindOf x=some .local)
 (h:∀s',Inv X pins (σ.set i none) H s'->Q () s'):wpAny M A (do bindName X.env x .none;unbindBehindTheSuite X.env x pos) Q E s:=by
 obtain ⟨m,hn,Z⟩:=id I.loc;have D:(X.env.scope.kind== .class||(X.env.scope.kind== .module && X.env.locals !=X.env.globals))=false:=by rw [I.ok.kind];rfl
 refine wpAny_nameGoes_keeps U hn D λh' v Rq g=>h _ ?_;obtain ⟨oL,_,_,Y,_⟩:=id hn;have far:∀b o,X.s₀.heap.get? b=some o->b≠X.env.locals:=λb o e=>QE (QJ (Qn e) I.ok.above);refine ⟨I.ok,I.os,I.bare,⟨λb o e n G w=>(g.2 b (far b o e)).trans (I.base.keep b o e n G w),λb o e n G w=>?_,I.base.free,λb o e w=>?_,I.base.tups,I.base.frzs,I.base.tbls⟩,⟨_,Rq,λj y L t r e3=>?_⟩,λy c e=>?_,I.free,I.freeC,λp hp=>?_,λb u e=>?_,by rw [jaS];exact I.len⟩
 ·obtain ⟨sl,t⟩:=I.base.slot b o e n G w;exact ⟨sl,(g.2 b (far b o e)).trans t⟩
 ·obtain ⟨T,t⟩:=I.base.there b o e w;exact ⟨T,(g.2 b (far b o e)).trans t⟩
 ·have K:j≠i:=by
   rintro rfl
   by_cases Ku:j<σ.length
   ·rw [List.getElem?_set_self Ku] at r;cases r
   ·rw [QN (by rw [jaS];omega)] at r;cases r
  rw [jbd (Ne.symm K)] at r;obtain ⟨O,P,q⟩:=Z j y L t r e3;refine ⟨O,P,?_⟩
  rcases q with ⟨k,e⟩|⟨k,c,e,z⟩
  ·refine .inl ⟨k,?_⟩;have ne:y≠x:=λe=>K (kU hN t (e▸hi));simp [ne,e]
  ·exact .inr ⟨k,c,e,z.sameBut g (I.cne y c e)⟩
 ·obtain ⟨J,z⟩:=I.cell y c e;exact ⟨J,z.sameBut g (I.cne y c e)⟩
 ·obtain ⟨e,n,ne,nf,d⟩:=I.pin p hp;exact ⟨(g.2 p.1 ne).trans e,n,ne,nf,d⟩
 ·refine (I.hok b u e).stay (λc J C q=>(g.2 c ?_).trans q) (λ_ q=>q) λ_ _ q=>q
  rintro rfl
  rcases C with rfl|C
  ·rw [I.free] at e;cases e
  ·rw [I.free] at C;cases C
abbrev Cx.inExc (X:Cx) (a:Addr):Cx:={X with A:=X.A.mark (some (.ref a)),calm:=false,xe:=λ_ _=>False}
abbrev Cx.with' (X:Cx) (pn:List (Addr×Obj)) (xe:Value->Shared->Prop):Cx:={X with pn:=pn,xe:=xe}
theorem Inv.inExc {X:Cx} {pins:List (Addr×Obj)} {σ:St} {H:Hp} {s:Shared} (I:Inv X pins σ H s) (a:Addr):Inv (X.inExc a) pins σ H s:=
 ⟨⟨I.ok.mod,I.ok.kind,I.ok.glob,I.ok.blt,I.ok.above,I.ok.inj,I.ok.has,I.ok.cab,(λz=>by cases z),I.ok.frames,I.ok.stk,I.ok.exf,I.ok.bs,I.ok.bsz,I.ok.noex,I.ok.exfs,I.ok.funs,I.ok.frf⟩,I.os,I.bare,I.base,I.loc,I.cell,I.free,I.freeC,I.pin,I.hok,I.len⟩
theorem Inv.outExc {X:Cx} {pins:List (Addr×Obj)} {σ:St} {H:Hp} {s:Shared} {a:Addr} (ok:X.Ok) (I:Inv (X.inExc a) pins σ H s):Inv X pins σ H s:=⟨ok,I.os,I.bare,I.base,I.loc,I.cell,I.free,I.freeC,I.pin,I.hok,I.len⟩
theorem Inv.pinIn {X:Cx} {pins:List (Addr×Obj)} {σ:St} {H:Hp} {s:Shared} (I:Inv X pins σ H s) (xe:Value->Shared->Prop):Inv (X.with' (X.pn++pins) xe) [] σ H s:=
 ⟨⟨I.ok.mod,I.ok.kind,I.ok.glob,I.ok.blt,I.ok.above,I.ok.inj,I.ok.has,I.ok.cab,I.ok.hd,I.ok.frames,I.ok.stk,I.ok.exf,I.ok.bs,I.ok.bsz,I.ok.noex,I.ok.exfs,I.ok.funs,I.ok.frf⟩,I.os,I.bare,I.base,I.loc,I.cell,I.free,I.freeC,λp hp=>I.pin p (by simpa using hp),I.hok,I.len⟩
theorem Inv.pinOut {X:Cx} {pins g:List (Addr×Obj)} {σ:St} {H:Hp} {s:Shared} {xe:Value->Shared->Prop} (ok:X.Ok) (I:Inv (X.with' (X.pn++pins) xe) g σ H s):Inv X pins σ H s:=
 ⟨ok,I.os,I.bare,I.base,I.loc,I.cell,I.free,I.freeC,λp hp=>I.pin p (jah _ hp),I.hok,I.len⟩
theorem Inv.rewish {X:Cx} {pn pins:List (Addr×Obj)} {σ:St} {H:Hp} {s:Shared} {xe:Value->Shared->Prop} (I:Inv (X.with' pn xe) pins σ H s) (g:Value->Shared->Prop):Inv (X.with' pn g) pins σ H s:=
 ⟨⟨I.ok.mod,I.ok.kind,I.ok.glob,I.ok.blt,I.ok.above,I.ok.inj,I.ok.has,I.ok.cab,I.ok.hd,I.ok.frames,I.ok.stk,I.ok.exf,I.ok.bs,I.ok.bsz,I.ok.noex,I.ok.exfs,I.ok.funs,I.ok.frf⟩,I.os,I.bare,I.base,I.loc,I.cell,I.free,I.freeC,I.pin,I.hok,I.len⟩
theorem SP.pinOut {X:Cx} {pins:List (Addr×Obj)} {D:Ends} {f:Flow} {s':Shared} {xe:Value->Shared->Prop} (ok:X.Ok) (h:SP (X.with' (X.pn++pins) xe) [] D f s'):SP X pins D f s':=by
 cases f with
 |next=>obtain ⟨σ',H',I,q⟩:=h;exact ⟨σ',H',I.pinOut ok,q⟩
 |brk=>obtain ⟨σ',H',I,q⟩:=h;exact ⟨σ',H',I.pinOut ok,q⟩
 |cont=>obtain ⟨σ',H',I,q⟩:=h;exact ⟨σ',H',I.pinOut ok,q⟩
 |ret u=>obtain ⟨v,σ',H',I,r,q⟩:=h;exact ⟨v,σ',H',I.pinOut ok,r,q⟩
def tTry (base:Heap) (D:Addr) (len i:Nat) (h:XK->TS) (g:TS):TS:=λN σ H=>
 h (λc _ H'=>∃C,c= .ref C/\ag base C D/\∀(σ':St) (a:Addr),σ'.length=len->H' a=none->
  g {nx:=λσ2 H2=>N.nx (σ2.set i none) H2,rt:=N.rt,bk:=λσ2 H2=>N.bk (σ2.set i none) H2,ct:=λσ2 H2=>N.ct (σ2.set i none) H2} (σ'.set i (some (.ref a))) (upd H' a (tq a C))) N σ H
theorem ps_try {X:Cx} {body g:List Stmt} {b₀:Stmt} {y n:Str} {D:Addr} {i:Nat} {tb:XK->TS} {ts:TS} {np Rh pos:Pos} (K:X.stack=X.env::X.outer) (hf:X.env.frame=some X.env.locals) (hg:Gl X y) (hD:X.mg y=some (.ref D))
 (C:X.N.Nodup) (t:X.N[i]? =some n) (hn:X.env.kindOf n=some .local)
 (hb:∀pn xe E,Wr (CX1 X.prog X.w) (X.with' pn xe) E->PSs (X.with' pn xe) body (tb E)) (hs:∀a,PSs (X.inExc a) (b₀::g) ts) (hd:(y==("__debug__":Str))=false:=by decide):
 PS X (.Try body [.ExceptHandler (some (.Name y np)) (some n) (b₀::g) Rh] [] [] pos) (tTry X.base D X.N.length i tb ts):=by
 intro pins s σ H N I h;have fr:X.A.frames=some (X.env::X.outer):=by rw [I.ok.frames,K]
 refine wpAny_Try_except (wpAny_mono (hb (X.pn++pins) (λe s'=>∃L σ' H1 s1,Inv (X.with' (X.pn++pins) X.xe) L σ' H1 s1/\CX1 X.prog X.w X.stack H1 s1 _ e s') _ (λL σ' H1 s1 e s' M cx=>⟨L,σ',H1,s1,M.rewish _,cx⟩) [] s σ H N (I.pinIn _) h) (λf s1 h1=>?_) λe s' hx=>?_)
 ·have J:=h1.pinOut I.ok
  cases f with
  |next=>exact Ql J
  |brk=>exact J
  |cont=>exact J
  |ret u=>exact J
 ·obtain ⟨L,σ',H1,s1,M,cx⟩:=hx;obtain ⟨a,O,a0,H',bs,rfl,⟨C1,U,Q,k⟩,ha,fl,after⟩:=vO (X:=X.with' (X.pn++pins) X.xe) M cx;obtain rfl:O=C1:=by cases U;rfl
  have NC:Heap.FlyingW bs (X.env::X.outer) a (.ref O) a0 s'.heap:=K▸fl;refine wpAny_looks_onW fr hf NC λh4 held SD=>?_;refine wpAny_landsW held λY My SA=>?_;obtain ⟨I5,oe,he,KW⟩:=after {s' with heap:=Y} (show Heap.FlyingW bs X.stack a (.ref O) a0 Y from K▸My) (SD.trans SA) rfl rfl;refine wpAny_handleBy_cons (codeAny_handlers_test (Up (X:=X.inExc a) ((I5.pinOut I.ok).inExc a) hg hD ?_ hd)) (by intro q;cases q);refine kY (s:={s' with heap:=Y}) (Q.keeps I5.bk) he KW (codeAny_handlers_suite_as ?_);refine lands_againW My λh6 Z P=>?_;obtain ⟨I6,_⟩:=after {s' with heap:=h6} (show Heap.FlyingW bs X.stack a (.ref O) a0 h6 from K▸Z) ((SD.trans SA).trans P) rfl rfl;refine Vi (X:=X.inExc a) (v:= .ref a) ((I6.pinOut I.ok).inExc a) C t (.inl hn) rfl (λs7 I7=>?_) (.inr hn);refine wpAny_mono (hs a pins s7 _ _ _ I7 (k σ' a M.len ha)) (λf s8 G=>?_) λ_ _ z=>z.elim
  cases f with
  |next=>
   obtain ⟨σ2,H2,p,q⟩:=G;exact (p.outExc I.ok).unname C t hn λT m=>⟨_,_,m,q⟩
  |brk=>
   obtain ⟨σ2,H2,p,q⟩:=G;exact (p.outExc I.ok).unname C t hn λT m=>⟨_,_,m,q⟩
  |cont=>
   obtain ⟨σ2,H2,p,q⟩:=G;exact (p.outExc I.ok).unname C t hn λT m=>⟨_,_,m,q⟩
  |ret u=>
   obtain ⟨v,σ2,H2,p,r,q⟩:=G;exact (p.outExc I.ok).unname C t hn λT m=>⟨_,_,_,m,r,q⟩
end L2
namespace L2
open PySem PySem.W PySem.Spec PySem.Calls PyProof.Rows Builtin Builtin.ObjectAttr Builtin.Getset_descriptor
section
variable {prog:Program} {w:World} {A:Around} {E:Value->Shared->Prop} {h:Heap} {g:Array GenState} {d:Drawn} {t:Nat} {os:OsState} {a C:Addr} {o:Obj} {K:PySem.W.Frag}
theorem Cj {M:Model} (m:h.get? a=some o) (p:o.cls= .ref C):Looks M h (typeOf (.ref a)) (.ref C):=p▸(Looks.ld m).andThen .now
theorem qJ {R:Result->Shared->Prop} {m:Value} (X:K.In h) (p:h.get? a=some o) (r:o.cls= .ref C) (hm:mroIn K C (.type "object")=some true) (q:R (.ok (.ret (.ref C))) ⟨h,g,d,t,os⟩):
 codeAny (model prog w) A (.call (.builtin "getset_descriptor.__get__") ⟨[.builtin "object.__class__", .ref a,m],[]⟩) R ⟨h,g,d,t,os⟩:=by
 have Lt:=Cj (M:=model prog w) p r;have s:=looks_mroIn (M:=model prog w) X hm;refine codeAny_call_builtin KF.slot_gs.plain KF.entry_gs (KF.slot_gs.check _ _ _ _ _ _ _ _ KF.type_class (KF.args_gs _ _ _) ?_);unfold Builtin.«getset_descriptor.__get__»;unfold descrGet;rw [dga_obj];refine Qd (Ql ?_);unfold descrGetter descrCheckInstance;unfold descrNameAndClass isInstance;simp only [KF.owner_class]
 repeat lk
 refine ⟨Code.quiet_builtin _ (by decide+kernel),jaH KF.entry_class ?_⟩;unfold Builtin.«object.__class__»;unfold shownTypeOf
 repeat lk
 exact q
variable (X:K.In h) (hx:h.get? a=some o) (hc:o.cls= .ref C) (hm:mroIn K C (.type "object")=some true) (Nx:mroIn K C (.type "BaseException")=some true)
 (Pd:findIn K (.ref C) "__getattribute__"=some (some (.builtin "BaseException.__getattribute__"))) (Pc:findIn K (.ref C) "__getattr__"=some none) (KW:findIn K (.ref C) "__class__"=some (some (.builtin "object.__class__")))
include X hx hc hm KW in
theorem lK {tk:Tok} {Q:Fin->Shared->Prop} (u:Q (.done (.ret (.ref C))) ⟨h,g,d,t,os⟩):wpAny (model prog w) A (Builtin.«object.__getattribute__» ⟨[.ref a, .str "__class__" tk],[]⟩) Q E ⟨h,g,d,t,os⟩:=by
 have Lt:=Cj (M:=model prog w) hx hc;have m:=looks_findIn (M:=model prog w) X KW;have p:(⟨h,g,d,t,os⟩:Shared).TypeIs (.builtin "object.__class__") "getset_descriptor":=F.typeOf_object_class;have s:=F.typeOf_object_class;have r:=F.slot_gs_get.lookup;have q:=F.slot_gs_set.lookup
 repeat (any_goals (first|assumption|with_reducible refine Looks.at Lt ?_|with_reducible refine Looks.at m ?_|wp_step))
 refine qJ X hx hc hm ?_
 repeat (any_goals (first|assumption|wp_step))
include X hx hc Nx in
theorem ou {M:Model} {m:Value} {Q:Unit->Shared->Prop} (r:Q () ⟨h,g,d,t,os⟩):wpAny M A (checkBuiltinCall "BaseException.__getattribute__" ⟨[.ref a,m],[]⟩) Q E ⟨h,g,d,t,os⟩:=by
 have q:builtinKind "BaseException.__getattribute__"=some .slot:=by decide+kernel
 have p:splitId "BaseException.__getattribute__"=some ("BaseException","__getattribute__"):=by decide+kernel
 have Lt:=Cj (M:=M) hx hc;have s:=looks_mroIn (M:=M) X Nx;have u:=F.args_bexc_ga (.ref a) m;simp only [checkBuiltinCall,q,p];refine Qd ?_;unfold isInstance
 repeat (first|with_reducible refine Looks.at Lt ?_|with_reducible refine Looks.at s ?_|wp_step)
 exact r
include X hx hc hm Nx Pd Pc KW in
theorem vL {FG:Slot "ValueError" "__getattribute__" "BaseException.__getattribute__"} {tk:Tok} {Q:Value->Shared->Prop} (q:Q (.ref C) ⟨h,g,d,t,os⟩):wpAny (model prog w) A (getAttrBy (.ref a) (.str "__class__" tk) false) Q E ⟨h,g,d,t,os⟩:=by
 have Lt:=Cj (M:=model prog w) hx hc;have p:=looks_findIn (M:=model prog w) X Pd;have L2:=looks_findIn (M:=model prog w) X Pc;have r:=FG.bind (.ref a);have m:(Value.builtin "BaseException.__getattribute__"==Value.builtin "object.__getattribute__")=false:=by decide+kernel
 have n1:(onTheHeap (Value.ref C) && Value.builtin "BaseException.__getattribute__"==Value.builtin "object.__getattribute__")=false:=by rw [m];rfl
 repeat (any_goals (first|assumption|with_reducible refine Looks.at Lt ?_|with_reducible refine Looks.at p ?_|with_reducible refine Looks.at L2 ?_|wp_step))
 refine codeAny_call_builtin FG.plain F.entry_bexc_ga (ou X hx hc Nx (lK X hx hc hm KW ?_))
 repeat (any_goals (first|assumption|wp_step))
include X hx hc hm Nx Pd Pc KW in
theorem ow {FG:Slot "ValueError" "__getattribute__" "BaseException.__getattribute__"} {Q:Option Value->Shared->Prop} (m:Q (some (.ref C)) ⟨h,g,d,t+1,os⟩):wpAny (model prog w) A (getAttr? (.ref a) "__class__") Q E ⟨h,g,d,t,os⟩:=by
 unfold getAttr? getAttrBy?
 repeat (any_goals (first|assumption|with_reducible apply vL X hx hc hm Nx Pd Pc KW (FG:=FG)|wp_step))
end
structure ExcIn (K:PySem.W.Frag) (C:Addr):Prop where
 cls:∃cd,clsIn K C=some cd
 obj:mroIn K C (.type "object")=some true
 base:mroIn K C (.type "BaseException")=some true
 ga:findIn K (.ref C) "__getattribute__"=some (some (.builtin "BaseException.__getattribute__"))
 gt:findIn K (.ref C) "__getattr__"=some none
 at_:findIn K (.ref C) "__class__"=some (some (.builtin "object.__class__"))
theorem Ff {K:PySem.W.Frag} {a C:Addr} (I:ExcIn K C) (FG:Slot "ValueError" "__getattribute__" "BaseException.__getattribute__"):KitX K (.ref a) (.ref C) (λh=>∃y,h.get? a=some y/\y.cls= .ref C) where
 ty:=λ_ _ _ ⟨_,p,w⟩=>Cj p w
 it:=λ_ _ X _=>by
  obtain ⟨cd,m⟩:=I.cls;unfold clsIn at m
  split at m
  ·rename_i E D G H u;intro M J L s1 k q;unfold isType;unfold loadHead;exact Qd (wpAny_loadPart (k _ _ (X _ _ u)) (Ql q))
  ·cases m
 ne:=λh A dd its n sl X r=>by
  obtain ⟨cd,m⟩:=I.cls;refine Bool.eq_false_iff.mpr λq=>?_;obtain rfl:C=A:=Value.ref.inj (beq_iff_eq.mp q);unfold clsIn at m
  split at m
  ·rename_i E D G H u;have z:=(X _ _ u).symm.trans r;cases z
  ·cases m
 ca:=λ{_ _ _ _ _ s} X ⟨_,p,w⟩ k=>by
  obtain ⟨h,g,d,t,os⟩:=s;exact ow X p w I.obj I.base I.ga I.gt I.at_ (FG:=FG) k
def rIsE (K:PySem.W.Frag):List V->Hp->VK->Prop:=λxs H Q=>∃(a C:Addr) (y:V) (c:Value) (b:Bool),xs=[.ref a,y]/\H a=some (tq a C)/\ExcIn K C/\(∀u,ZE y u->u=c)/\kitOne K (.ref C) c=some b/\Q (.bl b) H
theorem Wg {X:Cx} (FG:Slot "ValueError" "__getattribute__" "BaseException.__getattribute__"):Vf X (.builtin "isinstance") (rIsE X.K):=by
 intro pins s σ H vs us Q I r h;obtain ⟨a,C,y,c,b,rfl,ha,w,t,e,q⟩:=h;obtain ⟨u,g,rfl,p,m⟩:=wD r;cases (show u=Value.ref a from p);obtain rfl:=t g m;exact kia_one (Ff (a:=a) w FG) I.kIn (I.hok a _ ha).1 e (by intro z;cases z) λtk=>⟨.bl b,H,I.tok tk,rfl,q⟩
theorem Fun.ok1 {P:Program} {w:World} {K:PySem.W.Frag} {mg:Str->Option Value} {base:Heap} {x qual:Str} {st:Stmt} {f:Addr} {fd:FuncData} {N ps:List Str} {k:Nat} {sp:Sp} (F:Fun K x qual st f fd) (S:FnScope N ps (zk st)) (len:∀vs H Q E,sp vs H Q E->vs.length=ps.length)
 (q:∀(g:Value) (A:Around) (outer:List Env) (s:Shared) (H:Hp) (vs:List V) (Q:VK) (E:XK),Room k (A.deeper (envOfC qual (zk st) s.heap.objs.size f g))->sp vs H Q E->
  ∃t,PSs (Fz (CX1 P w) P w K mg base N qual (zk st) f g A outer s H E) (xX st) t/\t {nx:=λ_ H'=>Q .non H',rt:=Q} (gU N vs) H):FnOk P w K mg base (CX1 P w) (k+1) f fd ps sp:=by
 obtain ⟨u,r,kV,doc,pm,an,g,ct,h,rfl,lk,p⟩:=F.ex;exact fn_of lk p S len λA outer s H vs Q E hr m=>q g A outer s H vs Q E hr m
theorem FnOk.cx {P:Program} {w:World} {K:PySem.W.Frag} {mg:Str->Option Value} {base:Heap} {CX:CXT} {k:Nat} {f:Addr} {fd:FuncData} {ps:List Str} {sp:Sp} (F:FnOk P w K mg base CX0 k f fd ps sp):FnOk P w K mg base CX k f fd ps sp:=
 ⟨F.len,λA outer s H args us vs Q E hr he p g m=>jbC (F.run A outer s H args us vs Q E hr he p g m) λr s' h=>by
  cases r with
  |error e=>exact h.elim
  |ok q=>cases q<;>exact h⟩
end L2
namespace L2
open PySem PySem.W PySem.Spec PySem.Calls PyProof.Rows
abbrev ZP:List Value:=[.type "ValueError", .type "Exception", .type "BaseException", .type "object"]
theorem qI {K:PySem.W.Frag} {h:Heap} {C:Addr} (X:K.In h) (q:excIn K C ZP "ValueError.__new__"=true):
 ∃bm N nm E bs hd sn sub ab col dd k0 k1 k2 k3 k5,h.get? C=some (excClassObj nm E C N bs bm hd sn sub ab col dd k0 k1 k2 k3 k5 "ValueError.__new__")/\nsOkIn K N=true/\nsIn K N "__init__"=some none/\tailIn K ZP bm=true/\∀D,mroIn K C D=some true->(Value.ref C::bm).contains D=true:=by
 unfold excIn at q
 split at q
 ·rename_i L M u p
  split at q
  ·rename_i w g z0 z1 z2 z3 n1 z5 hm G;simp only [beq_iff_eq,TR,Bool.not_eq_true'] at q;obtain ⟨⟨⟨⟨⟨J,I⟩,t⟩,H⟩,s⟩,r⟩:=q;subst J I
   have O:∀D,mroIn K w D=some true->(Value.ref w::g).contains D=true:=by
    intro D e;unfold mroIn clsIn at e;rw [p] at e;simp only [Option.bind_some] at e;rw [hm] at e
    simpa using e
   obtain ⟨y1,y2,y3,y4,y5,y6,A,z,y,P,T⟩:=M;dsimp only at hm t s r;subst hm t
   have m:u=#[z0,z1,z2,z3,some (.builtin "ValueError.__new__"),z5]:=by
    obtain ⟨Q⟩:=u;exact congrArg Array.mk G
   subst m;exact ⟨g,y4,y1,y5,y2,y6,A,z,y,P,L,z0,z1,z2,z3,z5,X _ _ p,s,r,H,O⟩
  ·cases q
 ·cases q
theorem su {K:PySem.W.Frag} {h:Heap} {mg:Str->Option Value} {x:Str} {C:Addr} (X:K.In h) (G:h.Ns mainGlobals mg) (e:nsIn K mainGlobals x=some (some (.ref C))) (q:excIn K C ZP "ValueError.__new__"=true):OwnCls x C ZP "ValueError.__new__" mg h:=by
 obtain ⟨bm,N,nm,g,bs,hd,sn,sub,ab,col,dd,k0,k1,k2,k3,k5,a1,a2,p,m,_⟩:=qI X q;exact ⟨mg_of X G e,bm,N,nm,g,bs,hd,sn,sub,ab,col,dd,k0,k1,k2,k3,k5,_,a1, .of_isNs (isNs_of_in X a2),nsMap_none_of_in X a2 p,tail_of_in X m⟩
theorem cV {K:PySem.W.Frag} {h:Heap} {C D:Addr} (X:K.In h) (q:excIn K C ZP "ValueError.__new__"=true) (r:excIn K D ZP "ValueError.__new__"=true) (m:mroIn K C (.ref D)=some true) (b:mroIn K D (.type "BaseException")=some true):ag h C D:=by
 obtain ⟨bm,N,nm,I,bs,hd,sn,sub,ab,col,dd,k0,k1,k2,k3,k5,a1,_,_,_,M⟩:=qI X q;obtain ⟨G,P,s,p,E,Q,g,sub',H,O,A,z,y,w,u,t,L,_,_,_,J⟩:=qI X r;exact ⟨⟨nm,I,N,bs,bm,hd,sn,sub,ab,col,dd,k0,k1,k2,k3,k5,_,a1,M _ m⟩,s,p,P,E,G,Q,g,sub',H,O,A,z,y,w,u,t,_,L,J _ b⟩
structure Kd (K:PySem.W.Frag) (mg:Str->Option Value) (R c1 c2 c3 c4 c5 c6:Addr) (b1 b2 b3 b4 b5 b6:Bool):Prop where
 exc:ExcIn K R
 kV:kitOne K (.ref R) (.type "ValueError")=some true
 g1:mg "NoFraction"=some (.ref c1)
 g2:mg "NoPurse"=some (.ref c2)
 g3:mg "NoClaims"=some (.ref c3)
 g4:mg "NoRule"=some (.ref c4)
 g5:mg "NoPlace"=some (.ref c5)
 g6:mg "NoDivision"=some (.ref c6)
 k1:kitOne K (.ref R) (.ref c1)=some b1
 k2:kitOne K (.ref R) (.ref c2)=some b2
 k3:kitOne K (.ref R) (.ref c3)=some b3
 k4:kitOne K (.ref R) (.ref c4)=some b4
 k5:kitOne K (.ref R) (.ref c5)=some b5
 k6:kitOne K (.ref R) (.ref c6)=some b6
def kExc (base:Heap) (D:Addr) (len i:Nat) (g:TS) (N:Ends):XK:=λc _ H'=>∃C,c= .ref C/\ag base C D/\∀(σ':St) (a:Addr),σ'.length=len->H' a=none->
    g {nx:=λσ2 H2=>N.nx (σ2.set i none) H2,rt:=N.rt,bk:=λσ2 H2=>N.bk (σ2.set i none) H2,ct:=λσ2 H2=>N.ct (σ2.set i none) H2} (σ'.set i (some (.ref a))) (upd H' a (tq a C))
theorem rd_try {base:Heap} {D:Addr} {len i:Nat} {m:XK->TS} {g:TS} {N:Ends} {σ:St} {H:Hp} (h:m (kExc base D len i g N) N σ H):tTry base D len i m g N σ H:=h
def mkX (N:Ends) (i:Nat):Ends:={nx:=λσ2 H2=>N.nx (σ2.set i none) H2,rt:=N.rt,bk:=λσ2 H2=>N.bk (σ2.set i none) H2,ct:=λσ2 H2=>N.ct (σ2.set i none) H2}
theorem IH {base:Heap} {D C:Addr} {len i:Nat} {g:TS} {N:Ends} {H':Hp} (u:ag base C D) (k:∀(σ':St) (a:Addr),σ'.length=len->H' a=none->g (mkX N i) (σ'.set i (some (.ref a))) (upd H' a (tq a C))):kExc base D len i g N (.ref C) none H':=⟨C,rfl,u,k⟩
theorem rd_nxX {N:Ends} {i:Nat} {σ:St} {H:Hp} (h:N.nx (σ.set i none) H):Ends.nx (mkX N i) σ H:=h
theorem Yg {C:Addr} {E:XK} {t:TA} {N:Ends} {σ:St} {H:Hp} (h:t σ H λvs H1=>vs.length<=sizeLine/\E (.ref C) none H1):Gk C E t N σ H:=h
end L2
namespace L2
open PySem PySem.W PySem.Spec PySem.Calls PyProof.Rows
theorem aT {X:Cx} {E:XK} (hex:X.ex=[]) (U:X.stack=X.env::X.outer) (hf:X.env.frame=some X.env.locals)
 (PU:∀e s',wpAny (model X.prog X.w) X.A (leaving X.env e) (λ_ P=>CX1 X.prog X.w X.outer X.H₀ X.s₀ E e P) (λe' P=>CX1 X.prog X.w X.outer X.H₀ X.s₀ E e' P) s'->X.xe e s'):Wr (CX1 X.prog X.w) X E:=by
 intro pins σ H s e s' I cx;obtain ⟨a,C,a0,H',bs,rfl,os,bare,un,hok,O,g,trk,Y⟩:=cx;have fr:X.A.frames=some (X.env::X.outer):=by rw [I.ok.frames,U]
 have t:Inv X pins σ H' s':=I.call' (ch:=[]) os un hok bare (λb m=>by cases m);have h:∀b,b∉X.ex:=λb m=>by rw [hex] at m;cases m
 have low:∀b o,X.s₀.heap.get? b=some o->b∉X.fs->b∉frs X.stack:=λb o N m KL=>by
  rcases Qk.mp (I.stkSub b KL) with z|z
  ·exact absurd (Qn N) (Nat.not_lt.mpr (by rw [z];exact I.ok.above))
  ·exact m z
 refine PU _ _ (wpAny_leaves_onW (base:=bs) (cls:= .ref C) (a0:=a0) fr hf (U▸O) λMh L up=>?_);refine ⟨a,C,a0,H',bs,rfl,t.os,t.bare,⟨λb o r G J _=>?_,λb o r G J _=>?_,λb o r G _=>t.base.free b o r G (h b),λb o r _=>?_,t.base.tups,t.base.frzs,t.base.tbls⟩,λb u m=>?_,L,λb o r G=>?_,trk,Y⟩
 ·obtain ⟨D,p⟩:=g b o (I.base.keep b o r G J (h b)) (low b o r J);have y:=O.1 b D p;rw [t.base.keep b o r G J (h b)] at y;cases y;exact L.1 b _ p
 ·obtain ⟨sl,p⟩:=t.base.slot b o r G J (h b)
  obtain ⟨Mr,y⟩:=up b _ p (by
   obtain ⟨_,D,T,KJ⟩:=t.funs.mem J;rw [p] at T;cases T
   exact KJ)
  exact ⟨Mr,y⟩
 ·by_cases m:b∈frs X.stack
  ·obtain ⟨_,Q,MZ,hd2⟩:=t.stack.mem m;obtain ⟨sl,y⟩:=up b _ MZ hd2;exact ⟨_,y⟩
  ·obtain ⟨D,p⟩:=I.base.there b o r (h b);obtain ⟨Q,Z⟩:=g b D p m;exact ⟨_,L.1 b Q Z⟩
 ·refine (t.hok b u m).stay (λc o K N=>?_) (λ_ q=>q) λ_ _ q=>q
  have:∃M,H' c=some M:=by
   rcases K with K|K
   ·exact ⟨u,by rw [K];exact m⟩
   ·exact ⟨_,K⟩
  obtain ⟨M,Ra⟩:=this;obtain ⟨D,p⟩:=trk c M Ra;have y:=O.1 c D p;rw [N] at y;cases y;exact L.1 c _ p
 ·obtain ⟨D,p⟩:=I.base.there b o r (h b);exact g b D p (low b o r G)
end L2
namespace L2
open PySem PySem.W PySem.Spec PySem.Calls PyProof.Rows
section
variable {X:Cx} {e v1 v2:Expr} {es pA:List Expr} {te:TE} {pos p2:Pos}
theorem pe_ccall {CX:CXT} {k:Nat} {f C:Addr} {fd:FuncData} {ps:List Str} {sp:Sp} {E:XK} {c m:Str} {p apos:Pos} {t:TA} {pl:Sem Bool} (G:Gl X c) (hm:X.mg c=some (.ref C))
 (z:specialIn X.K (.ref C) "__getattribute__"=some (some (.builtin "type.__getattribute__"))) (g:readsIn X.K C (.type "type")=true) (hf:findCls X.K (.ref C) (.type "type") m=some (.val (.ref f)))
 (F:FnOk X.prog X.w X.K X.mg X.base CX k f fd ps sp) (hr:Room k X.A) (D:PySem.W.keepIn X.K (.ref f)=true) (J:yX X.K fd ps []) (y:Wr CX X E) (ha:PA X (e::es) t)
 (hd:(c==("__debug__":Str))=false:=by decide) (L:starEach (e::es) X.env=(false,eval e X.env)::starEach es X.env:=by rfl) (M:(backTo pos (starEach es X.env)).any (·.1)=false:=by rfl)
 (ht:eval (.Call (.Attribute (.Name c p) m apos) (e::es) [] pos) X.env=(do
  let ov<-eval (.Name c p) X.env
  standAt apos.atName
  let (f,first)<-holding [ov] (getMethod ov m pl)
  callWith pos f first (backTo pos (starEach (e::es) X.env)) (backToKw pos (keywordEach [] X.env))):=by rfl):
 PE X (.Call (.Attribute (.Name c p) m apos) (e::es) [] pos) (uv sp [] E t):=by
 intro pins s σ H Q I h;refine PySem.W.methodCall_KW (pl:=pl) (Up I G hm ?_ hd) ht;refine method_cls I.kIn z (cls_value I.kIn g hf rfl ?_);have N:=I.tok (s.toks+1);refine jbG (first:=[]) (h₀:=X.base) I.ok.mod.kin D (thn (ha pos pins _ σ H _ N h) λus s2 ⟨vs,O,q,r,u⟩=>⟨q.kIn,?_⟩) L M;exact rX (us:=us) (vs:=vs) F hr J .nil y q r u
def Gn (K:PySem.W.Frag) (m:Str) (f:Addr) (sp:Sp) (E:XK) (g:TE):TE:=λσ H Q=>g σ H λx H1=>∃a C h fs,x= .ref a/\H1 a=some (.ins C h fs)/\Cls K C/\Meth K C m f/\fs.lookup m=none/\sp [x] H1 Q E
theorem pe_methA {CX:CXT} {k:Nat} {f:Addr} {fd:FuncData} {ps:List Str} {sp:Sp} {E:XK} {m:Str} {apos:Pos} {pl:Sem Bool} (he:PE X e te) (F:FnOk X.prog X.w X.K X.mg X.base CX k f fd ps sp) (hr:Room k X.A) (y:yX X.K fd ps []) (r:Wr CX X E)
 (ht:eval (.Call (.Attribute e m apos) [] [] pos) X.env=(do
  let ov<-eval e X.env
  standAt apos.atName
  let (f,first)<-holding [ov] (getMethod ov m pl)
  callWith pos f first (backTo pos (starEach [] X.env)) (backToKw pos (keywordEach [] X.env))):=by rfl):
 PE X (.Call (.Attribute e m apos) [] [] pos) (Gn X.K m f sp E te):=by
 intro pins s σ H Q I h;refine PySem.W.methodCall_KW (pl:=pl) (thn (he pins s σ H _ I h) λu s1 t=>?_) ht;obtain ⟨x,H1,g,p,a,C,D,fs,ex,z,c,k,l,q⟩:=t;subst ex;cases (show u=Value.ref a from p);refine jm g z c k l ?_;exact PySem.W.callWith_K0 (first:=[.ref a]) g.kIn k.kp (rX (us:=[.ref a]) (vs:=[.ref a]) F hr y .nil r g (.cons rfl .nil) q)
end
end L2
namespace L2
open PySem PySem.W PySem.Spec PySem.Calls PyProof.Rows Builtin
section
variable {X:Cx} {e:Expr} {te:TE} {tg:Expr}
end
end L2
namespace S
open PySem PySem.Spec PyProof.Rows L2
def Sz (n:Nat) (x:Int):Prop:=x.natAbs<2 ^ n
theorem Sz.mono {m n:Nat} {x:Int} (h:Sz m x) (l:m<=n):Sz n x:=QJ h (Nat.pow_le_pow_right (by decide) l)
theorem Sz.bits {n:Nat} {x:Int} (h:Sz n x):Builtin.Int.intBits x<=n:=intBits_le_iff.mpr h
theorem Sz.of {n:Nat} {x:Int} (h:Builtin.Int.intBits x<=n):Sz n x:=intBits_le_iff.mp h
theorem Sz.mulOk {m n:Nat} {x y:Int} (h:Sz m x) (g:Sz n y) (l:m+n<=134217728):IntMulOk x y:=IntMulOk.of_le h.bits g.bits l
theorem Sz.mul {m n:Nat} {x y:Int} (h:Sz m x) (g:Sz n y):Sz (m+n) (x*y):=Sz.of (intBits_mul_le h.bits g.bits)
theorem Sz.add {n:Nat} {x y:Int} (h:Sz n x) (g:Sz n y):Sz (n+1) (x+y):=Sz.of (QT (intBits_add_le h.bits g.bits) (by omega))
theorem Sz.sub {n:Nat} {x y:Int} (h:Sz n x) (g:Sz n y):Sz (n+1) (x - y):=Sz.of (QT (intBits_sub_le h.bits g.bits) (by omega))
theorem Sz.le {n:Nat} {x y:Int} (h:Sz n x) (l:y.natAbs<=x.natAbs):Sz n y:=Nat.lt_of_le_of_lt l h
theorem Sz.log {n:Nat} {x:Int} (h:Sz n x) (l:n<=8999):x.natAbs.log2<9000:=by
 by_cases h0:x.natAbs=0
 ·rw [h0];decide+kernel
 ·have:=(Nat.log2_lt h0).mpr (Sz.mono h l);omega
section
variable {X:Cx}
theorem op_mulB:OpR X (binaryOp .Mult) (rI IntMulOk λi j=> .int (i*j)):=opI λ_ _ _ _ _ _ _ g q=>mul_int q g
def CDv (_ j:Int):Prop:=j≠0/\Sz 8999 j
theorem op_fdivB:OpR X (binaryOp .FloorDiv) (rI CDv λi j=> .int (i.fdiv j)):=opI λi j _ _ _ _ _ g q=>
 floordiv_int g.1 q (.inl (PyProof.noPylong_of_log2 (g.2.log (Qq _))))
end
mutual
def Is (H:Hp):PyData->V->Prop
 | .none,v=>v= .non
 | .bool b,v=>v= .bl b
 | .int i,v=>v= .int i
 | .str x,v=>v= .str x
 | .list xs,v=>∃p vs,v= .ref p/\H p=some (.lst vs)/\zu H xs vs
 | .tuple xs,v=>∃p vs,v= .ref p/\H p=some (.tup vs)/\zu H xs vs
 | .dict g,v=>Dc H g v
def zu (H:Hp):List PyData->List V->Prop
 |[],vs=>vs=[]
 |x::xs,vs=>∃v r,vs=v::r/\Is H x v/\zu H xs r
def Dc (H:Hp):List (PyData×PyData)->V->Prop
 |[(c,x)],v=>∃(p C g:Addr) (w:V),c= .int ((C:Nat):Int)/\v= .ref p/\H p=some (.ins C g [("form",w)])/\Is H x w
 |_,_=>False
end
mutual
theorem Is.mono {H H':Hp} (e:zH H H'):∀(d:PyData) (v:V),Is H d v->Is H' d v
 | .none,v,h=>by simpa only [Is] using h
 | .bool b,v,h=>by simpa only [Is] using h
 | .int i,v,h=>by simpa only [Is] using h
 | .str x,v,h=>by simpa only [Is] using h
 | .list xs,v,h=>by
   rw [Is] at h⊢;obtain ⟨p,vs,r,q,m⟩:=h;exact ⟨p,vs,r,e _ _ q,zu.mono e xs vs m⟩
 | .tuple xs,v,h=>by
   rw [Is] at h⊢;obtain ⟨p,vs,r,q,m⟩:=h;exact ⟨p,vs,r,e _ _ q,zu.mono e xs vs m⟩
 | .dict g,v,h=>by
   rw [Is] at h⊢;exact Dc.mono e g v h
theorem Dc.mono {H H':Hp} (e:zH H H'):∀(d:List (PyData×PyData)) (v:V),Dc H d v->Dc H' d v
 |[],v,h=>by rw [Dc] at h;exact h.elim;simp
 |[(c,x)],v,h=>by
  rw [Dc] at h⊢;obtain ⟨p,C,s,w,r,q,m,g⟩:=h;exact ⟨p,C,s,w,r,q,e _ _ m,Is.mono e x w g⟩
 |_::_::_,v,h=>by rw [Dc] at h;exact h.elim;simp
theorem zu.mono {H H':Hp} (e:zH H H'):∀(d:List PyData) (v:List V),zu H d v->zu H' d v
 |[],v,h=>by rw [zu] at h⊢;exact h
 |x::xs,v,h=>by
  rw [zu] at h⊢;obtain ⟨v,r,p,m,g⟩:=h;exact ⟨v,r,p,Is.mono e x v m,zu.mono e xs r g⟩
end
theorem zH.new {H:Hp} {p:Addr} (h:H p=none) (o:HO):zH H (upd H p o):=λb u q=>by rw [yb (yh q h)];exact q
section
variable {X:Cx} {pins:List (Addr×Obj)} {σ:L2.St} {H:Hp} {s:Shared}
mutual
theorem Is.reads (I:Inv X pins σ H s):∀(d:PyData) (v:V) (u:Value),d.canLay0=true->Is H d v->ZE v u->∃as,Reads s.heap u d as
 | .none,v,u,lay,h,r=>by rw [Is] at h;subst h;cases (show u=Value.none from r);exact ⟨_, .none⟩
 | .bool b,v,u,lay,h,r=>by rw [Is] at h;subst h;cases (show u=Value.bool b from r);exact ⟨_, .bool b⟩
 | .int i,v,u,lay,h,r=>by rw [Is] at h;subst h;obtain ⟨t,rfl⟩:=(show ∃t,u=Value.int i t from r);exact ⟨_, .int i t⟩
 | .str x,v,u,lay,h,r=>by rw [Is] at h;subst h;obtain ⟨t,rfl⟩:=(show ∃t,u=Value.str x t from r);exact ⟨_, .str x t⟩
 | .list xs,v,u,lay,h,r=>by
   rw [Is] at h;obtain ⟨p,vs,z,y,m⟩:=h;subst z;cases (show u=Value.ref p from r);obtain ⟨_,its,n,g,hp⟩:=(show ZF X.prog X.w H s.heap p (.lst vs) from I.hok p _ y);obtain ⟨as,q⟩:=zu.reads I xs vs its (by rw [PyData.canLay0] at lay;exact lay) m g;exact ⟨_, .list hp rfl rfl (by simpa using q)⟩
 | .tuple xs,v,u,lay,h,r=>by
   rw [Is] at h;obtain ⟨p,vs,z,y,m⟩:=h;subst z;cases (show u=Value.ref p from r);obtain ⟨_,its,g,hp⟩:=(show ZF X.prog X.w H s.heap p (.tup vs) from I.hok p _ y);obtain ⟨o,D,C,n,A⟩:=hp;obtain ⟨as,q⟩:=zu.reads I xs vs its (by rw [PyData.canLay0] at lay;exact lay) m g;exact ⟨_, .tuple D C A (by simpa using q)⟩
 | .dict _,v,u,lay,h,r=>by rw [PyData.canLay0] at lay;cases lay
theorem zu.reads (I:Inv X pins σ H s):∀(d:List PyData) (v:List V) (u:List Value),PyData.canLayAll0 d=true->zu H d v->xE v u->∃as,ReadsAll s.heap u d as
 |[],v,u,lay,h,r=>by rw [zu] at h;subst h;cases xE.zero r;exact ⟨_, .nil⟩
 |x::xs,v,u,lay,h,r=>by
  rw [PyData.canLayAll0,TR] at lay;rw [zu] at h;obtain ⟨v,w,z,y,t⟩:=h;subst z
  cases r with
  |cons m g=>
   obtain ⟨as,q⟩:=Is.reads I x v _ lay.1 y m;obtain ⟨bs,p⟩:=zu.reads I xs w _ lay.2 t g;exact ⟨_, .cons q p⟩
end
end
def rEqD:R2:=λx y H Q=>∃d e,Is H d x/\Is H e y/\SeqAt.shaped d=true/\SeqAt.shaped e=true/\Q (.bl (PyData.eqv d e)) H
def rNeD:R2:=λx y H Q=>∃d e,Is H d x/\Is H e y/\SeqAt.shaped d=true/\SeqAt.shaped e=true/\Q (.bl (!PyData.eqv d e)) H
section
variable {X:Cx}
theorem op_eqD (t:X.A.units+64<cLine):OpR X (compareOp .Eq) rEqD:=by
 intro pins s σ H x y v u Q I rx ry h;obtain ⟨d,e,z,w,m,g,q⟩:=h;obtain ⟨as,r⟩:=Is.reads I d x v (jbk m) z rx;obtain ⟨bs,p⟩:=Is.reads I e y u (jbk g) w ry;exact eq_dataH r p m g t ⟨.bl _,H,I,rfl,q⟩
theorem op_neD (t:X.A.units+64<cLine):OpR X (compareOp .NotEq) rNeD:=by
 intro pins s σ H x y v u Q I rx ry h;obtain ⟨d,e,z,w,m,g,q⟩:=h;obtain ⟨as,r⟩:=Is.reads I d x v (jbk m) z rx;obtain ⟨bs,p⟩:=Is.reads I e y u (jbk g) w ry;exact ne_dataH r p m g t ⟨.bl _,H,I,rfl,q⟩
end
def rIsi (K:PySem.W.Frag):List V->Hp->VK->Prop:=λxs H Q=>∃(x:V) (T:String) (t:Value) (b:Bool),xs=[x, .ty T]/\TyOf K H x t/\PySem.W.kitOne K t (.type T)=some b/\Q (.bl b) H
section
variable {X:Cx}
theorem call_isi:Vf X (.builtin "isinstance") (rIsi X.K):=by
 intro pins s σ H xs us Q I r h;obtain ⟨x,T,t,b,rfl,ty,e,q⟩:=h;obtain ⟨u,g,rfl,p,m⟩:=wD r;cases (show g=Value.type T from m);exact BS I p ty e λtk=>⟨.bl b,H,I.tok tk,rfl,q⟩
end
structure Cal (P:Program) (w:World) (K:PySem.W.Frag) (mg:Str->Option Value) (base:Heap) (CX:CXT) (k:Nat) (x:Str) (ps:List Str) (sp:Sp):Prop where
 ex:∃(f:Addr) (fd:FuncData),FnOk P w K mg base CX k f fd ps sp/\mg x=some (.ref f)/\PySem.W.keepIn K (.ref f)=true/\yX K fd ps []
section
variable {X:Cx} {CX:CXT} {k j:Nat} {ps:List Str} {sp:Sp} {E:XK} {x:Str} {p pos:Pos} {e:Expr} {es:List Expr} {t:TA}
theorem VM (C:Cal X.prog X.w X.K X.mg X.base CX k x ps sp) (hr:Room j X.A) (m:k<=j) (h:Wr CX X E) (q:Gl X x)
 (ha:PA X (e::es) t) (s:(x==("__debug__":Str))=false:=by decide) (he:starEach (e::es) X.env=(false,eval e X.env)::starEach es X.env:=by rfl) (u:(backTo pos (starEach es X.env)).any (·.1)=false:=by rfl):
 PE X (.Call (.Name x p) (e::es) [] pos) (uv sp [] E t):=by
 obtain ⟨f,fd,F,hm,g,r⟩:=C.ex;exact Ie F (hr.mono m) q hm g r .nil h ha s he u
end
theorem Yf {A:Around} {k:Nat} (hr:Room k A):A.units+64<cLine:=hr.units
def frD (q:Rat):PyData:= .tuple [.int q.num, .int (q.den:Int)]
def SzQ (n:Nat) (q:Rat):Prop:=Sz n q.num/\Sz n (q.den:Int)
theorem SzQ.mono {m n:Nat} {q:Rat} (h:SzQ m q) (l:m<=n):SzQ n q:=⟨h.1.mono l,h.2.mono l⟩
theorem den_pos (q:Rat):(0:Int)<(q.den:Int):=Int.natCast_pos.mpr q.den_pos
theorem SzQ.divInt {n:Nat} {a b:Int} (ha:Sz n a) (g:Sz n b) (h0:b≠0):SzQ n (Rat.divInt a b):=by
 constructor
 ·refine ha.le ?_;rw [Rat.num_divInt,Int.natAbs_ediv_of_dvd ?_]
  ·rw [Int.natAbs_mul];have e:b.sign.natAbs=1:=Int.natAbs_sign_of_ne_zero h0;rw [e,Nat.one_mul];exact Nat.div_le_self _ _
  ·exact Int.dvd_trans (Int.gcd_dvd_right b a) (Int.dvd_mul_left _ _)
 ·refine g.le ?_;rw [Rat.den_divInt,QS h0];show b.natAbs / b.gcd a<=b.natAbs;exact Nat.div_le_self _ _
theorem XF:bootBuiltins "len"=some (.builtin "len"):=by decide+kernel
theorem bt_abs:bootBuiltins "abs"=some (.builtin "abs"):=by decide+kernel
theorem Cz:bootBuiltins "min"=some (.builtin "min"):=by decide+kernel
theorem xu:bootBuiltins "isinstance"=some (.builtin "isinstance"):=by decide+kernel
theorem bt_int:bootBuiltins "int"=some (.type "int"):=by decide+kernel
theorem bt_bool:bootBuiltins "bool"=some (.type "bool"):=by decide+kernel
theorem bt_tuple:bootBuiltins "tuple"=some (.type "tuple"):=by decide+kernel
theorem bt_list:bootBuiltins "list"=some (.type "list"):=by decide+kernel
theorem oH:bootBuiltins "enumerate"=some (.type "enumerate"):=by decide+kernel
theorem GW:bootBuiltins "zip"=some (.type "zip"):=by decide+kernel
theorem qU:bootBuiltins "reversed"=some (.type "reversed"):=by decide+kernel
theorem bt_sum:bootBuiltins "sum"=some (.builtin "sum"):=by decide+kernel
theorem lO:bootBuiltins "ValueError"=some (.type "ValueError"):=by decide+kernel
structure Bl (mg:Str->Option Value):Prop where
 len:mg "len"=none
 abs:mg "abs"=none
 min:mg "min"=none
 max:mg "max"=none
 isinstance:mg "isinstance"=none
 range:mg "range"=none
 int:mg "int"=none
 bool:mg "bool"=none
 tuple:mg "tuple"=none
 list:mg "list"=none
 enumerate:mg "enumerate"=none
 zip:mg "zip"=none
 reversed:mg "reversed"=none
 ValueError:mg "ValueError"=none
 sum:mg "sum"=none
 str:mg "str"=none
theorem BQ {c A B:Prop} [Decidable c] (m:¬c->A) (h:c->B):if (!decide c)=true then A else B:=by
 by_cases g:c
 ·rw [Tp g];exact h g
 ·rw [Tb g];exact m g
theorem Yc {c A B:Prop} [Decidable c] (m:c->A) (h:¬c->B):if decide c=true then A else B:=by
 by_cases g:c
 ·rw [Tp g];exact m g
 ·rw [Tb g];exact h g
theorem _root_.L2.FnOk.or {P:Program} {w:World} {K:PySem.W.Frag} {mg:Str->Option Value} {base:Heap} {CX:CXT} {k:Nat} {f:Addr} {fd:FuncData} {ps:List Str} {sp p:Sp} (F:FnOk P w K mg base CX k f fd ps sp) (G:FnOk P w K mg base CX k f fd ps p):
 FnOk P w K mg base CX k f fd ps (λvs H Q E=>sp vs H Q E\/p vs H Q E) where
 len:=λvs H Q E h=>h.elim (F.len vs H Q E) (G.len vs H Q E)
 run:=λA outer s H args us vs Q E hr e0 m g h=>h.elim (F.run A outer s H args us vs Q E hr e0 m g) (G.run A outer s H args us vs Q E hr e0 m g)
theorem FV {ms:List Int} {k:Int} (h0:0<=k) (h:k<(ms.length:Int)):atI (ms.map V.int) k=some (.int (ms.getD k.toNat 0)):=by
 have g:k.toNat<ms.length:=by omega
 have m:k=((k.toNat:Nat):Int):=by omega
 have q:atI (ms.map V.int) ((k.toNat:Nat):Int)=some (.int (ms.getD k.toNat 0)):=yJ (by rw [Qi,Qe g,Qo,Qe g];rfl);rwa [<-m] at q
theorem WV {a b:Int} (h:0<b):(a.fdiv (Int.gcd a b:Nat)=(Rat.divInt a b).num)/\b.fdiv (Int.gcd a b:Nat)=((Rat.divInt a b).den:Int):=by
 have g:(0:Int)<=((Int.gcd a b:Nat):Int):=Int.natCast_nonneg _;rw [jbz _ g,jbz _ g,Rat.num_divInt,Rat.den_divInt,QS (by omega),Int.gcd_comm b a,Int.sign_eq_one_of_pos h,Int.one_mul];refine ⟨rfl,?_⟩;have e:b=(b.natAbs:Int):=by omega
 rw [Int.natCast_ediv,<-e]
theorem lr {a b:Int} (g:b<0):(a.fdiv (-((Int.gcd a b:Nat):Int))=(Rat.divInt a b).num)/\b.fdiv (-((Int.gcd a b:Nat):Int))=((Rat.divInt a b).den:Int):=by
 have h:=WV (a:= -a) (b:= -b) (by omega);rw [Rat.neg_divInt_neg,Int.neg_gcd,Int.gcd_neg] at h;rw [<-h.1,<-h.2]
 constructor
 ·rw [<-Int.neg_fdiv_neg,Int.neg_neg]
 ·rw [<-Int.neg_fdiv_neg,Int.neg_neg]
theorem rO {n:Nat} (h:1<=n) {x:Int} (m: -2<x) (g:x<2):Sz n x:=Sz.mono (show Sz 1 x by unfold Sz;omega) h
theorem sV (a b:Int):Int.gcd b (a % b)=Int.gcd a b:=by
 have e:a % b=a - b*(a / b):=by have:=Int.mul_ediv_add_emod a b;omega
 rw [e,Int.gcd_sub_mul_left_right,Int.gcd_comm]
def yU (cells:List (Str×Addr)):List (Str×NameKind)->List (Str×Addr)->List (Str×Addr)
 |[],acc=>acc
 |(n,k)::r,acc=>yU cells r (if k== .free then (n,(cells.lookup n).getD 0)::acc else acc)
theorem We {scope:Scope} {env:Env} (h:∀y∈scope.names,y.2= .free->∃c,env.cells.lookup y.1=some c):closureFor scope env=pure (yU env.cells scope.names []):=by
 have key:∀(names:List (Str×NameKind)) (acc:List (Str×Addr)),(∀y∈names,y.2= .free->∃c,env.cells.lookup y.1=some c)->
  (forIn names acc λx r=>match x with
   |(name,kind)=>if (kind==NameKind.free)=true then do
    let a<-cellOf env name
    pure (ForInStep.yield ((name,a)::r))
    else pure (ForInStep.yield r):Sem (List (Str×Addr)))=pure (yU env.cells names acc):=by
  intro names
  induction names with
  |nil=>intro acc _;rfl
  |cons y r g=>
   intro acc m;obtain ⟨n,k⟩:=y;rw [List.forIn_cons,yU];have hr:=λz hz=>m z (Qf _ hz)
   cases hk:k==NameKind.free with
   |false=>
    simp only [hk,jav,if_false,pure_bind];exact g acc hr
   |true=>
    obtain ⟨c,p⟩:=m (n,k) (Qc ..) (by simpa using hk);have q:cellOf env n=pure c:=by unfold cellOf;rw [p]
    simp only [hk,if_true,q,pure_bind,p,Option.getD_some];exact g _ hr
 simp only [closureFor];rw [key _ _ h];rfl
theorem Wf {cells:List (Str×Addr)} {x:Str} {c:Addr}:∀{names:List (Str×NameKind)} {acc:List (Str×Addr)},(∀y∈names,y.2= .free->∃c,cells.lookup y.1=some c)->(∀c,acc.lookup x=some c->cells.lookup x=some c)->
 (yU cells names acc).lookup x=some c->cells.lookup x=some c
 |[],acc,_,ha,h=>ha c h
 |(n,k)::r,acc,hn,ha,h=>by
  rw [yU] at h;refine Wf (λz hz=>hn z (Qf _ hz)) (λm g=>?_) h
  cases hk:k==NameKind.free with
  |false=>rw [hk] at g;simp only [jav,if_false] at g;exact ha m g
  |true=>
   rw [hk] at g;simp only [if_true] at g;obtain ⟨d,hd⟩:=hn (n,k) (Qc ..) (by simpa using hk);rw [jaL] at g
   cases hx:x==n with
   |true=>
    rw [hx] at g;have e:x=n:=by simpa using hx
    subst e;have p:cells.lookup x=some d:=hd;rw [p] at g⊢;exact g
   |false=>rw [hx] at g;exact ha m g
theorem XE {cells:List (Str×Addr)} {x:Str}:∀{names:List (Str×NameKind)} {acc:List (Str×Addr)},((x,NameKind.free)∈names\/(acc.lookup x).isSome=true)->((yU cells names acc).lookup x).isSome=true
 |[],acc,h=>by
  rcases h with h|h
  ·exact absurd h (Qx)
  ·exact h
 |(n,k)::r,acc,h=>by
  rw [yU];refine XE ?_
  have keep:(acc.lookup x).isSome=true->((if (k==NameKind.free)=true then (n,(cells.lookup n).getD 0)::acc else acc).lookup x).isSome=true:=λz=>by
   split
   ·rw [jaL];split<;>simp [z]
   ·exact z
  rcases h with h|h
  ·rcases Qk.mp h with e|e
   ·cases e;refine .inr ?_
    simp
   ·exact .inl e
  ·exact .inr (keep h)
def xx (X:Cx) (N:List Str) (scope:Scope) (C:Addr) (ex:List Addr) (s:Shared) (H:Hp):Cx where
 prog:=X.prog
 w:=X.w
 K:=X.K
 mg:=X.mg
 base:=X.base
 A:=X.A
 N:=N
 s₀:=s
 H₀:=H
 env:=compEnvC scope (yU X.env.cells scope.names []) C X.env
 outer:=X.stack
 stack:=X.stack
 ex:=ex
 fn:=λ_=>false
 calm:=X.calm
 pn:=[]
 xe:=λ_ _=>False
def frσ (σ:L2.St) (fr:List Nat):L2.St:=fr.map λj=>(σ[j]?).getD none
structure CompOk (X:Cx) (N:List Str) (n:Nat) (fr:List Nat) (scope:Scope):Prop where
 kind:scope.kind= .function
 nd:N.Nodup
 names:(N.drop n)=fr.map (λj=>(X.N[j]?).getD ("":Str))
 own:n<=N.length
 inx:(fr.all λj=>decide (j<X.N.length))=true
 free:((N.drop n).all λx=>decide (scope.names.lookup x=some .free))=true
 nocell:(scope.names.all λy=>decide (y.2≠ .cell))=true
 loc:(scope.names.all λy=>decide (y.2= .local->scope.names.lookup y.1=some .local))=true
 seen:(scope.names.all λy=>decide (y.2= .free->(X.env.kindOf y.1=some .cell\/X.env.kindOf y.1=some .free)))=true
theorem UE {scope:Scope} {env:Env} {x:Str} {k:NameKind} (h:(relabel scope env).names.lookup x=some k) (m:k= .cell\/k= .free) (q:(scope.names.all λy=>decide (y.2≠ .cell))=true):(x,NameKind.free)∈scope.names:=by
 unfold relabel at h;dsimp only at h
 have key:∀names:List (Str×NameKind),(names.all λy=>decide (y.2≠ .cell))=true->
  (names.map λ(n,k)=>if (k==NameKind.free && env.scope.kind== .function && env.kindOf n==some .cell)=true then (n,NameKind.cell) else (n,k)).lookup x=some k->(x,NameKind.free)∈names:=by
  intro names
  induction names with
  |nil=>intro _ h;simp at h
  |cons y r g=>
   intro ha h;obtain ⟨n,j⟩:=y;rw [List.all_cons,TR] at ha;rw [Qp] at h;have s:∀(b:Bool) (k1:NameKind),((if b=true then (n,NameKind.cell) else (n,k1)):Str×NameKind)=(n,if b=true then NameKind.cell else k1):=by intro b k1;cases b<;>rfl
   dsimp only at h;rw [s,jaL] at h
   cases hx:x==n with
   |false=>rw [hx] at h;exact Qf _ (g ha.2 h)
   |true=>
    rw [hx] at h;have e:x=n:=by simpa using hx
    subst e;have h':=QK h;have p:j≠ .cell:=by simpa using ha.1
    have:j= .free:=by
     cases hb:(j==NameKind.free && env.scope.kind== .function && env.kindOf x==some .cell) with
     |true=>
      rw [TR,TR] at hb
      simpa using hb.1.1
     |false=>
      rw [hb] at h';simp only [jav,if_false] at h';subst h'
      rcases m with z|z
      ·exact absurd z p
      ·exact z
    subst this;exact Qc ..
 exact key _ q h
theorem cc {scope:Scope} {env:Env} {x:Str} (h:scope.names.lookup x=some .free):(relabel scope env).names.lookup x=some .cell\/(relabel scope env).names.lookup x=some .free:=by
 unfold relabel;dsimp only
 have key:∀names:List (Str×NameKind),names.lookup x=some .free->
  (names.map λ(n,k)=>if (k==NameKind.free && env.scope.kind== .function && env.kindOf n==some .cell)=true then (n,NameKind.cell) else (n,k)).lookup x=some .cell\/(names.map λ(n,k)=>if (k==NameKind.free && env.scope.kind== .function && env.kindOf n==some .cell)=true then (n,NameKind.cell) else (n,k)).lookup x=some .free:=by
  intro names
  induction names with
  |nil=>intro h;simp at h
  |cons y r g=>
   intro h;obtain ⟨n,j⟩:=y;have m:∀(b:Bool) (k1:NameKind),((if b=true then (n,NameKind.cell) else (n,k1)):Str×NameKind)=(n,if b=true then NameKind.cell else k1):=by intro b k1;cases b<;>rfl
   rw [Qp];dsimp only;rw [m,jaL];rw [jaL] at h
   cases hx:x==n with
   |false=>rw [hx] at h;exact g h
   |true=>
    rw [hx] at h;cases QK h;dsimp only
    split
    ·exact .inl rfl
    ·exact .inr rfl
 exact key _ h
section
variable {X:Cx} {N:List Str} {n:Nat} {fr:List Nat} {scope:Scope} {pins:List (Addr×Obj)} {σ:L2.St} {H:Hp} {s:Shared}
theorem CompOk.cells (O:CompOk X N n fr scope) (I:Inv X pins σ H s):∀y∈scope.names,y.2= .free->∃c,X.env.cells.lookup y.1=some c:=λy g hf=>I.ok.has y.1 (QD (Tn.mp O.seen y g) hf)
theorem vM {D:List Addr} {h':Heap} {tk:Nat} {m:Str->Option Value} (O:CompOk X N n fr scope) (I:Inv X pins σ H s) (hf:∀b∈D,rE X pins H b) (Z:∀b∈D,b<s.heap.objs.size)
 (LP:h'.Ns s.heap.objs.size m) (keep:∀b o,s.heap.get? b=some o->h'.get? b=some o):
 Inv (xx X N scope s.heap.objs.size D s H) [] (List.replicate n none++frσ σ fr) H {s with heap:=h',toks:=tk}:=by
 have KW:=O.cells I;have lk:∀x c,(yU X.env.cells scope.names []).lookup x=some c->X.env.cells.lookup x=some c:=λx c h=>Wf KW (λc h=>by simp at h) h;have cne:∀x c,(yU X.env.cells scope.names []).lookup x=some c->∃v,s.heap.IsCell c v:=λx c h=>I.cell x c (lk x c h)
 have T:∀x c,(yU X.env.cells scope.names []).lookup x=some c->c<s.heap.objs.size:=λx c h=>by
  obtain ⟨v,o,w,_⟩:=cne x c h;exact Qn w
 refine ⟨⟨I.mod,O.kind,I.ok.glob,I.ok.blt,Qq _,λx y c A g=>I.ok.inj x y c (lk x c A) (lk y c g),λx r=>?_,λx c h=>(by cases h),I.ok.hd,I.ok.frames, .inl rfl,λb t=>⟨QE (Z b t),λx c h=>(hf b t).2.2.2.2.1 x c (lk x c h)⟩,I.bs,QT I.ok.bsz I.sz,λb o e t=>?_,λb t z=>?_,I.stack,I.stkFree⟩,
  rfl,I.bare,Un.kept keep,⟨m,LP,λi x v A g h3=>?_⟩,λx c h=>?_,I.hok.fresh (Qq _),λx c h=>I.freeC x c (lk x c h),λp hp=>absurd hp (by simp [xx]),I.hok.kept keep,?_⟩
 ·have Ky:(x,NameKind.free)∈scope.names:=by
   rcases r with r|r
   ·exact UE r (.inl rfl) O.nocell
   ·exact UE r (.inr rfl) O.nocell
  exact jaI.mp (XE (.inl Ky))
 ·rcases (hf b t).2.2.2.1 with z|z
  ·exact I.ok.noex b o e z
  ·exact absurd (QJ (Qn (I.ok.bs b o e).1) z) (jaf _)
 ·rcases Qk.mp (I.stkSub b z) with q|q
  ·exact (hf b t).2.1 q
  ·exact (hf b t).2.2.1 q
 ·by_cases C:i<n
  ·rw [jas (by simpa using C),QL,QH C] at g;cases g
  ·have E:(N.drop n)[i - n]? =some x:=by rw [jaw,show n+(i - n)=i by omega];exact A
   rw [Tq (by simpa using C),QA] at g;unfold frσ at g;rw [Qi] at g;rw [O.names,Qi] at E
   cases ej:fr[i - n]? with
   |none=>rw [ej] at g;cases g
   |some j=>
    rw [ej] at g E;have U:j<X.N.length:=QD (Tn.mp O.inx j (Qb ej))
    have r:X.N[j]? =some x:=by
     have e:=QK E;dsimp only at e;rw [Qe U] at e⊢;exact congrArg some e
    have P:σ[j]? =some (some v):=by
     have e:=QK g;dsimp only at e
     cases es:σ[j]? with
     |none=>rw [es] at e;cases e
     |some o=>rw [es] at e;rw [show o=some v from e]
    have L:scope.names.lookup x=some .free:=by
     refine QD (Tn.mp O.free x ?_);exact Qb (i:=i - n) (by rw [jaw,show n+(i - n)=i by omega];exact A)
    have K:(x,NameKind.free)∈scope.names:=jaC L;have J:=QD (Tn.mp O.seen _ K) rfl;obtain ⟨mX,Q,Y⟩:=I.loc;obtain ⟨u,ru,M⟩:=Y j x v r P (J.elim (λz=> .inr (.inl z)) λz=> .inr (.inr z));refine ⟨u,ru, .inr ⟨?_,?_⟩⟩
    ·exact cc L
    ·obtain ⟨c,G⟩:=jaI.mp (XE (cells:=X.env.cells) (acc:=[]) (.inl K));refine ⟨c,G,?_⟩
     rcases M with ⟨k,_⟩|⟨_,c',Kx,z⟩
     ·rcases J with q|q
      ·rw [show X.env.kindOf x=_ from k] at q;cases q
      ·rw [show X.env.kindOf x=_ from k] at q;cases q
     ·have:=lk x c G;rw [Kx] at this;cases this;obtain ⟨o,w,hd⟩:=z;exact ⟨o,keep _ _ w,hd⟩
 ·obtain ⟨v,o,w,hd⟩:=cne x c h;exact ⟨v,o,keep _ _ w,hd⟩
 ·rw [Qr,QA];unfold frσ;have e:=congrArg List.length O.names;rw [QZ,Qa] at e;have:=O.own;show _=N.length;rw [Qa];omega
end
def PIf (Y:Cx) (ifs:List Expr) (tt:TT):Prop:=
 ∀(pins:List (Addr×Obj)) (s:Shared) (σ:L2.St) (H:Hp) (Q:Bool->Hp->Prop),Inv Y pins σ H s->tt σ H Q->
  wpAny (model Y.prog Y.w) Y.A (forIn ifs true λc r=>if r=true then do let ok<-isTrue c Y.env (eval c Y.env);pure (ForInStep.yield ok) else pure (ForInStep.yield r)) (TP Y pins σ Q) Y.xe s
def tTrue:TT:=λ_ H Q=>Q true H
theorem kK {Y:Cx}:PIf Y [] tTrue:=λpins s σ H Q I h=>wpAny_tests_nil ⟨H,I,h⟩
theorem HX {Y:Cx} {c:Expr} {tt:TT} (h:PT Y c tt):PIf Y [c] tt:=λpins s σ H Q I q=>wpAny_tests_one (h pins s σ H Q I q)
abbrev Blk (α:Type):=Addr->List Addr->Shared->Hp->α
def uu (n:Nat) (fr:List Nat) (u:TI) (g:Blk TG) (tt:Blk TT) (w:Blk TE):TE:=λσ H Q=>u σ H λJ H1=>∀D,H1 D=none->∀C ex s0 q,
 ∃W:Nat->Nat->List V->Hp->Prop,(∃m,W 0 m [] (upd H1 D (.lst [])))/\∀i m ys h,W i m ys h->h D=some (.lst ys)/\
  ((J.stop i h/\Q (.ref D) h)\/(J.go i h/\∀x t,J.yld i h x t->g C ex s0 q x (List.replicate n none++frσ σ fr) t λσ4 H4=>σ4.drop n=frσ σ fr/\tt C ex s0 q σ4 H4 λb s=>
    if b=true then w C ex s0 q σ4 s λy r=>r D=some (.lst ys)/\ys.length<sizeLine/\∃p,p<m/\W (i+1) p (ys++[y]) (upd r D (.lst (ys++[y])))
    else ∃p,p<m/\W (i+1) p ys s))
structure Side (X:Cx) (pins:List (Addr×Obj)) (H:Hp) (C:Addr):Prop where
 nt:H C=none
 nl:C≠X.env.locals
 ab:X.s₀.heap.objs.size<=C
 nc:∀x c,X.env.cells.lookup x=some c->c≠C
 np:∀p∈X.pn++pins,p.1≠C
section
variable {X:Cx} {N:List Str} {n:Nat} {fr:List Nat} {scope:Scope}
theorem yR {α:Type} {M:Model} {A:Around} {m:Sem α} {Q:α->Shared->Prop} {E:Value->Shared->Prop} {s:Shared} (h:wpAny M A m Q (λ_ _=>False) s):wpAny M A m Q E s:=wpAny_mono h (λ_ _ q=>q) λ_ _ z=>z.elim
theorem tE {tg iter elt:Expr} {ifs:List Expr} {pos:Pos} {g:Blk TG} {tt:Blk TT} {te:Blk TE} {pins:List (Addr×Obj)} {σ:L2.St} {z:Hp} {s2:Shared} {it:Addr} {I:List Addr} {tn:Nat->Heap->Prop} {J:It} {Q:VK}
 {RR:Value->Addr->Result->Shared->Prop} {E:Value->Shared->Prop}
 (hc:X.calm=true) (O:CompOk X N n fr scope)
 (hg:∀C ex s H,PG (xx X N scope C ex s H) tg (g C ex s H)) (ht:∀C ex s H,PIf (xx X N scope C ex s H) ifs (tt C ex s H)) (he:∀C ex s H,PE (xx X N scope C ex s H) elt (te C ex s H))
 (I2:Inv X pins σ z s2) (T:Turn X.prog X.w X.K tg J I it tn) (KR:tn 0 s2.heap) (f2:∀b∈I,rE X pins z b)
 (hW:∀D,z D=none->∀C ex s0 H0,∃W:Nat->Nat->List V->Hp->Prop,(∃m,W 0 m [] (upd z D (.lst [])))/\∀i m ys z,W i m ys z->z D=some (.lst ys)/\
  ((J.stop i z/\Q (.ref D) z)\/(J.go i z/\∀x H3,J.yld i z x H3->g C ex s0 H0 x (List.replicate n none++frσ σ fr) H3 λσ4 H4=>σ4.drop n=frσ σ fr/\tt C ex s0 H0 σ4 H4 λb U=>
    if b=true then te C ex s0 H0 σ4 U λy H6=>H6 D=some (.lst ys)/\ys.length<sizeLine/\∃M,M<m/\W (i+1) M (ys++[y]) (upd H6 D (.lst (ys++[y])))
    else ∃M,M<m/\W (i+1) M ys U)))
 (hR:∀(D C:Addr) (H':Hp) (s':Shared),Q (.ref D) H'->(∃m,s'.heap.Ns C m)->Side X pins H' C->Inv X pins σ H' s'->RR (.ref D) C (.ok .next) s'):
 wpAny (model X.prog X.w) X.A (newList []) (λacc s₃=>wpAny (model X.prog X.w) X.A (newFunctionEnv scope X.env.globals (yU X.env.cells scope.names []) [] X.env.qual none .none (some X.env)) (λcenv s₄=>
  codeAny (model X.prog X.w) X.A (.compStart (.ListComp elt [⟨tg,iter,ifs,0⟩] scope pos) 0 (.ref it) acc {cenv with scope:=relabel scope X.env}) (RR acc cenv.locals) s₄) E s₃) E s2:=by
 have nocell:∀y∈scope.names,y.2≠ .cell:=λy hy=>QD (Tn.mp O.nocell y hy);refine TU (wpAny_newFunctionEnv nocell (by intro y hy;simp at hy) (λh₁ LP₁ OT₁=>?_) O.kind);have RW:z s2.heap.objs.size=none:=I2.fresh;have I3:Inv X pins σ (upd z s2.heap.objs.size (.lst [])) {s2 with heap:=s2.heap.push {cls:= .type "list",data:= .seq ([]:List Value).toArray},toks:=s2.toks}:=I2.lnew (its:=[]) .nil (jai _);generalize hD:s2.heap.objs.size=D at*;dsimp only at LP₁ OT₁⊢;generalize NY:s2.heap.push {cls:= .type "list",dict:=none,data:= .seq ([]:List Value).toArray}=t at*;have PM:∀b o,s2.heap.get? b=some o->t.get? b=some o:=λb o e=>by rw [<-NY];exact Qh _ e
 have Px:t.objs.size=D+1:=by rw [<-NY,QM,hD]
 have keep:∀b o,t.get? b=some o->h₁.get? b=some o:=λb o e=>OT₁.extBut b o (QE (Qn e)) (Qh _ e)
 have flt:∀b∈I,b<D:=λb q=>by
  obtain ⟨o,ho,_⟩:=T.obj _ _ KR b q;rw [<-hD];exact Qn ho
 have f3:∀b∈I,rE X pins (upd z D (.lst [])) b:=λb q=>⟨by rw [yb (QE (flt b q))];exact (f2 b q).1,(f2 b q).2⟩;have IY:=vM (tk:=s2.toks+([]:List (Str×Value)).length) O I3 f3 (λb q=>by show b<t.objs.size;rw [Px];exact Tt (flt b q)) LP₁ keep;obtain ⟨W,⟨m0,w0⟩,turn⟩:=hW _ RW t.objs.size I {s2 with heap:=t,toks:=s2.toks} (upd z D (.lst []));have NL:tn 0 h₁:=T.keep _ _ _ KR λb q o e=>keep b o (PM b o e);generalize G:xx X N scope t.objs.size I {s2 with heap:=t,toks:=s2.toks} (upd z D (.lst []))=Y at*;have P:Y.env=compEnvC scope (yU X.env.cells scope.names []) t.objs.size X.env:=by rw [<-G];rfl
 have Og:=hg t.objs.size I {s2 with heap:=t,toks:=s2.toks} (upd z D (.lst []));have NX:=ht t.objs.size I {s2 with heap:=t,toks:=s2.toks} (upd z D (.lst []));have Oi:=he t.objs.size I {s2 with heap:=t,toks:=s2.toks} (upd z D (.lst []));rw [G] at Og NX Oi;have eP:Y.prog=X.prog:=by rw [<-G];rfl
 have Z:Y.w=X.w:=by rw [<-G];rfl
 have eK:Y.K=X.K:=by rw [<-G];rfl
 have eA:Y.A=X.A:=by rw [<-G];rfl
 have eC:Y.calm=true:=by rw [<-G];exact hc
 have eX:Y.xe=λ_ _=>False:=by rw [<-G];rfl
 have fY:∀{H':Hp},(∀b∈I,H' b=none)->∀b∈I,rE Y [] H' b:=λ{H'} hn b q=>by
  have h1:=IY.ok.exf b (by rw [<-G];exact q);refine ⟨hn b q,h1.1,IY.ok.exfs b (by rw [<-G];exact q), .inl (by rw [<-G];exact q),h1.2,λp hp=>absurd hp (by rw [<-G];simp [xx])⟩
 have loop:codeAny (model X.prog X.w) X.A (.compLoop (.ListComp elt [⟨tg,iter,ifs,0⟩] scope pos) 0 (.ref it) (.ref D) (compEnvC scope (yU X.env.cells scope.names []) t.objs.size X.env))
  (RR (.ref D) t.objs.size) {s2 with heap:=h₁,toks:=s2.toks+([]:List (Str×Value)).length}:=by
  refine codeAny_loop rfl (λk s'=>∃i ys H',Inv Y [] (List.replicate n none++frσ σ fr) H' s'/\tn i s'.heap/\(∀b∈I,H' b=none)/\W i k ys H') (λk s5 hI=>?_) m0 ⟨0,[],_,IY,NL,λb q=>(f3 b q).1,w0⟩;obtain ⟨i,ys,U,I5,Mq,Nj,w5⟩:=hI;show wpAny _ X.A ((compTurn (.ListComp elt [⟨tg,iter,ifs,0⟩] scope pos) 0 (.ref it) (.ref D) _).onRaise (λx=>do noteFrame x _;theTreesLotGoes x)) _ _ s5;refine wpAny_noted ?_;rw [compTurn_list,<-P];refine Qd (wpAny_standAt (Qd ?_));obtain ⟨Pp,step⟩:=turn i k ys U w5
  rcases step with ⟨stop,qn⟩|⟨go,step⟩
  ·have d:=T.done Y eP Z eK eC i [] s5 _ U (λ_ _=>False) I5 (fY Nj) Mq stop;rw [eA] at d;refine yR (thn d λr s6 L=>?_);obtain ⟨hr,I6⟩:=L;subst hr;refine Ql ?_;have hC:U t.objs.size=none:=by have:=I6.free;rw [P] at this;exact this
   have Na:∃m,s6.heap.Ns t.objs.size m:=by
    have:=I6.loc;rw [P] at this;obtain ⟨m,hm,_⟩:=this;exact ⟨m,hm⟩
   have sd:Side X pins U t.objs.size:=⟨hC,jaz I3.lt,I3.sz,λx c e=>QE (let ⟨v,o,ho,_⟩:=I3.cell x c e;Qn ho),λp hp=>QE (Qn (I3.pin p hp).1)⟩;refine hR D t.objs.size U s6 qn Na sd ?_;have un:=I6.base;have e0:Y.s₀.heap=t:=by rw [<-G];rfl
   have Sh:Y.H₀=upd z D (.lst []):=by rw [<-G];rfl
   have eF:Y.fs=frs X.stack:=by rw [<-G];rfl
   have eEx:Y.ex=I:=by rw [<-G];rfl
   rw [e0,Sh,eF,eEx] at un;have LZ:HOk X.prog X.w U s6.heap:=by have:=I6.hok;rw [eP,Z] at this;exact this
   have PD:s6.os=s2.os:=I6.os.trans (by rw [<-G];rfl);exact I3.call' (s':=s6) (ch:=I) PD un LZ I6.bare λb q=>⟨(f2 b q).2.2.2.1,(f2 b q).2.1,(f2 b q).2.2.2.2.1,(f2 b q).2.2.2.2.2⟩
  ·have d:=T.item Y eP Z eK eC i [] s5 _ U (λ_ _=>False) I5 (fY Nj) Mq go;rw [eA] at d;refine yR (thn d λr s6 L=>?_);obtain ⟨u,hr,h6⟩:=L;subst hr;refine Qd (yR (thn h6 λ_ s7 L=>?_));obtain ⟨x,H7,I7,r7,y7,MO,Sd⟩:=L;have I7':=I7.pinned (fY Sd) (T.obj _ _ MO);have g7:=Og _ s7 _ H7 x u _ I7' r7 (step x H7 y7);rw [eA,eP,Z,eX] at g7;refine Qd (yR (thn g7 λ_ s8 L=>?_));obtain ⟨σ8,H8,I8,ed,q8⟩:=L;have t8:=NX _ s8 σ8 H8 _ I8 q8;rw [eA,eP,Z,eX] at t8;refine Qd (yR (thn t8 λb s9 L=>?_));obtain ⟨H9,I9,q9⟩:=L
   have back:∀{s':Shared} {H':Hp} {MM:List V} {M:Nat},Inv Y ([]++jc I s7.heap) σ8 H' s'->M<k->W (i+1) M MM H'->∃m,m<k/\∃i ys H',Inv Y [] (List.replicate n none++frσ σ fr) H' s'/\tn i s'.heap/\(∀b∈I,H' b=none)/\W i m ys H':=λ{s' H' MM M} I' hm w'=>by
    refine ⟨M,hm,i+1,MM,H',?_,T.keep _ _ _ MO λb q o e=>(I'.pin (b,o) (Qz _ (Qz _ (Ys q e)))).1,λb q=>?_,w'⟩
    ·refine (Inv.unpinned I').weak ?_ λj v hj=>?_
     ·exact IY.len.trans I'.len.symm
     ·by_cases Nc:j<n
      ·rw [jas (by simpa using Nc),QL,QH Nc] at hj;cases hj
      ·rw [Tq (by simpa using Nc),QA,<-ed,jaw,show n+(j - n)=j by omega] at hj;exact hj
    ·obtain ⟨o,e,d⟩:=T.obj _ _ MO b q;exact (I'.pin (b,o) (Qz _ (Qz _ (Ys q e)))).2.1
   cases b with
   |false=>
    obtain ⟨M,hm,w9⟩:=q9;exact Ql ⟨rfl,back I9 hm w9⟩
   |true=>
    have e9:=Oi _ s9 σ8 H9 _ I9 q9;rw [eA,eP,Z,eX] at e9;refine Qd (Qd (yR (thn e9 λv Py L=>?_)));obtain ⟨y,LM,So,Pz,Ni,hz,M,hm,NK⟩:=L;have OD:=Zi _ Py σ8 LM (.ref D) [y] (.ref D) [v] (λ_ H'=>H'=upd LM D (.lst (ys++[y]))) So rfl (.cons Pz .nil) ⟨D,ys,y,rfl,rfl,Ni,hz,rfl⟩;rw [eA,eP,Z,eX] at OD;refine Qd (yR (thn OD λ_ s11 L=>?_));obtain ⟨_,OH,Sn,_,NF⟩:=L;subst NF;exact Ql (Ql ⟨rfl,back Sn hm NK⟩)
 exact codeAny_compStart_list loop (T.self _ _ _ _ _ NL loop)
theorem Ic {r iter elt:Expr} {ifs:List Expr} {pos:Pos} {t:TI} {g:Blk TG} {tt:Blk TT} {u:Blk TE}
 (M:X.calm=true) (O:CompOk X N n fr scope) (K:PI X r iter t)
 (L:∀C ex s H,PG (xx X N scope C ex s H) r (g C ex s H)) (ht:∀C ex s H,PIf (xx X N scope C ex s H) ifs (tt C ex s H)) (he:∀C ex s H,PE (xx X N scope C ex s H) elt (u C ex s H))
 (G:∀x,foldedSetIterable iter X.env x=pure x:=by intro _;rfl):
 PE X (.ListComp elt [⟨r,iter,ifs,0⟩] scope pos) (uu n fr t g tt u):=by
 intro pins s σ H Q I h;rw [eval_ListComp];refine jbD (use:=none) rfl G (We (O.cells I)) O.kind (λy E=>QD (Tn.mp O.loc y E)) (thn (K pins s σ H _ I h) λv s1 Z=>thn Z λz s2 Y=>?_);obtain ⟨it,fp,tn,J,H2,e,I2,T,KR,f2,U⟩:=Y;subst e;refine tE (RR:=λacc C=>compPost (model X.prog X.w) X.A X.xe none (EP X pins σ Q) acc C) M O L ht he I2 T KR f2 U ?_;intro D C H' s' q ⟨m,hm⟩ p inv;exact ⟨m,hm,λh' MC=>⟨.ref D,H',inv.turned (t':=s'.toks) (it:=C) (λb o P e=>MC.extBut b o P e) p.nt p.nl (.inr p.ab) p.nc p.np,rfl,q⟩⟩
theorem uL {i:Nat} {x:Str} {t:Pos} {u iter elt:Expr} {ifs:List Expr} {pos p:Pos} {G:TI} {g:Blk TG} {tt:Blk TT} {K:Blk TE}
 (hN:X.N.Nodup) (Z:X.N[i]? =some x) (L:X.env.scope.names.lookup x=some .local)
 (hc:X.calm=true) (O:CompOk X N n fr scope) (hi:PI X u iter G)
 (hg:∀C ex s H,PG (xx X N scope C ex s H) u (g C ex s H)) (ht:∀C ex s H,PIf (xx X N scope C ex s H) ifs (tt C ex s H)) (he:∀C ex s H,PE (xx X N scope C ex s H) elt (K C ex s H))
 (Rc:swapsWith (.ListComp elt [⟨u,iter,ifs,0⟩] scope pos) (some (.Name x t)) p.line X.env=pure true:=by rfl)
 (hs:∀x,foldedSetIterable iter X.env x=pure x:=by intro _;rfl):
 PS X (.Assign [.Name x t] (.ListComp elt [⟨u,iter,ifs,0⟩] scope pos) p) (Jm (uu n fr G g tt K) (lJ i)):=by
 intro pins s σ H D I h;rw [exec_Assign_Name_used _ _ _ _ Rc];refine Qd (wpAny_standAt (Qd ?_));show wpAny _ X.A (do let _<-comprehension (.ListComp elt [⟨u,iter,ifs,0⟩] scope pos) scope X.env _ (newList []) false (eval iter X.env) (some (assign (.Name x t) X.env))) _ _ s
 refine Qd (wpAny_mono (jbD (use:=some (assign (.Name x t) X.env)) (Q:=λ_ s'=>SP X pins D .next s') rfl hs (We (O.cells I)) O.kind (λy Y=>QD (Tn.mp O.loc y Y))
  (thn (hi pins s σ H _ I h) λv s1 h1=>thn h1 λU s2 h2=>?_)) (λ_ s' hq=>Ql (Ql hq)) λ_ _ e=>e)
 obtain ⟨it,fp,tn,J,H2,e,I2,T,KR,f2,hW⟩:=h2;subst e;refine tE (Q:=λx H1=>lJ i x σ H1 D.nx) (RR:=λacc C=>compPost (model X.prog X.w) X.A X.xe (some (assign (.Name x t) X.env)) (λ_ s'=>SP X pins D .next s') acc C) hc O hg ht he I2 T KR f2 hW ?_;intro M C H' s' q ⟨m,hm⟩ r inv;show wpAny _ X.A (assign (.Name x t) X.env (.ref M)) _ _ _;refine wpAny_assign_Name (mK (i:=i) (v:= .ref M) inv hN Z (.inl L) rfl (λP I6 ⟨a,OT,ha⟩=>?_) (.inr L))
 have E:C≠a:=by
  rcases ha with z|z
  ·rw [z];exact r.nl
  ·exact λe=>r.nc x a z e.symm
 refine ⟨m,hm.sameBut OT E,λh' MC=>?_⟩;refine ⟨_,H',I6.turned (t':=P.toks) (it:=C) (λb o hb e=>MC.extBut b o hb e) r.nt r.nl (.inr r.ab) r.nc r.np,q⟩
end
open PySem.AutoSeq1 (wpAny_loadPart')
def ItB (b:Bool) (h:Heap) (it a:Addr) (i:Nat):Prop:=match b with|true=>h.IsListIter it a i|false=>h.IsTupleIter it a i
def SeB (b:Bool) (h:Heap) (a:Addr) (items:Array Value):Prop:=match b with|true=>h.IsList a items|false=>h.IsTuple a items
def SqB (b:Bool) (K:PySem.W.Frag) (H:Hp) (a:Addr) (xs:List V):Prop:=match b with|true=>SqL K H a xs|false=>SqT K H a xs
theorem ItB.at {b:Bool} {h h':Heap} {it a:Addr} {i:Nat} (x:ItB b h it a i) (k:∀o,h.get? it=some o->h'.get? it=some o):ItB b h' it a i:=by
 cases b with
 |true=>obtain ⟨o,g,r⟩:=x;exact ⟨o,k o g,r⟩
 |false=>obtain ⟨o,g,r⟩:=x;exact ⟨o,k o g,r⟩
theorem ItB.obj {b:Bool} {h:Heap} {it a:Addr} {i:Nat} (x:ItB b h it a i):∃o,h.get? it=some o/\∀v,o.data≠ .cell v:=by
 cases b with
 |true=>obtain ⟨o,g,c,d⟩:=x;exact ⟨o,g,λv z=>by rw [d] at z;cases z⟩
 |false=>obtain ⟨o,g,c,d⟩:=x;exact ⟨o,g,λv z=>by rw [d] at z;cases z⟩
theorem SeB.at {b:Bool} {h h':Heap} {a:Addr} {items:Array Value} (x:SeB b h a items) (k:∀o,h.get? a=some o->h'.get? a=some o):SeB b h' a items:=by
 cases b with
 |true=>obtain ⟨o,g,r⟩:=x;exact ⟨o,k o g,r⟩
 |false=>obtain ⟨o,g,r⟩:=x;exact ⟨o,k o g,r⟩
theorem SeB.obj {b:Bool} {h:Heap} {a:Addr} {items:Array Value} (x:SeB b h a items):∃o,h.get? a=some o:=by
 cases b with
 |true=>obtain ⟨o,g,r⟩:=x;exact ⟨o,g⟩
 |false=>obtain ⟨o,g,r⟩:=x;exact ⟨o,g⟩
section
variable {X:Cx} {pins:List (Addr×Obj)} {σ:L2.St} {H:Hp} {s:Shared} {a:Addr} {xs ys:List V} {b:Bool}
theorem seB (I:Inv X pins σ H s) (h:SqB b X.K H a xs):∃its:List Value,xE xs its/\SeB b s.heap a its.toArray/\xs.length<=sizeLine:=by
 cases b with
 |true=>obtain ⟨its,r,p,z⟩:=I.list h;exact ⟨its,r,p.isList,z⟩
 |false=>obtain ⟨its,r,p,z⟩:=I.tuple h;exact ⟨its,r,p,z⟩
theorem pS (I:Inv X pins σ H s) (h:SqB b X.K H a xs) (h':SqB b X.K H a ys):xs=ys:=by
 cases b with
 |true=>exact I.list_inj h h'
 |false=>exact I.tuple_inj h h'
end
section
variable {prog:Program} {w:World} {A:Around} {E:Value->Shared->Prop} {s:Shared}
theorem aW {it t:Addr} {i:Nat} {items} {x:Value} {Q:Value->Shared->Prop} (hit:s.heap.IsTupleIter it t i)
 (ht:s.heap.IsTuple t items) (h:items[i]? =some x)
 (p:∀h',h'.IsTupleIter it t (i+1)->Heap.SameBut it s.heap h'->Q x {s with heap:=h'}):
 wpAny (model prog w) A (Builtin.SmallTypes.nextOf (.ref it)) Q E s:=by
 obtain ⟨o,g,m,hd⟩:=id hit;obtain ⟨ol,q,_,nl,r⟩:=ht;unfold Builtin.SmallTypes.nextOf
 refine Qd (QR (name:=Str.ofString "__next__") hit.typeIs jaV
  (Te jaV hit.typeIs F.entry_tuple_iterator_next ?_ (F.args_tuple_iterator_next_1 _)))
 show wpAny _ _ (field (.ref it) 0>>=_) _ _ s;refine Qd (TY g hd (x:= .ref t) rfl ?_);show wpAny _ _ (if (Value.ref t==Value.none)=true then _ else _) _ _ s;rw [QS (show ¬((Value.ref t==Value.none)=true) from Qy)];show wpAny _ _ (field (.ref it) 1>>=_) _ _ s;refine Qd (TY g hd (x:= .int i 0) rfl ?_);show wpAny _ _ (seqItems? (.ref t)>>=_) _ _ s;refine Qd (jat q r ?_);simp only [Ts,h];refine Qd (jbb g hd (by simp) (Ql ⟨x,rfl,Ql (p _ ?_ (Td ..))⟩))
 exact ⟨_,Tw _ g (Obj.isFreed_of_fields (jbH hd _)),(Obj.cls_mapFields ..).trans m,by
  rw [jbH hd];simp [rawInt]⟩
theorem cy {it t:Addr} {i:Nat} {items} {Q:Value->Shared->Prop} (h:A.handled=none)
 (hit:s.heap.IsTupleIter it t i) (ht:s.heap.IsTuple t items) (p:items[i]? =none)
 (q:∀h' e,Heap.ExtBut it s.heap h'->(∃o,h'.get? e=some o/\o.cls= .type "StopIteration")->E (.ref e) {s with heap:=h'}):
 wpAny (model prog w) A (Builtin.SmallTypes.nextOf (.ref it)) Q E s:=by
 obtain ⟨o,g,y,hd⟩:=id hit;obtain ⟨ol,r,_,nl,u⟩:=ht;unfold Builtin.SmallTypes.nextOf
 refine Qd (QR (name:=Str.ofString "__next__") hit.typeIs jaV
  (Te jaV hit.typeIs F.entry_tuple_iterator_next ?_ (F.args_tuple_iterator_next_1 _)))
 show wpAny _ _ (field (.ref it) 0>>=_) _ _ s;refine Qd (TY g hd (x:= .ref t) rfl ?_);show wpAny _ _ (if (Value.ref t==Value.none)=true then _ else _) _ _ s;rw [QS (show ¬((Value.ref t==Value.none)=true) from Qy)];show wpAny _ _ (field (.ref it) 1>>=_) _ _ s;refine Qd (TY g hd (x:= .int i 0) rfl ?_);show wpAny _ _ (seqItems? (.ref t)>>=_) _ _ s;refine Qd (jat r u ?_);simp only [Ts,p];refine Qd (jbL (Qd (jbb g hd (by simp) ?_)));show wpAny _ _ (newExc (.type "StopIteration") []>>=_) _ _ _;refine Qd ?_;simp only [newExc,newTuple];refine Qd (TU ?_ (by size_fits));refine Qd (m:=firstArgMember _ _) (wpAny_of_eq (a:=Value.none) (by first|rfl|(simp only [firstArgMember];rfl)) ?_);refine TU ?_ (by size_fits);simp only [raiseNew];refine Qd (wpAny_handled ?_)
 first|rw [show A.in1.handled=none from h]|rw [h]
 refine Qd (Ql (wpAny_throw ?_));exact q _ _ (((Td ..).extBut.push _).push _) ⟨_,Qt _ rfl,rfl⟩
theorem Yr {b:Bool} {it a:Addr} {i:Nat} {items} {x:Value} {Q:Value->Shared->Prop} (hit:ItB b s.heap it a i) (h:SeB b s.heap a items) (g:items[i]? =some x)
 (m:∀h',ItB b h' it a (i+1)->Heap.SameBut it s.heap h'->Q x {s with heap:=h'}):wpAny (model prog w) A (Builtin.SmallTypes.nextOf (.ref it)) Q E s:=by
 cases b with
 |true=>exact wpAny_nextOf_list_item hit h g m
 |false=>exact aW hit h g m
theorem WR {b:Bool} {it a:Addr} {i:Nat} {items} {Q:Value->Shared->Prop} (m:A.handled=none) (hit:ItB b s.heap it a i) (h:SeB b s.heap a items) (g:items[i]? =none)
 (p:∀h' e,Heap.ExtBut it s.heap h'->(∃o,h'.get? e=some o/\o.cls= .type "StopIteration")->E (.ref e) {s with heap:=h'}):
 wpAny (model prog w) A (Builtin.SmallTypes.nextOf (.ref it)) Q E s:=by
 cases b with
 |true=>exact wpAny_nextOf_list_end m hit h g p
 |false=>exact cy m hit h g p
end
theorem drawsB {prog:Program} {w:World} {A:Around} (t:A.handled=none) (b:Bool) (it a:Addr) (C:a≠it) (items:Array Value):
 Draws prog w A it [it,a] items.size (λi x=>items[i]? =some x) (λi h=>ItB b h it a i/\SeB b h a items) where
 live:=λi h g=>by obtain ⟨o,r,_⟩:=g.1.obj;exact ⟨o,r⟩
 frame:=λi h h' g m=>⟨g.1.at λo e=>m _ (by simp) o e,g.2.at λo e=>m _ (by simp) o e⟩
 item:=λi s Q E p g u=>Yr g.1 g.2 (Array.getElem?_eq_getElem p) λh' z q=>u _ h' s.toks (Array.getElem?_eq_getElem p) ⟨z,g.2.at λo e=>(q.2 _ C).trans e⟩ q
 done:=λs Q E g y=>WR t g.1 g.2 (by simp) y
theorem ai {X:Cx} {pins:List (Addr×Obj)} {σ:L2.St} {H:Hp} {s:Shared} {h':Heap} {t':Nat} {ch:List Addr} {a:Addr} {o:HO} (I:Inv X pins σ H s) (hf:∀b∈ch,rE X pins H b)
 (k:∀b o,b∉ch->s.heap.get? b=some o->h'.get? b=some o) (th:∀b∈ch,∃o,h'.get? b=some o) (ha:s.heap.objs.size<=a) (new:ZF X.prog X.w (upd H a o) h' a o):
 Inv X pins σ (upd H a o) {s with heap:=h',toks:=t'}:=by
 have y:H a=none:=I.hok.fresh ha;have same:zH H (upd H a o):=zH.new y o
 refine I.step (g':=s.gens) (d':=s.drawn) (ch:=ch) (λb h=>⟨(hf b h).2.2.2.1,(hf b h).2.1,(hf b h).2.2.2.2.1,(hf b h).2.2.2.2.2⟩) (λb u _ _ g e _=>k b u g e) (λb u _ _ g e _=>⟨u.slots,k b u g e⟩)
  (λb u g e n=>by rw [yb (QE (QJ (Qn e) ha))];exact n) (λb u g e=>⟨u,k b u g e⟩) (λb xs e=>same _ _ e) (λb u v e=>same _ _ e) (λb ps e=>⟨#[],by rw [same _ _ e];simp⟩) (λm hm=>?_) (λb u e=>?_) I.bare
 ·obtain ⟨p,es,ep,t,r⟩:=hm;exact ⟨p,es,ep,k _ p (λz=>(hf _ z).2.1 rfl) t,r⟩
 ·by_cases h:b=a
  ·subst h;rw [yE] at e;cases e;exact new
  ·rw [yb h] at e;refine (I.hok b u e).stay (λc v g q=>k c v ?_ q) (λ_ q=>same _ _ q) λ_ _ q=>same _ _ q;intro z
   rcases g with q|q
   ·rw [q] at z;rw [(hf b z).1] at e;cases e
   ·rw [(hf c z).1] at q;cases q
def ItE (b:Bool) (K:PySem.W.Frag) (a:Addr):It:=
 ⟨λi H=>∃xs x,SqB b K H a xs/\xs[i]? =some x,λi H v H'=>∃p x,(∀xs,SqB b K H a xs->xs[i]? =some x)/\H p=none/\v= .ref p/\H'=upd H p (.tup [.int i,x]),λi H=>∃xs,SqB b K H a xs/\xs.length<=i⟩
theorem dR:(2:Nat)<=sizeLine:=by decide
theorem wH {P:Program} {w:World} {K:PySem.W.Frag} {elts:List Expr} {k:Nat} {pos:Pos} (b:Bool) (a e it:Addr) (Ox:a≠it) (G:e≠it) (Q:e≠a):
 Turn P w K (.Tuple elts k pos) (ItE b K a) [e,it] e (λi h=>(∃old,IsEnum h e it i old)/\ItB b h it a i) where
 mem:=by simp
 obj:=λi h st c g=>by
  rcases Qk.mp g with rfl|g
  ·obtain ⟨old,z⟩:=st.1;exact ⟨_,z,λv q=>by cases q⟩
  ·obtain rfl:c=it:=by simpa using g
   exact st.2.obj
 keep:=λi h h' st Y=>by
  obtain ⟨⟨old,z⟩,y⟩:=st;exact ⟨⟨old,Y e (by simp) _ z⟩,y.at λo q=>Y it (by simp) o q⟩
 item:=by
  intro X t hw hK g i pins s σ H E I hf st hg;subst t hw hK;obtain ⟨⟨old,he⟩,hit⟩:=st;obtain ⟨xs,x,C,M⟩:=hg;obtain ⟨its,L,p,hz⟩:=seB I C;obtain ⟨u,Z,ru⟩:=L.get M;have O:=I.ok.hd g;have hi:i<its.toArray.size:=by have:=(Qg.mp Z).1;simpa using this
  refine wpAny_pyNext_enum_itemD (drawsB (A:=X.A.in1) O b it a Ox its.toArray) he ⟨hit,p⟩ hi G (by simp only [Qk,Qx,or_false,not_or];exact ⟨G,Q⟩) λm h' tk t N Kv D hsz hk=>?_
  have ex:m=u:=by
   have r:its[i]? =some m:=by simpa using t
   rw [Z] at r;exact (QK r).symm
  subst ex;refine ⟨_,rfl,wpAny_letOwnedTupleGo_enum N λMh Oj J=>?_⟩;have Oh:e<s.heap.objs.size:=Qn he;have RC:it<s.heap.objs.size:=by obtain ⟨o,z,_⟩:=hit.obj;exact Qn z
  have Mf:Mh.get? s.heap.objs.size=some {cls:= .type "tuple",data:= .seq #[.int i tk,m]}:=(J.2 _ (jaz Oh)).trans D;refine ⟨.ref s.heap.objs.size,upd H s.heap.objs.size (.tup [.int i,x]),?_,rfl,⟨_,x,λys hy=>by rw [pS I hy C];exact M,I.fresh,rfl,rfl⟩,⟨⟨m,by simpa using Oj⟩,Kv.1.at λo q=>(J.2 _ G.symm).trans q⟩,λc g=>?_⟩
  ·refine ai (s:=s) (t':=tk+1) (ch:=[e,it]) I hf (λc o U q=>(J.2 c (λz=>U (by simp [z]))).trans (hk c o (λz=>U (by simp [z])) (λz=>U (by simp [z])) q)) (λc g=>?_) (Qq _) ⟨dR,[.int i tk,m], .cons ⟨tk,rfl⟩ (.cons ru .nil),⟨_,Mf,rfl,_,rfl⟩⟩
   rcases Qk.mp g with rfl|g
   ·exact ⟨_,Oj⟩
   ·obtain rfl:c=it:=by simpa using g
    obtain ⟨o,z,_⟩:=Kv.1.obj;exact ⟨o,(J.2 _ G.symm).trans z⟩
  ·have Ku:c<s.heap.objs.size:=by
    rcases Qk.mp g with rfl|g
    ·exact Oh
    ·obtain rfl:c=it:=by simpa using g
     exact RC
   rw [yb (QE Ku)];exact (hf c g).1
 done:=by
  intro X t hw hK g i pins s σ H E I hf st hg;subst t hw hK;obtain ⟨⟨old,he⟩,hit⟩:=st;obtain ⟨xs,C,M⟩:=hg;obtain ⟨its,L,p,hz⟩:=seB I C;have O:=I.ok.hd g;have hl:=L.length;obtain ⟨f0,f1,f2,f3,f4,f5⟩:=hf it (by simp);have D:s.TypeIs (.ref e) "enumerate":=⟨_,he,rfl⟩;unfold pyNext;refine Qd (jaE (QR (name:=Str.ofString "__next__") D F.slot_enumerate_next (Te F.slot_enumerate_next D F.entry_enumerate_next ?_ (F.args_enumerate_next_1 _))));show wpAny _ _ (field (.ref e) 2>>=_) _ _ _;refine Qd (TY he rfl (x:= .ref it) rfl ?_);refine Qd (WR (A:=X.A.in1) O hit p (by simp;omega) λh' y Ol Ky=>?_);obtain ⟨o,N,KW⟩:=Ky;refine Qd (wpAny_isInstance (T:="StopIteration") (b:=true) ⟨o,N,KW⟩ isSubtype_stop ?_);exact Ql ⟨rfl,I.turned (t':=s.toks) (λc o hb e=>Ol c o hb e) f0 f1 f3 f4 f5⟩
 self:=λ_ _ _ _ _ st h=>by
  obtain ⟨⟨old,he⟩,_⟩:=st;exact wpAny_pyIter_enum he h
theorem nR (l:Addr) (items:Array Value) (n:Nat) (q:Option Addr) (sl:Array (Option Value)):
 Meets (Builtin.«enumerate.__new__» ⟨[.type "enumerate", .ref l],[]⟩) (λ_ R s=>s.heap.get? l=some {cls:= .type "tuple",dict:=q,data:= .seq items n,slots:=sl}/\
  R (.ok (.ret (.ref (s.heap.push {cls:= .type "tuple_iterator",data:= .fields #[.ref l, .int 0 0]}).objs.size)))
    {s with heap:=(s.heap.push {cls:= .type "tuple_iterator",data:= .fields #[.ref l, .int 0 0]}).push {cls:= .type "enumerate",data:= .fields #[.none, .bool false, .ref s.heap.objs.size,rawInt 0, .none, .none]}}):=
 .of_wp λprog w A R s h=>by
  obtain ⟨hp,g,d,tk,os⟩:=s;obtain ⟨m,h⟩:=h;have r:=sub_enumerate;have p:Heap.IsTuple (Shared.heap ⟨hp,g,d,tk,os⟩) l items:=⟨_,m,rfl,n,rfl⟩
  wp_walk using jbq m
  refine wpAny_stack_any λst=>Ql ?_
  split
  ·rename_i c _ _ _ _ _;cases (c==Value.type "enumerate")
   ·wp_walk using jbq m,jam p
    exact ⟨_,rfl,h⟩
   ·wp_walk using jbq m,jam p
    exact ⟨_,rfl,h⟩
  ·wp_walk using jbq m,jam p
   exact ⟨_,rfl,h⟩
theorem vQ {prog:Program} {w:World} {A:Around} {E:Value->Shared->Prop} {s:Shared} {b:Bool} {l:Addr} {items:Array Value} {Q:Value->Shared->Prop} (p:SeB b s.heap l items)
 (h:∀h',IsEnum h' (s.heap.objs.size+1) s.heap.objs.size 0 .none->ItB b h' s.heap.objs.size l 0->h'.objs.size=s.heap.objs.size+2->
  (∀b o,s.heap.get? b=some o->h'.get? b=some o)->Q (.ref (s.heap.objs.size+1)) {s with heap:=h'}):
 wpAny (model prog w) A (call (.type "enumerate") [.ref l]) Q E s:=by
 cases b with
 |true=>exact call_enumerate_list p h
 |false=>
  obtain ⟨⟨c,m,r,sl⟩,q,g,n,hd⟩:=p
  replace g:c= .type "tuple":=g
  replace hd:r= .seq items n:=hd
  subst g hd
  refine callType_new F.called_enumerate (by decide) (F.typeCall_enumerate_1 _) (F.newCall_enumerate_1 _) (λobj=>F.args_object_init_2 obj _) F.entry_enumerate_new
   (nR l items n m sl) ⟨q,?_⟩
  have hz:(s.heap.push {cls:= .type "tuple_iterator",data:= .fields #[.ref l, .int 0 0]}).objs.size=s.heap.objs.size+1:=QM ..;show _/\_;rw [hz]
  have he:IsEnum ((s.heap.push {cls:= .type "tuple_iterator",data:= .fields #[.ref l, .int 0 0]}).push
   {cls:= .type "enumerate",data:= .fields #[.none, .bool false, .ref s.heap.objs.size,rawInt 0, .none, .none]}) (s.heap.objs.size+1) s.heap.objs.size 0 .none:=by
   have:=Qt (s.heap.push {cls:= .type "tuple_iterator",data:= .fields #[.ref l, .int 0 0]})
    (o:={cls:= .type "enumerate",data:= .fields #[.none, .bool false, .ref s.heap.objs.size,rawInt 0, .none, .none]}) rfl
   rw [hz] at this;exact this
  refine ⟨⟨_,he,rfl⟩,h _ he ⟨_,Qh _ (Qt _ rfl),rfl,rfl⟩ (by rw [QM,hz]) λb o x=>Qh _ (Qh _ x)⟩
section
variable {X:Cx}
def iEnum (b:Bool) (K:PySem.W.Frag) (g:TA):TI:=λσ H R=>g σ H λvs H1=>∃a,vs=[.ref a]/\(∃xs,SqB b K H1 a xs)/\R (ItE b K a) H1
theorem pi_enum (b:Bool) {elts:List Expr} {k:Nat} {m:Pos} {a:Expr} {t:TA} {p pos:Pos} (J:Gl X "enumerate") (hm:X.mg "enumerate"=none) (ha:PA X [a] t) (D:starEach [a] X.env=[(false,eval a X.env)]:=by rfl):
 PI X (.Tuple elts k m) (.Call (.Name "enumerate" p) [a] [] pos) (iEnum b X.K t):=by
 intro pins s σ H R I h;refine Call_ (Wm I J hm oH (Tg (thn (ha pos pins s σ H _ I h) λus s1 ⟨vs,H1,g,A,C⟩=>?_) D rfl));obtain ⟨l,e,⟨xs,E⟩,q⟩:=C;subst e;obtain ⟨u,rfl,ru⟩:=gR A;cases (show u=Value.ref l from ru);obtain ⟨its,M,w,hz⟩:=seB g E;refine vQ w λh' he hit hsz G=>wpAny_pyIter_enum he ?_;have L:Inv X pins σ H1 {s1 with heap:=h'}:=g.kept (t':=s1.toks) G;have y:l<s1.heap.objs.size:=by obtain ⟨o,z⟩:=w.obj;exact Qn z
 refine ⟨s1.heap.objs.size+1,[s1.heap.objs.size+1,s1.heap.objs.size],_,_,H1,rfl,L,wH b l _ _ (QE y) (Nat.succ_ne_self _) (jaz (Tt y)),⟨⟨_,he⟩,hit⟩,λc r=>?_,q⟩
 rcases Qk.mp r with rfl|r
 ·exact g.fpOk (jaj _) (g.hok.fresh (jaj _))
 ·obtain rfl:c=s1.heap.objs.size:=by simpa using r
  exact g.fpOk (Qq _) (g.hok.fresh (Qq _))
end
theorem ItB.extBut {b:Bool} {h h':Heap} {it a c:Addr} {i:Nat} (x:ItB b h it a i) (g:Heap.ExtBut c h h') (m:it≠c):ItB b h' it a i:=x.at λo e=>g _ o m e
theorem SeB.extBut {b:Bool} {h h':Heap} {a c:Addr} {items:Array Value} (x:SeB b h a items) (g:Heap.ExtBut c h h') (m:a≠c):SeB b h' a items:=x.at λo e=>g _ o m e
section
variable {prog:Program} {w:World} {A:Around} {E:Value->Shared->Prop} {s:Shared}
open PySem
theorem mC {m r:Bool} {z TI TO q p G C:Addr} {k1 k2:Nat} {xs ys:Array Value} {x y a b:Value} {Q:Value->Shared->Prop} (D:ZipApart z TI TO q p G C)
 (hz:IsZip s.heap z TI TO .none) (U:IsPair s.heap TI (.ref q) (.ref p)) (g:IsPair s.heap TO a b)
 (u:ItB m s.heap q G k1) (t:ItB r s.heap p C k2) (X:SeB m s.heap G xs) (Y:SeB r s.heap C ys) (P:xs[k1]? =some x) (O:ys[k2]? =some y)
 (T:∀h',IsZip h' z TI TO (rawInt s.heap.objs.size)->IsPair h' TO x y->ItB m h' q G (k1+1)->ItB r h' p C (k2+1)->IsPair h' s.heap.objs.size x y->h'.objs.size=s.heap.objs.size+1->
  (∀c o,c≠z->c≠TO->c≠q->c≠p->s.heap.get? c=some o->h'.get? c=some o)->Q (.ref s.heap.objs.size) {s with heap:=h'}):
 wpAny (model prog w) A (Builtin.«zip.__next__» ⟨[.ref z],[]⟩) (λfin s'=>∃v,fin= .done (.ret v)/\Q v s') E s:=by
 show wpAny _ _ (field (.ref z) 2>>=_) _ _ _;refine Qd (TY hz rfl (x:= .bool false) rfl ?_);show wpAny _ _ (field (.ref z) 3>>=_) _ _ _;refine Qd (TY hz rfl (x:= .ref TI) rfl ?_);refine Qd (jat U rfl ?_);show wpAny _ _ (Builtin.SmallTypes.ownedTupleIsFree (.ref z)>>=_) _ _ _;refine Qd ?_;unfold Builtin.SmallTypes.ownedTupleIsFree;refine Qd (TY hz rfl (x:= .none) rfl (Ql ?_));simp only [if_true];refine Qd (jbL ?_);refine Qd (TY hz rfl (x:= .ref TO) rfl ?_);refine Qd (jaJ hz (by simp) λh₁ hz₁ hs₁=>?_)
 replace hz₁:IsZip h₁ z TI TO .ellipsis:=hz₁
 refine Qd ?_;simp only [List.zipIdx_cons,List.zipIdx_nil,List.forIn_cons,List.forIn_nil];refine Qd (Qd (wpAny_onRaise ?_));show wpAny _ _ (Builtin.SmallTypes.nextOf (.ref q)>>=_) _ _ _;refine Qd (Yr (u.extBut hs₁.extBut D.i1z) (X.extBut hs₁.extBut D.l1z) P λh₂ u₂ hs₂=>Ql ?_);have g₂:IsPair h₂ TO a b:=hs₂.extBut _ _ D.TOi1 (hs₁.extBut _ _ D.TOz g);refine Qd (jat g₂ rfl ?_);refine Qd (wpAny_updateSeq_pair g₂ λh₃ g₃ hs₃=>?_)
 replace g₃:IsPair h₃ TO x b:=g₃
 refine Qd (wpAny_letGo (Ql ?_));refine Qd (Qd (wpAny_onRaise ?_));show wpAny _ _ (Builtin.SmallTypes.nextOf (.ref p)>>=_) _ _ _
 refine Qd (Yr (((t.extBut hs₁.extBut D.i2z).extBut hs₂.extBut D.i12.symm).extBut hs₃.extBut D.TOi2.symm)
  (((Y.extBut hs₁.extBut D.l2z).extBut hs₂.extBut D.l2i1).extBut hs₃.extBut D.l2TO) O λh₄ t₄ hs₄=>Ql ?_)
 have g₄:IsPair h₄ TO x b:=hs₄.extBut _ _ D.TOi2 g₃;refine Qd (jat g₄ rfl ?_);refine Qd (wpAny_updateSeq_pair g₄ λh₅ g₅ hs₅=>?_)
 replace g₅:IsPair h₅ TO x y:=g₅
 refine Qd (wpAny_letGo (Ql (Ql ?_)));refine Qd (jat g₅ rfl ?_);refine Qd (wpAny_newTuple ?_);have hsz:h₅.objs.size=s.heap.objs.size:=by rw [hs₅.1,hs₄.1,hs₃.1,hs₂.1,hs₁.1]
 have hz₅:IsZip h₅ z TI TO .ellipsis:=hs₅.extBut _ _ D.TOz.symm (hs₄.extBut _ _ D.i2z.symm (hs₃.extBut _ _ D.TOz.symm (hs₂.extBut _ _ D.i1z.symm hz₁)))
 have hk₅:∀c o,c≠z->c≠TO->c≠q->c≠p->s.heap.get? c=some o->h₅.get? c=some o:=λc o m r L K e=>
  hs₅.extBut _ _ r (hs₄.extBut _ _ K (hs₃.extBut _ _ r (hs₂.extBut _ _ L (hs₁.extBut _ _ m e))))
 have u₅:ItB m h₅ q G (k1+1):=((u₂.extBut hs₃.extBut D.TOi1.symm).extBut hs₄.extBut D.i12).extBut hs₅.extBut D.TOi1.symm;have t₅:ItB r h₅ p C (k2+1):=t₄.extBut hs₅.extBut D.TOi2.symm;have N:z<h₅.objs.size:=Qn hz₅;have J:TO<h₅.objs.size:=Qn g₅;have I:q<h₅.objs.size:=by obtain ⟨_,e,_⟩:=u₅.obj;exact Qn e
 have H:p<h₅.objs.size:=by obtain ⟨_,e,_⟩:=t₅.obj;exact Qn e
 show wpAny _ _ (Builtin.SmallTypes.ownedTupleHandOut (.ref z) (.ref h₅.objs.size)>>=_) _ _ _;refine Qd ?_;unfold Builtin.SmallTypes.ownedTupleHandOut;have hz₆:IsZip (h₅.push {cls:= .type "tuple",data:= .seq #[x,y]}) z TI TO .ellipsis:=Qh _ hz₅;refine Qd (jaJ hz₆ (by simp) λh₇ hz₇ hs₇=>?_)
 replace hz₇:IsZip h₇ z TI TO (rawInt h₅.objs.size):=hz₇
 refine jaJ hz₇ (by simp) λh₈ hz₈ hs₈=>?_
 replace hz₈:IsZip h₈ z TI TO (rawInt h₅.objs.size):=hz₈
 have up:∀c o,c≠z->h₅.get? c=some o->h₈.get? c=some o:=λc o m e=>hs₈.extBut _ _ m (hs₇.extBut _ _ m (Qh _ e));have hT₈:IsPair h₈ h₅.objs.size x y:=hs₈.extBut _ _ (jaz N) (hs₇.extBut _ _ (jaz N) (Qt _ rfl));have M:h₈.objs.size=h₅.objs.size+1:=by rw [hs₈.1,hs₇.1,QM]
 rw [hsz] at hz₈ hT₈ M;refine Ql ⟨_,rfl,?_⟩;show Q (.ref h₅.objs.size) _;rw [hsz];exact T h₈ hz₈ (up _ _ D.TOz g₅) (u₅.at λo e=>up _ o D.i1z e) (t₅.at λo e=>up _ o D.i2z e) hT₈ M λc o m r L K e=>up c o m (hk₅ c o m r L K e)
theorem rK {g u:Bool} {z TI TO q p G C:Addr} {k1 k2:Nat} {xs ys:Array Value} {a b:Value} {Q:Fin->Shared->Prop} (K:A.handled=none) (D:ZipApart z TI TO q p G C)
 (hz:IsZip s.heap z TI TO .none) (T:IsPair s.heap TI (.ref q) (.ref p)) (t:IsPair s.heap TO a b)
 (H:ItB g s.heap q G k1) (O:ItB u s.heap p C k2) (M:SeB g s.heap G xs) (X:SeB u s.heap C ys) (U:xs[k1]? =none\/ys[k2]? =none)
 (L:∀h' e,(∀c o,c≠z->c≠TO->c≠q->c≠p->s.heap.get? c=some o->h'.get? c=some o)->(∃o,h'.get? e=some o/\o.cls= .type "StopIteration")->E (.ref e) {s with heap:=h'}):
 wpAny (model prog w) A (Builtin.«zip.__next__» ⟨[.ref z],[]⟩) Q E s:=by
 show wpAny _ _ (field (.ref z) 2>>=_) _ _ _;refine Qd (TY hz rfl (x:= .bool false) rfl ?_);show wpAny _ _ (field (.ref z) 3>>=_) _ _ _;refine Qd (TY hz rfl (x:= .ref TI) rfl ?_);refine Qd (jat T rfl ?_);show wpAny _ _ (Builtin.SmallTypes.ownedTupleIsFree (.ref z)>>=_) _ _ _;refine Qd ?_;unfold Builtin.SmallTypes.ownedTupleIsFree;refine Qd (TY hz rfl (x:= .none) rfl (Ql ?_));simp only [if_true];refine Qd (jbL ?_);refine Qd (TY hz rfl (x:= .ref TO) rfl ?_);refine Qd (jaJ hz (by simp) λh₁ hz₁ hs₁=>?_)
 replace hz₁:IsZip h₁ z TI TO .ellipsis:=hz₁
 refine Qd ?_;simp only [List.zipIdx_cons,List.zipIdx_nil,List.forIn_cons,List.forIn_nil];refine Qd (Qd (wpAny_onRaise ?_));show wpAny _ _ (Builtin.SmallTypes.nextOf (.ref q)>>=_) _ _ _
 cases hx:xs[k1]? with
 |none=>
  refine Qd (WR K (H.extBut hs₁.extBut D.i1z) (M.extBut hs₁.extBut D.l1z) hx λh₂ e hs₂ he=>?_);obtain ⟨y,m,r⟩:=he;have hz₂:IsZip h₂ z TI TO .ellipsis:=hs₂ _ _ D.i1z.symm hz₁;have J:e≠z:=λx=>by subst x;rw [hz₂] at m;cases m;simp at r
  refine jaJ hz₂ (by simp) λh₃ _ hs₃=>L h₃ e (λc o g _ I _ x=>hs₃.extBut _ _ g (hs₂ _ _ I (hs₁.extBut _ _ g x))) ⟨y,hs₃.extBut _ _ J m,r⟩
 |some x=>
  have N:ys[k2]? =none:=by rcases U with h|h;rw [hx] at h;cases h;exact h
  refine Qd (Yr (H.extBut hs₁.extBut D.i1z) (M.extBut hs₁.extBut D.l1z) hx λh₂ H₂ hs₂=>Ql ?_);have t₂:IsPair h₂ TO a b:=hs₂.extBut _ _ D.TOi1 (hs₁.extBut _ _ D.TOz t);refine Qd (jat t₂ rfl ?_);refine Qd (wpAny_updateSeq_pair t₂ λh₃ t₃ hs₃=>?_);refine Qd (wpAny_letGo (Ql ?_));refine Qd (Qd (wpAny_onRaise ?_));show wpAny _ _ (Builtin.SmallTypes.nextOf (.ref p)>>=_) _ _ _
  refine Qd (WR K (((O.extBut hs₁.extBut D.i2z).extBut hs₂.extBut D.i12.symm).extBut hs₃.extBut D.TOi2.symm)
   (((X.extBut hs₁.extBut D.l2z).extBut hs₂.extBut D.l2i1).extBut hs₃.extBut D.l2TO) N λh₄ e hs₄ he=>?_)
  obtain ⟨y,m,r⟩:=he;have hz₄:IsZip h₄ z TI TO .ellipsis:=hs₄ _ _ D.i2z.symm (hs₃.extBut _ _ D.TOz.symm (hs₂.extBut _ _ D.i1z.symm hz₁));have J:e≠z:=λx=>by subst x;rw [hz₄] at m;cases m;simp at r
  refine jaJ hz₄ (by simp) λh₅ _ hs₅=>L h₅ e (λc o g u I P x=>hs₅.extBut _ _ g (hs₄ _ _ P (hs₃.extBut _ _ u (hs₂.extBut _ _ I (hs₁.extBut _ _ g x))))) ⟨y,hs₅.extBut _ _ J m,r⟩
end
def ItZ (h g:Bool) (K:PySem.W.Frag) (a1 a2:Addr):It:=
 ⟨λi H=>∃xs ys x y,SqB h K H a1 xs/\SqB g K H a2 ys/\xs[i]? =some x/\ys[i]? =some y,
  λi H v H'=>∃p x y,(∀xs,SqB h K H a1 xs->xs[i]? =some x)/\(∀ys,SqB g K H a2 ys->ys[i]? =some y)/\H p=none/\v= .ref p/\H'=upd H p (.tup [x,y]),
  λi H=>∃xs ys,SqB h K H a1 xs/\SqB g K H a2 ys/\(xs.length<=i\/ys.length<=i)⟩
theorem Dw {P:Program} {w:World} {K:PySem.W.Frag} {elts:List Expr} {k:Nat} {pos:Pos} (c1 c2:Bool) (z TI TO t p l1 l2:Addr) (D:ZipApart z TI TO t p l1 l2):
 Turn P w K (.Tuple elts k pos) (ItZ c1 c2 K l1 l2) [z,TI,TO,t,p] z (λi h=>IsZip h z TI TO .none/\IsPair h TI (.ref t) (.ref p)/\(∃a b,IsPair h TO a b)/\ItB c1 h t l1 i/\ItB c2 h p l2 i) where
 mem:=by simp
 obj:=λi h st c C=>by
  obtain ⟨hz,G,⟨a,b,N⟩,M,L⟩:=st;simp only [Qk,Qx,or_false] at C
  rcases C with rfl|rfl|rfl|rfl|rfl
  ·exact ⟨_,hz,λv q=>by cases q⟩
  ·exact ⟨_,G,λv q=>by cases q⟩
  ·exact ⟨_,N,λv q=>by cases q⟩
  ·exact M.obj
  ·exact L.obj
 keep:=λi h h' st Q=>by
  obtain ⟨hz,G,⟨a,b,N⟩,M,L⟩:=st;exact ⟨Q z (by simp) _ hz,Q TI (by simp) _ G,⟨a,b,Q TO (by simp) _ N⟩,M.at λo e=>Q t (by simp) o e,L.at λo e=>Q p (by simp) o e⟩
 item:=by
  intro X hP hw hK C i pins s σ H E I hf st hg;subst hP hw hK;obtain ⟨hz,G,⟨a,b,N⟩,M,L⟩:=st;obtain ⟨xs,ys,x,y,LY,MF,hx,hy⟩:=hg;obtain ⟨Ms,MQ,p1,_⟩:=seB I LY;obtain ⟨KA,MP,p2,_⟩:=seB I MF;obtain ⟨u1,hu1,NQ⟩:=MQ.get hx;obtain ⟨u2,PZ,NP⟩:=MP.get hy;have Z:s.TypeIs (.ref z) "zip":=⟨_,hz,rfl⟩;unfold pyNext
  refine Qd (jaE (QR (name:=Str.ofString "__next__") Z F.slot_zip_next (Te F.slot_zip_next Z F.entry_zip_next
   (mC D hz G N M L p1 p2 (x:=u1) (y:=u2) (by simpa using hu1) (by simpa using PZ) λh' a1 a2 a3 a4 a5 a6 J=>Ql ?_) (F.args_zip_next_1 _))))
  refine ⟨_,rfl,wpAny_letOwnedTupleGo_zip a1 λO PR LI=>?_⟩;have lt:∀{c o},s.heap.get? c=some o->c<s.heap.objs.size:=λe=>Qn e;have Y:t<s.heap.objs.size:=by obtain ⟨_,e,_⟩:=M.obj;exact lt e
  have U:p<s.heap.objs.size:=by obtain ⟨_,e,_⟩:=L.obj;exact lt e
  have RT:IsPair h' TI (.ref t) (.ref p):=J _ _ D.TIz D.TITO D.TIi1 D.TIi2 G;have up:∀c o,c≠z->h'.get? c=some o->O.get? c=some o:=λc o C e=>(LI.2 c C).trans e;have Mf:O.get? s.heap.objs.size=some {cls:= .type "tuple",data:= .seq #[u1,u2]}:=up _ _ (jaz (lt hz)) a5
  have NN:IsZip O z TI TO .none/\IsPair O TI (.ref t) (.ref p)/\(∃a b,IsPair O TO a b)/\ItB c1 O t l1 (i+1)/\ItB c2 O p l2 (i+1):=
   ⟨PR,up _ _ D.TIz RT,⟨u1,u2,up _ _ D.TOz a2⟩,a3.at λo e=>up _ o D.i1z e,a4.at λo e=>up _ o D.i2z e⟩
  refine ⟨.ref s.heap.objs.size,upd H s.heap.objs.size (.tup [x,y]),?_,rfl,⟨_,x,y,λzs hy=>by rw [pS I hy LY];exact hx,λzs Lu=>by rw [pS I Lu MF];exact hy,I.fresh,rfl,rfl⟩,NN,λc C=>?_⟩
  ·refine ai (s:=s) (t':=s.toks) (ch:=[z,TI,TO,t,p]) I hf (λc o g q=>?_) (λc C=>?_) (Qq _) ⟨dR,[u1,u2], .cons NQ (.cons NP .nil),⟨_,Mf,rfl,_,rfl⟩⟩
   ·have n1:c≠z:=λe=>g (by simp [e]);exact up c o n1 (J c o n1 (λe=>g (by simp [e])) (λe=>g (by simp [e])) (λe=>g (by simp [e])) q)
   ·obtain ⟨z1,z2,⟨_,_,z3⟩,z4,z5⟩:=NN;simp only [Qk,Qx,or_false] at C
    rcases C with rfl|rfl|rfl|rfl|rfl
    ·exact ⟨_,z1⟩
    ·exact ⟨_,z2⟩
    ·exact ⟨_,z3⟩
    ·obtain ⟨o,e,_⟩:=z4.obj;exact ⟨o,e⟩
    ·obtain ⟨o,e,_⟩:=z5.obj;exact ⟨o,e⟩
  ·have Ku:c<s.heap.objs.size:=by
    simp only [Qk,Qx,or_false] at C
    rcases C with rfl|rfl|rfl|rfl|rfl
    ·exact lt hz
    ·exact lt G
    ·exact lt N
    ·exact Y
    ·exact U
   rw [yb (QE Ku)];exact (hf c C).1
 done:=by
  intro X hP hw hK C i pins s σ H E I hf st hg;subst hP hw hK;obtain ⟨hz,G,⟨a,b,N⟩,M,L⟩:=st;obtain ⟨xs,ys,LY,MF,LB⟩:=hg;obtain ⟨Ms,MQ,p1,_⟩:=seB I LY;obtain ⟨KA,MP,p2,_⟩:=seB I MF;have e1:=MQ.length;have e2:=MP.length;have hh:=I.ok.hd C;have Z:s.TypeIs (.ref z) "zip":=⟨_,hz,rfl⟩;unfold pyNext
  refine Qd (jaE (QR (name:=Str.ofString "__next__") Z F.slot_zip_next (Te F.slot_zip_next Z F.entry_zip_next
   (rK (A:=X.A.in1) hh D hz G N M L p1 p2 (by simp only [List.getElem?_toArray];rcases LB with q|q;exact .inl (QN (by omega));exact .inr (QN (by omega))) λh' e J he=>?_) (F.args_zip_next_1 _))))
  obtain ⟨o,ho,KW⟩:=he;refine Qd (wpAny_isInstance (T:="StopIteration") (b:=true) ⟨o,ho,KW⟩ isSubtype_stop ?_);refine Ql ⟨rfl,?_⟩
  refine I.step (g':=s.gens) (d':=s.drawn) (t':=s.toks) (H':=H) (ch:=[z,TO,t,p]) (λb hb=>?_) (λb u _ _ g e _=>J b u (λq=>g (by simp [q])) (λq=>g (by simp [q])) (λq=>g (by simp [q])) (λq=>g (by simp [q])) e)
   (λb u _ _ g e _=>⟨u.slots,J b u (λq=>g (by simp [q])) (λq=>g (by simp [q])) (λq=>g (by simp [q])) (λq=>g (by simp [q])) e⟩) (λ_ _ _ _ n=>n)
   (λb u g e=>⟨u,J b u (λq=>g (by simp [q])) (λq=>g (by simp [q])) (λq=>g (by simp [q])) (λq=>g (by simp [q])) e⟩) (λ_ _ e=>e) (λ_ _ _ e=>e) (λb ps e=>⟨#[],by rw [e];simp⟩) (λm hm=>?_) (λb u e=>?_) I.bare
  ·have KL:b∈[z,TI,TO,t,p]:=by
    simp only [Qk,Qx,or_false] at hb⊢
    rcases hb with q|q|q|q<;>simp [q]
   exact ⟨(hf b KL).2.2.2.1,(hf b KL).2.1,(hf b KL).2.2.2.2.1,(hf b KL).2.2.2.2.2⟩
  ·obtain ⟨ob,es,ep,ho,r⟩:=hm;exact ⟨ob,es,ep,J _ ob (λq=>(hf z (by simp)).2.1 q.symm) (λq=>(hf TO (by simp)).2.1 q.symm) (λq=>(hf t (by simp)).2.1 q.symm) (λq=>(hf p (by simp)).2.1 q.symm) ho,r⟩
  ·refine (I.hok b u e).stay (λc v Pj q=>?_) (λ_ q=>q) λ_ _ q=>q
   have nf:∀d∈[z,TI,TO,t,p],c≠d:=λd hd z=>by
    subst z
    rcases Pj with q|q
    ·rw [<-q,(hf _ hd).1] at e;cases e
    ·rw [(hf _ hd).1] at q;cases q
   exact J c v (nf z (by simp)) (nf TO (by simp)) (nf t (by simp)) (nf p (by simp)) q
 self:=λ_ _ _ _ _ st h=>wpAny_pyIter_zip st.1 h
def Fi (b:Bool) (l:Addr):Obj:={cls:= .type (match b with|true=>"list_iterator"|false=>"tuple_iterator"),data:= .fields #[.ref l, .int 0 0]}
abbrev zB1 (m:Bool) (h:Heap) (g:Addr):Heap:=h.push (Fi m g)
abbrev zB2 (q p:Bool) (h:Heap) (m g:Addr):Heap:=(zB1 q h m).push (Fi p g)
abbrev zB3 (m q:Bool) (h:Heap) (g p:Addr):Heap:=(zB2 m q h g p).push {cls:= .type "tuple",data:= .seq #[.ref h.objs.size, .ref (zB1 m h g).objs.size]}
abbrev zB4 (q p:Bool) (h:Heap) (m g:Addr):Heap:=(zB3 q p h m g).push {cls:= .type "tuple",data:= .seq #[.none, .none]}
abbrev zB5 (q p:Bool) (h:Heap) (m g:Addr):Heap:=(zB4 q p h m g).push {cls:= .type "zip",data:= .fields #[.none, .bool false, .bool false, .ref (zB2 q p h m g).objs.size, .ref (zB3 q p h m g).objs.size]}
theorem SeB.push {b:Bool} {h:Heap} {a:Addr} {items:Array Value} (x:SeB b h a items) (o:Obj):SeB b (h.push o) a items:=x.at λ_ e=>Qh _ e
theorem vj (u r:Bool) (m p:Addr) (xs ys:Array Value):
 Meets (Builtin.«zip.__new__» ⟨[.type "zip", .ref m, .ref p],[]⟩) (λ_ R s=>SeB u s.heap m xs/\SeB r s.heap p ys/\
  R (.ok (.ret (.ref (zB4 u r s.heap m p).objs.size))) {s with heap:=zB5 u r s.heap m p}):=
 .of_wp λprog w A R s h=>by
  obtain ⟨hp,g,d,tk,os⟩:=s;obtain ⟨z,y,h⟩:=h;have C:=sub_zip
  cases u with
  |true=>
   have t:Heap.IsList (Shared.heap ⟨hp,g,d,tk,os⟩) m xs:=z
   cases r with
   |true=>
    have q:Heap.IsList (Shared.heap ⟨hp.push {cls:= .type "list_iterator",data:= .fields #[.ref m, .int 0 0]},g,d,tk,os⟩) p ys:=SeB.push (b:=true) y _
    wp_walk using jaO t,jaO q
    exact ⟨_,rfl,h⟩
   |false=>
    have q:Heap.IsTuple (Shared.heap ⟨hp.push {cls:= .type "list_iterator",data:= .fields #[.ref m, .int 0 0]},g,d,tk,os⟩) p ys:=SeB.push (b:=false) y _
    wp_walk using jaO t,jam q
    exact ⟨_,rfl,h⟩
  |false=>
   have t:Heap.IsTuple (Shared.heap ⟨hp,g,d,tk,os⟩) m xs:=z
   cases r with
   |true=>
    have q:Heap.IsList (Shared.heap ⟨hp.push {cls:= .type "tuple_iterator",data:= .fields #[.ref m, .int 0 0]},g,d,tk,os⟩) p ys:=SeB.push (b:=true) y _
    wp_walk using jam t,jaO q
    exact ⟨_,rfl,h⟩
   |false=>
    have q:Heap.IsTuple (Shared.heap ⟨hp.push {cls:= .type "tuple_iterator",data:= .fields #[.ref m, .int 0 0]},g,d,tk,os⟩) p ys:=SeB.push (b:=false) y _
    wp_walk using jam t,jam q
    exact ⟨_,rfl,h⟩
theorem sR {b:Bool} {h:Heap} {it l:Addr} (e:h.get? it=some (Fi b l)):ItB b h it l 0:=by
 cases b with
 |true=>exact ⟨_,e,rfl,rfl⟩
 |false=>exact ⟨_,e,rfl,rfl⟩
theorem jk (b:Bool) (l:Addr):(Fi b l).isFreed=false:=by cases b<;>rfl
theorem oB {prog:Program} {w:World} {A:Around} {E:Value->Shared->Prop} {s:Shared} {m q:Bool} {g p:Addr} {xs ys:Array Value} {Q:Value->Shared->Prop} (r:SeB m s.heap g xs) (t:SeB q s.heap p ys)
 (h:∀h',IsZip h' (s.heap.objs.size+4) (s.heap.objs.size+2) (s.heap.objs.size+3) .none->IsPair h' (s.heap.objs.size+2) (.ref s.heap.objs.size) (.ref (s.heap.objs.size+1))->
  IsPair h' (s.heap.objs.size+3) .none .none->ItB m h' s.heap.objs.size g 0->ItB q h' (s.heap.objs.size+1) p 0->
  (∀c o,s.heap.get? c=some o->h'.get? c=some o)->Q (.ref (s.heap.objs.size+4)) {s with heap:=h'}):
 wpAny (model prog w) A (call (.type "zip") [.ref g, .ref p]) Q E s:=by
 refine callType_new F.called_zip (by decide) (F.typeCall_zip_2 _ _) (F.newCall_zip_2 _ _) (λobj=>F.args_object_init_3 obj _ _) F.entry_zip_new
  (vj m q g p xs ys) ⟨r,t,?_⟩
 have z1:(zB1 m s.heap g).objs.size=s.heap.objs.size+1:=QM ..;have z2:(zB2 m q s.heap g p).objs.size=s.heap.objs.size+2:=by rw [QM,z1]
 have z3:(zB3 m q s.heap g p).objs.size=s.heap.objs.size+3:=by rw [QM,z2]
 have z4:(zB4 m q s.heap g p).objs.size=s.heap.objs.size+4:=by rw [QM,z3]
 have g5:(zB5 m q s.heap g p).get? (zB4 m q s.heap g p).objs.size=some _:=Qt _ rfl;have g4:(zB5 m q s.heap g p).get? (zB3 m q s.heap g p).objs.size=some _:=Qh _ (Qt _ rfl);have g3:(zB5 m q s.heap g p).get? (zB2 m q s.heap g p).objs.size=some _:=Qh _ (Qh _ (Qt _ rfl));have g2:(zB5 m q s.heap g p).get? (zB1 m s.heap g).objs.size=some _:=Qh _ (Qh _ (Qh _ (Qt _ (jk q p))));have g1:(zB5 m q s.heap g p).get? s.heap.objs.size=some _:=Qh _ (Qh _ (Qh _ (Qh _ (Qt _ (jk m g)))));show _/\_;rw [z2,z3,z4] at g5;rw [z1,z2] at g3;rw [z3] at g4;rw [z1] at g2;rw [z4];exact ⟨⟨_,g5,rfl⟩,h _ g5 g3 g4 (sR g1) (sR g2) λc o x=>Qh _ (Qh _ (Qh _ (Qh _ (Qh _ x))))⟩
section
variable {X:Cx}
def iZip (h g:Bool) (K:PySem.W.Frag) (m:TA):TI:=λσ H R=>m σ H λvs H1=>∃a1 a2,vs=[.ref a1, .ref a2]/\(∃xs,SqB h K H1 a1 xs)/\(∃ys,SqB g K H1 a2 ys)/\R (ItZ h g K a1 a2) H1
theorem pi_zip (D C:Bool) {elts:List Expr} {k:Nat} {g:Pos} {a b:Expr} {u:TA} {p pos:Pos} (P:Gl X "zip") (hm:X.mg "zip"=none) (ha:PA X [a,b] u) (N:starEach [a,b] X.env=[(false,eval a X.env),(false,eval b X.env)]:=by rfl) (E:starEach [b] X.env=[(false,eval b X.env)]:=by rfl):
 PI X (.Tuple elts k g) (.Call (.Name "zip" p) [a,b] [] pos) (iZip D C X.K u):=by
 intro pins s σ H R I h;refine Call_ (Wm I P hm GW (Tg (thn (ha pos pins s σ H _ I h) λus s1 ⟨vs,H1,m,L,M⟩=>?_) (by rw [N,E]) (by rw [E];rfl)));obtain ⟨t,r,e,⟨xs,LY⟩,⟨ys,MF⟩,q⟩:=M;subst e;obtain ⟨J,G,rfl,Z,NP⟩:=wD L;cases (show J=Value.ref t from Z);cases (show G=Value.ref r from NP);obtain ⟨Ms,MQ,y,_⟩:=seB m LY;obtain ⟨KA,MP,w,_⟩:=seB m MF;have MS:t<s1.heap.objs.size:=by obtain ⟨o,z⟩:=y.obj;exact Qn z
 have Y:r<s1.heap.objs.size:=by obtain ⟨o,z⟩:=w.obj;exact Qn z
 refine oB y w λh' a1 a2 U T Q O=>wpAny_pyIter_zip a1 ?_;have I2:Inv X pins σ H1 {s1 with heap:=h'}:=m.kept (t':=s1.toks) O;refine ⟨s1.heap.objs.size+4,[s1.heap.objs.size+4,s1.heap.objs.size+2,s1.heap.objs.size+3,s1.heap.objs.size,s1.heap.objs.size+1],_,_,H1,rfl,I2,Dw D C _ _ _ _ _ t r (zipApart_new MS Y),⟨a1,a2,⟨_,_,U⟩,T,Q⟩,λc A=>?_,q⟩
 have hle:s1.heap.objs.size<=c:=by
  simp only [Qk,Qx,or_false] at A
  rcases A with z|z|z|z|z<;>rw [z]<;>first|exact Nat.le_add_right _ _|exact Qq _
 exact m.fpOk hle (m.hok.fresh hle)
end
end S
namespace S
open PySem PySem.Spec PyProof.Rows L2
theorem GZ {α:Type} {xs:List α} {k:Int} {v:α} (h0:0<=k) (h:xs[k.toNat]? =some v):atI xs k=some v:=by
 have g:k=((k.toNat:Nat):Int):=by omega
 rw [g];exact yJ h
theorem eqv_fr (p q:Rat):PyData.eqv (frD p) (frD q)=decide (p=q):=by
 unfold frD;simp only [PyData.eqv,PyData.eqvAll,Bool.and_true]
 by_cases h:p=q
 ·subst h;simp
 ·rw [Tb h]
  by_cases m:p.num=q.num
  ·have r:p.den≠q.den:=λz=>h (Rat.ext m z);have g:((p.den:Int)==(q.den:Int))=false:=jaQ.mpr (λz=>r (Int.ofNat.inj z));rw [g,Bool.and_false]
  ·have g:(p.num==q.num)=false:=jaQ.mpr m;rw [g,Bool.false_and]
abbrev zg:=Rat×List Rat
section
variable {H H':Hp} {qs:List Rat} {c:zg} {cs:List zg} {v:V} {vs:List V} {l:Addr} {xs:List V} {o:HO}
end
def yu (qs:List Rat):PyData:= .tuple (qs.map frD)
def zG (c:zg):PyData:= .tuple [frD c.1,yu c.2]
def yy (cs:List zg):PyData:= .list (cs.map zG)
theorem sS {H:Hp} {α:Type} {R:α->V->Prop} {f:α->PyData} (g:∀a v,R a v->Is H (f a) v):∀{xs:List α} {vs:List V},xs.length=vs.length->(∀(i:Nat) (x:α) (v:V),xs[i]? =some x->vs[i]? =some v->R x v)->zu H (xs.map f) vs
 |[],[],_,_=>by rw [jaY,zu]
 |[],_::_,h,_=>by simp at h
 |_::_,[],h,_=>by simp at h
 |x::xs,v::vs,hl,h=>by
  rw [Qp,zu];exact ⟨v,vs,rfl,g x v (h 0 x v rfl rfl),sS g (by simpa using hl) λi a b ha m=>h (i+1) a b (by simpa using ha) (by simpa using m)⟩
theorem BK {α:Type} {f:α->PyData} (h:∀a,(f a).canLay0=true):∀xs:List α,PyData.canLayAll0 (xs.map f)=true
 |[]=>rfl
 |x::xs=>by rw [Qp,PyData.canLayAll0,h x,BK h xs];rfl
theorem Co {α:Type} {f:α->PyData} {n:Nat} (h:∀a,(f a).depth<=n):∀xs:List α,PyData.depthAll (xs.map f)<=n
 |[]=>by rw [jaY,PyData.depthAll];exact jai _
 |x::xs=>by rw [Qp,PyData.depthAll];exact Nat.max_le.mpr ⟨h x,Co h xs⟩
theorem GH (q:Rat):(frD q).canLay0=true:=by unfold frD;simp [PyData.canLay0,PyData.canLayAll0]
theorem GS (q:Rat):(frD q).depth<=2:=by unfold frD;simp [PyData.depth,PyData.depthAll]
theorem BJ (qs:List Rat):(yu qs).canLay0=true:=by unfold yu;rw [PyData.canLay0];exact BK GH qs
theorem Cn (qs:List Rat):(yu qs).depth<=3:=by unfold yu;rw [PyData.depth];exact Nat.succ_le_succ (Co GS qs)
def zN (g m h:zg):Prop:=∀(i:Nat) (a b c:Rat),g.2[i]? =some a->m.2[i]? =some b->h.2[i]? =some c->(b - a)*(h.1 - g.1)=(c - a)*(m.1 - g.1)
theorem lH (p q:Rat):Rat.divInt (q.num*p.den - p.num*q.den) (p.den*q.den)=q - p:=by
 rw [Rat.sub_def',Int.mul_comm (p.den:Int),<-Int.natCast_mul,Rat.divInt_ofNat]
theorem Cs {rn rd nn nd wn wd fn fd:Int} (p:rd≠0) (m:nd≠0) (h:wd≠0) (g:fd≠0):
 Rat.divInt rn rd*Rat.divInt fn fd=Rat.divInt wn wd*Rat.divInt nn nd↔rn*nd*wd*fn=wn*fd*rd*nn:=by
 rw [jbr,jbr,Rat.divInt_eq_divInt_iff (Int.mul_ne_zero p g) (Int.mul_ne_zero h m)];have r:rn*fn*(wd*nd)=rn*nd*wd*fn:=by grind
 have q:wn*nn*(rd*fd)=wn*fd*rd*nn:=by grind
 rw [r,q]
abbrev zY:=List (Addr×List PyData)
abbrev Dat:=List (PyData×V)
def Xn (G:Hp) (ds:Dat):Prop:=∀p∈ds,Is G p.1 p.2
def Has (ds:Dat) (x:PyData) (v:V):Prop:=∀G,Xn G ds->Is G x v
def yc (ds:Dat) (xs:List PyData) (vs:List V):Prop:=∀G,Xn G ds->zu G xs vs
def He (B g H:Hp) (cs:zY) (ds:Dat) (G:Hp):Prop:=
 zH g G/\zH G H/\zH B H/\(∀p,B p≠none->G p=g p)/\(∀c∈cs,B c.1=none/\G c.1=none/\∃vs,H c.1=some (.lst vs)/\zu G c.2 vs)/\(cs.map (·.1)).Nodup/\Xn G ds
def Sta (B g H:Hp) (cs:zY) (ds:Dat):Prop:=∃G,He B g H cs ds G
structure Grow (G H G' H':Hp):Prop where
 h:zH H H'
 g:zH G G'
 sub:zH G' H'
 old:∀p,H p≠none->G' p=G p
theorem Xn.mono {G g:Hp} {ds:Dat} (h:Xn G ds) (e:zH G g):Xn g ds:=λp hp=>Is.mono e _ _ (h p hp)
theorem Xn.cons {G:Hp} {ds:Dat} {x:PyData} {v:V} (h:Xn G ds) (g:Is G x v):Xn G ((x,v)::ds):=λp hp=>by
 rcases Qk.mp hp with rfl|hp
 ·exact g
 ·exact h p hp
theorem Has.int {ds:Dat} {i:Int}:Has ds (.int i) (.int i):=λ_ _=>by rw [Is]
theorem Has.str {ds:Dat} {i:Str}:Has ds (.str i) (.str i):=λ_ _=>by rw [Is]
theorem Has.mem {ds:Dat} {x:PyData} {v:V} (h:(x,v)∈ds):Has ds x v:=λ_ a=>a _ h
theorem Has.weak {ds ds':Dat} {x:PyData} {v:V} (h:Has ds x v) (k:∀p∈ds,Has ds' p.1 p.2):Has ds' x v:=λG a=>h G λp hp=>k p hp G a
theorem Has.tail {ds:Dat} {x:PyData} {v:V} {p:PyData×V} (h:Has ds x v):Has (p::ds) x v:=h.weak λq g=> .mem (Qf _ g)
theorem yc.nil {ds:Dat}:yc ds [] []:=λ_ _=>by rw [zu]
theorem yc.cons {ds:Dat} {x:PyData} {v:V} {xs:List PyData} {vs:List V} (h:Has ds x v) (g:yc ds xs vs):yc ds (x::xs) (v::vs):=λG a=>by
 rw [zu];exact ⟨v,vs,rfl,h G a,g G a⟩
theorem zu.len {H:Hp}:∀{xs:List PyData} {vs:List V},zu H xs vs->xs.length=vs.length
 |[],vs,h=>by rw [zu] at h;subst h;rfl
 |x::xs,vs,h=>by
  rw [zu] at h;obtain ⟨v,r,rfl,_,g⟩:=h;rw [Qw,Qw,zu.len g]
theorem zu.at {H:Hp}:∀{xs:List PyData} {vs:List V} {i:Nat} {x:PyData},zu H xs vs->xs[i]? =some x->∃v,vs[i]? =some v/\Is H x v
 |[],_,_,_,_,e=>by simp at e
 |y::xs,vs,i,x,h,e=>by
  rw [zu] at h;obtain ⟨v,r,rfl,m,g⟩:=h
  cases i with
  |zero=>simp at e;subst e;exact ⟨v,rfl,m⟩
  |succ i=>simpa using zu.at g (by simpa using e)
theorem zu.app {H:Hp}:∀{xs ys:List PyData} {vs ws:List V},zu H xs vs->zu H ys ws->zu H (xs++ys) (vs++ws)
 |[],ys,vs,ws,h,g=>by rw [zu] at h;subst h;exact g
 |x::xs,ys,vs,ws,h,g=>by
  rw [zu] at h;obtain ⟨v,r,rfl,p,m⟩:=h;rw [TH,TH,zu];exact ⟨v,_,rfl,p,zu.app m g⟩
theorem Zj {H:Hp} {xs:List PyData} {vs:List V}:zu H xs vs↔xs.length=vs.length/\∀(i:Nat) (x:PyData) (v:V),xs[i]? =some x->vs[i]? =some v->Is H x v:=by
 constructor
 ·intro h;refine ⟨h.len,λi x v m p=>?_⟩;obtain ⟨w,hw,g⟩:=h.at m;rw [p] at hw;cases hw;exact g
 ·rintro ⟨r,q⟩
  have:=sS (R:=λ(a:PyData) v=>Is H a v) (f:=id) (λ_ _ z=>z) r q
  simpa using this
theorem zu.take {H:Hp} {xs:List PyData} {vs:List V} (h:zu H xs vs) (n:Nat):zu H (xs.take n) (vs.take n):=by
 rw [Zj] at h⊢;refine ⟨by rw [Tr,Tr,h.1],λi x v g m=>?_⟩;rw [List.getElem?_take] at g m
 split at g
 ·rename_i c;rw [QH c] at m;exact h.2 i x v g m
 ·cases g
theorem zu.drop {H:Hp} {xs:List PyData} {vs:List V} (h:zu H xs vs) (n:Nat):zu H (xs.drop n) (vs.drop n):=by
 rw [Zj] at h⊢;refine ⟨by rw [QZ,QZ,h.1],λi x v g m=>?_⟩;rw [jaw] at g m;exact h.2 _ x v g m
theorem zu.set {H:Hp} {xs:List PyData} {vs:List V} {x:PyData} {v:V} (h:zu H xs vs) (g:Is H x v) (n:Nat):zu H (xs.set n x) (vs.set n v):=by
 rw [Zj] at h⊢;refine ⟨by rw [jaS,jaS,h.1],λi y w p m=>?_⟩;rw [List.getElem?_set] at p m;rw [<-h.1] at m
 split at p
 ·rename_i c;rw [QH c] at m
  split at p
  ·rename_i q;rw [QH q] at m;cases p;cases m;exact g
  ·cases p
 ·rename_i c;rw [QS c] at m;exact h.2 i y w p m
section
variable {B G0 H H':Hp} {cs cs':zY} {ds ds':Dat} {x y:PyData} {v w:V} {xs ys:List PyData} {vs:List V} {D:Addr} {p:Addr}
theorem Sta.enter {G:Hp} (e:zH G H) (h:Xn G ds):Sta H G H [] ds:=
 ⟨G,zH.refl _,e,zH.refl _,λ_ _=>rfl,λc g=>absurd g (Qx),List.nodup_nil,h⟩
theorem Sta.base (S:Sta B G0 H cs ds):zH B H:=by
 obtain ⟨_,_,_,b,_⟩:=S;exact b
theorem Sta.push (S:Sta B G0 H cs ds) (h:Has ds x v):Sta B G0 H cs ((x,v)::ds):=by
 obtain ⟨G,a,b,c,d,e,f,g⟩:=S;exact ⟨G,a,b,c,d,e,f,g.cons (h G g)⟩
theorem Sta.weak (S:Sta B G0 H cs ds) (h:cs'.Sublist cs) (hd:∀p∈ds',Has ds p.1 p.2):Sta B G0 H cs' ds':=by
 obtain ⟨G,a,b,c,d,e,f,g⟩:=S;exact ⟨G,a,b,c,d,λq m=>e q (h.subset m),f.sublist (h.map _),λp hp=>hd p hp G g⟩
theorem Sta.dat (S:Sta B G0 H cs ds) (hd:∀p∈ds',Has ds p.1 p.2):Sta B G0 H cs ds':=S.weak (jbf _) hd
theorem Sta.drop1 {q:PyData×V} (S:Sta B G0 H cs (q::ds)):Sta B G0 H cs ds:=S.dat λp hp=> .mem (Qf _ hp)
theorem Sta.dropC {q:Addr×List PyData} (S:Sta B G0 H (q::cs) ds):Sta B G0 H cs ds:=S.weak (List.sublist_cons_self _ _) λp hp=> .mem hp
theorem Sta.permC (S:Sta B G0 H cs ds) (h:cs.Perm cs'):Sta B G0 H cs' ds:=by
 obtain ⟨G,a,b,c,d,e,f,g⟩:=S;exact ⟨G,a,b,c,d,λq m=>e q (h.mem_iff.mpr m),(h.map _).nodup_iff.mp f,g⟩
theorem Sta.same (S:Sta B G0 H cs ds) (h:zH H H'):Sta B G0 H' cs ds:=
 let ⟨G,a,b,c,d,e,f,g⟩:=S;⟨G,a,b.trans h,c.trans h,d,λq m=>let ⟨x,y,vs,z,u⟩:=e q m;⟨x,y,vs,h _ _ z,u⟩,f,g⟩
theorem He.grow {G m:Hp} (S:He B G0 H cs ds G) (h:Grow G H m H'):He B G0 H' cs ds m:=by
 obtain ⟨a,b,c,d,e,f,g⟩:=S;refine ⟨a.trans h.g,h.sub,c.trans h.h,λp hp=>?_,λq r=>?_,f,g.mono h.g⟩
 ·rw [h.old p λz=>?_,d p hp]
  cases hb:B p with
  |none=>exact hp hb
  |some o=>rw [c _ _ hb] at z;cases z
 ·obtain ⟨x,y,vs,z,u⟩:=e q r;exact ⟨x,by rw [h.old q.1 (by rw [z];simp)];exact y,vs,h.h _ _ z,zu.mono h.g _ _ u⟩
theorem Sta.leave {G:Hp} (S:Sta H G H' cs ds):∃h,Grow G H h H'/\Xn h ds:=by
 obtain ⟨h,a,b,c,d,_,_,g⟩:=S;exact ⟨h,⟨c,a,b,d⟩,g⟩
theorem Sta.newT (S:Sta B G0 H cs ds) (hp:H p=none) (h:yc ds xs vs):Sta B G0 (upd H p (.tup vs)) cs ((.tuple xs, .ref p)::ds):=by
 obtain ⟨G,a,b,c,d,e,f,g⟩:=S;have t:G p=none:=b.free hp;have s:=zH.new t (.tup vs);refine ⟨upd G p (.tup vs),a.trans s,λq o m=>?_,c.trans (zH.new hp _),λq m=>?_,λq m=>?_,f,(g.mono s).cons ?_⟩
 ·by_cases r:q=p
  ·subst r;rw [yE] at m⊢;exact m
  ·rw [yb r] at m⊢;exact b _ _ m
 ·have r:q≠p:=λz=>by subst z;exact m (c.free hp)
  rw [yb r];exact d q m
 ·obtain ⟨x,y,ws,z,u⟩:=e q m;have r:q.1≠p:=yh z hp;exact ⟨x,by rw [yb r];exact y,ws,by rw [yb r];exact z,zu.mono s _ _ u⟩
 ·rw [Is];exact ⟨p,vs,rfl,yE,zu.mono s _ _ (h G g)⟩
theorem Sta.newL (S:Sta B G0 H cs ds) (hp:H p=none) (h:yc ds xs vs):Sta B G0 (upd H p (.lst vs)) ((p,xs)::cs) ds:=by
 obtain ⟨G,a,b,c,d,e,f,g⟩:=S;have s:G p=none:=b.free hp;refine ⟨G,a,b.trans (zH.new hp _),c.trans (zH.new hp _),d,λq m=>?_,?_,g⟩
 ·rcases Qk.mp m with rfl|m
  ·exact ⟨c.free hp,s,vs,yE,h G g⟩
  ·obtain ⟨x,y,ws,z,u⟩:=e q m;have r:q.1≠p:=yh z hp;exact ⟨x,y,ws,by rw [yb r];exact z,u⟩
 ·rw [Qp,TK];refine ⟨λz=>?_,f⟩;obtain ⟨q,m,r⟩:=Qj.mp z;obtain ⟨_,_,ws,z,_⟩:=e q m;rw [r,hp] at z;cases z
theorem Sta.freeze (S:Sta B G0 H ((D,xs)::cs) ds):Sta B G0 H cs ((.list xs, .ref D)::ds):=by
 obtain ⟨G,a,b,c,d,e,f,g⟩:=S;obtain ⟨x,y,vs,z,u⟩:=e _ (Qc ..);have r:=zH.new y (.lst vs);rw [Qp,TK] at f;refine ⟨upd G D (.lst vs),a.trans r,λq o h=>?_,c,λq h=>?_,λq h=>?_,f.2,(g.mono r).cons ?_⟩
 ·by_cases m:q=D
  ·subst m;rw [yE] at h;rw [<-h];exact z
  ·rw [yb m] at h;exact b _ _ h
 ·have m:q≠D:=λz=>by subst z;exact h x
  rw [yb m];exact d q h
 ·obtain ⟨A,t,ws,s,C⟩:=e q (Qf _ h);have m:q.1≠D:=λz=>f.1 (Qj.mpr ⟨q,h,z⟩);exact ⟨A,by rw [yb m];exact t,ws,s,zu.mono r _ _ C⟩
 ·rw [Is];exact ⟨D,vs,rfl,yE,zu.mono r _ _ u⟩
theorem Sta.cell (S:Sta B G0 H cs ds) (h:(D,xs)∈cs):∃vs,H D=some (.lst vs)/\xs.length=vs.length/\∀(i:Nat) (x:PyData),xs[i]? =some x->∃v,vs[i]? =some v/\Sta B G0 H cs ((x,v)::ds):=by
 obtain ⟨G,a,b,c,d,e,f,g⟩:=S;obtain ⟨_,_,vs,z,u⟩:=e _ h;refine ⟨vs,z,u.len,λi x m=>?_⟩;obtain ⟨v,q,k⟩:=u.at m;exact ⟨v,q,G,a,b,c,d,e,f,g.cons k⟩
theorem Sta.put (S:Sta B G0 H ((D,xs)::cs) ds):∃vs,H D=some (.lst vs)/\xs.length=vs.length/\∀ys ws,(∀G,Xn G ds->zu G xs vs->zu G ys ws)->Sta B G0 (upd H D (.lst ws)) ((D,ys)::cs) ds:=by
 obtain ⟨G,a,b,c,d,e,f,g⟩:=S;obtain ⟨x,y,vs,z,u⟩:=e _ (Qc ..);refine ⟨vs,z,u.len,λys ws h=>?_⟩
 have key:∀{A:Hp},zH A H->A D=none->zH A (upd H D (.lst ws)):=λ{A} s n q o m=>by
  rw [yb (yh m n)];exact s _ _ m
 have t:=f;rw [Qp,TK] at t;refine ⟨G,a,key b y,key c x,d,λq m=>?_,f,g⟩
 rcases Qk.mp m with rfl|m
 ·exact ⟨x,y,ws,yE,h G g u⟩
 ·obtain ⟨I,E,r,C,J⟩:=e q (Qf _ m);have K:q.1≠D:=λz=>t.1 (Qj.mpr ⟨q,m,z⟩);exact ⟨I,E,r,by rw [yb K];exact C,J⟩
theorem Sta.tup (S:Sta B G0 H cs ds) (h:Has ds (.tuple xs) v):∃p vs,v= .ref p/\H p=some (.tup vs)/\xs.length=vs.length/\∀(i:Nat) (x:PyData),xs[i]? =some x->∃w,vs[i]? =some w/\Sta B G0 H cs ((x,w)::ds):=by
 obtain ⟨G,a,b,c,d,e,f,g⟩:=S;have q:=h G g;rw [Is] at q;obtain ⟨p,vs,m,hp,u⟩:=q;refine ⟨p,vs,m,b _ _ hp,u.len,λi x r=>?_⟩;obtain ⟨v,m,k⟩:=u.at r;exact ⟨v,m,G,a,b,c,d,e,f,g.cons k⟩
theorem Sta.lst (S:Sta B G0 H cs ds) (h:Has ds (.list xs) v):∃p vs,v= .ref p/\H p=some (.lst vs)/\xs.length=vs.length/\∀(i:Nat) (x:PyData),xs[i]? =some x->∃w,vs[i]? =some w/\Sta B G0 H cs ((x,w)::ds):=by
 obtain ⟨G,a,b,c,d,e,f,g⟩:=S;have q:=h G g;rw [Is] at q;obtain ⟨p,vs,m,hp,u⟩:=q;refine ⟨p,vs,m,b _ _ hp,u.len,λi x r=>?_⟩;obtain ⟨v,m,k⟩:=u.at r;exact ⟨v,m,G,a,b,c,d,e,f,g.cons k⟩
theorem Sta.tupAll (S:Sta B G0 H cs ds) (h:Has ds (.tuple xs) v):∃p vs,v= .ref p/\H p=some (.tup vs)/\xs.length=vs.length/\Sta B G0 H cs (xs.zip vs++ds)/\∀G,Xn G (xs.zip vs++ds)->zu G xs vs:=by
 obtain ⟨G,a,b,c,d,e,f,g⟩:=S;have q:=h G g;rw [Is] at q;obtain ⟨p,vs,r,hp,u⟩:=q;refine ⟨p,vs,r,b _ _ hp,u.len,⟨G,a,b,c,d,e,f,λq m=>?_⟩,λA z=>?_⟩
 ·rcases QX.mp m with m|m
  ·obtain ⟨i,s⟩:=Qu.mp m;rw [QW] at s;exact (Zj.mp u).2 i _ _ s.1 s.2
  ·exact g q m
 ·refine Zj.mpr ⟨u.len,λi x v t r=>?_⟩;exact z (x,v) (jah _ (Qu.mpr ⟨i,QW.mpr ⟨t,r⟩⟩))
theorem Sta.lstAll (S:Sta B G0 H cs ds) (h:Has ds (.list xs) v):∃p vs,v= .ref p/\H p=some (.lst vs)/\xs.length=vs.length/\Sta B G0 H cs (xs.zip vs++ds)/\∀G,Xn G (xs.zip vs++ds)->zu G xs vs:=by
 obtain ⟨G,a,b,c,d,e,f,g⟩:=S;have q:=h G g;rw [Is] at q;obtain ⟨p,vs,r,hp,u⟩:=q;refine ⟨p,vs,r,b _ _ hp,u.len,⟨G,a,b,c,d,e,f,λq m=>?_⟩,λA z=>?_⟩
 ·rcases QX.mp m with m|m
  ·obtain ⟨i,s⟩:=Qu.mp m;rw [QW] at s;exact (Zj.mp u).2 i _ _ s.1 s.2
  ·exact g q m
 ·refine Zj.mpr ⟨u.len,λi x v t r=>?_⟩;exact z (x,v) (jah _ (Qu.mpr ⟨i,QW.mpr ⟨t,r⟩⟩))
theorem Sta.cellAll (S:Sta B G0 H cs ds) (h:(D,xs)∈cs):∃vs,H D=some (.lst vs)/\xs.length=vs.length/\Sta B G0 H cs (xs.zip vs++ds)/\∀G,Xn G (xs.zip vs++ds)->zu G xs vs:=by
 obtain ⟨G,a,b,c,d,e,f,g⟩:=S;obtain ⟨_,_,vs,z,u⟩:=e _ h;refine ⟨vs,z,u.len,⟨G,a,b,c,d,e,f,λq m=>?_⟩,λC A=>?_⟩
 ·rcases QX.mp m with m|m
  ·obtain ⟨i,r⟩:=Qu.mp m;rw [QW] at r;exact (Zj.mp u).2 i _ _ r.1 r.2
  ·exact g q m
 ·refine Zj.mpr ⟨u.len,λi x v s t=>?_⟩;exact A (x,v) (jah _ (Qu.mpr ⟨i,QW.mpr ⟨s,t⟩⟩))
theorem Sta.hp (S:Sta B G0 H cs ds) (h:Has ds x v):Is H x v:=by
 obtain ⟨G,a,b,c,d,e,f,g⟩:=S;exact Is.mono b _ _ (h G g)
theorem Sta.hpC (S:Sta B G0 H cs ds) (h:(D,xs)∈cs):Is H (.list xs) (.ref D):=by
 obtain ⟨G,a,b,c,d,e,f,g⟩:=S;obtain ⟨_,_,vs,z,u⟩:=e _ h;rw [Is];exact ⟨D,vs,rfl,z,zu.mono b _ _ u⟩
end
def mkD (D:Ends) (u:L2.St->Hp->Prop):Ends:={D with nx:=u}
def mkL (D:Ends) (u:L2.St->Hp->Prop):Ends:={D with nx:=u,ct:=u,bk:=D.nx}
def endD (Q:VK):Ends:={nx:=λ_ H'=>Q .non H',rt:=Q}
section
variable {B G0 H:Hp} {cs:zY} {ds:Dat} {D:Ends} {σ:L2.St} {Q:VK} {x y:PyData} {v w:V} {xs:List PyData} {vs:List V} {K:PySem.W.Frag} {X:Cx}
theorem rd_seq {t u:TS} (h:t (mkD D (u D)) σ H):tSeq t u D σ H:=h
theorem rd_asg {m:TE} {g:TG} (h:m σ H λx H1=>g x σ H1 D.nx):Jm m g D σ H:=h
theorem zQ {i:Nat} {N:L2.St->Hp->Prop} (h:N (σ.set i (some v)) H):lJ i v σ H N:=h
theorem yY {t:TS} (h:t (endD Q) σ H):t {nx:=λ_ H'=>Q .non H',rt:=Q} σ H:=h
theorem rd_nx {u:L2.St->Hp->Prop} (h:u σ H):Ends.nx (mkD D u) σ H:=h
theorem rd_rt {u:L2.St->Hp->Prop} (h:Ends.rt D v H):Ends.rt (mkD D u) v H:=h
theorem Gw (h:Q v H):Ends.rt (endD Q) v H:=h
theorem rd_nxL {u:L2.St->Hp->Prop} (h:u σ H):Ends.nx (mkL D u) σ H:=h
theorem rd_rtL {u:L2.St->Hp->Prop} (h:Ends.rt D v H):Ends.rt (mkL D u) v H:=h
theorem rd_next (h:D.nx σ H):tNext D σ H:=h
theorem rd_ret {g:TE} (h:g σ H D.rt):tRet g D σ H:=h
theorem rd_drop {g:TE} (h:g σ H λ_ H1=>D.nx σ H1):tDrop g D σ H:=h
theorem rd_if {c:TT} {t u:TS} (h:c σ H λb H1=>if b=true then t D σ H1 else u D σ H1):tIfS c t u D σ H:=h
theorem rd_var {i:Nat} (e:σ[i]? =some (some v)) (h:Q v H):tVar i σ H Q:=⟨v,e,h⟩
theorem rd_c (h:Q v H):tC v σ H Q:=h
theorem rd_op {r:R2} {m g:TE} (h:m σ H λx H1=>g σ H1 λy p=>r x y p Q):tOp r m g σ H Q:=h
theorem rd_un {r:V->Hp->VK->Prop} {g:TE} (h:g σ H λx H1=>r x H1 Q):tUn r g σ H Q:=h
theorem rd_rI0 {g:Int->Int->V} {i j:Int} (h:Q (g i j) H):rI0 g (.int i) (.int j) H Q:=⟨i,j,rfl,rfl,h⟩
theorem rd_mulB {i j:Int} (c:IntMulOk i j) (h:Q (.int (i*j)) H):rI IntMulOk (λi j=> .int (i*j)) (.int i) (.int j) H Q:=⟨i,j,rfl,rfl,c,h⟩
theorem rd_modL {i j:Int} (c:0<j) (h:Q (.int (i % j)) H):rI (λ_ j=>0<j) (λi j=> .int (i % j)) (.int i) (.int j) H Q:=⟨i,j,rfl,rfl,c,h⟩
theorem rd_modN {i j:Int} (c:j≠0) (h:Q (.int (i.fmod j)) H):rI (λ_ j=>j≠0) (λi j=> .int (i.fmod j)) (.int i) (.int j) H Q:=⟨i,j,rfl,rfl,c,h⟩
theorem rd_fdivL {i j:Int} (c:CDiv i j) (h:Q (.int (i / j)) H):rI CDiv (λi j=> .int (i / j)) (.int i) (.int j) H Q:=⟨i,j,rfl,rfl,c,h⟩
theorem rd_fdivB {i j:Int} (c:CDv i j) (h:Q (.int (i.fdiv j)) H):rI CDv (λi j=> .int (i.fdiv j)) (.int i) (.int j) H Q:=⟨i,j,rfl,rfl,c,h⟩
theorem rd_pow {i j:Int} (c:CPow i j) (h:Q (.int (i ^ j.toNat)) H):rI CPow (λi j=> .int (i ^ j.toNat)) (.int i) (.int j) H Q:=⟨i,j,rfl,rfl,c,h⟩
theorem rd_rU {g:Int->V} {i:Int} (h:Q (g i) H):rU g (.int i) H Q:=⟨i,rfl,h⟩
theorem rd_test {t:TE} {R:Bool->Hp->Prop} (h:t σ H λx H'=>∃k,x= .bl k/\R k H'):tTest t σ H R:=h
theorem rd_tB {t:TE} {R:Bool->Hp->Prop} (h:t σ H λx H'=>∃k,x= .bl k/\R k H'):tB t σ H R:=h
theorem rd_isbl {k:Bool} {R:Bool->Prop} (h:R k):∃g,V.bl k= .bl g/\R g:=⟨k,rfl,h⟩
theorem rd_not {t:TT} {R:Bool->Hp->Prop} (h:t σ H λc H1=>R (!c) H1):tNot t σ H R:=h
theorem rd_and {t u:TT} {R:Bool->Hp->Prop} (h:t σ H λc H1=>if c=true then u σ H1 R else R false H1):tAnd t u σ H R:=h
theorem rd_or {t u:TT} {R:Bool->Hp->Prop} (h:t σ H λc H1=>if c=true then R true H1 else u σ H1 R):tOr t u σ H R:=h
theorem rd_andV {m g:TE} (h:m σ H λx H1=>∃c,x= .bl c/\if c=true then g σ H1 Q else Q (.bl false) H1):tAndV m g σ H Q:=h
theorem rd_notV {g:TE} (h:g σ H λx H1=>∃c,x= .bl c/\Q (.bl (!c)) H1):tNotV g σ H Q:=h
theorem rd_nil {R:List V->Hp->Prop} (h:R [] H):tNil σ H R:=h
theorem rd_cons {m:TE} {g:TA} {R:List V->Hp->Prop} (h:m σ H λx H1=>g σ H1 λxs p=>R (x::xs) p):tCons m g σ H R:=h
theorem rd_call {sp:Sp} {E:XK} {t:TA} (h:t σ H λvs H1=>sp vs H1 Q E):uv sp [] E t σ H Q:=by
 unfold uv
 simpa only [jaR] using h
theorem rd_cb {r:List V->Hp->VK->Prop} {t:TA} (h:t σ H λvs H1=>r vs H1 Q):tCB r t σ H Q:=h
theorem rd_aug {i:Nat} {m:TE} {g:TIp} (e:σ[i]? =some (some v)) (h:m σ H λy H1=>g v y H1 λz p=>D.nx (σ.set i (some z)) p):tAug i m g D σ H:=⟨v,e,h⟩
theorem rd_ipI {f:Int->Int->Int} {i j:Int} (h:Q (.int (f i j)) H):ipI f (.int i) (.int j) H Q:=⟨i,j,rfl,rfl,h⟩
theorem rd_par {i j:Nat} {g:TA} (h:g σ H λvs H1=>∃v w,vs=[v,w]/\D.nx ((σ.set i (some v)).set j (some w)) H1):tPar i j g D σ H:=h
theorem rd_is2 {R:V->V->Prop} (h:R v w):∃m g,[v,w]=[m,g]/\R m g:=⟨v,w,rfl,h⟩
def rEqA:R2:=λx y H Q=>rEq x y H Q\/rEqD x y H Q
def rNeA:R2:=λx y H Q=>rNe x y H Q\/rNeD x y H Q
theorem je (g:X.A.units+64<cLine):OpR X (compareOp .Eq) rEqA:=op_eq.or (op_eqD g)
theorem AX (g:X.A.units+64<cLine):OpR X (compareOp .NotEq) rNeA:=op_ne.or (op_neD g)
theorem gh {a b:Prop} [Decidable a] [Decidable b] (h:a↔b):decide a=decide b:=by
 by_cases ha:a
 ·rw [Tp ha,Tp (h.mp ha)]
 ·rw [Tb ha,Tb (λz=>ha (h.mpr z))]
theorem rd_eqI {i j:Int} (h:Q (.bl (decide (i=j))) H):rEqA (.int i) (.int j) H Q:= .inl ⟨rfl,by
 rw [gh (show V.int i=V.int j↔i=j from ⟨V.int.inj,congrArg _⟩)];exact h⟩
theorem rd_neI {i j:Int} (h:Q (.bl (!decide (i=j))) H):rNeA (.int i) (.int j) H Q:= .inl ⟨rfl,by
 rw [gh (show V.int i=V.int j↔i=j from ⟨V.int.inj,congrArg _⟩)];exact h⟩
theorem rd_eqD (m:Is H x v) (g:Is H y w) (s1:SeqAt.shaped x=true) (s2:SeqAt.shaped y=true) (h:Q (.bl (PyData.eqv x y)) H):rEqA v w H Q:= .inr ⟨x,y,m,g,s1,s2,h⟩
theorem iY (m:Is H x v) (g:Is H y w) (s1:SeqAt.shaped x=true) (s2:SeqAt.shaped y=true) (h:Q (.bl (!PyData.eqv x y)) H):rNeA v w H Q:= .inr ⟨x,y,m,g,s1,s2,h⟩
def kTup (Q:VK) (xs:List V) (H:Hp):Prop:=xs.length<=sizeLine/\∀p,H p=none->Q (.ref p) (upd H p (.tup xs))
def kLst (Q:VK) (xs:List V) (H:Hp):Prop:=xs.length<=sizeLine/\∀p,H p=none->Q (.ref p) (upd H p (.lst xs))
theorem rd_tup {t:TA} (h:t σ H (kTup Q)):tTup t σ H Q:=h
theorem rd_lst {t:TA} (h:t σ H (kLst Q)):tLst t σ H Q:=h
theorem rd_kTup (S:Sta B G0 H cs ds) (h:yc ds xs vs) (g:vs.length<=1000) (k:∀p H',zH H H'->Sta B G0 H' cs ((.tuple xs, .ref p)::ds)->Q (.ref p) H'):kTup Q vs H:=
 ⟨jbo (WE g),λp hp=>k p _ (zH.new hp _) (S.newT hp h)⟩
theorem AG (S:Sta B G0 H cs ds) (h:yc ds xs vs) (g:vs.length<=1000) (k:∀p H',zH H H'->Sta B G0 H' ((p,xs)::cs) ds->Q (.ref p) H'):kLst Q vs H:=
 ⟨jbo (WE g),λp hp=>k p _ (zH.new hp _) (S.newL hp h)⟩
theorem CD {α β:Type} {xs:List α} {ys:List β} {i:Int} {x:α} (m:xs.length=ys.length) (h:atI xs i=some x):∃j:Nat,xs[j]? =some x/\∀y,ys[j]? =some y->atI ys i=some y:=by
 unfold atI at h⊢;rw [<-m]
 cases e:ixN xs.length i with
 |none=>rw [e] at h;cases h
 |some j=>rw [e] at h;exact ⟨j,h,λy g=>g⟩
theorem ja {i:Int} (S:Sta B G0 H cs ds) (h:Has ds (.tuple xs) v) (r:atI xs i=some x) (k:∀w,Sta B G0 H cs ((x,w)::ds)->Q w H):rIx K v (.int i) H Q:=by
 obtain ⟨p,vs,rfl,hp,m,z⟩:=S.tup h;obtain ⟨j,q,g⟩:=CD m r;obtain ⟨w,hw,s⟩:=z j x q;exact .inr (.inl ⟨p,vs,i,w,rfl,rfl,SqT.of hp,g _ hw,k w s⟩)
theorem Sta.top {n:PyData} (S:Sta B G0 H cs ((n,v)::ds)):Is H n v:=S.hp (.mem (Qc ..))
theorem rd_ixTI {i n:Int} (S:Sta B G0 H cs ds) (g:Has ds (.tuple xs) v) (h:atI xs i=some (.int n)) (k:Q (.int n) H):rIx K v (.int i) H Q:=
 ja S g h λw m=>by have:=m.top;rw [Is] at this;subst this;exact k
theorem yS {i:Int} (S:Sta B G0 H cs ds) (h:Has ds (.list xs) v) (r:atI xs i=some x) (k:∀w,Sta B G0 H cs ((x,w)::ds)->Q w H):rIx K v (.int i) H Q:=by
 obtain ⟨p,vs,rfl,hp,m,z⟩:=S.lst h;obtain ⟨j,q,g⟩:=CD m r;obtain ⟨w,hw,s⟩:=z j x q;exact .inl ⟨p,vs,i,w,rfl,rfl,SqL.of hp,g _ hw,k w s⟩
theorem WN {i n:Int} (S:Sta B G0 H cs ds) (g:Has ds (.list xs) v) (h:atI xs i=some (.int n)) (k:Q (.int n) H):rIx K v (.int i) H Q:=
 yS S g h λw m=>by have:=m.top;rw [Is] at this;subst this;exact k
theorem YT {i:Int} {L:Addr} (S:Sta B G0 H cs ds) (h:(L,xs)∈cs) (q:atI xs i=some x) (k:∀w,Sta B G0 H cs ((x,w)::ds)->Q w H):rIx K (.ref L) (.int i) H Q:=by
 obtain ⟨vs,hp,m,z⟩:=S.cell h;obtain ⟨j,p,g⟩:=CD m q;obtain ⟨w,hw,r⟩:=z j x p;exact .inl ⟨L,vs,i,w,rfl,rfl,SqL.of hp,g _ hw,k w r⟩
theorem kH {i n:Int} {L:Addr} (S:Sta B G0 H cs ds) (g:(L,xs)∈cs) (h:atI xs i=some (.int n)) (k:Q (.int n) H):rIx K (.ref L) (.int i) H Q:=
 YT S g h λw m=>by have:=m.top;rw [Is] at this;subst this;exact k
theorem rd_ixS {i:Int} {a:Addr} {ns:List Int} (g:SqL K H a (ns.map V.int)) (h0:0<=i) (h:i<(ns.length:Int)) (k:Q (.int (ns.getD i.toNat 0)) H):rIx K (.ref a) (.int i) H Q:=
 .inl ⟨a,_,i,_,rfl,rfl,g,FV h0 h,k⟩
def rLen (K:PySem.W.Frag):List V->Hp->VK->Prop:=λxs H Q=>∃p ys,xs=[.ref p]/\(SqL K H p ys\/SqT K H p ys)/\Q (.int ys.length) H
theorem xh:Vf X (.builtin "len") (rLen X.K):=oF
theorem rd_lenL (S:Sta B G0 H cs ds) (g:Has ds (.list xs) v) (k:Q (.int xs.length) H):rLen K [v] H Q:=by
 obtain ⟨p,vs,rfl,hp,h,_⟩:=S.lst g;exact ⟨p,vs,rfl, .inl (SqL.of hp),by rw [<-h];exact k⟩
theorem rd_lenC {L:Addr} (S:Sta B G0 H cs ds) (g:(L,xs)∈cs) (k:Q (.int xs.length) H):rLen K [.ref L] H Q:=by
 obtain ⟨vs,hp,h,_⟩:=S.cell g;exact ⟨L,vs,rfl, .inl (SqL.of hp),by rw [<-h];exact k⟩
theorem HP {a:Addr} {ns:List Int} (g:SqL K H a (ns.map V.int)) (k:Q (.int ns.length) H):rLen K [.ref a] H Q:=
 ⟨a,_,rfl, .inl g,by rw [Qa];exact k⟩
def rAbs:List V->Hp->VK->Prop:=λxs H Q=>∃i,xs=[.int i]/\Q (.int (if i<0 then -i else i)) H
theorem call_absA:Vf X (.builtin "abs") rAbs:=FA
theorem rd_abs {i:Int} (k:Q (.int (i.natAbs:Int)) H):rAbs [.int i] H Q:=⟨i,rfl,by
 rw [show (if i<0 then -i else i)=(i.natAbs:Int) by split<;>omega];exact k⟩
def rMin:List V->Hp->VK->Prop:=λxs H Q=>∃i j,xs=[.int i, .int j]/\Q (.int (if j<i then j else i)) H
theorem Cw (g:X.calm=true):Vf X (.builtin "min") rMin:=Cy g
theorem rd_min {i j:Int} (k:Q (.int (min i j)) H):rMin [.int i, .int j] H Q:=⟨i,j,rfl,by
 rw [show (if j<i then j else i)=min i j by split<;>omega];exact k⟩
def AN (K:PySem.W.Frag):List V->Hp->VK->Prop:=λxs H Q=>∃p ys,xs=[.ref p]/\(SqL K H p ys\/SqT K H p ys)/\∀l,H l=none->Q (.ref l) (upd H l (.lst ys))
theorem Jp:Vf X (.type "list") (AN X.K):=oE
def si (K:PySem.W.Frag):List V->Hp->VK->Prop:=λxs H Q=>∃p ys,xs=[.ref p]/\((SqL K H p ys/\∀l,H l=none->Q (.ref l) (upd H l (.tup ys)))\/(SqT K H p ys/\Q (.ref p) H))
theorem IV:Vf X (.type "tuple") (si X.K):=lM
theorem rd_listT (S:Sta B G0 H cs ds) (h:Has ds (.tuple xs) v) (k:∀l H',zH H H'->Sta B G0 H' ((l,xs)::cs) ds->Q (.ref l) H'):AN K [v] H Q:=by
 obtain ⟨p,vs,rfl,hp,g,s,r⟩:=S.tupAll h;exact ⟨p,vs,rfl, .inr (SqT.of hp),λl g=>k l _ (zH.new g _) ((s.newL g r).dat λq m=> .mem (Qz _ m))⟩
theorem rd_tupleC {L:Addr} (S:Sta B G0 H cs ds) (m:(L,xs)∈cs) (k:∀l H',zH H H'->Sta B G0 H' cs ((.tuple xs, .ref l)::ds)->Q (.ref l) H'):si K [.ref L] H Q:=by
 obtain ⟨vs,hp,h,r,p⟩:=S.cellAll m
 exact ⟨L,vs,rfl, .inl ⟨SqL.of hp,λl h=>k l _ (zH.new h _) ((r.newT h p).dat λq g=> .mem (by
  rcases Qk.mp g with rfl|g
  ·exact Qc ..
  ·exact Qf _ (Qz _ g)))⟩⟩
def kBM (K:PySem.W.Frag) (T:String) (r:V->List V->Hp->VK->Prop) (t:TA) (σ:L2.St) (Q:VK):VK:=λx H1=>tyV K T x H1/\t σ H1 λxs g=>r x xs g Q
theorem rd_bm {T:String} {r:V->List V->Hp->VK->Prop} {to:TE} {t:TA} (h:to σ H (kBM K T r t σ Q)):tBM K T r to t σ H Q:=h
theorem rd_kBM {L:Addr} {r:V->List V->Hp->VK->Prop} {t:TA} (S:Sta B G0 H cs ds) (g:(L,xs)∈cs) (h:t σ H λys m=>r (.ref L) ys m Q):kBM K "list" r t σ Q (.ref L) H:=by
 obtain ⟨vs,hp,p,_⟩:=S.cell g;exact ⟨.inl ⟨rfl,_,SqL.of hp⟩,h⟩
theorem xw {L:Addr} (S:Sta B G0 H ((L,xs)::cs) ds) (g:Has ds y w) (hz:xs.length<=1000) (k:∀H',Sta B G0 H' ((L,xs++[y])::cs) ds->Q .non H'):AQ (.ref L) [w] H Q:=by
 obtain ⟨vs,hp,h,put⟩:=S.put;exact ⟨L,vs,w,rfl,rfl,hp,WE (by omega),k _ (put _ _ λG a u=>u.app (by rw [zu];exact ⟨w,[],rfl,g G a,by rw [zu]⟩))⟩
theorem kB {L:Addr} {i:Int} {j:Nat} {R:Hp->Prop} (S:Sta B G0 H ((L,xs)::cs) ds) (g:Has ds y w) (m:ixN xs.length i=some j) (k:∀H',Sta B G0 H' ((L,xs.set j y)::cs) ds->R H'):rSetL (.ref L) (.int i) w H R:=by
 obtain ⟨vs,hp,h,put⟩:=S.put;exact ⟨L,vs,i,j,rfl,rfl,hp,by rw [<-h];exact m,k _ (put _ _ λG a u=>u.set (g G a) j)⟩
def gP (xs:List PyData) (lo g:Option Int):List PyData:=(xs.drop (HT.sIx xs.length 0 lo)).take (HT.sIx xs.length xs.length g - HT.sIx xs.length 0 lo)
theorem fe {lo g:Option Int} (S:Sta B G0 H cs ds) (h:Has ds (.list xs) v) (k:∀l H',zH H H'->Sta B G0 H' ((l,gP xs lo g)::cs) ds->Q (.ref l) H'):rSlL K v lo g H Q:=by
 obtain ⟨p,vs,rfl,hp,r,t,s⟩:=S.lstAll h;refine ⟨p,vs,rfl,SqL.of hp,λl hn=>k l _ (zH.new hn _) ((t.newL hn λG a=>?_).dat λq m=> .mem (Qz _ m))⟩;unfold gP GV;rw [r];exact ((s G a).drop _).take _
theorem ff {lo g:Option Int} {L:Addr} (S:Sta B G0 H cs ds) (h:(L,xs)∈cs) (k:∀l H',zH H H'->Sta B G0 H' ((l,gP xs lo g)::cs) ds->Q (.ref l) H'):rSlL K (.ref L) lo g H Q:=by
 obtain ⟨vs,hp,p,s,r⟩:=S.cellAll h;refine ⟨L,vs,rfl,SqL.of hp,λl hn=>k l _ (zH.new hn _) ((s.newL hn λG a=>?_).dat λq m=> .mem (Qz _ m))⟩;unfold gP GV;rw [p];exact ((r G a).drop _).take _
end
theorem mulModOk {a b m n:Int} (h:(0<m/\m<2 ^ 64)/\(0<n/\n<2 ^ 64)):IntMulOk (a % m) (b % n):=by
 have s:=jad a (show m≠0 by omega);have r:=jao a h.1.1;have q:=jad b (show n≠0 by omega);have p:=jao b h.2.1;have e:(2:Nat) ^ 64=18446744073709551616:=by decide
 have g:(2:Int) ^ 64=18446744073709551616:=by decide
 rw [g] at h;exact Sz.mulOk (m:=64) (n:=64) (by unfold Sz;rw [e];omega) (by unfold Sz;rw [e];omega) (by decide)
theorem iteNF {A B:Prop} (h:A):if (!false)=true then A else B:=h
theorem iteNT {A B:Prop} (h:B):if (!true)=true then A else B:=h
section
variable {B G0 H:Hp} {cs:zY} {ds:Dat} {Q:VK} {v:V} {xs zs:List PyData} {K:PySem.W.Frag} {X:Cx} {L M:Addr}
def Ea:R2:=λx y H Q=>rI0 (λi j=> .int (i+j)) x y H Q\/rCat x y H Q
theorem kN:OpR X (binaryOp .Add) Ea:=op_add.or op_cat
theorem rd_addI {i j:Int} (h:Q (.int (i+j)) H):Ea (.int i) (.int j) H Q:= .inl ⟨i,j,rfl,rfl,h⟩
def Vw (B G0 H:Hp) (cs:zY) (ds:Dat) (L:Addr) (xs:List PyData):Prop:=∃vs,H L=some (.lst vs)/\∀G,He B G0 H cs ds G->zu G xs vs
theorem Sta.vwL (S:Sta B G0 H cs ds) (h:Has ds (.list xs) (.ref L)):Vw B G0 H cs ds L xs:=by
 obtain ⟨G,S⟩:=S;have q:=h G S.2.2.2.2.2.2;rw [Is] at q;obtain ⟨p,vs,e,hp,u⟩:=q;cases e;have m:=S.2.1 _ _ hp;refine ⟨vs,m,λw g=>?_⟩;have q:=h w g.2.2.2.2.2.2;rw [Is] at q;obtain ⟨p,r,e,t,s⟩:=q;cases e;have:=g.2.1 _ _ t;rw [m] at this;cases this;exact s
theorem Sta.vwC (S:Sta B G0 H cs ds) (h:(L,xs)∈cs):Vw B G0 H cs ds L xs:=by
 obtain ⟨G,S⟩:=S;obtain ⟨_,_,vs,z,u⟩:=S.2.2.2.2.1 _ h;refine ⟨vs,z,λr q=>?_⟩;obtain ⟨_,_,m,g,p⟩:=q.2.2.2.2.1 _ h;rw [z] at g;cases g;exact p
theorem xU (S:Sta B G0 H cs ds) (v1:Vw B G0 H cs ds L xs) (v2:Vw B G0 H cs ds M zs) (hz:xs.length+zs.length<=1000)
 (k:∀p H',zH H H'->Sta B G0 H' ((p,xs++zs)::cs) ds->Q (.ref p) H'):Ea (.ref L) (.ref M) H Q:=by
 obtain ⟨us,C,t⟩:=v1;obtain ⟨ws,A,s⟩:=v2;obtain ⟨G,m⟩:=id S;refine .inr ⟨L,M,us,ws,rfl,rfl,C,A,jbo (WE (by rw [<-(t G m).len,<-(s G m).len];exact hz)),λp hp=>k p _ (zH.new hp _) ?_⟩;obtain ⟨a,b,c,d,e,f,g⟩:=id m;have w:G p=none:=b.free hp;refine ⟨G,a,b.trans (zH.new hp _),c.trans (zH.new hp _),d,λq h=>?_,?_,g⟩
 ·rcases Qk.mp h with rfl|h
  ·exact ⟨c.free hp,w,_,yE,(t G m).app (s G m)⟩
  ·obtain ⟨x,y,ws,z,u⟩:=e q h;have r:q.1≠p:=yh z hp;exact ⟨x,y,ws,by rw [yb r];exact z,u⟩
 ·rw [Qp,TK];refine ⟨λz=>?_,f⟩;obtain ⟨q,h,r⟩:=Qj.mp z;obtain ⟨_,_,ws,z,_⟩:=e q h;rw [r,hp] at z;cases z
def rSum (K:PySem.W.Frag):List V->Hp->VK->Prop:=λxs H Q=>∃(p:Addr) (ns:List Int),xs=[.ref p]/\SqL K H p (ns.map V.int)/\Q (.int ns.sum) H
theorem call_sumA (C:X.calm=true):Vf X (.builtin "sum") (rSum X.K):=by
 intro pins s σ H xs us Q I r h;obtain ⟨p,ns,rfl,y,q⟩:=h;obtain ⟨u,rfl,t⟩:=gR r;cases t;obtain ⟨its,w,pl,_⟩:=I.list y;have g:=Vr w;obtain ⟨ys,e⟩:=g.allInts.items;have z:s.heap.IsList p (intItems ys):=e▸pl.isList;have m:ys.toList.map (·.1)=ns:=by rw [<-nums_intItems,<-e];exact g.numsOf
 refine sum_intListG (I.ok.hd C) z λh' tk t' A=>?_;refine ⟨.int ns.sum,H,I.kept (t':=tk) A,⟨t',?_⟩,q⟩;rw [preSum_eq,m,QQ (by rw [<-m];simp)]
theorem yF {G:Hp}:∀{ns:List Int} {vs:List V},zu G (ns.map PyData.int) vs->vs=ns.map V.int
 |[],vs,h=>by rw [jaY,zu] at h;exact h
 |n::ns,vs,h=>by
  rw [Qp,zu] at h;obtain ⟨v,r,rfl,g,m⟩:=h;rw [Is] at g;subst g;rw [yF m,Qp]
theorem rd_sumC {ns:List Int} (S:Sta B G0 H cs ds) (h:(L,ns.map PyData.int)∈cs) (k:Q (.int ns.sum) H):rSum K [.ref L] H Q:=by
 obtain ⟨vs,hp,u⟩:=S.vwC h;obtain ⟨G,g⟩:=id S;rw [yF (u G g)] at hp;exact ⟨L,ns,rfl,SqL.of hp,k⟩
theorem rd_sumL {ns:List Int} (S:Sta B G0 H cs ds) (h:Has ds (.list (ns.map PyData.int)) v) (k:Q (.int ns.sum) H):rSum K [v] H Q:=by
 obtain ⟨p,vs,rfl,_⟩:=S.lst h;obtain ⟨vs,hp,u⟩:=S.vwL h;obtain ⟨G,g⟩:=id S;rw [yF (u G g)] at hp;exact ⟨_,ns,rfl,SqL.of hp,k⟩
end
def Ro (B g:Hp) (L:Addr) (xs:List PyData):Prop:=g L=none/\∃vs,B L=some (.lst vs)/\zu g xs vs
def Src (B g:Hp) (b:Bool) (K:PySem.W.Frag) (a:Addr) (xs:List PyData) (P:zY->Dat->Prop):Prop:=∀{H:Hp} {cs:zY} {ds:Dat},Sta B g H cs ds->P cs ds->
 ∃vs,SqB b K H a vs/\xs.length=vs.length/\∀(i:Nat) (x:PyData),xs[i]? =some x->∃v,vs[i]? =some v/\Sta B g H cs ((x,v)::ds)
structure Wk (B G0:Hp) (J:It) (xs:List PyData) (P:zY->Dat->Prop):Prop where
 go:∀{H:Hp} {cs:zY} {ds:Dat} {i:Nat},Sta B G0 H cs ds->P cs ds->i<xs.length->J.go i H
 stop:∀{H:Hp} {cs:zY} {ds:Dat} {i:Nat},Sta B G0 H cs ds->P cs ds->xs.length<=i->J.stop i H
 yld:∀{H H':Hp} {cs:zY} {ds:Dat} {i:Nat} {x:PyData} {v:V},Sta B G0 H cs ds->P cs ds->xs[i]? =some x->J.yld i H v H'->zH H H'/\Sta B G0 H' cs ((x,v)::ds)
section
variable {B G0 H:Hp} {cs:zY} {ds:Dat} {K:PySem.W.Frag} {a:Addr} {xs ys:List PyData} {P P':zY->Dat->Prop} {b c:Bool} {v:V}
theorem Vj:Src B G0 true K a xs (λ_ ds=>Has ds (.list xs) (.ref a)):=λS h=>by
 obtain ⟨p,vs,e,hp,g,z⟩:=S.lst h;cases e;exact ⟨vs,SqL.of hp,g,z⟩
theorem dQ:Src B G0 false K a xs (λ_ ds=>Has ds (.tuple xs) (.ref a)):=λS h=>by
 obtain ⟨p,vs,e,hp,g,z⟩:=S.tup h;cases e;exact ⟨vs,SqT.of hp,g,z⟩
theorem DD:Src B G0 true K a xs (λcs _=>(a,xs)∈cs):=λS h=>by
 obtain ⟨vs,hp,g,z⟩:=S.cell h;exact ⟨vs,SqL.of hp,g,z⟩
theorem wz (s:Src B G0 true K a xs P):Wk B G0 (Itl K a) xs P where
 go:=λ{H cs ds i} S h hi=>by
  obtain ⟨vs,q,g,_⟩:=s S h;exact ⟨vs,vs[i]'(by omega),q,Qe _⟩
 stop:=λ{H cs ds i} S h hi=>by
  obtain ⟨vs,q,g,_⟩:=s S h;exact ⟨vs,q,by omega⟩
 yld:=λ{H H' cs ds i x v} S h hx y=>by
  obtain ⟨e,y⟩:=y;subst e;obtain ⟨vs,q,g,z⟩:=s S h;obtain ⟨w,hw,m⟩:=z i x hx;have:=y vs q;rw [hw] at this;cases this;exact ⟨zH.refl _,m⟩
theorem wk_tup (s:Src B G0 false K a xs P):Wk B G0 (Itt K a) xs P where
 go:=λ{H cs ds i} S h hi=>by
  obtain ⟨vs,q,g,_⟩:=s S h;exact ⟨vs,vs[i]'(by omega),q,Qe _⟩
 stop:=λ{H cs ds i} S h hi=>by
  obtain ⟨vs,q,g,_⟩:=s S h;exact ⟨vs,q,by omega⟩
 yld:=λ{H H' cs ds i x v} S h hx y=>by
  obtain ⟨e,y⟩:=y;subst e;obtain ⟨vs,q,g,z⟩:=s S h;obtain ⟨w,hw,m⟩:=z i x hx;have:=y vs q;rw [hw] at this;cases this;exact ⟨zH.refl _,m⟩
def fj (lo:Int) (n:Nat):List PyData:=(List.range n).map λi=> .int (lo+(i:Nat))
theorem Yo (lo:Int) (n:Nat):(fj lo n).length=n:=by unfold fj;rw [Qa,jbw]
theorem YC {lo:Int} {n i:Nat} {x:PyData} (h:(fj lo n)[i]? =some x):i<n/\x= .int (lo+(i:Nat)):=by
 have g:i<n:=by have:=(Qg.mp h).1;rwa [Yo] at this
 unfold fj at h;rw [Qi,List.getElem?_range g] at h;exact ⟨g,(QK h).symm⟩
theorem rM {lo:Int} {n:Nat}:Wk B G0 (Itr lo n) (fj lo n) (λ_ _=>True) where
 go:=λ{H cs ds i} S h hi=>by rw [Yo] at hi;exact hi
 stop:=λ{H cs ds i} S h hi=>by rw [Yo] at hi;exact hi
 yld:=λ{H H' cs ds i x v} S h hx y=>by
  obtain ⟨e,y⟩:=y;obtain ⟨_,rfl⟩:=YC hx;subst e y;exact ⟨zH.refl _,S.push Has.int⟩
def qK (xs:List PyData):List PyData:=xs.mapIdx λi x=> .tuple [.int (i:Nat),x]
theorem xQ (xs:List PyData):(qK xs).length=xs.length:=by unfold qK;rw [List.length_mapIdx]
theorem Vx {xs:List PyData} {i:Nat} {y:PyData} (h:(qK xs)[i]? =some y):∃x,xs[i]? =some x/\y= .tuple [.int (i:Nat),x]:=by
 unfold qK at h;rw [List.getElem?_mapIdx] at h
 cases e:xs[i]? with
 |none=>rw [e] at h;cases h
 |some x=>rw [e] at h;exact ⟨x,rfl,(QK h).symm⟩
theorem wA (s:Src B G0 b K a xs P):Wk B G0 (ItE b K a) (qK xs) P where
 go:=λ{H cs ds i} S h hi=>by
  rw [xQ] at hi;obtain ⟨vs,q,g,_⟩:=s S h;exact ⟨vs,vs[i]'(by omega),q,Qe _⟩
 stop:=λ{H cs ds i} S h hi=>by
  rw [xQ] at hi;obtain ⟨vs,q,g,_⟩:=s S h;exact ⟨vs,q,by omega⟩
 yld:=λ{H H' cs ds i x v} S h hx y=>by
  obtain ⟨x0,A,rfl⟩:=Vx hx;obtain ⟨p,u,m,hp,rfl,rfl⟩:=y;obtain ⟨vs,q,g,z⟩:=s S h;obtain ⟨w,hw,t⟩:=z i x0 A;have:=m vs q;rw [hw] at this;cases this;refine ⟨zH.new hp _,(t.newT hp (xs:=[.int (i:Nat),x0]) (vs:=[.int (i:Nat),u]) (.cons Has.int (.cons (.mem (Qc ..)) .nil))).dat λr hr=> .mem ?_⟩
  rcases Qk.mp hr with rfl|hr
  ·exact Qc ..
  ·exact Qf _ (Qf _ hr)
def wb (xs ys:List PyData):List PyData:=List.zipWith (λx y=> .tuple [x,y]) xs ys
theorem Zc (xs ys:List PyData):(wb xs ys).length=min xs.length ys.length:=by unfold wb;rw [QO]
theorem VW {xs ys:List PyData} {i:Nat} {z:PyData} (h:(wb xs ys)[i]? =some z):∃x y,xs[i]? =some x/\ys[i]? =some y/\z= .tuple [x,y]:=by
 unfold wb at h;rw [QP] at h
 cases e:xs[i]? with
 |none=>rw [e] at h;cases h
 |some x=>
  cases e2:ys[i]? with
  |none=>rw [e,e2] at h;cases h
  |some y=>rw [e,e2] at h;exact ⟨x,y,rfl,rfl,(QK h).symm⟩
theorem wy {a2:Addr} (s:Src B G0 b K a xs P) (s2:Src B G0 c K a2 ys P'):Wk B G0 (ItZ b c K a a2) (wb xs ys) (λcs ds=>P cs ds/\(∀x v,P' cs ds->P' cs ((x,v)::ds))/\P' cs ds) where
 go:=λ{H cs ds i} S h hi=>by
  rw [Zc] at hi;obtain ⟨vs,q,C,_⟩:=s S h.1;obtain ⟨ws,g,D,_⟩:=s2 S h.2.2;exact ⟨vs,ws,vs[i]'(by omega),ws[i]'(by omega),q,g,Qe _,Qe _⟩
 stop:=λ{H cs ds i} S h hi=>by
  rw [Zc] at hi;obtain ⟨vs,q,C,_⟩:=s S h.1;obtain ⟨ws,g,D,_⟩:=s2 S h.2.2;exact ⟨vs,ws,q,g,by omega⟩
 yld:=λ{H H' cs ds i x v} S h hx y=>by
  obtain ⟨x0,A,M,m,rfl⟩:=VW hx;obtain ⟨p,u,E,G,J,hp,rfl,rfl⟩:=y;obtain ⟨vs,q,C,z⟩:=s S h.1;obtain ⟨w,hw,I⟩:=z i x0 M;obtain ⟨ws,g,D,z2⟩:=s2 I (h.2.1 _ _ h.2.2);obtain ⟨N,L,t⟩:=z2 i A m;have:=G vs q;rw [hw] at this;cases this;have:=J ws g;rw [L] at this;cases this;refine ⟨zH.new hp _,(t.newT hp (xs:=[x0,A]) (vs:=[u,E]) (.cons (.mem (Qf _ (Qc ..))) (.cons (.mem (Qc ..)) .nil))).dat λr hr=> .mem ?_⟩
  rcases Qk.mp hr with rfl|hr
  ·exact Qc ..
  ·exact Qf _ (Qf _ (Qf _ hr))
def kIL (K:PySem.W.Frag) (R:It->Hp->Prop):VK:=λx H1=>∃a,x= .ref a/\(∃xs,SqL K H1 a xs)/\R (Itl K a) H1
def kIT (K:PySem.W.Frag) (R:It->Hp->Prop):VK:=λx H1=>∃a,x= .ref a/\(∃xs,SqT K H1 a xs)/\R (Itt K a) H1
def kR1 (R:It->Hp->Prop):List V->Hp->Prop:=λvs H1=>∃j:Int,vs=[.int j]/\ -(2 ^ 62)<=j/\j<2 ^ 62/\R (Itr 0 j.toNat) H1
def kR2 (R:It->Hp->Prop):List V->Hp->Prop:=λvs H1=>∃i j:Int,vs=[.int i, .int j]/\(-(2 ^ 62)<=i/\i<2 ^ 62/\ -(2 ^ 62)<=j/\j<2 ^ 62)/\R (Itr i (j - i).toNat) H1
def kEn (b:Bool) (K:PySem.W.Frag) (R:It->Hp->Prop):List V->Hp->Prop:=λvs H1=>∃a,vs=[.ref a]/\(∃xs,SqB b K H1 a xs)/\R (ItE b K a) H1
def kZi (b c:Bool) (K:PySem.W.Frag) (R:It->Hp->Prop):List V->Hp->Prop:=λvs H1=>∃a1 a2,vs=[.ref a1, .ref a2]/\(∃xs,SqB b K H1 a1 xs)/\(∃ys,SqB c K H1 a2 ys)/\R (ItZ b c K a1 a2) H1
section
variable {σ:L2.St} {R:It->Hp->Prop} {tl:TE} {ta:TA}
theorem rd_iList (h:tl σ H (kIL K R)):iList K tl σ H R:=h
theorem rd_iTup (h:tl σ H (kIT K R)):iTup K tl σ H R:=h
theorem rd_iR1 (h:ta σ H (kR1 R)):iRng1 ta σ H R:=h
theorem rd_iR2 (h:ta σ H (kR2 R)):iRng2 ta σ H R:=h
theorem rd_iEn (h:ta σ H (kEn b K R)):iEnum b K ta σ H R:=h
theorem rd_iZi (h:ta σ H (kZi b c K R)):iZip b c K ta σ H R:=h
theorem nD {j:Int} (B G0:Hp) (h: -1000<=j) (g:j<=1000000) (k:∀J,Wk B G0 J (fj 0 j.toNat) (λ_ _=>True)->R J H):kR1 R [.int j] H:=⟨j,rfl,by omega,by omega,k _ rM⟩
theorem rd_kR2 {i j:Int} (B G0:Hp) (h: -1000<=i/\i<=1000000) (g: -1000<=j/\j<=1000000) (k:∀J,Wk B G0 J (fj i (j - i).toNat) (λ_ _=>True)->R J H):kR2 R [.int i, .int j] H:=⟨i,j,rfl,⟨by omega,by omega,by omega,by omega⟩,k _ rM⟩
end
def kGT (K:PySem.W.Frag) (n:Nat) (t:TGs) (σ:L2.St) (N:L2.St->Hp->Prop):VK:=λv H=>∃a xs,v= .ref a/\SqT K H a xs/\xs.length=n/\t xs σ H N
theorem YB {n:Nat} {t:TGs} {σ:L2.St} {N:L2.St->Hp->Prop} (h:kGT K n t σ N v H):gTup K n t v σ H N:=h
theorem rd_kGT {n:Nat} {t:TGs} {σ:L2.St} {N:L2.St->Hp->Prop} (S:Sta B G0 H cs ds) (h:Has ds (.tuple xs) v) (hn:xs.length=n) (k:∀vs,xs.length=vs.length->Sta B G0 H cs (xs.zip vs++ds)->t vs σ H N):kGT K n t σ N v H:=by
 obtain ⟨p,vs,rfl,hp,g,m,_⟩:=S.tupAll h;exact ⟨p,vs,rfl,SqT.of hp,by omega,k vs g m⟩
theorem YA {t:TGs} {σ:L2.St} {N:L2.St->Hp->Prop} {x y:PyData} (S:Sta B G0 H cs ds) (h:Has ds (.tuple [x,y]) v) (k:∀m g,Sta B G0 H cs ((x,m)::(y,g)::ds)->t [m,g] σ H N):kGT K 2 t σ N v H:=by
 refine rd_kGT S h rfl λvs p q=>?_
 rcases vs with _|⟨m,_|⟨g,_|⟨r,vs⟩⟩⟩<;>try cases p
 exact k m g q
theorem xR {t:TG} {u:TGs} {σ:L2.St} {N:L2.St->Hp->Prop} {vs:List V} (h:t v σ H λσ' H'=>u vs σ' H' N):gCons t u (v::vs) σ H N:=⟨v,vs,rfl,h⟩
theorem aP {σ:L2.St} {N:L2.St->Hp->Prop} (h:N σ H):gNil [] σ H N:=⟨rfl,h⟩
def kFor (g:TG) (p:TS) (D:Ends) (σ:L2.St):It->Hp->Prop:=λJ H1=>∃W:Nat->Nat->L2.St->Hp->Prop,(∃m,W 0 m σ H1)/\∀i m σ H,W i m σ H->
 (J.stop i H/\D.nx σ H)\/(J.go i H/\∃N:L2.St->Hp->Prop,(∀σ' H',N σ' H'->∃h,h<m/\W (i+1) h σ' H')/\∀x H',J.yld i H x H'->g x σ H' λσ2 H2=>p {D with nx:=N,ct:=N,bk:=D.nx} σ2 H2)
theorem rd_for {m:TI} {g:TG} {p:TS} {D:Ends} {σ:L2.St} (h:m σ H (kFor g p D σ)):tFor m g p D σ H:=h
def AtP (B G0:Hp) (Pv:L2.St->zY->Dat->Prop):L2.St->Hp->Prop:=λσ H=>∃cs ds,Sta B G0 H cs ds/\Pv σ cs ds
theorem Xs {Pv:L2.St->zY->Dat->Prop} {σ:L2.St} (S:Sta B G0 H cs ds) (h:Pv σ cs ds):AtP B G0 Pv σ H:=⟨cs,ds,S,h⟩
theorem Zo {J:It} {g:TG} {r:TS} {D:Ends} {σ:L2.St} (w:Wk B G0 J xs P) (Pv:Nat->L2.St->zY->Dat->Prop) (S:Sta B G0 H cs ds) (h0:Pv 0 σ cs ds) (q:∀i σ cs ds,Pv i σ cs ds->P cs ds)
 (s:∀(i:Nat) (x:PyData) (v:V) (σ:L2.St) (H:Hp) (cs:zY) (ds:Dat),xs[i]? =some x->Pv i σ cs ds->Sta B G0 H cs ((x,v)::ds)->g v σ H λσ2 H2=>r (mkL D (AtP B G0 (Pv (i+1)))) σ2 H2)
 (hd:∀(σ:L2.St) (H:Hp) (cs:zY) (ds:Dat),Pv xs.length σ cs ds->Sta B G0 H cs ds->D.nx σ H):kFor g r D σ J H:=by
 refine ⟨λi m σ H=>m=xs.length - i/\i<=xs.length/\AtP B G0 (Pv i) σ H,⟨xs.length,by simp,jai _,cs,ds,S,h0⟩,?_⟩
 rintro i m σ H ⟨rfl,hi,cs,ds,S,p⟩
 by_cases h:i<xs.length
 ·refine .inr ⟨w.go S (q _ _ _ _ p) h,AtP B G0 (Pv (i+1)),λσ' H' p'=>⟨xs.length - (i+1),by omega,rfl,h,p'⟩,λx H' y=>?_⟩;exact s i _ x σ H' cs ds (Qe h) p (w.yld S (q _ _ _ _ p) (Qe h) y).2
 ·have e:i=xs.length:=by omega
  subst e;exact .inl ⟨w.stop S (q _ _ _ _ p) (Qq _),hd σ H cs ds p S⟩
def WP (B G0:Hp) (Pv:Nat->L2.St->zY->Dat->Prop):Nat->L2.St->Hp->Prop:=λm σ H=>AtP B G0 (Pv m) σ H
def kWh (W:Nat->L2.St->Hp->Prop) (h:TS) (D:Ends) (m:Nat) (σ:L2.St):Bool->Hp->Prop:=λb H1=>if b=true then ∃N:L2.St->Hp->Prop,(∀σ' H',N σ' H'->∃g,g<m/\W g σ' H')/\h {D with nx:=N,ct:=N,bk:=D.nx} σ H1 else D.nx σ H1
theorem uC {g:TS} {D:Ends} {m:Nat} {σ:L2.St} {b:Bool} {W:Nat->L2.St->Hp->Prop} (r:b=true->g (mkL D (λσ' H'=>∃h,h<m/\W h σ' H')) σ H)
 (p:b=false->D.nx σ H):kWh W g D m σ b H:=by
 cases b with
 |true=>exact ⟨_,λσ' H' q=>q,r rfl⟩
 |false=>exact p rfl
theorem pF {c:TT} {g:TS} {D:Ends} {σ:L2.St} (W:Nat->L2.St->Hp->Prop) (m:Nat) (h0:W m σ H) (h:∀(m:Nat) (σ:L2.St) (H:Hp),W m σ H->c σ H (kWh W g D m σ)):wI c g D σ H:=⟨W,⟨m,h0⟩,h⟩
theorem mE {c:TT} {g:TS} {D:Ends} {σ:L2.St} (Pv:Nat->L2.St->zY->Dat->Prop) (m:Nat) (S:Sta B G0 H cs ds) (h0:Pv m σ cs ds)
 (h:∀(m:Nat) (σ:L2.St) (H:Hp) (cs:zY) (ds:Dat),Pv m σ cs ds->Sta B G0 H cs ds->c σ H (kWh (WP B G0 Pv) g D m σ)):wI c g D σ H:=
 ⟨WP B G0 Pv,⟨m,cs,ds,S,h0⟩,λm σ H ⟨cs,ds,S,p⟩=>h m σ H cs ds p S⟩
def Fh (n:Nat) (fr:List Nat) (g:Blk TG) (tt:Blk TT) (u:Blk TE) (σ:L2.St) (Q:VK):It->Hp->Prop:=λJ H1=>∀D,H1 D=none->∀C ex s0 q,
 ∃W:Nat->Nat->List V->Hp->Prop,(∃m,W 0 m [] (upd H1 D (.lst [])))/\∀i m ys h,W i m ys h->h D=some (.lst ys)/\
  ((J.stop i h/\Q (.ref D) h)\/(J.go i h/\∀x t,J.yld i h x t->g C ex s0 q x (List.replicate n none++frσ σ fr) t λσ4 H4=>σ4.drop n=frσ σ fr/\tt C ex s0 q σ4 H4 λb s=>
    if b=true then u C ex s0 q σ4 s λy r=>r D=some (.lst ys)/\ys.length<sizeLine/\∃p,p<m/\W (i+1) p (ys++[y]) (upd r D (.lst (ys++[y])))
    else ∃p,p<m/\W (i+1) p ys s))
theorem rd_comp {n:Nat} {fr:List Nat} {m:TI} {g:Blk TG} {tt:Blk TT} {p:Blk TE} {σ:L2.St} {Q:VK} (h:m σ H (Fh n fr g tt p σ Q)):uu n fr m g tt p σ H Q:=h
structure Turn1 (B G0:Hp) (cs:zY) (B' G':Hp):Prop where
 b:zH B B'
 ro:∀c∈cs,Ro B' G' c.1 c.2
 old:∀{L:Addr} {xs:List PyData},Ro B G0 L xs->Ro B' G' L xs
theorem gq {J:It} {n:Nat} {fr:List Nat} {g:Blk TG} {tt:Blk TT} {te:Blk TE} {σ:L2.St} {Q:VK} (w:Wk B G0 J xs P) (f:Nat->Option PyData) (S:Sta B G0 H cs ds) (Nh:∀D ys,P ((D,ys)::cs) ds) (hn:xs.length<=1000)
 (hs:∀(i:Nat) (x:PyData) (v:V) (t Z:Hp) (Kd:VK) (Kn:Hp->Prop),xs[i]? =some x->Turn1 B G0 cs t Z->Sta t Z t [] ((x,v)::ds)->
  (∀{z:PyData} {y:V} {r:Hp} {cs':zY} {ds':Dat},f i=some z->Sta t Z r cs' ds'->Has ds' z y->Kd y r)->(∀{s:Hp} {cs':zY} {ds':Dat},f i=none->Sta t Z s cs' ds'->Kn s)->
  ∀C ex s0 N,g C ex s0 N v (List.replicate n none++frσ σ fr) t λσ4 H4=>σ4.drop n=frσ σ fr/\tt C ex s0 N σ4 H4 λb s=>if b=true then te C ex s0 N σ4 s Kd else Kn s)
 (k:∀D H',zH H H'->Sta B G0 H' ((D,(List.range xs.length).filterMap f)::cs) ds->Q (.ref D) H'):Fh n fr g tt te σ Q J H:=by
 intro D hD C ex s0 N;have len:∀i,((List.range i).filterMap f).length<=i:=λi=>QT (jbg _ _) (by rw [jbw];exact Qq _);refine ⟨λi m ys M=>m=xs.length - i/\i<=xs.length/\M D=some (.lst ys)/\zH H M/\Sta B G0 M ((D,(List.range i).filterMap f)::cs) ds,⟨xs.length,by simp,jai _,yE,zH.new hD _,S.newL hD .nil⟩,?_⟩
 rintro i m ys M ⟨rfl,hi,Pp,T,X⟩
 refine ⟨Pp,?_⟩
 by_cases I:i<xs.length
 ·refine .inr ⟨w.go X (Nh _ _) I,λv Y y=>?_⟩;obtain ⟨U,G3,S3⟩:=w.yld X (Nh _ _) (Qe I) y;obtain ⟨a,b,c,d,e,f',g'⟩:=id S3;have E:Y D=some (.lst ys):=U _ _ Pp
  have t1:Turn1 B G0 cs Y G3:=by
   refine ⟨c,λq O=>?_,λ{L zs} ⟨r1,vs,r2,r3⟩=>?_⟩
   ·obtain ⟨_,y',vs,z',u'⟩:=e q (Qf _ O);exact ⟨y',vs,z',u'⟩
   ·exact ⟨by rw [d L (by rw [r2];simp)];exact r1,vs,c _ _ r2,zu.mono a _ _ r3⟩
  have up:∀{r:Hp} {cs':zY} {ds':Dat} {o:HO},zH H Y->H D=none->zH H r->zH H (upd r D o):=λ{r cs' ds' o} _ hn h q u O=>by
   rw [yb (yh O hn)];exact h _ _ O
  refine hs i _ v Y G3 _ _ (Qe I) t1 (Sta.enter b g') ?_ ?_ C ex s0 N
  ·intro z y6 r cs' ds' fz S6 hz;obtain ⟨G6,gr,al⟩:=S6.leave;have A:r D=some (.lst ys):=gr.h _ _ E;have S6':He B G0 r ((D,(List.range i).filterMap f)::cs) ((xs[i],v)::ds) G6:=S3.grow gr
   have S7:Sta B G0 r ((D,(List.range i).filterMap f)::cs) ((z,y6)::ds):=by
    obtain ⟨a',b',c',d',e',f'',g''⟩:=S6';exact ⟨G6,a',b',c',d',e',f'',Xn.cons (λp hp=>g'' p (Qf _ hp)) (hz G6 al)⟩
   obtain ⟨vs,hv,hl,put⟩:=S7.put;rw [A] at hv;cases hv;refine ⟨A,WE (by have:=len i;omega),xs.length - (i+1),by omega,rfl,I,yE,up (cs':=cs') (ds':=ds') (T.trans U) hD ((T.trans U).trans gr.h),?_⟩
   have er:(List.range (i+1)).filterMap f=(List.range i).filterMap f++[z]:=by
    rw [List.range_succ,List.filterMap_append];simp [fz]
   rw [er];exact (put _ _ λG a u=>u.app (by rw [zu];exact ⟨y6,[],rfl,a _ (Qc ..),by rw [zu]⟩)).drop1
  ·intro s cs' ds' fz S5;obtain ⟨G5,gr,al⟩:=S5.leave;have S5':Sta B G0 s ((D,(List.range i).filterMap f)::cs) ((xs[i],v)::ds):=⟨G5,S3.grow gr⟩
   have er:(List.range (i+1)).filterMap f=(List.range i).filterMap f:=by
    rw [List.range_succ,List.filterMap_append];simp [fz]
   exact ⟨xs.length - (i+1),by omega,rfl,I,gr.h _ _ E,(T.trans U).trans gr.h,by rw [er];exact S5'.drop1⟩
 ·have e:i=xs.length:=by omega
  subst e;exact .inl ⟨w.stop X (Nh _ _) (Qq _),k D M T X⟩
theorem IP {α β:Type} (g:α->β) (l:List α):l.filterMap (λi=>some (g i))=l.map g:=by
 induction l with
 |nil=>rfl
 |cons a l h=>simp [h]
theorem Zk {J:It} {n:Nat} {fr:List Nat} {g:Blk TG} {tt:Blk TT} {t:Blk TE} {σ:L2.St} {Q:VK} (w:Wk B G0 J xs P) (f:Nat->PyData) (z:(List.range xs.length).map f=ys) (S:Sta B G0 H cs ds) (G:∀D ys,P ((D,ys)::cs) ds) (hn:xs.length<=1000)
 (E:∀(i:Nat) (x:PyData) (v:V) (h m:Hp) (Kd:VK) (q:Hp->Prop),xs[i]? =some x->Turn1 B G0 cs h m->Sta h m h [] ((x,v)::ds)->
  (∀{y:V} {r:Hp} {cs':zY} {ds':Dat},Sta h m r cs' ds'->Has ds' (f i) y->Kd y r)->
  ∀C ex s0 s,g C ex s0 s v (List.replicate n none++frσ σ fr) h λσ4 H4=>σ4.drop n=frσ σ fr/\tt C ex s0 s σ4 H4 λb u=>if b=true then t C ex s0 s σ4 u Kd else q u)
 (k:∀D H',zH H H'->Sta B G0 H' ((D,ys)::cs) ds->Q (.ref D) H'):Fh n fr g tt t σ Q J H:=by
 refine gq w (λi=>some (f i)) S G hn (λi x v h m Kd q A t1 p hd _=>E i x v h m Kd q A t1 p λ{y r cs' ds'} a b=>hd rfl a b) λD H' e p=>k D H' e ?_;rw [IP,z] at p;exact p
theorem yt {R:It->Hp->Prop} (S:Sta B G0 H cs ds) (h:Has ds (.list xs) v) (k:∀J,Wk B G0 J xs (λ_ ds=>Has ds (.list xs) v)->R J H):kIL K R v H:=by
 obtain ⟨p,vs,rfl,hp,_⟩:=S.lst h;exact ⟨p,rfl,⟨_,SqL.of hp⟩,k _ (wz Vj)⟩
theorem HR {R:It->Hp->Prop} (S:Sta B G0 H cs ds) (h:Has ds (.tuple xs) v) (k:∀J,Wk B G0 J xs (λ_ ds=>Has ds (.tuple xs) v)->R J H):kIT K R v H:=by
 obtain ⟨p,vs,rfl,hp,_⟩:=S.tup h;exact ⟨p,rfl,⟨_,SqT.of hp⟩,k _ (wk_tup dQ)⟩
theorem AH {R:It->Hp->Prop} {L:Addr} (S:Sta B G0 H cs ds) (h:(L,xs)∈cs) (k:∀J,Wk B G0 J xs (λcs _=>(L,xs)∈cs)->R J H):kIL K R (.ref L) H:=by
 obtain ⟨vs,hp,_⟩:=S.cell h;exact ⟨L,rfl,⟨_,SqL.of hp⟩,k _ (wz DD)⟩
theorem HS {R:It->Hp->Prop} (S:Sta B G0 H cs ds) (h:Has ds (.tuple xs) v) (k:∀J,Wk B G0 J (qK xs) (λ_ ds=>Has ds (.tuple xs) v)->R J H):kEn false K R [v] H:=by
 obtain ⟨p,vs,rfl,hp,_⟩:=S.tup h;exact ⟨p,rfl,⟨_,SqT.of hp⟩,k _ (wA dQ)⟩
theorem kG {R:It->Hp->Prop} (S:Sta B G0 H cs ds) (h:Has ds (.list xs) v) (k:∀J,Wk B G0 J (qK xs) (λ_ ds=>Has ds (.list xs) v)->R J H):kEn true K R [v] H:=by
 obtain ⟨p,vs,rfl,hp,_⟩:=S.lst h;exact ⟨p,rfl,⟨_,SqL.of hp⟩,k _ (wA Vj)⟩
theorem kF {R:It->Hp->Prop} {w:V} (S:Sta B G0 H cs ds) (h:Has ds (.tuple xs) v) (m:Has ds (.tuple ys) w) (k:∀J,Wk B G0 J (wb xs ys) (λcs ds=>Has ds (.tuple xs) v/\(∀x u,Has ds (.tuple ys) w->Has ((x,u)::ds) (.tuple ys) w)/\Has ds (.tuple ys) w)->R J H):kZi false false K R [v,w] H:=by
 obtain ⟨p,vs,rfl,hp,_⟩:=S.tup h;obtain ⟨q,ws,rfl,g,_⟩:=S.tup m;exact ⟨p,q,rfl,⟨_,SqT.of hp⟩,⟨_,SqT.of g⟩,k _ (wy dQ dQ)⟩
theorem Sta.refL (S:Sta B G0 H cs ds) (h:Has ds (.list xs) v):∃a,v= .ref a:=by
 obtain ⟨p,_,e,_⟩:=S.lst h;exact ⟨p,e⟩
section
variable {α:Type}
def spT (enc:α->List PyData) (dom:α->Prop) (res:α->PyData):Sp:=λvs H Q _=>∃(G:Hp) (a:α),zH G H/\zu G (enc a) vs/\dom a/\∀v H' g,Grow G H g H'->Is g (res a) v->Q v H'
def spL (enc:α->List PyData) (dom:α->Prop) (res:α->List PyData):Sp:=λvs H Q _=>∃(G:Hp) (a:α),zH G H/\zu G (enc a) vs/\dom a/\∀p H' g us,Grow G H g H'->H p=none->g p=none->H' p=some (.lst us)->zu g (res a) us->Q (.ref p) H'
def spB (enc:α->List PyData) (dom:α->Prop) (res:α->V):Sp:=λvs H Q _=>∃(a:α),zu H (enc a) vs/\dom a/\∀H',zH H H'->Q (res a) H'
variable {enc:α->List PyData} {dom:α->Prop} {res:α->PyData} {resL:α->List PyData} {resB:α->V} {Q:VK} {E:XK} {vs:List V}
theorem Zg (a:α) (S:Sta B G0 H cs ds) (g:yc ds (enc a) vs) (hd:dom a) (k:∀v H',zH H H'->Sta B G0 H' cs ((res a,v)::ds)->Q v H'):spT enc dom res vs H Q E:=by
 obtain ⟨G,S⟩:=S;refine ⟨G,a,S.2.1,g G S.2.2.2.2.2.2,hd,λv H' u gr m=>k v H' gr.h ?_⟩;obtain ⟨t,s,r,d',q,p,g'⟩:=S.grow gr;exact ⟨u,t,s,r,d',q,p,g'.cons m⟩
theorem Zm (a:α) (S:Sta B G0 H cs ds) (m:yc ds (enc a) vs) (hd:dom a) (k:∀p H',zH H H'->Sta B G0 H' ((p,resL a)::cs) ds->Q (.ref p) H'):spL enc dom resL vs H Q E:=by
 obtain ⟨G,S⟩:=S;refine ⟨G,a,S.2.1,m G S.2.2.2.2.2.2,hd,λp H' J us gr hp t s r=>k p H' gr.h ?_⟩;have u:=S.2.2.1.free hp;obtain ⟨_,_,_,_,e0,_,_⟩:=id S;obtain ⟨D,C,A,d',y,w,g'⟩:=S.grow gr;refine ⟨J,D,C,A,d',λq g=>?_,?_,g'⟩
 ·rcases Qk.mp g with rfl|g
  ·exact ⟨u,t,us,s,r⟩
  ·exact y q g
 ·rw [Qp,TK];refine ⟨λz=>?_,w⟩;obtain ⟨q,g,I⟩:=Qj.mp z;obtain ⟨_,_,ws,z,_⟩:=e0 q g;rw [I,hp] at z;cases z
theorem Gv (a:α) (g:zu H (enc a) vs) (hd:dom a) (k:∀H',zH H H'->Q (resB a) H'):spB enc dom resB vs H Q E:=⟨a,g,hd,k⟩
theorem Sta.hpAll (S:Sta B G0 H cs ds) {xs:List PyData} (h:yc ds xs vs):zu H xs vs:=by
 obtain ⟨G,a,b,c,d,e,f,g⟩:=S;exact zu.mono b _ _ (h G g)
theorem yW {G H':Hp} {r:PyData} {v:V} (S:Sta H G H' cs ds) (k:∀v H' g,Grow G H g H'->Is g r v->Q v H') (h:Has ds r v):Q v H':=by
 obtain ⟨g,gr,al⟩:=S.leave;exact k v H' g gr (h g al)
theorem xM {G H':Hp} {r:List PyData} {p:Addr} (S:Sta H G H' ((p,r)::cs) ds) (k:∀p H' h us,Grow G H h H'->H p=none->h p=none->H' p=some (.lst us)->zu h r us->Q (.ref p) H'):Q (.ref p) H':=by
 obtain ⟨h,a,b,c,d,e,f,g⟩:=S;obtain ⟨x,y,us,z,u⟩:=e _ (Qc ..);exact k p H' h us ⟨c,a,b,d⟩ x y z u
theorem ret_B {G H':Hp} {r:V} (S:Sta H G H' cs ds) (k:∀H',zH H H'->Q r H'):Q r H':=k H' S.base
theorem YX {G:Hp} {x:PyData} {vs:List V} (h:zu G [x] vs):∃v,vs=[v]/\Xn G [(x,v)]:=by
 simp only [zu] at h;obtain ⟨v,_,rfl,g,rfl⟩:=h;exact ⟨v,rfl,λp hp=>by simp at hp;subst hp;exact g⟩
theorem yP {G:Hp} {x y:PyData} {vs:List V} (h:zu G [x,y] vs):∃v w,vs=[v,w]/\Xn G [(x,v),(y,w)]:=by
 simp only [zu] at h;obtain ⟨v,_,rfl,m,w,_,rfl,g,rfl⟩:=h;exact ⟨v,w,rfl,λp hp=>by simp at hp;rcases hp with rfl|rfl<;>assumption⟩
theorem YW {G:Hp} {x y z:PyData} {vs:List V} (h:zu G [x,y,z] vs):∃v w u,vs=[v,w,u]/\Xn G [(x,v),(y,w),(z,u)]:=by
 simp only [zu] at h;obtain ⟨v,_,rfl,q,w,_,rfl,m,u,_,rfl,g,rfl⟩:=h;exact ⟨v,w,u,rfl,λp hp=>by simp at hp;rcases hp with rfl|rfl|rfl<;>assumption⟩
theorem Is.int_of {G:Hp} {i:Int} {v:V} (h:Is G (.int i) v):v= .int i:=by rw [Is] at h;exact h
end
end
theorem vg {M:Model} {A:Around} {E:Value->Shared->Prop} {s:Shared} {scope:Scope} {globals:Addr} {closure:List (Str×Addr)} {qual y:Str} {func:Option Addr} {code:Value} {env:Env} {builtins:Addr} {Q:Env->Shared->Prop}
 (one:∀n acc,cellsFrom n scope.names acc=(y,n)::acc) (push:∀h,pushCells h scope.names=h.push {cls:= .type "cell",data:= .cell none})
 (g:Q (newEnv scope s.heap.objs.size globals ((y,s.heap.objs.size+1)::closure) qual func code (some env) builtins) {s with heap:=(s.heap.push {cls:= .type "dict",data:= .dict #[]}).push {cls:= .type "cell",data:= .cell none}}):
 wpAny M A (newFunctionEnv scope globals closure [] qual func code (some env) builtins) Q E s:=by
 simp only [newFunctionEnv,Option.isSome_some,if_true];refine Qd (wpAny_alloc ?_);refine Qd (wpAny_layCells _ (λname kind cells=>by cases hkc:kind==NameKind.cell<;>simp [hkc]) _ _ _ _ ?_);rw [one,push,show ({s with heap:=s.heap.push {cls:= .type "dict",data:= .dict #[]}}:Shared).heap.objs.size=s.heap.objs.size+1 from QM ..];refine Qd ?_;rw [List.forIn_nil];exact Ql (Ql g)
def Xk (X:Cx) (N:List Str) (scope:Scope) (y:Str) (C:Addr) (ex:List Addr) (s:Shared) (H:Hp):Cx where
 prog:=X.prog
 w:=X.w
 K:=X.K
 mg:=X.mg
 base:=X.base
 A:=X.A
 N:=N
 s₀:=s
 H₀:=H
 env:=compEnvC scope ((y,C+1)::yU X.env.cells scope.names []) C X.env
 outer:=X.stack
 stack:=X.stack
 ex:=ex
 fn:=λx=>x==y
 calm:=X.calm
 pn:=[]
 xe:=λ_ _=>False
structure CompOk1 (X:Cx) (N:List Str) (n:Nat) (fr:List Nat) (scope:Scope) (y:Str):Prop where
 kind:scope.kind= .function
 nd:N.Nodup
 names:(N.drop n)=fr.map (λj=>(X.N[j]?).getD ("":Str))
 own:n<=N.length
 inx:(fr.all λj=>decide (j<X.N.length))=true
 free:((N.drop n).all λx=>decide (scope.names.lookup x=some .free))=true
 one:∀n acc,cellsFrom n scope.names acc=(y,n)::acc
 push:∀h,pushCells h scope.names=h.push {cls:= .type "cell",data:= .cell none}
 oth:(scope.names.all λz=>decide (z.2= .cell->z.1=y))=true
 yfree:(scope.names.all λz=>decide (z.2= .free->z.1≠y))=true
 loc:(scope.names.all λy=>decide (y.2= .local->scope.names.lookup y.1=some .local))=true
 seen:(scope.names.all λy=>decide (y.2= .free->(X.env.kindOf y.1=some .cell\/X.env.kindOf y.1=some .free)))=true
theorem VL {scope:Scope} {env:Env} {x y:Str} {k:NameKind} (h:(relabel scope env).names.lookup x=some k) (m:k= .cell\/k= .free) (q:(scope.names.all λz=>decide (z.2= .cell->z.1=y))=true):x=y\/(x,NameKind.free)∈scope.names:=by
 unfold relabel at h;dsimp only at h
 have key:∀names:List (Str×NameKind),(names.all λz=>decide (z.2= .cell->z.1=y))=true->
  (names.map λ(n,k)=>if (k==NameKind.free && env.scope.kind== .function && env.kindOf n==some .cell)=true then (n,NameKind.cell) else (n,k)).lookup x=some k->x=y\/(x,NameKind.free)∈names:=by
  intro names
  induction names with
  |nil=>intro _ h;simp at h
  |cons z r g=>
   intro ha h;obtain ⟨n,j⟩:=z;rw [List.all_cons,TR] at ha;rw [Qp] at h;have s:∀(b:Bool) (k1:NameKind),((if b=true then (n,NameKind.cell) else (n,k1)):Str×NameKind)=(n,if b=true then NameKind.cell else k1):=by intro b k1;cases b<;>rfl
   dsimp only at h;rw [s,jaL] at h
   cases hx:x==n with
   |false=>
    rw [hx] at h;exact (g ha.2 h).imp id (Qf _)
   |true=>
    rw [hx] at h;have e:x=n:=by simpa using hx
    subst e;have h':=QK h;have p:j= .cell->x=y:=QD ha.1
    cases hb:(j==NameKind.free && env.scope.kind== .function && env.kindOf x==some .cell) with
    |true=>
     rw [TR,TR] at hb;have:j= .free:=by simpa using hb.1.1
     subst this;exact .inr (Qc ..)
    |false=>
     rw [hb] at h';simp only [jav,if_false] at h';subst h'
     rcases m with z|z
     ·exact .inl (p z)
     ·subst z;exact .inr (Qc ..)
 exact key _ q h
section
variable {X:Cx} {N:List Str} {n:Nat} {fr:List Nat} {scope:Scope} {pins:List (Addr×Obj)} {σ:L2.St} {H:Hp} {s:Shared} {y:Str}
theorem CompOk1.cells (O:CompOk1 X N n fr scope y) (I:Inv X pins σ H s):∀y∈scope.names,y.2= .free->∃c,X.env.cells.lookup y.1=some c:=λy g hf=>I.ok.has y.1 (QD (Tn.mp O.seen y g) hf)
theorem du {y x:Str} {a:Addr} {l:List (Str×Addr)}:((y,a)::l).lookup x=if x=y then some a else l.lookup x:=by
 rw [jaL]
 cases h:x==y with
 |true=>rw [QH (by simpa using h)]
 |false=>rw [QS (by simpa using h)]
theorem qQ {M:List Addr} {h':Heap} {tk:Nat} {m:Str->Option Value} (O:CompOk1 X N n fr scope y) (I:Inv X pins σ H s) (hf:∀b∈M,rE X pins H b) (U:∀b∈M,b<s.heap.objs.size)
 (LP:h'.Ns s.heap.objs.size m) (RP:h'.IsCell (s.heap.objs.size+1) none) (keep:∀b o,s.heap.get? b=some o->h'.get? b=some o):
 Inv (Xk X N scope y s.heap.objs.size M s H) [] (List.replicate n none++frσ σ fr) H {s with heap:=h',toks:=tk}:=by
 have KW:=O.cells I;have lk:∀x c,(yU X.env.cells scope.names []).lookup x=some c->X.env.cells.lookup x=some c:=λx c h=>Wf KW (λc h=>by simp at h) h;have cne:∀x c,(yU X.env.cells scope.names []).lookup x=some c->∃v,s.heap.IsCell c v:=λx c h=>I.cell x c (lk x c h)
 have E:∀x c,(yU X.env.cells scope.names []).lookup x=some c->c<s.heap.objs.size:=λx c h=>by
  obtain ⟨v,o,D,_⟩:=cne x c h;exact Qn D
 have g:∀x c,((y,s.heap.objs.size+1)::yU X.env.cells scope.names []).lookup x=some c->(x=y/\c=s.heap.objs.size+1)\/(yU X.env.cells scope.names []).lookup x=some c:=λx c h=>by
  rw [du] at h
  by_cases e:x=y
  ·rw [QH e] at h;exact .inl ⟨e,(QK h).symm⟩
  ·rw [QS e] at h;exact .inr h
 have C:∀x w c,((y,s.heap.objs.size+1)::yU X.env.cells scope.names []).lookup x=some c->((y,s.heap.objs.size+1)::yU X.env.cells scope.names []).lookup w=some c->x=w:=λx w c K r=>by
  rcases g x c K with ⟨a,b⟩|a
  ·rcases g w c r with ⟨J,_⟩|J
   ·rw [a,J]
   ·have:=E w c J;rw [b] at this;exact absurd (Nat.lt_trans (QU _) this) (jaf _)
  ·rcases g w c r with ⟨_,b⟩|J
   ·have:=E x c a;rw [b] at this;exact absurd (Nat.lt_trans (QU _) this) (jaf _)
   ·exact I.ok.inj x w c (lk x c a) (lk w c J)
 have G:∀x c,(x==y)=true->((y,s.heap.objs.size+1)::yU X.env.cells scope.names []).lookup x=some c->s.heap.objs.size<=c:=λx c t h=>by
  rcases g x c h with ⟨_,b⟩|a
  ·rw [b];exact jaj _
  ·rw [du,QH (by simpa using t)] at h;cases h;exact jaj _
 refine ⟨⟨I.mod,O.kind,I.ok.glob,I.ok.blt,Qq _,C,λx t=>?_,G,I.ok.hd,I.ok.frames, .inl rfl,λb A=>⟨QE (U b A),λx c h=>by
  rcases g x c h with ⟨_,z⟩|z
  ·rw [z];exact λe=>absurd (U b A) (by rw [<-e];exact Nat.not_lt.mpr (jaj _))
  ·exact (hf b A).2.2.2.2.1 x c (lk x c z)⟩,I.bs,QT I.ok.bsz I.sz,λb o e A=>?_,λb A z=>?_,I.stack,I.stkFree⟩,
  rfl,I.bare,Un.kept keep,⟨m,LP,λi x v K r h3=>?_⟩,λx c h=>?_,I.hok.fresh (Qq _),λx c h=>by
   rcases g x c h with ⟨_,z⟩|z
   ·rw [z];exact I.hok.fresh (jaj _)
   ·exact I.freeC x c (lk x c z),λp hp=>absurd hp (by simp [Xk]),I.hok.kept keep,?_⟩
 ·have Ky:x=y\/(x,NameKind.free)∈scope.names:=by
   rcases t with t|t
   ·exact VL t (.inl rfl) O.oth
   ·exact VL t (.inr rfl) O.oth
  show ∃c,((y,s.heap.objs.size+1)::yU X.env.cells scope.names []).lookup x=some c;rw [du]
  by_cases e:x=y
  ·exact ⟨_,QH e⟩
  ·rw [QS e];exact jaI.mp (XE (.inl (Ky.resolve_left e)))
 ·rcases (hf b A).2.2.2.1 with z|z
  ·exact I.ok.noex b o e z
  ·exact absurd (QJ (Qn (I.ok.bs b o e).1) z) (jaf _)
 ·rcases Qk.mp (I.stkSub b z) with q|q
  ·exact (hf b A).2.1 q
  ·exact (hf b A).2.2.1 q
 ·by_cases L:i<n
  ·rw [jas (by simpa using L),QL,QH L] at r;cases r
  ·have Q:(N.drop n)[i - n]? =some x:=by rw [jaw,show n+(i - n)=i by omega];exact K
   rw [Tq (by simpa using L),QA] at r;unfold frσ at r;rw [Qi] at r;rw [O.names,Qi] at Q
   cases ej:fr[i - n]? with
   |none=>rw [ej] at r;cases r
   |some j=>
    rw [ej] at r Q;have Rz:j<X.N.length:=QD (Tn.mp O.inx j (Qb ej))
    have t:X.N[j]? =some x:=by
     have e:=QK Q;dsimp only at e;rw [Qe Rz] at e⊢;exact congrArg some e
    have hv:σ[j]? =some (some v):=by
     have e:=QK r;dsimp only at e
     cases es:σ[j]? with
     |none=>rw [es] at e;cases e
     |some o=>rw [es] at e;rw [show o=some v from e]
    have Z:scope.names.lookup x=some .free:=by
     refine QD (Tn.mp O.free x ?_);exact Qb (i:=i - n) (by rw [jaw,show n+(i - n)=i by omega];exact K)
    have P:(x,NameKind.free)∈scope.names:=jaC Z;have Y:=QD (Tn.mp O.seen _ P) rfl;obtain ⟨mX,hnX,Rw⟩:=I.loc;obtain ⟨u,ru,lu⟩:=Rw j x v t hv (Y.elim (λz=> .inr (.inl z)) λz=> .inr (.inr z));refine ⟨u,ru, .inr ⟨?_,?_⟩⟩
    ·exact cc Z
    ·obtain ⟨c,T⟩:=jaI.mp (XE (cells:=X.env.cells) (acc:=[]) (.inl P))
     refine ⟨c,(by
      show ((y,s.heap.objs.size+1)::yU X.env.cells scope.names []).lookup x=some c;rw [du,QS (QD (Tn.mp O.yfree _ P) rfl)]
      exact T),?_⟩
     rcases lu with ⟨k,_⟩|⟨_,c',Kx,z⟩
     ·rcases Y with q|q
      ·rw [show X.env.kindOf x=_ from k] at q;cases q
      ·rw [show X.env.kindOf x=_ from k] at q;cases q
     ·have:=lk x c T;rw [Kx] at this;cases this;obtain ⟨o,D,hd⟩:=z;exact ⟨o,keep _ _ D,hd⟩
 ·rcases g x c h with ⟨_,z⟩|z
  ·rw [z];exact ⟨_,RP⟩
  ·obtain ⟨v,o,D,hd⟩:=cne x c z;exact ⟨v,o,keep _ _ D,hd⟩
 ·rw [Qr,QA];unfold frσ;have e:=congrArg List.length O.names;rw [QZ,Qa] at e;have:=O.own;show _=N.length;rw [Qa];omega
end
section
variable {X:Cx} {N:List Str} {n:Nat} {fr:List Nat} {scope:Scope} {y:Str}
theorem Ct {tg iter elt:Expr} {ifs:List Expr} {pos:Pos} {g:Blk TG} {tt:Blk TT} {te:Blk TE} {pins:List (Addr×Obj)} {σ:L2.St} {z:Hp} {s2:Shared} {it:Addr} {I:List Addr} {tn:Nat->Heap->Prop} {J:It} {Q:VK}
 {RR:Value->Addr->Result->Shared->Prop} {E:Value->Shared->Prop}
 (hc:X.calm=true) (O:CompOk1 X N n fr scope y)
 (hg:∀C ex s H,PG (Xk X N scope y C ex s H) tg (g C ex s H)) (ht:∀C ex s H,PIf (Xk X N scope y C ex s H) ifs (tt C ex s H)) (he:∀C ex s H,PE (Xk X N scope y C ex s H) elt (te C ex s H))
 (I2:Inv X pins σ z s2) (T:Turn X.prog X.w X.K tg J I it tn) (KR:tn 0 s2.heap) (f2:∀b∈I,rE X pins z b)
 (hW:∀D,z D=none->∀C ex s0 H0,∃W:Nat->Nat->List V->Hp->Prop,(∃m,W 0 m [] (upd z D (.lst [])))/\∀i m ys z,W i m ys z->z D=some (.lst ys)/\
  ((J.stop i z/\Q (.ref D) z)\/(J.go i z/\∀x H3,J.yld i z x H3->g C ex s0 H0 x (List.replicate n none++frσ σ fr) H3 λσ4 H4=>σ4.drop n=frσ σ fr/\tt C ex s0 H0 σ4 H4 λb U=>
    if b=true then te C ex s0 H0 σ4 U λy H6=>H6 D=some (.lst ys)/\ys.length<sizeLine/\∃M,M<m/\W (i+1) M (ys++[y]) (upd H6 D (.lst (ys++[y])))
    else ∃M,M<m/\W (i+1) M ys U)))
 (hR:∀(D C:Addr) (H':Hp) (s':Shared),Q (.ref D) H'->(∃m,s'.heap.Ns C m)->Side X pins H' C->Inv X pins σ H' s'->RR (.ref D) C (.ok .next) s'):
 wpAny (model X.prog X.w) X.A (newList []) (λacc s₃=>wpAny (model X.prog X.w) X.A (newFunctionEnv scope X.env.globals (yU X.env.cells scope.names []) [] X.env.qual none .none (some X.env)) (λcenv s₄=>
  codeAny (model X.prog X.w) X.A (.compStart (.ListComp elt [⟨tg,iter,ifs,0⟩] scope pos) 0 (.ref it) acc {cenv with scope:=relabel scope X.env}) (RR acc cenv.locals) s₄) E s₃) E s2:=by
 refine TU (vg O.one O.push ?_);have RW:z s2.heap.objs.size=none:=I2.fresh;have I3:Inv X pins σ (upd z s2.heap.objs.size (.lst [])) {s2 with heap:=s2.heap.push {cls:= .type "list",data:= .seq ([]:List Value).toArray},toks:=s2.toks}:=I2.lnew (its:=[]) .nil (jai _);generalize hD:s2.heap.objs.size=D at*;dsimp only;generalize NY:s2.heap.push {cls:= .type "list",dict:=none,data:= .seq ([]:List Value).toArray}=q at*;have PM:∀b o,s2.heap.get? b=some o->q.get? b=some o:=λb o e=>by rw [<-NY];exact Qh _ e
 have Px:q.objs.size=D+1:=by rw [<-NY,QM,hD]
 have LP₁:((q.push {cls:= .type "dict",dict:=none,data:= .dict #[],slots:=#[]}).push {cls:= .type "cell",dict:=none,data:= .cell none,slots:=#[]}).Ns q.objs.size (λ_=>none):=(Heap.Ns.new q (.type "dict")).keeps λb o e=>Qh _ e
 have KW₁:((q.push {cls:= .type "dict",dict:=none,data:= .dict #[],slots:=#[]}).push {cls:= .type "cell",dict:=none,data:= .cell none,slots:=#[]}).IsCell (q.objs.size+1) none:=⟨_,by
  have:=Qt (q.push {cls:= .type "dict",dict:=none,data:= .dict #[],slots:=#[]}) (o:={cls:= .type "cell",dict:=none,data:= .cell none,slots:=#[]}) rfl;rw [QM] at this
  exact this,rfl⟩
 have keep:∀b o,q.get? b=some o->((q.push {cls:= .type "dict",dict:=none,data:= .dict #[],slots:=#[]}).push {cls:= .type "cell",dict:=none,data:= .cell none,slots:=#[]}).get? b=some o:=λb o e=>Qh _ (Qh _ e);generalize (q.push {cls:= .type "dict",dict:=none,data:= .dict #[],slots:=#[]}).push {cls:= .type "cell",dict:=none,data:= .cell none,slots:=#[]}=h₁ at*
 have flt:∀b∈I,b<D:=λb t=>by
  obtain ⟨o,ho,_⟩:=T.obj _ _ KR b t;rw [<-hD];exact Qn ho
 have f3:∀b∈I,rE X pins (upd z D (.lst [])) b:=λb t=>⟨by rw [yb (QE (flt b t))];exact (f2 b t).1,(f2 b t).2⟩;have IY:=qQ (tk:=s2.toks) O I3 f3 (λb t=>by show b<q.objs.size;rw [Px];exact Tt (flt b t)) LP₁ KW₁ keep;obtain ⟨W,⟨m0,w0⟩,turn⟩:=hW _ RW q.objs.size I {s2 with heap:=q,toks:=s2.toks} (upd z D (.lst []));have NL:tn 0 h₁:=T.keep _ _ _ KR λb t o e=>keep b o (PM b o e);generalize G:Xk X N scope y q.objs.size I {s2 with heap:=q,toks:=s2.toks} (upd z D (.lst []))=Y at*;have P:Y.env=compEnvC scope ((y,q.objs.size+1)::yU X.env.cells scope.names []) q.objs.size X.env:=by rw [<-G];rfl
 have Og:=hg q.objs.size I {s2 with heap:=q,toks:=s2.toks} (upd z D (.lst []));have NX:=ht q.objs.size I {s2 with heap:=q,toks:=s2.toks} (upd z D (.lst []));have Oi:=he q.objs.size I {s2 with heap:=q,toks:=s2.toks} (upd z D (.lst []));rw [G] at Og NX Oi;have eP:Y.prog=X.prog:=by rw [<-G];rfl
 have Z:Y.w=X.w:=by rw [<-G];rfl
 have eK:Y.K=X.K:=by rw [<-G];rfl
 have eA:Y.A=X.A:=by rw [<-G];rfl
 have eC:Y.calm=true:=by rw [<-G];exact hc
 have eX:Y.xe=λ_ _=>False:=by rw [<-G];rfl
 have fY:∀{H':Hp},(∀b∈I,H' b=none)->∀b∈I,rE Y [] H' b:=λ{H'} hn b t=>by
  have h1:=IY.ok.exf b (by rw [<-G];exact t);refine ⟨hn b t,h1.1,IY.ok.exfs b (by rw [<-G];exact t), .inl (by rw [<-G];exact t),h1.2,λp hp=>absurd hp (by rw [<-G];simp [Xk])⟩
 have loop:codeAny (model X.prog X.w) X.A (.compLoop (.ListComp elt [⟨tg,iter,ifs,0⟩] scope pos) 0 (.ref it) (.ref D) (compEnvC scope ((y,q.objs.size+1)::yU X.env.cells scope.names []) q.objs.size X.env))
  (RR (.ref D) q.objs.size) {s2 with heap:=h₁,toks:=s2.toks}:=by
  refine codeAny_loop rfl (λk s'=>∃i ys H',Inv Y [] (List.replicate n none++frσ σ fr) H' s'/\tn i s'.heap/\(∀b∈I,H' b=none)/\W i k ys H') (λk s5 hI=>?_) m0 ⟨0,[],_,IY,NL,λb t=>(f3 b t).1,w0⟩;obtain ⟨i,ys,U,I5,Mq,Nj,w5⟩:=hI;show wpAny _ X.A ((compTurn (.ListComp elt [⟨tg,iter,ifs,0⟩] scope pos) 0 (.ref it) (.ref D) _).onRaise (λx=>do noteFrame x _;theTreesLotGoes x)) _ _ s5;refine wpAny_noted ?_;rw [compTurn_list,<-P];refine Qd (wpAny_standAt (Qd ?_));obtain ⟨Pp,step⟩:=turn i k ys U w5
  rcases step with ⟨stop,qn⟩|⟨go,step⟩
  ·have d:=T.done Y eP Z eK eC i [] s5 _ U (λ_ _=>False) I5 (fY Nj) Mq stop;rw [eA] at d;refine yR (thn d λr s6 L=>?_);obtain ⟨hr,I6⟩:=L;subst hr;refine Ql ?_;have hC:U q.objs.size=none:=by have:=I6.free;rw [P] at this;exact this
   have Na:∃m,s6.heap.Ns q.objs.size m:=by
    have:=I6.loc;rw [P] at this;obtain ⟨m,hm,_⟩:=this;exact ⟨m,hm⟩
   have sd:Side X pins U q.objs.size:=⟨hC,jaz I3.lt,I3.sz,λx c e=>QE (let ⟨v,o,ho,_⟩:=I3.cell x c e;Qn ho),λp hp=>QE (Qn (I3.pin p hp).1)⟩;refine hR D q.objs.size U s6 qn Na sd ?_;have un:=I6.base;have e0:Y.s₀.heap=q:=by rw [<-G];rfl
   have Sh:Y.H₀=upd z D (.lst []):=by rw [<-G];rfl
   have eF:Y.fs=frs X.stack:=by rw [<-G];rfl
   have eEx:Y.ex=I:=by rw [<-G];rfl
   rw [e0,Sh,eF,eEx] at un;have LZ:HOk X.prog X.w U s6.heap:=by have:=I6.hok;rw [eP,Z] at this;exact this
   have PD:s6.os=s2.os:=I6.os.trans (by rw [<-G];rfl);exact I3.call' (s':=s6) (ch:=I) PD un LZ I6.bare λb t=>⟨(f2 b t).2.2.2.1,(f2 b t).2.1,(f2 b t).2.2.2.2.1,(f2 b t).2.2.2.2.2⟩
  ·have d:=T.item Y eP Z eK eC i [] s5 _ U (λ_ _=>False) I5 (fY Nj) Mq go;rw [eA] at d;refine yR (thn d λr s6 L=>?_);obtain ⟨u,hr,h6⟩:=L;subst hr;refine Qd (yR (thn h6 λ_ s7 L=>?_));obtain ⟨x,H7,I7,r7,y7,MO,Sd⟩:=L;have I7':=I7.pinned (fY Sd) (T.obj _ _ MO);have g7:=Og _ s7 _ H7 x u _ I7' r7 (step x H7 y7);rw [eA,eP,Z,eX] at g7;refine Qd (yR (thn g7 λ_ s8 L=>?_));obtain ⟨σ8,H8,I8,ed,q8⟩:=L;have t8:=NX _ s8 σ8 H8 _ I8 q8;rw [eA,eP,Z,eX] at t8;refine Qd (yR (thn t8 λb s9 L=>?_));obtain ⟨H9,I9,q9⟩:=L
   have back:∀{s':Shared} {H':Hp} {MM:List V} {M:Nat},Inv Y ([]++jc I s7.heap) σ8 H' s'->M<k->W (i+1) M MM H'->∃m,m<k/\∃i ys H',Inv Y [] (List.replicate n none++frσ σ fr) H' s'/\tn i s'.heap/\(∀b∈I,H' b=none)/\W i m ys H':=λ{s' H' MM M} I' hm w'=>by
    refine ⟨M,hm,i+1,MM,H',?_,T.keep _ _ _ MO λb t o e=>(I'.pin (b,o) (Qz _ (Qz _ (Ys t e)))).1,λb t=>?_,w'⟩
    ·refine (Inv.unpinned I').weak ?_ λj v hj=>?_
     ·exact IY.len.trans I'.len.symm
     ·by_cases Nc:j<n
      ·rw [jas (by simpa using Nc),QL,QH Nc] at hj;cases hj
      ·rw [Tq (by simpa using Nc),QA,<-ed,jaw,show n+(j - n)=j by omega] at hj;exact hj
    ·obtain ⟨o,e,d⟩:=T.obj _ _ MO b t;exact (I'.pin (b,o) (Qz _ (Qz _ (Ys t e)))).2.1
   cases b with
   |false=>
    obtain ⟨M,hm,w9⟩:=q9;exact Ql ⟨rfl,back I9 hm w9⟩
   |true=>
    have e9:=Oi _ s9 σ8 H9 _ I9 q9;rw [eA,eP,Z,eX] at e9;refine Qd (Qd (yR (thn e9 λv Py L=>?_)));obtain ⟨y,LM,So,Pz,Ni,hz,M,hm,NK⟩:=L;have OD:=Zi _ Py σ8 LM (.ref D) [y] (.ref D) [v] (λ_ H'=>H'=upd LM D (.lst (ys++[y]))) So rfl (.cons Pz .nil) ⟨D,ys,y,rfl,rfl,Ni,hz,rfl⟩;rw [eA,eP,Z,eX] at OD;refine Qd (yR (thn OD λ_ s11 L=>?_));obtain ⟨_,OH,Sn,_,NF⟩:=L;subst NF;exact Ql (Ql ⟨rfl,back Sn hm NK⟩)
 exact codeAny_compStart_list loop (T.self _ _ _ _ _ NL loop)
theorem Ee {r iter elt:Expr} {ifs:List Expr} {pos:Pos} {t:TI} {g:Blk TG} {tt:Blk TT} {u:Blk TE}
 (M:X.calm=true) (O:CompOk1 X N n fr scope y) (K:PI X r iter t)
 (L:∀C ex s H,PG (Xk X N scope y C ex s H) r (g C ex s H)) (ht:∀C ex s H,PIf (Xk X N scope y C ex s H) ifs (tt C ex s H)) (he:∀C ex s H,PE (Xk X N scope y C ex s H) elt (u C ex s H))
 (G:∀x,foldedSetIterable iter X.env x=pure x:=by intro _;rfl):
 PE X (.ListComp elt [⟨r,iter,ifs,0⟩] scope pos) (uu n fr t g tt u):=by
 intro pins s σ H Q I h;rw [eval_ListComp];refine jbD (use:=none) rfl G (We (O.cells I)) O.kind (λy E=>QD (Tn.mp O.loc y E)) (thn (K pins s σ H _ I h) λv s1 Z=>thn Z λz s2 Y=>?_);obtain ⟨it,fp,tn,J,H2,e,I2,T,KR,f2,U⟩:=Y;subst e;refine Ct (RR:=λacc C=>compPost (model X.prog X.w) X.A X.xe none (EP X pins σ Q) acc C) M O L ht he I2 T KR f2 U ?_;intro D C H' s' q ⟨m,hm⟩ p inv;exact ⟨m,hm,λh' MC=>⟨.ref D,H',inv.turned (t':=s'.toks) (it:=C) (λb o P e=>MC.extBut b o P e) p.nt p.nl (.inr p.ab) p.nc p.np,rfl,q⟩⟩
end
theorem vh {a b N:Nat} (h:b<N) (g:N<=a):a≠b:=by omega
abbrev Je (h:Heap) (z TI TO T:Addr) (f:Bool):Prop:=
 h.get? z=some {cls:= .type "zip",dict:=none,data:= .fields #[rawInt T, .bool f, .bool false, .ref TI, .ref TO],slots:=#[]}
section
variable {prog:Program} {w:World} {A:Around} {E:Value->Shared->Prop} {s:Shared}
theorem alive_ {a:Addr} {o:Obj} {Q:Option Obj->Shared->Prop} (g:s.heap.get? a=some o) (h:Q (some o) s):wpAny (model prog w) A (loadIfAlive a) Q E s:=by
 have h':Q (s.heap.get? a) s:=by rw [g];exact h
 exact λ_ _ _=>h'
theorem mB {z TI TO T:Addr} {f:Bool} {m:Obj} {Q:Bool->Shared->Prop} (p:s.heap.get? T=some m) (hz:Je s.heap z TI TO T f)
 (g:∀h',Je h' z TI TO T true->Heap.SameBut z s.heap h'->Q false {s with heap:=h'}):wpAny (model prog w) A (Builtin.SmallTypes.ownedTupleIsFree (.ref z)) Q E s:=by
 unfold Builtin.SmallTypes.ownedTupleIsFree;refine Qd (TY hz rfl (x:=rawInt T) rfl ?_);show wpAny _ _ (loadIfAlive ((T:Int).toNat)>>=_) _ _ _;rw [Ts];refine Qd (alive_ p ?_);simp only [Option.isNone_some,jav,if_false];refine Qd (TY hz rfl (x:= .bool f) rfl ?_)
 cases f with
 |true=>
  rw [QS (show ¬((Value.bool true !=Value.bool true)=true) from Qy)];exact Ql (g s.heap hz (Heap.SameBut.refl _ _))
 |false=>
  rw [QH (show (Value.bool false !=Value.bool true)=true from rfl)];refine Qd (jaJ hz (by simp) λh₃ he₃ hs₃=>?_);exact Ql (g h₃ he₃ hs₃)
theorem wu {C u f:Bool} {z TI TO T m g q p:Addr} {k1 k2:Nat} {xs ys:Array Value} {x y:Value} {G:Obj} {Q:Value->Shared->Prop} (D:ZipApart z TI TO m g q p) (J:s.heap.get? T=some G)
 (hz:Je s.heap z TI TO T f) (M:IsPair s.heap TI (.ref m) (.ref g))
 (t:ItB C s.heap m q k1) (r:ItB u s.heap g p k2) (N:SeB C s.heap q xs) (O:SeB u s.heap p ys) (I:xs[k1]? =some x) (H:ys[k2]? =some y)
 (K:∀h',Je h' z TI TO T true->ItB C h' m q (k1+1)->ItB u h' g p (k2+1)->IsPair h' s.heap.objs.size x y->h'.objs.size=s.heap.objs.size+1->
  (∀c o,c≠z->c≠m->c≠g->s.heap.get? c=some o->h'.get? c=some o)->Q (.ref s.heap.objs.size) {s with heap:=h'}):
 wpAny (model prog w) A (Builtin.«zip.__next__» ⟨[.ref z],[]⟩) (λfin s'=>∃v,fin= .done (.ret v)/\Q v s') E s:=by
 show wpAny _ _ (field (.ref z) 2>>=_) _ _ _;refine Qd (TY hz rfl (x:= .bool false) rfl ?_);show wpAny _ _ (field (.ref z) 3>>=_) _ _ _;refine Qd (TY hz rfl (x:= .ref TI) rfl ?_);refine Qd (jat M rfl ?_);show wpAny _ _ (Builtin.SmallTypes.ownedTupleIsFree (.ref z)>>=_) _ _ _;refine Qd (mB J hz λh₁ hz₁ hs₁=>?_);simp only [jav,if_false];refine Qd ?_;simp only [List.forIn_toArray,List.forIn_cons,List.forIn_nil];refine Qd (Qd (jau ?_));show wpAny _ _ (Builtin.SmallTypes.nextOf (.ref m)>>=_) _ _ _;refine Qd (Yr (t.extBut hs₁.extBut D.i1z) (N.extBut hs₁.extBut D.l1z) I λh₂ t₂ hs₂=>Ql ?_);refine Ql (Qd (Qd (jau ?_)));show wpAny _ _ (Builtin.SmallTypes.nextOf (.ref g)>>=_) _ _ _;refine Qd (Yr ((r.extBut hs₁.extBut D.i2z).extBut hs₂.extBut D.i12.symm) ((O.extBut hs₁.extBut D.l2z).extBut hs₂.extBut D.l2i1) H λh₃ r₃ hs₃=>Ql ?_);refine Ql (Ql ?_);refine Qd (wpAny_newTuple (hsz:=by show (2:Nat)<=sizeLine;rw [sizeLine_eq];omega) ?_);have hsz:h₃.objs.size=s.heap.objs.size:=by rw [hs₃.1,hs₂.1,hs₁.1]
 refine Ql ⟨_,rfl,?_⟩;show Q (.ref h₃.objs.size) _;rw [hsz];have up:∀c o,h₃.get? c=some o->(h₃.push {cls:= .type "tuple",data:= .seq #[x,y]}).get? c=some o:=λc o e=>Qh _ e
 refine K _ (up _ _ (hs₃.extBut _ _ D.i2z.symm (hs₂.extBut _ _ D.i1z.symm hz₁))) ((t₂.extBut hs₃.extBut D.i12).at λo e=>up _ o e) (r₃.at λo e=>up _ o e) ?_ (by rw [QM,hsz])
  λc o a1 a2 L e=>up _ _ (hs₃.extBut _ _ L (hs₂.extBut _ _ a2 (hs₁.extBut _ _ a1 e)))
 rw [<-hsz];exact Qt _ rfl
theorem Dn {r f:Bool} {z TI TO T g p m u:Addr} {k1:Nat} {xs:Array Value} {t:Obj} {Q:Fin->Shared->Prop} (C:A.handled=none) (D:ZipApart z TI TO g p m u) (G:s.heap.get? T=some t)
 (hz:Je s.heap z TI TO T f) (J:IsPair s.heap TI (.ref g) (.ref p))
 (I:ItB r s.heap g m k1) (K:SeB r s.heap m xs) (y:xs[k1]? =none)
 (H:∀h' e,(∀c o,c≠z->c≠g->s.heap.get? c=some o->h'.get? c=some o)->(∃o,h'.get? e=some o/\o.cls= .type "StopIteration")->E (.ref e) {s with heap:=h'}):
 wpAny (model prog w) A (Builtin.«zip.__next__» ⟨[.ref z],[]⟩) Q E s:=by
 show wpAny _ _ (field (.ref z) 2>>=_) _ _ _;refine Qd (TY hz rfl (x:= .bool false) rfl ?_);show wpAny _ _ (field (.ref z) 3>>=_) _ _ _;refine Qd (TY hz rfl (x:= .ref TI) rfl ?_);refine Qd (jat J rfl ?_);show wpAny _ _ (Builtin.SmallTypes.ownedTupleIsFree (.ref z)>>=_) _ _ _;refine Qd (mB G hz λh₁ hz₁ hs₁=>?_);simp only [jav,if_false];refine Qd ?_;simp only [List.forIn_toArray,List.forIn_cons,List.forIn_nil];refine Qd (Qd (jau ?_));show wpAny _ _ (Builtin.SmallTypes.nextOf (.ref g)>>=_) _ _ _;exact Qd (WR C (I.extBut hs₁.extBut D.i1z) (K.extBut hs₁.extBut D.l1z) y λh₂ e hs₂ he=>H h₂ e (λc o a1 a2 q=>hs₂ _ _ a2 (hs₁.extBut _ _ a1 q)) he)
structure ZL (c1 c2:Bool) (N:Nat) (h:Heap) (z TI TO i1 i2 l1 l2:Addr) (xs ys:Array Value) (k:Nat):Prop where
 zip:(IsZip h z TI TO .none/\∃a b,IsPair h TO a b)\/∃T f o,Je h z TI TO T f/\h.get? T=some o/\N<=T
 pair:IsPair h TI (.ref i1) (.ref i2)
 it1:ItB c1 h i1 l1 k
 it2:ItB c2 h i2 l2 k
 s1:SeB c1 h l1 xs
 s2:SeB c2 h l2 ys
 size:h.objs.size=N+k
 made:∀j x y,j<k->xs[j]? =some x->ys[j]? =some y->IsPair h (N+j) x y
theorem ZL.type {t r:Bool} {N:Nat} {z TI TO p m h g:Addr} {xs ys:Array Value} {k:Nat} (Z:ZL t r N s.heap z TI TO p m h g xs ys k):s.TypeIs (.ref z) "zip":=by
 rcases Z.zip with ⟨q,_⟩|⟨_,_,_,q,_⟩
 ·exact ⟨_,q,rfl⟩
 ·exact ⟨_,q,rfl⟩
theorem ZL.at {D C:Bool} {N:Nat} {h h':Heap} {z TI TO t p m g S:Addr} {xs ys:Array Value} {k:Nat} (Z:ZL D C N h z TI TO t p m g xs ys k) (e:∀a o,a≠S->h.get? a=some o->h'.get? a=some o)
 (sz:h'.objs.size=h.objs.size) (J:S∉[z,TI,TO,t,p,m,g]) (u:S<N):ZL D C N h' z TI TO t p m g xs ys k:=by
 have ne:∀a∈[z,TI,TO,t,p,m,g],a≠S:=λa ha q=>J (q▸ha);refine ⟨?_,e _ _ (ne _ (by simp)) Z.pair,Z.it1.at λo q=>e _ o (ne _ (by simp)) q,Z.it2.at λo q=>e _ o (ne _ (by simp)) q,Z.s1.at λo q=>e _ o (ne _ (by simp)) q,Z.s2.at λo q=>e _ o (ne _ (by simp)) q,sz.trans Z.size,λj x y I H G=>e _ _ (vh u (Nat.le_add_right _ _)) (Z.made j x y I H G)⟩
 rcases Z.zip with ⟨q,a,b,r⟩|⟨T,f,o,q,r,l⟩
 ·exact .inl ⟨e _ _ (ne _ (by simp)) q,a,b,e _ _ (ne _ (by simp)) r⟩
 ·exact .inr ⟨T,f,o,e _ _ (ne _ (by simp)) q,e _ _ (vh u l) r,l⟩
theorem Hn {K J:Bool} {N:Nat} {z TI TO m h r p:Addr} {xs ys:Array Value} {k:Nat} {Q:Option Value->Shared->Prop} (D:ZipApart z TI TO m h r p) (lt:∀a∈[z,TI,TO,m,h,r,p],a<N)
 (Z:ZL K J N s.heap z TI TO m h r p xs ys k) (hx:k<xs.size) (hy:k<ys.size)
 (hQ:∀h',ZL K J N h' z TI TO m h r p xs ys (k+1)->(∀c o,c≠z->c≠TO->c≠m->c≠h->s.heap.get? c=some o->h'.get? c=some o)->Q (some (.ref (N+k))) {s with heap:=h'}):
 wpAny (model prog w) A (pyNext (.ref z)) Q E s:=by
 have C:=Z.type;have ex:xs[k]? =some xs[k]:=by simp [hx]
 have I:ys[k]? =some ys[k]:=by simp [hy]
 have P:=lt z (by simp);have lTI:=lt TI (by simp);have H:=lt TO (by simp);have X:=lt m (by simp);have Y:=lt h (by simp);have sz:=Z.size;unfold pyNext
 have fin:∀h',(IsZip h' z TI TO .none/\(∃a b,IsPair h' TO a b)\/∃T f o,Je h' z TI TO T f/\h'.get? T=some o/\N<=T)->ItB K h' m r (k+1)->ItB J h' h p (k+1)->IsPair h' s.heap.objs.size xs[k] ys[k]->h'.objs.size=s.heap.objs.size+1->
  (∀c o,c≠z->c≠TO->c≠m->c≠h->s.heap.get? c=some o->h'.get? c=some o)->Q (some (.ref s.heap.objs.size)) {s with heap:=h'}:=λh' z0 a1 a2 u t g=>by
  rw [sz];refine hQ h' ⟨z0,g _ _ D.TIz D.TITO D.TIi1 D.TIi2 Z.pair,a1,a2,Z.s1.at λo q=>g _ o D.l1z D.l1TO D.l1i1 D.l1i2 q,Z.s2.at λo q=>g _ o D.l2z D.l2TO D.l2i1 D.l2i2 q,by rw [t,sz];omega,λj x y hj O M=>?_⟩ g
  by_cases e:j=k
  ·subst e;rw [ex] at O;rw [I] at M;cases O;cases M;rw [<-sz];exact u
  ·exact g _ _ (vh P (Nat.le_add_right _ _)) (vh H (Nat.le_add_right _ _)) (vh X (Nat.le_add_right _ _)) (vh Y (Nat.le_add_right _ _)) (Z.made j x y (by omega) O M)
 rcases Z.zip with ⟨hz,a,b,Kw⟩|⟨T,f,o,hz,U,l⟩
 ·refine Qd (jaE (QR (name:=Str.ofString "__next__") C F.slot_zip_next (Te F.slot_zip_next C F.entry_zip_next
   (mC D hz Z.pair Kw Z.it1 Z.it2 Z.s1 Z.s2 ex I λh' a1 a2 u t G L g=>Ql ?_) (F.args_zip_next_1 _))))
  exact fin h' (.inr ⟨_,false,_,a1,G,by omega⟩) u t G L g
 ·refine Qd (jaE (QR (name:=Str.ofString "__next__") C F.slot_zip_next (Te F.slot_zip_next C F.entry_zip_next
   (wu D U hz Z.pair Z.it1 Z.it2 Z.s1 Z.s2 ex I λh' a1 u t G L g=>Ql ?_) (F.args_zip_next_1 _))))
  exact fin h' (.inr ⟨T,true,o,a1,g _ _ (vh P l) (vh X l) (vh Y l) U,l⟩) u t G L λc o b1 _ b3 b4 q=>g c o b1 b3 b4 q
theorem zl_end {J I:Bool} {N:Nat} {z TI TO m h y u:Addr} {xs ys:Array Value} {k:Nat} {Q:Option Value->Shared->Prop} (C:A.handled=none) (D:ZipApart z TI TO m h y u)
 (Z:ZL J I N s.heap z TI TO m h y u xs ys k) (H:xs.size<=k)
 (G:∀h',(∀c o,c≠z->c≠TO->c≠m->c≠h->s.heap.get? c=some o->h'.get? c=some o)->Q none {s with heap:=h'}):
 wpAny (model prog w) A (pyNext (.ref z)) Q E s:=by
 have g:=Z.type;have ex:xs[k]? =none:=by simp [H]
 unfold pyNext
 rcases Z.zip with ⟨hz,a,b,O⟩|⟨T,f,o,hz,M,l⟩
 ·refine Qd (jaE (QR (name:=Str.ofString "__next__") g F.slot_zip_next (Te F.slot_zip_next g F.entry_zip_next
   (rK (A:=A.in1) C D hz Z.pair O Z.it1 Z.it2 Z.s1 Z.s2 (.inl ex) λh' e r he=>?_) (F.args_zip_next_1 _))))
  obtain ⟨o,p,t⟩:=he;exact Qd (wpAny_isInstance (T:="StopIteration") (b:=true) ⟨o,p,t⟩ isSubtype_stop (Ql (G h' r)))
 ·refine Qd (jaE (QR (name:=Str.ofString "__next__") g F.slot_zip_next (Te F.slot_zip_next g F.entry_zip_next
   (Dn (A:=A.in1) C D M hz Z.pair Z.it1 Z.s1 ex λh' e r he=>?_) (F.args_zip_next_1 _))))
  obtain ⟨o,p,t⟩:=he;exact Qd (wpAny_isInstance (T:="StopIteration") (b:=true) ⟨o,p,t⟩ isSubtype_stop (Ql (G h' (λc o L _ K _ q=>r c o L K q))))
theorem EY {c1 c2:Bool} {R:Result->Shared->Prop} {N:Nat} {z TI TO m h u t S:Addr} {xs ys:Array Value} {res:Value} (hh:A.handled=none) (D:ZipApart z TI TO m h u t) (lt:∀a∈[z,TI,TO,m,h,u,t],a<N)
 (r:S∉[z,TI,TO,m,h,u,t]) (hN:S<N) (same:xs.size<=ys.size) (hn:xs.size<=sizeLine):
 ∀(k i:Nat) (s:Shared) (acc:Array Value) (c:Nat),xs.size - i=k->i<=xs.size->ZL c1 c2 N s.heap z TI TO m h u t xs ys i->s.heap.get? S=some {cls:= .type "list",dict:=none,data:= .seq acc c,slots:=#[]}->
 acc.toList=(List.range i).map (λj=>Value.ref (N+j))->
 (∀h' G L,(∀b o,b∉[S,z,TO,m,h]->s.heap.get? b=some o->h'.get? b=some o)->h'.get? S=some {cls:= .type "list",dict:=none,data:= .seq G L,slots:=#[]}->
  G.toList=(List.range xs.size).map (λj=>Value.ref (N+j))->(∀j x y,xs[j]? =some x->ys[j]? =some y->IsPair h' (N+j) x y)->R (.ok (.ret res)) {s with heap:=h'})->
 codeAny (model prog w) A (.builtin "list.extend.loop" ⟨[.ref S, .ref z,res],[]⟩) R s:=by
 have sz:S≠z:=λe=>r (by simp [e]);have p:S≠TO:=λe=>r (by simp [e]);have s1:S≠m:=λe=>r (by simp [e]);have s2:S≠h:=λe=>r (by simp [e]);have P:=lt z (by simp);have H:=lt TO (by simp);have OR:=lt m (by simp);have OQ:=lt h (by simp);intro k
 induction k with
 |zero=>
  intro i s acc c U Y Z K C J;have RB:i=xs.size:=by omega
  subst RB;refine jaH F.entry_extend_loop ?_;rw [jay F.plain_extend_loop _];show wpAny _ A.in1 (pyNext (.ref z)>>=_) _ _ s;refine Qd (zl_end (by simp [hh]) D Z (Qq _) λh' kp=>?_);refine Ql (J h' acc c (λb o g q=>kp b o (λe=>g (by simp [e])) (λe=>g (by simp [e])) (λe=>g (by simp [e])) (λe=>g (by simp [e])) q) (kp _ _ sz p s1 s2 K) C λj x y I T=>?_)
  have X:j<xs.size:=by
   rcases Nat.lt_or_ge j xs.size with q|q
   ·exact q
   ·rw [Array.getElem?_eq_none q] at I;cases I
  exact kp _ _ (vh P (Nat.le_add_right _ _)) (vh H (Nat.le_add_right _ _)) (vh OR (Nat.le_add_right _ _)) (vh OQ (Nat.le_add_right _ _)) (Z.made j x y X I T)
 |succ k Q=>
  intro i s acc c U Y Z K C J;have M:i<xs.size:=by omega
  have hz:acc.size=i:=by rw [<-jac,C];simp
  refine jaH F.entry_extend_loop ?_;rw [jay F.plain_extend_loop _];show wpAny _ A.in1 (pyNext (.ref z)>>=_) _ _ s;refine Qd (Hn D lt Z M (QJ M same) λh' Z' kp=>?_);have O:=kp _ _ sz p s1 s2 K;show wpAny _ A.in1 (updateSeq S (·.push (.ref (N+i)))>>=_) _ _ _;refine Qd ?_;have oth:∀b o,b≠S->h'.get? b=some o->(h'.update S (Obj.mapSeq (·.push (.ref (N+i))))).get? b=some o:=λb o g e=>(Th _ _ (Ne.symm g)).trans e
  refine wpAny_updateSeq O rfl (Ql ⟨plainId_quiet F.plain_extend_loop _,Q (i+1) {s with heap:=h'.update S (Obj.mapSeq (·.push (.ref (N+i))))} (acc.push (.ref (N+i))) _ (by omega) M (Z'.at (λa o ha q=>oth a o ha q) (Td ..).1 r hN) (Tw _ O rfl)
   (by rw [Array.toList_push,C,List.range_succ,QF];rfl) λh2 G L Nv Mw Oy made=>?_⟩) (by rw [hz];omega) (by show (acc.push (.ref (N+i))).size<=sizeLine+1;rw [Array.size_push,hz];omega)
  exact J h2 G L (λb o g q=>Nv b o g (oth b o (λe=>g (by simp [e])) (kp b o (λe=>g (by simp [e])) (λe=>g (by simp [e])) (λe=>g (by simp [e])) (λe=>g (by simp [e])) q))) Mw Oy made
theorem um:typeLookup (.type "zip") "__len__"=pure none:=by rw [typeLookup_type,builtinLookup_eq_fast];kernel_rfl
theorem pC:typeLookup (.type "zip") "__length_hint__"=pure none:=by rw [typeLookup_type,builtinLookup_eq_fast];kernel_rfl
theorem ZL.iter {u t:Bool} {N:Nat} {z TI TO r q p m:Addr} {xs ys:Array Value} {k:Nat} {Q:Value->Shared->Prop} (Z:ZL u t N s.heap z TI TO r q p m xs ys k) (h:Q (.ref z) s):wpAny (model prog w) A (pyIter (.ref z)) Q E s:=by
 have g:=Z.type;refine wpAny_pyIter_slot g F.slot_zip_iter (Te F.slot_zip_iter g F.entry_zip_iter ?_ (F.args_zip_iter_1 _));show wpAny _ _ (ret (.ref z)) _ _ s;exact Ql ⟨_,rfl,"zip",_,g,F.slot_zip_next.lookup,h⟩
theorem lN {I H:Bool} {z TI TO r p u t:Addr} {xs ys:Array Value} {Q:Value->Shared->Prop} (hh:A.handled=none) (D:ZipApart z TI TO r p u t) (lt:∀a∈[z,TI,TO,r,p,u,t],a<s.heap.objs.size)
 (same:xs.size<=ys.size) (hn:xs.size<=sizeLine) (hz:IsZip s.heap z TI TO .none) (Lj:IsPair s.heap TI (.ref r) (.ref p)) (K:∃a b,IsPair s.heap TO a b) (h1:ItB I s.heap r u 0) (h2:ItB H s.heap p t 0) (X:SeB I s.heap u xs) (U:SeB H s.heap t ys)
 (hQ:∀h' G J,(∀b o,b∉[z,TO,r,p]->s.heap.get? b=some o->h'.get? b=some o)->h'.get? s.heap.objs.size=some {cls:= .type "list",dict:=none,data:= .seq G J,slots:=#[]}->
  G.toList=(List.range xs.size).map (λj=>Value.ref (s.heap.objs.size+1+j))->(∀j x y,xs[j]? =some x->ys[j]? =some y->IsPair h' (s.heap.objs.size+1+j) x y)->Q (.ref s.heap.objs.size) {s with heap:=h'}):
 wpAny (model prog w) A (call (.type "list") [.ref z]) Q E s:=by
 refine callType_codes (Q₁:=λobj s₁=>obj= .ref s.heap.objs.size/\s₁={s with heap:=s.heap.push {cls:= .type "list",data:= .seq #[]}}) F.called_list (F.typeCall_list_1 _) F.entry_list_init
  (code_list_new _ ⟨rfl,rfl⟩) λobj s₁ h₁=>?_
 obtain ⟨rfl,rfl⟩:=h₁;have m:(s.heap.push {cls:= .type "list",data:= .seq #[]}).get? s.heap.objs.size=some {cls:= .type "list",data:= .seq #[]}:=Qt _ rfl;have up:∀c o,s.heap.get? c=some o->(s.heap.push {cls:= .type "list",data:= .seq #[]}).get? c=some o:=λc o e=>Qh _ e;have g:s.heap.objs.size∉[z,TI,TO,r,p,u,t]:=λq=>jaf _ (lt _ q);have Y:s.heap.objs.size≠z:=λe=>g (by simp [e]);obtain ⟨a,b,K⟩:=K
 have Z0:ZL I H (s.heap.objs.size+1) (s.heap.push {cls:= .type "list",data:= .seq #[]}) z TI TO r p u t xs ys 0:=
  ⟨.inl ⟨up _ _ hz,a,b,up _ _ K⟩,up _ _ Lj,h1.at λo e=>up _ o e,h2.at λo e=>up _ o e,X.at λo e=>up _ o e,U.at λo e=>up _ o e,QM ..,λj x y Z=>absurd Z (Nat.not_lt_zero _)⟩
 refine ⟨⟨_,m,rfl⟩,F.args_list_init_2 _ _,?_⟩;show wpAny _ A.in1.in1 (do let old<-Builtin.List.listItems (.ref s.heap.objs.size);Builtin.List.listUpdate (.ref s.heap.objs.size) (λ_=>#[]);letGo old.toList.reverse;Builtin.List.listExtendWith (.ref s.heap.objs.size) (.ref z) .none) _ _ _;refine Qd ?_;unfold Builtin.List.listItems;refine Qd (jat m rfl (Ql ?_));show wpAny _ A.in1.in1 (updateSeq s.heap.objs.size (λ_=>#[])>>=λ_=>letGo (#[]:Array Value).toList.reverse>>=λ_=>Builtin.List.listExtendWith (.ref s.heap.objs.size) (.ref z) .none) _ _ _;refine Qd (wpAny_updateSeq m rfl ?_);have m₂:=Tw (Obj.mapSeq (λ_=>(#[]:Array Value))) m rfl;have C:=Z0.at (S:=s.heap.objs.size) (h':=(s.heap.push {cls:= .type "list",data:= .seq #[]}).update s.heap.objs.size (Obj.mapSeq (λ_=>(#[]:Array Value)))) (λa o ha q=>(Th _ _ (Ne.symm ha)).trans q) (Td ..).1 g (QU _);have N:∀b o,s.heap.get? b=some o->((s.heap.push {cls:= .type "list",data:= .seq #[]}).update s.heap.objs.size (Obj.mapSeq (λ_=>(#[]:Array Value)))).get? b=some o:=λb o q=>(Th _ _ (jaz (Qn q))).trans (up _ _ q);generalize (s.heap.push {cls:= .type "list",data:= .seq #[]}).update s.heap.objs.size (Obj.mapSeq (λ_=>(#[]:Array Value)))=g1 at m₂ C N⊢;refine Qd (wpAny_letGo ?_);unfold Builtin.List.listExtendWith;refine Qd (wpAny_typeOf (s:={s with heap:=g1}) C.type ?_);have e1:Builtin.List.listSameRef (.ref s.heap.objs.size) (.ref z)=false:=by simp [Builtin.List.listSameRef,Y]
 have e2:(Value.type "zip"==Value.type "list")=false:=by decide
 have e3:(Value.type "zip"==Value.type "tuple")=false:=by decide
 simp only [e1,e2,e3,Bool.or_false,jav,if_false];refine Qd (C.iter (s:={s with heap:=g1}) ?_);refine Qd (jau ?_);unfold Builtin.List.listLengthHint;refine Qd (wpAny_specialOf (s:={s with heap:=g1}) C.type um ?_);show wpAny _ A.in1.in1 (specialOf (Value.ref z) (Str.ofString "__length_hint__")>>=_) _ _ _;refine Qd (wpAny_specialOf (s:={s with heap:=g1}) C.type pC ?_);refine Ql ?_
 show wpAny _ A.in1.in1 (rule "list.extend.makes-room">>=λ_=>Builtin.List.listTouch (.ref s.heap.objs.size)>>=λ_=>
  again (.builtin "list.extend.loop" ⟨[.ref s.heap.objs.size, .ref z, .none],[]⟩)) _ _ _
 refine Qd (jbL ?_);refine Qd ?_;show wpAny _ A.in1.in1 (updateSeq s.heap.objs.size (·.push .none)>>=λ_=>updateSeq s.heap.objs.size (·.pop)) _ _ _;refine Qd (wpAny_updateSeq (s:={s with heap:=g1}) m₂ rfl ?_);have m₃:=Tw (Obj.mapSeq (·.push Value.none)) m₂ rfl;have M:=C.at (S:=s.heap.objs.size) (h':=g1.update s.heap.objs.size (Obj.mapSeq (·.push Value.none))) (λa o ha q=>(Th _ _ (Ne.symm ha)).trans q) (Td ..).1 g (QU _);have P:∀b o,s.heap.get? b=some o->(g1.update s.heap.objs.size (Obj.mapSeq (·.push Value.none))).get? b=some o:=λb o q=>(Th _ _ (jaz (Qn q))).trans (N _ _ q);generalize g1.update s.heap.objs.size (Obj.mapSeq (·.push Value.none))=g2 at m₃ M P⊢;refine wpAny_updateSeq (s:={s with heap:=g2}) (hz:=by seq_fits) m₃ rfl ?_;have m₄:=Tw (Obj.mapSeq (·.pop)) m₃ rfl;have L:=M.at (S:=s.heap.objs.size) (h':=g2.update s.heap.objs.size (Obj.mapSeq (·.pop))) (λa o ha q=>(Th _ _ (Ne.symm ha)).trans q) (Td ..).1 g (QU _);have O:∀b o,s.heap.get? b=some o->(g2.update s.heap.objs.size (Obj.mapSeq (·.pop))).get? b=some o:=λb o q=>(Th _ _ (jaz (Qn q))).trans (P _ _ q);generalize g2.update s.heap.objs.size (Obj.mapSeq (·.pop))=g3 at m₄ L O⊢;refine Ql ⟨plainId_quiet F.plain_extend_loop _,EY (by simp [hh]) D (λa ha=>Tt (lt a ha)) g (QU _) same hn xs.size 0 {s with heap:=g3} _ _ rfl (jai _) L m₄ rfl λh' G J kp hL Lr made=>?_⟩;refine ⟨rfl,hQ h' G J (λb o hb q=>kp b o (λT=>?_) (O b o q)) hL Lr made⟩
 rcases Qk.mp T with e|e
 ·exact QE (Qn q) e
 ·exact hb e
end
section
variable {X:Cx}
theorem Fj {pins:List (Addr×Obj)} {σ:L2.St} {H H':Hp} {s:Shared} {h':Heap} {t':Nat} (I:Inv X pins σ H s) (k:∀b u,s.heap.get? b=some u->h'.get? b=some u) (old:∀a,a<s.heap.objs.size->H' a=H a)
 (new:∀a o,s.heap.objs.size<=a->H' a=some o->ZF X.prog X.w H' h' a o):Inv X pins σ H' {s with heap:=h',toks:=t'}:=by
 have g:∀b o,H b=some o->H' b=some o:=λb o e=>by rw [old b (I.hok.lt e)];exact e
 refine I.un ⟨λb u q _ _ _=>k b u q,λb u q _ _ _=>⟨u.slots,k b u q⟩,λb u q n _=>by rw [old b (Qn q)];exact n,λb u q _=>⟨u,k b u q⟩,λb xs e=>g _ _ e,λb o u e=>g _ _ e,λb ps e=>⟨#[],by rw [g _ _ e];simp⟩⟩ λa o e=>?_
 rcases Nat.lt_or_ge a s.heap.objs.size with q|q
 ·rw [old a q] at e;exact (I.hok a o e).stay (λb u _ q=>k b u q) (λ_ q=>g _ _ q) λ_ _ q=>g _ _ q
 ·exact new a o q e
theorem nn1 (n j:Nat):¬(n+1+j<n):=by omega
theorem nn2 (n j:Nat):n+1+j≠n:=by omega
theorem nn3 (n j:Nat):n+1+j - (n+1)=j:=by omega
theorem nn4 {a n:Nat} (h:n<a):∃j,a=n+1+j:=⟨a - (n+1),by omega⟩
theorem FC:bootBuiltins "list"=some (.type "list"):=by decide+kernel
def rLZip (h g:Bool) (K:PySem.W.Frag):List V->Hp->VK->Prop:=λvs H1 Q=>∃(a1 a2:Addr) (xs ys:List V),vs=[.ref a1, .ref a2]/\SqB h K H1 a1 xs/\SqB g K H1 a2 ys/\xs.length<=ys.length/\
 ∀(M:Nat) (H':Hp),(∀a,M<=a->H1 a=none)->(∀a,a<M->H' a=H1 a)->H' M=some (.lst ((List.range xs.length).map λj=>V.ref (M+1+j)))->(∀j x y,xs[j]? =some x->ys[j]? =some y->H' (M+1+j)=some (.tup [x,y]))->Q (.ref M) H'
def tLZip (m h:Bool) (K:PySem.W.Frag) (g:TA):TE:=λσ H Q=>g σ H λvs H1=>rLZip m h K vs H1 Q
theorem mF (M:Nat):∀l:List Nat,xE (l.map λj=>V.ref (M+j)) (l.map λj=>Value.ref (M+j))
 |[]=> .nil
 |_::l=> .cons rfl (mF M l)
theorem Ib (c1 c2:Bool) {a b:Expr} {P:TA} {u g w t:Pos} (A:X.calm=true) (g1:Gl X "list") (m1:X.mg "list"=none) (g2:Gl X "zip") (m2:X.mg "zip"=none) (ha:PA X [a,b] P)
 (NM:starEach [.Call (.Name "zip" g) [a,b] [] t] X.env=[(false,eval (.Call (.Name "zip" g) [a,b] [] t) X.env)]:=by rfl) (hs:starEach [a,b] X.env=[(false,eval a X.env),(false,eval b X.env)]:=by rfl) (LH:starEach [b] X.env=[(false,eval b X.env)]:=by rfl):
 PE X (.Call (.Name "list" u) [.Call (.Name "zip" g) [a,b] [] t] [] w) (tLZip c1 c2 X.K P):=by
 intro pins s σ H Q I h;refine jan (Wm I g1 m1 FC ?_ (by decide) (by decide));refine Tg ?_ NM (by rfl);rw [NM];show wpAny _ _ (spliced ((false,eval (.Call (.Name "zip" g) [a,b] [] t) X.env)::backTo w (starEach [] X.env))) _ _ s;refine Calls.spliced_cons ?_;refine jan (Wm I g2 m2 GW ?_ (by decide) (by decide));refine Tg (thn (ha t pins s σ H _ I h) λus s1 ⟨vs,H1,r,r1,w⟩=>?_) (by rw [hs,LH]) (by rw [LH];rfl);obtain ⟨U,T,xs,ys,e,LY,MF,same,q⟩:=w;subst e;obtain ⟨u1,u2,rfl,NQ,NP⟩:=wD r1;cases (show u1=Value.ref U from NQ);cases (show u2=Value.ref T from NP);obtain ⟨Ms,MQ,u,few⟩:=seB r LY;obtain ⟨KA,MP,g,_⟩:=seB r MF;have MS:U<s1.heap.objs.size:=by obtain ⟨o,z⟩:=u.obj;exact Qn z
 have Z:T<s1.heap.objs.size:=by obtain ⟨o,z⟩:=g.obj;exact Qn z
 have E:=MQ.length;have le2:=MP.length;have quiet:=r.ok.hd A;refine oB u g λh' a1 a2 a3 a4 a5 m=>?_;have n1:s1.heap.objs.size+4<h'.objs.size:=Qn a1;have L:∀k:Nat,k<=4->s1.heap.objs.size+k<h'.objs.size:=λk m=>Nat.lt_of_le_of_lt (Nat.add_le_add_left m _) n1;refine Calls.spliced_nil ?_;refine lN (s:={s1 with heap:=h'}) quiet (zipApart_new MS Z) (λc A=>?_) (by simp;omega) (by simp;omega) a1 a2 ⟨_,_,a3⟩ a4 a5 (u.at λo e=>m _ o e) (g.at λo e=>m _ o e) λh3 acc c kp hL Lr made=>?_
 ·show c<h'.objs.size;simp only [Qk,Qx,or_false] at A
  rcases A with z|z|z|z|z|z|z<;>rw [z]
  ·exact L 4 (by decide)
  ·exact L 2 (by decide)
  ·exact L 3 (by decide)
  ·exact L 0 (by decide)
  ·exact L 1 (by decide)
  ·exact Nat.lt_trans MS (L 0 (by decide))
  ·exact Nat.lt_trans Z (L 0 (by decide))
 ·have I2:Inv X pins σ H1 {s1 with heap:=h'}:=r.kept (t':=s1.toks) m;have fr:∀a,h'.objs.size<=a->H1 a=none:=λa ha=>I2.hok.fresh ha
  let H':Hp:=λa=>if a<h'.objs.size then H1 a else if a=h'.objs.size then some (.lst ((List.range xs.length).map λj=>V.ref (h'.objs.size+1+j))) else ((xs.zip ys)[a - (h'.objs.size+1)]?).map λp=> .tup [p.1,p.2]
  have Y:H' h'.objs.size=some (.lst ((List.range xs.length).map λj=>V.ref (h'.objs.size+1+j))):=by simp [H']
  have old:∀a,a<h'.objs.size->H' a=H1 a:=λa ha=>by simp [H',ha]
  have tup:∀j,H' (h'.objs.size+1+j)=((xs.zip ys)[j]?).map λp=> .tup [p.1,p.2]:=λj=>by
   simp only [H'];rw [QS (nn1 _ _),QS (nn2 _ _),nn3]
  refine ⟨.ref h'.objs.size,H',?_,rfl,q _ H' fr old Y λj x y J G=>by rw [tup,(QW (z:=(x,y))).mpr ⟨J,G⟩];rfl⟩
  have keep:∀b o,s1.heap.get? b=some o->h3.get? b=some o:=λb o e=>kp b o (λz=>by
   have:=Qn e;simp only [Qk,Qx,or_false] at z
   rcases z with z|z|z|z<;>rw [z] at this
   ·exact absurd this (Nat.not_lt.mpr (Nat.le_add_right _ 4))
   ·exact absurd this (Nat.not_lt.mpr (Nat.le_add_right _ 3))
   ·exact absurd this (jaf _)
   ·exact absurd this (Nat.not_lt.mpr (Nat.le_add_right _ 1))) (m b o e)
  refine Fj (s:=s1) (t':=s1.toks) r keep (λa ha=>old a (Nat.lt_trans ha (L 0 (by decide)))) λa o ha e=>?_
  rcases Nat.lt_trichotomy a h'.objs.size with z|z|z
  ·rw [old a z,r.hok.fresh ha] at e;cases e
  ·rw [z,Y] at e;cases e;refine ⟨by simp;omega,(List.range xs.length).map (λj=>Value.ref (h'.objs.size+1+j)),c,mF _ _,?_⟩;rw [z,hL,<-show (List.range Ms.toArray.size).map (λj=>Value.ref (h'.objs.size+1+j))=(List.range xs.length).map (λj=>Value.ref (h'.objs.size+1+j)) by simp [E],<-Lr]
  ·obtain ⟨j,rfl⟩:=nn4 z;rw [tup] at e;obtain ⟨⟨x,y⟩,e1,e2⟩:=Option.map_eq_some_iff.mp e;obtain ⟨J,G⟩:=QW.mp e1;obtain ⟨O,M,D⟩:=MQ.get J;obtain ⟨N,PY,C⟩:=MP.get G;cases e2;exact ⟨dR,[O,N], .cons D (.cons C .nil),⟨_,made j O N (by simpa using M) (by simpa using PY),rfl,_,rfl⟩⟩
end
def kLZip (h g:Bool) (K:PySem.W.Frag) (Q:VK):List V->Hp->Prop:=λvs H1=>rLZip h g K vs H1 Q
theorem rd_lz {p m:Bool} {K:PySem.W.Frag} {g:TA} {σ:L2.St} {H:Hp} {Q:VK} (h:g σ H (kLZip p m K Q)):tLZip p m K g σ H Q:=h
theorem GJ {G s:Hp} (e:zH G s):∀(h m:List PyData) (xs ys:List V) (off:Nat),zu G h xs->zu G m ys->h.length=m.length->(∀j x y,xs[j]? =some x->ys[j]? =some y->s (off+j)=some (.tup [x,y]))->
 zu s (wb h m) ((List.range xs.length).map λj=>V.ref (off+j))
 |[],m,xs,ys,off,g,p,_,_=>by
  rw [zu] at g;subst g;simp [wb,zu]
 |d1::h,[],xs,ys,off,_,_,hl,_=>by simp at hl
 |d1::h,d2::m,xs,ys,off,g,p,hl,k=>by
  rw [zu] at g p;obtain ⟨x,xs,rfl,u,g⟩:=g;obtain ⟨y,ys,rfl,t,p⟩:=p;have r:=GJ e h m xs ys (off+1) g p (by simpa using hl) λj a b ha w=>by rw [Nat.add_right_comm];exact k (j+1) a b (by simpa using ha) (by simpa using w)
  have z:=k 0 x y (by simp) (by simp);show zu s (.tuple [d1,d2]::wb h m) _;rw [Qw,List.range_succ_eq_map,Qp,QI,zu];refine ⟨_,_,rfl,?_,?_⟩
  ·rw [Is];refine ⟨_,_,rfl,z,?_⟩;rw [zu];refine ⟨_,_,rfl,Is.mono e _ _ u,?_⟩;rw [zu];refine ⟨_,_,rfl,Is.mono e _ _ t,?_⟩;rw [zu]
  ·have q:((λj=>V.ref (off+j))∘Nat.succ)=λj=>V.ref (off+1+j):=funext λj=>by show V.ref (off+(j+1))=_;rw [Nat.add_right_comm];rfl
   rw [q];exact r
theorem HN {B J H:Hp} {cs:zY} {ds:Dat} {K:PySem.W.Frag} {Q:VK} {v w:V} {xs ys:List PyData} (S:Sta B J H cs ds) (X:Has ds (.list xs) v) (U:Has ds (.tuple ys) w) (I:xs.length=ys.length)
 (k:∀r H',zH H H'->Sta B J H' cs ((.list (wb xs ys),r)::ds)->Q r H'):kLZip true false K Q [v,w] H:=by
 obtain ⟨G,a,b,c,d,e,f,g⟩:=S;have E:=X G g;have D:=U G g;rw [Is] at E;rw [Is] at D;obtain ⟨N,us,rfl,e1,C⟩:=E;obtain ⟨L,ws,rfl,Z,A⟩:=D;refine ⟨N,L,us,ws,rfl, .inl (.inl (b _ _ e1)), .inl (.inl (b _ _ Z)),by rw [<-C.len,<-A.len,I];exact Qq _,λM H' fr old T ht=>?_⟩
 have lt:∀p o,H p=some o->p<M:=λp o q=>by
  rcases Nat.lt_or_ge p M with z|z
  ·exact z
  ·rw [fr p z] at q;cases q
 have t:zH H H':=λp o q=>by rw [old p (lt p o q)];exact q
 let h:Hp:=λa=>if a<M then G a else H' a
 have m:∀p,p<M->h p=G p:=λp z=>by simp [h,z]
 have s:∀p,M<=p->h p=H' p:=λp z=>by simp [h,Nat.not_lt.mpr z]
 have u:zH G h:=λp o q=>by rw [m p (lt p o (b _ _ q))];exact q
 have sub:zH h H':=λp o q=>by
  rcases Nat.lt_or_ge p M with z|z
  ·rw [m p z] at q;rw [old p z];exact b _ _ q
  ·rw [s p z] at q;exact q
 have gr:Grow G H h H':=⟨t,u,sub,λp hp=>by
  cases q:H p with
  |none=>exact absurd q hp
  |some o=>exact m p (lt p o q)⟩
 refine k _ H' t ?_;obtain ⟨a',b',c',d',e',Y,g'⟩:=He.grow (G:=G) ⟨a,b,c,d,e,f,g⟩ gr;refine ⟨h,a',b',c',d',e',Y,g'.cons ?_⟩;rw [Is];exact ⟨M,_,rfl,(s M (Qq _)).trans T,GJ u xs ys us ws (M+1) C A I λj x y P O=>(s _ (by omega)).trans (ht j x y P O)⟩
theorem qB (i:Int):∀ns:List Int,inV (.int i) (ns.map V.int)=decide (i∈ns)
 |[]=>by simp [inV]
 |n::ns=>by
  have r:=qB i ns;unfold inV at r⊢;rw [Qp,List.any_cons,r,show eqV (.int n) (.int i)=(n==i) from rfl]
  by_cases e:i=n
  ·subst e;simp
  ·have:(n==i)=false:=by simpa using λz=>e z.symm
   simp [this,e]
theorem rd_nin {B m H:Hp} {cs:zY} {ds:Dat} {K:PySem.W.Frag} {Q:VK} {v:V} {ns:List Int} {i:Int} {neg:Bool} (S:Sta B m H cs ds) (h:Has ds (.list (ns.map PyData.int)) v)
 (k:Q (.bl (if neg then !decide (i∈ns) else decide (i∈ns))) H):rIn K neg (.int i) v H Q:=by
 have z:=S.hp h;rw [Is] at z;obtain ⟨p,vs,rfl,e,a⟩:=z;cases yF a;refine ⟨p,_,rfl, .inl (.inl (.inl e)),rfl,?_,?_⟩
 ·rw [Tn];intro x g;obtain ⟨n,_,rfl⟩:=Qj.mp g;rfl
 ·rw [qB];exact k
end S
namespace S
def par (c t:List Int):Prop:=c.map (·*t.sum)=t.map (·*c.sum)
instance (c t:List Int):Decidable (par c t):=inferInstanceAs (Decidable (_=_))
open Classical in
noncomputable def ye (a:Rat×List Rat):List (Rat×List Rat)->List (Rat×List Rat)
 |[]=>[]
 |[b]=>[b]
 |b::c::r=>if zN a b c then ye b (c::r) else b::ye b (c::r)
open Classical in
noncomputable def YF (cs:List zg) (i:Nat):Bool:=decide (i=0\/i+1=cs.length\/¬∀(a b c:zg),cs[i - 1]? =some a->cs[i]? =some b->cs[i+1]? =some c->zN a b c)
open Classical in
theorem Xw {cs:List zg} {i:Nat} (h:i=0\/i+1=cs.length\/¬∀(a b c:zg),cs[i - 1]? =some a->cs[i]? =some b->cs[i+1]? =some c->zN a b c):YF cs i=true:=by
 unfold YF;exact Tp h
open Classical in
theorem ji {cs:List zg} {i:Nat} (h:¬(i=0\/i+1=cs.length\/¬∀(a b c:zg),cs[i - 1]? =some a->cs[i]? =some b->cs[i+1]? =some c->zN a b c)):YF cs i=false:=by
 unfold YF;exact Tb h
noncomputable def yv:List zg->List zg
 |[]=>[]
 |c::r=>c::ye c r
theorem sQ:∀(r pre:List zg) (a:zg),(List.range' (pre.length+1) r.length).filterMap (λj=>if YF (pre++a::r) j then (pre++a::r)[j]? else none)=ye a r
 |[],pre,a=>by simp [ye]
 |[b],pre,a=>by
  have g:YF (pre++[a,b]) (pre.length+1)=true:=Xw (.inr (.inl (by simp)));simp [ye,g]
 |b::c::r,pre,a=>by
  have m:=sQ (c::r) (pre++[a]) b;rw [Qr,Tx,TV,List.singleton_append] at m;rw [Qw,List.range'_succ,jaB,ye]
  have t:(pre++a::b::c::r)[pre.length+1 - 1]? =some a:=by
   rw [Nat.add_sub_cancel,Tq (Qq _),Nat.sub_self];rfl
  have g1:(pre++a::b::c::r)[pre.length+1]? =some b:=by
   rw [Tq (by omega),show pre.length+1 - pre.length=1 by omega];rfl
  have g2:(pre++a::b::c::r)[pre.length+1+1]? =some c:=by
   rw [Tq (by omega),show pre.length+1+1 - pre.length=2 by omega];rfl
  by_cases h:zN a b c
  ·have g:YF (pre++a::b::c::r) (pre.length+1)=false:=by
    refine ji ?_
    rintro (q|q|q)
    ·omega
    ·simp at q;omega
    ·refine q λx y z s p hz=>?_;rw [t] at s;rw [g1] at p;rw [g2] at hz;cases s;cases p;cases hz;exact h
   rw [g,QH h]
   simpa using m
  ·have g:YF (pre++a::b::c::r) (pre.length+1)=true:=Xw (.inr (.inr λq=>h (q a b c t g1 g2)));rw [g,QS h,QH rfl,g1];dsimp only;rw [m]
theorem vy {β:Type} (cs:List zg) (g:zg->β):(List.range cs.length).filterMap (λj=>if YF cs j then (cs[j]?).map g else none)=(yv cs).map g:=by
 have e:(List.range cs.length).filterMap (λj=>if YF cs j then (cs[j]?).map g else none)=((List.range cs.length).filterMap (λj=>if YF cs j then cs[j]? else none)).map g:=by
  rw [List.map_filterMap]
  congr 1
  funext j
  split<;>rfl
 rw [e]
 congr 1
 cases cs with
 |nil=>rfl
 |cons c r=>
  rw [Qw,List.range_eq_range',List.range'_succ,jaB];have h:YF (c::r) 0=true:=Xw (.inl rfl);rw [h,QH rfl];have:=sQ r [] c;simp only [List.length_nil,jaG,jbE] at this;simp only [List.getElem?_cons_zero,jbE];rw [this,yv]
end S
namespace S
open PySem PySem.Spec PyProof.Rows L2
section
variable {α:Type} {enc:α->List PyData} {dom:α->Prop} {res:α->V} {B G0 H:Hp} {cs:zY} {ds:Dat} {Q:VK} {E:XK} {vs:List V} {v w:V}
def spP (enc:α->List PyData) (dom:α->Prop) (res:α->V):Sp:=λvs H Q _=>∃(a:α),zu H (enc a) vs/\dom a/\Q (res a) H
theorem rd_spP (a:α) (S:Sta B G0 H cs ds) (g:yc ds (enc a) vs) (hd:dom a) (k:Q (res a) H):spP enc dom res vs H Q E:=⟨a,S.hpAll g,hd,k⟩
theorem SzQ.of_div {n:Nat} {q:Rat} {a b:Int} (e:q=Rat.divInt a b) (ha:Sz n a) (g:Sz n b) (h0:b≠0):SzQ n q:=by rw [e];exact SzQ.divInt ha g h0
theorem xg (p q:Rat):(p.den:Int)*(q.den:Int)≠0:=Int.ne_of_gt (Int.mul_pos (den_pos p) (den_pos q))
theorem rm (p q:Rat):Rat.divInt (p.num*(q.den:Int)+q.num*(p.den:Int)) ((p.den:Int)*(q.den:Int))=p+q:=by
 rw [Rat.add_def',<-Int.natCast_mul,Rat.divInt_ofNat]
theorem wM (p q:Rat):Rat.divInt (p.num*(q.den:Int) - q.num*(p.den:Int)) ((p.den:Int)*(q.den:Int))=p - q:=by
 rw [Rat.sub_def',<-Int.natCast_mul,Rat.divInt_ofNat]
theorem Bx (p q:Rat):Rat.divInt (p.num*q.num) ((p.den:Int)*(q.den:Int))=p*q:=by
 rw [Rat.mul_def',<-Int.natCast_mul,Rat.divInt_ofNat]
theorem Gz {q:Rat} (h:q≠0):q.num≠0:=λz=>h (Rat.num_eq_zero.mp z)
theorem Cm (p q:Rat) (h:q≠0):Rat.divInt (p.num*(q.den:Int)) ((p.den:Int)*q.num)=p / q:=by
 rw [<-jbr,Rat.num_divInt_den,jbM,Rat.inv_def]
section
variable {m n:Nat} {p q:Rat}
theorem SzQ.add (hp:SzQ m p) (g:SzQ n q):SzQ (m+n+1) (p+q):=
 SzQ.of_div (rm p q).symm (((hp.1.mul g.2).add ((g.1.mul hp.2).mono (Nat.le_of_eq (Nat.add_comm n m))))) ((hp.2.mul g.2).mono (jaj _)) (xg p q)
theorem SzQ.sub (hp:SzQ m p) (g:SzQ n q):SzQ (m+n+1) (p - q):=
 SzQ.of_div (wM p q).symm (((hp.1.mul g.2).sub ((g.1.mul hp.2).mono (Nat.le_of_eq (Nat.add_comm n m))))) ((hp.2.mul g.2).mono (jaj _)) (xg p q)
theorem SzQ.mul (hp:SzQ m p) (g:SzQ n q):SzQ (m+n) (p*q):=
 SzQ.of_div (Bx p q).symm (hp.1.mul g.1) (hp.2.mul g.2) (xg p q)
theorem SzQ.div (hp:SzQ m p) (g:SzQ n q):SzQ (m+n) (p / q):=by
 by_cases h:q=0
 ·subst h;rw [jbM,Rat.inv_zero,Rat.mul_zero]
  have hm:1<=m:=by
   cases m with
   |zero=>
    have r:(p.den:Int).natAbs<2 ^ 0:=hp.2;have s:=den_pos p;simp at r;omega
   |succ m=>omega
  exact ⟨rO (n:=m+n) (by omega) (show (-2:Int)<0 by decide) (show (0:Int)<2 by decide),rO (n:=m+n) (by omega) (show (-2:Int)<1 by decide) (show (1:Int)<2 by decide)⟩
 ·exact SzQ.of_div (Cm p q h).symm (hp.1.mul g.2) (hp.2.mul g.1) (Int.mul_ne_zero (Int.ne_of_gt (den_pos p)) (Gz h))
end
def Vk:Sp:=spT (α:=Int×Int) (λa=>[.int a.1, .int a.2]) (λa=>a.2≠0/\Sz 8999 a.2) (λa=>frD (Rat.divInt a.1 a.2))
theorem UG {i j:Int} (S:Sta B G0 H cs ds) (h0:j≠0) (hz:Sz 8999 j) (k:∀r H',zH H H'->Sta B G0 H' cs ((frD (Rat.divInt i j),r)::ds)->Q r H'):Vk [.int i, .int j] H Q E:=
 Zg (i,j) S (.cons Has.int (.cons Has.int .nil)) ⟨h0,hz⟩ k
def spQ2 (dom:Rat->Rat->Prop) (g:Rat->Rat->Rat):Sp:=spT (α:=Rat×Rat) (λa=>[frD a.1,frD a.2]) (λa=>(∃m n,SzQ m a.1/\SzQ n a.2/\m+n<=8999)/\dom a.1 a.2) (λa=>frD (g a.1 a.2))
theorem qd {h:Rat->Rat->Prop} {g:Rat->Rat->Rat} {p q:Rat} {m n:Nat} (S:Sta B G0 H cs ds) (t:Has ds (frD p) v) (s:Has ds (frD q) w) (s1:SzQ m p) (s2:SzQ n q) (u:m+n<=8999) (hd:h p q)
 (k:∀r H',zH H H'->Sta B G0 H' cs ((frD (g p q),r)::ds)->Q r H'):spQ2 h g [v,w] H Q E:=
 Zg (p,q) S (.cons t (.cons s .nil)) ⟨⟨m,n,s1,s2,u⟩,hd⟩ k
abbrev domT:Rat->Rat->Prop:=λ_ _=>True
abbrev iQ:Sp:=spQ2 domT λp q=>p+q
abbrev aD:Sp:=spQ2 domT λp q=>p - q
abbrev pM:Sp:=spQ2 domT λp q=>p*q
abbrev Gs:Sp:=spQ2 (λ_ q=>q≠0) λp q=>p / q
def Ux:Sp:=spP (α:=Rat×Rat) (λa=>[frD a.1,frD a.2]) (λa=>∃m n,SzQ m a.1/\SzQ n a.2/\m+n<=100000000) (λa=> .bl (decide (a.1<a.2)))
theorem fi {p q:Rat} {m n:Nat} (S:Sta B G0 H cs ds) (h:Has ds (frD p) v) (g:Has ds (frD q) w) (s1:SzQ m p) (s2:SzQ n q) (r:m+n<=100000000) (k:Q (.bl (decide (p<q))) H):Ux [v,w] H Q E:=
 rd_spP (p,q) S (.cons h (.cons g .nil)) ⟨m,n,s1,s2,r⟩ k
def Vd (ns:List Int) (k:Int):Int:=if k<(ns.length:Int) then ns.getD k.toNat 0 else 0
def rS (K:PySem.W.Frag):Sp:=λvs H Q _=>∃(a:Addr) (ns:List Int) (k:Int),vs=[.ref a, .int k]/\SqL K H a (ns.map V.int)/\0<=k/\Q (.int (Vd ns k)) H
theorem rd_cell {K:PySem.W.Frag} {a:Addr} {ns:List Int} {k:Int} (g:SqL K H a (ns.map V.int)) (h0:0<=k) (h:Q (.int (Vd ns k)) H):rS K [.ref a, .int k] H Q E:=⟨a,ns,k,rfl,g,h0,h⟩
def wX:Sp:=λvs H Q _=>∃a b:Int,vs=[.int a, .int b]/\0<=b/\Q (.int (Int.gcd a b:Nat)) H
theorem rd_div2 {a b:Int} (h0:0<=b) (h:Q (.int (Int.gcd a b:Nat)) H):wX [.int a, .int b] H Q E:=⟨a,b,rfl,h0,h⟩
def jQ:Sp:=spT (α:=Int×Int) (λa=>[.int a.1, .int a.2]) (λa=>0<a.2/\Sz 8999 a.2) (λa=>frD (Rat.divInt a.1 a.2))
theorem nB {i j:Int} (S:Sta B G0 H cs ds) (h0:0<j) (hz:Sz 8999 j) (k:∀r H',zH H H'->Sta B G0 H' cs ((frD (Rat.divInt i j),r)::ds)->Q r H'):jQ [.int i, .int j] H Q E:=
 Zg (i,j) S (.cons Has.int (.cons Has.int .nil)) ⟨h0,hz⟩ k
def mixV (c p:Int):Int:=(((c % 2147483629*16807+69621*p+11) % 2147483629)*((c % 2147483629*16807+69621*p+11) % 2147483629)+48271*p+7) % 2147483629*69621 % 2147483587
def Hz:Sp:=λvs H Q _=>∃c p:Int,vs=[.int c, .int p]/\Q (.int (mixV c p)) H
theorem rd_mix {c p:Int} (h:Q (.int (mixV c p)) H):Hz [.int c, .int p] H Q E:=⟨c,p,rfl,h⟩
def eZ (r:List Int):PyData:= .list (r.map PyData.int)
theorem Sta.put_call {G h H':Hp} {p:Addr} {us:List V} {xs:List PyData} (S:He B G0 H cs ds G) (gr:Grow G H h H') (hp:H p=none) (s:h p=none) (r:H' p=some (.lst us)) (m:zu h xs us):Sta B G0 H' ((p,xs)::cs) ds:=by
 have t:=S.2.2.1.free hp;obtain ⟨_,_,_,_,e0,_,_⟩:=id S;obtain ⟨D,C,A,d',y,u,g'⟩:=S.grow gr;refine ⟨h,D,C,A,d',λq g=>?_,?_,g'⟩
 ·rcases Qk.mp g with rfl|g
  ·exact ⟨t,s,us,r,m⟩
  ·exact y q g
 ·rw [Qp,TK];refine ⟨λz=>?_,u⟩;obtain ⟨q,g,I⟩:=Qj.mp z;obtain ⟨_,_,ws,z,_⟩:=e0 q g;rw [I,hp] at z;cases z
theorem rd_true {σ:L2.St} {R:Bool->Hp->Prop} (h:R true H):tTrue σ H R:=h
def Ww (m:Nat):List Int:=List.replicate m 0
theorem dH (m:Nat):(Ww m).length=m:=QA
theorem IU (p q:Rat):PyData.eqv (frD p) (frD q)=decide (p=q):=eqv_fr p q
theorem mO {d:PyData} {n:Nat} (h:d.canLay0=true) (g:d.depth<=n) (l:n<=64):SeqAt.shaped d=true:=by
 unfold SeqAt.shaped;rw [h,Tp (QT g l)];rfl
theorem iR (a:Rat):SeqAt.shaped (frD a)=true:=mO (GH a) (GS a) (by decide)
theorem UA (a:List Rat):SeqAt.shaped (yu a)=true:=mO (BJ a) (Cn a) (by decide)
def tyD:PyData->String
 | .none=>"NoneType"
 | .bool _=>"bool"
 | .int _=>"int"
 | .str _=>"str"
 | .list _=>"list"
 | .tuple _=>"tuple"
 | .dict _=>"dict"
def noIns:PyData->Bool
 | .dict _=>false
 |_=>true
theorem Is.ty {K:PySem.W.Frag} {d:PyData} (h:Is H d v) (nd:noIns d=true):TyOf K H v (.type (tyD d)):=by
 cases d with
 |none=>rw [Is] at h;subst h;exact .non
 |bool b=>rw [Is] at h;subst h;exact .bl b
 |int b=>rw [Is] at h;subst h;exact .int b
 |str b=>rw [Is] at h;subst h;exact .str b
 |list xs=>rw [Is] at h;obtain ⟨p,vs,rfl,e,_⟩:=h;exact .lst e
 |tuple xs=>rw [Is] at h;obtain ⟨p,vs,rfl,e,_⟩:=h;exact .tup e
 |dict _=>cases nd
theorem rd_isi {K:PySem.W.Frag} {d:PyData} {T:String} {b:Bool} (h:Is H d v) (e:PySem.W.kitOne K (.type (tyD d)) (.type T)=some b) (k:Q (.bl b) H) (nd:noIns d=true):rIsi K [v, .ty T] H Q:=⟨v,T,_,b,rfl,h.ty nd,e,k⟩
section
variable {K:PySem.W.Frag}
theorem kit_ib:PySem.W.kitOne K (.type "int") (.type "bool")=some false:=by rfl
theorem kit_ii:PySem.W.kitOne K (.type "int") (.type "int")=some true:=by rfl
end
theorem ya {α β:Type} {f:α->β} {l:List α} {i:Nat} {x:β} (h:(l.map f)[i]? =some x):∃n,l[i]? =some n/\x=f n:=by
 rw [Qi] at h
 cases e:l[i]? with
 |none=>rw [e] at h;cases h
 |some n=>rw [e] at h;exact ⟨n,rfl,(QK h).symm⟩
theorem zF {α β:Type} (g:α->β) (d:α):∀l:List α,(List.range l.length).map (λi=>g (l.getD i d))=l.map g:=by
 intro l
 apply jaP
 intro i;rw [Qi,Qi]
 by_cases h:i<l.length
 ·rw [List.getElem?_range h,Qe h];simp [h]
 ·rw [QN (by simpa using Nat.le_of_not_lt h),QN (by omega)];rfl
theorem yg {α:Type} {l:List α} {i:Nat} {n d:α} (h:l[i]? =some n):l.getD i d=n:=by rw [Qo,h];rfl
theorem Sta.int1 {n:Int} (S:Sta B G0 H cs ((.int n,v)::ds)):v= .int n:=S.top.int_of
theorem rd_gsub {to g:TE} {t:TSet} {σ:L2.St} {N:L2.St->Hp->Prop} (h:to σ H λo H1=>g σ H1 λi p=>t o i v p λm=>N σ m):gSub to g t v σ H N:=h
theorem tN {α:Type} {xs:List α} {x:α} (h:xs.getLast? =some x):atI xs (-1)=some x:=by
 obtain ⟨ys,rfl⟩:∃ys,xs=ys++[x]:=by
  have g:xs≠[]:=by intro e;subst e;simp at h
  refine ⟨xs.dropLast,?_⟩;rw [Ta g] at h;rw [<-QK h,TZ]
 exact tO ys x
theorem Dats.nil:∀p∈([]:Dat),Has ds p.1 p.2:=λp hp=>absurd hp Qx
theorem Dats.cons {x:PyData} {r:Dat} (h:Has ds x v) (g:∀p∈r,Has ds p.1 p.2):∀p∈(x,v)::r,Has ds p.1 p.2:=λp hp=>by
 rcases Qk.mp hp with rfl|hp
 ·exact h
 ·exact g p hp
def Jo (p q:Rat):PyData:= .tuple [.int (q.num*(p.den:Int) - p.num*(q.den:Int)), .int ((p.den:Int)*(q.den:Int))]
def HB:Sp:=spT (α:=Rat×Rat) (λa=>[frD a.1,frD a.2]) (λa=>SzQ 2000 a.1/\SzQ 2000 a.2) (λa=>Jo a.1 a.2)
theorem rd_gap {p q:Rat} (S:Sta B G0 H cs ds) (h:Has ds (frD p) v) (g:Has ds (frD q) w) (s1:SzQ 2000 p) (s2:SzQ 2000 q) (k:∀r H',zH H H'->Sta B G0 H' cs ((Jo p q,r)::ds)->Q r H'):HB [v,w] H Q E:=
 Zg (p,q) S (.cons h (.cons g .nil)) ⟨s1,s2⟩ k
def SzC (n:Nat) (c:zg):Prop:=SzQ n c.1/\∀q∈c.2,SzQ n q
theorem sW {p q:Rat} (hp:SzQ 2000 p) (g:SzQ 2000 q):Sz 4001 (q.num*(p.den:Int) - p.num*(q.den:Int))/\Sz 4001 ((p.den:Int)*(q.den:Int)):=
 ⟨(g.1.mul hp.2).sub (hp.1.mul g.2),(hp.2.mul g.2).mono (by decide)⟩
open Classical in
noncomputable def Hv:Sp:=spB (α:=zg×zg×zg) (λa=>[zG a.1,zG a.2.1,zG a.2.2]) (λa=>SzC 2000 a.1/\SzC 2000 a.2.1/\SzC 2000 a.2.2/\a.2.1.2.length=a.1.2.length/\a.2.2.2.length=a.1.2.length/\a.1.2.length<=1000) (λa=> .bl (decide (zN a.1 a.2.1 a.2.2)))
open Classical in
theorem rd_str {a b c:zg} {u:V} (S:Sta B G0 H cs ds) (r:Has ds (zG a) v) (q:Has ds (zG b) w) (p:Has ds (zG c) u) (sa:SzC 2000 a) (sb:SzC 2000 b) (sc:SzC 2000 c) (m:b.2.length=a.2.length) (h:c.2.length=a.2.length) (g:a.2.length<=1000)
 (k:∀H',Sta B G0 H' cs ds->Q (.bl (decide (zN a b c))) H'):Hv [v,w,u] H Q E:=
 Gv (a,b,c) (S.hpAll (.cons r (.cons q (.cons p .nil)))) ⟨sa,sb,sc,m,h,g⟩ λH' e=>k H' (S.same e)
structure PathOk (m:Nat) (cs:List zg):Prop where
 sz:∀c∈cs,SzC 2000 c
 len:∀c∈cs,c.2.length=m
 m:m<=1000
 few:cs.length<=900
noncomputable def dU:Sp:=spL (α:=List zg) (λa=>[yy a]) (λa=>∃m,PathOk m a) (λa=>(yv a).map zG)
theorem uD {a:List zg} {m:Nat} (S:Sta B G0 H cs ds) (h:Has ds (yy a) v) (ok:PathOk m a) (k:∀p H',zH H H'->Sta B G0 H' ((p,(yv a).map zG)::cs) ds->Q (.ref p) H'):dU [v] H Q E:=
 Zm a S (.cons h .nil) ⟨m,ok⟩ k
def kPart (R:Option Int->Hp->Prop):VK:=λx H1=>∃i,x= .int i/\R (some i) H1
section
variable {σ:L2.St} {R:Option Int->Hp->Prop} {K:PySem.W.Frag}
theorem rd_sl {r:V->Option Int->Option Int->Hp->VK->Prop} {m:TE} {g th:TO} (h:m σ H λx H1=>g σ H1 λl q=>th σ q λu p=>r x l u p Q):tSl r m g th σ H Q:=h
theorem rd_noPart (h:R none H):wJ σ H R:=h
theorem rd_part {t:TE} (h:t σ H (kPart R)):tPart t σ H R:=h
theorem rd_kPart {i:Int} (h:R (some i) H):kPart R (.int i) H:=⟨i,rfl,h⟩
def cutI (ns:List Int) (lo g:Option Int):List Int:=(ns.drop (HT.sIx ns.length 0 lo)).take (HT.sIx ns.length ns.length g - HT.sIx ns.length 0 lo)
theorem Yj {G:Hp}:∀ns:List Int,zu G (ns.map PyData.int) (ns.map V.int)
 |[]=>by rw [jaY,jaY,zu]
 |n::ns=>by rw [Qp,Qp,zu];exact ⟨_,_,rfl,by rw [Is],Yj ns⟩
theorem rd_slS {a:Addr} {ns:List Int} {lo g:Option Int} (S:Sta B G0 H cs ds) (m:SqL K H a (ns.map V.int)) (k:∀l H',zH H H'->Sta B G0 H' ((l,(cutI ns lo g).map PyData.int)::cs) ds->Q (.ref l) H'):rSlL K (.ref a) lo g H Q:=by
 refine ⟨a,_,rfl,m,λl h=>k l _ (zH.new h _) ?_⟩
 have e:GV (ns.map V.int) lo g=(cutI ns lo g).map V.int:=by
  unfold GV cutI;rw [Qa,<-List.map_drop,<-List.map_take]
 rw [e];exact S.newL h λG _=>Yj _
end
end
end S
namespace S
open PySem PySem.Spec PyProof.Rows L2
theorem qG (p q:Rat):Int.gcd (p.num*(q.den:Int)+q.num*(p.den:Int)) ((p.den:Int)*(q.den:Int))∣q.den*q.den:=by
 have r:=Int.gcd_dvd_left (a:=p.num*(q.den:Int)+q.num*(p.den:Int)) (b:=(p.den:Int)*(q.den:Int));have h:=Int.gcd_dvd_right (a:=p.num*(q.den:Int)+q.num*(p.den:Int)) (b:=(p.den:Int)*(q.den:Int));generalize Int.gcd (p.num*(q.den:Int)+q.num*(p.den:Int)) ((p.den:Int)*(q.den:Int))=g at r h⊢
 have w:(g:Int)∣p.num*((q.den:Int)*q.den):=by
  have a:=Int.dvd_sub (Int.dvd_mul_of_dvd_left (c:=(q.den:Int)) r) (Int.dvd_mul_of_dvd_right (b:=q.num) h)
  have e:(p.num*(q.den:Int)+q.num*(p.den:Int))*(q.den:Int) - q.num*((p.den:Int)*(q.den:Int))=p.num*((q.den:Int)*q.den):=by
   rw [Int.add_mul,Int.mul_assoc,Int.mul_assoc];omega
  rw [e] at a;exact a
 have u:(g:Int)∣(p.den:Int)*((q.den:Int)*q.den):=by
  have a:=Int.dvd_mul_of_dvd_left (c:=(q.den:Int)) h;rw [Int.mul_assoc] at a;exact a
 have t:g∣p.num.natAbs*(q.den*q.den):=by
  have:=Int.natAbs_dvd_natAbs.mpr w;rw [Int.natAbs_mul] at this
  simpa [Int.natAbs_mul] using this
 have s:g∣p.den*(q.den*q.den):=by
  have:=Int.natAbs_dvd_natAbs.mpr u
  simpa [Int.natAbs_mul] using this
 have m:=Nat.dvd_gcd t s;rw [Nat.gcd_mul_right,p.reduced,Nat.one_mul] at m;exact m
theorem vH {p q:Rat} {n:Nat} (h:SzQ n q) (hn:2*n<=8999):Sz 8999 ((Int.gcd (p.num*(q.den:Int)+q.num*(p.den:Int)) ((p.den:Int)*(q.den:Int)):Nat):Int):=by
 have d:=Nat.le_of_dvd (Nat.mul_pos q.den_pos q.den_pos) (qG p q);generalize Int.gcd (p.num*(q.den:Int)+q.num*(p.den:Int)) ((p.den:Int)*(q.den:Int))=g at d⊢;refine Sz.le ((h.2.mul h.2).mono (show n+n<=8999 by omega)) ?_;rw [<-Int.natCast_mul];omega
section
variable {B G0 H:Hp} {cs:zY} {ds:Dat} {Q:VK} {E:XK} {v w:V}
def dY:Sp:=spT (α:=Int×Int) (λa=>[.int a.1, .int a.2]) (λa=>a.2≠0/\Sz 8999 ((Int.gcd a.1 a.2:Nat):Int)) (λa=>frD (Rat.divInt a.1 a.2))
theorem uF {i j:Int} (S:Sta B G0 H cs ds) (h0:j≠0) (hz:Sz 8999 ((Int.gcd i j:Nat):Int)) (k:∀r H',zH H H'->Sta B G0 H' cs ((frD (Rat.divInt i j),r)::ds)->Q r H'):dY [.int i, .int j] H Q E:=
 Zg (i,j) S (.cons Has.int (.cons Has.int .nil)) ⟨h0,hz⟩ k
def pQ:Sp:=spT (α:=Rat×Rat) (λa=>[frD a.1,frD a.2]) (λa=>∃m n,SzQ m a.1/\SzQ n a.2/\m<=100000/\2*n<=8999) (λa=>frD (a.1+a.2))
theorem DV {p q:Rat} {m n:Nat} (S:Sta B G0 H cs ds) (h:Has ds (frD p) v) (g:Has ds (frD q) w) (s1:SzQ m p) (s2:SzQ n q) (hm:m<=100000) (hn:2*n<=8999) (k:∀r H',zH H H'->Sta B G0 H' cs ((frD (p+q),r)::ds)->Q r H'):pQ [v,w] H Q E:=
 Zg (p,q) S (.cons h (.cons g .nil)) ⟨m,n,s1,s2,hm,hn⟩ k
end
inductive Rl where
 |shares|evenly|losses|halves
 |other (r:Rl)|ranks (r:Rl)|groups (a b:Rl)|upto (t b:Int) (x y:Rl)
def itS (i:Int):Str:=Str.ofString (toString i)
def Rl.shape:Rl->PyData
 | .shares=> .tuple [.str "shares"]
 | .evenly=> .tuple [.str "evenly"]
 | .losses=> .tuple [.str "losses"]
 | .halves=> .tuple [.str "halves"]
 | .other r=> .tuple [.str "other",r.shape]
 | .ranks r=> .tuple [.str "ranks",r.shape]
 | .groups a b=> .tuple [.str "groups",a.shape,b.shape]
 | .upto t b x y=> .tuple [.str "upto", .tuple [.int t, .int b],x.shape,y.shape]
def Rl.text:Rl->Str
 | .shares=>"shares"
 | .evenly=>"evenly"
 | .losses=>"losses"
 | .halves=>"halves"
 | .other r=>("other(":Str)++r.text++(")":Str)
 | .ranks r=>("ranks(":Str)++r.text++(")":Str)
 | .groups a b=>("groups(":Str)++a.text++(", ":Str)++b.text++(")":Str)
 | .upto t b x y=>("upto(":Str)++itS t++("/":Str)++itS b++(", ":Str)++x.text++(", ":Str)++y.text++(")":Str)
def Rl.size:Rl->Nat
 | .other r=>r.size+1
 | .ranks r=>r.size+1
 | .groups a b=>a.size+b.size+1
 | .upto _ _ x y=>x.size+y.size+1
 |_=>1
def Rl.deep:Rl->Nat
 | .other r=>r.deep+1
 | .ranks r=>r.deep+1
 | .groups a b=>max a.deep b.deep+1
 | .upto _ _ x y=>max x.deep y.deep+1
 |_=>1
def ah (t b:Int):Prop:=(Sz 210 t/\Sz 210 b)/\0<t/\t<b/\Int.gcd t b=1
structure RAd where
 (sh ev lo ha ot ra gr up:Addr)
def RAd.cls (A:RAd):Rl->Addr
 | .shares=>A.sh
 | .evenly=>A.ev
 | .losses=>A.lo
 | .halves=>A.ha
 | .other _=>A.ot
 | .ranks _=>A.ra
 | .groups _ _=>A.gr
 | .upto _ _ _ _=>A.up
def Fl (C:Addr) (form:PyData):PyData:= .dict [(.int ((C:Nat):Int),form)]
def Rl.ins (A:RAd) (r:Rl):PyData:=Fl (A.cls r) r.shape
structure ROk (K:PySem.W.Frag) (fS fT Ru C:Addr):Prop where
 cl:Cls K C
 na:ck K C "form"
 ms:Meth K C "shape" fS
 mt:Meth K C "text" fT
 ha:PySem.W.findIn K (.ref C) "__class__"=some (some (.builtin "object.__class__"))
 hn:PySem.W.specialIn K (.builtin "object.__class__") "__get__"=some (some (.builtin "getset_descriptor.__get__"))
 htk:PySem.W.takesIn K (.builtin "object.__class__")=some true
 hm:PySem.W.mroIn K C (.type "object")=some true
 kit:PySem.W.kitOne K (.ref C) (.ref Ru)=some true
section
variable {B G0 H:Hp} {cs:zY} {ds:Dat} {Q:VK} {E:XK} {v w u:V} {K:PySem.W.Frag} {α:Type} {C:Addr} {x:PyData} {vs:List V}
theorem is_ins {G:Hp} (h:Is G (Fl C x) v):∃p g w,v= .ref p/\G p=some (.ins C g [("form",w)])/\Is G x w:=by
 unfold Fl at h;rw [Is,Dc] at h;obtain ⟨p,s,g,w,e,r,q,m⟩:=h;have:C=s:=Int.ofNat.inj (PyData.int.inj e);subst this;exact ⟨p,g,w,r,q,m⟩
theorem Sta.ins (S:Sta B G0 H cs ds) (h:Has ds (Fl C x) v):∃p m w,v= .ref p/\H p=some (.ins C m [("form",w)])/\Sta B G0 H cs ((x,w)::ds):=by
 obtain ⟨G,a,b,c,d,e,f,g⟩:=S;obtain ⟨p,m,w,s,r,q⟩:=is_ins (h G g);exact ⟨p,m,w,s,b _ _ r,G,a,b,c,d,e,f,g.cons q⟩
def kFld (K:PySem.W.Frag) (f:Str) (Q:VK):VK:=λx H1=>∃a C g fs v,x= .ref a/\H1 a=some (.ins C g fs)/\Cls K C/\ck K C f/\fs.lookup f=some v/\Q v H1
theorem rd_fld {g:TE} {f:Str} {σ:L2.St} (h:g σ H (kFld K f Q)):tFld K g f σ H Q:=h
theorem AI {fS fT Ru:Addr} (S:Sta B G0 H cs ds) (h:Has ds (Fl C x) v) (ok:ROk K fS fT Ru C) (k:∀w,Sta B G0 H cs ((x,w)::ds)->Q w H):kFld K "form" Q v H:=by
 obtain ⟨p,g,w,rfl,hp,m⟩:=S.ins h;exact ⟨p,C,g,_,w,rfl,hp,ok.cl,ok.na,rfl,k w m⟩
def kMA (K:PySem.W.Frag) (m:Str) (f:Addr) (sp:Sp) (E:XK) (Q:VK):VK:=λx H1=>∃a C g fs,x= .ref a/\H1 a=some (.ins C g fs)/\Cls K C/\Meth K C m f/\fs.lookup m=none/\sp [x] H1 Q E
theorem rd_methA {m:Str} {f:Addr} {sp:Sp} {g:TE} {σ:L2.St} (h:g σ H (kMA K m f sp E Q)):Gn K m f sp E g σ H Q:=h
theorem iZ {fS fT Ru:Addr} {sp:Sp} (S:Sta B G0 H cs ds) (h:Has ds (Fl C x) v) (ok:ROk K fS fT Ru C) (k:sp [v] H Q E):kMA K "shape" fS sp E Q v H:=by
 obtain ⟨p,g,w,rfl,hp,m⟩:=S.ins h;exact ⟨p,C,g,_,rfl,hp,ok.cl,ok.ms,rfl,k⟩
def xj (C:Addr) (enc:α->List PyData) (form:α->PyData):Sp:=λvs H Q _=>∃(G:Hp) (a:α) (x h:Addr) (us:List V),vs= .ref x::us/\zH G H/\G x=none/\H x=some (.ins C h [])/\zu G (enc a) us/\
 ∀H' g w,(∀p o,p≠x->H p=some o->H' p=some o)->zH G g->zH g H'->(∀p,H p≠none->g p=G p)->H' x=some (.ins C h [("form",w)])->Is g (form a) w->Q .non H'
def kMake (C:Addr) (sp:Sp) (E:XK) (Q:VK) (vs:List V) (H1:Hp):Prop:=∀x g,H1 x=none->H1 g=none->g≠x->sp (.ref x::(vs++[])) (upd (upd H1 g (.own x)) x (.ins C g [])) (λv h=>v= .non/\Q (.ref x) h) E
theorem rd_make {sp:Sp} {t:TA} {σ:L2.St} (h:t σ H (kMake C sp E Q)):Hs C sp [] E t σ H Q:=h
theorem YS {enc:α->List PyData} {form:α->PyData} (a:α) (S:Sta B G0 H cs ds) (L:yc ds (enc a) vs) (k:∀x H',zH H H'->Sta B G0 H' cs ((Fl C (form a), .ref x)::ds)->Q (.ref x) H'):kMake C (xj C enc form) E Q vs H:=by
 intro x g q m Y;obtain ⟨G,s1,s2,s3,s4,s5,J,z⟩:=S;have D:G x=none:=s2.free q;have X:G g=none:=s2.free m
 have old:∀p o,H p=some o->upd (upd H g (.own x)) x (.ins C g []) p=some o:=λp o hp=>by
  rw [yb (yh hp q),yb (yh hp m)];exact hp
 refine ⟨G,a,x,g,vs,by rw [jaR],λp o hp=>old p o (s2 p o hp),D,yE,L G z,λH' I w T t P s O N=>⟨rfl,?_⟩⟩;have keep:∀p o,H p=some o->H' p=some o:=λp o hp=>T p o (yh hp q) (old p o hp);have y:I x=none:=by rw [s x (by rw [yE];simp)];exact D
 have r:=zH.new y (.ins C g [("form",w)]);refine k x H' keep ⟨upd I x (.ins C g [("form",w)]),(s1.trans t).trans r,λp o hp=>?_,λp o hp=>keep p o (s3 p o hp),λp hp=>?_,λc M=>?_,J,(z.mono (t.trans r)).cons ?_⟩
 ·by_cases h:p=x
  ·subst h;rw [yE] at hp;rw [<-hp];exact O
  ·rw [yb h] at hp;exact P p o hp
 ·cases hb:B p with
  |none=>exact absurd hb hp
  |some o=>
   have A:=s3 p o hb;rw [yb (yh A q),s p (by rw [old p o A];simp),s4 p hp]
 ·obtain ⟨z1,z2,us,z3,z4⟩:=s5 c M;have U:=yh z3 q;exact ⟨z1,by rw [yb U,s c.1 (by rw [old _ _ z3];simp)];exact z2,us,keep _ _ z3,zu.mono (t.trans r) _ _ z4⟩
 ·unfold Fl;rw [Is,Dc];exact ⟨x,C,g,w,rfl,rfl,yE,Is.mono r _ _ N⟩
def Xc (K:PySem.W.Frag) (fS fT Ru:Addr):Sp:=λvs H Q E=>∃C,ROk K fS fT Ru C/\xj C (α:=PyData) (λd=>[d]) (λd=>d) vs H Q E
theorem YR {fS fT Ru y h:Addr} {G H1:Hp} {d:PyData} (S:Sta H G H1 [] ds) (M:G y=none) (q:H y=some (.ins C h [])) (ok:ROk K fS fT Ru C) (hd:Has ds d v)
 (k:∀H' g w,(∀p o,p≠y->H p=some o->H' p=some o)->zH G g->zH g H'->(∀p,H p≠none->g p=G p)->H' y=some (.ins C h [("form",w)])->Is g d w->Q .non H'):Xc K fS fT Ru [.ref y,v] H1 Q E:=by
 obtain ⟨s,a1,N,m,r,_,_,g1⟩:=S;refine ⟨C,ok,s,d,y,h,[v],rfl,N,by rw [r y (by rw [q];simp)];exact M,m _ _ q,(yc.cons hd yc.nil) s g1,λH' g w L J I D A z=>k H' g w (λp o hp t=>L p o hp (m p o t)) (a1.trans J) I (λp hp=>?_) A z⟩;rw [D p ?_,r p hp]
 cases hb:H p with
 |none=>exact absurd hb hp
 |some o=>rw [m p o hb];simp
def rAddS:R2:=λx y H Q=>Ea x y H Q\/∃i j,x= .str i/\y= .str j/\i.length+j.length<=sizeLine/\Q (.str (i++j)) H
theorem op_addS {X:Cx}:OpR X (binaryOp .Add) rAddS:=kN.or uN
theorem rd_eqS {i j:Str} (h:Q (.bl (decide (i=j))) H):rEqA (.str i) (.str j) H Q:= .inl ⟨rfl,by
 rw [gh (show V.str i=V.str j↔i=j from ⟨V.str.inj,congrArg _⟩)];exact h⟩
theorem rd_ixTS {i:Int} {n:Str} {xs:List PyData} (S:Sta B G0 H cs ds) (g:Has ds (.tuple xs) v) (h:atI xs i=some (.str n)) (k:Q (.str n) H):rIx K v (.int i) H Q:=
 ja S g h λw m=>by have:=m.top;rw [Is] at this;subst this;exact k
def aB (A:RAd):Sp:=spT (α:=Rl) (λr=>[r.ins A]) (λ_=>True) (λr=>r.shape)
theorem Vp {A:RAd} {r:Rl} (S:Sta B G0 H cs ds) (h:Has ds (r.ins A) v) (k:∀w H',zH H H'->Sta B G0 H' cs ((r.shape,w)::ds)->Q w H'):aB A [v] H Q E:=Zg (α:=Rl) r S (yc.cons h yc.nil) trivial k
end
def VH (P:Program) (w:World) (K:PySem.W.Frag) (mg:Str->Option Value) (base:Heap) (x:Str) (C:Addr) (ps:List Str) (sp:Sp):Prop:=∃f fd,Mk K C f/\FnOk P w K mg base CX0 2 f fd ps sp/\yX K fd ps []/\mg x=some (.ref C)
def FX (K:PySem.W.Frag) (a:Addr) (n:Nat):It:=
 ⟨λi H=>i<n/\∃xs x,SqL K H a xs/\xs[n - 1 - i]? =some x,λi H x H'=>H'=H/\∀xs,SqL K H a xs->xs[n - 1 - i]? =some x,λi _=>n<=i⟩
theorem Dz {P:Program} {w:World} {K:PySem.W.Frag} {C:Expr} (a it:Addr) (n:Nat):Turn P w K C (FX K a n) [it] it (λi h=>i<=n/\h.IsRevIter it a ((n:Int) - 1 - (i:Nat))) where
 mem:=by simp
 obj:=λi h st b g=>by
  have e:b=it:=by simpa using g
  subst e;obtain ⟨_,o,e,c,d⟩:=st;exact ⟨o,e,λv z=>by rw [d] at z;cases z⟩
 keep:=λi h h' st k=>⟨st.1,st.2.at λo e=>k it (by simp) o e⟩
 item:=by
  intro X hP hw hK hc i pins s σ H E I hf st hg;subst hP hw hK;obtain ⟨O,xs,x,y,t⟩:=hg;obtain ⟨its,D,p,hz⟩:=I.list y;obtain ⟨u,J,ru⟩:=D.get t;obtain ⟨f0,f1,f2,r,f4,q⟩:=hf it (by simp);have L:(n:Int) - 1 - (i:Nat)=((n - 1 - i:Nat):Int):=by omega
  have m:=st.2;rw [L] at m;refine wpAny_pyNext_rev_item m p.isList (x:=u) (by simpa using J) λh' A sb=>?_;have N:Inv X pins σ H {s with heap:=h'}:=I.turned (t':=s.toks) (λb o g e=>(sb.2 b g).trans e) f0 f1 r f4 q;obtain ⟨o,e,c,d⟩:=id A
  exact ⟨u,rfl,Fw (s:={s with heap:=h'}) e c d (by decide) ⟨x,H,N,ru,⟨rfl,λys G=>by rw [I.list_inj G y];exact t⟩,⟨by omega,by
   rw [show (n:Int) - 1 - ((i+1:Nat):Int)=((n - 1 - i:Nat):Int) - 1 by omega];exact A⟩,λb g=>(hf b g).1⟩⟩
 done:=by
  intro X hP hw hK hc i pins s σ H E I hf st hg;subst hP hw hK;obtain ⟨f0,f1,f2,r,f4,q⟩:=hf it (by simp);have Q:n<=i:=hg;have m:=st.2;rw [show (n:Int) - 1 - (i:Nat)= -1 by have:=st.1;omega] at m;exact wpAny_pyNext_rev_end (I.ok.hd hc) m λh' M=>⟨rfl,I.turned (t':=s.toks) (λb o g e=>M b o g e) f0 f1 r f4 q⟩
 self:=λ_ _ _ _ _ st h=>wpAny_pyIter_revIter st.2 h
def iRev (K:PySem.W.Frag) (g:TA):TI:=λσ H R=>g σ H λvs H1=>∃a xs,vs=[.ref a]/\SqL K H1 a xs/\R (FX K a xs.length) H1
section
variable {X:Cx}
theorem pi_rev {r a:Expr} {m:TA} {p pos:Pos} (E:Gl X "reversed") (hm:X.mg "reversed"=none) (ha:PA X [a] m) (A:starEach [a] X.env=[(false,eval a X.env)]:=by rfl):
 PI X r (.Call (.Name "reversed" p) [a] [] pos) (iRev X.K m):=by
 intro pins s σ H R I h;refine Call_ (Wm I E hm qU (Tg (thn (ha pos pins s σ H _ I h) λus s1 ⟨vs,H1,g,w,y⟩=>?_) A rfl));obtain ⟨l,xs,e,C,q⟩:=y;subst e;obtain ⟨u,rfl,ru⟩:=gR w;cases (show u=Value.ref l from ru);obtain ⟨its,t,z,hz⟩:=g.list C;have D:=t.length;refine call_reversed_list z.isList ?_
 have hit:Heap.IsRevIter (s1.heap.push (revObj l ((its.toArray.size:Int) - 1))) s1.heap.objs.size l ((xs.length:Int) - 1 - ((0:Nat):Int)):=⟨_,Qt _ rfl,rfl,by
  show Data.fields #[.ref l,rawInt ((its.toArray.size:Int) - 1)]=_
  rw [QB,<-D];simp⟩
 refine wpAny_pyIter_revIter (s:={s1 with heap:=s1.heap.push (revObj l ((its.toArray.size:Int) - 1))}) hit ?_;have J:Inv X pins σ H1 {s1 with heap:=s1.heap.push (revObj l ((its.toArray.size:Int) - 1))}:=g.kept (t':=s1.toks) λb o e=>Qh _ e;refine ⟨s1.heap.objs.size,[s1.heap.objs.size],_,_,H1,rfl,J,Dz l _ xs.length,⟨jai _,hit⟩,λb G=>?_,q⟩;have e:b=s1.heap.objs.size:=by simpa using G
 subst e;exact g.fpOk (Qq _) (g.hok.fresh (Qq _))
end
def kRv (K:PySem.W.Frag) (R:It->Hp->Prop):List V->Hp->Prop:=λvs H1=>∃a xs,vs=[.ref a]/\SqL K H1 a xs/\R (FX K a xs.length) H1
section
variable {B G0 H:Hp} {cs:zY} {ds:Dat} {K:PySem.W.Frag} {a:Addr} {xs ys:List PyData} {P:zY->Dat->Prop} {v:V} {σ:L2.St} {R:It->Hp->Prop} {ta:TA}
theorem rd_iRv (h:ta σ H (kRv K R)):iRev K ta σ H R:=h
theorem wk_rev (s:Src B G0 true K a xs P):Wk B G0 (FX K a xs.length) xs.reverse P where
 go:=λ{H cs ds i} S h g=>by
  rw [To] at g;obtain ⟨vs,q,m,_⟩:=s S h;exact ⟨g,vs,vs[xs.length - 1 - i]'(by omega),q,Qe _⟩
 stop:=λ{H cs ds i} S h g=>by rw [To] at g;exact g
 yld:=λ{H H' cs ds i x v} S h hx y=>by
  obtain ⟨e,y⟩:=y;subst e;obtain ⟨vs,q,m,z⟩:=s S h;have g:i<xs.length:=by have:=(Qg.mp hx).1;rwa [To] at this
  rw [List.getElem?_reverse g] at hx;obtain ⟨w,hw,p⟩:=z _ x hx;have:=y vs q;rw [hw] at this;cases this;exact ⟨zH.refl _,p⟩
theorem HQ (S:Sta B G0 H cs ds) (h:Has ds (.list xs) v) (k:∀J,Wk B G0 J xs.reverse (λ_ ds=>Has ds (.list xs) v)->R J H):kRv K R [v] H:=by
 obtain ⟨p,vs,rfl,hp,g,_⟩:=S.lst h;refine ⟨p,vs,rfl,SqL.of hp,?_⟩;rw [<-g];exact k _ (wk_rev Vj)
end
def gT (l c:zg):zg:=(l.1 - c.1,List.zipWith (· - ·) l.2 c.2)
def qf (l c:zg):zg:=(l.1+c.1,List.zipWith (·+·) l.2 c.2)
def lastC (a:List zg):zg:=a.getLast?.getD (0,[])
def xq (a:List zg):List zg:=a.reverse.map (gT (lastC a))
def zP (p:Rat) (a:List zg):List zg:=a.map λc=>(c.1*p,c.2.map (·*p))
def xb (a b:List zg):List zg:=b.tail.map (qf (lastC a))
section
variable {B G0 H:Hp} {cs:zY} {ds:Dat} {Q:VK} {E:XK} {v w:V}
def mL (g:Rat->Rat->Rat):Sp:=spT (α:=List Rat×List Rat) (λa=>[yu a.1,yu a.2]) (λa=>(∀q∈a.1,SzQ 4000 q)/\(∀q∈a.2,SzQ 4000 q)/\a.1.length<=1000) (λa=>yu (List.zipWith g a.1 a.2))
theorem AJ {g:Rat->Rat->Rat} {p q:List Rat} (S:Sta B G0 H cs ds) (s:Has ds (yu p) v) (m:Has ds (yu q) w) (s1:∀x∈p,SzQ 4000 x) (s2:∀x∈q,SzQ 4000 x) (h:p.length<=1000)
 (k:∀r H',zH H H'->Sta B G0 H' cs ((yu (List.zipWith g p q),r)::ds)->Q r H'):mL g [v,w] H Q E:=
 Zg (p,q) S (.cons s (.cons m .nil)) ⟨s1,s2,h⟩ k
structure PathIn (a:List zg):Prop where
 ne:a≠[]
 sz:∀c∈a,SzC 4000 c
 len:∀c∈a,c.2.length<=1000
 few:a.length<=450
theorem PathIn.last {a:List zg} (h:PathIn a):a.getLast? =some (lastC a)/\lastC a∈a:=by
 obtain ⟨l,g⟩:∃l,a.getLast? =some l:=⟨_,Ta h.ne⟩;have e:lastC a=l:=by unfold lastC;rw [g];rfl
 rw [e];exact ⟨g,jak g⟩
theorem SzC.mono {m n:Nat} {c:zg} (h:SzC m c) (l:m<=n):SzC n c:=⟨h.1.mono l,λq g=>(h.2 q g).mono l⟩
def cX:Sp:=spL (α:=List zg) (λa=>[yy a]) PathIn (λa=>(xq a).map zG)
theorem nj {a:List zg} (S:Sta B G0 H cs ds) (h:Has ds (yy a) v) (ok:PathIn a) (k:∀p H',zH H H'->Sta B G0 H' ((p,(xq a).map zG)::cs) ds->Q (.ref p) H'):cX [v] H Q E:=
 Zm a S (.cons h .nil) ok k
def jI:Sp:=spL (α:=List zg×Rat) (λa=>[yy a.1,frD a.2]) (λa=>PathIn a.1/\SzQ 4000 a.2) (λa=>(zP a.2 a.1).map zG)
theorem nq {a:List zg} {p:Rat} (S:Sta B G0 H cs ds) (h:Has ds (yy a) v) (g:Has ds (frD p) w) (ok:PathIn a) (sp:SzQ 4000 p) (k:∀q H',zH H H'->Sta B G0 H' ((q,(zP p a).map zG)::cs) ds->Q (.ref q) H'):jI [v,w] H Q E:=
 Zm (a,p) S (.cons h (.cons g .nil)) ⟨ok,sp⟩ k
noncomputable def Uw:Sp:=spL (α:=List zg×List zg) (λa=>[yy a.1,yy a.2]) (λa=>PathIn a.1/\PathIn a.2/\∃m,PathOk m (a.1++xb a.1 a.2)) (λa=>(yv (a.1++xb a.1 a.2)).map zG)
theorem nF {a b:List zg} {m:Nat} (S:Sta B G0 H cs ds) (h:Has ds (yy a) v) (g:Has ds (yy b) w) (ok:PathIn a) (r:PathIn b) (q:PathOk m (a++xb a b))
 (k:∀p H',zH H H'->Sta B G0 H' ((p,(yv (a++xb a b)).map zG)::cs) ds->Q (.ref p) H'):Uw [v,w] H Q E:=
 Zm (a,b) S (.cons h (.cons g .nil)) ⟨ok,r,m,q⟩ k
end
def Xo (t x y:Rat):Rat:=x+t*(y - x)
def gQ (c d:zg) (E:Rat):List Rat:=List.zipWith (Xo ((E - c.1) / (d.1 - c.1))) c.2 d.2
def zm:List zg->Rat->List Rat
 |[],_=>[]
 |[c],_=>c.2
 |c::d::r,E=>if E<d.1 then gQ c d E else zm (d::r) E
def yO (a:List zg):Prop:=a.Pairwise λc d=>c.1<d.1
theorem UO {E:Rat}:∀{a:List zg} {i:Nat} {c:zg},yO a->a[i]? =some c->c.1<=E->(i+1=a.length\/∃d,a[i+1]? =some d/\E<d.1)->zm a E=match a[i+1]? with|none=>c.2|some d=>gQ c d E
 |[],i,c,_,h,_,_=>by simp at h
 |[b],i,c,_,h,_,_=>by
  cases i with
  |zero=>cases h;rfl
  |succ i=>simp at h
 |b::d::r,i,c,hr,h,hc,g=>by
  cases i with
  |zero=>
   cases h
   rcases g with g|⟨d',m,g⟩
   ·simp at g
   ·cases m;rw [zm,QH g];rfl
  |succ i=>
   have p:yO (d::r):=(Qm.mp hr).2;have h':(d::r)[i]? =some c:=by simpa using h
   have hd:d.1<=c.1:=by
    cases i with
    |zero=>cases h';exact QY
    |succ i=>exact QV ((Qm.mp p).1 c (Qb (by simpa using h')))
   have q:¬E<d.1:=Tz.mpr (TB hd hc);rw [zm,QS q]
   have:=UO (a:=d::r) (i:=i) (c:=c) p h' hc (by
    rcases g with g|⟨d',m,g⟩
    ·left;simpa using g
    ·right;exact ⟨d',by simpa using m,g⟩)
   rw [this]
   simp
theorem By (x y:Rat):Xo 0 x y=x:=by unfold Xo;grind
theorem sC (x y:Rat):Xo 1 x y=y:=by unfold Xo;grind
theorem my {f:Rat->Rat->Rat} (hf:∀x y,f x y=x):∀{l r:List Rat},l.length=r.length->List.zipWith f l r=l
 |[],[],_=>rfl
 |x::l,y::r,h=>by rw [jap,hf,my hf (by simpa using h)]
 |[],_::_,h=>by simp at h
 |_::_,[],h=>by simp at h
theorem iO {f:Rat->Rat->Rat} (hf:∀x y,f x y=y):∀{l r:List Rat},l.length=r.length->List.zipWith f l r=r
 |[],[],_=>rfl
 |x::l,y::r,h=>by rw [jap,hf,iO hf (by simpa using h)]
 |[],_::_,h=>by simp at h
 |_::_,[],h=>by simp at h
theorem bx {c d:zg} (h:c.2.length=d.2.length):gQ c d c.1=c.2:=by
 unfold gQ;have:(c.1 - c.1) / (d.1 - c.1)=0:=by rw [Rat.sub_self,jbM,jbX]
 rw [this];exact my By h
theorem FD {c d:zg} (h:c.2.length=d.2.length) (g:c.1<d.1):gQ c d d.1=d.2:=by
 unfold gQ
 have m:d.1 - c.1≠0:=λz=>by
  have:d.1=c.1:=by grind
  rw [this] at g;exact jbS g
 have:(d.1 - c.1) / (d.1 - c.1)=1:=by rw [jbM];exact jbm _ m
 rw [this];exact iO sC h
section
variable {B G0 H:Hp} {cs:zY} {ds:Dat} {Q:VK} {E:XK} {v w u:V}
def rR:Sp:=λvs H Q _=>∃(qs:List Rat) (e:Rat) (n:Nat),zu H [.list (qs.map frD),frD e] vs/\(0<qs.length/\qs.length<=1000000/\(∀q∈qs,SzQ n q)/\SzQ n e/\n<=40000000/\∀q,qs[0]? =some q->q<=e)/\
 ∀(i:Nat) (q:Rat),qs[i]? =some q->q<=e->(i+1=qs.length\/∃r,qs[i+1]? =some r/\e<r)->Q (.int (i:Nat)) H
theorem AE {qs:List Rat} {e:Rat} {n:Nat} (S:Sta B G0 H cs ds) (h:Is H (.list (qs.map frD)) v) (g:Is H (frD e) w) (hd:0<qs.length/\qs.length<=1000000/\(∀q∈qs,SzQ n q)/\SzQ n e/\n<=40000000/\∀q,qs[0]? =some q->q<=e)
 (k:∀(i:Nat) (q:Rat),qs[i]? =some q->q<=e->(i+1=qs.length\/∃r,qs[i+1]? =some r/\e<r)->Q (.int (i:Nat)) H):rR [v,w] H Q E:=
 ⟨qs,e,n,by simp only [zu];exact ⟨_,_,rfl,h,_,_,rfl,g,rfl⟩,hd,k⟩
def Uu:Sp:=spT (α:=Rat×Rat×Rat) (λa=>[frD a.1,frD a.2.1,frD a.2.2]) (λa=>(∃m n,SzQ n a.1/\SzQ n a.2.1/\SzQ m a.2.2/\m+3*n+2<=8999)/\a.2.1≠a.1) (λa=>frD ((a.2.2 - a.1) / (a.2.1 - a.1)))
theorem iX {s e x:Rat} {m n:Nat} (S:Sta B G0 H cs ds) (p:Has ds (frD s) v) (h:Has ds (frD e) w) (g:Has ds (frD x) u) (z1:SzQ n s) (z2:SzQ n e) (z3:SzQ m x) (hz:m+3*n+2<=8999) (q:e≠s)
 (k:∀r H',zH H H'->Sta B G0 H' cs ((frD ((x - s) / (e - s)),r)::ds)->Q r H'):Uu [v,w,u] H Q E:=
 Zg (s,e,x) S (.cons p (.cons h (.cons g .nil))) ⟨⟨m,n,z1,z2,z3,hz⟩,q⟩ k
def cZ:Sp:=spT (α:=Rat×Rat×Rat) (λa=>[frD a.1,frD a.2.1,frD a.2.2]) (λa=>∃m n,SzQ n a.1/\SzQ n a.2.1/\SzQ m a.2.2/\m+3*n+2<=8999) (λa=>frD (Xo a.2.2 a.1 a.2.1))
theorem nG {s e t:Rat} {m n:Nat} (S:Sta B G0 H cs ds) (p:Has ds (frD s) v) (h:Has ds (frD e) w) (g:Has ds (frD t) u) (z1:SzQ n s) (z2:SzQ n e) (z3:SzQ m t) (hz:m+3*n+2<=8999)
 (k:∀r H',zH H H'->Sta B G0 H' cs ((frD (Xo t s e),r)::ds)->Q r H'):cZ [v,w,u] H Q E:=
 Zg (s,e,t) S (.cons p (.cons h (.cons g .nil))) ⟨m,n,z1,z2,z3,hz⟩ k
def el:Sp:=spT (α:=zg×zg×Rat) (λa=>[zG a.1,zG a.2.1,frD a.2.2]) (λa=>(∃m n,SzC n a.1/\SzC n a.2.1/\SzQ m a.2.2/\m+6*n+4<=8999)/\a.1.1<a.2.1.1/\a.1.2.length<=1000) (λa=>yu (gQ a.1 a.2.1 a.2.2))
theorem uK {c d:zg} {e:Rat} {m n:Nat} (S:Sta B G0 H cs ds) (q:Has ds (zG c) v) (p:Has ds (zG d) w) (h:Has ds (frD e) u) (z1:SzC n c) (z2:SzC n d) (z3:SzQ m e) (hz:m+6*n+4<=8999) (s:c.1<d.1) (g:c.2.length<=1000)
 (k:∀r H',zH H H'->Sta B G0 H' cs ((yu (gQ c d e),r)::ds)->Q r H'):el [v,w,u] H Q E:=
 Zg (c,d,e) S (.cons q (.cons p (.cons h .nil))) ⟨⟨m,n,z1,z2,z3,hz⟩,s,g⟩ k
structure PathR (n:Nat) (a:List zg):Prop where
 ne:a≠[]
 sz:∀c∈a,SzC n c
 len:∀c∈a,c.2.length<=1000
 few:a.length<=900
 rise:yO a
 zero:∀c,a[0]? =some c->c.1=0
def WC:Sp:=spT (α:=List zg×Rat) (λa=>[yy a.1,frD a.2]) (λa=>∃m n,PathR n a.1/\SzQ m a.2/\m+6*n+4<=8999/\0<=a.2) (λa=>yu (zm a.1 a.2))
theorem aN {a:List zg} {e:Rat} {m n:Nat} (S:Sta B G0 H cs ds) (h:Has ds (yy a) v) (g:Has ds (frD e) w) (ok:PathR n a) (z:SzQ m e) (hz:m+6*n+4<=8999) (h0:0<=e)
 (k:∀r H',zH H H'->Sta B G0 H' cs ((yu (zm a e),r)::ds)->Q r H'):WC [v,w] H Q E:=
 Zg (a,e) S (.cons h (.cons g .nil)) ⟨m,n,ok,z,hz,h0⟩ k
end
theorem zV {a b:Rat} (h:a*b=0) (g:b≠0):a=0:=by
 have m:=jbm b g;have:a=a*b*b⁻¹:=by rw [Rat.mul_assoc,m,Rat.mul_one]
 rw [this,h,jbX]
theorem Zl {a b:Rat} (h:a<b):b - a≠0:=λz=>by
 have:b=a:=by grind
 rw [this] at h;exact jbS h
theorem xc {s e x y E:Rat} (h:s<e):(Xo ((E - s) / (e - s)) x y - x)*(e - s)=(E - s)*(y - x):=by
 have g:=jbm _ (Zl h);unfold Xo;rw [jbM];generalize (e - s)⁻¹=i at*
 grind
theorem YZ {c d:zg} {E:Rat} {i:Nat} {z:Rat} (h:(gQ c d E)[i]? =some z):∃x y,c.2[i]? =some x/\d.2[i]? =some y/\z=Xo ((E - c.1) / (d.1 - c.1)) x y:=by
 unfold gQ at h;rw [QP] at h
 cases hx:c.2[i]? with
 |none=>rw [hx] at h;cases h
 |some x=>
  cases hy:d.2[i]? with
  |none=>rw [hx,hy] at h;cases h
  |some y=>rw [hx,hy] at h;exact ⟨x,y,rfl,rfl,(QK h).symm⟩
structure PathT (m:Nat) (a:List zg):Prop where
 rise:yO a
 len:∀c∈a,c.2.length=m
 thin:∀(i:Nat) (x y z:zg),a[i]? =some x->a[i+1]? =some y->a[i+2]? =some z->¬zN x y z
theorem PathT.tail {m:Nat} {c:zg} {a:List zg} (h:PathT m (c::a)):PathT m a:=
 ⟨(Qm.mp h.rise).2,λx g=>h.len x (Qf _ g),λi x y z g p hz=>h.thin (i+1) x y z (by simpa using g) (by simpa using p) (by simpa using hz)⟩
theorem zR {c d:zg} {r:List zg} {E:Rat} (h:d.1<=E):zm (c::d::r) E=zm (d::r) E:=by
 rw [zm,QS (Tz.mpr h)]
theorem Zz {m:Nat} {c:zg} {r:List zg} (h:PathT m (c::r)):zm (c::r) c.1=c.2:=by
 cases r with
 |nil=>rfl
 |cons d r=>
  rw [zm,QH ((Qm.mp h.rise).1 d (Qc ..)),bx];rw [h.len c (Qc ..),h.len d (Qf _ (Qc ..))]
theorem BL {m:Nat}:∀{c:zg} {r:List zg},PathT m (c::r)->c.1<=(lastC (c::r)).1
 |c,[],_=>QY
 |c,d::r,h=>by
  have p:=(Qm.mp h.rise).1 d (Qc ..);have g:=BL h.tail;have e:lastC (c::d::r)=lastC (d::r):=by unfold lastC;rw [TM]
  rw [e];exact TB (QV p) g
theorem Yt (c d:zg) (r:List zg):lastC (c::d::r)=lastC (d::r):=by unfold lastC;rw [TM]
theorem Xu {m:Nat} {u v E:Rat} (G:u<=E) (s:E<=v) (N:u<v):∀{c:zg} {r:List zg},PathT m (c::r)->c.1<=u->(∀x∈r,¬(u<x.1/\x.1<v))->
 ∀(i:Nat) (x y z:Rat),(zm (c::r) u)[i]? =some x->(zm (c::r) v)[i]? =some y->(zm (c::r) E)[i]? =some z->(z - x)*(v - u)=(y - x)*(E - u)
 |c,[],_,_,_,i,x,y,z,g,hy,hz=>by
  have Z:c.2[i]? =some x:=g;have D:c.2[i]? =some y:=hy;have C:c.2[i]? =some z:=hz;rw [Z] at D C;cases D;cases C
  grind
 |c,d::r,h,hc,hno,i,x,y,z,g,hy,hz=>by
  have w:=(Qm.mp h.rise).1 d (Qc ..)
  by_cases hd:d.1<=u
  ·rw [zR hd] at g;rw [zR (TB hd (QV N))] at hy;rw [zR (TB hd G)] at hz;exact Xu G s N h.tail hd (λx g=>hno x (Qf _ g)) i x y z g hy hz
  ·have K:u<d.1:=jbh.mp hd;have H:v<=d.1:=Tz.mp λKu=>hno d (Qc ..) ⟨K,Ku⟩
   have key:∀t:Rat,t<=d.1->zm (c::d::r) t=gQ c d t:=by
    intro t ht
    by_cases A:t<d.1
    ·rw [zm,QH A]
    ·have e:t=d.1:=jbU ht (Tz.mp A);rw [e,zR QY,Zz h.tail,FD (by rw [h.len c (Qc ..),h.len d (Qf _ (Qc ..))]) w]
   rw [key u (QV K)] at g;rw [key v H] at hy;rw [key E (TB s H)] at hz;obtain ⟨p,q,hp,X,ex⟩:=YZ g;obtain ⟨p',q',L,M,Y⟩:=YZ hy;obtain ⟨P,O,I,J,ez⟩:=YZ hz;rw [hp] at L I;rw [X] at M J;cases L;cases I;cases M;cases J;have U:=xc (x:=p) (y:=q) (E:=u) w;have T:=xc (x:=p) (y:=q) (E:=v) w;have Q:=xc (x:=p) (y:=q) (E:=E) w;rw [<-ex] at U;rw [<-Y] at T;rw [<-ez] at Q;have k:((z - x)*(v - u) - (y - x)*(E - u))*(d.1 - c.1)=0:=by grind
   have:=zV k (Zl w)
   grind
theorem Yp {m:Nat} {E:Rat}:∀{c:zg} {r:List zg},(∀x∈c::r,x.2.length=m)->(zm (c::r) E).length=m
 |c,[],h=>h c (Qc ..)
 |c,d::r,h=>by
  rw [zm]
  split
  ·unfold gQ;rw [QO,h c (Qc ..),h d (Qf _ (Qc ..)),jbs]
  ·exact Yp λx g=>h x (Qf _ g)
def yA:List Rat->List Rat->List Rat
 |[],ys=>ys
 |x::xs,[]=>x::xs
 |x::xs,y::ys=>if x<y then x::yA xs (y::ys) else if x=y then y::yA xs ys else y::yA (x::xs) ys
termination_by xs ys=>xs.length+ys.length
theorem fH:∀xs:List Rat,yA xs []=xs
 |[]=>by rw [yA]
 |x::xs=>by rw [yA]
theorem YE {e:Rat}:∀{xs ys:List Rat},e∈yA xs ys↔e∈xs\/e∈ys
 |[],ys=>by rw [yA];simp
 |x::xs,[]=>by rw [yA];simp
 |x::xs,y::ys=>by
  rw [yA]
  split
  ·rw [Qk,YE (xs:=xs) (ys:=y::ys),Qk,Qk]
   constructor<;>intro h<;>grind
  ·split
   ·rename_i m g;subst g;rw [Qk,YE (xs:=xs) (ys:=ys),Qk,Qk]
    constructor<;>intro h<;>grind
   ·rw [Qk,YE (xs:=x::xs) (ys:=ys),Qk,Qk]
    constructor<;>intro h<;>grind
termination_by xs ys=>xs.length+ys.length
theorem xk {a b c:Rat} (h:a<b) (g:b<c):a<c:=by grind
def Uq (l:List Rat):Prop:=l.Pairwise (·<·)
theorem Vo:∀{xs ys:List Rat},Uq xs->Uq ys->Uq (yA xs ys)
 |[],ys,_,hy=>by rw [yA];exact hy
 |x::xs,[],hx,_=>by rw [yA];exact hx
 |x::xs,y::ys,hx,hy=>by
  obtain ⟨p,t⟩:=Qm.mp hx;obtain ⟨q,r⟩:=Qm.mp hy;rw [yA]
  split
  ·rename_i h;refine Qm.mpr ⟨λe he=>?_,Vo t hy⟩
   rcases YE.mp he with g|g
   ·exact p e g
   ·rcases Qk.mp g with rfl|g
    ·exact h
    ·exact xk h (q e g)
  ·split
   ·rename_i g m;subst m;refine Qm.mpr ⟨λe he=>?_,Vo t r⟩
    rcases YE.mp he with h|h
    ·exact p e h
    ·exact q e h
   ·rename_i g m
    have s:y<x:=by
     rcases Rat.le_iff_lt_or_eq.mp (Tz.mp g) with h|h
     ·exact h
     ·exact absurd h.symm m
    refine Qm.mpr ⟨λe he=>?_,Vo hx r⟩
    rcases YE.mp he with h|h
    ·rcases Qk.mp h with rfl|h
     ·exact s
     ·exact xk s (p e h)
    ·exact q e h
termination_by xs ys=>xs.length+ys.length
theorem US:∀(xs ys:List Rat),(yA xs ys).length<=xs.length+ys.length
 |[],ys=>by rw [yA];simp
 |x::xs,[]=>by rw [yA];simp
 |x::xs,y::ys=>by
  rw [yA]
  split
  ·have:=US xs (y::ys);simp only [Qw] at*;omega
  ·split
   ·have:=US xs ys;simp only [Qw] at*;omega
   ·have:=US (x::xs) ys;simp only [Qw] at*;omega
termination_by xs ys=>xs.length+ys.length
section
variable {B G0 H:Hp} {cs:zY} {ds:Dat} {Q:VK} {E:XK} {v w u:V}
def jP:Sp:=spL (α:=List Rat×List Rat) (λa=>[.list (a.1.map frD), .list (a.2.map frD)]) (λa=>(∃n,(∀q∈a.1,SzQ n q)/\(∀q∈a.2,SzQ n q)/\n<=40000000)/\a.1.length<=450/\a.2.length<=450) (λa=>(yA a.1 a.2).map frD)
theorem AD {p q:List Rat} {n:Nat} (S:Sta B G0 H cs ds) (s:Has ds (.list (p.map frD)) v) (m:Has ds (.list (q.map frD)) w) (z1:∀x∈p,SzQ n x) (z2:∀x∈q,SzQ n x) (hn:n<=40000000) (h:p.length<=450) (g:q.length<=450)
 (k:∀r H',zH H H'->Sta B G0 H' ((r,(yA p q).map frD)::cs) ds->Q (.ref r) H'):jP [v,w] H Q E:=
 Zm (p,q) S (.cons s (.cons m .nil)) ⟨⟨n,z1,z2,hn⟩,h,g⟩ k
def yf (a:List zg):List Rat:=a.map λc=>c.1
end
theorem wx (m:Nat):(Ww m).sum=0:=by
 unfold Ww
 induction m with
 |zero=>rfl
 |succ m g=>rw [Tc,QG,g];rfl
theorem fG {M:List Rat} (r:Uq M) {j:Nat} {u v e:Rat} (p:M[j]? =some u) (m:M[j+1]? =some v) (he:e∈M):¬(u<e/\e<v):=by
 rintro ⟨w,t⟩
 obtain ⟨i,q⟩:=Qu.mp he;obtain ⟨li,ei⟩:=Qg.mp q;obtain ⟨h,g⟩:=Qg.mp p;obtain ⟨lv,ev⟩:=Qg.mp m;have pw:=Tf.mp r
 by_cases c:i<=j
 ·rcases Nat.lt_or_eq_of_le c with c|c
  ·have:=pw i j li h c;rw [ei,g] at this
   grind
  ·subst c;rw [ei] at g;subst g
   grind
 ·by_cases s:i=j+1
  ·subst s;rw [ei] at ev;subst ev
   grind
  ·have:=pw (j+1) i lv li (by omega);rw [ei,ev] at this
   grind
theorem Uk {a:List zg} (h:yO a):Uq (yf a):=by
 unfold Uq yf;rw [Tj];exact h
section
variable {B G0 H:Hp} {cs:zY} {ds:Dat} {Q:VK} {E:XK} {v w u:V}
theorem isAll4 {G:Hp} {x y z t:PyData} {vs:List V} (h:zu G [x,y,z,t] vs):∃v w u r,vs=[v,w,u,r]/\Xn G [(x,v),(y,w),(z,u),(t,r)]:=by
 simp only [zu] at h;obtain ⟨v,_,rfl,s,w,_,rfl,q,u,_,rfl,m,r,_,rfl,g,rfl⟩:=h;exact ⟨v,w,u,r,rfl,λp hp=>by simp at hp;rcases hp with rfl|rfl|rfl|rfl<;>assumption⟩
def pL:Sp:=λvs H Q _=>∃n:Int,vs=[.int n]/\Q (.bl true) H
theorem DR {n:Int} (k:Q (.bl true) H):pL [.int n] H Q E:=⟨n,rfl,k⟩
end
section
variable {B G0 H:Hp} {cs:zY} {ds:Dat} {Q:VK} {E:XK} {v w u:V} {K:PySem.W.Frag} {CW a:Addr} {T:Str} {i:Nat}
def fg (d:Nat):Str:=⟨#[48+d]⟩
def figs:List Str:=["0","1","2","3","4","5","6","7","8","9"]
structure Fg (K:PySem.W.Frag) (cF:Addr):Prop where
 lk:∃its n sl,K.lookup cF=some ⟨.type "tuple",none, .seq its n,sl⟩/\its.size<=sizeLine/\xE (figs.map V.str) its.toList
end
def Rl.word:Rl->Str
 | .shares=>"shares"
 | .evenly=>"evenly"
 | .losses=>"losses"
 | .halves=>"halves"
 | .other _=>"other("
 | .ranks _=>"ranks("
 | .groups _ _=>"groups("
 | .upto _ _ _ _=>"upto("
def Rl.inner:Rl->Str
 | .other r=>r.text
 | .ranks r=>r.text
 | .groups a b=>a.text++(", ":Str)++b.text
 | .upto t b x y=>itS t++("/":Str)++itS b++(", ":Str)++x.text++(", ":Str)++y.text
 |_=>Str.empty
section
variable {B G0 H:Hp} {cs:zY} {ds:Dat} {Q:VK} {E:XK} {v w u:V} {K:PySem.W.Frag} {CW:Addr}
end
def zU:List Rat->Rat
 |[]=>0
 |x::r=>x+zU r
theorem dP:∀x y:List Rat,zU (x++y)=zU x+zU y
 |[],y=>by rw [jaG,zU];grind
 |a::x,y=>by rw [TH,zU,zU,dP x y];grind
theorem Vg (m:Nat):zU (List.replicate m 0)=0:=by
 induction m with
 |zero=>rfl
 |succ m g=>rw [Tc,zU,g];grind
theorem jE (t:Rat):∀x y:List Rat,x.length=y.length->zU (List.zipWith (Xo t) x y)=Xo t (zU x) (zU y)
 |[],[],_=>by rw [List.zipWith_nil_left,zU];unfold Xo;grind
 |a::x,b::y,h=>by
  rw [jap,zU,zU,zU,jE t x y (by simpa using h)];unfold Xo;grind
 |[],_::_,h=>by simp at h
 |_::_,[],h=>by simp at h
def LeV (x y:List Rat):Prop:=∀(i:Nat) (a b:Rat),x[i]? =some a->y[i]? =some b->a<=b
structure PathM (m:Nat) (a:List zg):Prop where
 t:PathT m a
 sums:∀c∈a,zU c.2=c.1
 mono:a.Pairwise λc d=>LeV c.2 d.2
theorem PathM.tail {m:Nat} {c:zg} {a:List zg} (h:PathM m (c::a)):PathM m a:=
 ⟨h.t.tail,λx g=>h.sums x (Qf _ g),(Qm.mp h.mono).2⟩
theorem sv {s e x y u v:Rat} (h:s<e) (q:u<=v) (p:x<=y):Xo ((u - s) / (e - s)) x y<=Xo ((v - s) / (e - s)) x y:=by
 have m:=xc (x:=x) (y:=y) (E:=u) h;have g:=xc (x:=x) (y:=y) (E:=v) h;have hp:0<e - s:=by grind
 have h0:0<=(v - u)*(y - x):=jbA (by grind) (by grind);refine Rat.le_of_mul_le_mul_left (c:=e - s) ?_ hp
 grind
theorem YD {m:Nat} {u v:Rat} (A:u<=v):∀{c:zg} {r:List zg},PathM m (c::r)->c.1<=u->LeV (zm (c::r) u) (zm (c::r) v)
 |c,[],_,_=>λi a b ha g=>by
  have w:c.2[i]? =some a:=ha;have G:c.2[i]? =some b:=g;rw [w] at G;cases G;exact QY
 |c,d::r,h,hc=>λi a b ha g=>by
  have z:=(Qm.mp h.t.rise).1 d (Qc ..);have hm:=(Qm.mp h.mono).1 d (Qc ..)
  by_cases hd:d.1<=u
  ·rw [zR hd] at ha;rw [zR (TB hd A)] at g;exact YD A h.tail hd i a b ha g
  ·have H:u<d.1:=jbh.mp hd;rw [zm,QH H] at ha;obtain ⟨x,y,C,q,E⟩:=YZ ha;have J:=hm i x y C q
   by_cases D:v<d.1
   ·rw [zm,QH D] at g;obtain ⟨O,N,K,I,M⟩:=YZ g;rw [C] at K;cases K;rw [q] at I;cases I;rw [E,M];exact sv z A J
   ·have p:d.1<=v:=Tz.mp D;rw [zR p] at g;have L:=YD p h.tail QY i y b (by rw [Zz h.t.tail];exact q) g;have s:=sv (x:=x) (y:=y) z (QV H) J;rw [<-E] at s
    have w:Xo ((d.1 - c.1) / (d.1 - c.1)) x y=y:=by
     rw [jbM,jbm _ (Zl z),sC]
    rw [w] at s;exact TB s L
theorem aU {m:Nat} {e:Rat}:∀{c:zg} {r:List zg},PathM m (c::r)->c.1<=e->e<=(lastC (c::r)).1->zU (zm (c::r) e)=e
 |c,[],h,hc,hl=>by
  have p:e=c.1:=jbU hl hc;rw [p];exact h.sums c (Qc ..)
 |c,d::r,h,hc,hl=>by
  have g:=(Qm.mp h.t.rise).1 d (Qc ..)
  by_cases hd:d.1<=e
  ·rw [zR hd];exact aU h.tail hd (by rw [<-Yt c];exact hl)
  ·have q:e<d.1:=jbh.mp hd;rw [zm,QH q];unfold gQ;rw [jE _ _ _ (by rw [h.t.len c (Qc ..),h.t.len d (Qf _ (Qc ..))]),h.sums c (Qc ..),h.sums d (Qf _ (Qc ..))];have s:=xc (x:=c.1) (y:=d.1) (E:=e) g;have:=zV (a:=Xo ((e - c.1) / (d.1 - c.1)) c.1 d.1 - e) (b:=d.1 - c.1) (by grind) (Zl g)
   grind
theorem fA {m:Nat}:∀{c:zg} {r:List zg},PathT m (c::r)->zm (c::r) (lastC (c::r)).1=(lastC (c::r)).2
 |c,[],h=>rfl
 |c,d::r,h=>by
  rw [Yt,zR (BL h.tail)];exact fA h.tail
def yZ:List zg->Nat->Rat->Option Rat
 |c::d::r,k,L=>if L<d.2.getD k 0 then some (Xo ((L - c.2.getD k 0) / (d.2.getD k 0 - c.2.getD k 0)) c.1 d.1) else yZ (d::r) k L
 |_,_,_=>none
theorem Uj {m:Nat} {k:Nat} {L e:Rat} (q:k<m):∀{c:zg} {r:List zg},PathM m (c::r)->c.2.getD k 0<=L->yZ (c::r) k L=some e->
 ∃(i:Nat) (a b:zg) (x y:Rat),(c::r)[i]? =some a/\(c::r)[i+1]? =some b/\a.2[k]? =some x/\b.2[k]? =some y/\x<=L/\L<y/\e=Xo ((L - x) / (y - x)) a.1 b.1/\a.1<=e/\e<b.1/\(e - a.1) / (b.1 - a.1)=(L - x) / (y - x)/\zm (c::r) e=List.zipWith (Xo ((L - x) / (y - x))) a.2 b.2
 |c,[],_,_,h=>by simp [yZ] at h
 |c,d::r,h,hc,hr=>by
  have Q:=(Qm.mp h.t.rise).1 d (Qc ..);have lc:k<c.2.length:=by rw [h.t.len c (Qc ..)];exact q
  have ld:k<d.2.length:=by rw [h.t.len d (Qf _ (Qc ..))];exact q
  have N:c.2[k]? =some (c.2.getD k 0):=by rw [Qo,Qe lc];rfl
  have M:d.2[k]? =some (d.2.getD k 0):=by rw [Qo,Qe ld];rfl
  rw [yZ] at hr
  by_cases g:L<d.2.getD k 0
  ·rw [QH g] at hr;cases hr;generalize c.2.getD k 0=x at*;generalize d.2.getD k 0=y at*;have P:x<y:=by grind
   have T:=xc (x:=c.1) (y:=d.1) (E:=L) P;have hp:0<y - x:=by grind
   have D:0<d.1 - c.1:=by grind
   have p:0<=(L - x)*(d.1 - c.1):=jbA (by grind) (by grind);have A:0<(y - L)*(d.1 - c.1):=jbV (by grind) D;have ge1:c.1<=Xo ((L - x) / (y - x)) c.1 d.1:=Rat.le_of_mul_le_mul_left (c:=y - x) (by grind) hp
   have C:Xo ((L - x) / (y - x)) c.1 d.1<d.1:=by
    refine jbh.mp λhle=>?_;have z:0<=(Xo ((L - x) / (y - x)) c.1 d.1 - d.1)*(y - x):=jbA (by grind) (by grind)
    grind
   have et:(Xo ((L - x) / (y - x)) c.1 d.1 - c.1) / (d.1 - c.1)=(L - x) / (y - x):=by
    unfold Xo;generalize (L - x) / (y - x)=t;have U:=jbm _ (Zl Q);rw [jbM];generalize (d.1 - c.1)⁻¹=j at*
    grind
   refine ⟨0,c,d,x,y,rfl,rfl,N,M,hc,g,rfl,ge1,C,et,?_⟩;rw [zm,QH C];unfold gQ;rw [et]
  ·rw [QS g] at hr;obtain ⟨i,a,b,x,y,p,A,z,K,J,I,H,w,G,u,s⟩:=Uj q h.tail (Tz.mp g) hr;refine ⟨i+1,a,b,x,y,by simpa using p,by simpa using A,z,K,J,I,H,w,G,u,?_⟩
   have O:d.1<=a.1:=by
    cases i with
    |zero=>cases p;exact QY
    |succ i=>exact QV ((Qm.mp h.t.tail.rise).1 a (Qb (by simpa using p)))
   rw [zR (TB O w)];exact s
theorem fc {m:Nat} {k:Nat} {L:Rat} (p:k<m):∀{c:zg} {r:List zg},PathM m (c::r)->c.2.getD k 0<=L->yZ (c::r) k L=none->(lastC (c::r)).2.getD k 0<=L
 |c,[],_,hc,h=>hc
 |c,d::r,h,hc,hr=>by
  rw [yZ] at hr
  by_cases g:L<d.2.getD k 0
  ·rw [QH g] at hr;cases hr
  ·rw [QS g] at hr;rw [Yt];exact fc p h.tail (Tz.mp g) hr
theorem ni {m:Nat} {k:Nat} {L:Rat} (g:k<m):∀{c:zg} {r:List zg} {i:Nat} {a b:zg},PathM m (c::r)->(c::r)[i]? =some a->(c::r)[i+1]? =some b->a.2.getD k 0<=L->L<b.2.getD k 0->
 yZ (c::r) k L=some (Xo ((L - a.2.getD k 0) / (b.2.getD k 0 - a.2.getD k 0)) a.1 b.1)
 |c,[],i,a,b,_,_,hb,_,_=>by simp at hb
 |c,d::r,0,a,b,_,ha,hb,_,hL=>by
  cases ha;cases hb;rw [yZ,QH hL]
 |c,d::r,i+1,a,b,h,ha,hb,hLa,hL=>by
  have p:(d::r)[i]? =some a:=by simpa using ha
  have s:d.2.getD k 0<=a.2.getD k 0:=by
   cases i with
   |zero=>cases p;exact QY
   |succ i=>
    have hm:=(Qm.mp h.tail.mono).1 a (Qb (by simpa using p));have ld:k<d.2.length:=by rw [h.t.len d (Qf _ (Qc ..))];exact g
    have q:k<a.2.length:=by rw [h.t.len a (Qb ha)];exact g
    exact hm k _ _ (by rw [Qo,Qe ld];rfl) (by rw [Qo,Qe q];rfl)
  rw [yZ,QS (Tz.mpr (TB s hLa))];exact ni g h.tail p (by simpa using hb) hLa hL
theorem iW {m:Nat} {k:Nat} {L:Rat} (p:k<m):∀{c:zg} {r:List zg},PathM m (c::r)->(∀l,(c::r).getLast? =some l->l.2.getD k 0<=L)->yZ (c::r) k L=none
 |c,[],_,_=>rfl
 |c,d::r,h,hl=>by
  have hd:d.2.getD k 0<=L:=by
   obtain ⟨l,g⟩:∃l,(c::d::r).getLast? =some l:=⟨_,Ta (by simp)⟩;have hle:=hl l g;rw [TM] at g
   cases r with
   |nil=>cases g;exact hle
   |cons f r=>
    rw [TM] at g;have hm:=(Qm.mp h.tail.mono).1 l (jak g);have ld:k<d.2.length:=by rw [h.t.len d (Qf _ (Qc ..))];exact p
    have q:k<l.2.length:=by rw [h.t.len l (Qf _ (Qf _ (jak g)))];exact p
    exact TB (hm k _ _ (by rw [Qo,Qe ld];rfl) (by rw [Qo,Qe q];rfl)) hle
  rw [yZ,QS (Tz.mpr hd)];exact iW p h.tail λl s=>hl l (by rw [TM];exact s)
theorem yd {m:Nat} {a:zg}:∀{c:zg} {r:List zg},PathT m (c::r)->a∈c::r->zm (c::r) a.1=a.2
 |c,[],_,ha=>by
  rcases Qk.mp ha with rfl|h
  ·rfl
  ·simp at h
 |c,d::r,h,ha=>by
  rcases Qk.mp ha with rfl|h'
  ·exact Zz h
  ·have:d.1<=a.1:=by
    rcases Qk.mp h' with rfl|g
    ·exact QY
    ·exact QV ((Qm.mp h.tail.rise).1 a g)
   rw [zR this];exact yd h.tail h'
theorem UT {m:Nat}:∀{c:zg} {r:List zg},PathT m (c::r)->lastC (c::r)∈c::r/\∀x∈c::r,x.1<=(lastC (c::r)).1
 |c,[],_=>⟨Qc ..,λx p=>by
  rcases Qk.mp p with rfl|h
  ·exact QY
  ·simp at h⟩
 |c,d::r,h=>by
  have g:=UT h.tail;rw [Yt];refine ⟨Qf _ g.1,λx p=>?_⟩
  rcases Qk.mp p with rfl|h'
  ·exact TB (QV ((Qm.mp h.rise).1 d (Qc ..))) (g.2 d (Qc ..))
  ·exact g.2 x h'
theorem dA {m:Nat} {c:zg} {r:List zg} (h:PathT m (c::r)):∀x∈c::r,c.1<=x.1:=λx g=>by
 rcases Qk.mp g with rfl|h'
 ·exact QY
 ·exact QV ((Qm.mp h.rise).1 x h')
theorem kW {a:List zg} (h:yO a) {i:Nat} {x y z:zg} (m:a[i]? =some x) (g:a[i+1]? =some y) (hz:z∈a):¬(x.1<z.1/\z.1<y.1):=
 fG (M:=yf a) (Uk h) (j:=i) (by unfold yf;rw [Qi,m];rfl) (by unfold yf;rw [Qi,g];rfl) (by unfold yf;exact Qj.mpr ⟨z,hz,rfl⟩)
def wj (x y z:List Rat) (a b:Rat):Prop:=∀(i:Nat) (p q r:Rat),x[i]? =some p->y[i]? =some q->z[i]? =some r->(r - p)*b=(q - p)*a
theorem fM {x y z:List Rat} {p q r a b:Rat}:wj (p::x) (q::y) (r::z) a b↔(r - p)*b=(q - p)*a/\wj x y z a b:=by
 constructor
 ·intro h;exact ⟨h 0 p q r rfl rfl rfl,λi w u t s m g=>h (i+1) w u t (by simpa using s) (by simpa using m) (by simpa using g)⟩
 ·rintro ⟨h0,h⟩ i w u t s m g
  cases i with
  |zero=>cases s;cases m;cases g;exact h0
  |succ i=>exact h i w u t (by simpa using s) (by simpa using m) (by simpa using g)
theorem sL {a b:Rat} {t s m:List Rat}:∀{x y z:List Rat},x.length=y.length->x.length=z.length->(wj (x++t) (y++s) (z++m) a b↔wj x y z a b/\wj t s m a b)
 |[],[],[],_,_=>by
  simp only [jaG];exact ⟨λh=>⟨λi p q r g=>by simp at g,h⟩,λh=>h.2⟩
 |p::x,q::y,r::z,g,h2=>by
  rw [TH,TH,TH,fM,fM,sL (by simpa using g) (by simpa using h2),and_assoc]
 |[],_::_,_,h,_=>by simp at h
 |_::_,[],_,h,_=>by simp at h
 |[],[],_::_,_,h=>by simp at h
 |_::_,_::_,[],_,h=>by simp at h
theorem sJ {a b:Rat}:∀{x y z:List Rat},x.length=y.length->x.length=z.length->wj x y z a b->(zU z - zU x)*b=(zU y - zU x)*a
 |[],[],[],_,_,_=>by simp only [zU];grind
 |p::x,q::y,r::z,h1,h2,h=>by
  rw [fM] at h;have:=sJ (by simpa using h1) (by simpa using h2) h.2;have h0:=h.1;simp only [zU]
  grind
 |[],_::_,_,h,_,_=>by simp at h
 |_::_,[],_,h,_,_=>by simp at h
 |[],[],_::_,_,h,_=>by simp at h
 |_::_,_::_,[],_,h,_=>by simp at h
theorem tS {x y:List Rat} {p q:Rat}:LeV (p::x) (q::y)↔p<=q/\LeV x y:=by
 constructor
 ·intro h;exact ⟨h 0 p q rfl rfl,λi s r m g=>h (i+1) s r (by simpa using m) (by simpa using g)⟩
 ·rintro ⟨h0,h⟩ i s r m g
  cases i with
  |zero=>cases m;cases g;exact h0
  |succ i=>exact h i s r (by simpa using m) (by simpa using g)
theorem CK {m g:List Rat}:∀{x y:List Rat},x.length=y.length->LeV x y->LeV m g->LeV (x++m) (y++g)
 |[],[],_,_,h=>h
 |p::x,q::y,hl,h,h'=>by
  rw [tS] at h;rw [TH,TH,tS];exact ⟨h.1,CK (by simpa using hl) h.2 h'⟩
 |[],_::_,h,_,_=>by simp at h
 |_::_,[],h,_,_=>by simp at h
def xi (Qs:List (List zg)) (ps:List Rat):List Rat:=(List.zipWith zm Qs ps).flatten
theorem xA (Q:List zg) (Qs:List (List zg)) (p:Rat) (ps:List Rat):xi (Q::Qs) (p::ps)=zm Q p++xi Qs ps:=by
 unfold xi;rw [jap,Ti]
def Wid (Q:List zg):Prop:=∃(m:Nat) (c:zg) (r:List zg),Q=c::r/\∀x∈c::r,x.2.length=m
theorem Wid.len {Q:List zg} (h:Wid Q) (p q:Rat):(zm Q p).length=(zm Q q).length:=by
 obtain ⟨m,c,r,rfl,h⟩:=h;rw [Yp h,Yp h]
theorem sI {a b:Rat}:∀{Qs:List (List zg)} {pu pv g:List Rat},pu.length=Qs.length->pv.length=Qs.length->g.length=Qs.length->(∀Q∈Qs,Wid Q)->
 (wj (xi Qs pu) (xi Qs pv) (xi Qs g) a b↔∀(k:Nat) (Q:List zg) (p q r:Rat),Qs[k]? =some Q->pu[k]? =some p->pv[k]? =some q->g[k]? =some r->wj (zm Q p) (zm Q q) (zm Q r) a b)
 |[],[],[],[],_,_,_,_=>⟨λ_ k Q p q r h=>by simp at h,λ_ i p q r h=>by simp [xi] at h⟩
 |Q::Qs,p::pu,q::pv,r::g,h1,h2,h3,hw=>by
  have w:=hw Q (Qc ..);rw [xA,xA,xA,sL (w.len _ _) (w.len _ _),sI (by simpa using h1) (by simpa using h2) (by simpa using h3) λQ A=>hw Q (Qf _ A)]
  constructor
  ·rintro ⟨h,h'⟩ k z y u t a1 a2 s m
   cases k with
   |zero=>cases a1;cases a2;cases s;cases m;exact h
   |succ k=>exact h' k z y u t (by simpa using a1) (by simpa using a2) (by simpa using s) (by simpa using m)
  ·intro h;exact ⟨h 0 Q p q r rfl rfl rfl rfl,λk z y u t a1 a2 s m=>h (k+1) z y u t (by simpa using a1) (by simpa using a2) (by simpa using s) (by simpa using m)⟩
 |[],_::_,_,_,h,_,_,_=>by simp at h
 |[],[],_::_,_,_,h,_,_=>by simp at h
 |[],[],[],_::_,_,_,h,_=>by simp at h
 |_::_,[],_,_,h,_,_,_=>by simp at h
 |_::_,_::_,[],_,_,h,_,_=>by simp at h
 |_::_,_::_,_::_,[],_,_,h,_=>by simp at h
theorem BI:∀{Qs:List (List zg)} {pu pv:List Rat},pu.length=Qs.length->pv.length=Qs.length->(∀Q∈Qs,Wid Q)->
 (∀(k:Nat) (Q:List zg) (p q:Rat),Qs[k]? =some Q->pu[k]? =some p->pv[k]? =some q->LeV (zm Q p) (zm Q q))->LeV (xi Qs pu) (xi Qs pv)
 |[],[],[],_,_,_,_=>λi p q h=>by simp [xi] at h
 |Q::Qs,p::pu,q::pv,h1,h2,hw,h=>by
  rw [xA,xA];exact CK ((hw Q (Qc ..)).len _ _) (h 0 Q p q rfl rfl rfl) (BI (by simpa using h1) (by simpa using h2) (λQ r=>hw Q (Qf _ r)) λk t m g a1 a2 s=>h (k+1) t m g (by simpa using a1) (by simpa using a2) (by simpa using s))
 |[],_::_,_,h,_,_,_=>by simp at h
 |[],[],_::_,_,h,_,_=>by simp at h
 |_::_,[],_,h,_,_,_=>by simp at h
 |_::_,_::_,[],_,h,_,_=>by simp at h
theorem rP:∀{Qs:List (List zg)} {ps:List Rat},ps.length=Qs.length->(∀(k:Nat) (Q:List zg) (p:Rat),Qs[k]? =some Q->ps[k]? =some p->zU (zm Q p)=p)->zU (xi Qs ps)=zU ps
 |[],[],_,_=>rfl
 |Q::Qs,p::ps,h,g=>by
  rw [xA,dP,g 0 Q p rfl rfl,zU,rP (by simpa using h) λk q m a1 a2=>g (k+1) q m (by simpa using a1) (by simpa using a2)]
 |[],_::_,h,_=>by simp at h
 |_::_,[],h,_=>by simp at h
theorem sN:∀{Qs:List (List zg)} {pu pv:List Rat},pu.length=Qs.length->pv.length=Qs.length->(∀Q∈Qs,Wid Q)->(xi Qs pu).length=(xi Qs pv).length
 |[],[],[],_,_,_=>rfl
 |Q::Qs,p::pu,q::pv,h1,h2,hw=>by
  rw [xA,xA,Qr,Qr,(hw Q (Qc ..)).len p q,sN (by simpa using h1) (by simpa using h2) λQ g=>hw Q (Qf _ g)]
 |[],_::_,_,h,_,_=>by simp at h
 |[],[],_::_,_,h,_=>by simp at h
 |_::_,[],_,h,_,_=>by simp at h
 |_::_,_::_,[],_,h,_=>by simp at h
theorem sD {x:Rat}:∀{Qs:List (List zg)} {ps:List Rat},x∈xi Qs ps->∃(k:Nat) (Q:List zg) (p:Rat),Qs[k]? =some Q/\ps[k]? =some p/\x∈zm Q p
 |[],ps,h=>by simp [xi] at h
 |Q::Qs,[],h=>by simp [xi] at h
 |Q::Qs,p::ps,h=>by
  rw [xA,QX] at h
  rcases h with h|h
  ·exact ⟨0,Q,p,rfl,rfl,h⟩
  ·obtain ⟨k,m,g,a,b,c⟩:=sD h;exact ⟨k+1,m,g,by simpa using a,by simpa using b,c⟩
theorem bend {m:Nat} {c:zg} {r:List zg} (h:PathM m (c::r)) {u v w:Rat} {y:zg} (hy:y∈c::r) (ev:y.1=v) (p:u<v) (K:v<w) (hc:c.1<=u) (hw:w<=(lastC (c::r)).1)
 (n1:∀x∈c::r,¬(u<x.1/\x.1<v)) (n2:∀x∈c::r,¬(v<x.1/\x.1<w)) (hl:wj (zm (c::r) u) (zm (c::r) w) (zm (c::r) v) (v - u) (w - u)):False:=by
 obtain ⟨j,U,ej⟩:=TN hy;have E:(c::r)[j]? =some y:=by rw [Qe U,ej]
 have hj1:j≠0:=λz=>by
  subst z;cases E;rw [<-ev] at p;exact Tz.mpr hc p
 obtain ⟨i,rfl⟩:∃i,j=i+1:=⟨j - 1,by omega⟩;have J:=h.t.rise;unfold yO at J;rw [Tf] at J
 have D:i+2<(c::r).length:=by
  refine Nat.lt_of_not_le λhle=>?_
  have e1:lastC (c::r)=y:=by
   unfold lastC;rw [jaF,show (c::r).length - 1=i+1 by omega,E];rfl
  rw [e1,ev] at hw;exact Tz.mpr hw K
 have Z:(c::r)[i]? =some (c::r)[i]:=Qe (by omega);have Y:(c::r)[i+2]? =some (c::r)[i+2]:=Qe D;have H:=J i (i+1) (by omega) U (by omega);have G:=J (i+1) (i+2) U D (by omega);rw [ej] at H G;generalize (c::r)[i]=x at*;generalize (c::r)[i+2]=z at*;have I:=Qb Z;have mz:=Qb Y;rw [ev] at H G;have P:x.1<=u:=Tz.mp λKu=>n1 x I ⟨Ku,H⟩;have Q:w<=z.1:=Tz.mp λKu=>n2 z mz ⟨G,Ku⟩;have px:=yd h.t I;have py:=yd h.t hy;have pz:=yd h.t mz;rw [ev] at py;have RO:=dA h.t x I
 have O:∀s∈r,¬(x.1<s.1/\s.1<v):=λs T=>by
  have:=kW h.t.rise Z E (Qf c T);rw [ev] at this;exact this
 have N:∀s∈r,¬(v<s.1/\s.1<z.1):=λs T=>by
  have:=kW h.t.rise E Y (Qf c T);rw [ev] at this;exact this
 refine h.t.thin i x y z Z E Y λk a b d ha X hd=>?_;have lk:k<m:=by rw [<-h.t.len x I];exact (Qg.mp ha).1
 have g:∀e,∃q,(zm (c::r) e)[k]? =some q:=λe=>⟨_,Qe (by rw [Yp h.t.len];exact lk)⟩;obtain ⟨pu,C⟩:=g u;obtain ⟨pw,A⟩:=g w;have l1:=Xu P (QV p) H h.t RO O k a b pu (by rw [px];exact ha) (by rw [py];exact X) C;have l2:=Xu (QV K) Q G h.t (TB hc (QV p)) N k b d pw (by rw [py];exact X) (by rw [pz];exact hd) A;have l3:=hl k pu pw b C A (by rw [py];exact X);rw [ev];have M:=Zl p;have L:=Zl K;have nuw:w - u≠0:=Zl (xk p K);have e1:((b - a)*(v - u) - (b - pu)*(v - x.1))*1=0:=by grind
 have e2:(pw - b)*(v - u)=(b - pu)*(w - v):=by grind
 have e3:((d - b)*(w - v) - (pw - b)*(z.1 - v))=0:=by grind
 have e4:((d - b)*(v - u) - (b - pu)*(z.1 - v))*(w - v)=0:=by grind
 have e5:=zV e4 L;have e6:((b - a)*(z.1 - x.1) - (d - a)*(v - x.1))*(v - u)=0:=by grind
 have:=zV e6 M
 grind
def Yz (P:List zg) (k:Nat) (Q:List zg):List Rat:=(yf Q).filterMap (yZ P k)
def wpF (P:List zg):Nat->List (List zg)->List Rat->List Rat
 |_,[],M=>M
 |k,Q::Qs,M=>wpF P (k+1) Qs (yA M (Yz P k Q))
theorem rL (P Q:List zg):∀(Qs:List (List zg)) (k:Nat) (M:List Rat),wpF P k (Qs++[Q]) M=yA (wpF P k Qs M) (Yz P (k+Qs.length) Q)
 |[],k,M=>by rw [jaG,wpF,wpF,wpF];rfl
 |Q'::Qs,k,M=>by rw [TH,wpF,wpF,rL P Q Qs (k+1),Qw];congr 2;omega
theorem aX {P:List zg} {e:Rat}:∀{Qs:List (List zg)} {k:Nat} {M:List Rat},e∈wpF P k Qs M↔e∈M\/∃(j:Nat) (Q:List zg),Qs[j]? =some Q/\e∈Yz P (k+j) Q
 |[],k,M=>by
  rw [wpF];exact ⟨.inl,λh=>h.elim id λ⟨j,Q,h,_⟩=>by simp at h⟩
 |Q::Qs,k,M=>by
  rw [wpF,aX,YE]
  constructor
  ·rintro ((h|h)|⟨j,Q',h1,h2⟩)
   ·exact .inl h
   ·exact .inr ⟨0,Q,rfl,h⟩
   ·exact .inr ⟨j+1,Q',by simpa using h1,by rw [show k+(j+1)=k+1+j by omega];exact h2⟩
  ·rintro (h|⟨j,Q',h1,h2⟩)
   ·exact .inl (.inl h)
   ·cases j with
    |zero=>cases h1;exact .inl (.inr h2)
    |succ j=>exact .inr ⟨j,Q',by simpa using h1,by rw [show k+1+j=k+(j+1) by omega];exact h2⟩
theorem rY {P:List zg}:∀{Qs:List (List zg)} {k:Nat} {M:List Rat},Uq M->(∀(j:Nat) (Q:List zg),Qs[j]? =some Q->Uq (Yz P (k+j) Q))->Uq (wpF P k Qs M)
 |[],_,_,h,_=>by rw [wpF];exact h
 |Q::Qs,k,M,h,g=>by
  rw [wpF];exact rY (Vo h (g 0 Q rfl)) λj p m=>by rw [show k+1+j=k+(j+1) by omega];exact g (j+1) p (by simpa using m)
structure Nest (P:List zg) (Qs:List (List zg)):Prop where
 pm:PathM Qs.length P
 p0:∃r,P=(0,List.replicate Qs.length 0)::r
 q:∀(k:Nat) (Q:List zg),Qs[k]? =some Q->∃(m:Nat) (r:List zg),Q=((0:Rat),List.replicate m 0)::r/\PathM m Q/\(lastC P).2[k]? =some (lastC Q).1
section
variable {P:List zg} {Qs:List (List zg)}
theorem Nest.wid (h:Nest P Qs):∀Q∈Qs,Wid Q:=λQ p=>by
 obtain ⟨k,g⟩:=Qu.mp p;obtain ⟨m,r,rfl,pm,_⟩:=h.q k Q g;exact ⟨m,_,r,rfl,pm.t.len⟩
theorem Nest.plen (h:Nest P Qs) (e:Rat):(zm P e).length=Qs.length:=by
 obtain ⟨r,rfl⟩:=h.p0;exact Yp h.pm.t.len
theorem Nest.get (h:Nest P Qs) (e:Rat) {k:Nat} {Q:List zg} (g:Qs[k]? =some Q):∃p,(zm P e)[k]? =some p:=
 ⟨_,Qe (by rw [h.plen];exact (Qg.mp g).1)⟩
theorem Nest.mono (h:Nest P Qs) {u v:Rat} (h0:0<=u) (g:u<=v):LeV (zm P u) (zm P v):=by
 obtain ⟨r,rfl⟩:=h.p0;exact YD g h.pm h0
theorem Nest.range (h:Nest P Qs) {e p:Rat} {k:Nat} {Q:List zg} (h0:0<=e) (w:e<=(lastC P).1) (s:Qs[k]? =some Q) (hp:(zm P e)[k]? =some p):0<=p/\p<=(lastC Q).1:=by
 obtain ⟨m,z,C,A,u⟩:=h.q k Q s;have g:=h.mono QY h0;have m2:=h.mono h0 w;obtain ⟨r,y⟩:=h.p0;subst y;have e0:zm ((0,List.replicate Qs.length 0)::r) 0=List.replicate Qs.length 0:=Zz h.pm.t;rw [e0] at g;rw [fA h.pm.t] at m2;refine ⟨g k 0 p ?_ hp,m2 k p _ hp u⟩;rw [QL,QH (Qg.mp s).1]
theorem Nest.reach (h:Nest P Qs) {k:Nat} {Q:List zg} {L e:Rat} (T:Qs[k]? =some Q) (Z:0<=L) (hr:yZ P k L=some e):
 (0<=e/\e<(lastC P).1)/\(zm P e)[k]? =some L/\∀m q,e<m->(zm P m)[k]? =some q->L<q:=by
 have J:k<Qs.length:=(Qg.mp T).1;obtain ⟨r,eP⟩:=h.p0;have pm:=h.pm;have mon:=λ(u v:Rat) (a:0<=u) (b:u<=v)=>h.mono a b;have plen:=h.plen;rw [eP] at hr pm mon plen⊢
 obtain ⟨i,a,b,x,y,g1,g2,g3,g4,N,Y,ee,I,z,et,ep⟩:=Uj J pm (by
  rw [Qo,QL,QH J];exact Z) hr
 have A:=Qb g1;have w:=Qb g2;have C:(0:Rat)<=a.1:=dA pm.t a A;have U:=(UT pm.t).2 b w;have M:x<y:=by grind
 have eL:Xo ((L - x) / (y - x)) x y=L:=by
  have l:=xc (x:=x) (y:=y) (E:=L) M;have:=zV (a:=Xo ((L - x) / (y - x)) x y - L) (b:=y - x) (by grind) (Zl M)
  grind
 have D:(zm ((0,List.replicate Qs.length 0)::r) e)[k]? =some L:=by
  rw [ep,QP,g3,g4];show some (Xo _ x y)=_;rw [eL]
 refine ⟨⟨TB C I,by grind⟩,D,λm q Ol G=>?_⟩;have K:a.1<b.1:=by grind
 have no:∀s∈r,¬(a.1<s.1/\s.1<b.1):=λs O=>kW pm.t.rise g1 g2 (Qf _ O)
 have key:∀g p,e<g->g<=b.1->(zm ((0,List.replicate Qs.length 0)::r) g)[k]? =some p->L<p:=by
  intro g p h1 H h3;have l1:=Xu (QV (by grind:a.1<g)) H K pm.t C no k x y p (by rw [yd pm.t A];exact g3) (by rw [yd pm.t w];exact g4) h3;have l2:=Xu I (QV z) K pm.t C no k x y L (by rw [yd pm.t A];exact g3) (by rw [yd pm.t w];exact g4) D;refine jbh.mp λhle=>?_;have p1:0<(y - x)*(g - e):=jbV (by grind) (by grind);have p2:0<=(L - p)*(b.1 - a.1):=jbA (by grind) (by grind)
  grind
 by_cases X:m<=b.1
 ·exact key m q Ol X G
 ·have h1:=key b.1 y z QY (by rw [yd pm.t w];exact g4);have H:=mon b.1 m (by grind) (by grind) k y q (by rw [yd pm.t w];exact g4) G
  grind
theorem Nest.reach_none (h:Nest P Qs) {k:Nat} {Q:List zg} {L:Rat} (p:Qs[k]? =some Q) (t:0<=L) (hr:yZ P k L=none):(lastC Q).1<=L:=by
 have s:k<Qs.length:=(Qg.mp p).1;obtain ⟨m,w,z,y,g⟩:=h.q k Q p;obtain ⟨r,u⟩:=h.p0;have pm:=h.pm;rw [u] at hr pm g;have:=fc s pm (by rw [Qo,QL,QH s];exact t) hr;rw [Qo,g] at this;exact this
theorem Nest.qpos (h:Nest P Qs) {k:Nat} {Q:List zg} (r:Qs[k]? =some Q):∀c∈Q,0<=c.1/\c.1<=(lastC Q).1:=λc p=>by
 obtain ⟨m,u,s,g,w⟩:=h.q k Q r;subst s;exact ⟨dA g.t c p,(UT g.t).2 c p⟩
def wpV (P:List zg) (Qs:List (List zg)):List Rat:=wpF P 0 Qs (yf P)
def yK (P:List zg) (Qs:List (List zg)):List zg:=(wpV P Qs).map λe=>(e,xi Qs (zm P e))
theorem Nest.rise (h:Nest P Qs):Uq (wpV P Qs):=by
 refine rY (Uk h.pm.t.rise) λk Q g=>?_;rw [jbE];obtain ⟨m,z,C,s,A⟩:=h.q k Q g;have hr:=Uk s.t.rise;unfold Uq Yz;rw [List.pairwise_filterMap];unfold Uq at hr;refine hr.imp_of_mem λ{L L'} hL Po Ku e he e' Ol=>?_;obtain ⟨c,u,rfl⟩:=Qj.mp hL;obtain ⟨w,y,rfl⟩:=Qj.mp Po;have r:=h.reach g (h.qpos g c u).1 he;have p:=h.reach g (h.qpos g w y).1 Ol;refine jbh.mp λhle=>?_;have:=h.mono p.1.1 hle k _ _ p.2.1 r.2.1
 grind
theorem Nest.mem (h:Nest P Qs) {e:Rat}:e∈wpV P Qs↔(∃c∈P,c.1=e)\/∃(k:Nat) (Q:List zg),Qs[k]? =some Q/\∃c∈Q,yZ P k c.1=some e:=by
 unfold wpV;rw [aX]
 constructor
 ·rintro (h1|⟨j,Q,h1,h2⟩)
  ·obtain ⟨c,g,rfl⟩:=Qj.mp h1;exact .inl ⟨c,g,rfl⟩
  ·rw [jbE] at h2;unfold Yz at h2;obtain ⟨L,m,hr⟩:=jbF.mp h2;obtain ⟨c,g,rfl⟩:=Qj.mp m;exact .inr ⟨j,Q,h1,c,g,hr⟩
 ·rintro (⟨c,g,rfl⟩|⟨k,Q,h1,c,g,hr⟩)
  ·exact .inl (Qj.mpr ⟨c,g,rfl⟩)
  ·refine .inr ⟨k,Q,h1,?_⟩;rw [jbE];exact jbF.mpr ⟨c.1,Qj.mpr ⟨c,g,rfl⟩,hr⟩
theorem Nest.in_range (h:Nest P Qs) {e:Rat} (he:e∈wpV P Qs):0<=e/\e<=(lastC P).1:=by
 rcases h.mem.mp he with ⟨c,g,rfl⟩|⟨k,Q,m,c,g,hr⟩
 ·have pm:=h.pm;obtain ⟨r,p⟩:=h.p0;subst p;exact ⟨dA pm.t c g,(UT pm.t).2 c g⟩
 ·have:=(h.reach m (h.qpos m c g).1 hr).1;exact ⟨this.1,QV this.2⟩
theorem Nest.no_level (h:Nest P Qs) {j k:Nat} {u v p q:Rat} {Q:List zg} (t:(wpV P Qs)[j]? =some u) (s:(wpV P Qs)[j+1]? =some v) (g:Qs[k]? =some Q) (hp:(zm P u)[k]? =some p) (w:(zm P v)[k]? =some q):
 ∀x∈Q,¬(p<x.1/\x.1<q):=by
 rintro x r ⟨A,z⟩
 have ru:=h.in_range (Qb t);have m:=h.in_range (Qb s);have y:=(h.qpos g x r).1
 cases hr:yZ P k x.1 with
 |none=>
  have:=h.reach_none g y hr;have:=(h.range m.1 m.2 g w).2
  grind
 |some e=>
  have re:=h.reach g y hr;have me:e∈wpV P Qs:=h.mem.mpr (.inr ⟨k,Q,g,x,r,hr⟩);refine fG h.rise t s me ⟨jbh.mp λhle=>?_,jbh.mp λhle=>?_⟩
  ·have:=h.mono re.1.1 hle k _ _ re.2.1 hp
   grind
  ·have:=h.mono m.1 hle k _ _ w re.2.1
   grind
theorem Av {M:List Rat} (p:Uq M) {j:Nat} {u v:Rat} (m:M[j]? =some u) (h:M[j+1]? =some v):u<v:=by
 obtain ⟨g,q⟩:=Qg.mp m;obtain ⟨lv,ev⟩:=Qg.mp h;have:=Tf.mp p j (j+1) g lv (by omega);rw [q,ev] at this;exact this
theorem Nest.pgap (h:Nest P Qs) {j:Nat} {u v:Rat} (p:(wpV P Qs)[j]? =some u) (m:(wpV P Qs)[j+1]? =some v):∀x∈P,¬(u<x.1/\x.1<v):=λx g=>
 fG h.rise p m (h.mem.mpr (.inl ⟨x,g,rfl⟩))
theorem Nest.qsum (h:Nest P Qs) {e:Rat} (h0:0<=e) (t:e<=(lastC P).1) {k:Nat} {Q:List zg} {p:Rat} (r:Qs[k]? =some Q) (hp:(zm P e)[k]? =some p):zU (zm Q p)=p:=by
 have g:=h.range h0 t r hp;obtain ⟨m,w,u,s,_⟩:=h.q k Q r;subst u;exact aU s g.1 g.2
theorem Nest.sum (h:Nest P Qs) {e:Rat} (h0:0<=e) (g:e<=(lastC P).1):zU (xi Qs (zm P e))=e:=by
 rw [rP (h.plen e) λk Q p m hp=>h.qsum h0 g m hp];have pm:=h.pm;obtain ⟨r,q⟩:=h.p0;rw [q] at pm g⊢;exact aU pm h0 g
theorem Nest.rises (h:Nest P Qs) {u v:Rat} (h0:0<=u) (s:u<=v) (z:v<=(lastC P).1):LeV (xi Qs (zm P u)) (xi Qs (zm P v)):=by
 refine BI (h.plen u) (h.plen v) h.wid λk Q p q r hp y=>?_;have g:=h.mono h0 s k p q hp y;have t:=h.range h0 (TB s z) r hp;obtain ⟨m,C,A,w,_⟩:=h.q k Q r;subst A;exact YD g w t.1
theorem Nest.thin (h:Nest P Qs) {j:Nat} {u v w:Rat} (D:(wpV P Qs)[j]? =some u) (z:(wpV P Qs)[j+1]? =some v) (hw:(wpV P Qs)[j+2]? =some w)
 (I:wj (xi Qs (zm P u)) (xi Qs (zm P w)) (xi Qs (zm P v)) (v - u) (w - u)):False:=by
 have K:=Av h.rise D z;have J:=Av h.rise z hw;have ru:=h.in_range (Qb D);have L:=h.in_range (Qb z);have A:=h.in_range (Qb hw);rw [sI (h.plen u) (h.plen w) (h.plen v) h.wid] at I
 have each:∀(k:Nat) (Q:List zg) (p q r:Rat),Qs[k]? =some Q->(zm P u)[k]? =some p->(zm P w)[k]? =some q->(zm P v)[k]? =some r->(r - p)*(w - u)=(q - p)*(v - u):=by
  intro k Q p q r g hp s hr;have wd:=h.wid Q (Qb g);have:=sJ (wd.len _ _) (wd.len _ _) (I k Q p q r g hp s hr);rw [h.qsum ru.1 ru.2 g hp,h.qsum A.1 A.2 g s,h.qsum L.1 L.2 g hr] at this;exact this
 rcases h.mem.mp (Qb z) with ⟨y,C,X⟩|⟨k,Q,g,y,C,hr⟩
 ·have g1:=h.pgap D z;have g2:=h.pgap z hw;have pl:=λe=>h.plen e
  have t:wj (zm P u) (zm P w) (zm P v) (v - u) (w - u):=λk p q r hp s hr=>by
   have lk:k<Qs.length:=by rw [<-h.plen u];exact (Qg.mp hp).1
   exact each k _ p q r (Qe lk) hp s hr
  obtain ⟨r,Z⟩:=h.p0;have pm:=h.pm;rw [Z] at g1 g2 t pm C A;exact bend pm C X K J ru.1 A.2 g1 g2 t
 ·have re:=h.reach g (h.qpos g y C).1 hr;obtain ⟨p,hp⟩:=h.get u g;obtain ⟨q,s⟩:=h.get w g;have e1:=each k Q p q y.1 g hp s re.2.1;have LY:=re.2.2 w q J s;have H:=h.mono ru.1 (QV K) k p y.1 hp re.2.1
  have Ri:p<y.1:=by
   refine jbh.mp λhle=>?_;have e:p=y.1:=jbU H hle;have p1:0<(q - p)*(v - u):=jbV (by grind) (by grind)
   grind
  have G:=h.no_level D z g hp re.2.1;have E:=h.no_level z hw g re.2.1 s;have t:=I k Q p q y.1 g hp s re.2.1;have N:=h.range ru.1 ru.2 g hp;have M:=h.range A.1 A.2 g s;obtain ⟨m,r,Y,O,_⟩:=h.q k Q g;subst Y;refine bend O C rfl Ri LY N.1 M.2 G E λi a b c ha U T=>?_;have l0:=t i a b c ha U T;have k0:((c - a)*(q - p) - (b - a)*(y.1 - p))*(w - u)=0:=by grind
  have:=zV k0 (Zl (xk K J))
  grind
end
end S
namespace S
open PySem PySem.Spec PyProof.Rows PyProof L2
section
variable {X:Cx}
theorem fL (l:Addr) (items:Array Value) (n:Nat) (b:Addr) (p:Obj) (m:Array Value) (t:Nat) (r:p.cls= .type "tuple") (hd2:p.data= .seq m t) (u:¬(!items.isEmpty && Builtin.List.listTooLong (items.size+m.size))=true) (C:items.size<=sizeLine) (D:items.size+m.size<=sizeLine+1):
 Meets (Builtin.«list.extend» ⟨[.ref l, .ref b],[]⟩) (λ_ R s=>s.heap.get? l=some {cls:= .type "list",dict:=none,data:= .seq items n,slots:=#[]}/\s.heap.get? b=some p/\R (.ok (.ret Value.none)) {s with heap:=s.heap.update l (Obj.mapSeq λx=>x++m),toks:=s.toks}):=
 .of_wp λprog w A R s h=>by
  obtain ⟨cls,dict,data,slots⟩:=p;dsimp only at r hd2;subst r;subst hd2;have g1:=AutoSeq1.idx_int;have g2:=AutoSeq1.sub_tuple_tuple;have g3:=AutoSeq1.sub_list_list;have g4:=AutoSeq1.sub_tuple_list;have g5:=AutoSeq1.sub_list_tuple;obtain ⟨hp,g,d,tk,os⟩:=s;obtain ⟨q,y,z⟩:=h;have fits:(items++m).size<=sizeLine+1:=by simpa using D
  wp_walk using (wpAny_updateSeq q rfl (hz:=C) (_hz':=fits)),AutoSeq1.wpAny_loadPart' q,AutoSeq1.wpAny_loadPart' y
  exact ⟨_,rfl,z⟩
def sj (K:PySem.W.Frag):V->List V->Hp->VK->Prop:=λx vs H Q=>∃l b xs zs,x= .ref l/\vs=[.ref b]/\H l=some (.lst xs)/\H b=some (.tup zs)/\xs.length+zs.length<=sizeLine/\Q .non (upd H l (.lst (xs++zs)))
theorem Jn:MtM X "list.extend" (sj X.K):=by
 intro pins s σ H x vs v us Q I rx rv h;obtain ⟨l,b,xs,zs,rfl,rfl,t,A,hz,q⟩:=h;cases rx;obtain ⟨u,C,ru⟩:=rv.one;subst C;cases ru;obtain ⟨z,its,n,r,p,e⟩:=I.lstM t;obtain ⟨g,m,ht,J⟩:=I.tuple (SqT.of A);have G:=m.length;obtain ⟨w,D,E,y,hd2⟩:=ht
 have room:its.toArray.size+g.toArray.size<=sizeLine:=by
  rw [QB,QB,<-p,<-G];exact hz
 have ok:¬(!its.toArray.isEmpty && Builtin.List.listTooLong (its.toArray.size+g.toArray.size))=true:=by
  rw [kS room,Bool.and_false];decide
 refine call_meets F.slot_list_extend ⟨_,e,rfl⟩ F.entry_list_extend (F.args_list_extend_2 _ _) (fL l its.toArray n b w g.toArray y E hd2 ok (by rw [QB,<-p];exact z) (by omega)) ⟨e,D, .non,_,I.lset (its':=its++g) t e (by simp) (r.append m) ?_,rfl,q⟩
 simpa using hz
end
section
variable {B G0 H:Hp} {cs:zY} {ds:Dat} {Q:VK} {v w:V} {xs zs:List PyData} {K:PySem.W.Frag} {L M:Addr}
theorem uH {ys:List PyData} (S:Sta B G0 H ((L,xs)::cs) ds) (g:Has ds (.tuple ys) w) (hz:xs.length+ys.length<=1000) (k:∀H',Sta B G0 H' ((L,xs++ys)::cs) ds->Q .non H'):sj K (.ref L) [w] H Q:=by
 obtain ⟨p,us,e,hp,m,s,al⟩:=S.tupAll g;obtain ⟨vs,r,t,put⟩:=s.put;subst e;refine ⟨L,p,vs,us,rfl,rfl,r,hp,?_,k _ ((put (xs++ys) (vs++us) λG a b=>b.app (al G a)).weak (jbf _) λq h=> .mem (Qz _ h))⟩;rw [<-m,<-t];exact QT hz (jbP rfl)
end
end S
namespace S
open PySem PySem.Spec PyProof.Rows L2
theorem uA {M:List Rat} (h:Uq M) {z:Rat} (hz:z∈M) (hle:∀e∈M,z<=e):M[0]? =some z:=by
 cases M with
 |nil=>simp at hz
 |cons a M=>
  have g:=hle a (Qc ..)
  rcases Qk.mp hz with e|e
  ·rw [e];rfl
  ·have:=(Qm.mp h).1 z e
   grind
theorem Au {M:List Rat} (h:Uq M) {z:Rat} (hz:z∈M) (hle:∀e∈M,e<=z) {i:Nat} {q:Rat} (g:M[i]? =some q) (r:i+1=M.length):q=z:=by
 obtain ⟨j,p,m⟩:=TN hz;obtain ⟨li,ei⟩:=Qg.mp g;have s:=hle q (Qb g)
 by_cases c:j=i
 ·subst c;rw [<-ei,<-m]
 ·have:=Tf.mp h j i p li (by omega);rw [m,ei] at this
  grind
theorem gu {c d:zg} {E:Rat} {w:List Rat} (q:c.1<d.1) (t:c.2.length=d.2.length) (s:c.2.length=w.length) (h:wj c.2 d.2 w (E - c.1) (d.1 - c.1)):gQ c d E=w:=by
 apply jaP
 intro i
 by_cases r:i<c.2.length
 ·have p:=Qe r;have m:=Qe (l:=d.2) (i:=i) (by omega);have g:=Qe (l:=w) (i:=i) (by omega);have:=h i _ _ _ p m g;unfold gQ;rw [QP,p,m,g];show some (Xo _ _ _)=_;have l:=xc (x:=c.2[i]) (y:=d.2[i]) (E:=E) q;have k:=zV (a:=Xo ((E - c.1) / (d.1 - c.1)) c.2[i] d.2[i] - w[i]) (b:=d.1 - c.1) (by grind) (Zl q);have:Xo ((E - c.1) / (d.1 - c.1)) c.2[i] d.2[i]=w[i]:=by grind
  rw [this]
 ·unfold gQ;rw [QN (by rw [QO];omega),QN (by omega)]
def BX:List zg->Nat
 |[]=>0
 |c::_=>c.2.length
def nQ:List (List zg)->Nat
 |[]=>0
 |Q::Qs=>BX Q+nQ Qs
theorem fZ:∀{Qs:List (List zg)},(∀Q∈Qs,∃(m:Nat) (r:List zg),Q=((0:Rat),List.replicate m 0)::r/\PathM m Q)->xi Qs (List.replicate Qs.length 0)=List.replicate (nQ Qs) 0
 |[],_=>rfl
 |Q::Qs,h=>by
  obtain ⟨m,r,e,pm⟩:=h Q (Qc ..);rw [Qw,Tc,xA,fZ λp g=>h p (Qf _ g),nQ,<-List.replicate_append_replicate]
  congr 1
  subst e;have:=Zz pm.t;dsimp only at this;rw [this,BX,QA]
structure PathR0 (n:Nat) (a:List zg):Prop where
 ne:a≠[]
 sz:∀c∈a,SzC n c
 len:∀c∈a,c.2.length<=1000
 few:a.length<=900
 rise:yO a
section
variable {P:List zg} {Qs:List (List zg)}
theorem Nest.zeroM (h:Nest P Qs):(wpV P Qs)[0]? =some 0:=by
 refine uA h.rise (h.mem.mpr (.inl ?_)) λe he=>(h.in_range he).1;obtain ⟨r,g⟩:=h.p0;rw [g];exact ⟨_,Qc ..,rfl⟩
theorem Nest.last_mem (h:Nest P Qs):(lastC P).1∈wpV P Qs:=by
 refine h.mem.mpr (.inl ⟨lastC P,?_,rfl⟩);have pm:=h.pm;obtain ⟨r,g⟩:=h.p0;rw [g] at pm⊢;exact (UT pm.t).1
theorem Nest.flen (h:Nest P Qs) (e:Rat):(xi Qs (zm P e)).length=nQ Qs:=by
 rw [sN (h.plen e) (pv:=List.replicate Qs.length 0) QA h.wid,fZ λQ p=>?_,QA];obtain ⟨k,g⟩:=Qu.mp p;obtain ⟨m,r,e,pm,_⟩:=h.q k Q g;exact ⟨m,r,e,pm⟩
theorem Nest.flat0 (h:Nest P Qs):xi Qs (zm P 0)=List.replicate (nQ Qs) 0:=by
 have e0:zm P 0=List.replicate Qs.length 0:=by
  have pm:=h.pm;obtain ⟨r,s⟩:=h.p0;rw [s] at pm⊢;exact Zz pm.t
 rw [e0,fZ λQ p=>?_];obtain ⟨k,g⟩:=Qu.mp p;obtain ⟨m,r,e,pm,_⟩:=h.q k Q g;exact ⟨m,r,e,pm⟩
theorem Nest.F_at {i:Nat} {c:zg} (g:(yK P Qs)[i]? =some c):(wpV P Qs)[i]? =some c.1/\c.2=xi Qs (zm P c.1):=by
 unfold yK at g;obtain ⟨e,he,rfl⟩:=ya g;exact ⟨he,rfl⟩
theorem Nest.F_of {i:Nat} {e:Rat} (he:(wpV P Qs)[i]? =some e):(yK P Qs)[i]? =some (e,xi Qs (zm P e)):=by
 unfold yK;rw [Qi,he];rfl
theorem Nest.riseF (h:Nest P Qs):yO (yK P Qs):=by
 unfold yO yK;rw [Tj];exact h.rise
theorem Nest.getLast (h:Nest P Qs):(yK P Qs).getLast? =some ((lastC P).1,xi Qs (zm P (lastC P).1)):=by
 have ne:0<(wpV P Qs).length:=jaU h.last_mem;have hlen:(yK P Qs).length=(wpV P Qs).length:=by unfold yK;rw [Qa]
 rw [jaF,hlen];have g:=Qe (l:=wpV P Qs) (i:=(wpV P Qs).length - 1) (by omega);rw [Nest.F_of g,Au h.rise h.last_mem (λe he=>(h.in_range he).2) g (by omega)]
theorem SzQ.port {m n:Nat} {L x y:Rat} (p:SzQ m L) (g:SzQ n x) (h:SzQ n y):SzQ (m+3*n+2) ((L - x) / (y - x)):=((p.sub g).div (h.sub g)).mono (by omega)
end
theorem jG {m:Nat} {a b p c:zg} (D:b.1<c.1) (q:b.2.length=m) (lc:c.2.length=m) (u:zN b p c) (t:zN a b c):zN a b p:=λi A B P s g r=>by
 have E:i<m:=by rw [<-q];exact (Qg.mp g).1
 have h:=Qe (l:=c.2) (i:=i) (by omega);have z:=u i B P _ g r h;have G:=t i A B _ s g h;generalize c.2[i]=C at*;have y:(B - A)*(c.1 - b.1)=(C - B)*(b.1 - a.1):=by grind
 have w:((B - A)*(p.1 - a.1) - (P - A)*(b.1 - a.1))*(c.1 - b.1)=0:=by
  have:((B - A)*(p.1 - a.1) - (P - A)*(b.1 - a.1))*(c.1 - b.1)=((B - A)*(c.1 - b.1))*(p.1 - b.1) - ((P - B)*(c.1 - b.1))*(b.1 - a.1):=by grind
  rw [this,y,z];grind
 have:=zV w (Zl D)
 grind
def Thn (F:List zg):Prop:=∀(i:Nat) (x y z:zg),F[i]? =some x->F[i+1]? =some y->F[i+2]? =some z->¬zN x y z
section
variable {C F G D:List zg} {c x y:zg} {m:Nat}
end
end S
namespace S
open PySem
def Ris (xs:Array Nat):Prop:=xs.toList.Pairwise (·<·)
theorem Ris.lt {xs:Array Nat} (h:Ris xs) {i k a b:Nat} (s:i<k) (ha:xs[i]? =some a) (p:xs[k]? =some b):a<b:=by
 have t:xs.toList[i]? =some a:=by simpa using ha
 have u:xs.toList[k]? =some b:=by simpa using p
 obtain ⟨m,r⟩:=Qg.mp t;obtain ⟨g,q⟩:=Qg.mp u;have:=Tf.mp h i k m g s;rw [r,q] at this;exact this
theorem lP {xs:Array Nat} {j:Nat} (h:Ris xs):∀(fuel lo g:Nat),g - lo<=fuel->lo<=g->g<=xs.size->(∀k a,k<lo->xs[k]? =some a->a<j)->(∀k a,g<=k->xs[k]? =some a->j<=a)->
 SetTable.below.go xs j fuel lo g<=xs.size/\(∀k a,k<SetTable.below.go xs j fuel lo g->xs[k]? =some a->a<j)/\(∀k a,SetTable.below.go xs j fuel lo g<=k->xs[k]? =some a->j<=a)
 |0,lo,g,hf,t,m,q,p=>by
  rw [SetTable.below.go];have e:lo=g:=by omega
  subst e;exact ⟨m,q,p⟩
 |fuel+1,lo,g,hf,t,m,q,p=>by
  rw [SetTable.below.go]
  by_cases c:lo<g
  ·rw [QH c];dsimp only;have hm:(lo+g) / 2<xs.size:=by omega
   have em:xs[(lo+g) / 2]? =some xs[(lo+g) / 2]:=by simp [hm]
   have w:xs.getD ((lo+g) / 2) j=xs[(lo+g) / 2]:=by simp [Array.getD,hm]
   rw [w]
   by_cases s:xs[(lo+g) / 2]<j
   ·rw [QH s];refine lP h fuel _ g (by omega) (by omega) m (λk a u ha=>?_) p
    by_cases r:k=(lo+g) / 2
    ·subst r;rw [em] at ha;cases ha;exact s
    ·have:=h.lt (show k<(lo+g) / 2 by omega) ha em;omega
   ·rw [QS s];refine lP h fuel lo _ (by omega) (by omega) (by omega) q λk a u ha=>?_
    by_cases r:k=(lo+g) / 2
    ·subst r;rw [em] at ha;cases ha;omega
    ·have:=h.lt (show (lo+g) / 2<k by omega) em ha;omega
  ·rw [QS c];have e:lo=g:=by omega
   subst e;exact ⟨m,q,p⟩
theorem VD {xs:Array Nat} (h:Ris xs) (j:Nat):SetTable.below xs j<=xs.size/\(∀k a,k<SetTable.below xs j->xs[k]? =some a->a<j)/\(∀k a,SetTable.below xs j<=k->xs[k]? =some a->j<=a):=
 lP h _ 0 xs.size (by omega) (jai _) (Qq _) (λk a g=>absurd g (Nat.not_lt_zero _)) λk a g ha=>by
  have:k<xs.size:=by
   have:=jaW.mp ha;exact this.1
  omega
theorem vE {xs:Array Nat} (h:Ris xs) {j:Nat} (t:∀a∈xs.toList,a≠j):Ris (SetTable.insertAt xs (SetTable.below xs j) j):=by
 obtain ⟨A,w,u⟩:=VD h j;unfold Ris;rw [SetTable.toList_insertAt]
 have m:∀a∈xs.toList.take (SetTable.below xs j),a<j:=λa ha=>by
  obtain ⟨i,g⟩:=Qu.mp ha;rw [List.getElem?_take] at g
  split at g
  ·rename_i z;exact w i a z (by simpa using g)
  ·cases g
 have y:∀a∈xs.toList.drop (SetTable.below xs j),j<a:=λa ha=>by
  obtain ⟨i,g⟩:=Qu.mp ha;rw [jaw] at g;have:=u _ a (Nat.le_add_right _ i) (by simpa using g);have ne:=t a (List.mem_of_mem_drop ha);omega
 have h':=h;unfold Ris at h';rw [<-List.take_append_drop (SetTable.below xs j) xs.toList] at h';obtain ⟨s,r,q⟩:=TC.mp h';refine TC.mpr ⟨s,Qm.mpr ⟨y,r⟩,λa ha b p=>?_⟩
 rcases Qk.mp p with rfl|p
 ·exact m a ha
 ·exact q a ha b p
theorem Aa {t:SetTable} (h:Ris t.place) {j:Nat} (p:∀i,t.slot j≠ .live i):∀a∈t.place.toList,a≠j:=λa ha e=>by
 subst e;obtain ⟨i,q⟩:=Qu.mp ha;have g:t.place[i]? =some a:=by simpa using q
 obtain ⟨y,s,r⟩:=VD h a
 have e:SetTable.below t.place a=i:=by
  rcases Nat.lt_trichotomy (SetTable.below t.place a) i with c|c|c
  ·have m:t.place[SetTable.below t.place a]? =some (t.place[SetTable.below t.place a]'(by have:=(jaW.mp g).1;omega)):=by simp
   have w:=h.lt c m g;have u:=r _ _ (Qq _) m;omega
  ·exact c
  ·have:=s i a c g;omega
 refine p i ?_;unfold SetTable.slot;dsimp only;rw [e,g]
 simp
theorem aR {t:SetTable} {hashAt:Nat->Int} {h:Int}:∀{fuel:Nat} {p:SetTable.Probe} {j:Nat} {d:Option Nat},(∀x,p.dummy=some x->∀i,t.slot x≠ .live i)->SetTable.probe.go t hashAt h fuel p=some (.empty j d)->(∀i,t.slot j≠ .live i)/\∀x,d=some x->∀i,t.slot x≠ .live i
 |0,p,j,d,_,e=>by rw [SetTable.probe.go] at e;cases e
 |fuel+1,p,j,d,hd,e=>by
  rw [SetTable.probe.go] at e
  cases hs:t.slot p.j with
  |empty=>
   rw [hs] at e;cases e;exact ⟨λi z=>(by rw [hs] at z;cases z),hd⟩
  |dummy=>
   rw [hs] at e;refine aR (fuel:=fuel) (λx g=>?_) e
   have:x=p.j:=by
    unfold SetTable.advance at g;dsimp only at g
    split at g<;>(cases g;rfl)
   subst this;intro i z;rw [hs] at z;cases z
  |live i=>
   rw [hs] at e;dsimp only at e
   split at e
   ·cases e
   ·refine aR (fuel:=fuel) (λx g=>hd x ?_) e;unfold SetTable.advance at g;dsimp only at g
    split at g<;>exact g
theorem Cf {t:SetTable} {h:Int} {j:Nat} {b:Bool} (e:t.freeSlot h=some (j,b)):∀i,t.slot j≠ .live i:=by
 unfold SetTable.freeSlot SetTable.probe at e
 split at e
 ·rename_i p m hp;have:=aR (λx g=>by unfold SetTable.probeStart at g;cases g) hp
  cases m with
  |none=>cases e;exact this.1
  |some d=>cases e;exact this.2 d rfl
 ·cases e
def rz (b:Bool) (t:SetTable):Prop:=Ris t.place/\t.led=b
theorem AK (n:Nat):Ris (Array.range n):=by
 unfold Ris;rw [Array.toList_range];exact List.pairwise_lt_range
theorem YK {b:Bool} {t:SetTable} (h:t.led=b) (n:Nat):rz b (t.standIn n):=⟨AK n,h⟩
theorem qA {b:Bool} {t:SetTable} (g:rz b t) (es:Array (Int×Value)) (h:Int) (x:Value):rz b (layNew t es h x).2.1:=by
 unfold layNew
 split
 ·rename_i slot wd hf;dsimp only;unfold SetTable.orStandIn
  split
  ·exact ⟨vE g.1 (Aa g.1 (Cf hf)),g.2⟩
  ·exact YK g.2 _
 ·exact YK g.2 _
theorem EZ {mask:Nat} {owner:Array (Option Nat)}:(((List.range (mask+1)).filterMap λj=>(owner.getD j none).map (j,·)).map (·.1)).Pairwise (·<·):=by
 rw [Tj,List.pairwise_filterMap];refine List.pairwise_lt_range.imp λ{i k} RD a ha b hb=>?_;obtain ⟨_,_,rfl⟩:=Option.map_eq_some_iff.mp ha;obtain ⟨_,_,rfl⟩:=Option.map_eq_some_iff.mp hb;exact RD
theorem kA {b:Bool} {t:SetTable} (g:rz b t) (es:Array (Int×Value)) (wanted:Nat):rz b (relayAll t es wanted).2.1:=by
 unfold relayAll
 split
 ·rename_i t' order hr;dsimp only
  split
  ·unfold SetTable.relaid SetTable.laid at hr;obtain ⟨owner,_,hr⟩:=Option.bind_eq_some_iff.mp hr;cases hr;refine ⟨?_,g.2⟩;show (List.toArray _).toList.Pairwise _;exact EZ
  ·exact YK g.2 _
 ·exact YK g.2 _
def aw:Value->Int
 | .int n _=>n
 |_=>0
def iK (prog:Program) (w:World) (h:Heap) (a:Addr) (b:Bool) (ns:List Int):Prop:=
 ∃(o:Obj) (es:Array (Int×Value)) (ep:Nat) (t:SetTable),(h.get? a=some o/\o.ExactSet/\o.data= .set es ep t)/\ElemsOf (intKind prog w) es.toList/\(t.fits es.size=true/\rz b t)/\ns=es.toList.map (λe=>aw e.2)/\ns.Nodup
section
variable {prog:Program} {w:World} {A:Around} {E:Value->Shared->Prop} {s:Shared}
theorem Gi {v:Value} {k:Int} (h:(intKind prog w).is k v=true):aw v=k:=by
 obtain ⟨t,ht⟩:=Value.isInt_shape h;rw [ht];rfl
theorem iK.kept {h h':Heap} {a:Addr} {b:Bool} {ns:List Int} (T:iK prog w h a b ns) (k:∀o,h.get? a=some o->h'.get? a=some o):iK prog w h' a b ns:=by
 obtain ⟨o,es,ep,t,⟨g,ex,data⟩,pA⟩:=T;exact ⟨o,es,ep,t,⟨k o g,ex,data⟩,pA⟩
theorem Gq {h:Heap} {a:Addr} {o:Obj} {es es1:Array (Int×Value)} {ep:Nat} {t t1:SetTable} (g:h.get? a=some o) (data:o.data= .set es ep t):(h.update a (Obj.putSet es1 t1)).get? a=some {o with data:= .set es1 (ep+1) t1}:=by
 have z:=Tw (Obj.putSet es1 t1) g (by rw [putSet_of es1 t1 data];rfl);rwa [putSet_of es1 t1 data] at z
theorem add_T {a:Addr} {b:Bool} {ns:List Int} {k:Int} {tk:Tok} {Q:Bool->Shared->Prop} (T:iK prog w s.heap a b ns) (few:ns.length<1000)
 (h:∀(r:Bool) (h':Heap) (m:List Int),Heap.SameBut a s.heap h'->iK prog w h' a b m->(∀x,x∈m↔x∈ns\/x=k)->m.length<=ns.length+1->Q r {s with heap:=h'}):
 wpAny (model prog w) A (setAddHashed a (.int k tk) ((intKind prog w).hash k)) Q E s:=by
 obtain ⟨o,es,ep,t,⟨I,ex,data⟩,elems,⟨fit,good⟩,rfl,nd⟩:=T;have sz:es.size=(es.toList.map λe=>aw e.2).length:=by simp
 have e4:scanBound=4096:=rfl;have bound:es.size<scanBound:=by omega
 have G:=intKind_is prog w k tk;unfold setAddHashed setAddHashedIn;refine jau (Qd (jbx I data fit ?_));dsimp only;rw [byScan_of (knd:=intKind prog w) (x:= .int k tk) rfl bound elems,QH rfl];unfold setAddByScan;refine Qd (Qd (jbL (Qd (wpAny_setScan_of G I data fit elems ?_))))
 cases found:List.findIdx? (λe=>(intKind prog w).is k e.2) es.toList with
 |some j=>
  dsimp only;obtain ⟨hj,pj,_⟩:=List.findIdx?_eq_some_iff_getElem.mp found;have mem:k∈es.toList.map λe=>aw e.2:=Qj.mpr ⟨es.toList[j],Tu hj,Gi pj⟩;refine Ql (Ql ?_);exact h false s.heap _ (Heap.SameBut.refl a s.heap) ⟨o,es,ep,t,⟨I,ex,data⟩,elems,⟨fit,good⟩,rfl,nd⟩ (λx=>⟨.inl,λz=>z.elim id λe=>e▸mem⟩) (jaj _)
 |none=>
  dsimp only
  have new:k∉es.toList.map λe=>aw e.2:=λz=>by
   obtain ⟨e,he,X⟩:=Qj.mp z;obtain ⟨⟨k',Ly,_⟩,_⟩:=elems e he;have ek:k'=k:=(Gi Ly).symm.trans X;subst ek;have:=List.findIdx?_eq_none_iff.mp found e he;rw [Ly] at this;cases this
  have perm:=layNew_perm t es ((intKind prog w).hash k) (.int k tk);have fits:=layNew_fits t es ((intKind prog w).hash k) (.int k tk);have K:=qA good es ((intKind prog w).hash k) (.int k tk);generalize layNew t es ((intKind prog w).hash k) (.int k tk)=L at perm fits K⊢;obtain ⟨es1,t1,wasDummy,gave⟩:=L;dsimp only at perm fits K⊢;rw [Array.toList_push] at perm;have p:ElemsOf (intKind prog w) es1.toList:=(elems.push G rfl).perm perm
  have pm:(es1.toList.map λe=>aw e.2).Perm ((es.toList.map λe=>aw e.2)++[k]):=by
   have:=perm.map λe=>aw e.2;rwa [QF] at this
  have PH:(es1.toList.map λe=>aw e.2).Nodup:=by
   refine (pm.nodup_iff).mpr (List.nodup_append.mpr ⟨nd,by simp,λx hx y hy=>?_⟩);rw [Qv.mp hy];exact λe=>new (e▸hx)
  have MT:=pm.length_eq;rw [Qr,Tx] at MT;have LN:es1.size=(es1.toList.map λe=>aw e.2).length:=by simp
  have D:es1.size<scanBound:=by omega
  have NR:∀x,x∈(es1.toList.map λe=>aw e.2)↔x∈(es.toList.map λe=>aw e.2)\/x=k:=λx=>by
   rw [pm.mem_iff,QX,Qv]
  have g1:=Gq (es1:=es1) (t1:=t1) I data;have SH:=Td s.heap a (Obj.putSet es1 t1);have H:=relayAll_perm t1 es1 (SetTable.grown es1.size);have Z:=relayAll_fits t1 es1 (SetTable.grown es1.size);have good2:=kA K es1 (SetTable.grown es1.size)
  have tail:∀{g:Bool->Sem Unit} {R:Option Bool->Shared->Prop},(∀(b:Bool) (s₁:Shared) (u:Unit->Shared->Prop),u () s₁->wpAny (model prog w) A (g b) u E s₁)->
   (∀(h':Heap) (m:List Int),Heap.SameBut a s.heap h'->iK prog w h' a b m->(∀x,x∈m↔x∈(es.toList.map λe=>aw e.2)\/x=k)->m.length<=(es.toList.map λe=>aw e.2).length+1->R (some true) {s with heap:=h'})->
   wpAny (model prog w) A (do
    storeSet a es1 t1
    if (!wasDummy && t1.tooFull)=true then do
        g (relayAll t1 es1 (SetTable.grown es1.size)).2.2
        storeSet a (relayAll t1 es1 (SetTable.grown es1.size)).1 (relayAll t1 es1 (SetTable.grown es1.size)).2.1
        pure (some true)
     else pure (some true)) R E s:=λ{g R} hg hR=>by
   refine Qd (wpAny_storeSet_of I data ?_ (fits_of_scanBound D))
   split
   ·generalize relayAll t1 es1 (SetTable.grown es1.size)=L2 at H Z good2⊢;obtain ⟨J,t2,Y⟩:=L2;dsimp only at H Z good2⊢;have U:(J.toList.map λe=>aw e.2).Perm (es1.toList.map λe=>aw e.2):=H.map _;have SF:J.size=es1.size:=by rw [<-jac,H.length_eq,jac]
    have C:J.size<scanBound:=by omega
    refine Qd (hg _ _ _ (Qd (wpAny_storeSet_of g1 rfl (Ql ?_) (fits_of_scanBound C))));refine hR _ _ (SH.trans (Td _ a _)) ⟨_,J,_,t2,⟨Gq g1 rfl,ex,rfl⟩,p.perm H,⟨Z,good2⟩,rfl,U.nodup_iff.mpr PH⟩ (λx=>by rw [U.mem_iff];exact NR x) (by rw [U.length_eq,MT];exact Qq _)
   ·exact Ql (hR _ _ SH ⟨_,es1,_,t1,⟨g1,ex,rfl⟩,p,⟨fits,K⟩,rfl,PH⟩ NR (by rw [MT];exact Qq _))
  have fin:∀(h':Heap) (m:List Int),Heap.SameBut a s.heap h'->iK prog w h' a b m->(∀x,x∈m↔x∈(es.toList.map λe=>aw e.2)\/x=k)->m.length<=(es.toList.map λe=>aw e.2).length+1->Q true {s with heap:=h'}:=h true
  have pass:∀(c:Bool) (s₁:Shared) (u:Unit->Shared->Prop),u () s₁->wpAny (model prog w) A (match c with|true=>rule "set.scan.the-table-gave-way"|false=>pure ()) u E s₁:=λc s₁ u q=>by
   cases c
   ·exact Ql q
   ·exact jbL q
  refine Qd (pass _ _ _ ?_);have X:hashByValue 8 (.int k tk)=pure true:=rfl
  split
  ·refine Qd ?_;rw [X];refine Ql ?_;exact tail (λc s₁ u q=>pass c s₁ u q) λh' m P O N M=>Ql (fin h' m P O N M)
  ·refine Qd (Ql ?_);exact tail (λc s₁ u q=>pass c s₁ u q) λh' m P O N M=>Ql (fin h' m P O N M)
def we (w:World):Bool:=!(w.params.followText "set-order")
def Wn (w:World):Obj:={cls:= .type "set",dict:=none,data:= .set #[] 0 (.fresh 0 0 (we w))}
theorem Iu (x:Value) {R:Value->Shared->Prop} (k:R (.ref s.heap.objs.size) {s with heap:=s.heap.push (Wn w)}):
 codeAny (model prog w) A (.call (.builtin "set.__new__") ⟨[.type "set",x],[]⟩) (wants R E) s:=by
 refine codeAny_of_tree (show wpAny _ A.in1 (do checkBuiltinCall "set.__new__" ⟨[.type "set",x],[]⟩;again (.builtin "set.__new__" ⟨[.type "set",x],[]⟩)) _ _ s from ?_)
 refine Qd (wpAny_of_eq (F.newCall_set_1 x) (Ql ⟨plainId_quiet F.plain_set_new _,jaH F.entry_set_new (by
  rw [jay F.plain_set_new _];unfold Builtin.«set.__new__» Builtin.Frozenset.newClass;have sub:=sub_set_self;obtain ⟨hp,g,d,tk,os⟩:=s;dsimp only
  wp_walk
  refine wpAny_askSetting (Ql ?_);dsimp only;simp only [newObj]
  exact Qd (wpAny_alloc (Ql (Ql k))))⟩))
theorem iK.fresh {h:Heap} {a:Addr} (g:h.get? a=some (Wn w)):iK prog w h a (we w) []:=
 ⟨_,#[],0,_,⟨g,⟨rfl,rfl,rfl⟩,rfl⟩,λe he=>by simp at he,⟨rfl,by unfold Ris SetTable.fresh;exact List.Pairwise.nil,rfl⟩,rfl,List.nodup_nil⟩
theorem upd_T {I:Addr} {J wr:List Addr} {G:Array GenState->Array GenState->Prop} {n:Nat} {P:Nat->Value->Prop} {St:Nat->Shared->Prop} {R:Result->Shared->Prop} {b:Bool}
 (W:WalksS prog w A.in1 I J wr G n P St) (a:Addr) (out:a∉J) (ns:List Int) (val:∀i v,P i v->∃k t,ns[i]? =some k/\v= .int k t) (few:n<900):
 ∀(m i:Nat) (s:Shared) (T:List Int),n - i=m->i<=n->St i s->iK prog w s.heap a b T->(∀x,x∈T↔x∈ns.take i)->T.length<=i->
  (∀s' q,Moved (a::wr) G s s'->iK prog w s'.heap a b q->(∀x,x∈q↔x∈ns.take n)->q.length<=n->R (.ok (.ret .none)) s')->
  codeAny (model prog w) A (.builtin "set.update.loop" ⟨[.ref a, .ref I],[]⟩) R s:=by
 have g:a∉wr:=λz=>out (W.sub _ z);have more:∀c∈wr,c∈a::wr:=λc p=>Qf _ p;intro m
 induction m with
 |zero=>
  intro i s T hm M st y u H C;have e:i=n:=by omega
  subst e;refine jaH PyProof.Rows.F.entry_set_update_loop ?_;rw [jay jaN _];show wpAny _ A.in1 (pyNext (.ref I)>>=_) _ _ s;exact Qd (W.done s _ _ st λs' h=>Ql (C s' T (h.mono more) (y.kept λo=>h.heap a o g) u H))
 |succ m K=>
  intro i s T hm M st y u H C;have lt:i<n:=by omega
  refine jaH PyProof.Rows.F.entry_set_update_loop ?_;rw [jay jaN _];show wpAny _ A.in1 (pyNext (.ref I)>>=_) _ _ s;refine Qd (W.item i s _ _ lt st λv s' N Z h=>?_);obtain ⟨k,tk,L,rfl⟩:=val i v N;show wpAny _ A.in1 (holding [Value.int k tk] (setAdd a (.int k tk))>>=_) _ _ s';refine Qd (jau ?_);unfold setAdd;refine jau (Qd ((intKind prog w).pyHash (k:=k) (intKind_is _ _ _ _) ?_));refine add_T (b:=b) (ns:=T) (s:={s' with toks:=s'.toks+1}) (y.kept λo=>h.heap a o g) (by omega) λr h' q sb Q Ky Lx=>?_;refine Ql ⟨plainId_quiet jaN _,K (i+1) _ q (by omega) lt (W.frame _ s' _ _ Z (jaj _) λc p o e=>?_) Q (λx=>?_) (by omega) λLG D X Y U O=>?_⟩
  ·rw [sb.2 c (λz:c=a=>out (by rw [<-z];exact p))];exact e
  ·rw [Ky x,u x,TX,L]
   simp
  ·refine C LG D (Moved.trans W.gtrans ((h.mono more).then_heap (jaj _) λc o p e=>?_) X) Y U O;rw [sb.2 c (λz:c=a=>p (by rw [z];exact Qc))];exact e
set_option maxHeartbeats 8000000 in
theorem vP {l:Addr} {items:Array Value} {ns:List Int} {Q:Value->Shared->Prop} (quiet:A.handled=none) (hl:s.heap.IsList l items) (X:PyProof.Rows.IntsAre items.toList ns) (few:items.size<900)
 (k:∀(h':Heap) (tk:Nat) (T:List Int),iK prog w h' s.heap.objs.size (we w) T->(∀x,x∈T↔x∈ns)->T.length<=ns.length->(∀b o,b<s.heap.objs.size->s.heap.get? b=some o->h'.get? b=some o)->Q (.ref s.heap.objs.size) {s with heap:=h',toks:=tk}):
 wpAny (model prog w) A (call (.type "set") [.ref l]) Q E s:=by
 have U:items.size=ns.length:=by have:=X.length;simpa using this
 obtain ⟨c1,tl1,P⟩:=jbt.mro;have SK:=jbt.made;have N:=jbt.sub;refine wpAny_call (codeAny_of_tree (show wpAny _ _ (callAny (.type "set") _) _ _ _ from ?_));refine Ql ⟨Code.quiet_builtin _ (by decide+kernel),jaH F.entry_type_call ?_⟩;rw [Around.under_plain (weight_type_call_type "set" [.ref l] []) rfl];have nt1:=jbt.notType;have cc1:=jbt.canCreate;have ct1:=F.typeCall_set_1 (.ref l)
 repeat any_goals (first|wp_step|assumption)
 refine jbC (Iu (.ref l) (E:=E) (R:=λobj s₁=>obj= .ref s.heap.objs.size/\s₁={s with heap:=s.heap.push (Wn w)}) ⟨rfl,rfl⟩) λr s₁ hr=>?_
 cases r with
 |error e=>exact hr
 |ok L=>
  cases L with
  |ret obj=>
   obtain ⟨rfl,rfl⟩:=hr;have M:(s.heap.push (Wn w)).get? s.heap.objs.size=some (Wn w):=Qt _ rfl;have ty:Shared.TypeIs {s with heap:=s.heap.push (Wn w)} (.ref s.heap.objs.size) "set":=⟨_,M,rfl⟩;have lk1:=jbt.init.lookup;have bd1:=jbt.init.bind (.ref s.heap.objs.size)
   repeat any_goals (first|wp_step|assumption)
   refine jbC (codeAny_call_builtin (R:=wants (λr s₂=>r= .none/\∃h' tk T,s₂={s with heap:=h',toks:=tk}/\iK prog w h' s.heap.objs.size (we w) T/\(∀x,x∈T↔x∈ns)/\T.length<=ns.length/\
    (∀b o,b<s.heap.objs.size->s.heap.get? b=some o->h'.get? b=some o)) E) jbt.init.plain F.entry_set_init (check_set_init_1 ty ?_)) λr₂ s₂ hr₂=>?_
   ·obtain ⟨ol,y,m,nl,h⟩:=hl;obtain ⟨O,q,D,g⟩:=ol;simp only at m h;subst m;subst h;have OA:(s.heap.push (Wn w)).get? l=some {cls:= .type "list",dict:=q,data:= .seq items nl,slots:=g}:=Qh _ y;have sls:=F.sub_list_set;have slf:=F.sub_list_frozenset;have PH:(Value.type "list"==Value.type "dict")=false:=by decide
    have Y:(s.heap.push (Wn w)).IsList l items:=⟨_,OA,rfl,nl,rfl⟩;have K:=M;unfold Wn at K OA;unfold Builtin.«set.__init__» noKeywords Builtin.Frozenset.updateFrom;generalize J:pyIter=PI
    wp_walk
    subst J;refine jaO Y (Qd (wpAny_runValue ?_));have u:l<s.heap.objs.size:=Qn y;have q3:A.in1.in1.in1.handled=none:=by simp [quiet]
    have p:(s.heap.push (Wn w)).objs.size=s.heap.objs.size+1:=QM ..;have G:l≠(s.heap.push (Wn w)).objs.size:=by rw [p];exact QE (Tt u)
    have out:s.heap.objs.size∉[(s.heap.push (Wn w)).objs.size,l]:=by
     rw [p];intro z
     rcases Qk.mp z with z|z
     ·exact absurd z (QE (QU _))
     ·exact absurd (Qv.mp z) (jaz u)
    refine upd_T (b:=we w) ((Walks.list q3 _ l G items).toS) s.heap.objs.size out ns (λi v hv=>?_) few (items.size - 0) 0 _ [] (by omega) (jai _) ⟨⟨_,Qt _ rfl,rfl,rfl⟩,Y.push _⟩ (iK.fresh (Qh _ M)) (λx=>by simp) (jai _) λs' T' C RU Ky Lx=>?_
    ·have Z:items.toList[i]? =some v:=by rw [Array.getElem?_toList];exact hv
     obtain ⟨t,ht⟩:=PyProof.Rows.IntsAre.int_at X i v Z
     have lt:i<ns.length:=by
      have:=(Qg.mp Z).1;rw [jac] at this;omega
     refine ⟨ns.getD i 0,t,?_,ht⟩;rw [Qo,Qe lt];rfl
    ·obtain ⟨h',g',d',Pw,MR⟩:=s';have eg:g'=s.gens:=C.gens;have ed:d'=s.drawn:=C.drawn;have eo:MR=s.os:=C.os;subst eg;subst ed;subst eo;show wpAny _ _ _ _ _ _;refine Ql (show wpAny _ _ (ret Value.none) _ _ _ from Ql ⟨rfl,h',Pw,T',rfl,RU,λx=>?_,by omega,λb o I e=>?_⟩)
     ·rw [Ky x,QQ (by omega)]
     ·refine C.heap b o (λz=>?_) (Qh _ (Qh _ e))
      rcases Qk.mp z with z|z
      ·exact absurd z (QE I)
      ·rw [Qv.mp z,p] at I;exact absurd I (Nat.not_lt.mpr (jaj _))
   ·cases r₂ with
    |error e=>exact hr₂
    |ok L₂=>
     cases L₂ with
     |ret r=>
      obtain ⟨rfl,h',tk,T,rfl,hT,hx,H,keep⟩:=hr₂
      repeat any_goals (first|wp_step|assumption)
      exact k _ _ T hT hx H keep
     |_=>exact hr₂.elim
  |_=>exact hr.elim
end
theorem AW:Manifest.owners.lookup (String.ofList ['r','o','t','a','r','e','t','i','_','t','e','s'].reverse)=some Manifest.sig_set_iterator:=by kernel_rfl
theorem Yk (x:Value):argsOk "set_iterator.__next__" ⟨[x],[]⟩:=by
 unfold argsOk;rw [signature?_of (id:="set_iterator.__next__") (n:=['_','_','t','x','e','n','_','_']) (o:=['r','o','t','a','r','e','t','i','_','t','e','s']) (by kernel_rfl) AW]
 kernel_rfl
theorem yj:Slot "set_iterator" "__next__" "set_iterator.__next__":= .of (owner:="set_iterator") (n:="__next__") (by rw [typeLookup_type,builtinLookup_eq_fast];kernel_rfl) (by decide+kernel) (by decide+kernel) (by decide+kernel) (by first|exact .inl (by decide+kernel)|exact .inr (by decide+kernel)) (by rw [isSubtype_type];kernel_rfl)
theorem ZK:entryFor table "set_iterator.__next__"=some Builtin.«set_iterator.__next__»:=entryFor_of_tree (by kernel_rfl)
theorem Uz:Slot "set_iterator" "__iter__" "set_iterator.__iter__":= .of (owner:="set_iterator") (n:="__iter__") (by rw [typeLookup_type,builtinLookup_eq_fast];kernel_rfl) (by decide+kernel) (by decide+kernel) (by decide+kernel) (by first|exact .inl (by decide+kernel)|exact .inr (by decide+kernel)) (by rw [isSubtype_type];kernel_rfl)
theorem lV (x:Value):argsOk "set_iterator.__iter__" ⟨[x],[]⟩:=by
 unfold argsOk;rw [signature?_of (id:="set_iterator.__iter__") (n:=['_','_','r','e','t','i','_','_']) (o:=['r','o','t','a','r','e','t','i','_','t','e','s']) (by kernel_rfl) AW]
 kernel_rfl
theorem iC:entryFor table "set_iterator.__iter__"=some Builtin.«dict_keyiterator.__iter__»:=entryFor_alias (id':="dict_keyiterator.__iter__") (by kernel_rfl) rfl (by decide+kernel) (by kernel_rfl)
theorem iD:entryFor table "set.__iter__"=some Builtin.«frozenset.__iter__»:=entryFor_alias (id':="frozenset.__iter__") (by kernel_rfl) rfl (by decide+kernel) (by kernel_rfl)
theorem bh {α:Type}:∀{xs:List α} {i:Nat} (h:i<xs.length),(xs[i]::xs.eraseIdx i).Perm xs
 |[],i,h=>by simp at h
 |x::xs,0,h=>List.Perm.refl _
 |x::xs,i+1,h=>by
  have g:=bh (xs:=xs) (i:=i) (by simpa using h);exact (List.Perm.swap _ _ _).trans (g.cons x)
section
variable {prog:Program} {w:World} {A:Around} {E:Value->Shared->Prop} {s:Shared}
theorem vN {src:Source} {n:Nat} {Q:Nat->Shared->Prop} (hn:n≠0) (k:∀i d,i<n->Q i {s with drawn:=d}):wpAny (model prog w) A (choose src n) Q E s:=λΓ p hΓ=>by
 show Sem.wp _ _ (Sem.choose src n _) _ _ _ _;rw [Sem.wp_choose];exact ⟨hn,k _ _ (Nat.mod_lt _ (by omega))⟩
theorem GR {α:Type}:∀(n:Nat) (xs:List α) (s:Shared) (Q:List α->Shared->Prop),xs.length=n->(∀d ys,ys.Perm xs->Q ys {s with drawn:=d})->wpAny (model prog w) A (drawOrder n xs) Q E s
 |0,[],s,Q,_,k=>by rw [drawOrder];exact Ql (k s.drawn [] (List.Perm.refl _))
 |n+1,x::xs,s,Q,hl,k=>by
  rw [drawOrder]
  ·refine Qd (vN (by simp) λi d g=>?_);have e:(x::xs)[i]? =some (x::xs)[i]:=Qe g;rw [e];dsimp only;refine Qd (GR n _ _ _ (by rw [List.length_eraseIdx,QH g,hl];rfl) λp ys hp=>Ql (k p _ ?_));have m:=List.Perm.cons (x::xs)[i] hp;refine m.trans ?_;exact bh g
  ·intro z;cases z
 |0,_::_,s,Q,h,_=>by simp at h
 |_+1,[],s,Q,h,_=>by simp at h
structure SetD (prog:Program) (w:World) (oS:Obj) (es:Array (Int×Value)) (ep:Nat) (t:SetTable):Prop where
 ex:oS.ExactSet
 data:oS.data= .set es ep t
 elems:ElemsOf (intKind prog w) es.toList
 fit:t.fits es.size=true
 good:rz (we w) t
theorem vS {xs:Array Nat} (h:Ris xs):SetTable.below xs 0=0:=by
 obtain ⟨p,g,m⟩:=VD h 0
 rcases Nat.eq_zero_or_pos (SetTable.below xs 0) with z|z
 ·exact z
 ·have:xs[0]? =some (xs[0]'(by omega)):=by simp
  exact absurd (g 0 _ z this) (Nat.not_lt_zero _)
theorem vT {xs:Array Nat} (h:Ris xs) {i j:Nat} (g:xs[i]? =some j):SetTable.below xs (j+1)=i+1:=by
 obtain ⟨t,r,q⟩:=VD h (j+1);have li:i<xs.size:=(jaW.mp g).1
 rcases Nat.lt_trichotomy (SetTable.below xs (j+1)) (i+1) with z|z|z
 ·have:=q i j (by omega) g;omega
 ·exact z
 ·have p:i+1<xs.size:=by omega
  have m:xs[i+1]? =some xs[i+1]:=by simp [p]
  have:=r (i+1) _ z m;have:=h.lt (QU i) g m;omega
def byT (w:World):Bool:=w.params.followText "set-order"
def mw (w:World) (a:Addr) (ep:Nat) (es:Array (Int×Value)):Array (Int×Value):=if byT w=true then pickOrder (w.params.setOrder a ep) es else es
def stT (w:World) (t:SetTable) (i slot:Nat):Prop:=byT w=true\/SetTable.below t.place slot=i
theorem nJ {α:Type} (f:Nat->Nat):∀(n k:Nat) (left:List α) (out:Array α),left.length=n->(pickOrder.go f n k left out).toList.Perm (out.toList++left)
 |0,k,[],out,_=>by rw [pickOrder.go];simp
 |0,k,_::_,out,h=>by simp at h
 |n+1,k,[],out,h=>by simp at h
 |n+1,k,x::left,out,h=>by
  rw [pickOrder.go];have g:f k % (x::left).length<(x::left).length:=Nat.mod_lt _ (by simp);rw [Qe g];dsimp only;have m:=nJ f n (k+1) ((x::left).eraseIdx (f k % (x::left).length)) (out.push (x::left)[f k % (x::left).length]) (by rw [List.length_eraseIdx,QH g,h];rfl);refine m.trans ?_;rw [Array.toList_push,TV];exact (bh g).append_left _
theorem UP (w:World) (a:Addr) (ep:Nat) (es:Array (Int×Value)):(mw w a ep es).toList.Perm es.toList:=by
 unfold mw
 split
 ·unfold pickOrder;have:=nJ (w.params.setOrder a ep) es.size 0 es.toList #[] (by simp)
  simpa using this
 ·exact List.Perm.refl _
section
variable {a:Addr} {oS:Obj} {es:Array (Int×Value)} {ep:Nat} {t:SetTable} {slot i:Nat}
theorem qT {Q:Bool->Shared->Prop} (k:Q (byT w) s):wpAny (model prog w) A setsByText Q E s:=by
 unfold setsByText;exact Qd (wpAny_askSetting (Ql k))
theorem wC {Q:Array (Int×Value)->Shared->Prop} (h:s.heap.get? a=some oS) (D:SetD prog w oS es ep t) (g:byT w=true) (k:Q (pickOrder (w.params.setOrder a ep) es) s):wpAny (model prog w) A (setWalk a) Q E s:=by
 unfold setWalk;refine Qd (jbx h D.data D.fit ?_);dsimp only;refine Qd (qT ?_);rw [g,QH rfl];exact Qd (wpAny_askSetting (Ql k))
theorem GA {Q:Option (Value×Nat)->Shared->Prop} (u:s.heap.get? a=some oS) (D:SetD prog w oS es ep t) (pl:byT w=true\/(t.plain=true\/es.size<=1)) (st:stT w t i slot)
 (k1:∀e r,(mw w a ep es)[i]? =some e->stT w t (i+1) r->Q (some (e.2,r)) s) (k2:es.size<=i->Q none s):wpAny (model prog w) A (setNext a slot i ep) Q E s:=by
 have C:(mw w a ep es).size=es.size:=by
  have:=(UP w a ep es).length_eq
  simpa using this
 unfold setNext;refine Qd (jbx u D.data D.fit ?_);dsimp only;refine Qd (qT ?_)
 cases hb:byT w with
 |true=>
  rw [QH rfl,QS (by simp)];refine Qd (wC u D hb (Ql ?_));have m:mw w a ep es=pickOrder (w.params.setOrder a ep) es:=by unfold mw;rw [QH hb]
  rw [<-m]
  by_cases c:i<(mw w a ep es).size
  ·have e:(mw w a ep es)[i]? =some (mw w a ep es)[i]:=by simp [c]
   rw [e];exact k1 _ slot e (.inl hb)
  ·rw [Array.getElem?_eq_none (by omega)];exact k2 (by omega)
 |false=>
  have G:SetTable.below t.place slot=i:=st.resolve_left (by rw [hb];exact Qy);have h:=pl.resolve_left (by rw [hb];exact Qy);rw [QS Qy]
  split
  ·rename_i z
   exfalso
   have g:(!t.plain && decide (es.size>1))=true:=z;rw [TR,decide_eq_true_eq] at g
   rcases h with p|p
   ·rw [p] at g;exact Qy g.1
   ·omega
  have led:t.led=true:=by
   have:=D.good.2;unfold we at this;rw [this,show w.params.followText "set-order"=false from hb];rfl
  refine Qd (show wpAny _ _ (if (!t.led && !es.isEmpty)=true then unsupported "set:maker-not-led" else pure ()) _ _ s from ?_);rw [led,QS (by simp)];refine Ql (Ql ?_);rw [G];have m:mw w a ep es=es:=by unfold mw;rw [QS (by rw [hb];exact Qy)]
  have y:t.place.size=es.size:=by
   have:=D.fit;unfold SetTable.fits at this;rw [TR] at this
   simpa using this.1
  by_cases c:i<es.size
  ·have e:es[i]? =some es[i]:=by simp [c]
   have q:t.place[i]? =some (t.place[i]'(by omega)):=by simp
   rw [e,q];exact k1 es[i] _ (by rw [m];exact e) (.inr (vT D.good.1 q))
  ·rw [Array.getElem?_eq_none (show es.size<=i by omega)];exact k2 (by omega)
end
end
section
variable {prog:Program} {w:World} {A:Around} {E:Value->Shared->Prop} {s:Shared} {a I:Addr} {oS:Obj} {es:Array (Int×Value)} {ep:Nat} {t:SetTable} {slot i:Nat}
def ItF (h:Heap) (I:Addr) (vs:Array Value):Prop:=∃o,h.get? I=some o/\o.cls= .type "set_iterator"/\o.data= .fields vs
theorem ItF.ty {vs:Array Value} (x:ItF s.heap I vs):s.TypeIs (.ref I) "set_iterator":=by
 obtain ⟨_,e,c,_⟩:=x;exact ⟨_,e,c⟩
theorem ItF.set {h:Heap} {vs:Array Value} (x:ItF h I vs) (j:Nat) (v:Value):ItF (h.update I (Obj.mapFields (·.setIfInBounds j v))) I (vs.setIfInBounds j v):=by
 obtain ⟨o,e,c,d⟩:=x;exact ⟨_,Tw _ e (Obj.isFreed_of_fields (jbH d _)),(Obj.cls_mapFields ..).trans c,jbH d _⟩
theorem DI {Q:Option Value->Shared->Prop} (x:ItF s.heap I #[.int slot 0, .int i 0, .ref a, .int es.size 0, .int ep 0]) (ne:a≠I) (p:s.heap.get? a=some oS) (D:SetD prog w oS es ep t) (pl:byT w=true\/(t.plain=true\/es.size<=1)) (st:stT w t i slot) (u:i<es.size)
 (k1:∀e g h',(mw w a ep es)[i]? =some e->stT w t (i+1) g->ItF h' I #[.int g 0, .int (i+1:Nat) 0, .ref a, .int es.size 0, .int ep 0]->Heap.SameBut I s.heap h'->Q (some e.2) {s with heap:=h'}):wpAny (model prog w) A (pyNext (.ref I)) Q E s:=by
 have r:=x;obtain ⟨o,go,K,m⟩:=r;unfold pyNext;refine Qd (jaE (QR (name:=Str.ofString "__next__") x.ty yj (Te yj x.ty ZK ?_ (Yk _))));unfold Builtin.«set_iterator.__next__»;refine Qd (Ql ?_);refine Qd (wpAny_fieldsOf go m ?_);dsimp only;refine Qd (jbi p D.data D.fit ?_);rw [QS (by simp)];refine Qd (GA (slot:=slot) (i:=i) p D pl st (λe g he H=>?_) (λz=>absurd u (by omega)));dsimp only;refine Qd (jbb go m (by simp) ?_);have h:=x.set 0 (rawInt (g:Nat));have q:=h.set 1 (rawInt ((i:Int)+1));obtain ⟨J,G,y,C⟩:=h;refine Qd (jbb G C (by simp) ?_);refine Ql ⟨_,rfl,Ql (k1 e g _ he H ?_ ((Td ..).trans (Td ..)))⟩
 simpa [rawInt] using q
theorem Gr {j:Nat} {x:Value} {g:Heap} {Q:Option Value->Shared->Prop} (quiet:A.handled=none) (k:∀h',(∀b o,g.get? b=some o->h'.get? b=some o)->Q none {s with heap:=h'}):
 wpAny (model prog w) A.in1 (newExc (.type "StopIteration") []>>=λe=>(raiseNew e:Sem Fin)) (λfin s'=>∃v,fin=Fin.done (Flow.ret v)/\wpAny (model prog w) A (pure (some v)) Q E s')
  (λe s'=>wpAny (model prog w) A (isInstance e (Value.type "StopIteration")>>=λb=>if b=true then pure none else throw e) Q E s') {s with heap:=g}:=by
 refine Qd ?_;simp only [newExc,newTuple];refine Qd (TU (Qd (m:=firstArgMember _ _) (wpAny_of_eq (a:=Value.none) (by first|rfl|(simp only [firstArgMember];rfl)) (TU ?_ (by size_fits)))) (by size_fits));simp only [raiseNew];refine Qd (wpAny_handled ?_);rw [show A.in1.handled=none from quiet];refine' Qd (Ql (wpAny_throw ?told))
 case told=>
  refine' Qd (wpAny_isInstance (T:="StopIteration") (b:=true) ⟨_,Qt _ rfl,rfl⟩ isSubtype_stop ?yes)
  case yes=>exact Ql (k _ λb o e=>Qh _ (Qh _ e))
theorem DJ {Q:Option Value->Shared->Prop} (quiet:A.handled=none) (x:ItF s.heap I #[.int slot 0, .int i 0, .ref a, .int es.size 0, .int ep 0]) (m:s.heap.get? a=some oS) (D:SetD prog w oS es ep t) (pl:byT w=true\/(t.plain=true\/es.size<=1)) (st:stT w t i slot) (r:es.size<=i)
 (k:∀h',(∀b o,b≠I->s.heap.get? b=some o->h'.get? b=some o)->Q none {s with heap:=h'}):wpAny (model prog w) A (pyNext (.ref I)) Q E s:=by
 have g:(mw w a ep es).size=es.size:=by
  have:=(UP w a ep es).length_eq
  simpa using this
 have p:=x;obtain ⟨o,go,u,h⟩:=p;unfold pyNext;refine Qd (jaE (QR (name:=Str.ofString "__next__") x.ty yj (Te yj x.ty ZK ?_ (Yk _))));unfold Builtin.«set_iterator.__next__»;refine Qd (Ql (Qd (wpAny_fieldsOf go h ?_)));dsimp only;refine Qd (jbi m D.data D.fit ?_);rw [QS (by simp)];refine Qd (GA (slot:=slot) (i:=i) m D pl st (λe y he C=>?_) (λ_=>?_))
 ·have:=(jaW.mp he).1
  exact absurd this (by have z:(mw w a ep es).size=es.size:=g
                        show ¬i<(mw w a ep es).size
                        omega)
 dsimp only;refine Qd (jbb go h (by simp) ?_);exact Gr (j:=0) (x:= .none) quiet λh' keep=>k h' λb o q e=>keep b o ((Td s.heap I _).extBut b o q e)
theorem rT {vs:Array Value} {Q:Value->Shared->Prop} (x:ItF s.heap I vs) (k:Q (.ref I) s):wpAny (model prog w) A (pyIter (.ref I)) Q E s:=by
 refine wpAny_pyIter_slot x.ty Uz (Te Uz x.ty iC (show wpAny _ _ (ret (.ref I)) _ _ s from ?_) (lV _));exact Ql ⟨_,rfl,"set_iterator",_,x.ty,yj.lookup,k⟩
theorem Ab {g:Addr} {pls:List Nat} {m:Obj} {z p:Nat} {e:Int×Value} {Q:Option Value->Shared->Prop} (x:ItF s.heap I #[.ref g, .int i 0, .ref a, .int es.size 0, .int ep 0]) (gt:s.heap.get? g=some m) (h:m.data= .seq (pls.map λ(p:Nat)=>rawInt p).toArray z)
 (r:s.heap.get? a=some oS) (D:SetD prog w oS es ep t) (hp:pls[i]? =some p) (he:es[p]? =some e)
 (k1:∀h',ItF h' I #[.ref g, .int (i+1:Nat) 0, .ref a, .int es.size 0, .int ep 0]->Heap.SameBut I s.heap h'->Q (some e.2) {s with heap:=h'}):wpAny (model prog w) A (pyNext (.ref I)) Q E s:=by
 have y:=x;obtain ⟨o,go,C,q⟩:=y;unfold pyNext;refine Qd (jaE (QR (name:=Str.ofString "__next__") x.ty yj (Te yj x.ty ZK ?_ (Yk _))));unfold Builtin.«set_iterator.__next__»;refine Qd (Ql (Qd (wpAny_fieldsOf go q ?_)));dsimp only;refine Qd (jbi r D.data D.fit ?_);rw [QS (by simp)];refine Qd (show wpAny _ _ (load g>>=_) _ _ s from Qd (wpAny_load gt ?_));rw [h];refine Ql ?_;dsimp only
 have ei:(pls.map λ(p:Nat)=>rawInt p).toArray[(i:Int).toNat]? =some (rawInt p):=by
  rw [Ts,List.getElem?_toArray,Qi,hp];rfl
 rw [ei];show wpAny _ _ (setNextDrawn a (p:Int).toNat (ep:Int).toNat>>=_) _ _ s;refine Qd ?_;unfold setNextDrawn;refine Qd (jbx r D.data D.fit ?_);dsimp only;rw [Ts,Ts,QS (by simp),he];refine Qd (Ql (Ql ?_));refine Qd (jbb go q (by simp) ?_);have u:=x.set 1 (rawInt ((i:Int)+1));refine Ql ⟨_,rfl,Ql (k1 _ ?_ (Td ..))⟩
 simpa [rawInt] using u
theorem Ac {g:Addr} {pls:List Nat} {m:Obj} {y:Nat} {Q:Option Value->Shared->Prop} (quiet:A.handled=none) (x:ItF s.heap I #[.ref g, .int i 0, .ref a, .int es.size 0, .int ep 0]) (gt:s.heap.get? g=some m) (h:m.data= .seq (pls.map λ(p:Nat)=>rawInt p).toArray y)
 (J:s.heap.get? a=some oS) (D:SetD prog w oS es ep t) (hp:pls.length<=i)
 (k:∀h',(∀b o,b≠I->s.heap.get? b=some o->h'.get? b=some o)->Q none {s with heap:=h'}):wpAny (model prog w) A (pyNext (.ref I)) Q E s:=by
 have u:=x;obtain ⟨o,go,L,q⟩:=u;unfold pyNext;refine Qd (jaE (QR (name:=Str.ofString "__next__") x.ty yj (Te yj x.ty ZK ?_ (Yk _))));unfold Builtin.«set_iterator.__next__»;refine Qd (Ql (Qd (wpAny_fieldsOf go q ?_)));dsimp only;refine Qd (jbi J D.data D.fit ?_);rw [QS (by simp)];refine Qd (show wpAny _ _ (load g>>=_) _ _ s from Qd (wpAny_load gt ?_));rw [h];refine Ql ?_;dsimp only
 have ei:(pls.map λ(p:Nat)=>rawInt p).toArray[(i:Int).toNat]? =none:=by
  rw [Ts,List.getElem?_toArray,Qi,QN hp];rfl
 rw [ei];dsimp only;refine Qd (jbb go q (by simp) ?_);have r:=x.set 0 (rawInt 0);obtain ⟨K,H,C,G⟩:=r;refine Qd (jbb H G (by simp) ?_);exact Gr (j:=0) (x:= .none) quiet λh' keep=>k h' λb o z e=>keep b o (((Td s.heap I _).trans (Td _ I _)).extBut b o z e)
end
section
variable {prog:Program} {w:World} {A:Around} {E:Value->Shared->Prop} {s:Shared} {a I:Addr} {oS:Obj} {es:Array (Int×Value)} {ep:Nat} {t:SetTable} {slot i:Nat}
theorem ItF.at {h h':Heap} {vs:Array Value} (x:ItF h I vs) (k:∀o,h.get? I=some o->h'.get? I=some o):ItF h' I vs:=by
 obtain ⟨o,e,r⟩:=x;exact ⟨o,k o e,r⟩
theorem wB (quiet:A.handled=none) (ne:a≠I) (D:SetD prog w oS es ep t) (pl:byT w=true\/(t.plain=true\/es.size<=1)):
 Walks prog w A I [I,a] [I] es.size (λi v=>∃e,(mw w a ep es)[i]? =some e/\v=e.2) (λi h=>(∃slot,stT w t i slot/\ItF h I #[.int (slot:Nat) 0, .int (i:Nat) 0, .ref a, .int es.size 0, .int ep 0])/\h.get? a=some oS) where
 sub:=λb p=>by rw [Qv.mp p];exact Qc
 frame:=λi h h' st keep=>⟨let ⟨sl,m,g⟩:=st.1;⟨sl,m,g.at λo e=>keep I Qc o e⟩,keep a (by simp) _ st.2⟩
 item:=λi s Q E r st k=>by
  obtain ⟨⟨sl,m,g⟩,q⟩:=st;refine DI g ne q D pl m r λe u h' he y x sb=>?_;exact k e.2 h' s.toks ⟨e,he,rfl⟩ ⟨⟨u,y,x⟩,sb.extBut a _ ne q⟩ λb o p e=>sb.extBut b o (λz=>p (by rw [z];exact Qv.mpr rfl)) e
 done:=λs Q E st k=>by
  obtain ⟨⟨sl,m,g⟩,q⟩:=st;exact DJ quiet g q D pl m (Qq _) λh' keep=>k h' s.toks λb o p e=>keep b o (λz=>p (by rw [z];exact Qv.mpr rfl)) e
 self:=λi s Q E st k=>let ⟨sl,m,g⟩:=st.1;rT g k
theorem pG {g:Addr} {pls:List Nat} {r:Obj} {G:Nat} (quiet:A.handled=none) (ne:a≠I) (ne2:g≠I) (D:SetD prog w oS es ep t) (q:r.data= .seq (pls.map λ(p:Nat)=>rawInt p).toArray G) (hp:∀p∈pls,p<es.size):
 Walks prog w A I [I,a,g] [I] pls.length (λi v=>∃p e,pls[i]? =some p/\es[p]? =some e/\v=e.2) (λi h=>ItF h I #[.ref g, .int (i:Nat) 0, .ref a, .int es.size 0, .int ep 0]/\h.get? a=some oS/\h.get? g=some r) where
 sub:=λb m=>by rw [Qv.mp m];exact Qc
 frame:=λi h h' st keep=>⟨st.1.at λo e=>keep I Qc o e,keep a (by simp) _ st.2.1,keep g (by simp) _ st.2.2⟩
 item:=λi s Q E u st k=>by
  have C:=Qe u;have lt:=hp _ (Tu u);have y:es[pls[i]]? =some es[pls[i]]:=by simp [lt]
  refine Ab st.1 st.2.2 q st.2.1 D C y λh' x sb=>?_;exact k _ h' s.toks ⟨_,_,C,y,rfl⟩ ⟨x,sb.extBut a _ ne st.2.1,sb.extBut g _ ne2 st.2.2⟩ λb o m e=>sb.extBut b o (λz=>m (by rw [z];exact Qv.mpr rfl)) e
 done:=λs Q E st k=>Ac quiet st.1 st.2.2 q st.2.1 D (Qq _) λh' keep=>k h' s.toks λb o m e=>keep b o (λz=>m (by rw [z];exact Qv.mpr rfl)) e
 self:=λi s Q E st k=>rT st.1 k
def WalkOk (prog:Program) (w:World) (h:Heap) (I a:Addr) (lo:Nat) (ns:List Int):Prop:=
 ∃(g:List Addr) (n:Nat) (P:Nat->Value->Prop) (St:Nat->Heap->Prop) (os:List Int),St 0 h/\I∈g/\(∀b∈g,b<h.objs.size/\(b=a\/lo<=b))/\n=os.length/\os.Perm ns/\(∀i v,P i v->∃tk k,os[i]? =some k/\v= .int k tk)/\∀m:Around,m.handled=none->Walks prog w m I g [I] n P St
theorem tx (D:SetD prog w oS es ep t) {e:Int×Value} (he:e∈es.toList):∃tk,e.2= .int (aw e.2) tk:=by
 obtain ⟨⟨k,g,_⟩,_⟩:=D.elems e he;obtain ⟨tk,h⟩:=Value.isInt_shape g;exact ⟨tk,by rw [h];rfl⟩
theorem AL {α β:Type} (g:α->β) (d:α) (l:List α):(List.range l.length).map (λi=>g (l.getD i d))=l.map g:=by
 apply jaX
 ·simp
 ·intro i h m;simp at h;simp [h]
theorem iter_T {ns:List Int} {Q:Value->Shared->Prop} (T:iK prog w s.heap a (we w) ns) (few:ns.length<1000)
 (k:∀(h':Heap) (d) (I:Addr),(∀b o,s.heap.get? b=some o->h'.get? b=some o)->s.heap.objs.size<=I->I<h'.objs.size->h'.objs.size<=s.heap.objs.size+2->WalkOk prog w h' I a s.heap.objs.size ns->Q (.ref I) {s with heap:=h',drawn:=d}):
 wpAny (model prog w) A (pyIter (.ref a)) Q E s:=by
 obtain ⟨o,es,ep,t,⟨r,ex,data⟩,elems,⟨fit,good⟩,rfl,nd⟩:=T;have D:SetD prog w o es ep t:=⟨ex,data,elems,fit,good⟩;have ty:s.TypeIs (.ref a) "set":=⟨_,r,ex.1⟩;have u:a<s.heap.objs.size:=Qn r;refine wpAny_pyIter_slot ty F.slot_set_iter (Te F.slot_set_iter ty iD ?_ (F.args_set_iter_1 _));unfold Builtin.«frozenset.__iter__» Builtin.Frozenset.slot0 Builtin.Frozenset.sizeOf;refine Qd (Qd (Ql (show wpAny _ _ (pure a) _ _ s from Ql ?_)));refine Qd (Qd (jbi r data fit (Ql ?_)));unfold setDrawn;refine Qd (Qd (jbx r data fit ?_));dsimp only;refine Qd (qT (Ql ?_));have vals:∀l:List (Int×Value),l.Perm es.toList->(l.map λe=>aw e.2).Perm (es.toList.map λe=>aw e.2):=λl p=>p.map _;have M:es.size<1000:=by simpa using few
 split
 ·refine Qd (GR es.size (List.range es.size) _ _ jbw λd ys hp=>?_);have Z:ys.length=es.size:=by rw [hp.length_eq,jbw]
  simp only [newTuple]
  refine Qd (TU ?_ (by
   show (List.map _ ys).toArray.size<=sizeLine
   rw [sizeLine_eq,QB,Qa];omega))
  dsimp only;have g1:(s.heap.push {cls:= .type "tuple",data:= .seq (ys.map λ(p:Nat)=>rawInt p).toArray}).get? a=some o:=Qh _ r;have gt:(s.heap.push {cls:= .type "tuple",data:= .seq (ys.map λ(p:Nat)=>rawInt p).toArray}).get? s.heap.objs.size=some {cls:= .type "tuple",data:= .seq (ys.map λ(p:Nat)=>rawInt p).toArray}:=Qt _ rfl;have m:(s.heap.push {cls:= .type "tuple",data:= .seq (ys.map λ(p:Nat)=>rawInt p).toArray}).objs.size=s.heap.objs.size+1:=QM ..;generalize O:s.heap.push {cls:= .type "tuple",data:= .seq (ys.map λ(p:Nat)=>rawInt p).toArray}=h at g1 gt m⊢;have k1:∀b o,s.heap.get? b=some o->h.get? b=some o:=λb o e=>by rw [<-O];exact Qh _ e
  refine Qd (wpAny_setEpoch_of (s:={s with heap:=h,drawn:=d}) g1 data fit ?_);simp only [newFields];refine Qd (TU (Ql ⟨_,rfl,"set_iterator",_,⟨_,Qt _ rfl,rfl⟩,yj.lookup,?_⟩));refine k _ d _ (λb o e=>Qh _ (k1 b o e)) (by show _<=h.objs.size;rw [m];exact jaj _) (by rw [QM];exact QU _) (by rw [QM,m];exact Qq _) ?_;have H:a≠h.objs.size:=by rw [m];exact QE (Tt u)
  have G:s.heap.objs.size≠h.objs.size:=by rw [m];exact QE (QU _)
  have X:∀p∈ys,p<es.size:=λp U=>by
   have:=hp.mem_iff.mp U;exact jbO.mp this
  refine ⟨[h.objs.size,a,s.heap.objs.size],ys.length,_,_,ys.map λp=>aw (es.toList.getD p (0, .none)).2,⟨⟨_,Qt _ rfl,rfl,rfl⟩,Qh _ g1,Qh _ gt⟩,Qc,λb g=>?_,(Qa ..).symm,?_,λi v J=>?_,λY q=>pG q H G D rfl X⟩
  ·rw [QM]
   rcases Qk.mp g with z|g
   ·rw [z];exact ⟨QU _, .inr (by rw [m];exact jaj _)⟩
   rcases Qk.mp g with z|g
   ·rw [z,m];exact ⟨Tt (Tt u), .inl rfl⟩
   ·rw [Qv.mp g,m];exact ⟨Tt (QU _), .inr (Qq _)⟩
  ·have K:=hp.map λp=>aw (es.toList.getD p (0, .none)).2;have e:=AL (λe:Int×Value=>aw e.2) (0, .none) es.toList;rw [jac] at e;rw [e] at K;exact K
  ·obtain ⟨p,e,P,L,rfl⟩:=J;have me:e∈es.toList:=Qb (i:=p) (by simpa using L);obtain ⟨tk,ht⟩:=tx D me;refine ⟨tk,aw e.2,?_,ht⟩;have N:es.toList.getD p (0, .none)=e:=by rw [Qo,Array.getElem?_toList,L];rfl
   rw [Qi,P];show some (aw (es.toList.getD p (0, .none)).2)=_;rw [N]
 ·rename_i z
  have pl:byT w=true\/(t.plain=true\/es.size<=1):=by
   have y:¬(!byT w && (!t.plain && decide (es.size>1)))=true:=z
   cases h:byT w with
   |true=>exact .inl rfl
   |false=>
    cases h2:t.plain with
    |true=>exact .inr (.inl rfl)
    |false=>
     right;right
     rw [h,h2] at y;simp at y;exact y
  refine Qd (Ql (Qd (wpAny_setEpoch_of r data fit ?_)));simp only [newFields];refine Qd (TU (Ql ⟨_,rfl,"set_iterator",_,⟨_,Qt _ rfl,rfl⟩,yj.lookup,?_⟩));refine k _ s.drawn _ (λb o e=>Qh _ e) (Qq _) (by rw [QM];exact QU _) (by rw [QM];exact jaj _) ?_
  have C:(mw w a ep es).size=es.size:=by
   have:=(UP w a ep es).length_eq
   simpa using this
  refine ⟨[s.heap.objs.size,a],es.size,_,_,(mw w a ep es).toList.map λe=>aw e.2,⟨⟨0,Or.inr (vS good.1),_,Qt _ rfl,rfl,rfl⟩,Qh _ r⟩,Qc,λb g=>?_,by rw [Qa,jac,C],vals _ (UP w a ep es),λi v J=>?_,λY q=>wB q (QE u) D pl⟩
  ·rw [QM]
   rcases Qk.mp g with z|g
   ·rw [z];exact ⟨QU _, .inr (Qq _)⟩
   ·rw [Qv.mp g];exact ⟨Tt u, .inl rfl⟩
  ·obtain ⟨e,he,rfl⟩:=J;have me:e∈es.toList:=(UP w a ep es).mem_iff.mp (Qb (i:=i) (by simpa using he));obtain ⟨tk,ht⟩:=tx D me;refine ⟨tk,aw e.2,?_,ht⟩;rw [Qi,Array.getElem?_toList,he];rfl
end
section
variable {prog:Program} {w:World} {A:Around} {E:Value->Shared->Prop} {s:Shared} {a I:Addr}
theorem hint_T {ns:List Int} {Q:Bool->Shared->Prop} (ty:s.TypeIs (.ref a) "set") (k:Q false s):wpAny (model prog w) A (Builtin.List.listLengthHint (.ref a)) Q E s:=by
 unfold Builtin.List.listLengthHint;refine Qd (wpAny_specialOf ty F.slot_set_len.lookup ?_);dsimp only;rw [show splitId "set.__len__"=some ("set","__len__") by decide+kernel];dsimp only;refine Qd (wpAny_isInstance ty sub_set_self ?_);rw [QS (by simp),QH (by decide+kernel)];exact Qd (wpAny_typeOf ty (Ql k))
theorem BV:∀{vs:List Value} {os:List Int},vs.length=os.length->(∀(j:Nat) (v:Value),vs[j]? =some v->∃tk k,os[j]? =some k/\v=Value.int k tk)->PyProof.Rows.IntsAre vs os
 |[],[],_,_=> .nil
 |v::vs,k::os,hl,h=>by
  obtain ⟨tk,q,g,rfl⟩:=h 0 v rfl;cases g
  exact .cons k tk (BV (by simpa using hl) λj v m=>by
   obtain ⟨tk,k,g,p⟩:=h (j+1) v (by simpa using m)
   exact ⟨tk,k,by simpa using g,p⟩)
 |[],_::_,h,_=>by simp at h
 |_::_,[],h,_=>by simp at h
theorem Cu {ns:List Int} {Q:List Value->Shared->Prop} (quiet:A.handled=none) (T:iK prog w s.heap a (we w) ns) (few:ns.length<1000)
 (k:∀(h':Heap) (d) (tk:Nat) (vs:List Value) (os:List Int),(∀b o,s.heap.get? b=some o->h'.get? b=some o)->s.heap.objs.size<h'.objs.size->PyProof.Rows.IntsAre vs os->os.Perm ns->Q vs {s with heap:=h',drawn:=d,toks:=tk}):wpAny (model prog w) A (collect (.ref a)) Q E s:=by
 have L:a<s.heap.objs.size:=let ⟨_,_,_,_,⟨g,_⟩,_⟩:=T;Qn g
 unfold collect;refine Qd (wpAny_runValue (jaH PySem.F.entry_proto_collect ?_));rw [jay PySem.F.plain_proto_collect _];show wpAny _ A.in1 (newList []>>=λl=>again (.builtin "list.__iadd__" ⟨[l, .ref a],[]⟩)) _ _ s;refine Qd (TU (Ql ⟨plainId_quiet PySem.F.plain_list_iadd _,jaH PySem.F.entry_list_iadd ?_⟩));rw [jay PySem.F.plain_list_iadd _];show wpAny _ A.in1 (Builtin.List.listExtendWith (.ref s.heap.objs.size) (.ref a) (.ref s.heap.objs.size)) _ _ _;unfold Builtin.List.listExtendWith;generalize H:s.heap.push {cls:= .type "list",data:= .seq ([]:List Value).toArray}=m;have g1:m.get? s.heap.objs.size=some {cls:= .type "list",data:= .seq ([]:List Value).toArray}:=by rw [<-H];exact Qt _ rfl
 have K:m.objs.size=s.heap.objs.size+1:=by rw [<-H];exact QM ..
 have k1:∀b o,s.heap.get? b=some o->m.get? b=some o:=λb o e=>by rw [<-H];exact Qh _ e
 have G:iK prog w m a (we w) ns:=T.kept λo e=>k1 a o e;have t:Shared.TypeIs {s with heap:=m} (.ref a) "set":=let ⟨_,_,_,_,⟨g,x,_⟩,_⟩:=G;⟨_,g,x.1⟩
 have ne:s.heap.objs.size≠a:=jaz L;refine Qd (wpAny_typeOf (s:={s with heap:=m}) t ?_);have Z:Builtin.List.listSameRef (.ref s.heap.objs.size) (.ref a)=false:=by unfold Builtin.List.listSameRef;simpa using ne
 rw [Z,show (Value.type "set"==Value.type "list")=false by decide,show (Value.type "set"==Value.type "tuple")=false by decide,QS (by simp)];refine Qd (iter_T (s:={s with heap:=m}) G few λp d I k2 C hI SF W=>?_);dsimp only at k2 C SF;have T2:iK prog w p a (we w) ns:=G.kept λo e=>k2 a o e;have r:Shared.TypeIs {s with heap:=p,drawn:=d} (.ref a) "set":=let ⟨_,_,_,_,⟨g,x,_⟩,_⟩:=T2;⟨_,g,x.1⟩
 refine Qd (jau (hint_T (ns:=ns) (s:={s with heap:=p,drawn:=d}) r ?_));rw [QH (by decide+kernel)];refine Qd (jbL ?_);have g2:=k2 _ _ g1;have g3:=Tw (Obj.mapSeq (·.push Value.none)) g2 rfl;have g4:=Tw (Obj.mapSeq (·.pop)) g3 rfl;refine Qd (show wpAny _ A.in1 (updateSeq s.heap.objs.size (·.push .none)>>=λ_=>updateSeq s.heap.objs.size (·.pop)) _ _ _ from Qd (wpAny_updateSeq g2 rfl (wpAny_updateSeq g3 rfl ?_)));obtain ⟨O,n,P,St,os,u,mI,D,hn,perm,val,Wk⟩:=W
 have out:s.heap.objs.size∉O:=λz=>by
  rcases (D _ z).2 with e|e
  ·exact ne e
  ·dsimp only at e;rw [K] at e;exact absurd e (Nat.not_le.mpr (QU _))
 have y:n<=sizeLine:=by
  have:=perm.length_eq;rw [sizeLine_eq];omega
 have oth:∀b o,b≠s.heap.objs.size->p.get? b=some o->((p.update s.heap.objs.size (Obj.mapSeq (·.push Value.none))).update s.heap.objs.size (Obj.mapSeq (·.pop))).get? b=some o:=
  λb o h e=>(Th _ _ (Ne.symm h)).trans ((Th _ _ (Ne.symm h)).trans e)
 have WS:=(Wk A.in1 (by simp [quiet])).toS;refine Ql ⟨plainId_quiet PySem.F.plain_extend_loop _,codeAny_extend_loopS WS y _ out _ n 0 _ _ _ rfl (jai _) ((Wk A.in1 (by simp [quiet])).frame 0 p _ u λb h o e=>oth b o (λz=>out (z▸h)) e) g4 (ItemsOf.nil P) λs' acc c q J items=>?_⟩;refine (show wpAny _ A (load s.heap.objs.size>>=_) _ _ s' from Qd (wpAny_load J (Ql ?_)));obtain ⟨h',g',d',Pw,MR⟩:=s';have X:g'=s.gens:=q.gens;have Y:d'=d:=q.drawn;have U:MR=s.os:=q.os;subst X;subst Y;subst U;refine k h' d' Pw acc.toList os (λb o e=>?_) (Qn J) (BV ?_ λj v N=>?_) perm
 ·have h:b<s.heap.objs.size:=Qn e;refine q.heap b o (λz=>?_) (oth b o (QE h) (k2 b o (k1 b o e)))
  rcases Qk.mp z with z|z
  ·exact absurd h (by rw [z];exact jaf _)
  ·rw [Qv.mp z] at h;rw [K] at C;exact absurd h (Nat.not_lt.mpr (QT (jaj _) C))
 ·rw [jac,items.1,hn]
 ·obtain ⟨tk,M,Mg,Pq⟩:=val j v (items.2 j v (by simpa using N));exact ⟨tk,M,Mg,Pq⟩
theorem DH {ns:List Int} {Q:Value->Shared->Prop} (quiet:A.handled=none) (T:iK prog w s.heap a (we w) ns) (few:ns.length<64)
 (k:∀(h':Heap) (d) (tk:Nat) (L:Addr) (out:Array Value) (os:List Int) (e:Nat),(∀b o,s.heap.get? b=some o->h'.get? b=some o)->s.heap.objs.size<=L->h'.get? L=some (PyProof.Rows.seqObj "list" out e)->PyProof.Rows.IntsAre out.toList os->os.Perm ns->os.Pairwise (·<=·)->Q (.ref L) {s with heap:=h',drawn:=d,toks:=tk}):
 wpAny (model prog w) A (call (.builtin "sorted") [.ref a]) Q E s:=by
 refine Calls.call_function_entry PyProof.Rows.kind_sorted PyProof.Rows.plain_sorted PyProof.Rows.entry_sorted (PyProof.Rows.args_sorted1 _) ?_;unfold Builtin.«sorted»;refine Qd (m:=checkCount "sorted" 1 1 _) (Ql (Qd (Cu (by simp [quiet]) T (by omega) λp d tk vs os keep lt h perm=>Qd (wpAny_newList ?_ (by rw [sizeLine_eq,h.length,perm.length_eq];omega)))));have q:(p.push (PyProof.Rows.seqObj "list" vs.toArray 0)).get? p.objs.size=some (PyProof.Rows.seqObj "list" vs.toArray 0):=Qt _ rfl
 have lv:vs.length<64:=by
  have z:=h.length;have y:=perm.length_eq;omega
 show wpAny _ _ _ _ _ {s with heap:=p.push (PyProof.Rows.seqObj "list" vs.toArray 0),drawn:=d,toks:=tk};refine Qd (jau (Te PyProof.Rows.slot_list_sort ⟨_,q,rfl⟩ PyProof.Rows.entry_list_sort (PyProof.Rows.list_sort_tree (s:={s with heap:=p.push (PyProof.Rows.seqObj "list" vs.toArray 0),drawn:=d,toks:=tk}) q h lv λout u a1 a2 t=>⟨_,rfl,?_⟩) (PyProof.Rows.args_list_sort _)));obtain ⟨e,he⟩:=PyProof.Rows.sortedHeap_at (out:=out) q;refine Ql ⟨_,rfl,k _ d tk _ out u e (λb o g=>?_) (jbo lt) he a1 (a2.trans perm) t⟩;have r:b<p.objs.size:=Qn (keep b o g);rw [PyProof.Rows.sortedHeap_old (QE r) (by rw [QM];exact Tt r)];exact Qh _ (keep b o g)
end
end S
namespace S
open PySem PySem.Spec PyProof.Rows L2
theorem iK.nodup {prog:Program} {w:World} {h:Heap} {a:Addr} {b:Bool} {ns:List Int} (T:iK prog w h a b ns):ns.Nodup:=by
 obtain ⟨_,_,_,_,_,_,_,_,nd⟩:=T;exact nd
theorem bt_set:bootBuiltins "set"=some (.type "set"):=by decide+kernel
theorem vR:bootBuiltins "sorted"=some (.builtin "sorted"):=by decide+kernel
theorem le_lt:∀{l:List Int},l.Pairwise (·<=·)->l.Nodup->l.Pairwise (·<·)
 |[],_,_=>List.Pairwise.nil
 |x::l,h,nd=>by
  obtain ⟨q,p⟩:=Qm.mp h;obtain ⟨n1,m⟩:=TK.mp nd;refine Qm.mpr ⟨λy g=>?_,le_lt p m⟩;have:=q y g;have:x≠y:=λe=>n1 (e▸g);omega
section
variable {X:Cx}
theorem Inv.redrawn {pins:List (Addr×Obj)} {σ:L2.St} {H:Hp} {s:Shared} {d:Drawn} (I:Inv X pins σ H s):Inv X pins σ H {s with drawn:=d}:=⟨I.ok,I.os,I.bare,I.base,I.loc,I.cell,I.free,I.freeC,I.pin,I.hok,I.len⟩
def AM (K:PySem.W.Frag):V->Hp->VK->Prop:=λx H1 Q=>∃(p:Addr) (ns:List Int),x= .ref p/\SqL K H1 p (ns.map V.int)/\ns.length<60/\∀(os:List Int) (l:Addr),os.Pairwise (·<·)->(∀k,k∈os↔k∈ns)->H1 l=none->Q (.ref l) (upd H1 l (.lst (os.map V.int)))
def Gj (K:PySem.W.Frag) (g:TE):TE:=λσ H Q=>g σ H λx H1=>AM K x H1 Q
theorem bW:∀{ns:List Int} {us:List Value},IntsAre us ns->xE (ns.map V.int) us
 |[],_, .nil=> .nil
 |n::ns,_, .cons _ t r=> .cons ⟨t,rfl⟩ (bW r)
theorem Ed {e:Expr} {C:TE} {Y q D g:Pos} (hc:X.calm=true) (g1:Gl X "sorted") (Z:X.mg "sorted"=none) (g2:Gl X "set") (m2:X.mg "set"=none) (he:PE X e C)
 (M:starEach [.Call (.Name "set" q) [e] [] g] X.env=[(false,eval (.Call (.Name "set" q) [e] [] g) X.env)]:=by rfl) (N:starEach [e] X.env=[(false,eval e X.env)]:=by rfl):
 PE X (.Call (.Name "sorted" Y) [.Call (.Name "set" q) [e] [] g] [] D) (Gj X.K C):=by
 intro pins s σ H Q I h;refine jan (Wm I g1 Z vR ?_ (by decide) (by decide));refine PyProof.Rows.callWith_builtin1 ?_ M (by rfl);rw [M];show wpAny _ _ (spliced ((false,eval (.Call (.Name "set" q) [e] [] g) X.env)::backTo D (starEach [] X.env))) _ _ s;refine Calls.spliced_cons ?_;refine jan (Wm I g2 m2 bt_set ?_ (by decide) (by decide));refine Tg (thn ((zh he zA N) g pins s σ H (λvs H1=>match vs with|[x]=>AM X.K x H1 Q|_=>False) I h) λus s1 ⟨vs,H1,A,t,r⟩=>?_) N (by rfl)
 match vs,t,r with
 |[x],t,r=>
  obtain ⟨p,ns,rfl,hq,few,k⟩:=r;obtain ⟨u,rfl,P⟩:=gR t;cases P;obtain ⟨its,U,pl,_⟩:=A.list hq;have E:=Vr U;have hl:=E.length;have quiet:=A.ok.hd hc;refine vP quiet pl.isList (by simpa using E) (by simpa using (by omega:its.length<900)) λy z T G hx hlT NV=>?_;refine Calls.spliced_nil ?_;have Nv:∀b o,s1.heap.get? b=some o->y.get? b=some o:=λb o e=>NV b o (Qn e) e;have O:Inv X pins σ H1 {s1 with heap:=y,toks:=z}:=A.kept (t':=z) Nv;refine DH (s:={s1 with heap:=y,toks:=z}) quiet G (by omega) λh3 d J L out os e NU le gL m perm sorted=>?_;have I3:=Inv.redrawn (d:=d) O;have nd:os.Nodup:=perm.nodup_iff.mpr G.nodup;have lo:=m.length;have po:=perm.length_eq;have I4:Inv X pins σ (upd H1 L (.lst (os.map V.int))) {s1 with heap:=h3,drawn:=d,toks:=J}:=I3.laid (t':=J) NU le (show ZF X.prog X.w _ _ _ (.lst (os.map V.int)) from ⟨?_,out.toList,e,bW m,?_⟩)
  ·exact ⟨.ref L,_,I4,rfl,k os L (le_lt sorted nd) (λx=>by rw [perm.mem_iff];exact hx x) (O.hok.fresh le)⟩
  ·rw [Qa,sizeLine_eq];omega
  ·simpa using gL
end
section
variable {X:Cx}
def rMinT (K:PySem.W.Frag):List V->Hp->VK->Prop:=λxs H Q=>∃(p:Addr) (ns:List Int),xs=[.ref p]/\SqT K H p (ns.map V.int)/\0<ns.length/\∀m,m∈ns->(∀x∈ns,m<=x)->Q (.int m) H
theorem dw {its:List Value} {ns:List Int} (h:IntsAre its ns):∀(i:Nat) (v:Value),its.toArray[i]? =some v->∃t,v= .int ((λi=>ns.getD i 0) i) t:=λi v g=>PyProof.Rows.IntsAre.int_at h i v (by simpa using g)
theorem oC (M:X.calm=true):Vf X (.builtin "min") (rMinT X.K):=by
 intro pins s σ H xs us Q I r h;obtain ⟨p,ns,rfl,E,T,q⟩:=h;obtain ⟨u,rfl,y⟩:=gR r;cases y;obtain ⟨its,C,ht,hz⟩:=I.tuple E;have m:=Vr C;have G:=m.length;have below:p≠s.heap.objs.size:=let ⟨_,e,_⟩:=ht;QE (Qn e)
 refine call_min_walk (jam ht ⟨_,_,_,_,_,_,_,rfl,Walks.tuple (A:=X.A.in1) (I.ok.hd M) _ p below its.toArray,⟨⟨_,Qt _ rfl,rfl,rfl⟩,ht.push _⟩,λb N=>?_,by simpa using (by omega:0<its.length),CmpOf.ints_lt (λi=>ns.getD i 0) (dw m),λv h' tk O J=>?_⟩)
 ·rw [QM]
  rcases Qk.mp N with z|z
  ·rw [z];exact QU _
  ·rw [Qv.mp z];obtain ⟨_,e,_⟩:=ht;exact Tt (Qn e)
 ·obtain ⟨t,rfl⟩:=dw m _ v O;obtain ⟨P,w⟩:=argBest_lt (λi=>ns.getD i 0) (its.toArray.size - 1);have g:its.toArray.size=ns.length:=by simpa using G
  rw [g] at P w;rw [g];refine ⟨.int _,H,I.kept (t':=tk) λb o e=>J b o (λz=>?_) (Qh _ e),⟨t,rfl⟩,q _ ?_ λx D=>?_⟩
  ·rw [Qv.mp z] at e;exact absurd (Qn e) (jaf _)
  ·dsimp only;rw [Qo,Qe (by omega)];exact Tu _
  ·obtain ⟨j,L,rfl⟩:=TN D;have:=w j (by omega);rwa [show ns.getD j 0=ns[j] by rw [Qo,Qe L];rfl] at this
end
theorem bX {m:Nat} {k a b c:zg} (y:a.1<b.1) (lk:k.2.length=m) (z:a.2.length=m) (s:zN k a b) (r:zN a b c):zN k b c:=λi K B C g h q=>by
 have D:i<m:=by rw [<-lk];exact (Qg.mp g).1
 have p:=Qe (l:=a.2) (i:=i) (by omega);have G:=s i K _ B g p h;have E:=r i _ B C p h q;generalize a.2[i]=A at*;have w:(B - K)*(b.1 - a.1)=(B - A)*(b.1 - k.1):=by grind
 have u:(C - K)*(b.1 - a.1)=(B - A)*(c.1 - k.1):=by grind
 have t:((B - K)*(c.1 - k.1) - (C - K)*(b.1 - k.1))*(b.1 - a.1)=0:=by
  have:((B - K)*(c.1 - k.1) - (C - K)*(b.1 - k.1))*(b.1 - a.1)=((B - K)*(b.1 - a.1))*(c.1 - k.1) - ((C - K)*(b.1 - a.1))*(b.1 - k.1):=by grind
  rw [this,w,u];grind
 have:=zV t (Zl y)
 grind
theorem tH {m:Nat} {c d:zg} {e:Rat} (lc:c.2.length=m) (ld:d.2.length=m):(gQ c d e).length=m:=by
 unfold gQ;rw [QO,lc,ld];exact jbs _
theorem qi {m:Nat} {a b c:zg} {r:List zg} {e:Rat} (G:a.1<b.1) (C:b.1<c.1) (h:a.2.length=m) (I:b.2.length=m) (lc:c.2.length=m) (st:zN a b c) (N:a.1<=e):zm (a::b::c::r) e=zm (a::c::r) e:=by
 have t:=xk G C
 by_cases D:e<b.1
 ·rw [zm,QH D,zm,QH (xk D C)];refine (gu t (by rw [h,lc]) (by rw [h,tH h I]) λi p q z hp w hz=>?_).symm;obtain ⟨M,g,J,H,ez⟩:=YZ hz;rw [hp] at J;cases J;have u:=xc (x:=p) (y:=g) (E:=e) G;rw [<-ez] at u;have s:=st i p g q hp H w
  have:((z - p)*(c.1 - a.1) - (q - p)*(e - a.1))*(b.1 - a.1)=0:=by
   have:((z - p)*(c.1 - a.1) - (q - p)*(e - a.1))*(b.1 - a.1)=((z - p)*(b.1 - a.1))*(c.1 - a.1) - ((q - p)*(b.1 - a.1))*(e - a.1):=by grind
   rw [this,u,<-s];grind
  have:=zV this (Zl G)
  grind
 ·rw [zR (Tz.mp D)]
  by_cases A:e<c.1
  ·rw [zm,QH A,zm,QH A];refine (gu t (by rw [h,lc]) (by rw [h,tH I lc]) λi p q z hp w hz=>?_).symm;obtain ⟨g,L,H,K,ez⟩:=YZ hz;rw [w] at K;cases K;have u:=xc (x:=g) (y:=q) (E:=e) C;rw [<-ez] at u;have s:=st i p g q hp H w;have s1:(g - p)*(c.1 - b.1)=(q - g)*(b.1 - a.1):=by grind
   have:((z - p)*(c.1 - a.1) - (q - p)*(e - a.1))*(c.1 - b.1)=0:=by
    have k1:(z - p)*(c.1 - b.1)=(e - b.1)*(q - g)+(g - p)*(c.1 - b.1):=by grind
    have k2:((z - p)*(c.1 - a.1) - (q - p)*(e - a.1))*(c.1 - b.1)=((z - p)*(c.1 - b.1))*(c.1 - a.1) - (q - p)*(e - a.1)*(c.1 - b.1):=by grind
    rw [k2,k1,s1]
    grind
   have:=zV this (Zl C)
   grind
  ·rw [zR (Tz.mp A),zR (Tz.mp A)]
theorem bf {m:Nat} {e:Rat}:∀(r:List zg) (k a b:zg),yO (k::b::r)->(∀x∈k::b::r,x.2.length=m)->k.1<=e->(a=k\/(k.1<a.1/\a.1<b.1/\a.2.length=m/\zN k a b))->
 zm (k::ye a (b::r)) e=zm (k::b::r) e
 |[],k,a,b,_,_,_,_=>by rw [ye]
 |c::r,k,a,b,hr,hl,hk,ha=>by
  obtain ⟨s,q⟩:=Qm.mp hr;obtain ⟨A,z⟩:=Qm.mp q;have t:=s b (Qc ..);have u:=A c (Qc ..);have lk:=hl k (Qc ..);have p:=hl b (Qf _ (Qc ..));have lc:=hl c (Qf _ (Qf _ (Qc ..)));rw [ye]
  split
  ·rename_i st
   have w:zN k b c:=by
    rcases ha with rfl|⟨_,C,y,s0⟩
    ·exact st
    ·exact bX C lk y s0 st
   have rk:yO (k::c::r):=Qm.mpr ⟨λx g=>s x (Qf _ g),z⟩
   rw [bf r k b c rk (λx g=>hl x (by
    rcases Qk.mp g with rfl|g
    ·exact Qc ..
    ·exact Qf _ (Qf _ g))) hk (.inr ⟨t,u,p,w⟩),qi t u lk p lc w hk]
  ·by_cases h:e<b.1
   ·rw [zm,QH h,zm,QH h]
   ·rw [zR (Tz.mp h),zR (Tz.mp h)];exact bf r b b c q (λx g=>hl x (Qf _ g)) (Tz.mp h) (.inl rfl)
theorem lE {m:Nat} {e:Rat} {c:zg} {r:List zg} (hr:yO (c::r)) (g:∀x∈c::r,x.2.length=m) (h:c.1<=e):zm (yv (c::r)) e=zm (c::r) e:=by
 rw [yv]
 cases r with
 |nil=>rw [ye]
 |cons b r=>exact bf r c c b hr g h (.inl rfl)
theorem Wl {e:Rat} {M:List zg}:∀{c:zg} {r:List zg},yO (c::r)->(lastC (c::r)).1<=e->zm (c::r++M) e=zm (lastC (c::r)::M) e
 |c,[],_,_=>rfl
 |c,d::r,hr,he=>by
  have g:=(Qm.mp hr).2;rw [Yt] at he⊢
  have hd:d.1<=e:=by
   refine TB ?_ he
   have m:lastC (d::r)∈d::r:=by
    unfold lastC;rw [Ta (by simp)];exact List.getLast_mem _
   rcases Qk.mp m with z|z
   ·rw [z];exact QY
   ·exact QV ((Qm.mp g).1 _ z)
  rw [TH,TH,zR hd];exact Wl g he
def mn (a l:Rat):Rat:=if a<=l then a else l
theorem ft {m:Nat} {e:Rat}:∀{c:zg} {r:List zg},yO (c::r)->(∀x∈c::r,x.2.length=m/\zU x.2=x.1)->c.1<=e->e<=(lastC (c::r)).1->zU (zm (c::r) e)=e
 |c,[],_,h,hc,hl=>by
  have t:e=c.1:=jbU hl hc;rw [t];exact (h c (Qc ..)).2
 |c,d::r,hr,h,hc,hl=>by
  have p:=(Qm.mp hr).1 d (Qc ..);have g:=h c (Qc ..);have q:=h d (Qf _ (Qc ..))
  by_cases hd:d.1<=e
  ·rw [zR hd];exact ft (Qm.mp hr).2 (λx s=>h x (Qf _ s)) hd (by rw [<-Yt c];exact hl)
  ·have u:e<d.1:=jbh.mp hd;rw [zm,QH u];unfold gQ;rw [jE _ _ _ (by rw [g.1,q.1]),g.2,q.2];have w:=xc (x:=c.1) (y:=d.1) (E:=e) p;have:=zV (a:=Xo ((e - c.1) / (d.1 - c.1)) c.1 d.1 - e) (b:=d.1 - c.1) (by grind) (Zl p)
   grind
theorem fu {c:zg} {r:List zg} {e:Rat} (hr:yO (c::r)) (he:(lastC (c::r)).1<=e):zm (c::r) e=(lastC (c::r)).2:=by
 have:=Wl (M:=[]) hr he;rw [jaR] at this;rw [this];rfl
def yx (h:List Int):zg:=((h.sum:Int),h.map λ(x:Int)=>(x:Rat))
theorem dO:∀h:List Int,zU (h.map λ(x:Int)=>(x:Rat))=((h.sum:Int):Rat)
 |[]=>rfl
 |x::h=>by rw [Qp,zU,dO h,QG,Rat.intCast_add]
theorem ay {f g:Int->Int}:∀{as:List Int},(∀a∈as,f a<=g a)->(as.map f).sum<=(as.map g).sum
 |[],_=>jbN _
 |a::as,h=>by
  have p:=ay λx m=>h x (Qf _ m);have:=h a (Qc ..);rw [Qp,Qp,QG,QG];omega
theorem ax {f g:Int->Int}:∀{as:List Int} {b:Int},(∀a∈as,f a<=g a)->b∈as->f b<g b->(as.map f).sum<(as.map g).sum
 |[],b,_,m,_=>by simp at m
 |a::as,b,h,m,Ku=>by
  rw [Qp,Qp,QG,QG];have ha:=h a (Qc ..)
  rcases Qk.mp m with rfl|m
  ·have:=ay λx p=>h x (Qf _ p);omega
  ·have:=ax (λx p=>h x (Qf _ p)) m Ku;omega
structure LvOk (as ls:List Int):Prop where
 rise:ls.Pairwise (·<·)
 mem:∀k,k∈ls↔k=0\/k∈as
 nn:∀a∈as,0<=a
def VG (as:List Int) (l:Int):List Int:=as.map λa=>min a l
def UZ (as:List Int) (l:Int):List Int:=as.map λa=>a - min a l
def evP (as ls:List Int):List zg:=ls.map λl=>yx (VG as l)
def loP (as ls:List Int):List zg:=ls.reverse.map λl=>yx (UZ as l)
section
variable {as ls:List Int}
theorem LvOk.nnL (h:LvOk as ls):∀l∈ls,0<=l:=λl g=>by
 rcases (h.mem l).mp g with rfl|z
 ·exact jbN _
 ·exact h.nn l z
theorem LvOk.zero (h:LvOk as ls):ls[0]? =some 0:=by
 have m0:(0:Int)∈ls:=(h.mem 0).mpr (.inl rfl)
 cases ls with
 |nil=>simp at m0
 |cons a l=>
  have ha:=h.nnL a (Qc ..)
  rcases Qk.mp m0 with e|e
  ·rw [e];rfl
  ·have:=(Qm.mp h.rise).1 0 e;omega
theorem LvOk.sumlt (h:LvOk as ls) {l g:Int} (p:l∈ls) (q:g∈ls) (lt:l<g):(VG as l).sum<(VG as g).sum:=by
 have m:g∈as:=((h.mem g).mp q).resolve_left (by have:=h.nnL l p;omega);exact ax (λa _=>by omega) m (by omega)
theorem sO:∀(as:List Int) (l:Int),(UZ as l).sum=as.sum - (VG as l).sum
 |[],_=>rfl
 |a::as,l=>by
  have:=sO as l;unfold UZ VG at*;rw [Qp,Qp,QG,QG,QG,this];omega
theorem LvOk.riseE (h:LvOk as ls):yO (evP as ls):=by
 unfold yO evP;rw [Tj];exact h.rise.imp_of_mem λ{a b} ha hb lt=>jbJ.mpr (h.sumlt ha hb lt)
theorem LvOk.top (h:LvOk as ls):∃t,ls.getLast? =some t/\∀a∈as,a<=t:=by
 have ne:ls≠[]:=λe=>by have:=h.zero;rw [e] at this;simp at this
 refine ⟨_,Ta ne,λa ha=>?_⟩;have m:=(h.mem a).mpr (.inr ha);rw [<-TZ ne] at m;have R:=h.rise;rw [<-TZ ne] at R
 rcases QX.mp m with z|z
 ·exact Int.le_of_lt ((TC.mp R).2.2 a z _ (by simp))
 ·rw [Qv.mp z];exact jbN _
theorem Iv {t:Int} (h:∀a∈as,a<=t):VG as t=as:=by
 unfold VG
 conv=>rhs;rw [<-List.map_id as]
 exact TQ λa ha=>by show min a t=a;have:=h a ha;omega
theorem ED (h:∀a∈as,0<=a):VG as 0=Ww as.length:=by
 unfold VG Ww;rw [<-jbu];exact TQ λa ha=>by have:=h a ha;omega
end
section
variable {as ls:List Int}
theorem Ck (h:LvOk as ls):∃r,evP as ls=yx (Ww as.length)::r:=by
 have z:=h.zero
 cases ls with
 |nil=>simp at z
 |cons a l=>
  have:a=0:=by simpa using z
  subst this;exact ⟨_,by unfold evP;rw [Qp,ED h.nn]⟩
theorem tw (h:LvOk as ls):lastC (evP as ls)=yx as:=by
 obtain ⟨t,ht,top⟩:=h.top;unfold lastC evP;rw [jaD,ht];show yx (VG as t)=_;rw [Iv top]
theorem uo:∀(as:List Int) (l:Int),gT (yx as) (yx (VG as l))=yx (UZ as l):=λas l=>by
 unfold gT yx;refine Prod.ext ?_ ?_
 ·show ((as.sum:Int):Rat) - ((VG as l).sum:Int)=((UZ as l).sum:Int);rw [sO,jbv]
 ·show List.zipWith (· - ·) (as.map λ(x:Int)=>(x:Rat)) ((VG as l).map λ(x:Int)=>(x:Rat))=(UZ as l).map λ(x:Int)=>(x:Rat);unfold VG UZ
  apply jaX
  ·simp
  ·intro i h g;simp only [jal,List.getElem_map];rw [jbv]
theorem dM (h:LvOk as ls):xq (evP as ls)=loP as ls:=by
 unfold xq;rw [tw h];unfold evP loP;rw [<-List.map_reverse,QI];exact TQ λl _=>uo as l
theorem loP_ne (h:LvOk as ls):∃r,loP as ls=yx (Ww as.length)::r:=by
 obtain ⟨t,ht,top⟩:=h.top;have ne:ls≠[]:=λe=>by rw [e] at ht;simp at ht
 obtain ⟨g,ei⟩:=List.getLast?_eq_some_iff.mp ht;refine ⟨g.reverse.map λl=>yx (UZ as l),?_⟩;unfold loP;rw [ei,List.reverse_append,List.reverse_singleton,List.singleton_append,Qp]
 congr 2
 unfold UZ Ww;rw [<-jbu];exact TQ λa ha=>by have:=top a ha;omega
theorem Ur (h:List Int):(yx h).2.length=h.length/\zU (yx h).2=(yx h).1:=⟨Qa _,dO h⟩
theorem tu (as ls:List Int):∀c∈evP as ls,c.2.length=as.length/\zU c.2=c.1:=λc g=>by
 obtain ⟨l,_,rfl⟩:=Qj.mp g;have:=Ur (VG as l);rwa [show (VG as l).length=as.length by unfold VG;rw [Qa]] at this
theorem BF (as ls:List Int):∀c∈loP as ls,c.2.length=as.length/\zU c.2=c.1:=λc g=>by
 obtain ⟨l,_,rfl⟩:=Qj.mp g;have:=Ur (UZ as l);rwa [show (UZ as l).length=as.length by unfold UZ;rw [Qa]] at this
theorem dI (m:Nat):yx (Ww m)=(0,List.replicate m 0):=by
 unfold yx;rw [wx];unfold Ww;rw [jaK];rfl
theorem DB {P:List zg} {m:Nat} {e:Rat} (r:List zg) (h:P=(0,List.replicate m 0)::r) (rise:yO P) (ok:∀c∈P,c.2.length=m/\zU c.2=c.1) (h0:0<=e):zU (zm P e)=mn e (lastC P).1:=by
 subst h;unfold mn
 split
 ·exact ft rise ok h0 (by assumption)
 ·rename_i z;have g:=jbh.mp z;rw [fu rise (QV g)]
  have m:lastC ((0,List.replicate m 0)::r)∈((0:Rat),List.replicate m (0:Rat))::r:=by
   unfold lastC;rw [Ta (by simp)];exact List.getLast_mem _
  exact (ok _ m).2
def hfA (as ls:List Int):List zg:=zP (1 / 2) (evP as ls)
def hfB (as ls:List Int):List zg:=zP (1 / 2) (loP as ls)
theorem sU:(0:Rat)<1 / 2:=by decide+kernel
theorem pT {a:List zg} {p:Rat} (hp:0<p) (h:yO a):yO (zP p a):=by
 unfold yO zP;rw [Tj];exact h.imp λ{x y} lt=>Rat.mul_lt_mul_of_pos_right lt hp
theorem hf_len (as ls:List Int):∀x∈hfA as ls++xb (hfA as ls) (hfB as ls),lastC (hfA as ls)∈hfA as ls->x.2.length=as.length:=λx g hm=>by
 have m:∀x∈hfA as ls,x.2.length=as.length:=λx g=>by
  obtain ⟨c,h,rfl⟩:=Qj.mp g;rw [Qa];exact (tu as ls c h).1
 rcases QX.mp g with z|z
 ·exact m x z
 ·obtain ⟨d,hd,rfl⟩:=Qj.mp z
  have ld:d.2.length=as.length:=by
   have:=TF hd;obtain ⟨c,h,rfl⟩:=Qj.mp this;rw [Qa];exact (BF as ls c h).1
  show (List.zipWith _ _ _).length=_;rw [QO,m _ hm,ld];exact jbs _
theorem qC (h:LvOk as ls):lastC (hfA as ls)∈hfA as ls:=by
 obtain ⟨r,g⟩:=Ck h;have ne:hfA as ls≠[]:=by unfold hfA zP;rw [g];simp
 unfold lastC;rw [Ta ne];exact List.getLast_mem _
def hvP (as ls:List Int):List zg:=hfA as ls++xb (hfA as ls) (hfB as ls)
theorem Vh (p:Rat):∀l:List Rat,zU (l.map (·*p))=zU l*p
 |[]=>by rw [jaY,zU,jbX]
 |x::l=>by rw [Qp,zU,zU,Vh p l];grind
theorem jD:∀{x y:List Rat},x.length=y.length->zU (List.zipWith (·+·) x y)=zU x+zU y
 |[],[],_=>by rw [List.zipWith_nil_left,zU];grind
 |a::x,b::y,h=>by rw [jap,zU,zU,zU,jD (by simpa using h)];grind
 |[],_::_,h=>by simp at h
 |_::_,[],h=>by simp at h
theorem GN (as ls:List Int):∀c∈hfA as ls,c.2.length=as.length/\zU c.2=c.1:=λc g=>by
 obtain ⟨d,hd,rfl⟩:=Qj.mp g;have:=tu as ls d hd;exact ⟨by rw [Qa];exact this.1,by rw [Vh,this.2]⟩
theorem hfB_ok (as ls:List Int):∀c∈hfB as ls,c.2.length=as.length/\zU c.2=c.1:=λc g=>by
 obtain ⟨d,hd,rfl⟩:=Qj.mp g;have:=BF as ls d hd;exact ⟨by rw [Qa];exact this.1,by rw [Vh,this.2]⟩
theorem hv_ok (h:LvOk as ls):∀c∈hvP as ls,c.2.length=as.length/\zU c.2=c.1:=λc g=>by
 refine ⟨hf_len as ls c g (qC h),?_⟩
 rcases QX.mp g with z|z
 ·exact (GN as ls c z).2
 ·obtain ⟨d,hd,rfl⟩:=Qj.mp z;have a:=GN as ls _ (qC h);have b:=hfB_ok as ls d (TF hd);show zU (List.zipWith (·+·) _ _)=_+_;rw [jD (by rw [a.1,b.1]),a.2,b.2]
def shP (as:List Int):List zg:=if as.sum=0 then [yx (Ww as.length)] else [yx (Ww as.length),yx as]
theorem jB:∀n:Nat,(List.replicate n (0:Int)).sum=0
 |0=>rfl
 |n+1=>by rw [Tc,QG,jB n];rfl
theorem VI {as:List Int} (h:∀a∈as,0<=a):0<=as.sum:=by
 have:=ay (f:=λ_=>0) (g:=id) (as:=as) λa ha=>h a ha;rw [List.map_id,jbu,jB] at this
 simpa using this
theorem DA {as:List Int} (h:∀a∈as,0<=a) (z:as.sum=0):∀a∈as,a=0:=λa ha=>by
 rcases Int.lt_or_eq_of_le (h a ha) with lt|e
 ·have:=ax (f:=λ_=>0) (g:=id) (as:=as) (λa ha=>h a ha) ha lt;rw [List.map_id,jbu,jB,z] at this;simp at this
 ·exact e.symm
end
section
variable {as tk:List Int} {B:Int} {f:Rat->Rat} {z:Rat}
theorem qS {a b:Int} (h:(a:Rat)<=(b:Rat)):a<=b:=jaq.mp h
theorem qR {a b:Int} (h:a<b):(a:Rat)<(b:Rat):=jbJ.mpr h
theorem Cv {a:Int} (h:0<=a):(0:Rat)<=(a:Rat):=by have:=jaq.mpr h;exact this
theorem aa {a:Int} (h:0<a):(0:Rat)<(a:Rat):=by have:=jbJ.mpr h;exact this
theorem UR {x y b:Rat} (h:x<=y) (g:0<=b):x*b<=y*b:=by
 have:=jbA (show 0<=y - x by grind) g
 grind
noncomputable def IQ (as ls:List Int):Nat->List zg
 |0=>shP as
 |1=>evP as ls
 |2=>loP as ls
 |_=>yv (hvP as ls)
end
structure Bl3 (mg:Str->Option Value):Prop where
 sorted:mg "sorted"=none
 set:mg "set"=none
section
variable {X:Cx} {e o:Expr} {es:List Expr} {ta:TE} {t:TA}
def Gm (K:PySem.W.Frag) (m:Str) (f:Addr) (sp:Sp) (E:XK) (ta:TE) (t:TA):TE:=λσ H Q=>ta σ H λx H1=>∃a C g fs,x= .ref a/\H1 a=some (.ins C g fs)/\Cls K C/\Meth K C m f/\fs.lookup m=none/\t σ H1 λvs h=>sp (x::vs) h Q E
theorem YU {CX:CXT} {k:Nat} {f:Addr} {fd:FuncData} {ps:List Str} {sp:Sp} {E:XK} {m:Str} {apos pos:Pos} {pl:Sem Bool} (he:PE X o ta) (F:FnOk X.prog X.w X.K X.mg X.base CX k f fd ps sp) (hr:Room k X.A) (J:yX X.K fd ps []) (D:Wr CX X E) (ha:PA X (e::es) t)
 (M:starEach (e::es) X.env=(false,eval e X.env)::starEach es X.env:=by rfl) (N:(backTo pos (starEach es X.env)).any (·.1)=false:=by rfl)
 (ht:eval (.Call (.Attribute o m apos) (e::es) [] pos) X.env=(do
  let ov<-eval o X.env
  standAt apos.atName
  let (f,first)<-holding [ov] (getMethod ov m pl)
  callWith pos f first (backTo pos (starEach (e::es) X.env)) (backToKw pos (keywordEach [] X.env))):=by rfl):
 PE X (.Call (.Attribute o m apos) (e::es) [] pos) (Gm X.K m f sp E ta t):=by
 intro pins s σ H Q I h;refine PySem.W.methodCall_KW (pl:=pl) (thn (he pins s σ H _ I h) λu s1 G=>?_) ht;obtain ⟨x,H1,p,y,a,C,O,fs,ex,L,c,hm,l,q⟩:=G;subst ex;obtain rfl:u=Value.ref a:=y;refine jm p L c hm l ?_;refine jbG (first:=[.ref a]) (h₀:=X.base) I.ok.mod.kin hm.kp (thn (ha pos pins s1 σ H1 _ p q) λus s2 ⟨vs,P,g,r,z⟩=>⟨g.kIn,?_⟩) M N;exact rX (us:= .ref a::us) (vs:= .ref a::vs) F hr J .nil D g (.cons rfl r) (by rw [jaR];exact z)
end
section
variable {B G0 H:Hp} {cs:zY} {ds:Dat} {Q:VK} {E:XK} {v w u:V} {K:PySem.W.Frag} {C L:Addr} {x:PyData} {σ:L2.St}
def kMB (K:PySem.W.Frag) (m:Str) (f:Addr) (sp:Sp) (E:XK) (t:TA) (σ:L2.St) (Q:VK):VK:=λx H1=>∃a C g fs,x= .ref a/\H1 a=some (.ins C g fs)/\Cls K C/\Meth K C m f/\fs.lookup m=none/\t σ H1 λvs h=>sp (x::vs) h Q E
theorem rd_methB {m:Str} {f:Addr} {sp:Sp} {g:TE} {t:TA} (h:g σ H (kMB K m f sp E t σ Q)):Gm K m f sp E g t σ H Q:=h
theorem cf {m:Str} {f:Addr} {sp:Sp} {t:TA} (S:Sta B G0 H cs ds) (h:Has ds (Fl C x) v) (cl:Cls K C) (me:Meth K C m f) (hm:(m==("form":Str))=false) (k:t σ H λvs q=>sp (v::vs) q Q E):kMB K m f sp E t σ Q v H:=by
 obtain ⟨p,g,w,rfl,hp,r⟩:=S.ins h;exact ⟨p,C,g,_,rfl,hp,cl,me,by rw [jaL,hm];rfl,k⟩
def GI (K:PySem.W.Frag) (Q:VK):VK:=λx H1=>AM K x H1 Q
theorem rd_sortS {g:TE} (h:g σ H (GI K Q)):Gj K g σ H Q:=h
theorem fh {ns:List Int} (S:Sta B G0 H cs ds) (h:(L,ns.map PyData.int)∈cs) (few:ns.length<60) (k:∀(os:List Int) (l:Addr) (H':Hp),os.Pairwise (·<·)->(∀z,z∈os↔z∈ns)->zH H H'->Sta B G0 H' ((l,os.map PyData.int)::cs) ds->Q (.ref l) H'):GI K Q (.ref L) H:=by
 obtain ⟨vs,hp,u⟩:=S.vwC h;obtain ⟨G,q⟩:=id S;rw [yF (u G q)] at hp;exact ⟨L,ns,rfl,SqL.of hp,few,λos l p m g=>k os l _ p m (zH.new g _) (S.newL g λG _=>Yj os)⟩
theorem AB {ns:List Int} (S:Sta B G0 H cs ds) (h:Has ds (.tuple (ns.map PyData.int)) v) (hn:0<ns.length) (k:∀m,m∈ns->(∀x∈ns,m<=x)->Q (.int m) H):rMinT K [v] H Q:=by
 obtain ⟨p,vs,rfl,hp,r,q,al⟩:=S.tupAll h;obtain ⟨G,g⟩:=id q;rw [yF (al G g.2.2.2.2.2.2)] at hp;exact ⟨p,ns,rfl,SqT.of hp,hn,k⟩
theorem qc {α:Type} (a:α):∀n:Nat,(List.replicate n [a]).flatten=List.replicate n a
 |0=>rfl
 |n+1=>by rw [Tc,Ti,qc a n];rfl
theorem HL {i:Int} {n:Nat} (S:Sta B G0 H cs ds) (h:(L,[PyData.int i])∈cs) (hn:n<=1000) (k:∀l H',zH H H'->Sta B G0 H' ((l,(List.replicate n i).map PyData.int)::cs) ds->Q (.ref l) H'):rRep (.ref L) (.int (n:Int)) H Q:=by
 obtain ⟨vs,hp,u⟩:=S.vwC h;obtain ⟨G,m⟩:=id S;have e:=yF (ns:=[i]) (u G m);subst e;refine ⟨L,(n:Int),_,rfl,rfl,hp,by omega,by omega,?_,λp g=>?_⟩
 ·show 1*n<=sizeLine;have:1000<=sizeLine:=by decide
  omega
 ·rw [Ts];show Q (.ref p) (upd H p (.lst (List.replicate n [V.int i]).flatten));rw [qc];refine k p _ (zH.new g _) ?_;have:=S.newL (vs:=(List.replicate n i).map V.int) g λG _=>Yj (List.replicate n i);rw [jaK] at this;rw [jaK] at this⊢;exact this
end
abbrev Cl:=Int×Int×Int
def zB (c:Cl):PyData:= .tuple [.int c.1, .int c.2.1, .int c.2.2]
def zo (l:List Cl):PyData:= .list (l.map zB)
def amV (l:List Cl):List Int:=l.map λc=>c.1
structure ClOk (n:Nat) (l:List Cl):Prop where
 pos:0<l.length
 few:l.length<=8
 nn:∀c∈l,0<=c.1/\0<=c.2.1/\0<=c.2.2
 sz:∀c∈l,Sz n c.1
theorem xD (l:List Cl):(amV l).length=l.length:=Qa _
theorem iA:∀as:List Int,∃ls:List Int,ls.Pairwise (·<·)/\∀k,k∈ls↔k∈as
 |[]=>⟨[],List.Pairwise.nil,λ_=>Iff.rfl⟩
 |a::as=>by
  obtain ⟨ls,p,r⟩:=iA as;refine ⟨ls.filter (·<a)++a::ls.filter (a<·),?_,λk=>?_⟩
  ·refine TC.mpr ⟨p.filter _,Qm.mpr ⟨λy g=>?_,p.filter _⟩,λx q y g=>?_⟩
   ·simpa using (Tv.mp g).2
   ·have m:x<a:=by simpa using (Tv.mp q).2
    rcases Qk.mp g with rfl|g
    ·exact m
    ·have:a<y:=by simpa using (Tv.mp g).2
     omega
  ·rw [QX,Qk,Tv,Tv,Qk,r];simp only [decide_eq_true_eq]
   constructor
   ·rintro (⟨h,_⟩|h|⟨h,_⟩)
    ·exact .inr h
    ·exact .inl h
    ·exact .inr h
   ·rintro (h|h)
    ·exact .inr (.inl h)
    ·rcases Int.lt_trichotomy k a with c|c|c
     ·exact .inl ⟨h,c⟩
     ·exact .inr (.inl c)
     ·exact .inr (.inr ⟨h,c⟩)
theorem Uy:∀{x y:List Int},x.Pairwise (·<·)->y.Pairwise (·<·)->(∀k,k∈x↔k∈y)->x=y
 |[],[],_,_,_=>rfl
 |[],b::y,_,_,h=>absurd ((h b).mpr (Qc ..)) Qx
 |a::x,[],_,_,h=>absurd ((h a).mp (Qc ..)) Qx
 |a::x,b::y,h1,h2,h=>by
  obtain ⟨a1,a2⟩:=Qm.mp h1;obtain ⟨q,r⟩:=Qm.mp h2
  have e:a=b:=by
   rcases Qk.mp ((h a).mp (Qc ..)) with e|e
   ·exact e
   ·rcases Qk.mp ((h b).mpr (Qc ..)) with p|p
    ·exact p.symm
    ·have:=q a e;have:=a1 b p;omega
  subst e;rw [Uy a2 r λk=>?_];have g:=h k;rw [Qk,Qk] at g
  constructor
  ·intro m
   rcases g.mp (.inr m) with e|e
   ·subst e;exact absurd (a1 k m) (Int.lt_irrefl _)
   ·exact e
  ·intro m
   rcases g.mpr (.inr m) with e|e
   ·subst e;exact absurd (q k m) (Int.lt_irrefl _)
   ·exact e
noncomputable def lvV (as:List Int):List Int:=(iA (0::as)).choose
theorem WU {as:List Int} (nn:∀a∈as,0<=a):LvOk as (lvV as):=
 ⟨(iA (0::as)).choose_spec.1,λk=>by rw [lvV,(iA (0::as)).choose_spec.2 k,Qk],nn⟩
theorem lvV_eq {as os:List Int} (h:os.Pairwise (·<·)) (g:∀z,z∈os↔z∈0::as):os=lvV as:=
 Uy h (iA (0::as)).choose_spec.1 λk=>by rw [g,lvV,(iA (0::as)).choose_spec.2 k]
theorem GD:∀{ls as:List Int},ls.Nodup->(∀k∈ls,k∈as)->ls.length<=as.length
 |[],_,_,_=>jai _
 |a::ls,as,nd,h=>by
  obtain ⟨n1,m⟩:=TK.mp nd;have:=GD (ls:=ls) (as:=as.erase a) m λk g=>(List.mem_erase_of_ne (λ(e:k=a)=>n1 (e▸g))).mpr (h k (Qf _ g));have p:=List.length_erase_of_mem (h a (Qc ..));have:=jaU (h a (Qc ..));rw [Qw];omega
theorem LvOk.few {as ls:List Int} (h:LvOk as ls):ls.length<=as.length+1:=by
 have:=GD (ls:=ls) (as:=0::as) (h.rise.imp λ{a b} (m:a<b)=>by omega) λk g=>by rw [Qk];exact (h.mem k).mp g
 simpa using this
theorem Ht {n:Nat} {x y:Int} (h0:0<=x) (h:x<=y) (z:Sz n y):Sz n x:=by unfold Sz at*;omega
theorem mH {b:Int} (m:0<=b):∀{l:List Int},(∀x∈l,0<=x/\x<=b)->0<=l.sum/\l.sum<=l.length*b
 |[],_=>by simp
 |x::l,h=>by
  have q:=h x (Qc ..);have p:=mH m (l:=l) λy g=>h y (Qf _ g);rw [QG,Qw];have e:(((l.length+1:Nat):Int))*b=l.length*b+b:=by rw [Int.natCast_add,Int.add_mul];omega
  omega
def aj (l:List Int):Prop:=l.length<=8/\∀x∈l,0<=x/\Sz 160 x
theorem aj.sum {l:List Int} (h:aj l):0<=l.sum/\Sz 170 l.sum:=by
 have m:=mH (b:=2 ^ 160) (by decide) (l:=l) λx g=>⟨(h.2 x g).1,by
  have:=(h.2 x g).2;unfold Sz at this;have:=(h.2 x g).1
  omega⟩
 refine ⟨m.1,?_⟩;have p:=h.1;have:(l.length:Int)*2 ^ 160<=8*2 ^ 160:=Int.mul_le_mul_of_nonneg_right (by omega) (by decide);unfold Sz;have e:(8:Int)*2 ^ 160<2 ^ 170:=by decide+kernel
 omega
theorem rN {l:List Int} (h:aj l):SzC 170 (yx l):=by
 refine ⟨⟨h.sum.2,by show Sz 170 1;unfold Sz;decide⟩,λq m=>?_⟩;obtain ⟨x,g,rfl⟩:=Qj.mp m;exact ⟨Sz.mono (h.2 x g).2 (by decide),by show Sz 170 1;unfold Sz;decide⟩
theorem ClOk.am {l:List Cl} (h:ClOk 160 l):aj (amV l):=by
 refine ⟨by rw [xD];exact h.few,λx m=>?_⟩;obtain ⟨c,g,rfl⟩:=Qj.mp m;exact ⟨(h.nn c g).1,h.sz c g⟩
theorem aj.min {as:List Int} {l:Int} (h:aj as) (m:0<=l):aj (VG as l)/\aj (UZ as l):=by
 refine ⟨⟨by unfold VG;rw [Qa];exact h.1,λx g=>?_⟩,⟨by unfold UZ;rw [Qa];exact h.1,λx g=>?_⟩⟩
 ·obtain ⟨a,ha,rfl⟩:=Qj.mp g;have:=h.2 a ha;exact ⟨by omega,Ht (by omega) (by omega) this.2⟩
 ·obtain ⟨a,ha,rfl⟩:=Qj.mp g;have:=h.2 a ha;exact ⟨by omega,Ht (by omega) (by omega) this.2⟩
section
variable {as ls:List Int}
theorem LvOk.szE (h:LvOk as ls) (i:aj as):∀c∈evP as ls,SzC 170 c:=λc m=>by
 obtain ⟨l,g,rfl⟩:=Qj.mp m;exact rN (i.min (h.nnL l g)).1
theorem LvOk.szL (h:LvOk as ls) (i:aj as):∀c∈loP as ls,SzC 170 c:=λc m=>by
 obtain ⟨l,g,rfl⟩:=Qj.mp m;exact rN (i.min (h.nnL l (jbR.mp g))).2
theorem LvOk.inE (h:LvOk as ls) (i:aj as):PathIn (evP as ls):=by
 obtain ⟨r,m⟩:=Ck h;have f:=h.few;have p:=i.1;exact ⟨by rw [m];simp,λc g=>(h.szE i c g).mono (by decide),λc g=>by rw [(tu as ls c g).1];omega,by unfold evP;rw [Qa];omega⟩
theorem LvOk.inL (h:LvOk as ls) (i:aj as):PathIn (loP as ls):=by
 obtain ⟨r,m⟩:=loP_ne h;have f:=h.few;have p:=i.1;exact ⟨by rw [m];simp,λc g=>(h.szL i c g).mono (by decide),λc g=>by rw [(BF as ls c g).1];omega,by unfold loP;rw [Qa,To];omega⟩
theorem qD:SzQ 2 ((1:Rat) / 2):=by unfold SzQ Sz;decide+kernel
theorem eD {a:List zg} (h:∀c∈a,SzC 170 c):∀c∈zP (1 / 2) a,SzC 172 c:=λc p=>by
 obtain ⟨d,hd,rfl⟩:=Qj.mp p;have:=h d hd;refine ⟨(this.1.mul qD).mono (by decide),λq m=>?_⟩;obtain ⟨x,g,rfl⟩:=Qj.mp m;exact ((this.2 x g).mul qD).mono (by decide)
theorem mR {a:List zg} (ok:PathIn a) (h:∀c∈a,SzC 170 c):PathIn (zP (1 / 2) a):=by
 refine ⟨λe=>ok.ne (List.map_eq_nil_iff.mp e),λc g=>(eD h c g).mono (by decide),λc g=>?_,by unfold zP;rw [Qa];exact ok.few⟩;obtain ⟨d,hd,rfl⟩:=Qj.mp g;rw [Qa];exact ok.len d hd
theorem LvOk.szH (h:LvOk as ls) (i:aj as):∀c∈hvP as ls,SzC 400 c:=λc r=>by
 have g:=eD (h.szE i);have sB:=eD (h.szL i)
 rcases QX.mp r with z|z
 ·exact (g c z).mono (by decide)
 ·obtain ⟨d,hd,rfl⟩:=Qj.mp z;have x:=g _ (qC h);have y:=sB d (TF hd);refine ⟨(x.1.add y.1).mono (by decide),λq m=>?_⟩;obtain ⟨j,p,e⟩:=TN m;have t:=p;simp only [qf,QO] at t
  have s:q=(lastC (hfA as ls)).2[j]'(by omega)+d.2[j]'(by omega):=by
   rw [<-e];simp only [qf,jal]
  rw [s];exact ((x.2 _ (Tu _)).add (y.2 _ (Tu _))).mono (by decide)
theorem LvOk.okH (h:LvOk as ls) (i:aj as):PathOk as.length (hvP as ls):=by
 have f:=h.few;have m:=i.1;refine ⟨λc g=>(h.szH i c g).mono (by decide),λc g=>(hv_ok h c g).1,by omega,?_⟩;unfold hvP hfA hfB xb zP evP loP;simp only [Qr,Qa,jaM,To];omega
end
theorem WX:∀(a:zg) (r:List zg),(ye a r).Sublist r
 |a,[]=>by rw [ye];exact jbf _
 |a,[b]=>by rw [ye];exact jbf _
 |a,b::c::r=>by
  rw [ye]
  split
  ·exact List.Sublist.cons _ (WX b (c::r))
  ·exact List.Sublist.cons₂ _ (WX b (c::r))
theorem ZC:∀r:List zg,(yv r).Sublist r
 |[]=>jbf _
 |c::r=>List.Sublist.cons₂ _ (WX c r)
section
variable {as ls:List Int}
end
theorem iteSY {a b:Str} {X Y:Prop} (g:a=b) (h:X):if decide (a=b)=true then X else Y:=Yc (λ_=>h) λn=>absurd g n
theorem iteSN {a b:Str} {X Y:Prop} (g:¬a=b) (h:Y):if decide (a=b)=true then X else Y:=Yc (λy=>absurd y g) λ_=>h
section
variable {B G0 H:Hp} {cs:zY} {ds:Dat} {Q:VK} {E:XK} {v w u:V} {K:PySem.W.Frag}
def iB:Nat->Rl
 |0=> .shares
 |1=> .evenly
 |2=> .losses
 |_=> .halves
def jT:Sp:=spB (α:=List Cl) (λl=>[zo l]) (ClOk 160) (λ_=> .non)
theorem sf {l:List Cl} (S:Sta B G0 H cs ds) (h:Has ds (zo l) v) (ok:ClOk 160 l) (k:∀H',zH H H'->Sta B G0 H' cs ds->Q .non H'):jT [v] H Q E:=Gv l (S.hpAll (.cons h .nil)) ok λH' e=>k H' e (S.same e)
def spWC:Sp:=spT (α:=List Int) (λl=>[.list (l.map PyData.int)]) (λl=>l.length<=8) (λl=>zG (yx l))
theorem HI {l:List Int} (S:Sta B G0 H cs ds) (h:Has ds (.list (l.map PyData.int)) v) (ok:l.length<=8) (k:∀w H',zH H H'->Sta B G0 H' cs ((zG (yx l),w)::ds)->Q w H'):spWC [v] H Q E:=Zg l S (.cons h .nil) ok k
def WD:Sp:=spL (α:=Nat) (λn=>[.int (n:Int)]) (λn=>n<=8) (λn=>[yx (Ww n)].map zG)
theorem aO {n:Nat} (S:Sta B G0 H cs ds) (ok:n<=8) (k:∀p H',zH H H'->Sta B G0 H' ((p,[yx (Ww n)].map zG)::cs) ds->Q (.ref p) H'):WD [.int (n:Int)] H Q E:=Zm n S (.cons Has.int .nil) ok k
noncomputable def flV (k:Nat) (l:List Cl):List zg:=IQ (amV l) (lvV (amV l)) k
noncomputable def bY (k:Nat):Sp:=spL (α:=List Cl) (λl=>[zo l]) (ClOk 160) (λl=>(flV k l).map zG)
theorem aQ {n:Nat} {l:List Cl} (S:Sta B G0 H cs ds) (h:Has ds (zo l) v) (ok:ClOk 160 l) (k:∀p H',zH H H'->Sta B G0 H' ((p,(flV n l).map zG)::cs) ds->Q (.ref p) H'):bY n [v] H Q E:=Zm l S (.cons h .nil) ok k
theorem ClOk.lv {l:List Cl} (h:ClOk 160 l):LvOk (amV l) (lvV (amV l)):=WU λa ha=>(h.am.2 a ha).1
noncomputable def Wz (p:Rat) (a b:List zg):List zg:=yv (zP p a++xb (zP p a) (zP (1 - p) b))
structure UpOk (p:Rat) (a b:List zg):Prop where
 sz:SzQ 1000 p
 pa:PathIn a
 pb:PathIn b
 sa:PathIn (zP p a)
 sb:PathIn (zP (1 - p) b)
 m:∃m,PathOk m (zP p a++xb (zP p a) (zP (1 - p) b))
noncomputable def wQ:Sp:=spL (α:=Rat×List zg×List zg) (λa=>[frD a.1,yy a.2.1,yy a.2.2]) (λa=>UpOk a.1 a.2.1 a.2.2) (λa=>(Wz a.1 a.2.1 a.2.2).map zG)
theorem Ay {p:Rat} {a b:List zg} (S:Sta B G0 H cs ds) (m:Has ds (frD p) u) (h:Has ds (yy a) v) (g:Has ds (yy b) w) (ok:UpOk p a b) (k:∀q H',zH H H'->Sta B G0 H' ((q,(Wz p a b).map zG)::cs) ds->Q (.ref q) H'):wQ [u,v,w] H Q E:=Zm (p,a,b) S (.cons m (.cons h (.cons g .nil))) ok k
theorem up_ok {l:List Cl} (h:ClOk 160 l):UpOk (1 / 2) (flV 1 l) (flV 2 l):=by
 have L:=h.lv;have e:(1:Rat) - 1 / 2=1 / 2:=by decide+kernel
 refine ⟨qD.mono (by decide),L.inE h.am,L.inL h.am,mR (L.inE h.am) (L.szE h.am),?_,(amV l).length,?_⟩
 ·rw [e];exact mR (L.inL h.am) (L.szL h.am)
 ·rw [e];exact L.okH h.am
theorem wF (l:List Cl):Wz (1 / 2) (flV 1 l) (flV 2 l)=flV 3 l:=by
 have e:(1:Rat) - 1 / 2=1 / 2:=by decide+kernel
 unfold Wz;rw [e];rfl
end
def lD (n:Int):List Int:=if n % 5=0 then [7,10,2] else if n % 5=1 then [10 ^ 40+5,9,30] else if n % 5=2 then [2024,10 ^ 20,100] else [0,1,2]
theorem BM (n i:Int):∃x,0<=x/\atI ((lD n).map PyData.int) (i % 3)=some (.int x):=by
 have g:i % 3=0\/i % 3=1\/i % 3=2:=by omega
 unfold lD
 split
 ·rcases g with h|h|h<;>rw [h]<;>exact ⟨_,by decide,rfl⟩
 ·split
  ·rcases g with h|h|h<;>rw [h]<;>exact ⟨_,by decide,rfl⟩
  ·split
   ·rcases g with h|h|h<;>rw [h]<;>exact ⟨_,by decide,rfl⟩
   ·rcases g with h|h|h<;>rw [h]<;>exact ⟨_,by decide,rfl⟩
section
variable {B G0 H:Hp} {cs:zY} {ds:Dat} {Q:VK} {E:XK} {v w u:V} {K:PySem.W.Frag} {xs ys:List PyData} {R:It->Hp->Prop}
theorem DY (S:Sta B G0 H cs ds) (h:Has ds (.list xs) v) (m:Has ds (.list ys) w) (k:∀J,Wk B G0 J (wb xs ys) (λcs ds=>Has ds (.list xs) v/\(∀x u,Has ds (.list ys) w->Has ((x,u)::ds) (.list ys) w)/\Has ds (.list ys) w)->R J H):kZi true true K R [v,w] H:=by
 obtain ⟨p,vs,rfl,hp,_⟩:=S.lst h;obtain ⟨q,ws,rfl,g,_⟩:=S.lst m;exact ⟨p,q,rfl,⟨_,SqL.of hp⟩,⟨_,SqL.of g⟩,k _ (wy Vj Vj)⟩
def jR:Sp:=spL (α:=Int) (λn=>[.int n]) (λ_=>True) (λn=>(lD n).map PyData.int)
theorem nC {n:Int} (S:Sta B G0 H cs ds) (k:∀p H',zH H H'->Sta B G0 H' ((p,(lD n).map PyData.int)::cs) ds->Q (.ref p) H'):jR [.int n] H Q E:=Zm n S (.cons Has.int .nil) trivial k
end
def subV (x y:List Rat):List Rat:=List.zipWith (· - ·) x y
def EC (p:Rat) (x:List Rat):List Rat:=x.map (·*p)
theorem wN {x y:List Rat} {i:Nat} {z:Rat} (h:(subV x y)[i]? =some z):∃a b,x[i]? =some a/\y[i]? =some b/\z=a - b:=by
 unfold subV at h;rw [QP] at h
 cases e:x[i]? with
 |none=>rw [e] at h;cases h
 |some a=>
  cases e2:y[i]? with
  |none=>rw [e,e2] at h;cases h
  |some b=>rw [e,e2] at h;exact ⟨a,b,rfl,rfl,(QK h).symm⟩
theorem jF {x y:List Rat} {i:Nat} {a b:Rat} (h:x[i]? =some a) (g:y[i]? =some b):(subV x y)[i]? =some (a - b):=by
 unfold subV;rw [QP,h,g]
structure Std (m:Nat) (T:Rat) (as:List Rat) (P:List zg):Prop where
 rise:yO P
 ok:∀c∈P,c.2.length=m/\zU c.2=c.1
 head:P[0]? =some (0,List.replicate m 0)
 last:P.getLast? =some (T,as)
section
variable {m:Nat} {T:Rat} {as:List Rat} {P:List zg} {e:Rat}
theorem Std.lastC (h:Std m T as P):lastC P=(T,as):=by unfold S.lastC;rw [h.last];rfl
theorem Std.ne (h:Std m T as P):P≠[]:=λz=>by have:=h.head;rw [z] at this;cases this
theorem Std.cons (h:Std m T as P):∃r,P=(0,List.replicate m 0)::r:=by
 cases P with
 |nil=>exact absurd rfl h.ne
 |cons c r=>have:=h.head;cases this;exact ⟨r,rfl⟩
theorem Std.lenA (h:Std m T as P):as.length=m:=(h.ok _ (jak h.last)).1
theorem Std.sum (h:Std m T as P) (h0:0<=e):zU (zm P e)=mn e T:=by
 obtain ⟨r,g⟩:=h.cons;have:=DB r g h.rise h.ok h0;rw [h.lastC] at this;exact this
theorem Std.len (h:Std m T as P):(zm P e).length=m:=by
 obtain ⟨r,p⟩:=h.cons;have:=h.ok;rw [p] at this⊢;exact Yp λx g=>(this x g).1
theorem Std.past (h:Std m T as P) (he:T<=e):zm P e=as:=by
 obtain ⟨r,p⟩:=h.cons;have l:=h.lastC;have g:=h.rise;rw [p] at l g⊢;rw [fu g (by rw [l];exact he),l]
theorem Std.zero (h:Std m T as P):zm P 0=List.replicate m 0:=by
 obtain ⟨r,p⟩:=h.cons
 cases r with
 |nil=>rw [p];rfl
 |cons d r=>
  have g:=h.rise;have ok:=h.ok;rw [p] at g ok⊢;have lt:=(Qm.mp g).1 d (Qc ..);rw [zm,QH lt];have:=bx (c:=((0:Rat),List.replicate m (0:Rat))) (d:=d) (by rw [QA,(ok d (Qf _ (Qc ..))).1]);exact this
end
def vi:List Int->Int
 |[]=>0
 |[a]=>a
 |a::l=>min a (vi l)
def amQ (l:List Cl):List Rat:=l.map λc=>(c.1:Rat)
section
variable {l:List Cl} {v:List Rat}
theorem xZ (l:List Cl):(amQ l).length=l.length:=Qa _
end
structure Good (r:Rl) (l:List Cl) (P:List zg):Prop where
 std:Std l.length (zU (amQ l)) (amQ l) P
section
variable {r x y:Rl} {l:List Cl} {P P':List zg}
theorem tm {m:Nat} {T:Rat} {as:List Rat} (h:Std m T as P):Std m T as (xq P):=by
 have p:=h.lastC;have g:=h.lenA;obtain ⟨r,u⟩:=h.cons
 have tz:gT (T,as) (T,as)=(0,List.replicate m 0):=by
  unfold gT;rw [show T - T=(0:Rat) by grind]
  congr 1
  apply jaX
  ·rw [QO,g,QA,jbs]
  ·intro i _ _;rw [jal,jaA]
   grind
 have t0:gT (T,as) (0,List.replicate m 0)=(T,as):=by
  unfold gT;dsimp only;rw [show T - (0:Rat)=T by grind]
  congr 1
  apply jaX
  ·rw [QO,g,QA,jbs]
  ·intro i _ _;rw [jal,jaA]
   grind
 have sub:∀{x y:List Rat},x.length=y.length->zU (List.zipWith (· - ·) x y)=zU x - zU y:=by
  intro x
  induction x with
  |nil=>intro y h;cases y with
   |nil=>rw [List.zipWith_nil_left,zU];grind
   |cons _ _=>simp at h
  |cons a x s=>intro y h;cases y with
   |nil=>simp at h
   |cons b y=>rw [jap,zU,zU,zU,s (by simpa using h)];grind
 have q:zU as=T:=(h.ok _ (jak h.last)).2;refine ⟨?_,λc t=>?_,?_,?_⟩
 ·unfold xq yO;rw [Tj,List.pairwise_reverse]
  exact h.rise.imp λ{c d} Kt=>by
   show (S.lastC P).1 - d.1<(S.lastC P).1 - c.1
   grind
 ·obtain ⟨d,hd,rfl⟩:=Qj.mp t;have ok:=h.ok d (jbR.mp hd);rw [p];refine ⟨?_,?_⟩
  ·show (List.zipWith _ as d.2).length=m;rw [QO,g,ok.1,jbs]
  ·show zU (List.zipWith _ as d.2)=T - d.1;rw [sub (by rw [g,ok.1]),q,ok.2]
 ·unfold xq;rw [Qi,<-List.head?_eq_getElem?,List.head?_reverse,h.last,p,<-tz];rfl
 ·unfold xq;rw [jaD,List.getLast?_reverse,p,List.head?_eq_getElem?,h.head];show some (gT (T,as) (0,List.replicate m 0))=_;rw [t0]
theorem Good.other (h:Good r l P):Good (.other r) l (xq P):=⟨tm h.std⟩
theorem WG {m:Nat} {T:Rat} {as:List Rat} {p:Rat} (hp:0<p) (h:Std m T as P):Std m (T*p) (EC p as) (zP p P):=by
 refine ⟨pT hp h.rise,λc g=>?_,?_,?_⟩
 ·obtain ⟨d,hd,rfl⟩:=Qj.mp g;have:=h.ok d hd;exact ⟨by rw [Qa];exact this.1,by rw [Vh,this.2]⟩
 ·unfold zP;rw [Qi,h.head];show some ((0:Rat)*p,(List.replicate m (0:Rat)).map (·*p))=_;rw [jbX,jaK,jbX]
 ·unfold zP;rw [jaD,h.last];rfl
theorem lW {m:Nat} {T C:Rat} {as D:List Rat} (h:Std m T as P) (h':Std m C D P'):Std m (T+C) (List.zipWith (·+·) as D) (P++xb P P'):=by
 have s:=h.lastC;obtain ⟨I,p⟩:=h'.cons;have q:=h.lenA;have mem:(T,as)∈P:=jak h.last;have H:=(h.ok _ mem).2;refine ⟨?_,λc u=>?_,?_,?_⟩
 ·refine TC.mpr ⟨h.rise,?_,λc u d hd=>?_⟩
  ·unfold xb;rw [Tj];refine jby (λ{a b} Le=>?_) (jaZ (List.tail_sublist P') h'.rise);show (S.lastC P).1+a.1<(S.lastC P).1+b.1
   grind
  ·obtain ⟨d',E,rfl⟩:=Qj.mp hd
   have M:c.1<=T:=by
    obtain ⟨i,J,rfl⟩:=TN u;have G:=h.last;rw [jaF] at G;obtain ⟨K,A⟩:=Qg.mp G
    by_cases z:i=P.length - 1
    ·subst z;rw [A];exact QY
    ·have:=Tf.mp h.rise i (P.length - 1) J K (by omega);rw [A] at this;exact QV this
   have L:0<d'.1:=by
    have w:=h'.rise;rw [p] at w E;exact (Qm.mp w).1 d' E
   show c.1<(S.lastC P).1+d'.1;rw [s];show c.1<T+d'.1
   grind
 ·rcases QX.mp u with z|z
  ·exact h.ok c z
  ·obtain ⟨d,hd,rfl⟩:=Qj.mp z;have ok:=h'.ok d (TF hd);rw [s];refine ⟨?_,?_⟩
   ·show (List.zipWith _ as d.2).length=m;rw [QO,q,ok.1,jbs]
   ·show zU (List.zipWith (·+·) as d.2)=T+d.1;rw [jD (by rw [q,ok.1]),ok.2];rw [show zU as=T from H]
 ·rw [jas (jaT.mpr h.ne),h.head]
 ·unfold xb
  have hz:List.zipWith (·+·) as (List.replicate m (0:Rat))=as:=by
   apply jaX
   ·rw [QO,q,QA,jbs]
   ·intro i _ _;rw [jal,jaA]
    grind
  cases I with
  |nil=>
   have g:=h'.last;rw [p] at g⊢;cases g;rw [List.tail_cons,jaY,jaR,h.last,hz,Rat.add_zero]
  |cons d t=>
   have g:=h'.last;rw [p,TM] at g;rw [p,List.tail_cons,List.getLast?_append,jaD,g,s];rfl
theorem sP {m:Nat} {T:Rat} {as:List Rat} (h:Std m T as P):Std m T as (yv P)/\∀e:Rat,0<=e->zm (yv P) e=zm P e:=by
 obtain ⟨r,g⟩:=h.cons;have sub:=ZC P
 have s:(yv P).getLast? =P.getLast? :=by
  rw [g];show ((0,List.replicate m 0)::ye (0,List.replicate m 0) r).getLast? =((0,List.replicate m 0)::r).getLast?
  have:∀(r:List zg) (a:zg),(ye a r).getLast? =r.getLast? :=by
   intro r
   induction r with
   |nil=>intro a;rw [ye]
   |cons b r q=>
    intro a
    cases r with
    |nil=>rw [ye]
    |cons c r=>
     rw [ye]
     split
     ·rw [q b,TM]
     ·rw [jbI,q b,TM,jbI];rfl
  rw [jbI,this,<-jbI]
 refine ⟨⟨jaZ sub h.rise,λc u=>h.ok c (sub.subset u),by rw [g];rfl,by rw [s];exact h.last⟩,λe h0=>?_⟩;have p:=h.rise;have ok:=h.ok;rw [g] at p ok⊢;exact lE p (λx t=>(ok x t).1) h0
theorem Good.upto {p:Rat} {t b:Int} (ep:p=Rat.divInt t b) (p0:0<p) (u:p<1) (nn:∀c∈l,0<=c.1) (m:Good x l P) (h:Good y l P'):Good (.upto t b x y) l (Wz p P P'):=by
 have g:0<1 - p:=by grind
 have s1:=WG p0 m.std;have s2:=WG g h.std;have s3:=lW s1 s2;have q:zU (amQ l)*p+zU (amQ l)*(1 - p)=zU (amQ l):=by grind
 have s:List.zipWith (·+·) (EC p (amQ l)) (EC (1 - p) (amQ l))=amQ l:=by
  unfold EC
  apply jaX
  ·simp
  ·intro i _ _;simp only [jal,List.getElem_map]
   grind
 rw [q,s] at s3;obtain ⟨k1,_⟩:=sP s3;exact ⟨k1⟩
end
theorem lX (l:List Cl):amQ l=(amV l).map λ(a:Int)=>(a:Rat):=by unfold amQ amV;rw [QI];rfl
theorem ZH (l:List Cl):zU (amQ l)=(((amV l).sum:Int):Rat):=by rw [lX,dO]
theorem dJ (l:List Cl):yx (amV l)=(zU (amQ l),amQ l):=by rw [ZH,lX];rfl
theorem IG {P:List zg} {c:zg} (ne:P≠[]) (h:lastC P=c):P.getLast? =some c:=by
 rw [<-h];unfold lastC;rw [Ta ne];rfl
section
variable {l:List Cl} {ls:List Int}
theorem Wb (h:LvOk (amV l) ls):Good .evenly l (evP (amV l) ls):=by
 obtain ⟨r,g⟩:=Ck h;refine ⟨⟨h.riseE,λc m=>by rw [<-xD];exact tu _ _ c m,by rw [g,dI,xD];rfl,IG (by rw [g];simp) (by rw [tw h,dJ])⟩⟩
theorem fW (h:LvOk (amV l) ls):Good .losses l (loP (amV l) ls):=by
 have g:=(Wb h).other;rw [dM h] at g;exact ⟨g.std⟩
theorem fV (nn:∀a∈amV l,0<=a):Good .shares l (shP (amV l)):=by
 have s0:=VI nn
 have std:Std l.length (zU (amQ l)) (amQ l) (shP (amV l)):=by
  have h:(amV l).sum=0->amQ l=List.replicate l.length 0:=λc=>by
   have:=DA nn c;rw [lX,<-xD,<-jbu];exact TQ λa ha=>by rw [this a ha];rfl
  unfold shP
  by_cases c:(amV l).sum=0
  ·rw [QH c];refine ⟨jax _ _,λx g=>?_,by rw [dI,xD];rfl,?_⟩
   ·rw [Qv.mp g];have:=Ur (Ww (amV l).length);rw [dH,xD] at this;rw [xD];exact this
   ·show some _=some _;rw [dI,xD,h c,Vg];rfl
  ·rw [QS c];refine ⟨?_,λx g=>?_,by rw [dI,xD];rfl,?_⟩
   ·refine Qm.mpr ⟨λd hd=>?_,jax _ _⟩;rw [Qv.mp hd,dI];exact aa (show 0<(amV l).sum by omega)
   ·rcases Qk.mp g with rfl|g
    ·have:=Ur (Ww (amV l).length);rw [dH,xD] at this;rw [xD];exact this
    ·rw [Qv.mp g,<-xD];exact Ur _
   ·show some _=some _;rw [dJ];rfl
 exact ⟨std⟩
theorem qE (h:LvOk (amV l) ls):Good .halves l (yv (hvP (amV l) ls)):=by
 have r:Rat.divInt 1 2=(1:Rat) / 2:=by decide+kernel
 have g:=Good.upto (p:=1 / 2) (t:=1) (b:=2) r.symm sU (by decide+kernel) (λc m=>h.nn _ (Qj.mpr ⟨c,m,rfl⟩)) (Wb h) (fW h)
 have q:Wz (1 / 2) (evP (amV l) ls) (loP (amV l) ls)=yv (hvP (amV l) ls):=by
  unfold Wz;rw [show (1:Rat) - 1 / 2=1 / 2 by decide+kernel];rfl
 rw [q] at g;exact ⟨g.std⟩
end
theorem xJ {t b:Int} (b0:b≠0):Rat.divInt t b*(b:Rat)=(t:Rat):=by
 have g:∀z:Int,(z:Rat)=Rat.divInt z 1:=λz=>by rw [<-Rat.num_divInt_den (z:Rat)];rfl
 rw [g b,g t,jbr,Int.mul_one];exact (Rat.divInt_eq_divInt_iff b0 (by decide)).mpr (by rw [Int.mul_one])
theorem fo {t b:Int} (h:ah t b):0<Rat.divInt t b/\Rat.divInt t b<1:=by
 obtain ⟨_,t0,m,_⟩:=h;have b0:(0:Rat)<(b:Rat):=aa (by omega);have e:=xJ (t:=t) (b:=b) (by omega);have p:=aa t0;have g:=qR m;generalize Rat.divInt t b=q at*
 constructor
 ·by_cases z:0<q
  ·exact z
  ·have:=UR (Tz.mp z) (QV b0)
   grind
 ·by_cases z:q<1
  ·exact z
  ·have:=UR (Tz.mp z) (QV b0)
   grind
def Yl (D:Int) (x:Rat):Prop:=∃k:Int,x*(D:Rat)=(k:Rat)
section
variable {D D':Int} {x y:Rat} {P P':List zg}
theorem Yl.mul (h:Yl D x) (n:Int):Yl (D*n) x:=by
 obtain ⟨k,g⟩:=h;exact ⟨k*n,by rw [jae,jae,<-Rat.mul_assoc,g]⟩
theorem Yl.mulL (h:Yl D x) (n:Int):Yl (n*D) x:=by rw [Int.mul_comm];exact h.mul n
theorem Yl.add (h:Yl D x) (g:Yl D y):Yl D (x+y):=by
 obtain ⟨k,m⟩:=h;obtain ⟨j,p⟩:=g;exact ⟨k+j,by rw [Rat.intCast_add,<-m,<-p];grind⟩
theorem Yl.sub (h:Yl D x) (g:Yl D y):Yl D (x - y):=by
 obtain ⟨k,m⟩:=h;obtain ⟨j,p⟩:=g;exact ⟨k - j,by rw [jbv,<-m,<-p];grind⟩
theorem Yl.port {t b:Int} (b0:b≠0) (h:Yl D x):Yl (b*D) (x*Rat.divInt t b):=by
 obtain ⟨k,g⟩:=h;refine ⟨k*t,?_⟩;have e:=xJ (t:=t) b0;rw [jae,jae,<-g,<-e]
 grind
theorem Yl.int (n:Int) (D:Int):Yl D (n:Rat):=⟨n*D,by rw [jae]⟩
theorem Yl.sz {m n:Nat} {T:Rat} (h:Yl D x) (w:0<D) (g:Sz m D) (x0:0<=x) (s:x<=T) (r:∃k:Int,T=(k:Rat)/\Sz n k):SzQ (n+m) x:=by
 obtain ⟨k,p⟩:=h;obtain ⟨t,rfl,q⟩:=r;have dp:=aa w
 have e:x=Rat.divInt k D:=by
  have A:=xJ (t:=k) (b:=D) (by omega);have:(x - Rat.divInt k D)*(D:Rat)=0:=by grind
  rcases Rat.mul_eq_zero.mp this with z|z
  ·grind
  ·rw [z] at dp;exact absurd dp jbS
 have k0:0<=k:=qS (by rw [<-p];exact jbA x0 (QV dp));have u:k<=t*D:=qS (by rw [<-p,jae];exact UR s (QV dp));rw [e];exact SzQ.divInt (Ht k0 u (q.mul g)) (g.mono (by omega)) (by omega)
theorem dG {f:Rat->Rat->Rat} {u v:List Rat} {z:Rat} (h:z∈List.zipWith f u v):∃a∈u,∃b∈v,z=f a b:=by
 obtain ⟨i,g,e⟩:=TN h;have m:=g;rw [QO] at m;rw [jal] at e;exact ⟨_,Tu (by omega),_,Tu (by omega),e.symm⟩
theorem nX (ne:P≠[]):lastC P∈P:=by
 unfold lastC;rw [Ta ne];exact List.getLast_mem ne
theorem Ih {t b:Int} (b0:b≠0):1 - Rat.divInt t b=Rat.divInt (b - t) b:=by
 have h:=xJ (t:=t) b0;have g:=xJ (t:=b - t) b0;have bn:((b:Int):Rat)≠0:=λz=>b0 (Rat.intCast_inj.mp (by rw [z];rfl))
 have:(1 - Rat.divInt t b - Rat.divInt (b - t) b)*(b:Rat)=0:=by
  rw [jbv] at g
  grind
 rcases Rat.mul_eq_zero.mp this with z|z
 ·grind
 ·exact absurd z bn
end
section
variable {r x y:Rl} {l:List Cl} {P P':List zg}
theorem Std.at_corner {m:Nat} {T:Rat} {as:List Rat} (h:Std m T as P) {c:zg} (q:c∈P):zm P c.1=c.2:=by
 obtain ⟨i,g,rfl⟩:=TN q;have p:=Qe g
 cases hn:P[i+1]? with
 |none=>
  have:=UO (E:=P[i].1) h.rise p QY (.inl (by have:=jbc.mp hn;omega));rw [hn] at this;exact this
 |some d=>
  have hd:=Qg.mp hn;have lt:=Tf.mp h.rise i (i+1) g hd.1 (by omega);rw [hd.2] at lt;have:=UO (E:=P[i].1) h.rise p QY (.inr ⟨d,hn,lt⟩);rw [hn] at this;rw [this];exact bx (by rw [(h.ok _ (Tu g)).1,(h.ok d (Qb hn)).1])
theorem Std.range {m:Nat} {T:Rat} {as:List Rat} (h:Std m T as P) {c:zg} (g:c∈P):0<=c.1/\c.1<=T:=by
 have h0:0<=c.1:=by
  obtain ⟨r,q⟩:=h.cons;have p:=h.rise;rw [q] at p g
  rcases Qk.mp g with rfl|g
  ·exact QY
  ·exact QV ((Qm.mp p).1 c g)
 refine ⟨h0,?_⟩;have s:=h.sum h0;rw [h.at_corner g,(h.ok c g).2] at s;unfold mn at s
 split at s
 ·assumption
 ·rw [s];exact QY
theorem ZA:∀{v:List Rat},(∀q∈v,0<=q)->0<=zU v/\∀q∈v,q<=zU v
 |[],_=>⟨by rw [zU];exact QY,λq g=>absurd g Qx⟩
 |a::v,h=>by
  have ha:=h a (Qc ..);obtain ⟨p,m⟩:=ZA (v:=v) λq g=>h q (Qf _ g);rw [zU];refine ⟨by grind,λq g=>?_⟩
  rcases Qk.mp g with rfl|g
  ·grind
  ·have:=m q g;grind
end
end S
namespace S
open PySem PySem.Spec PyProof.Rows L2
section
variable {r x y:Rl} {t b:Int} {l:List Cl}
theorem Eb (h:ah t b):PyData.tuple [.int t, .int b]=frD (Rat.divInt t b):=by
 have b0:0<b:=by have:=h.2.1;have:=h.2.2.1;omega
 have l:=WV (a:=t) b0;unfold frD;rw [<-l.1,<-l.2,h.2.2.2];rw [show (((1:Nat):Int))=1 from rfl,Int.fdiv_one,Int.fdiv_one]
theorem HW (h:ah t b):SzQ 210 (Rat.divInt t b):=SzQ.divInt h.1.1 h.1.2 (by have:=h.2.1;have:=h.2.2.1;omega)
theorem aG {P:List zg} {m n:Nat} {p:Rat} (h:∀c∈P,SzC n c) (hp:SzQ m p):∀c∈zP p P,SzC (n+m) c:=λc u=>by
 obtain ⟨d,hd,rfl⟩:=Qj.mp u;have:=h d hd;refine ⟨this.1.mul hp,λq s=>?_⟩;obtain ⟨x,g,rfl⟩:=Qj.mp s;exact (this.2 x g).mul hp
end
section
variable {B G0 H:Hp} {cs:zY} {ds:Dat} {Q:VK} {E:XK} {v w u:V} {K:PySem.W.Frag}
end
end S
namespace S
open PySem PySem.Spec PyProof.Rows L2
structure Small (t b:Int):Prop where
 port:ah t b
 le:b<=61
section
variable {B G0 H:Hp} {cs:zY} {ds:Dat} {Q:VK} {E:XK} {v w u:V} {K:PySem.W.Frag}
def pP:Sp:=λvs H Q _=>∃(G:Hp) (c:Int),vs=[.int c]/\zH G H/\∀v H' G' (t b:Int),Grow G H G' H'->Is G' (.tuple [.int t, .int b]) v->Small t b->Q v H'
theorem DU {c:Int} (S:Sta B G0 H cs ds) (k:∀v H' (t b:Int),Small t b->zH H H'->Sta B G0 H' cs ((.tuple [.int t, .int b],v)::ds)->Q v H'):pP [.int c] H Q E:=by
 obtain ⟨G,S⟩:=S;refine ⟨G,c,rfl,S.2.1,λv H' y t b gr g good=>k v H' t b good gr.h ?_⟩;obtain ⟨s,r,q,d',p,m,g'⟩:=S.grow gr;exact ⟨y,s,r,q,d',p,m,g'.cons g⟩
theorem Aw {G H':Hp} {t b:Int} (S:Sta H G H' cs ds) (k:∀v H' g (t b:Int),Grow G H g H'->Is g (.tuple [.int t, .int b]) v->Small t b->Q v H') (h:Has ds (.tuple [.int t, .int b]) v) (m:Small t b):Q v H':=by
 obtain ⟨g,gr,al⟩:=S.leave;exact k v H' g t b gr (h g al) m
end
theorem pH {m:Nat} {a b c y:zg} (D:b.1<c.1) (p:b.2.length=m) (lc:c.2.length=m) (t:zN a b c) (s:zN b c y):zN a b y:=λi A B Y r g q=>by
 have E:i<m:=by rw [<-p];exact (Qg.mp g).1
 have h:=Qe (l:=c.2) (i:=i) (by omega);have G:=t i A B _ r g h;have z:=s i B _ Y g h q;generalize c.2[i]=C at*;have w:(B - A)*(c.1 - b.1)=(C - B)*(b.1 - a.1):=by grind
 have u:((B - A)*(y.1 - a.1) - (Y - A)*(b.1 - a.1))*(c.1 - b.1)=0:=by
  have:((B - A)*(y.1 - a.1) - (Y - A)*(b.1 - a.1))*(c.1 - b.1)=((B - A)*(c.1 - b.1))*(y.1 - a.1) - ((Y - B)*(c.1 - b.1))*(b.1 - a.1) - ((B - A)*(c.1 - b.1))*(b.1 - a.1):=by grind
  rw [this,w,<-z];grind
 have:=zV u (Zl D)
 grind
theorem mJ {m:Nat} {k a b c:zg} (z:k.1<b.1) (q:a.2.length=m) (lk:k.2.length=m) (t:zN k a b) (s:zN k b c):zN a b c:=λi A B C p h r=>by
 have D:i<m:=by rw [<-q];exact (Qg.mp p).1
 have g:=Qe (l:=k.2) (i:=i) (by omega);have G:=t i _ A B g p h;have E:=s i _ B C g h r;generalize k.2[i]=K at*;have y:(B - A)*(b.1 - k.1)=(B - K)*(b.1 - a.1):=by grind
 have w:(C - A)*(b.1 - k.1)=(B - K)*(c.1 - a.1):=by grind
 have u:((B - A)*(c.1 - a.1) - (C - A)*(b.1 - a.1))*(b.1 - k.1)=0:=by
  have:((B - A)*(c.1 - a.1) - (C - A)*(b.1 - a.1))*(b.1 - k.1)=((B - A)*(b.1 - k.1))*(c.1 - a.1) - ((C - A)*(b.1 - k.1))*(b.1 - a.1):=by grind
  rw [this,y,w];grind
 have:=zV u (Zl z)
 grind
theorem Thn.cons {k:zg} {F:List zg} (h:Thn F) (h0:∀y z t,F=y::z::t->¬zN k y z):Thn (k::F)
 |0,x,y,z,m,g,hz=>by
  match F,h0,g,hz with
  |[],_,g,_=>simp at g
  |[_],_,_,hz=>simp at hz
  |a::b::t,h0,g,hz=>
   simp at m g hz;subst m;subst g;subst hz;exact h0 _ _ t rfl
 |i+1,x,y,z,m,g,hz=>h i x y z (by simpa using m) (by simpa using g) (by simpa using hz)
theorem fR {m:Nat}:∀(r:List zg) (k a b:zg),yO (k::b::r)->(∀x∈k::b::r,x.2.length=m)->(a=k\/(k.1<a.1/\a.1<b.1/\a.2.length=m/\zN k a b))->
 Thn (k::ye a (b::r))/\∃y t,ye a (b::r)=y::t/\(y=b\/(b.1<y.1/\y.2.length=m/\zN a b y))
 |[],k,a,b,_,_,_=>by
  rw [ye];exact ⟨λi x y z _ _ hz=>by simp at hz,b,[],rfl, .inl rfl⟩
 |c::r,k,a,b,hr,hl,ha=>by
  obtain ⟨E,D⟩:=Qm.mp hr;obtain ⟨J,I⟩:=Qm.mp D;have G:=E b (Qc ..);have h:=J c (Qc ..);have lk:=hl k (Qc ..);have q:=hl b (Qf _ (Qc ..));have lc:=hl c (Qf _ (Qf _ (Qc ..)));rw [ye]
  split
  ·rename_i st
   have K:zN k b c:=by
    rcases ha with rfl|⟨_,H,u,s0⟩
    ·exact st
    ·exact bX H lk u s0 st
   have rk:yO (k::c::r):=Qm.mpr ⟨λx g=>E x (Qf _ g),I⟩
   obtain ⟨A,y,t,e,w⟩:=fR r k b c rk (λx g=>hl x (by
    rcases Qk.mp g with rfl|g
    ·exact Qc ..
    ·exact Qf _ (Qf _ g))) (.inr ⟨G,h,q,K⟩)
   refine ⟨A,y,t,e, .inr ?_⟩
   rcases w with rfl|⟨C,p,s⟩
   ·exact ⟨h,lc,st⟩
   ·exact ⟨xk h C,p,pH h q lc st s⟩
  ·rename_i st;obtain ⟨A,y,t,e,w⟩:=fR r b b c D (λx g=>hl x (Qf _ g)) (.inl rfl);refine ⟨A.cons λL z t' ez=>?_,b,_,rfl, .inl rfl⟩;rw [e] at ez;cases ez;intro s
   have s1:zN k b c:=by
    rcases w with rfl|⟨C,p,s2⟩
    ·exact s
    ·exact jG (xk h C) q p s2 s
   rcases ha with rfl|⟨_,H,u,s0⟩
   ·exact st s1
   ·exact st (mJ G u lk s0 s1)
theorem nY {m:Nat} {L:List zg} (hr:yO L) (g:∀x∈L,x.2.length=m):Thn (yv L):=by
 match L,hr,g with
 |[],_,_=>exact λi x y z p=>by simp [yv] at p
 |[c],_,_=>exact λi x y z _ h=>by simp [yv,ye] at h
 |c::b::r,hr,g=>exact (fR r c c b hr g (.inl rfl)).1
def Mon (P:List zg):Prop:=P.Pairwise λc d=>LeV c.2 d.2
structure Ful (m:Nat) (T:Rat) (as:List Rat) (P:List zg):Prop where
 std:Std m T as P
 mono:Mon P
 thin:Thn P
section
variable {m:Nat} {T T':Rat} {as NG:List Rat} {P P':List zg}
theorem Ful.pm (h:Ful m T as P):PathM m P:=⟨⟨h.std.rise,λc g=>(h.std.ok c g).1,h.thin⟩,λc g=>(h.std.ok c g).2,h.mono⟩
theorem LeV.refl (x:List Rat):LeV x x:=λi a b ha g=>by rw [ha] at g;cases g;exact QY
theorem Std.le_last (h:Std m T as P) (mo:Mon P):∀c∈P,LeV c.2 as:=λc r=>by
 obtain ⟨i,q,rfl⟩:=TN r;have p:=h.last;rw [jaF] at p;obtain ⟨s,g⟩:=Qg.mp p
 by_cases z:i=P.length - 1
 ·subst z;rw [g];exact LeV.refl _
 ·have:=Tf.mp mo i (P.length - 1) q s (by omega);rw [g] at this;exact this
theorem Std.nn (h:Std m T as P) (mo:Mon P):∀c∈P,∀(i:Nat) (a:Rat),c.2[i]? =some a->0<=a:=λc g i a ha=>by
 obtain ⟨r,p⟩:=h.cons;have q:=(h.ok c g).1;rw [p] at g mo
 rcases Qk.mp g with rfl|g
 ·have:=(Qg.mp ha).2;rw [jaA] at this;rw [<-this];exact QY
 ·refine (Qm.mp mo).1 c g i 0 a ?_ ha;have:=(Qg.mp ha).1;rw [QL,QH (by omega)]
theorem Ful.turned (h:Ful m T as P):Ful m T as (xq P):=by
 have E:=h.std.lastC;have C:=h.std.lenA;refine ⟨tm h.std,?_,λi x y z t s hz st=>?_⟩
 ·unfold Mon xq;rw [Tj,List.pairwise_reverse];refine jby (λ{c d} Kt=>?_) h.mono;intro i a b ha g;obtain ⟨a1,a2,J,I,rfl⟩:=wN (x:=(lastC P).2) (y:=d.2) ha;obtain ⟨L,K,f1,f2,rfl⟩:=wN (x:=(lastC P).2) (y:=c.2) g;rw [J] at f1;cases f1;have:=Kt i K a2 f2 I
  grind
 ·unfold xq at t s hz;obtain ⟨x,r,rfl⟩:=ya t;obtain ⟨y,u,rfl⟩:=ya s;obtain ⟨z,q,rfl⟩:=ya hz;have D:=(Qg.mp q).1;rw [To] at D;rw [List.getElem?_reverse (by omega)] at r u q;have w:=(h.std.ok x (Qb r)).1;refine h.thin (P.length - 1 - (i+2)) z y x q (by rw [<-u];congr 1;omega) (by rw [<-r];congr 1;omega) ?_;rw [E] at st;intro j c b a H g ha;have G:j<as.length:=by rw [C,<-w];exact (Qg.mp ha).1
  have p:=Qe G;have:=st j (as[j] - a) (as[j] - b) (as[j] - c) (jF p ha) (jF p g) (jF p H);generalize as[j]=A at*;have e:(A - b - (A - a))*(T - z.1 - (T - x.1))=(A - c - (A - a))*(T - y.1 - (T - x.1)):=this
  grind
theorem Ful.scaled {p:Rat} (hp:0<p) (h:Ful m T as P):Ful m (T*p) (EC p as) (zP p P):=by
 have q:∀{x:List Rat} {i:Nat} {a:Rat},(x.map (·*p))[i]? =some a->∃b,x[i]? =some b/\a=b*p:=λ{x i a} ha=>by
  rw [Qi] at ha
  cases e:x[i]? with
  |none=>rw [e] at ha;cases ha
  |some b=>rw [e] at ha;cases ha;exact ⟨b,rfl,rfl⟩
 refine ⟨WG hp h.std,?_,λi x y z t s hz st=>?_⟩
 ·unfold Mon zP;rw [Tj];refine jby (λ{c d} Kt=>?_) h.mono;intro i a b ha r;obtain ⟨A,D,rfl⟩:=q ha;obtain ⟨w,H,rfl⟩:=q r;exact UR (Kt i A w D H) (QV hp)
 ·unfold zP at t s hz;obtain ⟨x,G,rfl⟩:=ya t;obtain ⟨y,E,rfl⟩:=ya s;obtain ⟨z,C,rfl⟩:=ya hz;refine h.thin i x y z G E C ?_;intro j a b c ha r u;have g:∀{x:List Rat} {a:Rat},x[j]? =some a->(x.map (·*p))[j]? =some (a*p):=λ{x a} h=>by rw [Qi,h];rfl
  have:=st j (a*p) (b*p) (c*p) (g ha) (g r) (g u);have e:(b*p - a*p)*(z.1*p - x.1*p)=(c*p - a*p)*(y.1*p - x.1*p):=this
  have pn:p*p≠0:=λz=>by
   have:=jbV hp hp;rw [z] at this;exact absurd this jbS
  have:=zV (a:=(b - a)*(z.1 - x.1) - (c - a)*(y.1 - x.1)) (b:=p*p) (by grind) pn
  grind
theorem FW (h:Std m T as P) (mo:Mon P) (h':Std m T' NG P') (r:Mon P'):Mon (P++xb P P'):=by
 have s:=h.lastC;refine TC.mpr ⟨mo,?_,λc t d hd=>?_⟩
 ·unfold xb;rw [Tj];refine jby (λ{a b} Le=>?_) (jaZ (List.tail_sublist P') r);intro i x y p g;unfold qf at p g;dsimp only at p g;rw [QP] at p g
  cases e0:(lastC P).2[i]? with
  |none=>rw [e0] at p;cases p
  |some q=>
   cases e1:a.2[i]? with
   |none=>rw [e0,e1] at p;cases p
   |some u=>
    cases e2:b.2[i]? with
    |none=>rw [e0,e2] at g;cases g
    |some v=>
     rw [e0,e1] at p;rw [e0,e2] at g;cases p;cases g;have:=Le i u v e1 e2
     grind
 ·obtain ⟨d',z,rfl⟩:=Qj.mp hd;have w:=TF z;intro i x y p g;unfold qf at g;dsimp only at g;rw [s,QP] at g
  cases e0:as[i]? with
  |none=>dsimp only at g;rw [e0] at g;cases g
  |some q=>
   cases e1:d'.2[i]? with
   |none=>dsimp only at g;rw [e0,e1] at g;cases g
   |some u=>
    dsimp only at g;rw [e0,e1] at g;cases g;have C:=h.le_last mo c t i x q p e0;have A:=h'.nn r d' w i u e1
    grind
theorem jr (h:Std m T as P) (mo:Mon P) (h':Std m T' NG P') (p:Mon P'):Ful m (T+T') (List.zipWith (·+·) as NG) (yv (P++xb P P')):=by
 have s:=lW h h';obtain ⟨k1,_⟩:=sP s;exact ⟨k1,jaZ (ZC _) (FW h mo h' p),nY s.rise λx g=>(s.ok x g).1⟩
end
section
variable {l:List Cl} {ls as:List Int}
theorem IT (as:List Int) {ls:List Int} (h:ls.Pairwise (·<·)):Mon (evP as ls):=by
 unfold Mon evP;rw [Tj];refine jby (λ{a b} Le=>?_) h;intro i x y g m;unfold yx VG at g m;simp only [QI,Qi] at g m
 cases e:as[i]? with
 |none=>rw [e] at g;cases g
 |some q=>
  rw [e] at g m;cases g;cases m;show ((min q a:Int):Rat)<=((min q b:Int):Rat);exact jaq.mpr (by omega)
theorem IS (h:LvOk as ls):Thn (evP as ls):=λi x y z r p hz st=>by
 unfold evP at r p hz;obtain ⟨a,ha,rfl⟩:=ya r;obtain ⟨b,m,rfl⟩:=ya p;obtain ⟨c,s,rfl⟩:=ya hz
 have lt:∀{i j:Nat} {a b:Int},ls[i]? =some a->ls[j]? =some b->i<j->a<b:=λ{i j a b} ha m RE=>by
  obtain ⟨w,rfl⟩:=Qg.mp ha;obtain ⟨u,rfl⟩:=Qg.mp m;exact Tf.mp h.rise i j w u RE
 have ab:=lt ha m (by omega);have C:=lt m s (by omega);have a0:=h.nnL a (Qb ha)
 have bm:b∈as:=by
  rcases (h.mem b).mp (Qb m) with z|z
  ·omega
  ·exact z
 obtain ⟨j,A⟩:=Qu.mp bm
 have g:∀q:Int,(yx (VG as q)).2[j]? =some ((min b q:Int):Rat):=λq=>by
  unfold yx VG;simp only [QI,Qi,A];rfl
 have e:=st j _ _ _ (g a) (g b) (g c);have s1:=h.sumlt (Qb m) (Qb s) C;rw [show min b a=a by omega,show min b b=b by omega,show min b c=b by omega] at e;have E:((b:Rat) - (a:Rat))*((((VG as c).sum:Int):Rat) - (((VG as a).sum:Int):Rat))=((b:Rat) - (a:Rat))*((((VG as b).sum:Int):Rat) - (((VG as a).sum:Int):Rat)):=e;have D:=qR ab;have t:=qR s1;have:=jbV (show (0:Rat)<(b:Rat) - (a:Rat) by grind) (show (0:Rat)<(((VG as c).sum:Int):Rat) - (((VG as b).sum:Int):Rat) by grind)
 grind
theorem Vv (h:LvOk (amV l) ls):Ful l.length (zU (amQ l)) (amQ l) (evP (amV l) ls):=⟨(Wb h).std,IT _ h.rise,IS h⟩
theorem jn (h:LvOk (amV l) ls):Ful l.length (zU (amQ l)) (amQ l) (loP (amV l) ls):=by
 have:=(Vv h).turned;rwa [dM h] at this
theorem vJ (nn:∀a∈amV l,0<=a):Ful l.length (zU (amQ l)) (amQ l) (shP (amV l)):=by
 have s:=(fV nn).std;refine ⟨s,?_,λi x y z _ _ hz=>?_⟩
 ·obtain ⟨r,m⟩:=s.cons;have ok:=s.ok;unfold shP at m ok⊢
  split
  ·exact jax _ _
  ·refine Qm.mpr ⟨λd hd=>?_,jax _ _⟩;rw [Qv.mp hd,dI];intro i a b ha g;have h:=(Qg.mp ha).2;rw [jaA] at h;unfold yx at g;simp only [Qi] at g
   cases e:(amV l)[i]? with
   |none=>rw [e] at g;cases g
   |some q=>
    rw [e] at g;cases g;rw [<-h];exact Cv (nn q (Qb e))
 ·unfold shP at hz
  split at hz<;>simp at hz
theorem tj {P g:List zg} {p:Rat} (p0:0<p) (s:p<1) (m:Ful l.length (zU (amQ l)) (amQ l) P) (h:Ful l.length (zU (amQ l)) (amQ l) g):Ful l.length (zU (amQ l)) (amQ l) (Wz p P g):=by
 have s1:=m.scaled p0;have s2:=h.scaled (p:=1 - p) (by grind);have:=jr s1.std s1.mono s2.std s2.mono;have q:zU (amQ l)*p+zU (amQ l)*(1 - p)=zU (amQ l):=by grind
 have r:List.zipWith (·+·) (EC p (amQ l)) (EC (1 - p) (amQ l))=amQ l:=by
  unfold EC
  apply jaX
  ·simp
  ·intro i _ _;simp only [jal,List.getElem_map]
   grind
 rw [q,r] at this;exact this
theorem vK (h:LvOk (amV l) ls):Ful l.length (zU (amQ l)) (amQ l) (yv (hvP (amV l) ls)):=by
 have g:=tj (p:=1 / 2) sU (by decide+kernel) (Vv h) (jn h)
 have m:Wz (1 / 2) (evP (amV l) ls) (loP (amV l) ls)=yv (hvP (amV l) ls):=by
  unfold Wz;rw [show (1:Rat) - 1 / 2=1 / 2 by decide+kernel];rfl
 rw [m] at g;exact g
end
def xP:List (Rat×Nat)->List Rat->List Rat
 |[],w=>w
 |(p,i)::r,w=>xP r (w.set i p)
def yL (pl:List Nat) (n:Nat) (v:List Rat):List Rat:=xP (v.zip pl) (List.replicate n 0)
theorem aF:∀(z:List (Rat×Nat)) (w:List Rat),(xP z w).length=w.length
 |[],w=>rfl
 |(p,i)::r,w=>by rw [xP,aF r,jaS]
theorem VX {j:Nat}:∀(z:List (Rat×Nat)) (w:List Rat),(∀x∈z,x.2≠j)->(xP z w)[j]? =w[j]?
 |[],w,_=>rfl
 |(p,i)::r,w,h=>by
  rw [xP,VX r _ λx g=>h x (Qf _ g),jbd (h (p,i) (Qc ..))]
theorem iT {p:Rat} {j:Nat}:∀(z:List (Rat×Nat)) (w:List Rat),(z.map (·.2)).Nodup->(p,j)∈z->j<w.length->(xP z w)[j]? =some p
 |[],w,_,h,_=>absurd h Qx
 |(q,i)::r,w,nd,h,hj=>by
  rw [Qp,TK] at nd;rw [xP]
  rcases Qk.mp h with e|h
  ·cases e;rw [VX r _ λx g e=>nd.1 (Qj.mpr ⟨x,g,e⟩),List.getElem?_set_self hj]
  ·exact iT r _ nd.2 h (by rw [jaS];exact hj)
theorem wt {v:List Rat} {pl:List Nat} (h:v.length=pl.length):(v.zip pl).map (·.2)=pl:=by
 have:(v.zip pl).map Prod.snd=pl:=List.map_snd_zip (by omega);exact this
structure Pls (n:Nat) (pl:List Nat):Prop where
 nd:pl.Nodup
 lt:∀i∈pl,i<n
section
variable {n m:Nat} {pl:List Nat} {v u:List Rat}
theorem Yn (pl:List Nat) (n:Nat) (v:List Rat):(yL pl n v).length=n:=by unfold yL;rw [aF,QA]
theorem iP (h:Pls n pl) (g:v.length=pl.length) {p:Rat} {i:Nat} (hm:(p,i)∈v.zip pl):(yL pl n v)[i]? =some p:=
 iT _ _ (by rw [wt g];exact h.nd) hm (by rw [QA];exact h.lt i (jbp hm).2)
theorem WA (h:Pls n pl) (g:v.length=pl.length) {i j:Nat} {p:Rat} (q:pl[j]? =some i) (hp:v[j]? =some p):(yL pl n v)[i]? =some p:=
 iP h g (Qb (i:=j) (by rw [QW];exact ⟨hp,q⟩))
theorem dS {i:Nat} (h:i<n) (hm:i∉pl):(yL pl n v)[i]? =some 0:=by
 unfold yL;rw [VX _ _ λx g e=>hm (by rw [<-e];exact (jbp (a:=x.1) (b:=x.2) g).2),QL,QH h]
theorem Zb (h:Pls n pl) (q:v.length=pl.length) {i:Nat} {p:Rat} (hp:(yL pl n v)[i]? =some p):(∃j:Nat,pl[j]? =some i/\v[j]? =some p)\/(i∉pl/\p=0):=by
 have r:i<n:=by have:=(Qg.mp hp).1;rwa [Yn] at this
 by_cases c:i∈pl
 ·obtain ⟨j,g⟩:=Qu.mp c;have s:=(Qg.mp g).1;have e:=Qe (l:=v) (i:=j) (by omega);have:=WA h q g e;rw [hp] at this;cases this;exact .inl ⟨j,g,e⟩
 ·rw [dS r c] at hp;cases hp;exact .inr ⟨c,rfl⟩
theorem rQ:∀{w:List Rat} {i:Nat} {q p:Rat},w[i]? =some q->zU (w.set i p)=zU w - q+p
 |[],_,_,_,h=>by simp at h
 |a::w,0,q,p,h=>by
  cases h;rw [List.set_cons_zero,zU,zU];grind
 |a::w,i+1,q,p,h=>by
  rw [List.set_cons_succ,zU,zU,rQ (w:=w) (i:=i) (q:=q) (p:=p) (by simpa using h)];grind
theorem iS:∀(z:List (Rat×Nat)) (w:List Rat),(z.map (·.2)).Nodup->(∀x∈z,w[x.2]? =some 0)->zU (xP z w)=zU w+zU (z.map (·.1))
 |[],w,_,_=>by rw [xP,jaY,zU];grind
 |(p,i)::r,w,nd,h=>by
  rw [Qp,TK] at nd;have h0:=h (p,i) (Qc ..)
  rw [xP,iS r _ nd.2 λx g=>by
   rw [jbd (λe=>nd.1 (Qj.mpr ⟨x,g,e.symm⟩))]
   exact h x (Qf _ g),rQ h0,Qp,zU]
  grind
theorem uw (h:Pls n pl) (p:v.length=pl.length):zU (yL pl n v)=zU v:=by
 unfold yL
 rw [iS _ _ (by rw [wt p];exact h.nd) λx g=>by
  rw [QL,QH (h.lt _ (jbp (a:=x.1) (b:=x.2) g).2)],Vg]
 have:(v.zip pl).map Prod.fst=v:=List.map_fst_zip (by omega);have e:(v.zip pl).map (·.1)=v:=this;rw [e];grind
theorem pI (h:Pls n pl):yL pl n (List.replicate pl.length 0)=List.replicate n 0:=by
 apply jaP
 intro i
 by_cases g:i<n
 ·rw [QL,QH g];have e:=Qe (l:=yL pl n (List.replicate pl.length 0)) (i:=i) (by rw [Yn];exact g)
  rcases Zb h (by rw [QA]) e with ⟨j,p,hp⟩|⟨_,hp⟩
  ·rw [e];have:=(Qg.mp hp).2;rw [jaA] at this;rw [<-this]
  ·rw [e,hp]
 ·rw [QN (by rw [Yn];omega),QN (by rw [QA];omega)]
def pK (pl:List Nat) (n:Nat) (c:zg):zg:=(c.1,yL pl n c.2)
def yI (pl:List Nat) (n:Nat) (P:List zg):List zg:=P.map (pK pl n)
theorem Std.spread {T:Rat} {as:List Rat} {P:List zg} (h:Std m T as P) (hp:Pls n pl) (hm:pl.length=m):Std n T (yL pl n as) (yI pl n P):=by
 subst hm;refine ⟨?_,λc g=>?_,?_,?_⟩
 ·unfold yI yO;rw [Tj];exact h.rise
 ·obtain ⟨d,hd,rfl⟩:=Qj.mp g;have:=h.ok d hd;exact ⟨Yn ..,by show zU (yL pl n d.2)=d.1;rw [uw hp this.1,this.2]⟩
 ·unfold yI;rw [Qi,h.head];show some (0,yL pl n _)=_;rw [pI hp]
 ·unfold yI;rw [jaD,h.last];rfl
theorem Ful.spread {T:Rat} {as:List Rat} {P:List zg} (h:Ful m T as P) (hp:Pls n pl) (hm:pl.length=m):Ful n T (yL pl n as) (yI pl n P):=by
 have ls:∀c∈P,c.2.length=pl.length:=λc p=>by rw [(h.std.ok c p).1,hm]
 refine ⟨h.std.spread hp hm,?_,λi x y z A w hz st=>?_⟩
 ·unfold yI Mon;rw [Tj];refine List.Pairwise.imp_of_mem (λ{c d} p hd Kt=>?_) h.mono;intro i a b ha q
  rcases Zb hp (ls c p) ha with ⟨j,g,I⟩|⟨hn,rfl⟩
  ·rcases Zb hp (ls d hd) q with ⟨t,r,E⟩|⟨hn,rfl⟩
   ·have H:j=t:=(List.getElem?_inj (by exact (Qg.mp g).1) hp.nd).mp (by rw [g,r]);subst H;exact Kt j a b I E
   ·exact absurd (Qb g) hn
  ·rcases Zb hp (ls d hd) q with ⟨t,r,E⟩|⟨_,rfl⟩
   ·exact absurd (Qb r) hn
   ·exact QY
 ·unfold yI at A w hz;obtain ⟨x,s,rfl⟩:=ya A;obtain ⟨y,D,rfl⟩:=ya w;obtain ⟨z,C,rfl⟩:=ya hz;refine h.thin i x y z s D C λj a b c ha q p=>?_;have G:j<pl.length:=by rw [<-ls x (Qb s)];exact (Qg.mp ha).1
  have g:=Qe G;exact st (pl[j]) a b c (WA hp (ls x (Qb s)) g ha) (WA hp (ls y (Qb D)) g q) (WA hp (ls z (Qb C)) g p)
end
def xN (p:Cl->Bool) (l:List Cl):List Nat:=(List.range l.length).filter λi=>p (l.getD i (0,0,0))
def ZS {α:Type} (d:α) (pl:List Nat) (v:List α):List α:=pl.map λi=>v.getD i d
section
variable {p:Cl->Bool} {l:List Cl} {v:List Rat}
theorem UL (p:Cl->Bool) (l:List Cl):Pls l.length (xN p l):=⟨List.Pairwise.filter _ List.nodup_range,λi g=>jbO.mp (Tv.mp g).1⟩
theorem aS {i:Nat} {c:Cl} (g:l[i]? =some c):i∈xN p l↔p c=true:=by
 unfold xN;rw [Tv,jbO,Qo,g];exact ⟨λh=>h.2,λh=>⟨(Qg.mp g).1,h⟩⟩
theorem gg {α:Type} (d:α) (p:α->Bool):∀l:List α,l.filter p=((List.range l.length).filter λi=>p (l.getD i d)).map λi=>l.getD i d
 |[]=>rfl
 |a::l=>by
  have g:=gg d p l;have e0:List.range (a::l).length=0::(List.range l.length).map Nat.succ:=by rw [Qw,List.range_succ_eq_map]
  have e:(List.map Nat.succ ((List.range l.length).filter ((λi=>p ((a::l).getD i d))∘Nat.succ))).map (λi=>(a::l).getD i d)=((List.range l.length).filter λi=>p (l.getD i d)).map λi=>l.getD i d:=by
   rw [QI];rfl
  have z:(a::l).getD 0 d=a:=rfl;rw [e0,jbB (x:=a),jbB (x:=0),List.filter_map,z]
  split
  ·rw [Qp,e,<-g,z]
  ·rw [e,<-g]
theorem Va (p:Cl->Bool) (l:List Cl):l.filter p=ZS (0,0,0) (xN p l) l:=gg (0,0,0) p l
theorem Wa (p:Cl->Bool) (l:List Cl):(xN p l).length=(l.filter p).length:=by rw [Va];unfold ZS;rw [Qa]
theorem UM {α:Type} (d:α) (pl:List Nat) (v:List α):(ZS d pl v).length=pl.length:=Qa _
end
structure GF (r:Rl) (l:List Cl) (P:List zg):Prop where
 good:Good r l P
 ful:Ful l.length (zU (amQ l)) (amQ l) P
section
variable {n:Nat} {pl:List Nat} {p:Cl->Bool} {l:List Cl} {v:List Rat}
theorem pJ (h:Pls n pl) {i:Nat} (m:i<n) (q:v.length=n):(yL pl n (ZS 0 pl v))[i]? =if i∈pl then v[i]? else some 0:=by
 split
 ·rename_i c;obtain ⟨j,g⟩:=Qu.mp c;have e:=Qe (l:=v) (i:=i) (by omega);refine (WA h (UM ..) g (p:=v[i]) ?_).trans e.symm;unfold ZS;rw [Qi,g];show some (v.getD i 0)=_;rw [Qo,e];rfl
 ·exact dS m (by assumption)
theorem ju (p:Cl->Bool) (l:List Cl):amQ (l.filter p)=ZS 0 (xN p l) (amQ l):=by
 rw [Va];unfold amQ ZS;rw [QI];refine TQ λi h=>?_;have g:=(UL p l).lt i h;show (((l.getD i (0,0,0)).1:Int):Rat)=(l.map λc=>((c.1:Int):Rat)).getD i 0;rw [Qo,Qo,Qi,Qe g];rfl
end
def yl (k:Int):Cl->Bool:=λc=>decide (c.2.1=k)
def zL (k:Int):Cl->Bool:=λc=>decide (c.2.2=k)
noncomputable def zZ (l:List Cl):List Int:=(iA (l.map (·.2.1))).choose
noncomputable def zI (l:List Cl):List Int:=(iA (l.map (·.2.2))).choose
theorem xa (l:List Cl):(zZ l).Pairwise (·<·)/\∀k,k∈zZ l↔k∈l.map (·.2.1):=(iA (l.map λc:Cl=>c.2.1)).choose_spec
theorem yw (l:List Cl):(zI l).Pairwise (·<·)/\∀k,k∈zI l↔k∈l.map (·.2.2):=(iA (l.map λc:Cl=>c.2.2)).choose_spec
def jz (n:Nat):List zg:=[(0,List.replicate n 0)]
noncomputable def VJ (f:List Cl->List zg) (l:List Cl) (P:List zg) (k:Int):List zg:=
 yv (P++xb P (yI (xN (yl k) l) l.length (f (l.filter (yl k)))))
noncomputable def UH (f:List Cl->List zg) (l:List Cl):List zg:=(zZ l).foldl (VJ f l) (jz l.length)
open Classical in
noncomputable def asD (done:List Int) (l:List Cl):List Rat:=l.map λc=>if c.2.1∈done then (c.1:Rat) else 0
section
variable {r:Rl} {l:List Cl} {done:List Int} {P:List zg} {f:List Cl->List zg} {k:Int}
theorem CF (done:List Int) (l:List Cl):(asD done l).length=l.length:=Qa _
theorem CG {i:Nat} {c:Cl} (g:l[i]? =some c) (h:c.2.1∈done):(asD done l)[i]? =some (c.1:Rat):=by
 unfold asD;rw [Qi,g,Option.map_some,QH h]
theorem rl {i:Nat} {c:Cl} (g:l[i]? =some c) (h:c.2.1∉done):(asD done l)[i]? =some 0:=by
 unfold asD;rw [Qi,g,Option.map_some,QS h]
structure RkI (r:Rl) (l:List Cl) (done:List Int) (P:List zg):Prop where
 ful:Ful l.length (zU (asD done l)) (asD done l) P
theorem Dp (n:Nat):Ful n 0 (List.replicate n 0) (jz n):=by
 refine ⟨⟨jax _ _,λc h=>?_,rfl,rfl⟩,jax _ _,λi x y z _ g=>by simp [jz] at g⟩;rw [Qv.mp h];exact ⟨QA,Vg n⟩
theorem RkI.nil:RkI r l [] (jz l.length):=by
 have e:asD [] l=List.replicate l.length 0:=by
  unfold asD;rw [<-jbu];exact TQ λc _=>QS Qx
 refine ⟨?_⟩;rw [e,Vg];exact Dp l.length
theorem RkI.step (h:RkI r l done P) (y:∀k'∈done,k'<k) (hf:GF r (l.filter (yl k)) (f (l.filter (yl k)))):RkI r l (done++[k]) (VJ f l P k):=by
 have t:=UL (yl k) l;have lk:=Wa (yl k) l;have w:=hf.ful.spread t lk;have st:=h.ful.std;have kn:k∉done:=λz=>absurd (y k z) (by omega);have s:=jr st h.ful.mono w.std w.mono;have inl:∀{i:Nat},i<l.length->∃c,l[i]? =some c:=λ{i} p=>⟨_,Qe p⟩
 have u:List.zipWith (·+·) (asD done l) (yL (xN (yl k) l) l.length (amQ (l.filter (yl k))))=asD (done++[k]) l:=by
  apply jaP
  intro i
  by_cases p:i<l.length
  ·obtain ⟨c,g⟩:=inl p;rw [QP,ju,pJ t p (xZ l)]
   by_cases m:c.2.1∈done
   ·have n1:i∉xN (yl k) l:=λz=>by
     have:=QD ((aS g).mp z);rw [this] at m;exact kn m
    rw [CG g m,QS n1,CG g (jah _ m)];show some ((c.1:Rat)+0)=_;rw [Rat.add_zero]
   ·by_cases q:c.2.1=k
    ·have n1:i∈xN (yl k) l:=(aS g).mpr (Tp q);rw [rl g m,QH n1,CG g (Qz _ (by rw [q];exact jbj _))];unfold amQ;rw [Qi,g];show some ((0:Rat)+(c.1:Rat))=_;rw [Rat.zero_add]
    ·have n1:i∉xN (yl k) l:=λz=>q (QD ((aS g).mp z))
     rw [rl g m,QS n1,rl g (λz=>by
      rcases QX.mp z with z|z
      ·exact m z
      ·exact q (Qv.mp z))]
     show some ((0:Rat)+0)=_;rw [Rat.zero_add]
  ·rw [QN (by rw [QO,CF];omega),QN (by rw [CF];omega)]
 have A:zU (asD done l)+zU (amQ (l.filter (yl k)))=zU (asD (done++[k]) l):=by
  rw [<-u];exact (s.std.ok _ (jak s.std.last)).2.symm
 rw [u,A] at s;exact ⟨s⟩
theorem qb:∀(g done:List Int) (P:List zg),RkI r l done P->(done++g).Pairwise (·<·)->(∀k∈g,GF r (l.filter (yl k)) (f (l.filter (yl k))))->RkI r l (done++g) (g.foldl (VJ f l) P)
 |[],done,P,h,_,_=>by rw [jaR];exact h
 |k::g,done,P,h,hp,hf=>by
  have e:done++k::g=done++[k]++g:=by rw [TV];rfl
  rw [e] at hp⊢;rw [List.foldl_cons];refine qb g (done++[k]) _ (h.step (λm p=>?_) (hf k (Qc ..))) hp λm p=>hf m (Qf _ p);exact (TC.mp (TC.mp hp).1).2.2 m p k (jbj _)
theorem DZ (hf:∀k∈zZ l,GF r (l.filter (yl k)) (f (l.filter (yl k)))):RkI r l (zZ l) (UH f l):=by
 have:=qb (zZ l) [] _ RkI.nil (by rw [jaG];exact (xa l).1) hf;rw [jaG] at this;exact this
theorem vF (hf:∀k∈zZ l,GF r (l.filter (yl k)) (f (l.filter (yl k)))):GF (.ranks r) l (UH f l):=by
 have h:=DZ hf;have mem:∀{i:Nat} {c:Cl},l[i]? =some c->c.2.1∈zZ l:=λ{i c} g=>((xa l).2 _).mpr (Qj.mpr ⟨c,Qb g,rfl⟩)
 have p:asD (zZ l) l=amQ l:=by
  unfold asD amQ;refine TQ λc g=>?_;obtain ⟨i,m⟩:=Qu.mp g;rw [QH (mem m)]
 have ful:=h.ful;rw [p] at ful;exact ⟨⟨ful.std⟩,ful⟩
end
end S
namespace S
open PySem PySem.Spec PyProof.Rows L2
theorem kX {P:List zg} {Qs:List (List zg)} {T:Rat} {as:List Rat} (h:Nest P Qs) (st:Std Qs.length T as P):Ful (nQ Qs) T (xi Qs as) (yK P Qs):=by
 have E:=st.lastC;have past:zm P T=as:=st.past QY;refine ⟨⟨h.riseF,λc H=>?_,?_,?_⟩,?_,λi x y z C A hz s=>?_⟩
 ·obtain ⟨i,G⟩:=Qu.mp H;obtain ⟨J,I⟩:=Nest.F_at G;have g:=h.in_range (Qb J);rw [I];exact ⟨h.flen _,h.sum g.1 g.2⟩
 ·rw [Nest.F_of h.zeroM,h.flat0]
 ·rw [h.getLast,E,past]
 ·unfold Mon yK;rw [Tj];refine List.Pairwise.imp_of_mem (λ{u v} hu hv KI=>?_) h.rise;have ru:=h.in_range hu;have w:=h.in_range hv;exact h.rises ru.1 (QV KI) w.2
 ·obtain ⟨t,m⟩:=Nest.F_at C;obtain ⟨y1,y2⟩:=Nest.F_at A;obtain ⟨z1,z2⟩:=Nest.F_at hz;refine h.thin t y1 z1 λj p q r hp D hr=>?_;exact s j p r q (by rw [m];exact hp) (by rw [y2];exact hr) (by rw [z2];exact D)
def Ii (g:Int) (l:List Cl):Cl:=((amV l).sum,vi (l.map (·.2.1)),g)
noncomputable def zM (l:List Cl):List Cl:=(zI l).map λg=>Ii g (l.filter (zL g))
noncomputable def zS (f:List Cl->List zg) (l:List Cl):List (List zg):=(zI l).map λg=>f (l.filter (zL g))
noncomputable def mr (l:List Cl):List (List Nat):=(zI l).map λg=>xN (zL g) l
noncomputable def wg (l:List Cl):List Nat:=(mr l).flatten
noncomputable def WY (fa fb:List Cl->List zg) (l:List Cl):List zg:=yI (wg l) l.length (yK (fa (zM l)) (zS fb l))
theorem bV {q:Rat} {i:Nat}:∀{g:List (List Rat)} {m:List (List Nat)},g.map List.length=m.map List.length->∀{k:Nat} {V:List Rat} {L:List Nat},g[k]? =some V->m[k]? =some L->(q,i)∈V.zip L->(q,i)∈g.flatten.zip m.flatten
 |[],m,_,k,V,L,h,_,_=>by simp at h
 |V'::g,[],h,_,_,_,_,_,_=>by simp at h
 |V'::g,L'::m,h,k,V,L,h1,h2,h3=>by
  rw [Qp,Qp] at h;have p:V'.length=L'.length:=by injection h
  have ht:g.map List.length=m.map List.length:=by injection h
  rw [Ti,Ti,List.zip_append p]
  cases k with
  |zero=>
   cases h1;cases h2;exact jah _ h3
  |succ k=>exact Qz _ (bV ht (k:=k) (by simpa using h1) (by simpa using h2) h3)
theorem HY {pl:List Nat} {V v:List Rat} (m:V.length=pl.length) (h:∀(q:Rat) (i:Nat),(q,i)∈V.zip pl->v[i]? =some q):ZS 0 pl v=V:=by
 apply jaP
 intro j;unfold ZS;rw [Qi]
 cases e:pl[j]? with
 |none=>
  have:=jbc.mp e;rw [QN (by omega)];rfl
 |some i=>
  have g:=(Qg.mp e).1;have f:=Qe (l:=V) (i:=j) (by omega);have:=h V[j] i (Qb (i:=j) (by rw [QW];exact ⟨f,e⟩));show some (v.getD i 0)=_;rw [Qo,this,f];rfl
section
variable {a b:Rl} {l:List Cl} {fa fb:List Cl->List zg}
theorem jo (l:List Cl):∀m:List Int,m.Pairwise (·<·)->(m.map λg=>xN (zL g) l).flatten.Nodup
 |[],_=>List.nodup_nil
 |g::m,h=>by
  obtain ⟨u,t⟩:=Qm.mp h;rw [Qp,Ti,List.nodup_append];refine ⟨(UL _ l).nd,jo l m t,λi p j r e=>?_⟩;subst e;obtain ⟨L,s,y⟩:=List.mem_flatten.mp r;obtain ⟨g',w,rfl⟩:=Qj.mp s;have lt:=(UL _ l).lt i p;have q:=Qe lt;have A:=QD ((aS q).mp p);have z:=QD ((aS q).mp y);have:=u g' w;omega
theorem kI (l:List Cl):Pls l.length (wg l):=⟨jo l _ (yw l).1,λi g=>by
 obtain ⟨L,h,m⟩:=List.mem_flatten.mp g;obtain ⟨g',p,rfl⟩:=Qj.mp h
 exact (UL _ l).lt i m⟩
theorem ZG (l:List Cl):(zM l).length=(zI l).length:=Qa _
theorem Yq (f:List Cl->List zg) (l:List Cl):(zS f l).length=(zI l).length:=Qa _
theorem tP {k:Nat} {g:Int} (h:(zI l)[k]? =some g):(amQ (zM l))[k]? =some (zU (amQ (l.filter (zL g)))):=by
 unfold amQ zM;rw [QI,Qi,h];show some (((amV (l.filter (zL g))).sum:Int):Rat)=_;rw [<-ZH];rfl
theorem Um (ha:Ful (zM l).length (zU (amQ (zM l))) (amQ (zM l)) (fa (zM l))) (q:∀g∈zI l,Ful (l.filter (zL g)).length (zU (amQ (l.filter (zL g)))) (amQ (l.filter (zL g))) (fb (l.filter (zL g)))):Nest (fa (zM l)) (zS fb l):=by
 have e:(zS fb l).length=(zM l).length:=by rw [ZG,Yq]
 refine ⟨by rw [e];exact ha.pm,by rw [e];exact ha.std.cons,λk Q m=>?_⟩;unfold zS at m;obtain ⟨g,p,rfl⟩:=ya m;have h:=q g (Qb p);obtain ⟨r,s⟩:=h.std.cons;refine ⟨_,r,s,h.pm,?_⟩;rw [ha.std.lastC,h.std.lastC];exact tP p
theorem fF (h:∀g∈zI l,Ful (l.filter (zL g)).length (zU (amQ (l.filter (zL g)))) (amQ (l.filter (zL g))) (fb (l.filter (zL g)))):(wg l).length=nQ (zS fb l):=by
 unfold wg mr zS;generalize zI l=m at*
 induction m with
 |nil=>rfl
 |cons g m p=>
  rw [Qp,Ti,Qr,p λg' s=>h g' (Qf _ s),Qp,nQ,Wa];obtain ⟨r,q⟩:=(h g (Qc ..)).std.cons;rw [q]
  congr 1
  show _=(List.replicate _ (0:Rat)).length;rw [QA]
theorem uM (m:∀g∈zI l,Ful (l.filter (zL g)).length (zU (amQ (l.filter (zL g)))) (amQ (l.filter (zL g))) (fb (l.filter (zL g)))) {ps:List Rat} (u:ps.length=(zI l).length) {k:Nat} {g:Int} {p:Rat} (h:(zI l)[k]? =some g) (hp:ps[k]? =some p):
 ZS 0 (xN (zL g) l) (yL (wg l) l.length (xi (zS fb l) ps))=zm (fb (l.filter (zL g))) p:=by
 have r:(List.zipWith zm (zS fb l) ps).map List.length=(mr l).map List.length:=by
  apply jaP
  intro j;unfold zS mr;rw [Qi,Qi,Qi,QP,Qi]
  cases e:(zI l)[j]? with
  |none=>rfl
  |some g'=>
   have t:=(Qg.mp e).1;rw [Qe (l:=ps) (i:=j) (by omega)];show some (zm (fb (l.filter (zL g'))) ps[j]).length=some (xN (zL g') l).length;rw [(m g' (Qb e)).std.len,Wa]
 have s:(xi (zS fb l) ps).length=(wg l).length:=by
  unfold xi wg;rw [List.length_flatten,List.length_flatten,r]
 refine HY ?_ λq i hm=>?_
 ·rw [(m g (Qb h)).std.len,Wa]
 ·refine iP (kI l) s ?_;refine bV r (k:=k) (V:=zm (fb (l.filter (zL g))) p) (L:=xN (zL g) l) ?_ ?_ hm
  ·unfold zS;rw [QP,Qi,h,hp];rfl
  ·unfold mr;rw [Qi,h];rfl
theorem qF (ha:GF a (zM l) (fa (zM l))) (G:∀g∈zI l,GF b (l.filter (zL g)) (fb (l.filter (zL g)))):GF (.groups a b) l (WY fa fb l):=by
 have s:=λg E=>(G g E).ful;have nest:=Um (fa:=fa) (fb:=fb) ha.ful s;have q:(zS fb l).length=(zM l).length:=by rw [ZG,Yq]
 have m:=ha.ful.std;have h:Std (zS fb l).length (zU (amQ (zM l))) (amQ (zM l)) (fa (zM l)):=by rw [q];exact m
 have W:=kX nest h;have lk:=fF (fb:=fb) s;have D:=kI l;have R:=W.spread D lk;have C:∀e:Rat,(zm (fa (zM l)) e).length=(zI l).length:=λe=>by rw [m.len,ZG]
 have p:∀{i:Nat} {c:Cl},l[i]? =some c->c.2.2∈zI l:=λ{i c} r=>((yw l).2 _).mpr (Qj.mpr ⟨c,Qb r,rfl⟩)
 have A:yL (wg l) l.length (xi (zS fb l) (amQ (zM l)))=amQ l:=by
  apply jaP
  intro i
  by_cases u:i<l.length
  ·have r:=Qe u;obtain ⟨k,t⟩:=Qu.mp (p r);have y:=uM (fb:=fb) s (ps:=amQ (zM l)) (by rw [xZ,ZG]) t (tP t);rw [(s _ (Qb t)).std.past QY,ju] at y;unfold ZS at y;have w:=List.map_inj_left.mp y i ((aS r).mpr (Tp rfl));rw [Qo,Qo] at w;have f1:=Qe (l:=yL (wg l) l.length (xi (zS fb l) (amQ (zM l)))) (i:=i) (by rw [Yn];exact u);have f2:=Qe (l:=amQ l) (i:=i) (by rw [xZ];exact u);rw [f1,f2] at w;rw [f1,f2];exact congrArg some w
  ·rw [QN (by rw [Yn];omega),QN (by rw [xZ];omega)]
 have H:zU (amQ (zM l))=zU (amQ l):=by
  rw [<-A];exact (R.std.ok _ (jak R.std.last)).2.symm
 have z:=R;rw [A,H] at z;exact ⟨⟨z.std⟩,z⟩
end
noncomputable def zE:Rl->List Cl->List zg
 | .shares,l=>shP (amV l)
 | .evenly,l=>evP (amV l) (lvV (amV l))
 | .losses,l=>loP (amV l) (lvV (amV l))
 | .halves,l=>yv (hvP (amV l) (lvV (amV l)))
 | .other r,l=>xq (zE r l)
 | .ranks r,l=>UH (λl=>zE r l) l
 | .groups a b,l=>WY (λl=>zE a l) (λl=>zE b l) l
 | .upto t b x y,l=>Wz (Rat.divInt t b) (zE x l) (zE y l)
def POk:Rl->Prop
 | .other r=>POk r
 | .upto t b x y=>ah t b/\POk x/\POk y
 | .ranks r=>POk r
 | .groups a b=>POk a/\POk b
 |_=>True
theorem xf {l:List Cl} (nn:∀c∈l,0<=c.1) (p:Cl->Bool):∀c∈l.filter p,0<=c.1:=λc g=>nn c (Tv.mp g).1
theorem Yh {l:List Cl} (nn:∀c∈l,0<=c.1):∀a∈amV l,0<=a:=λa ha=>by
 obtain ⟨c,g,rfl⟩:=Qj.mp ha;exact nn c g
theorem jA {l:List Cl} (nn:∀c∈l,0<=c.1):∀c∈zM l,0<=c.1:=λc h=>by
 obtain ⟨g,_,rfl⟩:=Qj.mp h;exact VI (Yh (xf nn _))
theorem yT:∀{r:Rl} {l:List Cl},POk r->(∀c∈l,0<=c.1)->GF r l (zE r l)
 | .shares,l,_,nn=>⟨fV (Yh nn),vJ (Yh nn)⟩
 | .evenly,l,_,nn=>⟨Wb (WU (Yh nn)),Vv (WU (Yh nn))⟩
 | .losses,l,_,nn=>⟨fW (WU (Yh nn)),jn (WU (Yh nn))⟩
 | .halves,l,_,nn=>⟨qE (WU (Yh nn)),vK (WU (Yh nn))⟩
 | .other r,l,h,nn=>⟨(yT (r:=r) h nn).good.other,(yT (r:=r) h nn).ful.turned⟩
 | .ranks r,l,h,nn=>vF λk _=>yT (r:=r) h (xf nn _)
 | .groups a b,l,h,nn=>qF (yT (r:=a) h.1 (jA nn)) λg _=>yT (r:=b) h.2 (xf nn _)
 | .upto t b x y,l,h,nn=>⟨Good.upto rfl (fo h.1).1 (fo h.1).2 nn (yT h.2.1 nn).good (yT h.2.2 nn).good,tj (fo h.1).1 (fo h.1).2 (yT h.2.1 nn).ful (yT h.2.2 nn).ful⟩
def DQ (d:Nat) (x:Rat):Prop:=∃D:Int,(0<D/\D<=2 ^ d)/\Yl D x
def DC (d:Nat) (c:zg):Prop:=DQ d c.1/\∀x∈c.2,DQ d x
def DP (d:Nat) (P:List zg):Prop:=∀c∈P,DC d c
theorem UI {a b:Int} {m n:Nat} (ha:0<a/\a<=2 ^ m) (g:0<b/\b<=2 ^ n):0<a*b/\a*b<=2 ^ (m+n):=by
 refine ⟨Int.mul_pos ha.1 g.1,?_⟩;rw [Int.pow_add];exact Int.mul_le_mul ha.2 g.2 (Int.le_of_lt g.1) (jba (Int.le_of_lt ha.1) ha.2)
theorem AS {m n:Nat} (h:m<=n):(2:Int) ^ m<=2 ^ n:=by
 have:=Nat.pow_le_pow_right (n:=2) (by decide) h;have e:∀k:Nat,(2:Int) ^ k=((2 ^ k:Nat):Int):=λk=>by rw [jbW];rfl
 rw [e,e];exact Int.ofNat_le.mpr this
section
variable {d d' t:Nat} {x y:Rat} {T:Int}
theorem DQ.mono (h:DQ d x) (hd:d<=d'):DQ d' x:=by
 obtain ⟨D,⟨p,m⟩,g⟩:=h;exact ⟨D,⟨p,jba m (AS hd)⟩,g⟩
theorem DQ.int (n:Int):DQ 0 (n:Rat):=⟨1,⟨by decide,by decide⟩,Yl.int n 1⟩
theorem DQ.zero:DQ 0 0:=DQ.int 0
theorem DQ.add (h:DQ d x) (g:DQ d' y):DQ (d+d') (x+y):=by
 obtain ⟨D,p,q⟩:=h;obtain ⟨E,m,g3⟩:=g;exact ⟨D*E,UI p m,(q.mul E).add (g3.mulL D)⟩
theorem DQ.sub (h:DQ d x) (g:DQ d' y):DQ (d+d') (x - y):=by
 obtain ⟨D,p,q⟩:=h;obtain ⟨E,m,g3⟩:=g;exact ⟨D*E,UI p m,(q.mul E).sub (g3.mulL D)⟩
theorem DP.mono {P:List zg} (h:DP d P) (hd:d<=d'):DP d' P:=λc g=>⟨(h c g).1.mono hd,λx m=>((h c g).2 x m).mono hd⟩
theorem DQ.mix {Q P O K db:Nat} {e a b:Rat} (he:DQ Q e) (I:DQ P x) (H:DQ O y) (ha:DQ K a) (J:DQ db b) (Le:a<b) (a0:0<=a) (bT:b<=(T:Rat)) (hT:T<=2 ^ t):DQ (Q+P+(O+(t+(K+db)))) (Xo ((e - a) / (b - a)) x y):=by
 have line:=xc (x:=x) (y:=y) (E:=e) Le;generalize Xo ((e - a) / (b - a)) x y=m at*;obtain ⟨G,X,ke,he⟩:=he;obtain ⟨L,U,M,I⟩:=I;obtain ⟨D,py,Z,H⟩:=H;obtain ⟨Da,pa,g,ha⟩:=ha;obtain ⟨Db,pb,p,J⟩:=J
 have C:(b - a)*((Da*Db:Int):Rat)=((p*Da - g*Db:Int):Rat):=by
  rw [jbv,jae,jae,jae,<-ha,<-J];grind
 have w:=UI pa pb;have h:=aa w.1
 have T0:0<T:=by
  have:(0:Rat)<(T:Rat):=by grind
  exact Int.not_le.mp λz=>by
   have:=jaq.mpr z
   grind
 have N0:0<p*Da - g*Db:=by
  have:(0:Rat)<((p*Da - g*Db:Int):Rat):=by rw [<-C];exact jbV (by grind) h
  exact Int.not_le.mp λz=>by
   have:=jaq.mpr z
   grind
 have NT:p*Da - g*Db<=T*(Da*Db):=by
  apply qS
  rw [<-C,jae T];exact UR (by grind) (QV h)
 have Y:0<p*Da - g*Db/\p*Da - g*Db<=2 ^ (t+(K+db)):=⟨N0,jba NT (UI ⟨T0,hT⟩ w).2⟩;generalize p*Da - g*Db=N at*;refine ⟨G*L*(D*N),UI (UI X U) (UI py Y),M*(G*D*N)+(ke*Da - g*G)*(Z*L - M*D)*Db,?_⟩;simp only [jae,jbv,Rat.intCast_add] at C⊢;rw [<-he,<-I,<-H,<-ha,<-C];generalize (G:Rat)=u at*;generalize (L:Rat)=s at*;generalize (D:Rat)=r at*;generalize (Da:Rat)=q at*;generalize (Db:Rat)=A at*;have:m*(u*s*(r*((b - a)*(q*A)))) - (x*s*(u*r*((b - a)*(q*A)))+(e*u*q - a*q*u)*(y*r*s - x*s*r)*A)=u*s*r*q*A*((m - x)*(b - a) - (e - a)*(y - x)):=by grind
 rw [line] at this
 grind
theorem aV {m u:Nat} {e:Rat} (he:DQ u e) (s:T<=2 ^ t):∀{P:List zg},yO P->(∀c∈P,0<=c.1/\c.1<=(T:Rat))->DP d P->∀x∈zm P e,DQ (u+4*d+t) x
 |[],_,_,_,x,hx=>by simp [zm] at hx
 |[c],_,_,h,x,hx=>((h c (Qc ..)).2 x hx).mono (by omega)
 |c::f::r,hr,rg,h,x,hx=>by
  rw [zm] at hx
  split at hx
  ·obtain ⟨i,z⟩:=Qu.mp hx;obtain ⟨p,q,hp,w,rfl⟩:=YZ z;have g:=h c (Qc ..);have hd:=h f (Qf _ (Qc ..));have lt:=(Qm.mp hr).1 f (Qc ..);exact (DQ.mix he (g.2 p (Qb hp)) (hd.2 q (Qb w)) g.1 hd.1 lt (rg c (Qc ..)).1 (rg f (Qf _ (Qc ..))).2 s).mono (by omega)
  ·exact aV (m:=m) he s (Qm.mp hr).2 (λc g=>rg c (Qf _ g)) (λc g=>h c (Qf _ g)) x hx
theorem Nest.den {P:List zg} {Qs:List (List zg)} {a b:Nat} (h:Nest P Qs) (ha:DP a P) (hb:∀Q∈Qs,DP b Q) (hl:(lastC P).1<=(T:Rat)) (L:T<=2 ^ t) {e:Rat} (he:e∈wpV P Qs):DQ (b+4*a+t) e/\∀p∈zm P e,DQ (b+4*a+t) p:=by
 rcases h.mem.mp he with ⟨c,w,rfl⟩|⟨k,Q,D,c,w,hr⟩
 ·refine ⟨(ha c w).1.mono (by omega),λp hp=>?_⟩;have pm:=h.pm;obtain ⟨r,z⟩:=h.p0;rw [z] at pm hp w;rw [yd pm.t w] at hp;exact ((ha c (by rw [z];exact w)).2 p hp).mono (by omega)
 ·have M:=(hb Q (Qb D) c w).1;have h0:=(h.qpos D c w).1;have pm:=h.pm;have N:k<Qs.length:=(Qg.mp D).1
  have le:∀g∈P,∀(i:Nat) (x:Rat),g.2[i]? =some x->0<=x/\x<=(T:Rat):=λg C i x hx=>by
   have s:=pm.sums g C
   have A:zm P g.1=g.2:=by
    obtain ⟨r,z⟩:=h.p0;rw [z] at C pm⊢;exact yd pm.t C
   have mem:g.1∈wpV P Qs:=h.mem.mpr (.inl ⟨g,C,rfl⟩);have K:=h.in_range mem
   have nn:∀q∈g.2,0<=q:=λq hq=>by
    obtain ⟨j,u⟩:=Qu.mp hq;have Y:j<Qs.length:=by rw [<-pm.t.len g C];exact (Qg.mp u).1
    exact (h.range K.1 K.2 (Qe Y) (by rw [A];exact u)).1
   have m:=Qb hx;have:=(ZA nn).2 x m;exact ⟨nn x m,by rw [s] at this;grind⟩
  obtain ⟨r,z⟩:=h.p0;rw [z] at pm hr ha le⊢
  obtain ⟨i,g,E,x,y,g1,g2,g3,g4,Z,hLy,ee,_,_,_,ep⟩:=Uj N pm (by
   rw [Qo,QL,QH N];exact h0) hr
  have z1:=ha g (Qb g1);have z2:=ha E (Qb g2);have J:=le g (Qb g1) k x g3;have I:=le E (Qb g2) k y g4;have H:=z1.2 x (Qb g3);have G:=z2.2 y (Qb g4);have O:x<y:=by grind
  rw [ep];refine ⟨by rw [ee];exact (DQ.mix M z1.1 z2.1 H G O J.1 I.2 L).mono (by omega),λp hp=>?_⟩;obtain ⟨j,u⟩:=Qu.mp hp;rw [QP] at u
  cases A:g.2[j]? with
  |none=>rw [A] at u;cases u
  |some X=>
   cases e2:E.2[j]? with
   |none=>rw [A,e2] at u;cases u
   |some U=>
    rw [A,e2] at u;cases u;exact (DQ.mix M (z1.2 X (Qb A)) (z2.2 U (Qb e2)) H G O J.1 I.2 L).mono (by omega)
theorem DP.within {P:List zg} {Qs:List (List zg)} {a b:Nat} (h:Nest P Qs) (ha:DP a P) (u:∀Q∈Qs,DP b Q) (s:∀Q∈Qs,yO Q/\∀c∈Q,0<=c.1/\c.1<=(T:Rat)) (z:(lastC P).1<=(T:Rat)) (w:T<=2 ^ t):DP (5*b+4*a+2*t) (yK P Qs):=λc D=>by
 obtain ⟨i,C⟩:=Qu.mp D;obtain ⟨G,E⟩:=Nest.F_at C;obtain ⟨z1,z2⟩:=h.den ha u z w (Qb G);refine ⟨z1.mono (by omega),λx r=>?_⟩;rw [E] at r;obtain ⟨k,Q,p,A,hp,q⟩:=sD r;have g:=Qb A;exact (aV (m:=0) (z2 p (Qb hp)) w (s Q g).1 (s Q g).2 (u Q g) x q).mono (by omega)
theorem DP.spread {P:List zg} {pl:List Nat} {n m:Nat} (hp:Pls n pl) (q:∀c∈P,c.2.length=pl.length) (h:DP d P):DP d (yI pl n P):=λc u=>by
 obtain ⟨c,g,rfl⟩:=Qj.mp u;refine ⟨(h c g).1,λx p=>?_⟩;obtain ⟨i,s⟩:=Qu.mp p
 rcases Zb hp (q c g) s with ⟨j,_,r⟩|⟨_,rfl⟩
 ·exact (h c g).2 x (Qb r)
 ·exact DQ.zero.mono (by omega)
theorem DP.keep {P:List zg} (h:DP d P):DP d (yv P):=λc g=>h c ((ZC P).subset g)
theorem DP.app {P p:List zg} (ne:P≠[]) (h:DP d P) (m:DC 0 (lastC P)) (g:DP d p):DP d (P++xb P p):=λc r=>by
 rcases QX.mp r with z|z
 ·exact h c z
 ·obtain ⟨f,hf,rfl⟩:=Qj.mp z;have hf:=g f (TF hf);refine ⟨(m.1.add hf.1).mono (by omega),λx q=>?_⟩;obtain ⟨a,ha,b,s,rfl⟩:=dG q;exact ((m.2 a ha).add (hf.2 b s)).mono (by omega)
theorem DP.turned {P:List zg} (g:DC 0 (lastC P)) (h:DP d P):DP d (xq P):=λc p=>by
 obtain ⟨f,hf,rfl⟩:=Qj.mp p;have hf:=h f (jbR.mp hf);refine ⟨(g.1.sub hf.1).mono (by omega),λx m=>?_⟩;obtain ⟨a,ha,b,q,rfl⟩:=dG m;exact ((g.2 a ha).sub (hf.2 b q)).mono (by omega)
def UY (b:Int):Nat:=b.toNat.log2+1
theorem Fd {b:Int} (g:0<b):b<=2 ^ UY b:=by
 have:=Nat.lt_log2_self (n:=b.toNat);have e:(2:Int) ^ UY b=((2 ^ (b.toNat.log2+1):Nat):Int):=by unfold UY;rw [jbW];rfl
 rw [e];omega
theorem DP.upto {P G:List zg} {as:List Rat} {p b:Int} {m:Nat} {U:Rat} (b0:0<b) (st:Std m U as P) (C:DC 0 (U,as)) (h:DP d P) (g:DP d G):DP (UY b+d) (Wz (Rat.divInt p b) P G):=by
 have bn:b≠0:=by omega
 have E:0<b/\b<=2 ^ UY b:=⟨b0,Fd b0⟩
 have sc:∀{t:Int} {x:Rat},DQ d x->DQ (UY b+d) (x*Rat.divInt t b):=λ{t x} r=>by
  obtain ⟨D,s,u⟩:=r;exact ⟨b*D,UI E s,u.port bn⟩
 have J:∀{x:Rat},DQ 0 x->Yl 1 x:=λ{x} r=>by
  obtain ⟨D,s,u⟩:=r;have:D=1:=by have:=s.2;have:=s.1;omega
  rwa [this] at u
 have I:lastC (zP (Rat.divInt p b) P)=(U*Rat.divInt p b,EC (Rat.divInt p b) as):=by
  unfold lastC zP;rw [jaD,st.last];rfl
 have both:∀{x y:Rat} {t:Int},DQ 0 x->DQ d y->DQ (UY b+d) (x*Rat.divInt p b+y*Rat.divInt t b):=λ{x y t} r hy=>by
  obtain ⟨D,s,u⟩:=hy;have w:=(J r).port (t:=p) bn;rw [Int.mul_one] at w;exact ⟨b*D,UI E s,(w.mul D).add (u.port bn)⟩
 unfold Wz;refine DP.keep λc L=>?_
 rcases QX.mp L with z|z
 ·obtain ⟨f,hf,rfl⟩:=Qj.mp z;refine ⟨sc (h f hf).1,λx r=>?_⟩;obtain ⟨a,ha,rfl⟩:=Qj.mp r;exact sc ((h f hf).2 a ha)
 ·obtain ⟨X,A,rfl⟩:=Qj.mp z;have N:=TF A;obtain ⟨f,hf,rfl⟩:=Qj.mp N;rw [I,Ih bn];refine ⟨both C.1 (g f hf).1,λx r=>?_⟩;obtain ⟨a,ha,q,K,rfl⟩:=dG r;obtain ⟨M,O,rfl⟩:=Qj.mp ha;obtain ⟨H,Q,rfl⟩:=Qj.mp K;exact both (C.2 M O) ((g f hf).2 H Q)
end
def Wc (t:Nat):Rl->Nat
 | .halves=>2
 | .other r=>Wc t r
 | .ranks r=>Wc t r
 | .groups a b=>5*Wc t b+4*Wc t a+2*t
 | .upto _ b x y=>UY b+max (Wc t x) (Wc t y)
 |_=>0
theorem YY (h:List Int):DC 0 (yx h):=⟨DQ.int _,λx g=>by
 obtain ⟨a,_,rfl⟩:=Qj.mp g
 exact DQ.int a⟩
theorem qL (l:List Cl):DC 0 (zU (amQ l),amQ l):=by rw [<-dJ];exact YY _
theorem BN {x:Int} {w:Int}:∀{p:List Int},p.Pairwise (·<·)->(p.map λg=>if x=g then w else 0).sum=if x∈p then w else 0
 |[],_=>by simp
 |g::p,h=>by
  obtain ⟨r,q⟩:=Qm.mp h;rw [Qp,QG,BN q]
  by_cases e:x=g
  ·have:x∉p:=λz=>by have:=r x z;omega
   rw [QH e,QS this,QH (by rw [e];exact Qc ..)];omega
  ·rw [QS e]
   by_cases z:x∈p
   ·rw [QH z,QH (Qf _ z)];omega
   ·rw [QS z,QS (λm=>(Qk.mp m).elim e z)];omega
theorem wL (f g:Int->Int):∀h:List Int,(h.map λk=>f k+g k).sum=(h.map f).sum+(h.map g).sum
 |[]=>rfl
 |k::h=>by rw [Qp,Qp,Qp,QG,QG,QG,wL f g h];omega
theorem jC (key w:Cl->Int) {m:List Int} (q:m.Pairwise (·<·)):∀l:List Cl,(∀c∈l,key c∈m)->(m.map λg=>((l.filter λc=>decide (key c=g)).map w).sum).sum=(l.map w).sum
 |[],_=>by
  show (m.map λ_=>(0:Int)).sum=0
  induction m with
  |nil=>rfl
  |cons g m p=>rw [Qp,QG,p (Qm.mp q).2 λc s=>absurd s Qx];rfl
 |c::l,h=>by
  have p:=jC key w q l λx r=>h x (Qf _ r)
  have e:(m.map λg=>(((c::l).filter λc=>decide (key c=g)).map w).sum)=m.map λg=>(if key c=g then w c else 0)+((l.filter λc=>decide (key c=g)).map w).sum:=by
   refine TQ λg _=>?_;rw [jbB]
   by_cases z:key c=g
   ·rw [QH z,QH (Tp z),Qp,QG]
   ·rw [QS z,QS (by rw [Tb z];decide)];omega
  rw [e,wL,BN q,QH (h c (Qc ..)),p,Qp,QG]
theorem cW (l:List Cl):(amV (zM l)).sum=(amV l).sum:=by
 have:=jC (·.2.2) (·.1) (yw l).1 l λc h=>((yw l).2 _).mpr (Qj.mpr ⟨c,h,rfl⟩);unfold zM
 have e:amV ((zI l).map λg=>Ii g (l.filter (zL g)))=(zI l).map λg=>((l.filter λc=>decide (c.2.2=g)).map (·.1)).sum:=by
  unfold amV;rw [QI];rfl
 rw [e,this];rfl
theorem Xx {l:List Cl} (nn:∀c∈l,0<=c.1) (p:Cl->Bool):(amV (l.filter p)).sum<=(amV l).sum:=by
 induction l with
 |nil=>exact jbN _
 |cons c l g=>
  have g:=g λx h=>nn x (Qf _ h);have h0:=nn c (Qc ..);have e:(amV (c::l)).sum=c.1+(amV l).sum:=by unfold amV;rw [Qp,QG]
  rw [jbB]
  split
  ·have m:(amV (c::l.filter p)).sum=c.1+(amV (l.filter p)).sum:=by unfold amV;rw [Qp,QG]
   rw [e,m];omega
  ·rw [e];omega
theorem Ar {r:Rl} {l:List Cl} {f:List Cl->List zg} {d:Nat}:∀(g done:List Int) (P:List zg),RkI r l done P->(done++g).Pairwise (·<·)->(∀k∈g,GF r (l.filter (yl k)) (f (l.filter (yl k)))/\DP d (f (l.filter (yl k))))->DP d P->DP d (g.foldl (VJ f l) P)
 |[],done,P,h,_,_,hd=>hd
 |k::g,done,P,h,hp,hf,hd=>by
  have e:done++k::g=done++[k]++g:=by rw [TV];rfl
  rw [e] at hp;rw [List.foldl_cons];have s:=hf k (Qc ..);refine Ar g (done++[k]) _ (h.step (λq t=>?_) s.1) hp (λq t=>hf q (Qf _ t)) ?_
  ·exact (TC.mp (TC.mp hp).1).2.2 q t k (jbj _)
  ·refine DP.keep (DP.app h.ful.std.ne hd ?_ (DP.spread (m:=0) (UL _ l) (λc y=>by rw [(s.1.ful.std.ok c y).1,Wa]) s.2));rw [h.ful.std.lastC]
   have u:∀x∈asD done l,DQ 0 x:=λx p=>by
    unfold asD at p;obtain ⟨c,_,rfl⟩:=Qj.mp p
    split
    ·exact DQ.int _
    ·exact DQ.zero
   refine ⟨?_,u⟩
   have:∀{v:List Rat},(∀x∈v,DQ 0 x)->DQ 0 (zU v):=by
    intro v
    induction v with
    |nil=>intro _;rw [zU];exact DQ.zero
    |cons a v w=>
     intro h;rw [zU];exact (h a (Qc ..)).add (w λx p=>h x (Qf _ p))
   exact this u
theorem YG {t:Nat}:∀{r:Rl} {l:List Cl},POk r->(∀c∈l,0<=c.1)->(amV l).sum<=2 ^ t->DP (Wc t r) (zE r l)
 | .shares,l,_,_,_=>λc q=>by
   simp only [zE,shP] at q
   split at q
   ·rw [Qv.mp q];exact YY _
   ·rcases Qk.mp q with rfl|q
    ·exact YY _
    ·rw [Qv.mp q];exact YY _
 | .evenly,l,_,_,_=>λc q=>by
   obtain ⟨z,_,rfl⟩:=Qj.mp q;exact YY _
 | .losses,l,_,_,_=>λc q=>by
   obtain ⟨z,_,rfl⟩:=Qj.mp q;exact YY _
 | .halves,l,_,nn,_=>by
   have ge:DP 0 (evP (amV l) (lvV (amV l))):=λc q=>by
    obtain ⟨z,_,rfl⟩:=Qj.mp q;exact YY _
   have gl:DP 0 (loP (amV l) (lvV (amV l))):=λc q=>by
    obtain ⟨z,_,rfl⟩:=Qj.mp q;exact YY _
   have st:=(Vv (WU (Yh nn))).std;have:=DP.upto (p:=1) (b:=2) (by decide) st (qL l) ge gl;have G:Rat.divInt 1 2=(1:Rat) / 2:=by decide+kernel
   have E:Wz (1 / 2) (evP (amV l) (lvV (amV l))) (loP (amV l) (lvV (amV l)))=yv (hvP (amV l) (lvV (amV l))):=by
    unfold Wz;rw [show (1:Rat) - 1 / 2=1 / 2 by decide+kernel];rfl
   rw [G,E] at this;exact this.mono (by show UY 2+0<=2;decide)
 | .other r,l,h,nn,s=>by
   have g:=(yT (r:=r) h nn).ful.std;refine DP.turned ?_ (YG (r:=r) h nn s);rw [g.lastC];exact qL l
 | .ranks r,l,h,nn,s=>by
   refine Ar (r:=r) (zZ l) [] _ RkI.nil (by rw [jaG];exact (xa l).1) (λk _=>⟨yT (r:=r) h (xf nn _),YG (r:=r) h (xf nn _) (jba (Xx nn _) s)⟩) λc q=>?_;rw [Qv.mp q];refine ⟨DQ.zero.mono (by omega),λx D=>?_⟩;rw [List.eq_of_mem_replicate D];exact DQ.zero.mono (by omega)
 | .groups a b,l,h,nn,s=>by
   have ga:=yT (r:=a) h.1 (jA nn);have A:=λ(g:Int) (_:g∈zI l)=>yT (r:=b) h.2 (xf nn (zL g));have nest:=Um (fa:=λl=>zE a l) (fb:=λl=>zE b l) ga.ful λg u=>(A g u).ful;have H:=YG (t:=t) (r:=a) h.1 (jA nn) (by rw [cW];exact s);have W:=kX nest (T:=zU (amQ (zM l))) (as:=amQ (zM l)) (by rw [Yq,<-ZG];exact ga.ful.std);have lk:=fF (fb:=λl=>zE b l) (l:=l) λg u=>(A g u).ful;refine DP.spread (m:=0) (kI l) (λc q=>by rw [(W.std.ok c q).1,lk]) (DP.within (T:=(amV l).sum) nest H (λQ w=>?_) (λQ w=>?_) ?_ s)
   ·obtain ⟨g,u,rfl⟩:=Qj.mp w;exact YG (r:=b) h.2 (xf nn _) (jba (Xx nn _) s)
   ·obtain ⟨g,u,rfl⟩:=Qj.mp w;have st:=(A g u).ful.std;refine ⟨st.rise,λc q=>?_⟩;have C:=st.range q;have:=jaq.mpr (Xx nn (zL g));rw [<-ZH] at this;exact ⟨C.1,TB C.2 this⟩
   ·rw [ga.ful.std.lastC];show zU (amQ (zM l))<=_;rw [ZH,cW];exact QY
 | .upto t' b x y,l,h,nn,s=>by
   have st:=(yT (r:=x) h.2.1 nn).ful.std;exact DP.upto (by have:=h.1.2.1;have:=h.1.2.2.1;omega) st (qL l) ((YG h.2.1 nn s).mono (Nat.le_max_left ..)) ((YG h.2.2 nn s).mono (Nat.le_max_right ..))
def WW:Rl->Nat
 | .halves=>2
 | .other r=>WW r
 | .ranks r=>WW r
 | .groups a b=>WW a+WW b+1
 | .upto _ _ x y=>WW x+WW y
 |_=>1
theorem tG (f:Int->Nat):∀g:List Int,(((g.map f).sum:Nat):Int)=(g.map λk=>(f k:Int)).sum
 |[]=>rfl
 |k::g=>by rw [Qp,QG,Qp,QG,<-tG f g];omega
theorem kO {α:Type}:∀l:List α,(l.map λ_=>(1:Int)).sum=(l.length:Nat)
 |[]=>rfl
 |a::l=>by rw [Qp,QG,kO l,Qw];omega
theorem dv (key:Cl->Int) {m:List Int} (p:m.Pairwise (·<·)) (l:List Cl) (h:∀c∈l,key c∈m):(m.map λg=>(l.filter λc=>decide (key c=g)).length).sum=l.length:=by
 have:=jC key (λ_=>1) p l h;rw [kO] at this;have e:=tG (λg=>(l.filter λc=>decide (key c=g)).length) m;have q:(m.map λg=>(((l.filter λc=>decide (key c=g)).length:Nat):Int))=m.map λg=>((l.filter λc=>decide (key c=g)).map λ_=>(1:Int)).sum:=TQ λg _=>(kO _).symm;rw [q,this] at e;omega
theorem Fc (f:List Cl->List zg) (l:List Cl) (P:List zg) (k:Int):(VJ f l P k).length<=P.length+((f (l.filter (yl k))).length - 1):=by
 unfold VJ;refine QT (ZC _).length_le ?_;unfold xb yI;simp only [Qr,Qa,jaM];omega
theorem lC {f:List Cl->List zg} {l:List Cl} {c:Nat}:∀(g:List Int) (P:List zg),(∀k∈g,(f (l.filter (yl k))).length<=c*(l.filter (yl k)).length+1)->(g.foldl (VJ f l) P).length<=P.length+c*(g.map λk=>(l.filter (yl k)).length).sum
 |[],P,_=>by simp
 |k::g,P,h=>by
  have s:=lC (c:=c) g (VJ f l P k) λm p=>h m (Qf _ p);have r:=Fc f l P k;have q:=h k (Qc ..);rw [List.foldl_cons,Qp,QG,Nat.mul_add];omega
theorem BG {P:List zg}:∀{Qs:List (List zg)} {k:Nat} {M:List Rat},(wpF P k Qs M).length<=M.length+(Qs.map List.length).sum
 |[],k,M=>by rw [wpF];simp
 |Q::Qs,k,M=>by
  rw [wpF];have m:=BG (P:=P) (Qs:=Qs) (k:=k+1) (M:=yA M (Yz P k Q));have h:=US M (Yz P k Q)
  have g:(Yz P k Q).length<=Q.length:=by
   unfold Yz;have:=jbg (yZ P k) (yf Q);unfold yf at this⊢;rw [Qa] at this;omega
  rw [Qp,QG];omega
theorem sM {f:Int->Nat} {g:Int->Nat} {c:Nat}:∀m:List Int,(∀k∈m,f k<=c*g k+1)->(m.map f).sum<=c*(m.map g).sum+m.length
 |[],_=>by simp
 |k::m,h=>by
  have s:=sM (c:=c) m λp q=>h p (Qf _ q);have r:=h k (Qc ..);rw [Qp,QG,Qp,QG,Qw,Nat.mul_add];omega
theorem jh {g:Int->Nat}:∀m:List Int,(∀k∈m,1<=g k)->m.length<=(m.map g).sum
 |[],_=>by simp
 |k::m,h=>by
  have s:=jh m λp q=>h p (Qf _ q);have r:=h k (Qc ..);rw [Qp,QG,Qw];omega
theorem Vt {l:List Cl} {g:Int} (h:g∈zI l):1<=(l.filter (zL g)).length:=by
 obtain ⟨c,m,rfl⟩:=Qj.mp (((yw l).2 g).mp h);exact jaU (Tv.mpr ⟨m,Tp rfl⟩)
theorem nH {l:List Cl} {g:Int} (h:g∈zZ l):1<=(l.filter (yl g)).length:=by
 obtain ⟨c,m,rfl⟩:=Qj.mp (((xa l).2 g).mp h);exact jaU (Tv.mpr ⟨m,Tp rfl⟩)
theorem Vu (l:List Cl):(zI l).length<=l.length:=by
 have q:=dv (·.2.2) (yw l).1 l λc m=>((yw l).2 _).mpr (Qj.mpr ⟨c,m,rfl⟩);have p:=jh (g:=λg=>(l.filter (zL g)).length) (zI l) λk h=>Vt h;rw [<-q];exact p
theorem Xj:∀{r:Rl} {l:List Cl},POk r->(∀c∈l,0<=c.1)->(zE r l).length<=WW r*l.length+1
 | .shares,l,_,_=>by
   show (shP (amV l)).length<=1*l.length+1;unfold shP
   split
   ·simp
   ·rename_i c;have:l≠[]:=λz=>c (by rw [z];rfl);have:=jaT.mpr this;simp only [Qw,List.length_nil];omega
 | .evenly,l,_,nn=>by
   have f:=(WU (Yh nn)).few;rw [xD] at f;show (evP _ _).length<=1*l.length+1;unfold evP;rw [Qa];omega
 | .losses,l,_,nn=>by
   have f:=(WU (Yh nn)).few;rw [xD] at f;show (loP _ _).length<=1*l.length+1;unfold loP;rw [Qa,To];omega
 | .halves,l,_,nn=>by
   have f:=(WU (Yh nn)).few;rw [xD] at f;show (yv _).length<=2*l.length+1;refine QT (ZC _).length_le ?_;unfold hvP hfA hfB xb zP evP loP;simp only [Qr,Qa,jaM,To];omega
 | .other r,l,h,nn=>by
   show (xq _).length<=WW r*l.length+1;unfold xq;rw [Qa,To];exact Xj (r:=r) h nn
 | .ranks r,l,h,nn=>by
   have q:=lC (f:=λl=>zE r l) (l:=l) (c:=WW r) (zZ l) (jz l.length) λk _=>Xj (r:=r) h (xf nn _);have m:=dv (·.2.1) (xa l).1 l λc p=>((xa l).2 _).mpr (Qj.mpr ⟨c,p,rfl⟩);have e:((zZ l).map λk=>(l.filter (yl k)).length).sum=l.length:=m;rw [e] at q;show (UH (λl=>zE r l) l).length<=WW r*l.length+1;have z:(jz l.length).length=1:=rfl;unfold UH;omega
 | .groups a b,l,h,nn=>by
   have ha:=Xj (r:=a) h.1 (jA nn);rw [ZG] at ha;have G:=Vu l;have m:=dv (·.2.2) (yw l).1 l λc p=>((yw l).2 _).mpr (Qj.mpr ⟨c,p,rfl⟩);have e:((zI l).map λk=>(l.filter (zL k)).length).sum=l.length:=m;have s:=sM (f:=λg=>(zE b (l.filter (zL g))).length) (g:=λg=>(l.filter (zL g)).length) (c:=WW b) (zI l) λk _=>Xj (r:=b) h.2 (xf nn _);rw [e] at s;have w:=BG (P:=zE a (zM l)) (Qs:=zS (λl=>zE b l) l) (k:=0) (M:=yf (zE a (zM l)))
   have eq:(zS (λl=>zE b l) l).map List.length=(zI l).map λg=>(zE b (l.filter (zL g))).length:=by
    unfold zS;rw [QI];rfl
   rw [eq] at w;have pl:(yf (zE a (zM l))).length=(zE a (zM l)).length:=by unfold yf;rw [Qa]
   rw [pl] at w;show (WY (λl=>zE a l) (λl=>zE b l) l).length<=(WW a+WW b+1)*l.length+1;unfold WY yI yK wpV;rw [Qa,Qa];show (wpF (zE a (zM l)) 0 (zS (λl=>zE b l) l) (yf (zE a (zM l)))).length<=_;have u:=Nat.mul_le_mul_left (WW a) G;rw [Nat.add_mul,Nat.add_mul,Nat.one_mul];omega
 | .upto t b x y,l,h,nn=>by
   have q:=Xj (r:=x) h.2.1 nn;have m:=Xj (r:=y) h.2.2 nn;show (Wz _ _ _).length<=(WW x+WW y)*l.length+1;unfold Wz;refine QT (ZC _).length_le ?_;unfold xb zP;simp only [Qr,Qa,jaM];rw [Nat.add_mul];omega
structure ClS (t:Nat) (l:List Cl):Prop where
 pos:0<l.length
 few:l.length<=8
 nn:∀c∈l,0<=c.1/\0<=c.2.1/\0<=c.2.2
 sum:(amV l).sum<=2 ^ t
theorem Xv:∀{as:List Int},(∀a∈as,0<=a)->∀a∈as,a<=as.sum
 |[],_,a,h=>absurd h Qx
 |b::as,nn,a,h=>by
  have h0:=nn b (Qc ..);have m:=VI λx g=>nn x (Qf _ g);rw [QG]
  rcases Qk.mp h with rfl|h
  ·omega
  ·have:=Xv (λx g=>nn x (Qf _ g)) a h;omega
section
variable {t:Nat} {l:List Cl} {r:Rl}
theorem wK {x:Int} (h0:0<=x) (h:x<=2 ^ t):Sz (t+1) x:=by
 unfold Sz;have e:(2:Int) ^ t=((2 ^ t:Nat):Int):=by rw [jbW];rfl
 have p:0<2 ^ t:=Nat.pow_pos (by decide);rw [e] at h;rw [Nat.pow_succ];omega
theorem ClS.n1 (h:ClS t l):∀c∈l,0<=c.1:=λc g=>(h.nn c g).1
theorem ClS.ok (h:ClS t l) (ht:t<=150):ClOk 160 l:=⟨h.pos,h.few,h.nn,λc g=>(wK (h.nn c g).1 (jba (Xv (Yh h.n1) c.1 (Qj.mpr ⟨c,g,rfl⟩)) h.sum)).mono (by omega)⟩
theorem ClS.filter (h:ClS t l) (p:Cl->Bool) (pos:1<=(l.filter p).length):ClS t (l.filter p):=⟨pos,QT (jbQ _ _) h.few,λc g=>h.nn c (Tv.mp g).1,jba (Xx h.n1 p) h.sum⟩
theorem BA:∀{l:List Int},(∀x∈l,0<=x)->0<=vi l
 |[],_=>jbN _
 |[a],h=>h a (Qc ..)
 |a::b::l,h=>by
  have p:=h a (Qc ..);have m:=BA (l:=b::l) λx g=>h x (Qf _ g);rw [vi]
  ·omega
  ·simp
theorem ClS.sums (h:ClS t l):ClS t (zM l):=by
 refine ⟨?_,by rw [ZG];exact QT (Vu l) h.few,λc m=>?_,by rw [cW];exact h.sum⟩
 ·rw [ZG];obtain ⟨c,m⟩:=List.exists_mem_of_length_pos h.pos;exact jaU (((yw l).2 _).mpr (Qj.mpr ⟨c,m,rfl⟩))
 ·obtain ⟨g,q,rfl⟩:=Qj.mp m;refine ⟨VI (Yh (xf h.n1 _)),BA λx p=>?_,?_⟩
  ·obtain ⟨c,m,rfl⟩:=Qj.mp p;exact (h.nn c (Tv.mp m).1).2.1
  ·obtain ⟨c,s,rfl⟩:=Qj.mp (((yw l).2 g).mp q);exact (h.nn c s).2.2
theorem DQ.sz {d:Nat} {x:Rat} {T:Int} (h:DQ d x) (x0:0<=x) (m:x<=(T:Rat)) (T0:0<=T) (p:T<=2 ^ t):SzQ (t+d+2) x:=by
 obtain ⟨D,g,q⟩:=h;exact (q.sz g.1 (wK (Int.le_of_lt g.1) g.2) x0 m ⟨T,rfl,wK T0 p⟩).mono (by omega)
theorem GP {m d t:Nat} {T:Rat} {as:List Rat} {P:List zg} {Z:Int} (h:Ful m T as P) (hd:DP d P) (C:T<=(Z:Rat)) (y:0<=Z) (u:Z<=2 ^ t):∀c∈P,SzC (t+d+2) c:=λc g=>by
 have s:=h.std.range g;have w:c.1<=(Z:Rat):=TB s.2 C
 have nn:∀q∈c.2,0<=q:=λq z=>by
  obtain ⟨i,A⟩:=Qu.mp z;exact h.std.nn h.mono c g i q A
 have le:=(ZA nn).2;rw [(h.std.ok c g).2] at le;exact ⟨(hd c g).1.sz s.1 w y u,λx p=>((hd c g).2 x p).sz (nn x p) (TB (le x p) w) y u⟩
theorem all_sz (h:POk r) (ok:ClS t l):∀c∈zE r l,SzC (t+Wc t r+2) c:=
 GP (yT h ok.n1).ful (YG h ok.n1 ok.sum) (by rw [ZH];exact QY) (VI (Yh ok.n1)) ok.sum
structure RuS (t:Nat) (r:Rl):Prop where
 pok:POk r
 ht:t<=150
 den:t+Wc t r+2<=700
 len:WW r<=50
theorem RuS.other (h:RuS t (.other r)):RuS t r:=⟨h.pok,h.ht,h.den,h.len⟩
theorem RuS.ranks (h:RuS t (.ranks r)):RuS t r:=⟨h.pok,h.ht,h.den,h.len⟩
theorem RuS.groups {a b:Rl} (h:RuS t (.groups a b)):RuS t a/\RuS t b:=by
 have d:=h.den;have f:=h.len;simp only [Wc] at d;simp only [WW] at f;exact ⟨⟨h.pok.1,h.ht,by omega,by omega⟩,⟨h.pok.2,h.ht,by omega,by omega⟩⟩
theorem RuS.upto {a b:Int} {x y:Rl} (h:RuS t (.upto a b x y)):RuS t x/\RuS t y:=by
 have d:=h.den;have f:=h.len;simp only [Wc] at d;simp only [WW] at f;exact ⟨⟨h.pok.2.1,h.ht,by omega,by omega⟩,⟨h.pok.2.2,h.ht,by omega,by omega⟩⟩
theorem RuS.few (h:RuS t r) (ok:ClS t l):(zE r l).length<=401:=by
 have f:=Xj h.pok ok.n1;have m:=Nat.mul_le_mul h.len ok.few;omega
theorem RuS.gf (h:RuS t r) (ok:ClS t l):GF r l (zE r l):=yT h.pok ok.n1
theorem RuS.R (h:RuS t r) (ok:ClS t l):PathR 700 (zE r l):=by
 have g:=(h.gf ok).ful.std;have f:=h.few ok;have p:=ok.few;refine ⟨g.ne,λc m=>(all_sz h.pok ok c m).mono h.den,λc m=>by rw [(g.ok c m).1];omega,by omega,g.rise,λc m=>?_⟩;rw [g.head] at m;cases m;rfl
theorem RuS.inn (h:RuS t r) (ok:ClS t l):PathIn (zE r l):=by
 have R:=h.R (l:=l) ok;have f:=h.few ok;exact ⟨R.ne,λc g=>(R.sz c g).mono (by decide),R.len,by omega⟩
end
section
variable {X:Cx}
def rMinL (K:PySem.W.Frag):List V->Hp->VK->Prop:=λxs H Q=>∃(p:Addr) (ns:List Int),xs=[.ref p]/\SqL K H p (ns.map V.int)/\0<ns.length/\∀m,m∈ns->(∀x∈ns,m<=x)->Q (.int m) H
theorem call_minL (M:X.calm=true):Vf X (.builtin "min") (rMinL X.K):=by
 intro pins s σ H xs us Q I r h;obtain ⟨p,ns,rfl,E,T,q⟩:=h;obtain ⟨u,rfl,y⟩:=gR r;cases y;obtain ⟨its,C,pl,hz⟩:=I.list E;have ht:=pl.isList;have m:=Vr C;have G:=m.length;have below:p≠s.heap.objs.size:=let ⟨_,e,_⟩:=ht;QE (Qn e)
 refine call_min_walk (jaO ht ⟨_,_,_,_,_,_,_,rfl,Walks.list (A:=X.A.in1) (I.ok.hd M) _ p below its.toArray,⟨⟨_,Qt _ rfl,rfl,rfl⟩,ht.push _⟩,λb N=>?_,by simpa using (by omega:0<its.length),CmpOf.ints_lt (λi=>ns.getD i 0) (dw m),λv h' tk O J=>?_⟩)
 ·rw [QM]
  rcases Qk.mp N with z|z
  ·rw [z];exact QU _
  ·rw [Qv.mp z];obtain ⟨_,e,_⟩:=ht;exact Tt (Qn e)
 ·obtain ⟨t,rfl⟩:=dw m _ v O;obtain ⟨P,w⟩:=argBest_lt (λi=>ns.getD i 0) (its.toArray.size - 1);have g:its.toArray.size=ns.length:=by simpa using G
  rw [g] at P w;rw [g];refine ⟨.int _,H,I.kept (t':=tk) λb o e=>J b o (λz=>?_) (Qh _ e),⟨t,rfl⟩,q _ ?_ λx D=>?_⟩
  ·rw [Qv.mp z] at e;exact absurd (Qn e) (jaf _)
  ·dsimp only;rw [Qo,Qe (by omega)];exact Tu _
  ·obtain ⟨j,L,rfl⟩:=TN D;have:=w j (by omega);rwa [show ns.getD j 0=ns[j] by rw [Qo,Qe L];rfl] at this
end
section
variable {B G0 H:Hp} {cs:zY} {ds:Dat} {Q:VK} {E:XK} {v w u:V} {K:PySem.W.Frag} {L:Addr}
theorem HM {ns:List Int} (S:Sta B G0 H cs ds) (h:(L,ns.map PyData.int)∈cs) (hn:0<ns.length) (k:∀m,m∈ns->(∀x∈ns,m<=x)->Q (.int m) H):rMinL K [.ref L] H Q:=by
 obtain ⟨vs,hp,u⟩:=S.vwC h;obtain ⟨G,g⟩:=id S;rw [yF (u G g)] at hp;exact ⟨L,ns,rfl,SqL.of hp,hn,k⟩
end
theorem fv {n:Nat} {e:Rat}:∀{a:List zg},(∀c∈a,c.2.length<=n)->(zm a e).length<=n
 |[],_=>by simp [zm]
 |[c],h=>h c (Qc ..)
 |c::d::r,h=>by
  rw [zm]
  split
  ·unfold gQ;rw [QO];have:=h c (Qc ..);omega
  ·exact fv λx g=>h x (Qf _ g)
theorem Ci {n:Nat}:∀{Qs:List (List zg)} {ps:List Rat} (i:Nat),(∀Q∈Qs,∀c∈Q,c.2.length<=n)->((List.zipWith zm Qs ps).take i).flatten.length<=n*Qs.length
 |[],ps,i,_=>by simp
 |Q::Qs,[],i,_=>by simp
 |Q::Qs,p::ps,0,_=>by simp
 |Q::Qs,p::ps,i+1,h=>by
  have q:=Ci (ps:=ps) i λm g=>h m (Qf _ g);have:=fv (e:=p) (h Q (Qc ..));rw [jap,List.take_succ_cons,Ti,Qr,Qw,Nat.mul_succ];omega
theorem getD_some {l:List Rat} {k:Nat} (h:k<l.length):l[k]? =some (l.getD k 0):=by rw [Qo,Qe h];rfl
theorem Dv {P:List zg} {Qs:List (List zg)} {M:List Rat} {i:Nat} {e:Rat} (h:e∈wpF P 0 (Qs.take i) M):e∈wpF P 0 Qs M:=by
 rcases aX.mp h with h|⟨j,Q,g,m⟩
 ·exact aX.mpr (.inl h)
 ·refine aX.mpr (.inr ⟨j,Q,?_,m⟩);rw [List.getElem?_take] at g
  split at g
  ·exact g
  ·cases g
theorem FU {α:Type} {G:List α} {x y:α}:atI (G++[x,y]) (-2)=some x:=by
 unfold atI ixN;rw [QS (by decide),QH (by simp;omega)];show (G++[x,y])[_]? =_;rw [show ((-2:Int)+((G++[x,y]).length:Nat)).toNat=G.length by simp;omega]
 simp
section
variable {B G0 H:Hp} {cs:zY} {ds:Dat} {Q:VK} {E:XK} {v w u:V} {K:PySem.W.Frag} {xs ys:List PyData} {vs:List V} {R:It->Hp->Prop}
theorem se (S:Sta B G0 H cs ds) (h:Has ds (.tuple xs) v) (m:Has ds (.list ys) w) (k:∀J,Wk B G0 J (wb xs ys) (λcs ds=>Has ds (.tuple xs) v/\(∀x u,Has ds (.list ys) w->Has ((x,u)::ds) (.list ys) w)/\Has ds (.list ys) w)->R J H):kZi false true K R [v,w] H:=by
 obtain ⟨p,vs,rfl,hp,_⟩:=S.tup h;obtain ⟨q,ws,rfl,g,_⟩:=S.lst m;exact ⟨p,q,rfl,⟨_,SqT.of hp⟩,⟨_,SqL.of g⟩,k _ (wy dQ Vj)⟩
structure ReachOk (m k n b:Nat) (P:List zg) (L:List Rat):Prop where
 pm:PathM m P
 pr:PathR0 n P
 kn:k<m
 lev:∀l∈L,SzQ b l/\∀c,P[0]? =some c->c.2.getD k 0<=l
 sz:b+6*n+4<=8999
 few:L.length<=450
def pO:Sp:=spL (α:=List zg×Nat×List Rat) (λa=>[yy a.1, .int (a.2.1:Nat), .list (a.2.2.map frD)]) (λa=>∃m n b,ReachOk m a.2.1 n b a.1 a.2.2) (λa=>(a.2.2.filterMap (yZ a.1 a.2.1)).map frD)
theorem DT {P:List zg} {k m n b:Nat} {L:List Rat} (S:Sta B G0 H cs ds) (h:Has ds (yy P) v) (g:Has ds (.list (L.map frD)) u) (ok:ReachOk m k n b P L)
 (q:∀p H',zH H H'->Sta B G0 H' ((p,(L.filterMap (yZ P k)).map frD)::cs) ds->Q (.ref p) H'):pO [v, .int (k:Nat),u] H Q E:=
 Zm (P,k,L) S (.cons h (.cons .int (.cons g .nil))) ⟨m,n,b,ok⟩ q
end
section
variable {P:List zg} {Qs:List (List zg)}
theorem PathR.r0 {n:Nat} {a:List zg} (h:PathR n a):PathR0 n a:=⟨h.ne,h.sz,h.len,h.few,h.rise⟩
end
theorem dk:∀(xs ys:List Rat),xs.length<=(yA xs ys).length
 |[],ys=>jai _
 |x::xs,[]=>by rw [yA];exact Qq _
 |x::xs,y::ys=>by
  have m:=dk xs (y::ys);have h:=dk xs ys;have g:=dk (x::xs) ys;rw [yA]
  split
  ·simp only [Qw] at*;omega
  ·split
   ·simp only [Qw] at*;omega
   ·simp only [Qw] at*;omega
termination_by xs ys=>xs.length+ys.length
structure PWO (P:List zg) (Qs:List (List zg)) (e:Rat):Prop where
 p:PathR 700 P
 q:∀Q∈Qs,PathR 700 Q/\∀c∈Q,c.2.length<=8
 len:(zm P e).length=Qs.length
 few:Qs.length<=8
 ez:SzQ 700 e
 e0:0<=e
 part:∀p∈zm P e,SzQ 700 p/\0<=p
structure WithO (P:List zg) (Qs:List (List zg)):Prop where
 nest:Nest P Qs
 pr:PathR 700 P
 qr:∀Q∈Qs,PathR 700 Q/\∀c∈Q,c.2.length<=8
 szM:∀e∈wpV P Qs,SzQ 700 e/\∀p∈zm P e,SzQ 700 p
 ql:∀Q∈Qs,Q.length<=401
 pl:P.length<=401
 few:Qs.length<=8
 lenV:(wpV P Qs).length<=401
section
variable {B G0 H:Hp} {cs:zY} {ds:Dat} {Q:VK} {E:XK} {v w u:V} {K:PySem.W.Frag} {xs ys:List PyData} {vs:List V} {P:List zg} {Qs:List (List zg)}
def aC:Sp:=spT (α:=List zg×List (List zg)×Rat) (λa=>[yy a.1, .list (a.2.1.map yy),frD a.2.2]) (λa=>PWO a.1 a.2.1 a.2.2) (λa=>yu (xi a.2.1 (zm a.1 a.2.2)))
theorem qe {e:Rat} (S:Sta B G0 H cs ds) (m:Has ds (yy P) v) (h:Has ds (.list (Qs.map yy)) w) (g:Has ds (frD e) u) (ok:PWO P Qs e)
 (k:∀r H',zH H H'->Sta B G0 H' cs ((yu (xi Qs (zm P e)),r)::ds)->Q r H'):aC [v,w,u] H Q E:=
 Zg (P,Qs,e) S (.cons m (.cons h (.cons g .nil))) ok k
def Us:Sp:=spL (α:=List zg×List (List zg)) (λa=>[yy a.1, .list (a.2.map yy)]) (λa=>WithO a.1 a.2) (λa=>(yK a.1 a.2).map zG)
theorem uB (S:Sta B G0 H cs ds) (h:Has ds (yy P) v) (g:Has ds (.list (Qs.map yy)) w) (ok:WithO P Qs)
 (k:∀p H',zH H H'->Sta B G0 H' ((p,(yK P Qs).map zG)::cs) ds->Q (.ref p) H'):Us [v,w] H Q E:=
 Zm (P,Qs) S (.cons h (.cons g .nil)) ok k
theorem Fb {P:List zg} {Qs:List (List zg)} {M:List Rat} (i:Nat):(wpF P 0 (Qs.take i) M).length<=(wpF P 0 Qs M).length:=by
 have mono:∀(Qs:List (List zg)) (k:Nat) (M:List Rat),M.length<=(wpF P k Qs M).length:=by
  intro Qs
  induction Qs with
  |nil=>intro k M;rw [wpF];exact Qq _
  |cons Q Qs g=>
   intro k M;rw [wpF];refine QT ?_ (g (k+1) _);exact dk M _
 have:∀(Qs:List (List zg)) (i k:Nat) (M:List Rat),(wpF P k (Qs.take i) M).length<=(wpF P k Qs M).length:=by
  intro Qs
  induction Qs with
  |nil=>intro i k M;rw [List.take_nil];exact Qq _
  |cons Q Qs g=>
   intro i k M
   cases i with
   |zero=>rw [List.take_zero,wpF];exact mono _ k M
   |succ i=>rw [List.take_succ_cons,wpF,wpF];exact g i (k+1) _
 exact this Qs i 0 M
theorem WithO.len (h:WithO P Qs) (i:Nat):(wpF P 0 (Qs.take i) (yf P)).length<=401:=QT (Fb i) h.lenV
theorem WithO.pw (h:WithO P Qs) {e:Rat} (he:e∈wpV P Qs):PWO P Qs e:=by
 have r:=h.nest.in_range he;refine ⟨h.pr,h.qr,h.nest.plen e,h.few,(h.szM e he).1,r.1,λp hp=>⟨(h.szM e he).2 p hp,?_⟩⟩;obtain ⟨k,g⟩:=Qu.mp hp;have m:k<Qs.length:=by rw [<-h.nest.plen e];exact (Qg.mp g).1
 exact (h.nest.range r.1 r.2 (Qe m) g).1
theorem WithO.reach (h:WithO P Qs) {k:Nat} {Q:List zg} (g:Qs[k]? =some Q):ReachOk Qs.length k 700 700 P (yf Q):=by
 have p:=Qb g;have q:k<Qs.length:=(Qg.mp g).1;refine ⟨h.nest.pm,h.pr.r0,q,λl s=>?_,by decide,by unfold yf;rw [Qa];have:=h.ql Q p;omega⟩;obtain ⟨c,m,rfl⟩:=Qj.mp s;refine ⟨((h.qr Q p).1.sz c m).1,λd hd=>?_⟩;obtain ⟨r,e⟩:=h.nest.p0;rw [e] at hd;cases hd;rw [Qo,QL,QH q];exact (h.nest.qpos g c m).1
theorem uI {L:Addr} {ys:List PyData} (S:Sta B G0 H ((L,xs)::cs) ds) (g:Has ds (.list ys) w) (hz:xs.length+ys.length<=1000) (k:∀H',Sta B G0 H' ((L,xs++ys)::cs) ds->Q .non H'):AO (.ref L) [w] H Q:=by
 obtain ⟨p,us,e,hp,m,s,al⟩:=S.lstAll g;obtain ⟨vs,r,t,put⟩:=s.put;subst e;refine ⟨L,p,vs,us,rfl,rfl,r,hp,?_,k _ ((put (xs++ys) (vs++us) λG a b=>b.app (al G a)).weak (jbf _) λq h=> .mem (Qz _ h))⟩;rw [<-m,<-t];exact QT hz (jbP rfl)
theorem HK {L:Addr} {d:PyData} {n:Nat} (S:Sta B G0 H cs ds) (h:(L,[d])∈cs) (hn:n<=1000) (k:∀l H',zH H H'->Sta B G0 H' ((l,List.replicate n d)::cs) ds->Q (.ref l) H'):rRep (.ref L) (.int (n:Int)) H Q:=by
 obtain ⟨vs,hp,t,A,_⟩:=S.cellAll h;obtain ⟨z,rfl⟩:=List.length_eq_one_iff.mp t.symm
 ·refine ⟨L,(n:Int),_,rfl,rfl,hp,by omega,by omega,?_,λp g=>?_⟩
  ·show 1*n<=sizeLine;have:1000<=sizeLine:=by decide
   omega
  ·rw [Ts];show Q (.ref p) (upd H p (.lst (List.replicate n [z]).flatten));rw [qc];have y:Sta B G0 H cs ((d,z)::ds):=A;refine k p _ (zH.new g _) ((y.newL (xs:=List.replicate n d) (vs:=List.replicate n z) g λG a=>?_).dat λq s=> .mem (Qf _ s));have r:Is G d z:=a (d,z) (Qc ..);clear hn k
   induction n with
   |zero=>rw [List.replicate_zero,List.replicate_zero,zu]
   |succ n m=>rw [Tc,Tc,zu];exact ⟨_,_,rfl,r,m⟩
theorem eB (p:Rat) (i:Nat):∀(z:List (Rat×Nat)) (w:List Rat),xP (z++[(p,i)]) w=(xP z w).set i p
 |[],w=>rfl
 |(q,j)::z,w=>by rw [TH,xP,xP,eB p i z]
theorem lF {n j:Nat} (h:j<n):ixN n (j:Int)=some j:=by
 unfold ixN;rw [QH (by omega),QH (by omega),Ts]
theorem qH {α β:Type} (p:α->Bool) (f:α->β):∀xs:List α,xs.filterMap (λj=>if p j=true then some (f j) else none)=(xs.filter p).map f
 |[]=>rfl
 |x::xs=>by
  rw [jaB,jbB,qH p f xs]
  split
  ·rename_i h
   split at h
   ·cases h
   ·rw [QS (by assumption)]
  ·rename_i h
   split at h
   ·cases h;rw [QH (by assumption),Qp]
   ·cases h
theorem nI (p:Cl->Bool) (l:List Cl):(List.range l.length).filterMap (λj=>if p (l.getD j (0,0,0)) then some (PyData.int (j:Int)) else none)=(xN p l).map λ(i:Nat)=>PyData.int (i:Int):=by
 unfold xN;exact qH (λj=>p (l.getD j (0,0,0))) (λ(j:Nat)=>PyData.int (j:Int)) _
theorem qo:∀{l:List Int} {x:Int},x∈l->vi l<=x/\vi l∈l
 |[],x,h=>absurd h Qx
 |[a],x,h=>by rw [Qv.mp h,vi];exact ⟨jbN _,jbj _⟩
 |a::b::l,x,h=>by
  have e:vi (a::b::l)=min a (vi (b::l)):=by rw [vi];simp
  have g:=qo (l:=b::l) (Qc ..);rw [e];refine ⟨?_,?_⟩
  ·rcases Qk.mp h with rfl|h
   ·omega
   ·have:=(qo (l:=b::l) h).1;omega
  ·rcases Int.le_total a (vi (b::l)) with z|z
   ·rw [Int.min_eq_left z];exact Qc ..
   ·rw [Int.min_eq_right z];exact Qf _ g.2
theorem Iw {l:List Int} {m:Int} (h:m∈l) (low:∀x∈l,m<=x):m=vi l:=by
 have:=qo h;have:=low _ this.2;omega
def plD (pl:List Nat):PyData:= .list (pl.map λ(i:Nat)=>PyData.int (i:Int))
def aA:Sp:=spL (α:=List Cl×List Nat) (λa=>[zo a.1,plD a.2]) (λa=>(∀i∈a.2,i<a.1.length)/\a.2.length<=8) (λa=>(ZS (0,0,0) a.2 a.1).map zB)
theorem dg {l:List Cl} {pl:List Nat} (S:Sta B G0 H cs ds) (h:Has ds (zo l) v) (g:Has ds (plD pl) w) (lt:∀i∈pl,i<l.length) (few:pl.length<=8) (k:∀p H',zH H H'->Sta B G0 H' ((p,(ZS (0,0,0) pl l).map zB)::cs) ds->Q (.ref p) H'):aA [v,w] H Q E:=
 Zm (l,pl) S (.cons h (.cons g .nil)) ⟨lt,few⟩ k
def XQ (p:Int->Cl->Bool):Sp:=spL (α:=List Cl×Int) (λa=>[zo a.1, .int a.2]) (λa=>a.1.length<=8) (λa=>(xN (p a.2) a.1).map λ(i:Nat)=>PyData.int (i:Int))
theorem nu {p:Int->Cl->Bool} {l:List Cl} {g:Int} (S:Sta B G0 H cs ds) (h:Has ds (zo l) v) (few:l.length<=8) (k:∀q H',zH H H'->Sta B G0 H' ((q,(xN (p g) l).map λ(i:Nat)=>PyData.int (i:Int))::cs) ds->Q (.ref q) H'):XQ p [v, .int g] H Q E:=
 Zm (l,g) S (.cons h (.cons Has.int .nil)) few k
def DE:Sp:=spT (α:=List Cl×Int) (λa=>[zo a.1, .int a.2]) (λa=>0<a.1.length/\a.1.length<=8) (λa=>zB (Ii a.2 a.1))
theorem rd_one {l:List Cl} {g:Int} (S:Sta B G0 H cs ds) (h:Has ds (zo l) v) (pos:0<l.length) (few:l.length<=8) (k:∀q H',zH H H'->Sta B G0 H' cs ((zB (Ii g l),q)::ds)->Q q H'):DE [v, .int g] H Q E:=
 Zg (l,g) S (.cons h (.cons Has.int .nil)) ⟨pos,few⟩ k
structure SpO (pl:List Nat) (n:Nat) (v:List Rat):Prop where
 pls:Pls n pl
 len:v.length=pl.length
 few:n<=8
def dW:Sp:=spT (α:=List Rat×List Nat×Nat) (λa=>[yu a.1,plD a.2.1, .int (a.2.2:Int)]) (λa=>SpO a.2.1 a.2.2 a.1) (λa=>yu (yL a.2.1 a.2.2 a.1))
theorem uE {pl:List Nat} {n:Nat} {x:List Rat} (S:Sta B G0 H cs ds) (h:Has ds (yu x) v) (g:Has ds (plD pl) w) (ok:SpO pl n x) (k:∀q H',zH H H'->Sta B G0 H' cs ((yu (yL pl n x),q)::ds)->Q q H'):dW [v,w, .int (n:Int)] H Q E:=
 Zg (x,pl,n) S (.cons h (.cons g (.cons Has.int .nil))) ok k
def Ut:Sp:=spL (α:=List zg×List Nat×Nat) (λa=>[yy a.1,plD a.2.1, .int (a.2.2:Int)]) (λa=>(∀c∈a.1,SpO a.2.1 a.2.2 c.2)/\a.1.length<=450) (λa=>(yI a.2.1 a.2.2 a.1).map zG)
theorem nk {pl:List Nat} {n:Nat} {x:List zg} (S:Sta B G0 H cs ds) (h:Has ds (yy x) v) (g:Has ds (plD pl) w) (ok:∀c∈x,SpO pl n c.2) (few:x.length<=450) (k:∀q H',zH H H'->Sta B G0 H' ((q,(yI pl n x).map zG)::cs) ds->Q (.ref q) H'):Ut [v,w, .int (n:Int)] H Q E:=
 Zm (x,pl,n) S (.cons h (.cons g (.cons Has.int .nil))) ⟨ok,few⟩ k
noncomputable def Yv (t n:Nat):Sp:=spL (α:=Rl×List Cl) (λa=>[a.1.shape,zo a.2]) (λa=>(RuS t a.1/\a.1.deep<=n)/\ClS t a.2) (λa=>(zE a.1 a.2).map zG)
theorem Zy {t n:Nat} {r:Rl} {l:List Cl} (S:Sta B G0 H cs ds) (g:Has ds r.shape v) (h:Has ds (zo l) w) (ru:RuS t r) (hn:r.deep<=n) (ok:ClS t l) (k:∀p H',zH H H'->Sta B G0 H' ((p,(zE r l).map zG)::cs) ds->Q (.ref p) H'):Yv t n [v,w] H Q E:=Zm (r,l) S (.cons g (.cons h .nil)) ⟨⟨ru,hn⟩,ok⟩ k
noncomputable def jK (t n:Nat):Sp:=spL (α:=Rl×List Cl) (λa=>[a.1.shape,zo a.2]) (λa=>(RuS t a.1/\a.1.deep<=n)/\ClS t a.2) (λa=>(UH (λl=>zE a.1 l) a.2).map zG)
theorem AA {t n:Nat} {r:Rl} {l:List Cl} (S:Sta B G0 H cs ds) (g:Has ds r.shape v) (h:Has ds (zo l) w) (ru:RuS t r) (hn:r.deep<=n) (ok:ClS t l) (k:∀p H',zH H H'->Sta B G0 H' ((p,(UH (λl=>zE r l) l).map zG)::cs) ds->Q (.ref p) H'):jK t n [v,w] H Q E:=Zm (r,l) S (.cons g (.cons h .nil)) ⟨⟨ru,hn⟩,ok⟩ k
noncomputable def dZ (t n:Nat):Sp:=spL (α:=(Rl×Rl)×List Cl) (λa=>[a.1.1.shape,a.1.2.shape,zo a.2]) (λa=>(RuS t (.groups a.1.1 a.1.2)/\a.1.1.deep<=n/\a.1.2.deep<=n)/\ClS t a.2) (λa=>(WY (λl=>zE a.1.1 l) (λl=>zE a.1.2 l) a.2).map zG)
theorem uG {t n:Nat} {a b:Rl} {l:List Cl} (S:Sta B G0 H cs ds) (q:Has ds a.shape v) (m:Has ds b.shape u) (h:Has ds (zo l) w) (ru:RuS t (.groups a b)) (ha:a.deep<=n) (g:b.deep<=n) (ok:ClS t l) (k:∀p H',zH H H'->Sta B G0 H' ((p,(WY (λl=>zE a l) (λl=>zE b l) l).map zG)::cs) ds->Q (.ref p) H'):dZ t n [v,u,w] H Q E:=Zm ((a,b),l) S (.cons q (.cons m (.cons h .nil))) ⟨⟨ru,ha,g⟩,ok⟩ k
noncomputable def dX (A:RAd) (t n:Nat):Sp:=spL (α:=Rl×List Cl) (λa=>[a.1.ins A,zo a.2]) (λa=>(RuS t a.1/\a.1.deep<=n)/\ClS t a.2) (λa=>(zE a.1 a.2).map zG)
theorem kE {A:RAd} {t n:Nat} {r:Rl} {l:List Cl} (S:Sta B G0 H cs ds) (g:Has ds (r.ins A) v) (h:Has ds (zo l) w) (ru:RuS t r) (hn:r.deep<=n) (ok:ClS t l) (k:∀p H',zH H H'->Sta B G0 H' ((p,(zE r l).map zG)::cs) ds->Q (.ref p) H'):dX A t n [v,w] H Q E:=Zm (r,l) S (.cons g (.cons h .nil)) ⟨⟨ru,hn⟩,ok⟩ k
end
theorem Sta.rot3 {B p H:Hp} {cs:zY} {ds:Dat} {m h g:Addr×List PyData} (S:Sta B p H (m::h::g::cs) ds):Sta B p H (g::m::h::cs) ds:=S.permC ((List.Perm.cons _ (List.Perm.swap _ _ _)).trans (List.Perm.swap _ _ _))
theorem oj:∀{g:List (List Nat)},(∀L∈g,L.length<=8)->g.flatten.length<=8*g.length
 |[],_=>by simp
 |L::g,h=>by
  have r:=h L (Qc ..);have q:=oj λp m=>h p (Qf _ m);rw [Ti,Qr,Qw];omega
theorem Hb {done:List Int}:∀{l:List Cl},(∀c∈l,0<=c.1)->zU (asD done l)<=zU (amQ l)
 |[],_=>QY
 |c::l,nn=>by
  have p:=Hb (done:=done) λx g=>nn x (Qf _ g);have h0:=Cv (nn c (Qc ..));have m:asD done (c::l)=(if c.2.1∈done then (c.1:Rat) else 0)::asD done l:=rfl;have h:amQ (c::l)=(c.1:Rat)::amQ l:=rfl;rw [m,h,zU,zU]
  split<;>grind
noncomputable def rkP (r:Rl) (l:List Cl) (i:Nat):List zg:=((zZ l).take i).foldl (VJ (λl=>zE r l) l) (jz l.length)
section
variable {t:Nat} {r a b:Rl} {l:List Cl} {i:Nat} {k:Int}
theorem DO (g:(zZ l)[i]? =some k):rkP r l (i+1)=VJ (λl=>zE r l) l (rkP r l i) k:=by
 unfold rkP;rw [TX,g,List.foldl_append];rfl
theorem HH (r:Rl) (l:List Cl):rkP r l (zZ l).length=UH (λl=>zE r l) l:=by
 unfold rkP UH;rw [List.take_length]
theorem rkP_ok (ru:RuS t r) (ok:ClS t l) (i:Nat):RkI r l ((zZ l).take i) (rkP r l i)/\(∀c∈rkP r l i,SzC 700 c)/\(rkP r l i).length<=401:=by
 have pw:([]++(zZ l).take i).Pairwise (·<·):=jaZ (List.take_sublist _ _) (xa l).1;have gf:∀k∈(zZ l).take i,GF r (l.filter (yl k)) (zE r (l.filter (yl k)))/\DP (Wc t r) (zE r (l.filter (yl k))):=λk _=>⟨yT ru.pok (xf ok.n1 _),YG ru.pok (xf ok.n1 _) (jba (Xx ok.n1 _) ok.sum)⟩;have R:=qb (f:=λl=>zE r l) ((zZ l).take i) [] _ (RkI.nil (r:=r) (l:=l)) pw λk m=>(gf k m).1
 have D:=Ar (d:=Wc t r) (f:=λl=>zE r l) ((zZ l).take i) [] _ (RkI.nil (r:=r) (l:=l)) pw gf λc g=>by
  rw [Qv.mp g];refine ⟨DQ.zero.mono (by omega),λx h=>?_⟩;rw [List.eq_of_mem_replicate h];exact DQ.zero.mono (by omega)
 rw [jaG] at R;refine ⟨R,λc g=>?_,?_⟩
 ·have T0:=VI (Yh ok.n1);have le:=Hb (done:=(zZ l).take i) ok.n1;rw [ZH] at le;exact (GP R.ful D le T0 ok.sum c g).mono ru.den
 ·have f:=lC (f:=λl=>zE r l) (l:=l) (c:=WW r) ((zZ l).take i) (jz l.length) λk _=>Xj ru.pok (xf ok.n1 _);have p:=dv (·.2.1) (xa l).1 l λc g=>((xa l).2 _).mpr (Qj.mpr ⟨c,g,rfl⟩);have e:((zZ l).map λk=>(l.filter (yl k)).length).sum=l.length:=p
  have sub:(((zZ l).take i).map λk=>(l.filter (yl k)).length).sum<=((zZ l).map λk=>(l.filter (yl k)).length).sum:=by
   conv=>rhs;rw [<-List.take_append_drop i (zZ l)]
   rw [QF,List.sum_append];omega
  rw [e] at sub;have q:=Nat.mul_le_mul_left (WW r) sub;have m2:=Nat.mul_le_mul ru.len ok.few;have z:(jz l.length).length=1:=rfl;unfold rkP;omega
theorem AV {P:List zg} {m:Nat} {T:Rat} {as:List Rat} (st:Std m T as P) (hm:m<=8) (sz:∀c∈P,SzC 700 c) (few:P.length<=401):PathIn P:=
 ⟨st.ne,λc g=>(sz c g).mono (by decide),λc g=>by rw [(st.ok c g).1];omega,by omega⟩
theorem wO {P:List zg} {pl:List Nat} {n:Nat} (hp:Pls n pl) (p:∀c∈P,c.2.length=pl.length) (h:∀c∈P,SzC 700 c):∀c∈yI pl n P,SzC 700 c:=λc u=>by
 obtain ⟨c,g,rfl⟩:=Qj.mp u;refine ⟨(h c g).1,λx m=>?_⟩;obtain ⟨i,s⟩:=Qu.mp m
 rcases Zb hp (p c g) s with ⟨j,_,q⟩|⟨_,rfl⟩
 ·exact (h c g).2 x (Qb q)
 ·unfold SzQ Sz;decide
theorem As (ru:RuS t r) (ok:ClS t l) (E:(zZ l)[i]? =some k):
 PathIn (rkP r l i)/\PathIn (yI (xN (yl k) l) l.length (zE r (l.filter (yl k))))/\PathOk l.length (rkP r l i++xb (rkP r l i) (yI (xN (yl k) l) l.length (zE r (l.filter (yl k))))):=by
 obtain ⟨R,sz,few⟩:=rkP_ok ru ok i;have h:=ok.filter (yl k) (nH (Qb E));have g:=(ru.gf h).ful;have G:=ru.R h;have lk:=Wa (yl k) l;have w:=UL (yl k) l;have y:=g.spread w lk;have m:=wO w (λc s=>by rw [(g.std.ok c s).1,lk]) G.sz;have p:(yI (xN (yl k) l) l.length (zE r (l.filter (yl k)))).length<=401:=by unfold yI;rw [Qa];exact ru.few h
 have st:=lW R.ful.std y.std;refine ⟨AV R.ful.std ok.few sz few,AV y.std ok.few m p,λc s=>?_,λc s=>(st.ok c s).1,by have:=ok.few;omega,?_⟩
 ·rcases QX.mp s with z|z
  ·exact (sz c z).mono (by decide)
  ·obtain ⟨d,hd,rfl⟩:=Qj.mp z;have z1:=sz _ (nX R.ful.std.ne);have z2:=m d (TF hd);refine ⟨(z1.1.add z2.1).mono (by decide),λq D=>?_⟩;obtain ⟨u,C,v,A,rfl⟩:=dG D;exact ((z1.2 u C).add (z2.2 v A)).mono (by decide)
 ·unfold xb;simp only [Qr,Qa,jaM];omega
theorem BZ (ru:RuS t (.groups a b)) (ok:ClS t l):WithO (zE a (zM l)) (zS (λl=>zE b l) l):=by
 obtain ⟨ra,y⟩:=ru.groups;have s:=ok.sums;have m:∀g∈zI l,ClS t (l.filter (zL g)):=λg h=>ok.filter (zL g) (Vt h);have ga:=ra.gf s;have C:=λg h=>y.gf (m g h);have nest:=Um (fa:=λl=>zE a l) (fb:=λl=>zE b l) ga.ful λg h=>(C g h).ful;have T0:=VI (Yh ok.n1)
 have z:(lastC (zE a (zM l))).1<=(((amV l).sum:Int):Rat):=by
  rw [ga.ful.std.lastC];show zU (amQ (zM l))<=_;rw [ZH,cW];exact QY
 have I:=ru.den;simp only [Wc] at I;have L:=Vu l;have K:=ok.few;refine ⟨nest,ra.R s,λQ w=>?_,λe he=>?_,λQ w=>?_,ra.few s,by rw [Yq];omega,?_⟩
 ·obtain ⟨g,h,rfl⟩:=Qj.mp w;refine ⟨y.R (m g h),λc H=>?_⟩;rw [((C g h).ful.std.ok c H).1];exact (m g h).few
 ·have D:=nest.den (YG (t:=t) ra.pok s.n1 s.sum) (b:=Wc t b) (λQ w=>by
   obtain ⟨g,h,rfl⟩:=Qj.mp w
   exact YG y.pok (m g h).n1 (m g h).sum) z ok.sum he
  have u:=nest.in_range he;refine ⟨(D.1.sz u.1 (TB u.2 z) T0 ok.sum).mono (by omega),λp hp=>?_⟩
  have nn:∀q∈zm (zE a (zM l)) e,0<=q:=λq G=>by
   obtain ⟨k,A⟩:=Qu.mp G;have J:k<(zS (λl=>zE b l) l).length:=by rw [<-nest.plen e];exact (Qg.mp A).1
   exact (nest.range u.1 u.2 (Qe J) A).1
  have le:=(ZA nn).2 p hp;rw [ga.ful.std.sum u.1] at le;have E:mn e (zU (amQ (zM l)))<=e:=by unfold mn;split<;>grind
  exact ((D.2 p hp).sz (nn p hp) (by have:=u.2;grind) T0 ok.sum).mono (by omega)
 ·obtain ⟨g,h,rfl⟩:=Qj.mp w;exact y.few (m g h)
 ·have f:=ru.few ok
  have e:(zE (.groups a b) l).length=(wpV (zE a (zM l)) (zS (λl=>zE b l) l)).length:=by
   show (WY (λl=>zE a l) (λl=>zE b l) l).length=_;unfold WY yI yK;rw [Qa,Qa]
  omega
theorem Ca (ru:RuS t (.groups a b)) (ok:ClS t l):(∀c∈yK (zE a (zM l)) (zS (λl=>zE b l) l),SpO (wg l) l.length c.2)/\(yK (zE a (zM l)) (zS (λl=>zE b l) l)).length<=450:=by
 obtain ⟨ra,p⟩:=ru.groups;have w:=BZ ru ok;have h:∀g∈zI l,ClS t (l.filter (zL g)):=λg m=>ok.filter (zL g) (Vt m);have ga:=ra.gf ok.sums;have lk:=fF (fb:=λl=>zE b l) (l:=l) λg m=>(p.gf (h g m)).ful;have W:=kX w.nest (T:=zU (amQ (zM l))) (as:=amQ (zM l)) (by rw [Yq,<-ZG];exact ga.ful.std);refine ⟨λc q=>⟨kI l,by rw [(W.std.ok c q).1,lk],ok.few⟩,?_⟩;have:=w.lenV;unfold yK;rw [Qa];omega
theorem iU {P:List zg} {m:Nat} {p:Rat} (ok:PathIn P) (h:∀c∈P,SzC 700 c) (hp:SzQ m p) (hm:m<=1000):PathIn (zP p P):=by
 refine ⟨λe=>ok.ne (List.map_eq_nil_iff.mp e),λc g=>(aG h hp c g).mono (by omega),λc g=>?_,by unfold zP;rw [Qa];exact ok.few⟩;obtain ⟨d,hd,rfl⟩:=Qj.mp g;rw [Qa];exact ok.len d hd
theorem RuS.up {t' s:Int} {x y:Rl} (h:RuS t (.upto t' s x y)) (ok:ClS t l):UpOk (Rat.divInt t' s) (zE x l) (zE y l):=by
 obtain ⟨p,m⟩:=h.upto;have g:=HW h.pok.1;have one:SzQ 1 (1:Rat):=by unfold SzQ Sz;decide+kernel
 have C:SzQ 212 (1 - Rat.divInt t' s):=(one.sub g).mono (by decide);have E:=p.R (l:=l) ok;have py:=m.R (l:=l) ok;have N:=(p.gf ok).ful.std;have M:=(m.gf ok).ful.std;have w:=p.inn (l:=l) ok;have G:=m.inn (l:=l) ok;have pi:=fo h.pok.1;have D:=aG E.sz g;have H:=aG py.sz C;have Q:=Xj p.pok ok.n1;have P:=Xj m.pok ok.n1;have f:=h.len;simp only [WW] at f;have O:=ok.few;have I:=Nat.mul_le_mul (show WW x+WW y<=50 from f) O;rw [Nat.add_mul] at I;have st:=lW (WG pi.1 N) (WG (show 0<1 - Rat.divInt t' s by grind) M);refine ⟨g.mono (by decide),w,G,iU w E.sz g (by decide),iU G py.sz C (by decide),l.length,⟨λc A=>?_,λc A=>(st.ok c A).1,by omega,?_⟩⟩
 ·rcases QX.mp A with z|z
  ·exact (D c z).mono (by decide)
  ·obtain ⟨d,hd,rfl⟩:=Qj.mp z;have a:=D _ (nX (λe=>w.ne (List.map_eq_nil_iff.mp e)));have b:=H d (TF hd);refine ⟨(a.1.add b.1).mono (by decide),λq L=>?_⟩;obtain ⟨u,K,v,J,rfl⟩:=dG L;exact ((a.2 u K).add (b.2 v J)).mono (by decide)
 ·unfold xb zP;simp only [Qr,Qa,jaM];omega
end
end S
namespace S
open PySem PySem.Spec PyProof.Rows L2
section
variable {B G0 H:Hp} {cs:zY} {ds:Dat} {Q:VK} {E:XK} {v w u:V} {K:PySem.W.Frag} {n:Nat} {r x y a b':Rl} {l:List Cl} {tk:List Int} {t b:Int} {k g:Int}
def jJ (A:RAd) (n:Nat):Sp:=spT (α:=Rl) (λr=>[r.shape]) (λr=>r.deep<=n) (λr=>r.ins A)
theorem XZ {A:RAd} {n:Nat} (S:Sta B G0 H cs ds) (h:Has ds r.shape v) (hn:r.deep<=n) (k:∀p H',zH H H'->Sta B G0 H' cs ((r.ins A,p)::ds)->Q p H'):jJ A n [v] H Q E:=Zg r S (.cons h .nil) hn k
end
structure ClZ (size:Int) (l:List Cl):Prop where
 pos:0<l.length
 few:l.length<=8
 nn:∀c∈l,0<=c.1/\0<=c.2.1/\0<=c.2.2
 lt:∀c∈l,c.1<size
theorem dN {size:Int} (h0:0<=size):∀{as:List Int},(∀a∈as,a<size)->as.sum<=(as.length:Int)*size
 |[],_=>by simp
 |a::as,h=>by
  have p:=h a (Qc ..);have m:=dN h0 (as:=as) λx g=>h x (Qf _ g);rw [QG,Qw,Int.natCast_add,Int.add_mul];omega
theorem ClZ.S {size:Int} {l:List Cl} {s:Nat} (h:ClZ size l) (h0:0<=size) (p:size<=2 ^ s):ClS (s+3) l:=by
 refine ⟨h.pos,h.few,h.nn,?_⟩
 have m:=dN h0 (as:=amV l) λa ha=>by
  obtain ⟨c,g,rfl⟩:=Qj.mp ha;exact h.lt c g
 rw [xD] at m;have q:(l.length:Int)*size<=8*size:=Int.mul_le_mul_of_nonneg_right (by have:=h.few;omega) h0;rw [Int.pow_add];have e:(2:Int) ^ 3=8:=by decide
 rw [e];omega
section
variable {B G0 H:Hp} {cs:zY} {ds:Dat} {Q:VK} {E:XK} {v w u:V} {K:PySem.W.Frag}
def ef (K:PySem.W.Frag):Sp:=λvs H Q _=>∃(G:Hp) (a:Addr) (ns:List Int) (at' many size:Int),vs=[.ref a, .int at', .int many, .int size]/\zH G H/\SqL K H a (ns.map V.int)/\(0<=at'/\1<=many/\many<=8/\10<=size/\size<=10 ^ 46)/\
 ∀(l:List Cl) (p:Addr) (H' g:Hp) (us:List V),l.length=many.toNat->ClZ size l->Grow G H g H'->H p=none->g p=none->H' p=some (.lst us)->zu g (l.map zB) us->Q (.ref p) H'
theorem uJ {a:Addr} {ns:List Int} {at' many size:Int} (S:Sta B G0 H cs ds) (s:SqL K H a (ns.map V.int)) (r:0<=at'/\1<=many/\many<=8/\10<=size/\size<=10 ^ 46)
 (k:∀(l:List Cl) (p:Addr) (H':Hp),l.length=many.toNat->ClZ size l->zH H H'->Sta B G0 H' ((p,l.map zB)::cs) ds->Q (.ref p) H'):ef K [.ref a, .int at', .int many, .int size] H Q E:=by
 obtain ⟨G,S⟩:=S;exact ⟨G,a,ns,at',many,size,rfl,S.2.1,s,r,λl p H' z us y t gr hp q m g=>k l p H' y t gr.h (Sta.put_call S gr hp q m g)⟩
end
def nd:Rl->Nat
 | .other r=>nd r+1
 | .ranks r=>nd r+1
 | .groups a b=>nd a+nd b+1
 | .upto _ _ x y=>nd x+nd y+1
 |_=>1
theorem fB:∀r:Rl,1<=nd r
 | .shares=>Qq _
 | .evenly=>Qq _
 | .losses=>Qq _
 | .halves=>Qq _
 | .other r=>by simp [nd]
 | .ranks r=>by simp [nd]
 | .groups a b=>by simp [nd]
 | .upto _ _ x y=>by simp [nd]
def PS6:Rl->Prop
 | .other r=>PS6 r
 | .ranks r=>PS6 r
 | .groups a b=>PS6 a/\PS6 b
 | .upto t b x y=>(ah t b/\UY b<=6)/\PS6 x/\PS6 y
 |_=>True
theorem PS6.pok:∀{r:Rl},PS6 r->POk r
 | .shares,_=>trivial
 | .evenly,_=>trivial
 | .losses,_=>trivial
 | .halves,_=>trivial
 | .other r,h=>PS6.pok (r:=r) h
 | .ranks r,h=>PS6.pok (r:=r) h
 | .groups a b,h=>⟨PS6.pok h.1,PS6.pok h.2⟩
 | .upto _ _ x y,h=>⟨h.1.1,PS6.pok h.2.1,PS6.pok h.2.2⟩
theorem fE {t:Nat}:∀{r:Rl},PS6 r->(nd r<=2->Wc t r<=2)/\(nd r<=4->Wc t r<=18+2*t)/\(nd r<=6->Wc t r<=98+12*t)
 | .shares,_=>⟨λ_=>by simp only [Wc];omega,λ_=>by simp only [Wc];omega,λ_=>by simp only [Wc];omega⟩
 | .evenly,_=>⟨λ_=>by simp only [Wc];omega,λ_=>by simp only [Wc];omega,λ_=>by simp only [Wc];omega⟩
 | .losses,_=>⟨λ_=>by simp only [Wc];omega,λ_=>by simp only [Wc];omega,λ_=>by simp only [Wc];omega⟩
 | .halves,_=>⟨λ_=>by simp only [Wc];omega,λ_=>by simp only [Wc];omega,λ_=>by simp only [Wc];omega⟩
 | .other r,h=>by
   have g:=fE (t:=t) (r:=r) h;simp only [Wc,nd];exact ⟨λz=>g.1 (by omega),λz=>g.2.1 (by omega),λz=>g.2.2 (by omega)⟩
 | .ranks r,h=>by
   have g:=fE (t:=t) (r:=r) h;simp only [Wc,nd];exact ⟨λz=>g.1 (by omega),λz=>g.2.1 (by omega),λz=>g.2.2 (by omega)⟩
 | .groups a b,h=>by
   obtain ⟨a1,a2,u⟩:=fE (t:=t) (r:=a) h.1;obtain ⟨m,q,s⟩:=fE (t:=t) (r:=b) h.2;have pa:=fB a;have pb:=fB b;simp only [Wc,nd];refine ⟨λz=>absurd z (by omega),λz=>?_,λz=>?_⟩
   ·have:=a1 (by omega);have:=m (by omega);omega
   ·by_cases c:nd a<=2
    ·have:=a1 c
     by_cases d:nd b<=2
     ·have:=m d;omega
     ·have:=q (by omega);omega
    ·have:=a2 (by omega);have:=m (by omega);omega
 | .upto p b x y,h=>by
   obtain ⟨a1,a2,u⟩:=fE (t:=t) (r:=x) h.2.1;obtain ⟨m,q,s⟩:=fE (t:=t) (r:=y) h.2.2;have pa:=fB x;have pb:=fB y;have w:=h.1.2;simp only [Wc,nd];refine ⟨λz=>absurd z (by omega),λz=>?_,λz=>?_⟩
   ·have:=a1 (by omega);have:=m (by omega);omega
   ·have:=a2 (by omega);have:=q (by omega);omega
theorem fC:∀r:Rl,WW r<=2*nd r
 | .shares=>by simp [WW,nd]
 | .evenly=>by simp [WW,nd]
 | .losses=>by simp [WW,nd]
 | .halves=>by simp [WW,nd]
 | .other r=>by have:=fC r;simp only [WW,nd];omega
 | .ranks r=>by have:=fC r;simp only [WW,nd];omega
 | .groups a b=>by have:=fC a;have:=fC b;simp only [WW,nd];omega
 | .upto _ _ x y=>by have:=fC x;have:=fC y;simp only [WW,nd];omega
theorem fD:∀r:Rl,r.deep<=nd r
 | .shares=>by simp [nd,Rl.deep]
 | .evenly=>by simp [nd,Rl.deep]
 | .losses=>by simp [nd,Rl.deep]
 | .halves=>by simp [nd,Rl.deep]
 | .other r=>by have:=fD r;simp only [nd,Rl.deep];omega
 | .ranks r=>by have:=fD r;simp only [nd,Rl.deep];omega
 | .groups a b=>by have:=fD a;have:=fD b;simp only [nd,Rl.deep];omega
 | .upto _ _ x y=>by have:=fD x;have:=fD y;simp only [nd,Rl.deep];omega
structure JOk (t k N:Nat) (r:Rl):Prop where
 ps:PS6 r
 pos:1<=N
 den:Wc t r<=98+12*t+6*k
 len:WW r<=2*N
 deep:r.deep<=N
 size:r.size<=N+k
theorem Uo:∀r:Rl,r.size=nd r
 | .shares=>rfl
 | .evenly=>rfl
 | .losses=>rfl
 | .halves=>rfl
 | .other r=>by have:=Uo r;simp only [Rl.size,nd];omega
 | .ranks r=>by have:=Uo r;simp only [Rl.size,nd];omega
 | .groups a b=>by have:=Uo a;have:=Uo b;simp only [Rl.size,nd];omega
 | .upto _ _ x y=>by have:=Uo x;have:=Uo y;simp only [Rl.size,nd];omega
theorem JOk.of {t:Nat} {r:Rl} (h:PS6 r) (hn:nd r<=6):JOk t 0 (nd r) r:=
 ⟨h,fB r,by have:=(fE (t:=t) h).2.2 hn;omega,fC r,fD r,by have:=Uo r;omega⟩
theorem JOk.join {t k N M:Nat} {p b:Int} {x y:Rl} (hp:ah p b) (m:UY b<=6) (h:JOk t 0 M x) (g:JOk t k N y):JOk t (k+1) (M+N) (.upto p b x y):=by
 have a:=h.den;have c:=g.den;have a2:=h.len;have u:=g.len;have A:=h.deep;have s:=g.deep;have z:=h.pos;have r:=g.pos;have w:=h.size;have q:=g.size;exact ⟨⟨⟨hp,m⟩,h.ps,g.ps⟩,by omega,by simp only [Wc];omega,by simp only [WW];omega,by simp only [Rl.deep];omega,by simp only [Rl.size];omega⟩
theorem JOk.ru {t k N:Nat} {r:Rl} (h:JOk t k N r) (ht:t<=36) (g:k<=6) (m:N<=7):RuS t r/\True/\r.deep<=7:=by
 have a:=h.den;have b:=h.len;have d:=h.deep;exact ⟨⟨h.ps.pok,by omega,by omega,by omega⟩,trivial,by omega⟩
theorem GG {b:Int} (h0:0<b) (h:b<=61):UY b<=6:=by
 unfold UY
 have:b.toNat.log2<=5:=by
  by_cases z:b.toNat=0
  ·rw [z];decide
  ·have:=(Nat.log2_lt z (k:=6)).mpr (by omega);omega
 omega
theorem Small.ps {t b:Int} (h:Small t b):ah t b/\UY b<=6:=⟨h.port,GG (by have:=h.port.2.1;have:=h.port.2.2.1;omega) h.le⟩
theorem Cg (n:Nat):PS6 (iB n)/\nd (iB n)=1:=by
 match n with
 |0=>exact ⟨trivial,rfl⟩
 |1=>exact ⟨trivial,rfl⟩
 |2=>exact ⟨trivial,rfl⟩
 |n+3=>exact ⟨trivial,rfl⟩
def ndS (rs:List Rl):Nat:=(rs.map nd).sum
theorem Yi (rs:List Rl) (r:Rl):ndS (rs++[r])=ndS rs+nd r:=by unfold ndS;rw [QF,List.sum_append];rfl
theorem WT:∀rs:List Rl,rs.length<=ndS rs
 |[]=>Qq _
 |r::rs=>by
  have:=WT rs;have:=fB r;unfold ndS at*;rw [Qp,QG,Qw];omega
def Drn (r:Rl):Prop:=∃k N,(∀t,JOk t k N r)/\k<=6/\N<=7
section
variable {B G0 H:Hp} {cs:zY} {ds:Dat} {Q:VK} {E:XK} {v w u:V} {K:PySem.W.Frag}
def pR:Sp:=λvs H Q _=>∃(G:Hp) (c:Int),vs=[.int c]/\zH G H/\∀v H' G' (n:Nat),Grow G H G' H'->Is G' (iB n).shape v->Q v H'
theorem DX {c:Int} (S:Sta B G0 H cs ds) (k:∀v H' (n:Nat),zH H H'->Sta B G0 H' cs (((iB n).shape,v)::ds)->Q v H'):pR [.int c] H Q E:=by
 obtain ⟨G,S⟩:=S;refine ⟨G,c,rfl,S.2.1,λv H' t n gr g=>k v H' n gr.h ?_⟩;obtain ⟨s,r,q,d',p,m,g'⟩:=S.grow gr;exact ⟨t,s,r,q,d',p,m,g'.cons g⟩
theorem Ax {G H':Hp} {n:Nat} (S:Sta H G H' cs ds) (k:∀v H' g (n:Nat),Grow G H g H'->Is g (iB n).shape v->Q v H') (h:Has ds (iB n).shape v):Q v H':=by
 obtain ⟨g,gr,al⟩:=S.leave;exact k v H' g n gr (h g al)
def jH:Sp:=λvs H Q _=>∃(G:Hp) (ns:List Int) (g:Bool) (v:V),vs=[v, .bl g]/\zH G H/\Is G (eZ ns) v/\ns.length<=6/\∀w H' G' (r:Rl),Grow G H G' H'->Is G' r.shape w->Drn r->Q w H'
theorem Az {ns:List Int} {g:Bool} (S:Sta B G0 H cs ds) (h:Has ds (eZ ns) v) (p:ns.length<=6) (k:∀w H' (r:Rl),Drn r->zH H H'->Sta B G0 H' cs ((r.shape,w)::ds)->Q w H'):jH [v, .bl g] H Q E:=by
 obtain ⟨G,S⟩:=S;refine ⟨G,ns,g,v,rfl,S.2.1,h G S.2.2.2.2.2.2,p,λw H' A r gr m good=>k w H' r good gr.h ?_⟩;obtain ⟨z,y,t,d',s,q,g'⟩:=S.grow gr;exact ⟨A,z,y,t,d',s,q,g'.cons m⟩
theorem iV {G H':Hp} {r:Rl} (S:Sta H G H' cs ds) (k:∀w H' g (r:Rl),Grow G H g H'->Is g r.shape w->Drn r->Q w H') (h:Has ds r.shape w) (m:Drn r):Q w H':=by
 obtain ⟨g,gr,al⟩:=S.leave;exact k w H' g r gr (h g al) m
end
theorem tD (xs:List PyData) (x:PyData):gP (xs++[x]) none (some (-1))=xs:=by
 have e:HT.sIx (xs++[x]).length (xs++[x]).length (some (-1))=xs.length:=by
  rw [Qr,Tx];unfold HT.sIx
  simp
  try omega
 unfold gP;rw [HT.sIx_none,e,List.drop_zero,Nat.sub_zero];exact List.take_left
theorem lL (xs:List PyData) (x y:PyData):gP (xs++[x,y]) none (some (-2))=xs:=by
 have e:HT.sIx (xs++[x,y]).length (xs++[x,y]).length (some (-2))=xs.length:=by
  rw [Qr];unfold HT.sIx
  simp
  try omega
 unfold gP;rw [HT.sIx_none,e,List.drop_zero,Nat.sub_zero];exact List.take_left
section
variable {B G0 H:Hp} {cs:zY} {ds:Dat} {Q:VK} {E:XK} {v w u:V} {K:PySem.W.Frag}
end
theorem if2 {p q:Bool} {A X Y:Prop} (h:(if q=true then X else Y)->A) (m:p=true->q=true->X) (g:(p && q)=false->Y):if p=true then A else Y:=by
 cases p
 ·exact g rfl
 ·cases q
  ·exact h (g rfl)
  ·exact h (m rfl rfl)
theorem if3 {p q r:Bool} {A m X Y:Prop} (h:(if q=true then m else Y)->A) (h':(if r=true then X else Y)->m) (s:p=true->q=true->r=true->X) (g:(p && (q && r))=false->Y):if p=true then A else Y:=by
 cases p
 ·exact g rfl
 ·cases q
  ·exact h (g rfl)
  ·exact h (h' (by
    cases r
    ·exact g rfl
    ·exact s rfl rfl rfl))
section
variable {B G0 H:Hp} {cs:zY} {ds:Dat} {Q:VK} {E:XK} {v w u:V} {K:PySem.W.Frag}
noncomputable def Uv (A:RAd) (t n:Nat):Sp:=spT (α:=Rl×List Cl×Rat) (λa=>[a.1.ins A,zo a.2.1,frD a.2.2]) (λa=>((RuS t a.1/\a.1.deep<=n)/\ClS t a.2.1)/\SzQ 4000 a.2.2/\0<=a.2.2) (λa=>yu (zm (zE a.1 a.2.1) a.2.2))
theorem WM {A:RAd} {t n:Nat} {r:Rl} {l:List Cl} {e:Rat} (S:Sta B G0 H cs ds) (q:Has ds (r.ins A) v) (h:Has ds (zo l) w) (m:Has ds (frD e) u) (ru:RuS t r) (hn:r.deep<=n) (ok:ClS t l) (g:SzQ 4000 e) (e0:0<=e) (k:∀p H',zH H H'->Sta B G0 H' cs ((yu (zm (zE r l) e),p)::ds)->Q p H'):Uv A t n [v,w,u] H Q E:=Zg (r,l,e) S (.cons q (.cons h (.cons m .nil))) ⟨⟨⟨ru,hn⟩,ok⟩,g,e0⟩ k
end
def Dm (l:List Cl):Prop:=l.length=0\/8<l.length\/∃c∈l,c.1<0\/c.2.1<0\/c.2.2<0
def BadP (n:Int) (ps:List Int):Prop:=∃p∈ps,p<0\/n<=p
def FY (n:Int) (ps:List Int):Prop:=∀p∈ps,0<=p/\p<n
def iL (l:List Cl) (ps:List Rat):Prop:=ps.length=l.length/\∀(i:Nat) (c:Cl) (p:Rat),l[i]? =some c->ps[i]? =some p->0<=p/\p<=(c.1:Rat)
section
variable {B G0 H:Hp} {cs:zY} {ds:Dat} {Q:VK} {E:XK} {v w u:V} {K:PySem.W.Frag} {R a:Addr} {n:Str}
def cY (R:Addr):Sp:=λvs H _ E=>∃l:List Cl,zu H [zo l] vs/\(Dm l/\l.length<=900)/\∀H',zH H H'->E (.ref R) none H'
theorem nE {l:List Cl} (S:Sta B G0 H cs ds) (h:Has ds (zo l) v) (bad:Dm l) (few:l.length<=900) (k:∀H',zH H H'->Sta B G0 H' cs ds->E (.ref R) none H'):cY R [v] H Q E:=⟨l,S.hpAll (.cons h .nil),⟨bad,few⟩,λH' e=>k H' e (S.same e)⟩
def jL (A:RAd) (R:Addr):Sp:=λvs H _ E=>∃(r:Rl) (l:List Cl),zu H [r.ins A,zo l] vs/\(Dm l/\l.length<=900)/\∀H',zH H H'->E (.ref R) none H'
theorem rZ {A:RAd} {r:Rl} {l:List Cl} (S:Sta B G0 H cs ds) (g:Has ds (r.ins A) v) (h:Has ds (zo l) w) (bad:Dm l) (few:l.length<=900) (k:∀H',zH H H'->Sta B G0 H' cs ds->E (.ref R) none H'):jL A R [v,w] H Q E:=⟨r,l,S.hpAll (.cons g (.cons h .nil)),⟨bad,few⟩,λH' e=>k H' e (S.same e)⟩
def jN (A:RAd) (R:Addr):Sp:=λvs H _ E=>∃(r:Rl) (l:List Cl) (u:V),(∃v w,vs=[v,w,u]/\zu H [r.ins A,zo l] [v,w])/\(Dm l/\l.length<=900)/\∀H',zH H H'->E (.ref R) none H'
theorem nA {A:RAd} {r:Rl} {l:List Cl} (S:Sta B G0 H cs ds) (g:Has ds (r.ins A) v) (h:Has ds (zo l) w) (bad:Dm l) (few:l.length<=900) (k:∀H',zH H H'->Sta B G0 H' cs ds->E (.ref R) none H'):jN A R [v,w,u] H Q E:=⟨r,l,u,⟨v,w,rfl,S.hpAll (.cons g (.cons h .nil))⟩,⟨bad,few⟩,λH' e=>k H' e (S.same e)⟩
noncomputable def jM (A:RAd) (t n:Nat) (R:Addr):Sp:=λvs H _ E=>∃(G:Hp) (r:Rl) (l:List Cl) (e:Rat),zH G H/\zu G [r.ins A,zo l,frD e] vs/\((RuS t r/\r.deep<=n)/\ClS t l/\e.num<0)/\∀H',zH H H'->E (.ref R) none H'
theorem ny {A:RAd} {t n:Nat} {r:Rl} {l:List Cl} {e:Rat} (S:Sta B G0 H cs ds) (m:Has ds (r.ins A) v) (h:Has ds (zo l) w) (g:Has ds (frD e) u) (ru:RuS t r) (hn:r.deep<=n) (ok:ClS t l) (he:e.num<0) (k:∀H',zH H H'->Sta B G0 H' cs ds->E (.ref R) none H'):jM A t n R [v,w,u] H Q E:=by
 have p:=S;obtain ⟨G,S⟩:=S;exact ⟨G,r,l,e,S.2.1,(yc.cons m (yc.cons h (yc.cons g yc.nil))) G S.2.2.2.2.2.2,⟨⟨ru,hn⟩,ok,he⟩,λH' e=>k H' e (p.same e)⟩
def Hy (R:Addr):Sp:=λvs H Q E=>∃(u v:V) (e:Rat),vs=[u,v]/\Is H (frD e) v/\e.num<0/\E (.ref R) none H
theorem rd_pax {e:Rat} (S:Sta B G0 H cs ds) (h:Has ds (frD e) v) (he:e.num<0) (k:E (.ref R) none H):Hy R [u,v] H Q E:=⟨u,v,e,rfl,S.hp h,he,k⟩
def Hx (R:Addr):Sp:=λvs H Q E=>∃(ps:List Int) (n:Int),zu H [eZ ps, .int n] vs/\(BadP n ps->∀H',zH H H'->E (.ref R) none H')/\(FY n ps->∀H',zH H H'->Q .non H')
theorem Gx {ps:List Int} {m:Int} (S:Sta B G0 H cs ds) (h:Has ds (eZ ps) v) (q:BadP m ps->∀H',zH H H'->Sta B G0 H' cs ds->E (.ref R) none H') (p:FY m ps->∀H',zH H H'->Sta B G0 H' cs ds->Q .non H'):Hx R [v, .int m] H Q E:=⟨ps,m,S.hpAll (.cons h (.cons .int .nil)),λb H' e=>q b H' e (S.same e),λg H' e=>p g H' e (S.same e)⟩
def DG (R:Addr):Sp:=λvs H Q E=>∃(l:List Cl) (ps:List Rat),zu H [zo l, .list (ps.map frD)] vs/\((∀c∈l,0<=c.1/\Sz 160 c.1)/\(∀p∈ps,SzQ 4000 p)/\l.length<=8/\ps.length<=9)/\(¬iL l ps->∀H',zH H H'->E (.ref R) none H')/\(iL l ps->∀H',zH H H'->Q .non H')
theorem rd_dvX {l:List Cl} {ps:List Rat} (S:Sta B G0 H cs ds) (r:Has ds (zo l) v) (h:Has ds (.list (ps.map frD)) w) (ok:(∀c∈l,0<=c.1/\Sz 160 c.1)/\(∀p∈ps,SzQ 4000 p)/\l.length<=8/\ps.length<=9) (q:¬iL l ps->∀H',zH H H'->Sta B G0 H' cs ds->E (.ref R) none H') (m:iL l ps->∀H',zH H H'->Sta B G0 H' cs ds->Q .non H'):DG R [v,w] H Q E:=⟨l,ps,S.hpAll (.cons r (.cons h .nil)),ok,λb H' e=>q b H' e (S.same e),λg H' e=>m g H' e (S.same e)⟩
def wR:Sp:=spT (α:=List Rat) (λps=>[.list (ps.map frD)]) (λps=>(∃n,(∀p∈ps,SzQ n p)/\n<=4499)/\ps.length<=8) (λps=>frD (zU ps))
def spPoX (A:RAd) (R:Addr):Sp:=λvs H _ E=>∃(r:Rl) (l:List Cl) (u:V),(∃v w,vs=[v,w,u]/\zu H [r.ins A,zo l] [v,w])/\(Dm l/\l.length<=900)/\∀H',zH H H'->E (.ref R) none H'
noncomputable def spPoG (A:RAd) (n:Nat) (R:Addr):Sp:=λvs H Q E=>∃(G:Hp) (r:Rl) (l:List Cl) (ps:List Rat),zH G H/\zu G [r.ins A,zo l, .list (ps.map frD)] vs/\(RuS 24 r/\r.deep<=n/\ClS 23 l/\(∀p∈ps,SzQ 1000 p)/\ps.length<=9)/\(¬iL l ps->∀H',zH H H'->E (.ref R) none H')/\(iL l ps->∀v H',zH H H'->Q v H')
def aE (R:Addr) (n:Str):Sp:=λvs H Q _=>∃(G:Hp) (a:Addr),zH G H/\vs=[.ref a]/\H a=some (tq a R)/\∀v H' g,Grow G H g H'->Is g (.list [.str n]) v->Q v H'
theorem dh (S:Sta B G0 H cs ds) (ha:H a=some (tq a R)) (k:∀r H',zH H H'->Sta B G0 H' cs ((.list [.str n],r)::ds)->Q r H'):aE R n [.ref a] H Q E:=by
 obtain ⟨G,S⟩:=S;refine ⟨G,a,S.2.1,rfl,ha,λv H' y gr g=>k v H' gr.h ?_⟩;obtain ⟨t,s,q,d',p,m,g'⟩:=S.grow gr;exact ⟨y,t,s,q,d',p,m,g'.cons g⟩
theorem jb {c:Addr} {b:Bool} (S:Sta B G0 H cs ds) (ha:B a=some (tq a R)) (g:ExcIn K R) (e:PySem.W.kitOne K (.ref R) (.ref c)=some b) (k:Q (.bl b) H):rIsE K [.ref a, .ref c] H Q:=⟨a,R,_,_,b,rfl,S.base _ _ ha,g,λ_ r=>r,e,k⟩
theorem rd_isV {T:String} {b:Bool} (S:Sta B G0 H cs ds) (ha:B a=some (tq a R)) (g:ExcIn K R) (e:PySem.W.kitOne K (.ref R) (.type T)=some b) (k:Q (.bl b) H):rIsE K [.ref a, .ty T] H Q:=⟨a,R,_,_,b,rfl,S.base _ _ ha,g,λ_ r=>r,e,k⟩
end
theorem ClS.pair {l:List Cl} {a b:Cl} (h:ClS 23 l) (ha:a∈l) (m:b∈l):ClS 24 [a,b]:=by
 have q:=Xv (Yh h.n1) a.1 (Qj.mpr ⟨a,ha,rfl⟩);have p:=Xv (Yh h.n1) b.1 (Qj.mpr ⟨b,m,rfl⟩);have s:=h.sum;refine ⟨by simp,by simp,λc g=>?_,?_⟩
 ·simp only [Qk,Qx,or_false] at g
  rcases g with rfl|rfl
  ·exact h.nn _ ha
  ·exact h.nn _ m
 ·show a.1+(b.1+0)<=2 ^ 24;have e:(2:Int) ^ 24=2 ^ 23+2 ^ 23:=by decide
  omega
theorem Ful.parts {m:Nat} {T:Rat} {as:List Rat} {P:List zg} (h:Ful m T as P) {e:Rat} (h0:0<=e):∀q∈zm P e,0<=q/\q<=T:=by
 have nn:∀q∈zm P e,0<=q:=λq g=>by
  obtain ⟨i,t,rfl⟩:=TN g;have ln:=h.std.len (e:=e);have z:=h.std.zero;have pm:=h.pm;obtain ⟨r,p⟩:=h.std.cons;rw [p] at pm;have mo:=YD h0 pm QY;rw [<-p,z] at mo;exact mo i 0 _ (by rw [QL,QH (by omega)]) (Qe t)
 obtain ⟨_,le⟩:=ZA nn;have s:=h.std.sum h0;have u:mn e T<=T:=by unfold mn;split<;>grind
 intro q g;have:=le q g;exact ⟨nn q g,by grind⟩
section
variable {t de:Nat} {r:Rl} {l:List Cl} {e:Rat}
theorem RuS.dens (h:RuS t r) (ok:ClS t l) (he:DQ de e):∀q∈zm (zE r l) e,DQ (de+4*Wc t r+t) q:=by
 have g:=(h.gf ok).ful;have u:=YG h.pok ok.n1 ok.sum;refine aV (m:=0) (T:=(amV l).sum) he ok.sum g.std.rise (λc s=>?_) u;have p:=g.std.range s;rw [ZH] at p;exact p
theorem RuS.part (h:RuS t r) (ok:ClS t l) (he:DQ de e) (h0:0<=e):∀q∈zm (zE r l) e,0<=q/\SzQ (de+4*Wc t r+2*t+2) q:=λq g=>by
 have p:=(h.gf ok).ful.parts h0 q g;rw [ZH] at p;exact ⟨p.1,((h.dens ok he q g).sz p.1 p.2 (VI (Yh ok.n1)) ok.sum).mono (by omega)⟩
end
def xO (n:Nat) (ps:List Int):List Nat:=(List.range n).filter λ(i:Nat)=>!decide ((i:Int)∈ps)
theorem kM {α:Type} (d:α) (l:List α) (ps:List Int):(ZS d (xO l.length ps) l).Sublist l:=by
 have h:((List.range l.length).map λi=>l.getD i d)=l:=by
  have:=zF (λx:α=>x) d l
  simpa using this
 have:=(List.filter_sublist (p:=λ(i:Nat)=>!decide ((i:Int)∈ps)) (l:=List.range l.length)).map λi=>l.getD i d;rw [h] at this;exact this
theorem Hu {a b:List Cl} (h:a.Sublist b):(∀c∈b,0<=c.1)->(amV a).sum<=(amV b).sum:=by
 induction h with
 |slnil=>intro _;exact jbN _
 |cons x h g=>
  intro nn;have:=g λc m=>nn c (Qf _ m);have:=nn x (Qc ..);show _<=x.1+(amV _).sum;omega
 |cons_cons x h g=>
  intro nn;have:=g λc m=>nn c (Qf _ m);show x.1+(amV _).sum<=x.1+(amV _).sum;omega
theorem ClS.stay {t:Nat} {l:List Cl} {ps:List Int} (h:ClS t l) (ne:xO l.length ps≠[]):ClS t (ZS (0,0,0) (xO l.length ps) l):=by
 have s:=kM (0,0,0) l ps;refine ⟨?_,QT s.length_le h.few,λc g=>h.nn c (s.subset g),jba (Hu s λc g=>(h.nn c g).1) h.sum⟩;rw [UM];exact jaT.mpr ne
noncomputable def qy (r:Rl) (l:List Cl) (e:Rat) (ps:List Int):Rat:=zU (ZS 0 (xO l.length ps) (zm (zE r l) e))
theorem SzQ.dq {n:Nat} {x:Rat} (h:SzQ n x):DQ n x:=by
 refine ⟨(x.den:Int),⟨Int.natCast_pos.mpr x.den_pos,?_⟩,x.num,?_⟩
 ·have a:x.den<2 ^ n:=h.2;have e:(2:Int) ^ n=((2 ^ n:Nat):Int):=by rw [jbW];rfl
  rw [e];exact Int.ofNat_le.mpr (jbo a)
 ·have g:((x.den:Int):Rat)≠0:=λz=>x.den_nz (Int.natCast_eq_zero.mp (Rat.intCast_eq_zero_iff.mp z));have e:x=(x.num:Rat) / ((x.den:Int):Rat):=by rw [<-Rat.divInt_eq_div,Rat.num_divInt_den]
  conv=>lhs;lhs;rw [e]
  exact Rat.div_mul_cancel g
theorem BH {t:Nat} {r:Rl} {l:List Cl} {e:Rat} {ps:List Int} (h:RuS t r) (ok:ClS t l) (h0:0<=e):0<=qy r l e ps:=by
 have g:=(h.gf ok).ful;have s:=kM 0 (zm (zE r l) e) ps;rw [g.std.len] at s;exact (ZA λq m=>(g.parts h0 q (s.subset m)).1).1
theorem stays0 (n:Nat):xO (n+1) [0]=(List.range n).map Nat.succ:=by
 unfold xO;rw [List.range_succ_eq_map,List.filter_cons_of_neg (by simp)];refine List.filter_eq_self.mpr λi g=>?_;obtain ⟨j,_,rfl⟩:=Qj.mp g
 have:¬((j.succ:Nat):Int)∈[(0:Int)]:=λh=>by
  have:=Qv.mp h;omega
 rw [Tb this];rfl
theorem left0 {t:Nat} {r:Rl} {l:List Cl} {e:Rat} (h:RuS t r) (ok:ClS t l) (h0:0<=e) (he:DQ 200 e) (t1:t<=24):SzQ 4000 (qy r l e [0]):=by
 have g:=(h.gf ok).ful;have nn:=BH (ps:=[0]) h ok h0;have ln:=g.std.len (e:=e);have m:=g.std.sum h0;have p:=h.dens ok he;have pt:=g.parts h0;have pos:=ok.pos;rw [ZH] at m pt;unfold qy at nn⊢
 cases q:zm (zE r l) e with
 |nil=>rw [q] at ln;rw [<-ln] at pos;exact absurd pos (by simp)
 |cons x qs=>
  rw [q] at ln m p pt nn
  have z:ZS 0 (xO l.length [0]) (x::qs)=qs:=by
   rw [<-ln,Qw,stays0];unfold ZS;rw [QI];have:=zF (λy:Rat=>y) 0 qs;rw [List.map_id'] at this;exact this
  rw [z] at nn⊢
  have s:zU qs=mn e ((amV l).sum:Rat) - x:=by
   rw [<-m];show zU qs=x+zU qs - x
   grind
  have x0:=(pt x (Qc ..)).1
  have w:DQ 200 (mn e ((amV l).sum:Rat)):=by
   unfold mn
   split
   ·exact he
   ·exact (DQ.int _).mono (by decide)
  have u:=w.sub (p x (Qc ..));rw [<-s] at u
  have le:zU qs<=((amV l).sum:Rat):=by
   rw [s];have:mn e ((amV l).sum:Rat)<=((amV l).sum:Rat):=by unfold mn;split<;>grind
   grind
  have dd:=h.den;exact (u.sz nn le (VI (Yh ok.n1)) ok.sum).mono (by omega)
structure Gd (n:Nat) (r:Rl) (l:List Cl):Prop where
 ru:RuS 24 r
 deep:r.deep<=n
 cl:ClS 23 l
def gD (n:Nat) (g cP cL cD:Addr) (kind:Int) (r:Rl) (l:List Cl) (e:Rat) (th:PyData) (R:Option Addr):Prop:=
 (0<=kind/\kind<=3)/\((R=some g/\Dm l/\l.length<=900)\/(R=some cP/\Gd n r l/\e.num<0/\(kind=1\/kind=2))\/
  (∃ps:List Int,R=some cL/\Gd n r l/\(0<=e/\SzQ 200 e)/\kind=2/\th=eZ ps/\BadP (l.length:Nat) ps)\/
  (∃ps:List Rat,R=some cD/\Gd n r l/\kind=3/\th= .list (ps.map frD)/\(∀p∈ps,SzQ 1000 p)/\ps.length<=9/\¬iL l ps)\/
  (R=none/\Gd n r l/\(0<=e/\SzQ 200 e)/\(kind=0\/kind=1\/(kind=2/\∃ps:List Int,th=eZ ps/\FY (l.length:Nat) ps/\ps.length<=9/\SzQ 4000 (qy r l e ps))\/(kind=3/\∃ps:List Rat,th= .list (ps.map frD)/\(∀p∈ps,SzQ 1000 p)/\ps.length<=9/\iL l ps))))
def cj (R:Option Addr) (H:Hp) (Q:VK) (E:XK):Prop:=match R with
 |none=>∀v H',zH H H'->Q v H'
 |some c=>∀H',zH H H'->E (.ref c) none H'
def HC (A:RAd) (n:Nat) (g cP cL cD:Addr):Sp:=λvs H Q E=>∃(G:Hp) (kind:Int) (r:Rl) (l:List Cl) (e:Rat) (th:PyData) (R:Option Addr),zH G H/\zu G [.int kind,r.ins A,zo l,frD e,th] vs/\gD n g cP cL cD kind r l e th R/\cj R H Q E
theorem rd_ask {B t H:Hp} {cs:zY} {ds:Dat} {Q:VK} {E:XK} {v1 v2 g v4:V} {A:RAd} {n:Nat} {h cP cL cD:Addr} {kind:Int} {r:Rl} {l:List Cl} {e:Rat} {th:PyData} {R:Option Addr} (S:Sta B t H cs ds) (s:Has ds (r.ins A) v1) (q:Has ds (zo l) v2) (p:Has ds (frD e) g) (m:Has ds th v4) (o:gD n h cP cL cD kind r l e th R) (k:cj R H Q E):HC A n h cP cL cD [.int kind,v1,v2,g,v4] H Q E:=by
 obtain ⟨G,S⟩:=S;exact ⟨G,kind,r,l,e,th,R,S.2.1,(yc.cons .int (.cons s (.cons q (.cons p (.cons m .nil))))) G S.2.2.2.2.2.2,o,k⟩
def nm28 (g cP cL cD:Addr) (c:Addr) (n:Str):Prop:=(c=g/\n="NoClaims")\/(c=cP/\n="NoPurse")\/(c=cL/\n="NoPlace")\/(c=cD/\n="NoDivision")
def toldR (n:Option Str):PyData:= .list (n.toList.map PyData.str)
theorem GK {G:Hp} {x y z t u:PyData} {vs:List V} (h:zu G [x,y,z,t,u] vs):∃a b c d e,vs=[a,b,c,d,e]/\Xn G [(x,a),(y,b),(z,c),(t,d),(u,e)]:=by
 simp only [zu] at h;obtain ⟨a,_,rfl,s,b,_,rfl,r,c,_,rfl,q,d,_,rfl,m,e,_,rfl,g,rfl⟩:=h;exact ⟨a,b,c,d,e,rfl,λp hp=>by simp at hp;rcases hp with rfl|rfl|rfl|rfl|rfl<;>assumption⟩
theorem DS {B t H:Hp} {cs:zY} {ds:Dat} {Q:VK} {E:XK} {v1 v2 g v4:V} {A:RAd} {n:Nat} {h cP cL cD:Addr} {r:Rl} {l:List Cl} {e:Rat} {th:PyData} {R:Option Addr} (S:Sta B t H cs ds) (s:Has ds (r.ins A) v1) (q:Has ds (zo l) v2) (p:Has ds (frD e) g) (m:Has ds th v4) (o:gD n h cP cL cD 2 r l e th R) (k:cj R H Q E):∃(G:Hp) (r:Rl) (l:List Cl) (e:Rat) (th:PyData) (R:Option Addr),zH G H/\zu G [r.ins A,zo l,frD e,th] [v1,v2,g,v4]/\gD n h cP cL cD 2 r l e th R/\cj R H Q E:=by
 obtain ⟨G,S⟩:=S;exact ⟨G,r,l,e,th,R,S.2.1,(yc.cons s (.cons q (.cons p (.cons m .nil)))) G S.2.2.2.2.2.2,o,k⟩
theorem DW {B q H:Hp} {cs:zY} {ds:Dat} {Q:VK} {E:XK} {v1 v2 v4:V} {A:RAd} {n:Nat} {g cP cL cD:Addr} {r:Rl} {l:List Cl} {e:Rat} {th:PyData} {R:Option Addr} (S:Sta B q H cs ds) (p:Has ds (r.ins A) v1) (m:Has ds (zo l) v2) (h:Has ds th v4) (o:gD n g cP cL cD 3 r l e th R) (k:cj R H Q E):∃(G:Hp) (r:Rl) (l:List Cl) (e:Rat) (th:PyData) (R:Option Addr),zH G H/\zu G [r.ins A,zo l,th] [v1,v2,v4]/\gD n g cP cL cD 3 r l e th R/\cj R H Q E:=by
 obtain ⟨G,S⟩:=S;exact ⟨G,r,l,e,th,R,S.2.1,(yc.cons p (.cons m (.cons h .nil))) G S.2.2.2.2.2.2,o,k⟩
def wV (A:RAd) (n:Nat) (g:Addr):Sp:=λvs H Q E=>dX A 24 n vs H Q E\/jL A g vs H Q E
def jO (A:RAd) (n:Nat) (g cP:Addr):Sp:=λvs H Q E=>Uv A 24 n vs H Q E\/jN A g vs H Q E\/jM A 24 n cP vs H Q E
def wU (A:RAd) (n:Nat) (g cP cL cD:Addr):Sp:=λvs H Q E=>∃(G:Hp) (r:Rl) (l:List Cl) (e:Rat) (th:PyData) (R:Option Addr),zH G H/\zu G [r.ins A,zo l,frD e,th] vs/\gD n g cP cL cD 2 r l e th R/\cj R H Q E
def wW (A:RAd) (n:Nat) (g cP cL cD:Addr):Sp:=λvs H Q E=>∃(G:Hp) (r:Rl) (l:List Cl) (e:Rat) (th:PyData) (R:Option Addr),zH G H/\zu G [r.ins A,zo l,th] vs/\gD n g cP cL cD 3 r l e th R/\cj R H Q E
theorem ClS.up1 {l:List Cl} (h:ClS 23 l):ClS 24 l:=⟨h.pos,h.few,h.nn,jba h.sum (by decide)⟩
theorem HJ {B m H:Hp} {cs:zY} {ds:Dat} {Q:VK} {v:V} {xs:List PyData} {n:Nat} (S:Sta B m H cs ds) (h:Has ds (.list xs) v) (hn:xs.length*n<=1000/\n<=1000) (k:∀l H',zH H H'->Sta B m H' ((l,(List.replicate n xs).flatten)::cs) ds->Q (.ref l) H'):rRep v (.int (n:Int)) H Q:=by
 obtain ⟨p,us,e,hp,t,u,al⟩:=S.lstAll h;subst e;refine ⟨p,(n:Int),us,rfl,rfl,hp,by omega,by omega,?_,λq g=>?_⟩
 ·rw [Ts,<-t];exact QT hn.1 (by decide)
 ·rw [Ts];refine k q _ (zH.new g _) ((u.newL (xs:=(List.replicate n xs).flatten) g λG a=>?_).dat λz hz=> .mem (Qz _ hz));have s:=al G a;clear hn k
  induction n with
  |zero=>rw [List.replicate_zero,List.replicate_zero,List.flatten_nil,List.flatten_nil,zu]
  |succ n r=>rw [Tc,Tc,Ti,Ti];exact s.app r
theorem oz (xs:List PyData) (j:Nat):gP xs none (some (j:Int))=xs.take j:=by
 unfold gP;rw [HT.sIx_none,HT.sIx_nat,List.drop_zero,Nat.sub_zero]
 rcases Nat.le_total j xs.length with h|h
 ·rw [Nat.min_eq_left h]
 ·rw [Nat.min_eq_right h,QQ (Qq _),QQ h]
theorem oA (xs:List PyData) (j:Nat):gP xs (some (j:Int)) none=xs.drop j:=by
 unfold gP;rw [HT.sIx_none,HT.sIx_nat,QQ (by rw [QZ];exact Qq _)]
 rcases Nat.le_total j xs.length with h|h
 ·rw [Nat.min_eq_left h]
 ·rw [Nat.min_eq_right h,List.drop_of_length_le (Qq _),List.drop_of_length_le h]
def NmR (g cP cL cD:Addr):Option Addr->Option Str->Prop
 |none,s=>s=none
 |some c,s=>∃n,s=some n/\nm28 g cP cL cD c n
def jS (g cP cL cD:Addr):Sp:=λvs H Q E=>(aE g "NoClaims" vs H Q E\/aE cP "NoPurse" vs H Q E)\/(aE cL "NoPlace" vs H Q E\/aE cD "NoDivision" vs H Q E)
theorem AF {B h H:Hp} {cs:zY} {ds:Dat} {Q:VK} {E:XK} {g cP cL cD c a:Addr} {n:Str} (nm:nm28 g cP cL cD c n) (S:Sta B h H cs ds) (ha:H a=some (tq a c)) (k:∀r H',zH H H'->Sta B h H' cs ((.list [.str n],r)::ds)->Q r H'):jS g cP cL cD [.ref a] H Q E:=by
 rcases nm with ⟨rfl,rfl⟩|⟨rfl,rfl⟩|⟨rfl,rfl⟩|⟨rfl,rfl⟩
 ·exact .inl (.inl (dh S ha k))
 ·exact .inl (.inr (dh S ha k))
 ·exact .inr (.inl (dh S ha k))
 ·exact .inr (.inr (dh S ha k))
def Hw (A:RAd) (n:Nat) (g cP cL cD:Addr):Sp:=λvs H Q _=>∃(G:Hp) (kind:Int) (r:Rl) (l:List Cl) (e:Rat) (th:PyData) (R:Option Addr) (s:Option Str),zH G H/\zu G [.int kind,r.ins A,zo l,frD e,th] vs/\gD n g cP cL cD kind r l e th R/\NmR g cP cL cD R s/\∀v H' h,Grow G H h H'->Is h (toldR s) v->Q v H'
theorem nr {B p H:Hp} {cs:zY} {ds:Dat} {Q:VK} {E:XK} {v1 v2 m v4:V} {A:RAd} {n:Nat} {g cP cL cD:Addr} {kind:Int} {r:Rl} {l:List Cl} {e:Rat} {th:PyData} {R:Option Addr} {s:Option Str} (S:Sta B p H cs ds) (y:Has ds (r.ins A) v1) (w:Has ds (zo l) v2) (u:Has ds (frD e) m) (t:Has ds th v4) (o:gD n g cP cL cD kind r l e th R) (nm:NmR g cP cL cD R s) (k:∀v H',zH H H'->Sta B p H' cs ((toldR s,v)::ds)->Q v H'):Hw A n g cP cL cD [.int kind,v1,v2,m,v4] H Q E:=by
 obtain ⟨G,S⟩:=S;refine ⟨G,kind,r,l,e,th,R,s,S.2.1,(yc.cons .int (.cons y (.cons w (.cons u (.cons t .nil))))) G S.2.2.2.2.2.2,o,nm,λv H' K gr q=>k v H' gr.h ?_⟩;obtain ⟨J,I,D,d',C,z,g'⟩:=S.grow gr;exact ⟨K,J,I,D,d',C,z,g'.cons q⟩
def wZ:Sp:=λvs H Q _=>∃(G:Hp) (l:List Cl) (cell:Int),zH G H/\zu G [zo l, .int cell] vs/\(0<l.length/\l.length<=8)/\∀v H' h g,Grow G H h H'->Is h (zo g) v->Dm g/\g.length<=900->Q v H'
theorem HV {B m H:Hp} {cs:zY} {ds:Dat} {Q:VK} {E:XK} {v:V} {l:List Cl} {cell:Int} (S:Sta B m H cs ds) (h:Has ds (zo l) v) (n:0<l.length/\l.length<=8) (k:∀v g H',Dm g/\g.length<=900->zH H H'->Sta B m H' cs ((zo g,v)::ds)->Q v H'):wZ [v, .int cell] H Q E:=by
 obtain ⟨G,S⟩:=S;refine ⟨G,l,cell,S.2.1,(yc.cons h (.cons .int .nil)) G S.2.2.2.2.2.2,n,λv H' w g gr p b=>k v g H' b gr.h ?_⟩;obtain ⟨u,t,s,d',r,q,g'⟩:=S.grow gr;exact ⟨w,u,t,s,d',r,q,g'.cons p⟩
def BadD (l:List Cl) (ps:List Rat):Prop:=¬iL l ps/\(∀p∈ps,SzQ 1000 p)/\ps.length<=9
def wY:Sp:=λvs H Q _=>∃(G:Hp) (l:List Cl) (cell:Int),zH G H/\zu G [zo l, .int cell] vs/\ClS 23 l/\∀v H' g ps,Grow G H g H'->Is g (.list (ps.map frD)) v->BadD l ps->Q v H'
theorem HU {B g H:Hp} {cs:zY} {ds:Dat} {Q:VK} {E:XK} {v:V} {l:List Cl} {cell:Int} (S:Sta B g H cs ds) (h:Has ds (zo l) v) (n:ClS 23 l) (k:∀v ps H',BadD l ps->zH H H'->Sta B g H' cs ((.list (ps.map frD),v)::ds)->Q v H'):wY [v, .int cell] H Q E:=by
 obtain ⟨G,S⟩:=S;refine ⟨G,l,cell,S.2.1,(yc.cons h (.cons .int .nil)) G S.2.2.2.2.2.2,n,λv H' w m gr p b=>k v m H' b gr.h ?_⟩;obtain ⟨u,t,s,d',r,q,g'⟩:=S.grow gr;exact ⟨w,u,t,s,d',r,q,g'.cons p⟩
theorem len7 {α:Type} {l:List α} (h:l.length=7):∃a b c d e f g,l=[a,b,c,d,e,f,g]:=by
 match l,h with
 |[a,b,c,d,e,f,g],_=>exact ⟨a,b,c,d,e,f,g,rfl⟩
theorem CH (l:List Cl):(List.range l.length).map (λj=>frD (((l.getD j (0,0,0)).1:Int):Rat))=(amQ l).map frD:=by
 rw [zF (λc:Cl=>frD ((c.1:Int):Rat)) (0,0,0) l];unfold amQ;rw [QI];rfl
theorem GL {n:Nat} {x:Int} (h:Sz n x) (n1:1<=n):SzQ n (x:Rat):=by
 refine ⟨h,?_⟩;show Int.natAbs ((1:Nat):Int)<2 ^ n;have:2 ^ 1<=2 ^ n:=Nat.pow_le_pow_right (by decide) n1;show 1<2 ^ n;omega
theorem Hc {t:Nat} {l:List Cl} (h:ClS t l) (t1:t<=100):∀p∈amQ l,SzQ 200 p:=λp hp=>by
 unfold amQ at hp;obtain ⟨c,g,rfl⟩:=Qj.mp hp;have a:=(h.nn c g).1;have b:=Xv (Yh h.n1) c.1 (Qj.mpr ⟨c,g,rfl⟩);have s:=h.sum;refine GL ?_ (by decide);unfold Sz;have e:(2:Int) ^ t<=2 ^ 100:=AS t1;have m:(2:Int) ^ 100=((2 ^ 100:Nat):Int):=by decide
 have:c.1.natAbs<=2 ^ 100:=by omega
 exact Nat.lt_of_le_of_lt this (by decide)
theorem Hd {l:List Cl} {j:Nat} {c:Cl} (h:l[j]? =some c):(amQ l)[j]? =some ((c.1:Int):Rat):=by
 unfold amQ;rw [Qi,h];rfl
theorem Iy {α:Type} {l:List α} {j:Nat} {a x:α} (h:x∈l.set j a):x∈l\/x=a:=by
 rcases List.mem_or_eq_of_mem_set h with h|h
 ·exact .inl h
 ·exact .inr h
theorem tI {l:List Cl} {j:Nat} {c:Cl} {p:Rat} (t:l.length<=8) (hz:∀p∈amQ l,SzQ 200 p) (m:l[j]? =some c) (b:¬(0<=p/\p<=(c.1:Rat))) (z:SzQ 1000 p):BadD l ((amQ l).set j p):=by
 have r:=(Qg.mp m).1;refine ⟨λg=>b (g.2 j c p m ?_),λq s=>?_,?_⟩
 ·rw [List.getElem?_set_self (by rw [xZ];exact r)]
 ·rcases Iy s with h|rfl
  ·exact (hz q h).mono (by decide)
  ·exact z
 ·rw [jaS,xZ];omega
theorem tJ {l:List Cl} {ps:List Rat} (hn:ps.length≠l.length) (m:ps.length<=9) (hz:∀p∈ps,p∈amQ l\/p=0) (q:∀p∈amQ l,SzQ 200 p):BadD l ps:=by
 refine ⟨λg=>hn g.1,λp hp=>?_,m⟩
 rcases hz p hp with h|rfl
 ·exact (q p h).mono (by decide)
 ·unfold SzQ Sz;decide
theorem halfD (c:Int):PyData.tuple [.int (2*c+1), .int 2]=frD (Rat.divInt (2*c+1) 2):=by
 have g:Int.gcd 2 (2*c+1)=1:=by
  have a:((Int.gcd 2 (2*c+1):Nat):Int)∣2:=Int.gcd_dvd_left ..;have b:((Int.gcd 2 (2*c+1):Nat):Int)∣2*c+1:=Int.gcd_dvd_right ..
  have d:((Int.gcd 2 (2*c+1):Nat):Int)∣1:=by
   have:=Int.dvd_sub b (Int.dvd_mul_of_dvd_left (c:=c) a);rwa [show 2*c+1 - 2*c=1 by omega] at this
  have:=Int.eq_one_of_dvd_one (by omega) d;omega
 unfold frD;rw [Rat.num_divInt,Rat.den_divInt,QS (by decide),g,Int.sign_eq_one_of_pos (by decide)]
 simp
theorem IL (c:Int) (h:Rat.divInt (2*c+1) 2<=(c:Rat)):False:=by
 have e:Rat.divInt (2*c+1) 2*((2:Int):Rat)=((2*c+1:Int):Rat):=by
  rw [Rat.divInt_eq_div];exact Rat.div_mul_cancel (by decide)
 have g:Rat.divInt (2*c+1) 2*((2:Int):Rat)<=(c:Rat)*((2:Int):Rat):=Rat.mul_le_mul_of_nonneg_right h (by decide);rw [e,<-jae] at g;have:=jaq.mp g;omega
theorem Fu {c:Int} (h:Sz 200 c):SzQ 1000 (Rat.divInt (2*c+1) 2):=by
 refine SzQ.divInt ?_ (by unfold Sz;decide) (by decide);unfold Sz at h⊢;have:(2*c+1).natAbs<=2 ^ 202:=by omega
 exact Nat.lt_of_le_of_lt this (by decide)
structure XkT (K:PySem.W.Frag) (R PE c1 c2 c3 c4 c5 c6:Addr) (b1 b2 b3 b4 b5 b6:Bool):Prop where
 q:PySem.W.excIn K R ZP "ValueError.__new__"=true
 m:PySem.W.mroIn K R (.ref PE)=some true
 i:ExcIn K R
 kV:PySem.W.kitOne K (.ref R) (.type "ValueError")=some true
 k1:PySem.W.kitOne K (.ref R) (.ref c1)=some b1
 k2:PySem.W.kitOne K (.ref R) (.ref c2)=some b2
 k3:PySem.W.kitOne K (.ref R) (.ref c3)=some b3
 k4:PySem.W.kitOne K (.ref R) (.ref c4)=some b4
 k5:PySem.W.kitOne K (.ref R) (.ref c5)=some b5
 k6:PySem.W.kitOne K (.ref R) (.ref c6)=some b6
theorem xk_mk {K:PySem.W.Frag} {R PE u t s r p h:Addr} {D C A z y w:Bool} {g:ClassData} (q:PySem.W.excIn K R ZP "ValueError.__new__"=true) (m:PySem.W.mroIn K R (.ref PE)=some true) (L:PySem.W.clsIn K R=some g) (J:PySem.W.mroIn K R (.type "object")=some true) (I:PySem.W.mroIn K R (.type "BaseException")=some true) (H:PySem.W.findIn K (.ref R) "__getattribute__"=some (some (.builtin "BaseException.__getattribute__"))) (G:PySem.W.findIn K (.ref R) "__getattr__"=some none) (E:PySem.W.findIn K (.ref R) "__class__"=some (some (.builtin "object.__class__")))
 (kV:PySem.W.kitOne K (.ref R) (.type "ValueError")=some true) (k1:PySem.W.kitOne K (.ref R) (.ref u)=some D) (k2:PySem.W.kitOne K (.ref R) (.ref t)=some C) (k3:PySem.W.kitOne K (.ref R) (.ref s)=some A) (k4:PySem.W.kitOne K (.ref R) (.ref r)=some z) (k5:PySem.W.kitOne K (.ref R) (.ref p)=some y) (k6:PySem.W.kitOne K (.ref R) (.ref h)=some w):XkT K R PE u t s r p h D C A z y w:=⟨q,m,⟨⟨_,L⟩,J,I,H,G,E⟩,kV,k1,k2,k3,k4,k5,k6⟩
theorem rd_inT {B m H:Hp} {cs:zY} {ds:Dat} {K:PySem.W.Frag} {Q:VK} {v:V} {ns:List Int} {i:Int} {neg:Bool} (S:Sta B m H cs ds) (h:Has ds (.tuple (ns.map PyData.int)) v)
 (k:Q (.bl (if neg then !decide (i∈ns) else decide (i∈ns))) H):rIn K neg (.int i) v H Q:=by
 have z:=S.hp h;rw [Is] at z;obtain ⟨p,vs,rfl,e,a⟩:=z;cases yF a;refine ⟨p,_,rfl, .inr (SqT.of e),rfl,?_,?_⟩
 ·rw [Tn];intro x g;obtain ⟨n,_,rfl⟩:=Qj.mp g;rfl
 ·rw [qB];exact k
theorem Gp {j:Int} (h:0<j/\j<9:=by omega):Sz 8999 j:=by
 have:Sz 4 j:=by unfold Sz;omega
 exact this.mono (by decide)
theorem EX {x j:Int} (g:x<0) (h:0<j):(Rat.divInt x j).num<0:=by
 rw [Rat.num_divInt,Int.sign_eq_one_of_pos h,Int.one_mul];refine Int.ediv_neg_of_neg_of_pos g ?_
 have:Int.gcd j x≠0:=λz=>by
  have:=(Int.gcd_eq_zero_iff.mp z).1;omega
 omega
theorem ClS.half {l:List Cl} (h:ClS 23 l):0<=Rat.divInt (amV l).sum 2/\SzQ 200 (Rat.divInt (amV l).sum 2):=by
 have s0:=VI (Yh h.n1);have s1:=h.sum;have e:(2:Int) ^ 23=8388608:=by decide
 refine ⟨Rat.divInt_nonneg s0 (by decide),SzQ.divInt ?_ (by unfold Sz;decide) (by decide)⟩
 have:Sz 30 (amV l).sum:=by
  unfold Sz;have:(2:Nat) ^ 30=1073741824:=by decide
  omega
 exact this.mono (by decide)
theorem Fv {t:Nat} {l:List Cl} (h:ClS t l):iL l (amQ l):=by
 refine ⟨xZ l,λi c p g hp=>?_⟩;rw [Hd g] at hp;cases hp;exact ⟨Rat.intCast_nonneg.mpr (h.nn c (Qb g)).1,QY⟩
theorem all1 {p:List Value->Prop} (h:∀a,p [a]) (us:List Value) (g:us.length=1):p us:=by
 obtain ⟨a,rfl⟩:=List.length_eq_one_iff.mp g;exact h a
theorem all2 {p:List Value->Prop} (h:∀a b,p [a,b]) (us:List Value) (g:us.length=2):p us:=by
 cases us with
 |nil=>cases g
 |cons a us=>exact all1 (p:=λus=>p (a::us)) (h a) us (Nat.succ.inj g)
theorem all3 {p:List Value->Prop} (h:∀a b c,p [a,b,c]) (us:List Value) (g:us.length=3):p us:=by
 cases us with
 |nil=>cases g
 |cons a us=>exact all2 (p:=λus=>p (a::us)) (h a) us (Nat.succ.inj g)
theorem all4 {p:List Value->Prop} (h:∀a b c d,p [a,b,c,d]) (us:List Value) (g:us.length=4):p us:=by
 cases us with
 |nil=>cases g
 |cons a us=>exact all3 (p:=λus=>p (a::us)) (h a) us (Nat.succ.inj g)
theorem all5 {p:List Value->Prop} (h:∀a b c d e,p [a,b,c,d,e]) (us:List Value) (g:us.length=5):p us:=by
 cases us with
 |nil=>cases g
 |cons a us=>exact all4 (p:=λus=>p (a::us)) (h a) us (Nat.succ.inj g)
structure DkT (K:PySem.W.Frag) (mg:Str->Option Value) (nm:Str) (st:Stmt) (f:Addr) (fd:FuncData) (ps:List Str):Prop where
 F:Fun K nm nm st f fd
 m:mg nm=some (.ref f)
 b:yX K fd ps []
structure FkT (K:PySem.W.Frag) (x q:Str) (st:Stmt) (f:Addr) (fd:FuncData) (ps:List Str):Prop where
 F:Fun K x q st f fd
 b:yX K fd ps []
 k:PySem.W.keepIn K (.ref f)=true
section
variable {K:PySem.W.Frag} {h:Heap} {mg:Str->Option Value} {x q:Str} {st:Stmt} {f:Addr} {oc:Value} {od an:Option Addr} {osl:Array (Option Value)} {kV doc pm Kq ct:Value} {ps:List Str}
theorem fk_mk (l:K.lookup f=some ⟨oc,od, .func (PySem.W.fnOf x q (ZZ st) (xX st) (zk st) .none kV doc pm an Kq ct),osl⟩) (c:PySem.W.codeIn K Kq q=true) (k:PySem.W.keepIn K (.ref f)=true)
 (b:∀(kV doc pm:Value) (an:Option Addr) (Kq ct:Value) (us:List Value),us.length=ps.length->bindArgs (PySem.W.fnOf x q (ZZ st) (xX st) (zk st) .none kV doc pm an Kq ct) ⟨us,[]⟩=pure (ps.zip us)):
 FkT K x q st f (PySem.W.fnOf x q (ZZ st) (xX st) (zk st) .none kV doc pm an Kq ct) ps:=⟨oh l c k,(oh l c k).binds b,k⟩
theorem dk_mk (X:K.In h) (G:h.Ns mainGlobals mg) (a:PySem.W.nsIn K mainGlobals x=some (some (.ref f))) (l:K.lookup f=some ⟨oc,od, .func (PySem.W.fnOf x x (ZZ st) (xX st) (zk st) .none kV doc pm an Kq ct),osl⟩) (c:PySem.W.codeIn K Kq x=true) (k:PySem.W.keepIn K (.ref f)=true)
 (b:∀(kV doc pm:Value) (an:Option Addr) (Kq ct:Value) (us:List Value),us.length=ps.length->bindArgs (PySem.W.fnOf x x (ZZ st) (xX st) (zk st) .none kV doc pm an Kq ct) ⟨us,[]⟩=pure (ps.zip us)):
 DkT K mg x st f (PySem.W.fnOf x x (ZZ st) (xX st) (zk st) .none kV doc pm an Kq ct) ps:=⟨oh l c k,QC X G a,(oh l c k).binds b⟩
end
structure CkT (K:PySem.W.Frag) (c fI Ru fS fT fP fQ:Addr):Prop where
 e:PySem.W.findIn K (.ref c) "__init__"=some (some (.ref fI))
 es:PySem.W.findIn K (.ref c) "shape"=some (some (.ref fS))
 et:PySem.W.findIn K (.ref c) "text"=some (some (.ref fT))
 ep:PySem.W.findIn K (.ref c) "path"=some (some (.ref fP))
 eq:PySem.W.findIn K (.ref c) "parts"=some (some (.ref fQ))
 pg:PySem.W.plainGet K c Str.empty=true
 hd:PySem.W.hasDictIn K c=true
 po:PySem.W.plainOver K c=true
 sa:PySem.W.findIn K (.ref c) "__setattr__"=some (some (.builtin "object.__setattr__"))
 na:PySem.W.findIn K (.ref c) "form"=some none
 ha:PySem.W.findIn K (.ref c) "__class__"=some (some (.builtin "object.__class__"))
 mo:PySem.W.mroIn K c (.type "object")=some true
 kt:PySem.W.kitOne K (.ref c) (.ref Ru)=some true
 mq:PySem.W.makesIn K c=true
 nf:PySem.W.isFn K (.ref fI)=true
 kc:PySem.W.keepIn K (.ref c)=true
section
variable {K:PySem.W.Frag} {c fI Ru fS fT fP fQ:Addr}
theorem CkT.ok (Q:CkT K c fI Ru fS fT fP fQ) (n1:PySem.W.isFn K (.ref fS)=true) (k1:PySem.W.keepIn K (.ref fS)=true) (g:PySem.W.isFn K (.ref fT)=true) (k2:PySem.W.keepIn K (.ref fT)=true) (hn:PySem.W.specialIn K (.builtin "object.__class__") "__get__"=some (some (.builtin "getset_descriptor.__get__"))) (ht:PySem.W.takesIn K (.builtin "object.__class__")=some true):ROk K fS fT Ru c:=
 ⟨⟨Q.pg,Q.hd,Q.po,Q.sa⟩,Q.na,⟨Q.es,n1,k1⟩,⟨Q.et,g,k2⟩,Q.ha,hn,ht,Q.mo,Q.kt⟩
theorem CkT.MK (Q:CkT K c fI Ru fS fT fP fQ):Mk K c fI:=⟨Q.mq,Q.e,Q.nf,Q.kc⟩
theorem CkT.mp (Q:CkT K c fI Ru fS fT fP fQ) (n:PySem.W.isFn K (.ref fP)=true) (k:PySem.W.keepIn K (.ref fP)=true) (g:PySem.W.isFn K (.ref fQ)=true) (k2:PySem.W.keepIn K (.ref fQ)=true):Meth K c "path" fP/\Meth K c "parts" fQ:=⟨⟨Q.ep,n,k⟩,⟨Q.eq,g,k2⟩⟩
end
section
variable {X:Cx}
theorem CQ (i:Nat) {x:Str} {e:Expr} {g:TE} {pos' pos:Pos} (q:X.N.Nodup) (he:PE X e g) (p:X.N[i]? =some x:=by rfl) (h:Loc X.env.scope x:=by walk_at "o") (m:swapsWith e (some (.Name x pos')) pos.line X.env=pure false:=by rfl) (hf:X.fn x=true\/X.env.scope.names.lookup x=some .local:=by walk_at "f"):
 PS X (.Assign [.Name x pos'] e pos) (Jm g (lJ i)):=ps_set q p h he m hf
theorem Ec (i:Nat) {x:Str} {pos:Pos} (m:X.N.Nodup) (h:X.N[i]? =some x:=by rfl) (g:Loc X.env.scope x:=by walk_at "o") (hf:X.fn x=true\/X.env.scope.names.lookup x=some .local:=by walk_at "f"):PG X (.Name x pos) (lJ i):=qg m h g hf
theorem pcl {k j:Nat} {x:Str} {ps:List Str} {sp:Sp} {e:Expr} {es:List Expr} {t:TA} {p pos:Pos} (C:Cal X.prog X.w X.K X.mg X.base CX0 k x ps sp) (hr:Room j X.A) (ha:PA X (e::es) t) (g:k<=j:=by walk_at "l") (h:Gl X x:=by rfl) (m:(x==("__debug__":Str))=false:=by decide) (he:starEach (e::es) X.env=(false,eval e X.env)::starEach es X.env:=by rfl) (q:(backTo pos (starEach es X.env)).any (·.1)=false:=by rfl):
 PE X (.Call (.Name x p) (e::es) [] pos) (uv sp [] E0 t):=VM C hr g Ef h ha m he q
theorem pix (i:Nat) {x:Str} {k:Int} {j:Nat} {m h g:Pos} (r:X.N[i]? =some x:=by rfl) (p:Vis X.env.scope x:=by walk_at "v") (hd:(x==("__debug__":Str))=false:=by decide) (q:(x==("__classdict__":Str))=false:=by decide):PE X (.Subscript (.Name x m) (.Constant (.int k) j h) g) (tOp (rIx X.K) (tVar i) (tC (.int k))):=UN YV (pv i r p hd q) Yb (λ_ _=>rfl)
theorem pg_c (i:Nat) {N:List Str} {scope:Scope} {C:Addr} {ex:List Addr} {s:Shared} {H:Hp} {x:Str} {pos:Pos} (m:N.Nodup:=by decide+kernel) (h:(xx X N scope C ex s H).N[i]? =some x:=by rfl) (g:Loc (xx X N scope C ex s H).env.scope x:=by walk_at "o") (hf:(xx X N scope C ex s H).fn x=true\/(xx X N scope C ex s H).env.scope.names.lookup x=some .local:=by walk_at "f"):
 PG (xx X N scope C ex s H) (.Name x pos) (lJ i):=qg m h g hf
theorem pcf (N:List Str) (n:Nat) (fr:List Nat) {scope:Scope} {h iter elt:Expr} {ifs:List Expr} {pos:Pos} {m:TI} {g:Blk TG} {tt:Blk TT} {p:Blk TE} (r:PI X h iter m) (t:∀{C ex s H},PG (xx X N scope C ex s H) h (g C ex s H)) (ht:∀{C ex s H},PIf (xx X N scope C ex s H) ifs (tt C ex s H)) (he:∀{C ex s H},PE (xx X N scope C ex s H) elt (p C ex s H))
 (u:X.calm=true:=by rfl) (O:CompOk X N n fr scope:=by exact ⟨rfl,by decide+kernel,rfl,by decide,rfl,rfl,rfl,rfl,rfl⟩) (q:∀x,foldedSetIterable iter X.env x=pure x:=by intro _;rfl):
 PE X (.ListComp elt [⟨h,iter,ifs,0⟩] scope pos) (uu n fr m g tt p):=Ic u O r (λ_ _ _ _=>t) (λ_ _ _ _=>ht) (λ_ _ _ _=>he) q
theorem pscf (i:Nat) (D:X.N.Nodup) (N:List Str) (n:Nat) (fr:List Nat) {scope:Scope} {x:Str} {r:Pos} {m iter elt:Expr} {ifs:List Expr} {pos h:Pos} {p:TI} {g:Blk TG} {tt:Blk TT} {q:Blk TE} (y:PI X m iter p) (z:∀{C ex s H},PG (xx X N scope C ex s H) m (g C ex s H)) (ht:∀{C ex s H},PIf (xx X N scope C ex s H) ifs (tt C ex s H)) (he:∀{C ex s H},PE (xx X N scope C ex s H) elt (q C ex s H))
 (t:X.N[i]? =some x:=by rfl) (w:X.env.scope.names.lookup x=some .local:=by rfl) (A:X.calm=true:=by rfl) (O:CompOk X N n fr scope:=by exact ⟨rfl,by decide+kernel,rfl,by decide,rfl,rfl,rfl,rfl,rfl⟩)
 (E:swapsWith (.ListComp elt [⟨m,iter,ifs,0⟩] scope pos) (some (.Name x r)) h.line X.env=pure true:=by rfl) (u:∀x,foldedSetIterable iter X.env x=pure x:=by intro _;rfl):
 PS X (.Assign [.Name x r] (.ListComp elt [⟨m,iter,ifs,0⟩] scope pos) h) (Jm (uu n fr p g tt q) (lJ i)):=uL D t w A O y (λ_ _ _ _=>z) (λ_ _ _ _=>ht) (λ_ _ _ _=>he) E u
theorem xC {N P:List Str} {sc:Scope} (a:sc.kind= .function:=by rfl) (b:sc.isCoroutine=false:=by rfl) (c:sc.isGenerator=false:=by rfl) (d:N.Nodup:=by decide+kernel) (e:N.take P.length=P:=by rfl) (f:∀x∈P,sc.names.lookup x=some .local\/sc.names.lookup x=some .cell:=by decide+kernel) (g:∀y∈sc.names,y.2≠ .free:=by decide+kernel):FnScope N P sc:=⟨a,b,c,d,e,f,g⟩
theorem _root_.L2.Fun.oo {P:Program} {w:World} {K:PySem.W.Frag} {mg:Str->Option Value} {base:Heap} {x qual:Str} {st:Stmt} {f:Addr} {fd:FuncData} {N ps:List Str} {k:Nat} {sp:Sp} (F:Fun K x qual st f fd) (s1:FnScope N ps (zk st))
 (m:∀{g:Value} {A:Around} {outer:List Env} {s:Shared} (H:Hp) (vs:List V) (Q:VK) (E:XK),Room k (A.deeper (envOfC qual (zk st) s.heap.objs.size f g))->N.Nodup->sp vs H Q E->
  ∃t,PSs (Fz CX0 P w K mg base N qual (zk st) f g A outer s H E).nox (xX st) t/\t {nx:=λ_ H'=>Q .non H',rt:=Q} (gU N vs) H) (len:∀vs H Q E,sp vs H Q E->vs.length=ps.length:=by walk_at "n"):FnOk P w K mg base CX0 (k+1) f fd ps sp:=F.ok s1 len λ_ _ _ _ H vs Q E hr h=>m H vs Q E hr s1.nd h
theorem xK {B m H:Hp} {cs:zY} {ds:Dat} {xs ys:List PyData} {P:zY->Dat->Prop} {J:It} {n:Nat} {fr:List Nat} {g:Blk TG} {tt:Blk TT} {q:Blk TE} {σ:L2.St} {Q:VK} (w:Wk B m J xs P) (f:Nat->PyData) (t:(List.range xs.length).map f=ys) (s1:Sta B m H cs ds)
 (u:∀(i:Nat) (x:PyData) (v:V) {h p:Hp} {Kd:VK} {A:Hp->Prop} {C ex s0 H0},xs[i]? =some x->Turn1 B m cs h p->Sta h p h [] ((x,v)::ds)->(∀{y:V} {r:Hp} {cs':zY} {ds':Dat},Sta h p r cs' ds'->Has ds' (f i) y->Kd y r)->
  g C ex s0 H0 v (List.replicate n none++frσ σ fr) h λσ4 H4=>σ4.drop n=frσ σ fr/\tt C ex s0 H0 σ4 H4 λb s=>if b=true then q C ex s0 H0 σ4 s Kd else A s)
 (k:∀D H',zH H H'->Sta B m H' ((D,ys)::cs) ds->Q (.ref D) H') (z:∀D ys,P ((D,ys)::cs) ds:=by intro _ _;exact .mem (by walk_at "mem")) (hn:xs.length<=1000:=by rw [Qa];omega):Fh n fr g tt q σ Q J H:=
 Zk w f t s1 z hn (λi x v _ _ _ _ a b c d _ _ _ _=>u i x v a b c d) k
theorem kxx {CX:CXT} {P:Program} {w:World} {K:PySem.W.Frag} {mg:Str->Option Value} {base:Heap} {N:List Str} {q:Str} {sc:Scope} {f:Addr} {cd:Value} {A:Around} {o:List Env} {s:Shared} {H:Hp} {E:XK}:(Fz CX P w K mg base N q sc f cd A o s H E).nox.K=K:=rfl
theorem kyy {N:List Str} {sc:Scope} {C:Addr} {ex:List Addr} {s:Shared} {H:Hp}:(xx X N sc C ex s H).K=X.K:=rfl
end
theorem Has.mm {ds:Dat} {x:PyData} {v:V} (h:(x,v)∈ds:=by walk_at "mem"):Has ds x v:= .mem h
end S
namespace K
open PySem L2 S
abbrev paa:List Str:=["_law_kind","_law_rule_here","_law_claims_here","_law_purse","_law_thing"]
abbrev pab:List Str:=["one","two"]
abbrev pac:List Str:=["self","claims","purse"]
abbrev pae:List Str:=["self"]
abbrev paf:List Str:=["self","form"]
abbrev pag:List Str:=["_law_claims_here","_law_cell"]
abbrev pah:List Str:=["self","claims"]
abbrev pai:List Str:=["claims"]
abbrev paj:List Str:=["claims","group"]
abbrev pak:List Str:=["ones","twos"]
abbrev pal:List Str:=["self","portion","first","last"]
abbrev pam:List Str:=["_law_script","_law_at","_law_many","_law_size"]
abbrev pan:List Str:=["self","inner"]
abbrev pao:List Str:=["path","places","count"]
abbrev paq:List Str:=["shape","claims"]
abbrev pas:List Str:=["claims","places"]
abbrev pau:List Str:=["start","end","portion"]
abbrev pav:List Str:=["top","bottom"]
abbrev paw:List Str:=["start","end","amount"]
abbrev pax:List Str:=["self","outer","inner"]
abbrev pay:List Str:=["_law_script","_law_k"]
abbrev paz:List Str:=["_law_shape_here"]
abbrev paA:List Str:=["portion","first","last"]
abbrev paB:List Str:=["outer","inner","claims"]
abbrev paC:List Str:=["path","purse"]
abbrev paD:List Str:=["rule","claims","purse","away"]
abbrev paE:List Str:=["rule","claims","parts"]
abbrev paF:List Str:=["ahead","corner","following"]
abbrev paG:List Str:=["_law_cell"]
abbrev paH:List Str:=["_law_one","_law_two"]
abbrev paI:List Str:=["_law_cells","_law_groups"]
abbrev paJ:List Str:=["parts","places","count"]
abbrev paK:List Str:=["_law_cell","_law_place"]
abbrev paL:List Str:=["_law_top","_law_bottom"]
abbrev paM:List Str:=["path","second"]
abbrev paN:List Str:=["claims","rank"]
abbrev paO:List Str:=["amounts","amount"]
abbrev paP:List Str:=["path","place","levels"]
abbrev paQ:List Str:=["path","others","purse"]
abbrev paR:List Str:=["start","end","purse"]
abbrev paS:List Str:=["claims","parts"]
abbrev paT:List Str:=["path","portion"]
abbrev paU:List Str:=["inner","claims"]
abbrev paV:List Str:=["path","others"]
local macro_rules|`(tactic|assumption)=>`(tactic|first|exact .mm|fail)
local macro_rules|`(tactic|right)=>`(tactic|walk_at "mem")
local macro_rules|`(tactic|left)=>`(tactic|walk_at "walk")
local macro_rules|`(tactic|walk_at "l")=>`(tactic|first|decide|exact Qq _|omega)
local macro_rules|`(tactic|walk_at "o")=>`(tactic|first|exact Or.inl rfl|exact Or.inr rfl)
abbrev mtM:=Lean.MacroM (Lean.TSyntax `tactic)
def mwt (s:String):mtM:=`(tactic|walk_at $(Lean.quote s))
def mtU (c:Char):mtM:=match c with
 |'a'=>`(tactic|assumption)
 |'H'=>mwt "has"
 |'M'=>mwt "mem"
 |'A'=>mwt "hasall"
 |'z'=>mwt "szq"
 |'D'=>mwt "dom"
 |'m'=>mwt "mul"
 |'s'=>mwt "sz"
 |'u'=>mwt "sub"
 |'v'=>mwt "dats"
 |'r'=>`(tactic|exact rfl)
 |'o'=>`(tactic|omega)
 |'d'=>`(tactic|decide)
 |'K'=>`(tactic|decide+kernel)
 |'x'=>`(tactic|first|decide|omega)
 |'y'=>`(tactic|first|assumption|omega)
 |'t'=>`(tactic|exact ⟨by decide,by decide⟩)
 |'T'=>`(tactic|exact ⟨by decide,by decide,by decide⟩)
 |'N'=>`(tactic|exact jbP rfl)
 |'i'=>`(tactic|(show (0:Int)<_;decide))
 |'j'=>`(tactic|(show (0:Int)<_;omega))
 |'q'=>`(tactic|first|exact kit_tt|exact kit_tl|exact kit_lt|exact kit_ll|exact kit_it|exact kit_il|exact kit_ib|exact kit_ii|exact kit_st|exact kit_sl|exact kit_sb|exact kit_si|exact kit_ss)
 |'L'=>`(tactic|first|assumption|omega|(simp only [str_len];omega)|(simp only [str_len] at*;omega))
 |_=>Lean.Macro.throwUnsupported
def mtY (n:Lean.Name) (s:List Char):mtM:=do
 match s with
 |'!'::c::_=>mtU c
 |'*'::c::_=>Lean.Macro.throwUnsupported
 |'='::r=>do
  let mut a:Array Lean.Term:=#[]
  for c in r do
   if c=='_' then a:=a.push (<-`(_))
   else
    let u<-mtU c
    a:=a.push (<-`(by $u:tactic))
  `(tactic|exact $(Lean.Syntax.mkApp (Lean.mkIdent n) a))
 |_=>do
  let r:=if s.head? ==some '+' then s.tail else s
  let mut a:Array Lean.Term:=#[]
  let mut cs:Array (Lean.TSyntax `tactic):=#[]
  for c in r do
   if c=='_' then a:=a.push (<-`(_))
   else if c.isDigit then
    for _ in List.range (c.toNat - 48) do cs:=cs.push (<-`(tactic|intro _))
   else
    let h:=Lean.mkIdent (<-Lean.Macro.addMacroScope (Lean.Name.mkSimple (if c=='k' then "k" else s!"x{a.size}")))
    a:=a.push (<-`(?$h))
    if c !='k' then
     let u<-mtU c
     cs:=cs.push (<-`(tactic|case $h:ident=>$u:tactic))
  let e:Lean.Term:=Lean.Syntax.mkApp (Lean.mkIdent n) a
  let t<-`(tactic|refine' $e)
  let t<-if s.head? ==some '+' then pure t else `(tactic|with_reducible $t:tactic)
  `(tactic|($t:tactic;$[$cs:tactic];*))
def mtTK:String:="rk:rd_var k:rd_c k:rd_cons k:rd_nil k:rd_seq k:rd_asg k:zQ k:rd_nx k:rd_op k:rd_next k:rd_call k:rd_cb k:rd_tup k:rd_fld k:YB k:xR k:aP k:rd_if k:rd_test k:rd_tB k:rd_rI0 k:rd_bm k:rd_rt k:rd_ret k:rd_for k:rd_comp k:rd_drop k:rd_lst k:Gw k:rd_make k:rd_sl k:rd_part k:rd_kPart k:rd_un k:rd_and k:rd_or k:rd_not aHrk:rd_ixTS ak:rd_strI k:rd_rev aqkr:rd_isi k:rd_jCons k:rd_fmt k:rd_methA k:rd_kBMs k:rd_addSI k:rd_eqS k:rd_neS Lk:rd_kJ Lk:rd_jNil Lk:rd_kFmtS ak:rd_kFmtI Lk:rd_addS aHHzzdDk4:qd aHHzzdk:fi aok:rd_cell ok:rd_div2 aqk:rd_isi k:rd_noPart k:rd_iRv k:rd_true k:rd_gsub k:rd_mix aHk:rd_sumL aMk:rd_sumC k:rd_addI aHrk:rd_ixTI aHrk2:ja aHrk:WN aHrk2:yS mk:rd_mulB xk:rd_modL yk:rd_modN tk:rd_fdivL ak:rd_fdivB Tk:rd_pow k:rd_nxL k:rd_rtL aANk4:rd_kTup aANk4:AG k:rd_isbl k:rd_eqI k:rd_neI k:rd_andV k:rd_orV k:rd_notV k:rd_ifE k:rd_rU k:rd_retN aHk:rd_lenT aHk:rd_lenL aMk:rd_lenC k:rd_abs k:rd_min k:rd_max k:rd_iList k:rd_iTup k:rd_iR1 k:rd_iR2 k:rd_iEn k:rd_iZi aHk3:YA aHk4:rd_kGT3 k:rd_bm0 aMk:rd_kBM aMk:rd_kBM0 aHk4:rd_listL aMk4:rd_listC aHk4:rd_listT aHk4:rd_tupleL aMk4:rd_tupleC k:rd_par k:rd_is2 rk:rd_aug k:rd_ipI k:iteT k:iteF k:iteNF k:iteNT k:rd_nx0 k:rd_ctL k:rd_bkL k:rd_ct k:rd_bk k:rd_eqB k:rd_neB . =_:List.Mem.head +_M:List.Mem.tail . =:Has.int =:Has.bl =:Has.non =:Has.str =:Has.mm . =:yc.nil +HA:yc.cons . !a:- =a:SzQ.num =a:SzQ.den =ss:Sz.mul =ss:Sz.add' =ss:Sz.sub' =d:Sz.lit . !a:- =d:IntMulOk.of_left =d:IntMulOk.of_right =d:mulModOk =ssd:Sz.mulOk . !i:- !j:- !d:- !a:- . =_:List.Sublist.refl =_:List.nil_sublist +_u:List.Sublist.cons₂ +_u:List.Sublist.cons . =:Dats.nil +Hv:Dats.cons . !a:- =zz:SzQ.add =zz:SzQ.sub =zz:SzQ.mul =zz:SzQ.div . =:True.intro !a:- . k:rd_methB k:rd_lz k:rd_try k:rd_nxX k:rd_rtX . aHHaak4:rd_gap . rk:iteSY Kk:iteSN k:rd_sortS k:rd_methB . k:rd_methB ."
def mtK (k:Nat):String:=(mtTK.splitOn " ").getD k "."
def mtN (c:Char):Nat:=if c.isDigit then c.toNat - 48 else c.toNat - 87
def mtT:String:="`azh # #`bpv %`czA`dYb`ezJ #`fzK # #`gpcl !3 hr #`hpix %`iZR #`jCQ % nd0 #`kZn _`lYI # # #`mnL #`nxr # # # #`oYf hr`pUN YV # # !1`qyQ`rjd #`sje #`tIa op_mod # #`uXt`vpg_c %`wIa kN # #`xIa op_mulB # #`yUl #`zkK`Ape_un un_neg #`Byk xh rfl B.len XF #`Cpcf $ % & # # # #`Dso # #`EZh #`FEc % nd0`GIa op_fdiv # #`Hpo_some #`Ipe_slice sl_list # # #`Jcg PassesOwn.never rfl # # #`Kpo_none`LIa op_sub # #`MIa op_pow # #`Npg_tup rfl #`OHZ`Ppe_bl`QAX #`Rxr op_gt # # #`SPW.pt #`Tpe_ccall rfl Yd eY fm xW # hr xV xY Ef #`UZa.mono !2`Vpw_and # #`Wxr AY # # #`Xpe_callTy IV rfl B.tuple bt_tuple #`Ypw_and1 #`Zqh PySem.F.plainAttrs_list PySem.F.slot_list_append PySem.F.type_list_append Zi # #`0Ia op_modN # #`1Ia op_fdivB # #`2pscf % nd0 $ % & # # # #`3pe_methA # # hr xp Ef`4ZT.mono !2`5ps_while PassesOwn.never # #`6yk call_absA rfl B.abs bt_abs #`7Ia op_addS # #`8ps_asg # #`9pg_sub # # set_list`+UJ #`-pi_enum true rfl B.enumerate #`*yk # rfl B.sum bt_sum #`/call_sumA rfl`<Ia op_rep # #`>pi_zip false false rfl B.zip #`=HX #`!ps_aug !6 nd0 rfl !7 # ip_add`?fq rfl B.range #`@zJ UK`#AR # #`$pe_fld # rfl`%yk call_isi rfl B.isinstance xu #`&pi_zip false true rfl B.zip #`^Ed rfl rfl B2.sorted rfl B2.set #`~pe_callTy Jp rfl B.list bt_list #`|pe_cmpR AY # # #`:pi_enum false rfl B.enumerate #`.sk #`,Gy #`;pi_rev rfl B.reversed #`_pi_tup #`(ps_fld # # rfl`)pe_and # #`[Ig !4 rfl B.int bt_int rfl`]pe_one #`{pe_not #`}Ig !4 rfl B.bool bt_bool rfl`αqh PySem.F.plainAttrs_list PySem.F.slot_list_extend PySem.F.type_list_extend Jn # #`βyk # rfl B.min Cz #`γcall_minL rfl`δqh PySem.F.plainAttrs_list PySem.F.slot_list_extend PySem.F.type_list_extend mt_extend # #`εYU # # hr yN Ef #`ζxv.mono !2`ηps_par !6 !a rfl nd0 rfl rfl !b rfl rfl # rfl`θpe_make0 oU # hr rfl sX CS !8 Ef`ιDd.mono !2`κpe_make0 oY # hr rfl tf CY !8 Ef`μDi.mono !2`νpe_make0 oV # hr rfl sY CT !8 Ef`ξDf.mono !2`πpe_make0 oW # hr rfl sZ CU !8 Ef`ρDg.mono !2`σpe_make tR # hr rfl Cc FT !8 Ef #`τGb.mono !2`υpe_make tQ # hr rfl Cb FR !8 Ef #`φGa.mono !2`χpe_make oX # hr rfl td CV !8 Ef #`ψDh.mono !2`ωpe_make CJ # hr rfl GO GY !8 Ef #`ΓHh.mono !2`Δxr op_in_seq # # rfl"
def mtG:Nat->List Char->Lean.MacroM (Lean.Term×List Char)
 |0,_=>Lean.Macro.throwUnsupported
 |_,[]=>Lean.Macro.throwUnsupported
 |k+1,c::r=>do
  let mut a:Array Lean.Term:=#[]
  let mut r:=r
  for w in ((((mtT.splitOn ("`"++c.toString)).getD 1 "").splitOn "`").head!).splitOn " " do
   if w=="#" then
    let p<-mtG k r
    a:=a.push p.1
    r:=p.2
   else if w=="%" then
    a:=a.push (Lean.quote (mtN r.head!))
    r:=r.tail!
   else if w=="$" then
    a:=a.push (Lean.quote ((String.ofList (r.takeWhile (·!=';'))).splitOn ","))
    r:=(r.dropWhile (·!=';')).tail!
   else if w=="&" then
    a:=a.push (Lean.quote ((r.takeWhile (·!=';')).map mtN))
    r:=(r.dropWhile (·!=';')).tail!
   else if w=="_" then a:=a.push (<-`(_))
   else if w=="!1" then a:=a.push (<-`(λ_ _=>rfl))
   else if w=="!2" then a:=a.push (<-`(by walk_at "l"))
   else if w=="!4" then
    a:=a.push ⟨<-`(Lean.Parser.Term.namedArgument|(v:= .ty $(Lean.quote (String.ofList (r.takeWhile (·!=';')))):term))⟩
    r:=(r.dropWhile (·!=';')).tail!
   else if w=="!5" then a:=a.push ⟨<-`(Lean.Parser.Term.namedArgument|(v:= .ref _))⟩
   else if w=="!6" then
    a:=a.push ⟨<-`(Lean.Parser.Term.namedArgument|(i:=$(Lean.quote (mtN r.head!))))⟩
    r:=r.tail!
   else if w=="!7" then a:=a.push (<-`(by walk_at "o"))
   else if w=="!8" then a:=a.push (<-`(.nil))
   else if w=="!9" then a:=a.push (<-`(⟨_,rfl⟩))
   else if w=="!a" then a:=a.push ⟨<-`(Lean.Parser.Term.namedArgument|(j:=1))⟩
   else if w=="!b" then a:=a.push (<-`(by decide))
   else if w=="!3" then a:=a.push (<-`(by assumption))
   else a:=a.push (Lean.mkIdent w.toName)
  return (Lean.Syntax.mkApp a[0]! (a.extract 1 a.size),r)
local macro_rules|`(tactic|walk_at $s:str)=>do
 match s.getString.toList with
 |'='::r=>
  let p<-mtG 999 r
  `(tactic|(refine ⟨_,$(p.1),yY ?_⟩;try dsimp only [kxx,kyy]))
 |_=>Lean.Macro.throwUnsupported
local macro_rules|`(tactic|fail $s:str)=>do
 match s.getString.toList with
 |'&'::r=>
  let k:=(String.ofList r).toNat! +1
  if mtK k=="." then Lean.Macro.throwUnsupported
  else `(tactic|fail $(Lean.quote ("&"++toString k)))
 |_=>Lean.Macro.throwUnsupported
local macro_rules|`(tactic|fail $s:str)=>do
 match s.getString.toList with
 |'&'::r=>
  let w:=mtK (String.ofList r).toNat!
  if w=="." then Lean.Macro.throwUnsupported
  else match w.splitOn ":" with
   |[c,n]=>mtY n.toName c.toList
   |_=>Lean.Macro.throwUnsupported
 |_=>Lean.Macro.throwUnsupported
local macro_rules|`(tactic|walk_at "n")=>`(tactic|(intro _ _ _ _ h;first|(obtain ⟨_,_,_,h,_⟩:=h;rw [<-h.len];rfl)|(obtain ⟨_,h,_⟩:=h;rw [<-h.len];rfl)|(obtain ⟨_,_,_,_,h,_⟩:=h;rw [<-h.len];rfl)|(obtain ⟨_,_,_,_,_,_,_,_,_,h,_⟩:=h;rw [<-h.len];rfl)|(obtain ⟨_,_,e,_⟩:=h;subst e;rfl)|(obtain ⟨_,_,_,e,_⟩:=h;subst e;rfl)|(obtain ⟨_,e,_⟩:=h;subst e;rfl)|(obtain ⟨_,_,_,_,e,_⟩:=h;subst e;rfl)|(obtain ⟨_,_,_,_,_,e,_⟩:=h;subst e;rfl)|(obtain ⟨_,_,_,_,_,_,e,_⟩:=h;subst e;rfl)))
local macro_rules|`(tactic|walk_at "mem")=>`(tactic|first|fail "&127"|fail)
local macro_rules|`(tactic|walk_at "has")=>`(tactic|first|fail "&130"|fail)
local macro_rules|`(tactic|walk_at "hasall")=>`(tactic|first|fail "&136"|fail)
local macro_rules|`(tactic|walk_at "sz")=>`(tactic|first|fail "&139"|fail)
local macro_rules|`(tactic|walk_at "mul")=>`(tactic|first|fail "&147"|fail)
local macro_rules|`(tactic|walk_at "div")=>`(tactic|exact ⟨by decide,by decide⟩)
local macro_rules|`(tactic|walk_at "mod")=>`(tactic|first|fail "&153"|fail)
local macro_rules|`(tactic|walk_at "rd")=>`(tactic|first|fail "&0"|fail)
local macro_rules|`(tactic|walk_at "sub")=>`(tactic|first|fail "&158"|fail)
local macro_rules|`(tactic|walk_at "dats")=>`(tactic|first|fail "&163"|fail)
local macro_rules|`(tactic|walk_at "walk")=>`(tactic|repeat walk_at "rd")
local macro_rules|`(tactic|walk_at "szq")=>`(tactic|first|fail "&166"|fail)
local macro_rules|`(tactic|walk_at "dom")=>`(tactic|first|fail "&172"|fail)
def DF (K:PySem.W.Frag):Sp:=λvs H Q _=>∃(a:Addr) (ns:List Int),vs=[.ref a]/\SqL K H a (ns.map V.int)/\ns.length<=63/\Only H/\∀H',Q (.bl true) H'
theorem oG {P:Program} {w:World} {K:PySem.W.Frag} {mg:Str->Option Value} {base:Heap} {f:Addr} {fd:FuncData} {k:Nat} {x:Str} {st:Stmt} {ps:List Str} {sp:Sp} (F:Fun K x x st f fd) (G:FnOk P w K mg base CX0 k f fd ps sp) (hm:mg x=some (.ref f)) (b:yX K fd ps []):Cal P w K mg base CX0 k x ps sp:=⟨f,fd,G,hm,F.kp,b⟩
section
variable {P:Program} {w:World} {K:PySem.W.Frag} {mg:Str->Option Value} {base:Heap} {f:Addr} {fd:FuncData}
def top (i:Nat):Stmt:=PySem.Challenge.pw_shortpurse_k28_claims_and_purses_refused.main.body.getD i (.Pass ⟨0,0,0,0⟩)
abbrev Zf:Stmt:=top 23
theorem Ua:FnScope ["one","two","rest"] pab (zk Zf):=xC
abbrev dc:Stmt:=top 22
theorem mT:FnScope ["top","bottom","divisor"] pav (zk dc):=xC
def HA:Sp:=λvs H Q _=>∃a b:Int,vs=[.int a, .int b]/\0<=a/\0<=b/\Q (.int (Int.gcd a b:Nat)) H
theorem ok_gcd (F:Fun K "greatest_divisor" "greatest_divisor" Zf f fd):FnOk P w K mg base CX0 1 f fd pab HA:=by
 refine F.oo Ua λH vs Q E hr nd0 h=>?_;obtain ⟨a,b,rfl,ha,p,q⟩:=h;walk_at "=f5nQob1dkfj20b0b1fj0b1ej1b2eib0";refine pF (λm σ H2=>∃(x y:Int) (v:Option V),σ=[some (.int x),some (.int y),v]/\0<=x/\0<=y/\Int.gcd x y=Int.gcd a b/\H2=H/\m=y.toNat) _ ⟨a,b,none,rfl,ha,p,rfl,rfl,rfl⟩ ?_
 rintro m σ H2 ⟨x,y,v,rfl,hx,hy,hg,rfl,rfl⟩
 left;refine uC (λc=>?_) (λc=>?_)
 ·have c:y≠0:=by simpa using c
  left;have e:x.fmod y=x % y:=TL x hy;have g:=jad x c;have r:=jao x (show 0<y by omega);refine ⟨(x.fmod y).toNat,by rw [e];omega,y,x.fmod y,_,rfl,hy,by rw [e];exact g,?_,rfl,rfl⟩;rw [e,sV,hg]
 ·have c:y=0:=by simpa using c
  subst c;left;have e:x=((Int.gcd a b:Nat):Int):=by rw [<-hg,Int.gcd_zero];omega
  show Q (.int x) H2;rw [e];exact q
theorem Bm (B:Bl mg) (u:Cal P w K mg base CX0 1 "greatest_divisor" pab HA) (F:Fun K "lowest" "lowest" dc f fd):FnOk P w K mg base CX0 2 f fd pav Vk:=by
 refine F.oo mT λH vs Q E hr nd0 h=>?_;obtain ⟨G,⟨a,b⟩,s,r,⟨g,sb⟩,k⟩:=h;cases (yF (ns:=[a,b]) r);have S:Sta H G H [] []:=Sta.enter s λp hp=>absurd hp Qx;dsimp only at g sb k;walk_at "=fj2ga6ab0ca6ab1ccflWb1dkej2Ab2qeima1b0b2a1b1b2c";left;refine ⟨_,_,rfl,by omega,by omega,?_⟩;rw [show Int.gcd (a.natAbs:Int) (b.natAbs:Int)=Int.gcd a b by simp;rfl];have t:0<Int.gcd a b:=jbn a g
 have m:Sz 8999 (Int.gcd a b:Nat):=by
  refine Sz.le sb ?_;have:=Nat.le_of_dvd (by omega) (Int.gcd_dvd_natAbs_right a b);omega
 left;refine Yc (λc=>?_) (λc=>?_)
 ·have q:CDv a (-((Int.gcd a b:Nat):Int)):=⟨by omega,m.le (by omega)⟩;left;refine yW (by assumption) k (.mem ?_);rw [show frD (Rat.divInt a b)= .tuple [.int (a.fdiv (-((Int.gcd a b:Nat):Int))), .int (b.fdiv (-((Int.gcd a b:Nat):Int)))] by unfold frD;rw [<-(lr c).1,<-(lr c).2]];walk_at "mem"
 ·have q:CDv a ((Int.gcd a b:Nat):Int):=⟨by omega,m⟩;left;refine yW (by assumption) k (.mem ?_);rw [show frD (Rat.divInt a b)= .tuple [.int (a.fdiv ((Int.gcd a b:Nat):Int)), .int (b.fdiv ((Int.gcd a b:Nat):Int))] by unfold frD;rw [<-(WV (show 0<b by omega)).1,<-(WV (show 0<b by omega)).2]];walk_at "mem"
abbrev rV:Stmt:=top 16
theorem Aj:FnScope pab pab (zk rV):=xC
theorem Ik (I:Cal P w K mg base CX0 2 "lowest" pav Vk) (F:Fun K "plus" "plus" rV f fd):FnOk P w K mg base CX0 3 f fd pab iQ:=by
 refine F.oo Aj λH vs Q E hr nd0 h=>?_;obtain ⟨G,⟨p,q⟩,t,s,⟨⟨m,n,hp,g,u⟩,_⟩,k⟩:=h;obtain ⟨v,y,rfl,al⟩:=yP s;have S:Sta H G H [] _:=Sta.enter t al;dsimp only at hp g k S;have D:IntMulOk p.num (q.den:Int):=hp.1.mulOk g.2 (by omega);have C:IntMulOk q.num (p.den:Int):=g.1.mulOk hp.2 (by omega);have A:IntMulOk (p.den:Int) (q.den:Int):=hp.2.mulOk g.2 (by omega);have z:IntMulOk p.num q.num:=hp.1.mulOk g.1 (by omega);walk_at "=eigawxh0h1xh1h0axh0h1c";left;refine UG (by assumption) (xg p q) ((hp.2.mul g.2).mono u) λr H' e S=>?_;rw [rm] at S;exact yW S k ‹_›
theorem uW (B:Bl mg) (u:Cal P w K mg base CX0 1 "greatest_divisor" pab HA) (F:Fun K "lowest" "lowest" dc f fd):FnOk P w K mg base CX0 2 f fd pav dY:=by
 refine F.oo mT λH vs Q E hr nd0 h=>?_;obtain ⟨G,⟨a,b⟩,s,r,⟨m,g⟩,k⟩:=h;cases (yF (ns:=[a,b]) r);have S:Sta H G H [] []:=Sta.enter s λp hp=>absurd hp Qx;dsimp only at m g k;walk_at "=fj2ga6ab0ca6ab1ccflWb1dkej2Ab2qeima1b0b2a1b1b2c";left;refine ⟨_,_,rfl,by omega,by omega,?_⟩;rw [show Int.gcd (a.natAbs:Int) (b.natAbs:Int)=Int.gcd a b by simp;rfl];have t:0<Int.gcd a b:=jbn a m;left;refine Yc (λc=>?_) (λc=>?_)
 ·have q:CDv a (-((Int.gcd a b:Nat):Int)):=⟨by omega,g.le (by omega)⟩;left;refine yW (by assumption) k (.mem ?_);rw [show frD (Rat.divInt a b)= .tuple [.int (a.fdiv (-((Int.gcd a b:Nat):Int))), .int (b.fdiv (-((Int.gcd a b:Nat):Int)))] by unfold frD;rw [<-(lr c).1,<-(lr c).2]];walk_at "mem"
 ·have q:CDv a ((Int.gcd a b:Nat):Int):=⟨by omega,g⟩;left;refine yW (by assumption) k (.mem ?_);rw [show frD (Rat.divInt a b)= .tuple [.int (a.fdiv ((Int.gcd a b:Nat):Int)), .int (b.fdiv ((Int.gcd a b:Nat):Int))] by unfold frD;rw [<-(WV (show 0<b by omega)).1,<-(WV (show 0<b by omega)).2]];walk_at "mem"
theorem Ep (D:Cal P w K mg base CX0 2 "lowest" pav dY) (F:Fun K "plus" "plus" rV f fd):FnOk P w K mg base CX0 3 f fd pab pQ:=by
 refine F.oo Aj λH vs Q E hr nd0 h=>?_;obtain ⟨G,⟨p,q⟩,t,s,⟨m,n,hp,g,hm,hn⟩,k⟩:=h;obtain ⟨v,u,rfl,al⟩:=yP s;have S:Sta H G H [] _:=Sta.enter t al;dsimp only at hp g k S;have C:IntMulOk p.num (q.den:Int):=hp.1.mulOk g.2 (by omega);have A:IntMulOk q.num (p.den:Int):=g.1.mulOk hp.2 (by omega);have z:IntMulOk (p.den:Int) (q.den:Int):=hp.2.mulOk g.2 (by omega);have y:IntMulOk p.num q.num:=hp.1.mulOk g.1 (by omega);walk_at "=eigawxh0h1xh1h0axh0h1c";left;refine uF (by assumption) (xg p q) (vH g hn) λr H' e S=>?_;rw [rm] at S;exact yW S k ‹_›
section
local macro_rules|`(tactic|walk_at "rd")=>`(tactic|first|fail "&175"|fail)
abbrev ZJ:Stmt:=top 10
theorem Zd:FnScope ["claims","claim"] pai (zk ZJ):=xC
abbrev XY:Stmt:=ZD (top 61) 3
theorem cb:FnScope pah pah (zk XY):=xC
abbrev ZQ:Stmt:=ZD (top 61) 4
theorem XR:FnScope pac pac (zk ZQ):=xC
abbrev Vm:Stmt:=top 32
theorem eJ:FnScope ["path","purse","place"] paC (zk Vm):=xC
theorem Bs {t:Addr} (g:PyProof.Rows.OwnCls "NoClaims" t ZP "ValueError.__new__" mg base) (B:Bl mg) (p:mg "MOST"=some (.int 8 tM)) (F:Fun K "check_claims" "check_claims" ZJ f fd):FnOk P w K mg base (CX1 P w) 1 f fd pai (cY t):=by
 refine F.ok1 Zd (λvs H Q E h=>?_) (λM A outer s H vs Q E hr h=>?_)
 ·obtain ⟨l,h,_⟩:=h;rw [<-h.len];rfl
 obtain ⟨l,z,⟨bad,few⟩,k⟩:=h;obtain ⟨v,rfl,al⟩:=YX z;have S:Sta H H H [] [(zo l,v)]:=Sta.enter (zH.refl _) al;refine ⟨_,(zK (YI (PW.pt (AR (xr (je (Yf hr)) (yk xh rfl B.len XF (zh (pv 0) zA)) Yb (Zn _)) (sk (xr op_gt (yk xh rfl B.len XF (zh (pv 0) zA)) (WQ (v:= .int 8) rfl p ⟨_,rfl⟩) (Zn _))))) (zJ (Vq g PySem.F.excBase_ValueError rfl rfl rfl rfl rfl (λ_ _ h=>h) (zh Xt zA))) yQ) (zJ (cg PassesOwn.leaving rfl (Ul (pv 0)) (Ec 1 Zd.nd) (zJ (YI (xr AY (yk (oC rfl) rfl B.min Cz (zh (pv 1) zA)) Yb (Zn _)) (zJ (Vq g PySem.F.excBase_ValueError rfl rfl rfl rfl rfl (λ_ _ h=>h) (zh Xt zA))) yQ))))),yY ?_⟩;left;refine Yc (λc=>?_) (λD=>?_)
 ·left;refine Yg ?_;left;exact ⟨by show 1<=sizeLine;decide,k _ (zH.refl _)⟩
 left;refine Yc (λc=>?_) (λC=>?_)
 ·left;refine Yg ?_;left;exact ⟨by show 1<=sizeLine;decide,k _ (zH.refl _)⟩
 rw [Qa] at D C;left;refine yt (xs:=l.map zB) S ‹_› λJ y=>?_;refine Zo y (λi σ cs ds=>(∃x,σ=[some v,x])/\cs=[]/\ds=[(zo l,v)]/\∀(j:Nat) (c:Cl),j<i->l[j]? =some c->0<=c.1/\0<=c.2.1/\0<=c.2.2) S ⟨⟨none,rfl⟩,rfl,rfl,λj c h=>absurd h (Nat.not_lt_zero _)⟩ (λi σ cs ds h=>?_) ?_ ?_
 ·obtain ⟨_,rfl,rfl,_⟩:=h;exact .mem (by right)
 ·rintro i x u σ H2 cs ds hx ⟨⟨x1,rfl⟩,rfl,rfl,hg⟩ S2
  obtain ⟨c,r,rfl⟩:=ya hx;left;refine AB (ns:=[c.1,c.2.1,c.2.2]) S2 ‹_› (Nat.zero_lt_succ _) λm hm low=>?_;left;refine Yc (λc=>?_) (λm0=>?_)
  ·left;refine Yg ?_;left;exact ⟨by show 1<=sizeLine;decide,k _ S2.base⟩
  left;refine Xs (S2.dat (by walk_at "dats")) ⟨⟨_,rfl⟩,rfl,rfl,λj d q hd=>?_⟩
  by_cases e:j=i
  ·subst e;rw [r] at hd;cases hd;have L:=low c.1 (by simp);have I:=low c.2.1 (by simp);have G:=low c.2.2 (by simp);omega
  ·exact hg j d (by omega) hd
 ·rintro σ H2 cs ds ⟨⟨x1,rfl⟩,rfl,rfl,hg⟩ S2
  exfalso
  rcases bad with b|b|⟨c,r,b⟩
  ·omega
  ·omega
  ·obtain ⟨j,q⟩:=Qu.mp r;have:=hg j c (by rw [Qa];exact (Qg.mp q).1) q;omega
section
variable {A:RAd} {t:Nat}
theorem Er {fS fT Ru g:Addr} {n:Nat} (z:∀r:Rl,ROk K fS fT Ru (A.cls r)) (m:Cal P w K mg base (CX1 P w) 1 "check_claims" pai (cY g)) (u:Cal P w K mg base CX0 (2*n+8) "course" paq (Yv t n)) (F:Fun K "path" "Rule.path" XY f fd):FnOk P w K mg base (CX1 P w) (2*n+9) f fd pah (jL A g):=by
 refine F.ok1 cb (λvs H Q E h=>?_) (λC D outer s H vs Q E hr h=>?_)
 ·obtain ⟨r,l,h,_⟩:=h;rw [<-h.len];rfl
 obtain ⟨r,l,p,⟨bad,few⟩,k⟩:=h;obtain ⟨v0,v1,rfl,al⟩:=yP p;have S:Sta H H H [] _:=Sta.enter (zH.refl _) al;refine ⟨_,(zK (Zh (VM m hr (by walk_at "l") (aT rfl rfl rfl (λ_ _ h=>h)) rfl (zh (pv 1) zA))) (zJ (ZR (pcl u hr (zh (pe_fld (pv 0) rfl) (zh (pv 1) zA)))))),yY ?_⟩;left;refine nE S ‹_› bad few λH1 q y=>?_;exact k H1 q
theorem Bi {fS fT Ru p m:Addr} {g:FuncData} {n:Nat} (D:∀r:Rl,ROk K fS fT Ru (A.cls r)) (G:∀r:Rl,Meth K (A.cls r) "path" p) (xv:FnOk P w K mg base (CX1 P w) (2*n+9) p g pah (jL A m)) (yN:yX K g pah []) (z:Cal P w K mg base CX0 6 "parts_at" paC WC) (F:Fun K "parts" "Rule.parts" ZQ f fd):FnOk P w K mg base (CX1 P w) (2*n+10) f fd pac (jN A m):=by
 refine F.ok1 XR (λvs H Q E h=>?_) (λM N outer s H vs Q E hr h=>?_)
 ·obtain ⟨r,l,u,⟨v,w,rfl,_⟩,_⟩:=h;rfl
 obtain ⟨r,l,u,⟨v0,v1,rfl,q⟩,⟨bad,few⟩,k⟩:=h;obtain ⟨J,I,e,al⟩:=yP q;cases e;have S:Sta H H H [] _:=Sta.enter (zH.refl _) al;refine ⟨_,(zJ (ZR (pcl z hr (zh (YU (pv 0) (xv.mono (by walk_at "l")) hr yN (aT rfl rfl rfl (λ_ _ h=>h)) (zh (pv 1) zA)) (zh (pv 2) zA))))),yY ?_⟩;left;refine cf (C:=A.cls r) S ‹_› (D r).cl (G r) (by decide+kernel) ?_;left;refine rZ (r:=r) S ‹_› ‹_› bad few λH1 y L=>?_;exact k H1 y
theorem Bh {fS fT Ru p m:Addr} {g:FuncData} {n:Nat} (I:∀r:Rl,ROk K fS fT Ru (A.cls r)) (J:∀r:Rl,Meth K (A.cls r) "path" p) (xv:FnOk P w K mg base CX0 (2*n+9) p g pah (dX A t n)) (yN:yX K g pah []) (z:Cal P w K mg base (CX1 P w) 1 "parts_at" paC (Hy m)) (F:Fun K "parts" "Rule.parts" ZQ f fd):FnOk P w K mg base (CX1 P w) (2*n+10) f fd pac (jM A t n m):=by
 refine F.ok1 XR (λvs H Q E h=>?_) (λN O outer s H vs Q E hr h=>?_)
 ·obtain ⟨G,r,l,e,_,h,_⟩:=h;rw [<-h.len];rfl
 obtain ⟨G,r,l,e,u,q,⟨⟨ru,hn⟩,L,he⟩,k⟩:=h;obtain ⟨v0,v1,v2,rfl,al⟩:=YW q;have S:Sta H G H [] _:=Sta.enter u al;refine ⟨_,(zJ (ZR (VM z hr (by walk_at "l") (aT rfl rfl rfl (λ_ _ h=>h)) rfl (zh (YU (pv 0) (xv.mono (by walk_at "l")) hr yN Ef (zh (pv 1) zA)) (zh (pv 2) zA))))),yY ?_⟩;left;refine cf (C:=A.cls r) S ‹_› (I r).cl (J r) (by decide+kernel) ?_;left;refine kE (r:=r) S ‹_› ‹_› ru hn L λM H1 y D=>?_;left;refine rd_pax D ‹_› he ?_;exact k H1 y
end
abbrev Xh:Stmt:=top 27
theorem WH:FnScope ["places","count","place"] ["places","count"] (zk Xh):=xC
theorem ok_plx {m:Addr} (g:PyProof.Rows.OwnCls "NoPlace" m ZP "ValueError.__new__" mg base) (D:Cal P w K mg base CX0 1 "is_whole" ["number"] pL) (F:Fun K "check_places" "check_places" Xh f fd):FnOk P w K mg base (CX1 P w) 2 f fd ["places","count"] (Hx m):=by
 refine F.ok1 WH (λvs H Q E h=>?_) (λL A outer s H vs Q E hr h=>?_)
 ·obtain ⟨ps,n,h,_⟩:=h;rw [<-h.len];rfl
 obtain ⟨ps,n,C,z,y⟩:=h;obtain ⟨v,v1,rfl,al⟩:=yP C;have r:Sta H H H [] [(.int n,v1),(eZ ps,v)]:=(Sta.enter (zH.refl _) al).dat (by walk_at "dats");cases r.int1;have S:Sta H H H [] [(eZ ps,v)]:=r.dat (by walk_at "dats");refine ⟨_,(zJ (cg PassesOwn.leaving rfl (Ul (pv 0)) (Ec 2 WH.nd) (zJ (YI (PW.pt (AR (Gy (UJ (pcl D hr (zh (pv 2) zA)))) (AR (xr AY (pv 2) Yb (Zn _)) (sk (xr op_ge (pv 2) (pv 1) (Zn _)))))) (zJ (Vq g PySem.F.excBase_ValueError rfl rfl rfl rfl rfl (λ_ _ h=>h) (zh Xt zA))) yQ)))),yY ?_⟩;left;refine yt (xs:=ps.map PyData.int) S ‹_› λJ t=>?_;refine Zo t (λi σ cs ds=>(∃x,σ=[some v,some (.int n),x])/\cs=[]/\ds=[(eZ ps,v)]/\∀(j:Nat) (p:Int),j<i->ps[j]? =some p->0<=p/\p<n) S ⟨⟨none,rfl⟩,rfl,rfl,λj c h=>absurd h (Nat.not_lt_zero _)⟩ (λi σ cs ds h=>?_) ?_ ?_
 ·obtain ⟨_,rfl,rfl,_⟩:=h;exact .mem (by right)
 ·rintro i x u σ H2 cs ds hx ⟨⟨x1,rfl⟩,rfl,rfl,hg⟩ S2
  obtain ⟨p,hp,rfl⟩:=ya hx;cases S2.int1;have bad:p<0\/n<=p->E (.ref m) none H2:=λb=>z ⟨p,Qb hp,b⟩ _ S2.base;left;refine DR ?_;left;refine Yc (λc=>?_) (λI=>?_)
  ·left;refine Yg ?_;left;exact ⟨by show 1<=sizeLine;decide,bad (.inl c)⟩
  left;refine Yc (λc=>?_) (λG=>?_)
  ·left;refine Yg ?_;left;exact ⟨by show 1<=sizeLine;decide,bad (.inr c)⟩
  left;refine Xs (S2.dat (by walk_at "dats")) ⟨⟨_,rfl⟩,rfl,rfl,λj d q hd=>?_⟩
  by_cases e:j=i
  ·subst e;rw [hp] at hd;cases hd;omega
  ·exact hg j d (by omega) hd
 ·rintro σ H2 cs ds ⟨⟨x1,rfl⟩,rfl,rfl,hg⟩ S2
  refine y (λp hp=>?_) _ S2.base;obtain ⟨j,q⟩:=Qu.mp hp;exact hg j p (by rw [Qa];exact (Qg.mp q).1) q
abbrev ZW:Stmt:=top 28
theorem Zp:FnScope ["claims","parts","claim","part"] paS (zk ZW):=xC
theorem ok_dvx {zz:Addr} (r:PyProof.Rows.OwnCls "NoDivision" zz ZP "ValueError.__new__" mg base) (B:Bl mg) (Wh:Cal P w K mg base CX0 1 "before" pab Ux) (F:Fun K "check_division" "check_division" ZW f fd):FnOk P w K mg base (CX1 P w) 2 f fd paS (DG zz):=by
 refine F.ok1 Zp (λvs H Q E h=>?_) (λKq A outer s H vs Q E hr h=>?_)
 ·obtain ⟨l,ps,h,_⟩:=h;rw [<-h.len];rfl
 obtain ⟨l,ps,X,⟨nn,M,few,I⟩,G,U⟩:=h;obtain ⟨v,v1,rfl,al⟩:=yP X;have S:Sta H H H [] [(zo l,v),(.list (ps.map frD),v1)]:=Sta.enter (zH.refl _) al;refine ⟨_,(zK (YI (xr (AX (Yf hr)) (yk xh rfl B.len XF (zh (pv 1) zA)) (yk xh rfl B.len XF (zh (pv 0) zA)) (Zn _)) (zJ (Vq r PySem.F.excBase_ValueError rfl rfl rfl rfl rfl (λ_ _ h=>h) (zh Xt zA))) yQ) (zJ (cg PassesOwn.leaving rfl (pi_zip true true rfl B.zip (zh (pv 0) (zh (pv 1) zA))) (pg_tup rfl (so (Ec 2 Zp.nd) (so (Ec 3 Zp.nd) HZ))) (zJ (YI (PW.pt (AR (xr AY (pix 3) Yb (Zn _)) (sk (UJ (pcl Wh hr (zh (nL (zh (pix 2) (zh Yb zA))) (zh (pv 3) zA))))))) (zJ (Vq r PySem.F.excBase_ValueError rfl rfl rfl rfl rfl (λ_ _ h=>h) (zh Xt zA))) yQ))))),yY ?_⟩;left;rw [Qa,Qa];refine BQ (λc=>?_) (λL=>?_)
 ·left;refine Yg ?_;left;exact ⟨by show 1<=sizeLine;decide,G (λg=>c (by rw [g.1])) _ (zH.refl _)⟩
 have L:ps.length=l.length:=by omega
 left;refine DY (xs:=l.map zB) (ys:=ps.map frD) S ‹_› ‹_› λJ N=>?_;refine Zo N (λi σ cs ds=>(∃x y,σ=[some v,some v1,x,y])/\cs=[]/\ds=[(zo l,v),(.list (ps.map frD),v1)]/\∀(j:Nat) (c:Cl) (p:Rat),j<i->l[j]? =some c->ps[j]? =some p->0<=p/\p<=(c.1:Rat)) S ⟨⟨none,none,rfl⟩,rfl,rfl,λj c p h=>absurd h (Nat.not_lt_zero _)⟩ (λi σ cs ds h=>?_) ?_ ?_
 ·obtain ⟨_,rfl,rfl,_⟩:=h;exact ⟨.mem (by right),λ_ _ h=>h.tail, .mem (by right)⟩
 ·rintro i z u σ H5 cs ds hz ⟨⟨x4,x5,rfl⟩,rfl,rfl,hg⟩ S5
  obtain ⟨z1,z2,Z,Y,rfl⟩:=VW hz;obtain ⟨c,t,rfl⟩:=ya Z;obtain ⟨p,hp,rfl⟩:=ya Y;have cn:=nn c (Qb t);have pz:=M p (Qb hp);have bad:¬(0<=p/\p<=(c.1:Rat))->∀H',zH H H'->E (.ref zz) none H':=λb=>G λg=>b (g.2 i c p t hp);refine YB (YA S5 ‹_› λT O S6=>?_);have S7:Sta H H H5 [] [(frD p,O),(zB c,T),(zo l,v),(.list (ps.map frD),v1)]:=S6.dat (by walk_at "dats");left;refine Yc (λz=>?_) (λz1=>?_)
  ·left;refine Yg ?_;left;exact ⟨by show 1<=sizeLine;decide,bad (λg=>by have:=Rat.num_nonneg.mpr g.1;omega) _ S7.base⟩
  have p0:0<=p:=Rat.num_nonneg.mp (by omega);left;rename_i w8 H8 e8 C;rw [show PyData.tuple [.int c.1, .int 1]=frD ((c.1:Int):Rat) from rfl] at C;refine fi (p:=((c.1:Int):Rat)) (q:=p) C ‹_› ‹_› (m:=160) (n:=4000) ⟨cn.2,show Sz 160 1 by unfold Sz;decide⟩ pz (by decide) ?_;left;refine Yc (λz=>?_) (λz2=>?_)
  ·left;refine Yg ?_;left;exact ⟨by show 1<=sizeLine;decide,bad (λg=>absurd z (Tz.mpr g.2)) _ C.base⟩
  left;refine Xs (C.dat (by walk_at "dats")) ⟨⟨_,_,rfl⟩,rfl,rfl,λj d q hj hd D=>?_⟩
  by_cases e:j=i
  ·subst e;rw [t] at hd;rw [hp] at D;cases hd;cases D;exact ⟨p0,Tz.mp z2⟩
  ·exact hg j d q (by omega) hd D
 ·rintro σ H5 cs ds ⟨⟨x4,x5,rfl⟩,rfl,rfl,hg⟩ S5
  refine U ⟨L,λi c p t hp=>hg i c p ?_ t hp⟩ _ S5.base;rw [Zc,Qa,Qa];have a:=(Qg.mp t).1;have b:=(Qg.mp hp).1;omega
abbrev pX:Stmt:=top 29
theorem DK:FnScope ["numbers","whole","number"] ["numbers"] (zk pX):=xC
theorem Eg (O:Cal P w K mg base CX0 3 "plus" pab pQ) (F:Fun K "total" "total" pX f fd):FnOk P w K mg base CX0 4 f fd ["numbers"] wR:=by
 refine F.oo DK λH vs Q E hr nd0 h=>?_;obtain ⟨G,ps,C,z,⟨⟨n,zs,hn⟩,few⟩,k⟩:=h;obtain ⟨v,rfl,al⟩:=YX z;have S:Sta H G H [] [(.list (ps.map frD),v)]:=Sta.enter C al;dsimp only at k
 have snoc:∀(qs:List Rat) (q:Rat),zU (qs++[q])=zU qs+q:=λqs q=>by
  induction qs with
  |nil=>show q+0=0+q;rw [Rat.add_zero,Rat.zero_add]
  |cons a qs g=>rw [TH,zU,zU,g,Rat.add_assoc]
 have sz:∀i:Nat,i<=8->SzQ ((i+1)*(n+1)) (zU (ps.take i)):=λi L=>by
  induction i with
  |zero=>rw [List.take_zero];exact (show SzQ 1 0 from ⟨by unfold Sz;decide,by unfold Sz;decide⟩).mono (by omega)
  |succ i g=>
   cases e:ps[i]? with
   |none=>
    rw [QQ (by have:=jbc.mp e;omega)];have:=g (by omega);rw [QQ (by have:=jbc.mp e;omega)] at this;exact this.mono (Nat.mul_le_mul_right _ (by omega))
   |some q=>
    rw [TX,e];show SzQ _ (zU (ps.take i++[q]));rw [snoc];exact ((g (by omega)).add (zs q (Qb e))).mono (by rw [Nat.succ_mul (i+1)];omega)
 walk_at "=fj1madadcfJyb0F2ej1gab1ab2ceib1";left;rename_i D H1 N s;rw [show PyData.tuple [.int 0, .int 1]=frD (zU (ps.take 0)) from rfl] at s;refine yt (xs:=ps.map frD) s ‹_› λJ y=>?_;refine Zo y (λi σ cs ds=>∃(w:V) (x:Option V),σ=[some v,some w,x]/\cs=[]/\ds=[(frD (zU (ps.take i)),w),(.list (ps.map frD),v)]) s ⟨_,none,rfl,rfl,rfl⟩ (λi σ cs ds h=>?_) ?_ ?_
 ·obtain ⟨_,_,_,_,rfl⟩:=h;exact .mem (by right)
 ·rintro i x u σ H2 cs ds hx ⟨w0,x2,rfl,rfl,rfl⟩ S2
  obtain ⟨q,m,rfl⟩:=ya hx;have I:=(Qg.mp m).1;have z1:=sz i (by omega);have z2:=zs q (Qb m)
  have b:(i+1)*(n+1)<=100000:=by
   have:=Nat.mul_le_mul (show i+1<=8 by omega) (show n+1<=4500 by omega);omega
  left;refine DV (p:=zU (ps.take i)) (q:=q) S2 ‹_› ‹_› z1 z2 b (by omega) λr T M t=>?_;left
  have A:zU (ps.take i)+q=zU (ps.take (i+1)):=by
   rw [TX,m];exact (snoc _ _).symm
  rw [A] at t;exact Xs (t.dat (by walk_at "dats")) ⟨_,_,rfl,rfl,rfl⟩
 ·rintro σ H2 cs ds ⟨w0,x2,rfl,rfl,rfl⟩ S2
  rw [Qa,QQ (Qq _)] at S2;left;exact yW S2 k ‹_›
theorem qk {m:Addr} (g:PyProof.Rows.OwnCls "NoPurse" m ZP "ValueError.__new__" mg base) (F:Fun K "parts_at" "parts_at" Vm f fd):FnOk P w K mg base (CX1 P w) 1 f fd paC (Hy m):=by
 refine F.ok1 eJ (λvs H Q E h=>?_) (λr A outer s H vs Q E hr h=>?_)
 ·obtain ⟨_,_,_,rfl,_⟩:=h;rfl
 obtain ⟨u,v,e,rfl,q,he,k⟩:=h
 have S:Sta H H H [] [(frD e,v)]:=Sta.enter (zH.refl _) λp hp=>by
  cases Qv.mp hp;exact q
 refine ⟨_,(zK (YI (xr AY (pix 1) Yb (Zn _)) (zJ (Vq g PySem.F.excBase_ValueError rfl rfl rfl rfl rfl (λ_ _ h=>h) (zh Xt zA))) yQ) (zK UK (zK UK (zJ UK)))),yY ?_⟩;left;refine Yc (λ_=>?_) (λc=>absurd he c);refine Yg ?_;left;exact ⟨by show 1<=sizeLine;decide,k⟩
section
variable {A:RAd}
abbrev Vn:Stmt:=top 26
theorem yV:FnScope ["rule","claims","parts","i","j","together","alone"] paE (zk Vn):=xC
theorem Et {m zz z:Addr} {g:FuncData} {n:Nat} (B:Bl mg) (t:Cal P w K mg base (CX1 P w) 1 "check_claims" pai (cY m)) (D:Cal P w K mg base (CX1 P w) 2 "check_division" paS (DG zz)) (G:Cal P w K mg base CX0 3 "plus" pab iQ) (p:FnOk P w K mg base CX0 (2*n+10) z g pac (Uv A 24 n)) (q:yX K g pac []) (F:Fun K "pair_off" "pair_off" Vn f fd):FnOk P w K mg base (CX1 P w) (2*n+11) f fd paE (spPoX A m):=by
 refine F.ok1 yV (λvs H Q E h=>?_) (λM N outer s H vs Q E hr h=>?_)
 ·obtain ⟨r,l,u,⟨v,w,rfl,_⟩,_⟩:=h;rfl
 obtain ⟨r,l,u,⟨v0,v1,rfl,y⟩,⟨bad,few⟩,k⟩:=h;obtain ⟨J,I,e,al⟩:=yP y;cases e;have S:Sta H H H [] _:=Sta.enter (zH.refl _) al;refine ⟨_,(zK (Zh (VM t hr (by walk_at "l") (aT rfl rfl rfl (λ_ _ h=>h)) rfl (zh (pv 1) zA))) (zK (Zh (VM D hr (by walk_at "l") (aT rfl rfl rfl (λ_ _ h=>h)) rfl (zh (pv 1) (zh (pv 2) zA)))) (zK (cg PassesOwn.leaving rfl (fq rfl B.range (zh (yk xh rfl B.len XF (zh (pv 1) zA)) zA)) (Ec 3 yV.nd) (zJ (cg PassesOwn.leaving rfl (nK rfl B.range (zh (Ia kN (pv 3) Yb) (zh (yk xh rfl B.len XF (zh (pv 1) zA)) zA))) (Ec 4 yV.nd) (zK (CQ 5 yV.nd (pcl G hr (zh (UN YV (pv 2) (pv 3) (λ_ _=>rfl)) (zh (UN YV (pv 2) (pv 4) (λ_ _=>rfl)) zA)))) (zK (CQ 6 yV.nd (YU (pv 0) (p.mono (by walk_at "l")) hr q Ef (zh (jd (zh (UN YV (pv 1) (pv 3) (λ_ _=>rfl)) (zh (UN YV (pv 1) (pv 4) (λ_ _=>rfl)) zA))) (zh (pv 5) zA)))) (zJ (YI (xr (AX (Yf hr)) (pv 6) (nL (zh (UN YV (pv 2) (pv 3) (λ_ _=>rfl)) (zh (UN YV (pv 2) (pv 4) (λ_ _=>rfl)) zA))) (Zn _)) (zJ (ZR (nL (zh (pv 3) (zh (pv 4) (zh (pix 6) (zh (pix 6) zA))))))) yQ))))))) (zJ (ZR sr))))),yY ?_⟩;left;refine nE S ‹_› bad few λH1 C L=>?_;exact k H1 C
theorem Eu {zz fS fT Ru fQ:Addr} {M:FuncData} {n:Nat} (B:Bl mg) (Ks:∀r:Rl,ROk K fS fT Ru (A.cls r)) (KY:∀r:Rl,Meth K (A.cls r) "parts" fQ) (xB:Cal P w K mg base CX0 1 "check_claims" pai jT) (Ya:Cal P w K mg base (CX1 P w) 2 "check_division" paS (DG zz)) (XJ:Cal P w K mg base CX0 3 "plus" pab iQ) (yr:FnOk P w K mg base CX0 (2*n+10) fQ M pac (Uv A 24 n)) (yi:yX K M pac []) (F:Fun K "pair_off" "pair_off" Vn f fd):FnOk P w K mg base (CX1 P w) (2*n+11) f fd paE (spPoG A n zz):=by
 refine F.ok1 yV (λvs H Q E h=>?_) (λKq A' outer s H vs Q E hr h=>?_)
 ·obtain ⟨G,r,l,ps,_,h,_⟩:=h;rw [<-h.len];rfl
 obtain ⟨G,r,l,ps,eG,hA,⟨ru,dp,KD,N,OB⟩,kb,kg⟩:=h;obtain ⟨v0,v1,v2,rfl,al⟩:=YW hA;have S:Sta H G H [] [(r.ins A,v0),(zo l,v1),(.list (ps.map frD),v2)]:=Sta.enter eG al;have ok:=KD.ok (by decide);have few:=ok.few;refine ⟨_,(zK (Zh (pcl xB hr (zh (pv 1) zA))) (zK (Zh (VM Ya hr (by walk_at "l") (aT rfl rfl rfl (λ_ _ h=>h)) rfl (zh (pv 1) (zh (pv 2) zA)))) (zK (cg PassesOwn.leaving rfl (fq rfl B.range (zh (yk xh rfl B.len XF (zh (pv 1) zA)) zA)) (Ec 3 yV.nd) (zJ (cg PassesOwn.leaving rfl (nK rfl B.range (zh (Ia kN (pv 3) Yb) (zh (yk xh rfl B.len XF (zh (pv 1) zA)) zA))) (Ec 4 yV.nd) (zK (CQ 5 yV.nd (pcl XJ hr (zh (UN YV (pv 2) (pv 3) (λ_ _=>rfl)) (zh (UN YV (pv 2) (pv 4) (λ_ _=>rfl)) zA)))) (zK (CQ 6 yV.nd (YU (pv 0) (yr.mono (by walk_at "l")) hr yi Ef (zh (jd (zh (UN YV (pv 1) (pv 3) (λ_ _=>rfl)) (zh (UN YV (pv 1) (pv 4) (λ_ _=>rfl)) zA))) (zh (pv 5) zA)))) (zJ (YI (xr (AX (Yf hr)) (pv 6) (nL (zh (UN YV (pv 2) (pv 3) (λ_ _=>rfl)) (zh (UN YV (pv 2) (pv 4) (λ_ _=>rfl)) zA))) (Zn _)) (zJ (ZR (nL (zh (pv 3) (zh (pv 4) (zh (pix 6) (zh (pix 6) zA))))))) yQ))))))) (zJ (ZR sr))))),yY ?_⟩;left;refine sf S ‹_› ok λH1 e1 S1=>?_;left;refine rd_dvX (l:=l) (ps:=ps) S1 ‹_› ‹_› ⟨λc z=>⟨(ok.nn c z).1,ok.sz c z⟩,λp hp=>(N p hp).mono (by decide),few,OB⟩ (λb H2 e2 Y=>kb b H2 Y.base) λgood H2 e2 Y=>?_;have k:=kg good;have hl:=good.1;left;rw [Qa];refine nD H G (by omega) (by omega) λJ wk=>?_;refine Zo wk (λi σ cs ds=>(∃O t m g,σ=[some v0,some v1,some v2,O,t,m,g])/\cs=[]/\ds=[(r.ins A,v0),(zo l,v1),(.list (ps.map frD),v2)]) Y ⟨⟨_,_,_,_,rfl⟩,rfl,rfl⟩ (λ_ _ _ _ _=>trivial) ?_ ?_
 ·rintro i x u σ H3 cs ds hx ⟨⟨O,t,m,g,rfl⟩,rfl,rfl⟩ I
  obtain ⟨hi,rfl⟩:=YC hx;cases I.int1;have I:=I.drop1;have hi:i<l.length:=by omega
  left;rw [Qa];refine rd_kR2 H G (by omega) (by omega) λJ2 Mp=>?_;refine Zo Mp (λj σ cs ds=>(∃t m g,σ=[some v0,some v1,some v2,some (.int (0+(i:Int))),t,m,g])/\cs=[]/\ds=[(r.ins A,v0),(zo l,v1),(.list (ps.map frD),v2)]) I ⟨⟨_,_,_,rfl⟩,rfl,rfl⟩ (λ_ _ _ _ _=>trivial) ?_ ?_
  ·rintro j x u σ H4 cs ds hx ⟨⟨t,m,g,rfl⟩,rfl,rfl⟩ D
   obtain ⟨hj,rfl⟩:=YC hx;cases D.int1;have D:=D.drop1;have jl:i+1+j<l.length:=by omega
   have z:=Qe hi;have hd:=Qe jl;have hp:=Qe (l:=ps) (i:=i) (by omega);have T:=Qe (l:=ps) (i:=i+1+j) (by omega);have n1:(0:Int)+(i:Int)=((i:Nat):Int):=by omega
   have n2:(0:Int)+(i:Int)+1+(j:Int)=((i+1+j:Nat):Int):=by omega
   have x1:atI (ps.map frD) (0+(i:Int))=some (frD (ps[i]'(by omega))):=by rw [n1];exact yJ (by rw [Qi,hp];rfl)
   have x2:atI (ps.map frD) (0+(i:Int)+1+(j:Int))=some (frD (ps[i+1+j]'(by omega))):=by rw [n2];exact yJ (by rw [Qi,T];rfl)
   have y1:atI (l.map zB) (0+(i:Int))=some (zB l[i]):=by rw [n1];exact yJ (by rw [Qi,z];rfl)
   have y2:atI (l.map zB) (0+(i:Int)+1+(j:Int))=some (zB l[i+1+j]):=by rw [n2];exact yJ (by rw [Qi,hd];rfl)
   have g1:=(good.2 i _ _ z hp).1;have g2:=(good.2 (i+1+j) _ _ hd T).1;have m1:=Qb z;have m2:=Qb hd;have z1:=N _ (Qb hp);have z2:=N _ (Qb T);generalize ps[i]'(by omega)=p at*;generalize ps[i+1+j]'(by omega)=q at*;generalize l[i]=c at*;generalize l[i+1+j]=d at*;left;refine yS (xs:=ps.map frD) (x:=frD p) D ‹_› x1 λw5 S5=>?_;left;refine yS (xs:=ps.map frD) (x:=frD q) S5 ‹_› x2 λw6 S6=>?_;left;rename_i w7 H7 e7 X;refine cf (C:=A.cls r) X ‹_› (Ks r).cl (KY r) (by decide+kernel) ?_;left;refine yS (xs:=l.map zB) (x:=zB c) X ‹_› y1 λw8 S8=>?_;left;refine yS (xs:=l.map zB) (x:=zB d) S8 ‹_› y2 λw9 S9=>?_;left;rename_i OM LM OC KZ;have L:=KD.pair m1 m2;refine WM (r:=r) (l:=[c,d]) (e:=p+q) KZ.freeze ‹_› ‹_› ‹_› ru dp L ((z1.add z2).mono (by decide)) (Rat.add_nonneg g1 g2) λOJ OH NF Ln=>?_
   obtain ⟨x,y,U⟩:∃x y,zm (zE r [c,d]) (p+q)=[x,y]:=by
    have:=(ru.gf L).ful.std.len (e:=p+q)
    match h:zm (zE r [c,d]) (p+q),this with
    |[x,y],_=>exact ⟨x,y,rfl⟩
   rw [U] at Ln;have LC:Sta H G OH [] [(.tuple [frD x,frD y],OJ),(r.ins A,v0),(zo l,v1),(.list (ps.map frD),v2)]:=Ln.dat (by walk_at "dats");clear S5 S6 X S8 S9 KZ Ln;left;refine yS (xs:=ps.map frD) (x:=frD p) LC ‹_› x1 λw13 LU=>?_;left;refine yS (xs:=ps.map frD) (x:=frD q) LU ‹_› x2 λLV Mj=>?_;left;rename_i w15 OF e15 Z;refine iY (x:=yu [x,y]) (y:=yu [p,q]) (Z.hp ‹_›) (Z.hp ‹_›) (UA _) (UA _) ?_;generalize PyData.eqv (yu [x,y]) (yu [p,q])=b;have Mo:Sta H G OF [] [(.tuple [frD x,frD y],OJ),(r.ins A,v0),(zo l,v1),(.list (ps.map frD),v2)]:=Z.dat (by walk_at "dats");cases b
   ·left;rename_i Sx Nt w18 LS w19 H19 e19 Nr;exact k _ _ Nr.base
   ·left;exact Xs (Mo.dat (by walk_at "dats")) ⟨⟨_,_,_,rfl⟩,rfl,rfl⟩
  ·rintro σ H4 cs ds ⟨⟨t,m,g,rfl⟩,rfl,rfl⟩ D
   left;exact Xs D ⟨⟨_,_,_,_,rfl⟩,rfl,rfl⟩
 ·rintro σ H3 cs ds ⟨⟨O,t,m,g,rfl⟩,rfl,rfl⟩ I
  left;exact k _ _ I.base
end
section
variable {A:RAd}
theorem Ew {P:Program} {w:World} {K:PySem.W.Frag} {mg:Str->Option Value} {base:Heap} {f:Addr} {fd:FuncData} {ps:List Str} {k n:Nat} {t cP cL cD:Addr} (X:FnOk P w K mg base (CX1 P w) k f fd ps (spPoX A t)) (Y:FnOk P w K mg base (CX1 P w) k f fd ps (spPoG A n cD)):FnOk P w K mg base (CX1 P w) k f fd ps (wW A n t cP cL cD):=by
 refine (X.or Y).imp λvs H Q E h=>?_;obtain ⟨G,r,l,e,th,R,q,p,⟨_,o⟩,k⟩:=h
 rcases o with ⟨rfl,bad,few⟩|⟨_,_,_,z⟩|⟨_,_,_,_,z,_⟩|⟨ps,rfl,m,_,rfl,sz,few,s⟩|⟨rfl,m,he,o⟩
 ·simp only [zu] at p;obtain ⟨a,_,rfl,y,b,_,rfl,u,c,_,rfl,C,rfl⟩:=p;refine .inl ⟨r,l,c,⟨a,b,rfl,?_⟩,⟨bad,few⟩,k⟩;simp only [zu];exact ⟨a,_,rfl,Is.mono q _ _ y,b,_,rfl,Is.mono q _ _ u,rfl⟩
 ·omega
 ·omega
 ·exact .inr ⟨G,r,l,ps,q,p,⟨m.ru,m.deep,m.cl,sz,few⟩,λ_=>k,λg=>absurd g s⟩
 ·rcases o with z|z|⟨z,_⟩|⟨_,ps,rfl,sz,few,g⟩
  ·omega
  ·omega
  ·omega
  ·exact .inr ⟨G,r,l,ps,q,p,⟨m.ru,m.deep,m.cl,sz,few⟩,λs=>absurd g s,λ_=>k⟩
end
section
variable {A:RAd}
abbrev eS:Stmt:=top 25
theorem Vl:FnScope ["rule","claims","purse","away","parts","places","left"] paD (zk eS):=xC
theorem Ej {Z cP cL cD fS fT Ru Y:Addr} {t:FuncData} {n:Nat} (B:Bl mg) (Ks:∀r:Rl,ROk K fS fT Ru (A.cls r)) (KY:∀r:Rl,Meth K (A.cls r) "parts" Y) (iN:Cal P w K mg base (CX1 P w) 2 "check_places" ["places","count"] (Hx cL)) (rF:Cal P w K mg base CX0 4 "total" ["numbers"] wR) (Yu:Cal P w K mg base CX0 1 "those_at" pas aA) (O:FnOk P w K mg base (CX1 P w) (2*n+10) Y t pac (jO A n Z cP)) (T:yX K t pac []) (F:Fun K "staying" "staying" eS f fd):FnOk P w K mg base (CX1 P w) (2*n+11) f fd paD (wU A n Z cP cL cD):=by
 refine F.ok1 Vl (λvs H Q E h=>?_) (λKq A' outer s H vs Q E hr h=>?_)
 ·obtain ⟨G,r,l,e,th,R,_,h,_⟩:=h;rw [<-h.len];rfl
 obtain ⟨G,r,l,e,th,R,eG,hA,⟨_,o⟩,k⟩:=h;obtain ⟨v0,v1,v2,v3,rfl,al⟩:=isAll4 hA;have S:Sta H G H [] [(r.ins A,v0),(zo l,v1),(frD e,v2),(th,v3)]:=Sta.enter eG al;refine ⟨_,(zK (CQ 4 Vl.nd (YU (pv 0) (O.mono (by walk_at "l")) hr T (aT rfl rfl rfl (λ_ _ h=>h)) (zh (pv 1) (zh (pv 2) zA)))) (zK (Zh (VM iN hr (by walk_at "l") (aT rfl rfl rfl (λ_ _ h=>h)) rfl (zh (pv 3) (zh (yk xh rfl B.len XF (zh (pv 1) zA)) zA)))) (zK (pscf 5 Vl.nd ["place","away"] 1 [3] (fq rfl B.range (zh (yk xh rfl B.len XF (zh (pv 1) zA)) zA)) (pg_c 0) (HX (xr nM (pv 0) (pv 1) rfl)) (pv 0)) (zK (YI (xr (je (Yf hr)) (yk xh rfl B.len XF (zh (pv 5) zA)) Yb (Zn _)) (zJ (ZR (jd zA))) yQ) (zK (CQ 6 Vl.nd (pcl rF hr (zh (pcf ["place","parts"] 1 [4] (Ul (pv 5)) (pg_c 0) kK (UN YV (pv 1) (pv 0) (λ_ _=>rfl))) zA))) (zJ (ZR (Ib true false rfl rfl B.list rfl B.zip (zh (pv 5) (zh (YU (pv 0) (O.mono (by walk_at "l")) hr T (aT rfl rfl rfl (λ_ _ h=>h)) (zh (pcl Yu hr (zh (pv 1) (zh (pv 5) zA))) (zh (pv 6) zA))) zA)))))))))),yY ?_⟩;left;refine cf (C:=A.cls r) S ‹_› (Ks r).cl (KY r) (by decide+kernel) ?_;left
 rcases o with ⟨rfl,bad,few⟩|⟨rfl,m,he,_⟩|⟨ps,rfl,m,he,_,rfl,bad⟩|⟨ps,rfl,m,ke,_⟩|⟨rfl,m,he,o⟩
 ·exact .inr (.inl (nA (r:=r) S ‹_› ‹_› bad few λH1 u I=>k H1 u))
 ·exact .inr (.inr (ny (r:=r) S ‹_› ‹_› ‹_› m.ru m.deep m.cl.up1 he λH1 u I=>k H1 u))
 ·refine .inl (WM (r:=r) S ‹_› ‹_› ‹_› m.ru m.deep m.cl.up1 (he.2.mono (by decide)) he.1 λw1 H1 u I=>?_);left;rw [Qa];exact Gx I ‹_› (λb H2 e2 y=>k H2 y.base) λg=>let ⟨p,hp,h⟩:=bad;absurd (g p hp) (by omega)
 ·omega
 ·obtain ⟨ps,rfl,gp,OB,zl⟩:∃ps:List Int,th=eZ ps/\FY (l.length:Nat) ps/\ps.length<=9/\SzQ 4000 (qy r l e ps):=by
   rcases o with o|o|⟨_,o⟩|⟨o,_⟩
   ·omega
   ·omega
   ·exact o
   ·omega
  have few:=m.cl.few;refine .inl (WM (r:=r) S ‹_› ‹_› ‹_› m.ru m.deep m.cl.up1 (he.2.mono (by decide)) he.1 λw1 H1 u I=>?_);left;rw [Qa];refine Gx I ‹_› (λ⟨p,hp,h⟩=>absurd (gp p hp) (by omega)) λ_ H2 e2 y=>?_;left;rw [Qa];refine nD H G (by omega) (by omega) λJ M=>?_;refine gq M (λj=>if !decide ((j:Int)∈ps) then some (.int (j:Int)) else none) y (λ_ _=>trivial) (by rw [Yo];omega) (λi x v B' G' Kd Kn N t1 S hd hn C ex s0 H0=>?_) λD H3 e3 L=>?_
  ·obtain ⟨q,rfl⟩:=YC N;cases S.int1;have S:=S.drop1;refine zQ ⟨rfl,?_⟩;left;refine rd_nin (ns:=ps) S ‹_› ?_;rw [show (0:Int)+(i:Int)=(i:Int) from Int.zero_add _];refine ⟨_,rfl,?_⟩
   by_cases z:(i:Int)∈ps
   ·rw [Tp z];exact hn (by rw [Tp z];rfl) S
   ·rw [Tb z];refine Eq.mpr (QH (by decide)) ?_;left;exact hd (by rw [Tb z];rfl) S Has.int
  rw [Yo,qH (λ(j:Nat)=>!decide ((j:Int)∈ps)) (λ(j:Nat)=>PyData.int (j:Int))] at L;have L:Sta H G H3 [(D,(xO l.length ps).map λ(j:Nat)=>PyData.int (j:Int))] _:=L;left;rw [Qa];refine Yc (λc=>?_) (λc=>?_)
  ·left;exact k _ _ (Sta.base (by assumption))
  have S4:=L.freeze;have ne:xO l.length ps≠[]:=λz=>c (by rw [z];rfl);have g:=(m.ru.gf m.cl.up1).ful;have pl:=g.std.len (e:=e);have sl:(xO l.length ps).length<=8:=QT (jbQ ..) (by rw [jbw];omega);have lt:∀i∈xO l.length ps,i<l.length:=λi q=>jbO.mp (Tv.mp q).1;left;refine yt (xs:=(xO l.length ps).map λ(j:Nat)=>PyData.int (j:Int)) S4 ‹_› λJ M=>?_;refine xK M (λj=>frD ((zm (zE r l) e).getD ((xO l.length ps).getD j 0) 0)) (ys:=(ZS 0 (xO l.length ps) (zm (zE r l) e)).map frD) (by unfold ZS;rw [Qa,QI];exact zF (λi:Nat=>frD ((zm (zE r l) e).getD i 0)) 0 (xO l.length ps)) S4 (λj x v=>λN t1 S hd=>?_) λD5 H5 e5 S5=>?_
  ·obtain ⟨i,q,rfl⟩:=ya N;cases S.int1;have U:=lt i (Qb q);rw [<-pl] at U;have X:=Qe U;refine zQ ⟨rfl,?_⟩;left;refine ja (xs:=(zm (zE r l) e).map frD) (x:=frD (zm (zE r l) e)[i]) S ‹_› (yJ (by rw [Qi,X];rfl)) λw2 y=>?_;refine hd y ?_;rw [yg q,yg X];exact .mem (by right)
  have S6:=S5.freeze;have dd:=m.ru.den;have sb:=kM 0 (zm (zE r l) e) ps;rw [pl] at sb;have sz:∀p∈ZS 0 (xO l.length ps) (zm (zE r l) e),SzQ (200+4*Wc 24 r+2*24+2) p:=λp hp=>(m.ru.part m.cl.up1 he.2.dq he.1 p (sb.subset hp)).2;left;refine Zg (ZS 0 (xO l.length ps) (zm (zE r l) e)) S6 (.cons ‹_› .nil) ⟨⟨_,sz,by omega⟩,by rw [UM];exact sl⟩ λw7 H7 e7 S7=>?_;left;refine cf (C:=A.cls r) S7 ‹_› (Ks r).cl (KY r) (by decide+kernel) ?_;left;refine dg (l:=l) (pl:=xO l.length ps) S7 ‹_› ‹_› lt sl λp8 H8 e8 S8=>?_;have S9:=S8.freeze;left;have cs:=m.cl.up1.stay ne;refine .inl (WM (r:=r) (l:=ZS (0,0,0) (xO l.length ps) l) (e:=qy r l e ps) S9 ‹_› ‹_› ‹_› m.ru m.deep cs zl (BH m.ru m.cl.up1 he.1) λNK LM OC KZ=>?_);left;refine HN (xs:=(xO l.length ps).map λ(j:Nat)=>PyData.int (j:Int)) (ys:=(zm (zE r (ZS (0,0,0) (xO l.length ps) l)) (qy r l e ps)).map frD) KZ ‹_› ‹_› (by rw [Qa,Qa,(m.ru.gf cs).ful.std.len,UM]) λOJ OH NF Ln=>?_;left;exact k _ _ Ln.base
end
section
variable {A:RAd} {cC cP cL cD:Addr}
abbrev Uh:Stmt:=top 84
theorem mY:FnScope paa paa (zk Uh):=xC
theorem EB {fS fT Ru I D:Addr} {t q:FuncData} {n:Nat} (L:∀r:Rl,ROk K fS fT Ru (A.cls r)) (M:∀r:Rl,Meth K (A.cls r) "path" I/\Meth K (A.cls r) "parts" D) (xv:FnOk P w K mg base (CX1 P w) (2*n+9) I t pah (wV A n cC)) (yN:yX K t pah []) (N:FnOk P w K mg base (CX1 P w) (2*n+10) D q pac (jO A n cC cP)) (O:yX K q pac []) (CO:Cal P w K mg base (CX1 P w) (2*n+11) "staying" paD (wU A n cC cP cL cD)) (T:Cal P w K mg base (CX1 P w) (2*n+11) "pair_off" paE (wW A n cC cP cL cD)) (F:Fun K "_law_asked" "_law_asked" Uh f fd):FnOk P w K mg base (CX1 P w) (2*n+12) f fd paa (HC A n cC cP cL cD):=by
 refine F.ok1 mY (λvs H Q E h=>?_) (λKq A' outer s H vs Q E hr h=>?_)
 ·obtain ⟨G,kind,r,l,e,th,R,_,h,_⟩:=h;rw [<-h.len];rfl
 obtain ⟨G,kind,r,l,e,th,R,Z,Y,o,k⟩:=h;obtain ⟨U,v1,v2,u,v4,rfl,al⟩:=GK Y;have J:Sta H G H [] [(.int kind,U),(r.ins A,v1),(zo l,v2),(frD e,u),(th,v4)]:=Sta.enter Z al;cases J.int1;have S:Sta H G H [] [(r.ins A,v1),(zo l,v2),(frD e,u),(th,v4)]:=J.dat (by walk_at "dats");obtain ⟨⟨k0,k3⟩,y⟩:=id o;refine ⟨_,(zK (YI (xr (je (Yf hr)) (pv 0) Yb (Zn _)) (zJ (ZR (YU (pv 1) (xv.mono (by walk_at "l")) hr yN (aT rfl rfl rfl (λ_ _ h=>h)) (zh (pv 2) zA)))) yQ) (zK (YI (xr (je (Yf hr)) (pv 0) Yb (Zn _)) (zJ (ZR (YU (pv 1) (N.mono (by walk_at "l")) hr O (aT rfl rfl rfl (λ_ _ h=>h)) (zh (pv 2) (zh (pv 3) zA))))) yQ) (zK (YI (xr (je (Yf hr)) (pv 0) Yb (Zn _)) (zJ (ZR (VM CO hr (by walk_at "l") (aT rfl rfl rfl (λ_ _ h=>h)) rfl (zh (pv 1) (zh (pv 2) (zh (pv 3) (zh (pv 4) zA))))))) yQ) (zJ (ZR (VM T hr (by walk_at "l") (aT rfl rfl rfl (λ_ _ h=>h)) rfl (zh (pv 1) (zh (pv 2) (zh (pv 4) zA))))))))),yY ?_⟩;left;refine Yc (λz=>?_) (λz0=>?_)
 ·subst z;left;refine cf (C:=A.cls r) S ‹_› (L r).cl (M r).1 (by decide+kernel) ?_;left
  rcases y with ⟨rfl,bad,few⟩|⟨_,_,_,z⟩|⟨_,_,_,_,z,_⟩|⟨_,_,_,z,_⟩|⟨rfl,g,_,_⟩
  ·exact .inr (rZ (r:=r) S ‹_› ‹_› bad few λH1 m p=>k H1 m)
  ·omega
  ·omega
  ·omega
  ·refine .inl (kE (r:=r) S ‹_› ‹_› g.ru g.deep g.cl.up1 λX H1 m p=>?_);left;exact k _ _ p.base
 left;refine Yc (λz=>?_) (λz1=>?_)
 ·subst z;left;refine cf (C:=A.cls r) S ‹_› (L r).cl (M r).2 (by decide+kernel) ?_;left
  rcases y with ⟨rfl,bad,few⟩|⟨rfl,g,he,_⟩|⟨_,_,_,_,z,_⟩|⟨_,_,_,z,_⟩|⟨rfl,g,⟨e0,ez⟩,_⟩
  ·exact .inr (.inl (nA (r:=r) S ‹_› ‹_› bad few λH1 m p=>k H1 m))
  ·exact .inr (.inr (ny (r:=r) S ‹_› ‹_› ‹_› g.ru g.deep g.cl.up1 he λH1 m p=>k H1 m))
  ·omega
  ·omega
  ·refine .inl (WM (r:=r) S ‹_› ‹_› ‹_› g.ru g.deep g.cl.up1 (ez.mono (by decide)) e0 λX H1 m p=>?_);left;exact k _ _ p.base
 left;refine Yc (λz=>?_) (λz2=>?_)
 ·subst z;left;refine DS (r:=r) (l:=l) (e:=e) (th:=th) S ‹_› ‹_› ‹_› ‹_› o k
 have z3:kind=3:=by omega
 subst z3;left;refine DW (r:=r) (l:=l) (e:=e) (th:=th) S ‹_› ‹_› ‹_› o k
end
abbrev Ug:Stmt:=top 83
theorem bZ:FnScope ["_law_e","_law_found"] ["_law_e"] (zk Ug):=xC
theorem UQ {R r m q s g zz:Addr} {A z y u:Bool} {nm:Str} (B:Bl mg) (Z:Kd K mg R r m q s g zz false A z false y u) (t:(A,z,y,u,nm)∈[(true,false,false,false,("NoPurse":Str)),(false,true,false,false,"NoClaims"),(false,false,true,false,"NoPlace"),(false,false,false,true,"NoDivision")]) (F:Fun K "_law_kinds" "_law_kinds" Ug f fd):FnOk P w K mg base CX0 1 f fd ["_law_e"] (aE R nm):=by
 refine F.oo bZ λH vs Q E hr nd0 h=>?_;obtain ⟨G,a,J,rfl,ha,k⟩:=h;have S:Sta H G H [] []:=Sta.enter J λp hp=>absurd hp Qx;have I:=Z.g1;have N:=Z.g2;have C:=Z.g3;have L:=Z.g4;have M:=Z.g5;have D:=Z.g6;refine ⟨_,(zK (CQ 1 bZ.nd (jd zA)) (zK (YI (UJ (yk (Wg PySem.F.attr_ValueError.ga) rfl B.isinstance xu (zh (pv 0) (zh (WQ (v:= .ref r) rfl I rfl) zA)))) (zJ (Zh (qh jag jaa jab Zi (pv 1) (zh Xt zA)))) yQ) (zK (YI (UJ (yk (Wg PySem.F.attr_ValueError.ga) rfl B.isinstance xu (zh (pv 0) (zh (WQ (v:= .ref m) rfl N rfl) zA)))) (zJ (Zh (qh jag jaa jab Zi (pv 1) (zh Xt zA)))) yQ) (zK (YI (UJ (yk (Wg PySem.F.attr_ValueError.ga) rfl B.isinstance xu (zh (pv 0) (zh (WQ (v:= .ref q) rfl C rfl) zA)))) (zJ (Zh (qh jag jaa jab Zi (pv 1) (zh Xt zA)))) yQ) (zK (YI (UJ (yk (Wg PySem.F.attr_ValueError.ga) rfl B.isinstance xu (zh (pv 0) (zh (WQ (v:= .ref s) rfl L rfl) zA)))) (zJ (Zh (qh jag jaa jab Zi (pv 1) (zh Xt zA)))) yQ) (zK (YI (UJ (yk (Wg PySem.F.attr_ValueError.ga) rfl B.isinstance xu (zh (pv 0) (zh (WQ (v:= .ref g) rfl M rfl) zA)))) (zJ (Zh (qh jag jaa jab Zi (pv 1) (zh Xt zA)))) yQ) (zK (YI (UJ (yk (Wg PySem.F.attr_ValueError.ga) rfl B.isinstance xu (zh (pv 0) (zh (WQ (v:= .ref zz) rfl D rfl) zA)))) (zJ (Zh (qh jag jaa jab Zi (pv 1) (zh Xt zA)))) yQ) (zK (YI (Gy (UJ (yk (Wg PySem.F.attr_ValueError.ga) rfl B.isinstance xu (zh (pv 0) (zh (Ig (v:= .ty "ValueError") rfl B.ValueError lO rfl) zA))))) (zJ (Zh (qh jag jaa jab Zi (pv 1) (zh Xt zA)))) yQ) (zJ (ZR (pv 1))))))))))),yY ?_⟩;simp only [Qk,Qx,or_false,Prod.mk.injEq] at t
 rcases t with ⟨rfl,rfl,rfl,rfl,rfl⟩|⟨rfl,rfl,rfl,rfl,rfl⟩|⟨rfl,rfl,rfl,rfl,rfl⟩|⟨rfl,rfl,rfl,rfl,rfl⟩
 all_goals
  repeat (first
   |walk_at "rd"
   |refine jb (by assumption) ha Z.exc Z.k1 ?_|refine jb (by assumption) ha Z.exc Z.k2 ?_|refine jb (by assumption) ha Z.exc Z.k3 ?_
   |refine jb (by assumption) ha Z.exc Z.k4 ?_|refine jb (by assumption) ha Z.exc Z.k5 ?_|refine jb (by assumption) ha Z.exc Z.k6 ?_
   |refine rd_isV (by assumption) ha Z.exc Z.kV ?_
   |refine xw (by assumption) Has.str (by decide) λT O=>?_)
  exact yW (Sta.freeze (by assumption)) k ‹_›
section
variable {A:RAd} {cC cP cL cD:Addr}
abbrev XS:Stmt:=top 85
theorem ZI:FnScope ["_law_kind","_law_rule_here","_law_claims_here","_law_purse","_law_thing","_law_caught","_law_e"] paa (zk XS):=xC
theorem uQ {n:Nat} {p:Addr} (L:mg "PurseError"=some (.ref p)) (D:∀c s,nm28 cC cP cL cD c s->ag base c p) (z:Cal P w K mg base (CX1 P w) (2*n+12) "_law_asked" paa (HC A n cC cP cL cD)) (C:Cal P w K mg base CX0 1 "_law_kinds" ["_law_e"] (jS cC cP cL cD)) (F:Fun K "_law_refusal" "_law_refusal" XS f fd):FnOk P w K mg base CX0 (2*n+13) f fd paa (Hw A n cC cP cL cD):=by
 refine F.oo ZI λH vs Q E hr nd0 h=>?_;obtain ⟨G,kind,r,l,e,th,R,s,J,I,o,nm,k⟩:=h;obtain ⟨y,v1,v2,q,v4,rfl,al⟩:=GK I;have u:Sta H G H [] [(.int kind,y),(r.ins A,v1),(zo l,v2),(frD e,q),(th,v4)]:=Sta.enter J al;cases u.int1;have S:Sta H G H [] [(r.ins A,v1),(zo l,v2),(frD e,q),(th,v4)]:=u.dat (by walk_at "dats");refine ⟨_,(zK (CQ 5 ZI.nd sr) (zK (ps_try (i:=6) rfl rfl rfl L ZI.nd rfl rfl (λpn xe E hp=>(zJ (Zh (VM z hr (by walk_at "l") hp rfl (zh (pv 0) (zh (pv 1) (zh (pv 2) (zh (pv 3) (zh (pv 4) zA))))))))) (λa=>(zJ (CQ 5 ZI.nd (pv 6))))) (zK (YI (xr op_isN (pv 5) sr (Zn _)) (zJ (ZR (jd zA))) yQ) (zJ (ZR (pcl C hr (zh (pv 5) zA))))))),yY ?_⟩;left;refine rd_ask (r:=r) (l:=l) (e:=e) (th:=th) S ‹_› ‹_› ‹_› ‹_› o ?_
 cases R with
 |none=>
  cases nm;intro v H1 g;have t:=S.same g;left;refine ⟨rfl,?_⟩;left;refine Yc (λ_=>?_) (λc=>absurd rfl c);left;exact yW (Sta.freeze (by assumption)) k ‹_›
 |some c=>
  obtain ⟨n,rfl,nm⟩:=nm;intro H1 g;have t:=S.same g;refine IH (D _ _ nm) λσ' x hl hx=>?_;obtain ⟨O,y1,y2,y3,y4,y5,y6,rfl⟩:=len7 hl;have M:=t.same (zH.new hx (tq x c));have N:(upd H1 x (tq x c)) x=some (tq x c):=yE;left;refine ⟨rfl,?_⟩;left;refine Yc (λc=>by cases c) (λ_=>?_);left;refine AF nm M N λr H' e m=>?_;left;exact yW m k ‹_›
end
abbrev ZV:Stmt:=top 86
theorem aI:FnScope ["_law_claims_here","_law_cell","_law_number","_law_at","_law_bad"] pag (zk ZV):=xC
theorem Iq (B:Bl mg) (F:Fun K "_law_bad_claims" "_law_bad_claims" ZV f fd):FnOk P w K mg base CX0 1 f fd pag wZ:=by
 refine F.oo aI λH vs Q E hr nd0 h=>?_;obtain ⟨G,l,cell,Y,X,⟨pos,few⟩,k⟩:=h;obtain ⟨v0,v1,rfl,al⟩:=yP X;have L:Sta H G H [] [(.int cell,v1),(zo l,v0)]:=(Sta.enter Y al).dat (by walk_at "dats");cases L.int1;have S:Sta H G H [] [(zo l,v0)]:=L.dat (by walk_at "dats");walk_at "=fj2tGb1dMddflnsotb1ddkeircqflnsotb1ddkeiI<b0dKHdqfj30b2Bab0cfj4~apb0b3cf8LAdb29b4tGb2ddeiwwIb0KHb3ramah4ah4ah4ccIb0Hwb3dK";left;refine Yc (λz=>?_) (λz0=>?_)
 ·left;exact yW (Sta.freeze (by assumption)) (λv H' q g i=>k v H' q [] g i ⟨.inl rfl,by simp⟩) ‹_›
 left;refine Yc (λz=>?_) (λz1=>?_)
 ·left;refine HJ (n:=9) (xs:=l.map zB) S ‹_› ⟨by rw [Qa];omega,by decide⟩ λp1 H1 e1 J=>?_;left;refine ff J (by right) λM H2 Z t=>?_
  have C:gP (List.replicate 9 (l.map zB)).flatten none (some 9)=((List.replicate 9 l).flatten.take 9).map zB:=by
   rw [show (9:Int)=((9:Nat):Int) from rfl,oz,List.map_take,List.map_flatten,jaK]
  rw [C] at t
  have l9:((List.replicate 9 l).flatten.take 9).length=9:=by
   rw [Tr,List.length_flatten,jaK,List.sum_replicate_nat];omega
  exact yW t.freeze (λv H' q g i=>k v H' q ((List.replicate 9 l).flatten.take 9) g i ⟨.inr (.inl (by omega)),by omega⟩) ‹_›
 left;refine ⟨_,_,rfl,rfl,by rw [Qa];omega,?_⟩;have nn:0<=cell / 3 % 10 ^ Int.toNat 30:=jad _ (by decide);generalize cell / 3 % 10 ^ Int.toNat 30=m at*;left;rw [Qa];have m1:=jad m (show (l.length:Int)≠0 by omega);have m2:=jao m (show 0<(l.length:Int) by omega);obtain ⟨j,A⟩:∃j:Nat,m % (l.length:Int)=(j:Int):=⟨(m % (l.length:Int)).toNat,by omega⟩
 have N:(λi j:Int=>V.int (i.fmod j)) m (l.length:Int)=V.int (j:Int):=by
  show V.int (m.fmod (l.length:Int))=_;rw [TL _ (by omega),A]
 rw [N];rw [A] at m2;have O:j<l.length:=by omega
 have U:=Qe O;have Ot:(l.map zB)[j]? =some (zB l[j]):=by rw [Qi,U];rfl
 generalize l[j]=c at*;refine yS (xs:=l.map zB) (x:=zB c) S ‹_› (yJ Ot) λw1 J=>?_;left;rename_i M H2 Z t;obtain ⟨i,ei,T⟩:∃i:Nat,m / 8 % 3=(i:Int)/\i<3:=⟨(m / 8 % 3).toNat,by omega,by omega⟩;rw [ei];refine kB (j:=i) (y:= .int (-1 - m)) t Has.int (lF T) λH3 I=>?_
 obtain ⟨x,y,z,p,neg⟩:∃x y z:Int,[PyData.int c.1, .int c.2.1, .int c.2.2].set i (.int (-1 - m))=[.int x, .int y, .int z]/\(x<0\/y<0\/z<0):=by
  rcases (by omega:i=0\/i=1\/i=2) with rfl|rfl|rfl
  ·exact ⟨_,_,_,rfl, .inl (by omega)⟩
  ·exact ⟨_,_,_,rfl, .inr (.inl (by omega))⟩
  ·exact ⟨_,_,_,rfl, .inr (.inr (by omega))⟩
 rw [p] at I;left;refine fe (xs:=l.map zB) I ‹_› λp4 H4 e4 s=>?_;rw [oz,<-List.map_take] at s;left;refine kH (n:=x) s (by right) rfl ?_;left;refine kH (n:=y) s (by right) rfl ?_;left;refine kH (n:=z) s (by right) rfl ?_;left;rename_i w5 H5 e5 S5 w6 H6 e6 u;refine xU (xs:=(l.take j).map zB) (zs:=[zB (x,y,z)]) u (u.vwC (by right)) (u.vwC (by right)) (by rw [Qa,Tr];show _+1<=1000;omega) λp7 H7 e7 S7=>?_;left;rw [show (j:Int)+1=((j+1:Nat):Int) from rfl];refine fe (xs:=l.map zB) S7 ‹_› λp8 H8 e8 r=>?_;rw [oA,<-List.map_drop] at r;left;refine xU (xs:=(l.take j).map zB++[zB (x,y,z)]) (zs:=(l.drop (j+1)).map zB) r (r.vwC (by right)) (r.vwC (by right)) (by rw [Qr,Qa,Qa,Tr,QZ];show _+1+_<=1000;omega) λp9 H9 C D=>?_;rw [show (l.take j).map zB++[zB (x,y,z)]++(l.drop (j+1)).map zB=(l.take j++[(x,y,z)]++l.drop (j+1)).map zB by rw [QF,QF];rfl] at D;exact yW D.freeze (λv H' q g i=>k v H' q (l.take j++[(x,y,z)]++l.drop (j+1)) g i ⟨.inr (.inr ⟨(x,y,z),by simp,neg⟩),by rw [Qr,Qr,Tr,QZ];show _+1+_<=900;omega⟩) ‹_›
abbrev Ze:Stmt:=top 87
theorem VZ:FnScope ["_law_claims_here","_law_cell","_law_parts","_law_number","_law_at"] pag (zk Ze):=xC
theorem Ip (B:Bl mg) (F:Fun K "_law_bad_division" "_law_bad_division" Ze f fd):FnOk P w K mg base CX0 1 f fd pag wY:=by
 refine F.oo VZ λH vs Q E hr nd0 h=>?_;obtain ⟨G,l,cell,eG,hA,cl,k⟩:=h;obtain ⟨v0,v1,rfl,al⟩:=yP hA;have N:Sta H G H [] [(.int cell,v1),(zo l,v0)]:=(Sta.enter eG al).dat (by walk_at "dats");cases N.int1;have S:Sta H G H [] [(zo l,v0)]:=N.dat (by walk_at "dats");have pos:=cl.pos;have few:=cl.few;have q:∀p∈amQ l,SzQ 200 p:=λp hp=>Hc cl (by decide) p hp;walk_at "=f22_law_claim;1;yb0v0zmah0adcfj3tGb1dMddfj40b3Bab0cflnsotb1ddkeiwb2ramadadccqflnsotb1ddkeiIb2HdKqflnsotb1ddke8maLAdb3adc9b2b4e8mawxdppb0b4ddadc9b2b4eib2";left;refine yt (xs:=l.map zB) S ‹_› λJ U=>?_;refine xK U (λj=>frD (((l.getD j (0,0,0)).1:Int):Rat)) (ys:=(amQ l).map frD) (by rw [Qa];exact CH l) S (λj x v=>λZ t1 S hd=>?_) λD H1 e1 M=>?_
 ·obtain ⟨c,s,rfl⟩:=ya Z;refine zQ ⟨rfl,?_⟩;left;refine hd (by assumption) ?_;rw [yg s];exact .mem (by right)
 left;refine ⟨_,_,rfl,rfl,by rw [Qa];omega,?_⟩;have nn:0<=cell / 4 % 10 ^ Int.toNat 30/\cell / 4 % 10 ^ Int.toNat 30<10 ^ 30:=⟨jad _ (by decide),jao _ (by decide)⟩;generalize cell / 4 % 10 ^ Int.toNat 30=m at*;left;rw [Qa];have m1:=jad m (show (l.length:Int)≠0 by omega);have m2:=jao m (show 0<(l.length:Int) by omega);obtain ⟨j,I⟩:∃j:Nat,m % (l.length:Int)=(j:Int):=⟨(m % (l.length:Int)).toNat,by omega⟩
 have hv:(λi j:Int=>V.int (i.fmod j)) m (l.length:Int)=V.int (j:Int):=by
  show V.int (m.fmod (l.length:Int))=_;rw [TL _ (by omega),I]
 rw [hv];rw [I] at m2;have C:j<l.length:=by omega
 have s:=Qe C;have Ot:(l.map zB)[j]? =some (zB l[j]):=by rw [Qi,s];rfl
 have cz:=q _ (Qb (Hd s));have c0:=(cl.nn _ (Qb s)).1;generalize l[j]=c at*;refine Yc (λz=>?_) (λz0=>?_)
 ·left;rename_i X T L t w3 O e3 r;refine xU (xs:=(amQ l).map frD) (zs:=[frD 0]) r (r.vwC (by right)) (r.vwC (by right)) (by rw [Qa,xZ];show _+1<=1000;omega) λp4 H4 e4 A=>?_;rw [show (amQ l).map frD++[frD 0]=(amQ l++[0]).map frD by rw [QF];rfl] at A;exact yW A.freeze (λv H' u g i=>k v H' u (amQ l++[0]) g i (tJ (by rw [Qr,xZ];show _+1≠_;omega) (by rw [Qr,xZ];show _+1<=9;omega) (λp hp=>by simpa using hp) q)) ‹_›
 left;refine Yc (λz=>?_) (λz1=>?_)
 ·left;refine ff M (by right) λY T L t=>?_;rw [show (1:Int)=((1:Nat):Int) from rfl,oA,<-List.map_drop] at t;exact yW t.freeze (λv H' u g i=>k v H' u ((amQ l).drop 1) g i (tJ (by rw [QZ,xZ];omega) (by rw [QZ,xZ];omega) (λp hp=> .inl (List.mem_of_mem_drop hp)) q)) ‹_›
 left;refine Yc (λz=>?_) (λz2=>?_)
 ·left;rename_i Y T L t;rw [show PyData.tuple [.int (-1 - m), .int 1]=frD ((-1 - m:Int):Rat) from rfl] at t;refine kB (j:=j) (y:=frD ((-1 - m:Int):Rat)) t ‹_› (lF (by rw [Qa,xZ];exact C)) λO r=>?_;rw [<-List.map_set] at r;left
  exact yW r.freeze (λv H' u g i=>k v H' u _ g i (tI few q s (λg=>by
   have:0<= -1 - m:=Rat.num_nonneg.mpr g.1
   omega) (GL (by
    have e:(10:Int) ^ 30=((10 ^ 30:Nat):Int):=by decide
    have:(-1 - m).natAbs<=10 ^ 30:=by omega
    exact Nat.lt_of_le_of_lt this (by decide)) (by decide)))) ‹_›
 ·left;refine yS (xs:=l.map zB) (x:=zB c) M ‹_› (yJ Ot) λX t=>?_;left;rename_i p3 O e3 r;rw [halfD] at r;refine kB (j:=j) (y:=frD (Rat.divInt (2*c.1+1) 2)) r ‹_› (lF (by rw [Qa,xZ];exact C)) λH4 A=>?_;rw [<-List.map_set] at A;left;exact yW A.freeze (λv H' u g i=>k v H' u _ g i (tI few q s (λg=>IL c.1 g.2) (Fu cz.1))) ‹_›
end
abbrev pZ:Stmt:=top 17
theorem DN:FnScope pab pab (zk pZ):=xC
theorem Ey (I:Cal P w K mg base CX0 2 "lowest" pav Vk) (F:Fun K "minus" "minus" pZ f fd):FnOk P w K mg base CX0 3 f fd pab aD:=by
 refine F.oo DN λH vs Q E hr nd0 h=>?_;obtain ⟨G,⟨p,q⟩,t,s,⟨⟨m,n,hp,g,u⟩,_⟩,k⟩:=h;obtain ⟨v,y,rfl,al⟩:=yP s;have S:Sta H G H [] _:=Sta.enter t al;dsimp only at hp g k S;have D:IntMulOk p.num (q.den:Int):=hp.1.mulOk g.2 (by omega);have C:IntMulOk q.num (p.den:Int):=g.1.mulOk hp.2 (by omega);have A:IntMulOk (p.den:Int) (q.den:Int):=hp.2.mulOk g.2 (by omega);have z:IntMulOk p.num q.num:=hp.1.mulOk g.1 (by omega);walk_at "=eigaLxh0h1xh1h0axh0h1c";left;refine UG (by assumption) (xg p q) ((hp.2.mul g.2).mono u) λr H' e S=>?_;rw [wM] at S;exact yW S k ‹_›
abbrev pY:Stmt:=top 18
theorem DL:FnScope pab pab (zk pY):=xC
theorem Eh (I:Cal P w K mg base CX0 2 "lowest" pav Vk) (F:Fun K "times" "times" pY f fd):FnOk P w K mg base CX0 3 f fd pab pM:=by
 refine F.oo DL λH vs Q E hr nd0 h=>?_;obtain ⟨G,⟨p,q⟩,t,s,⟨⟨m,n,hp,g,u⟩,_⟩,k⟩:=h;obtain ⟨v,y,rfl,al⟩:=yP s;have S:Sta H G H [] _:=Sta.enter t al;dsimp only at hp g k S;have D:IntMulOk p.num (q.den:Int):=hp.1.mulOk g.2 (by omega);have C:IntMulOk q.num (p.den:Int):=g.1.mulOk hp.2 (by omega);have A:IntMulOk (p.den:Int) (q.den:Int):=hp.2.mulOk g.2 (by omega);have z:IntMulOk p.num q.num:=hp.1.mulOk g.1 (by omega);walk_at "=eigaxh0h1axh0h1c";left;refine UG (by assumption) (xg p q) ((hp.2.mul g.2).mono u) λr H' e S=>?_;rw [Bx] at S;exact yW S k ‹_›
abbrev Aq:Stmt:=top 19
theorem HF:FnScope pab pab (zk Aq):=xC
theorem Il (D:Cal P w K mg base CX0 2 "lowest" pav Vk) (F:Fun K "over" "over" Aq f fd):FnOk P w K mg base CX0 3 f fd pab Gs:=by
 refine F.oo HF λH vs Q E hr nd0 h=>?_;obtain ⟨G,⟨p,q⟩,u,t,⟨⟨m,n,hp,g,y⟩,h0⟩,k⟩:=h;obtain ⟨v,z,rfl,al⟩:=yP t;have S:Sta H G H [] _:=Sta.enter u al;dsimp only at hp g k S h0;have C:IntMulOk p.num (q.den:Int):=hp.1.mulOk g.2 (by omega);have A:IntMulOk (p.den:Int) q.num:=hp.2.mulOk g.1 (by omega);have s:=Gz h0;walk_at "=flnsoh1dk@qeigaxh0h1axh0h1c";left;refine Yc (λc=>absurd c s) (λ_=>?_);left;refine UG (by assumption) (Int.mul_ne_zero (Int.ne_of_gt (den_pos p)) s) ((hp.2.mul g.1).mono y) λr H' e S=>?_;rw [Cm p q h0] at S;exact yW S k ‹_›
abbrev kz:Stmt:=top 20
theorem Ao:FnScope pab pab (zk kz):=xC
theorem Bu (F:Fun K "before" "before" kz f fd):FnOk P w K mg base CX0 1 f fd pab Ux:=by
 refine F.oo Ao λH vs Q E hr nd0 h=>?_;obtain ⟨⟨p,q⟩,r,⟨m,n,hp,g,y⟩,k⟩:=h;obtain ⟨v,s,rfl,al⟩:=yP r;have S:Sta H H H [] _:=Sta.enter (zH.refl _) al;dsimp only at hp g k S;have u:IntMulOk p.num (q.den:Int):=hp.1.mulOk g.2 (by omega);have t:IntMulOk q.num (p.den:Int):=g.1.mulOk hp.2 (by omega);walk_at "=ei|xh0h1xh1h0k";left;rw [show decide (p<q)=decide (p.num*(q.den:Int)<q.num*(p.den:Int)) from decide_eq_decide.mpr (Rat.lt_iff p q)] at k;exact k
abbrev Xg:Stmt:=top 44
theorem eM:FnScope ["amounts","amount","low","high","middle"] paO (zk Xg):=xC
theorem Im (B:Bl mg) (T:Cal P w K mg base CX0 1 "before" pab Ux) (F:Fun K "last_reached" "last_reached" Xg f fd):FnOk P w K mg base CX0 2 f fd paO rR:=by
 refine F.oo eM λH vs Q E hr nd0 h=>?_;obtain ⟨qs,e,n,J,⟨y,U,D,I,hn,O⟩,k⟩:=h;obtain ⟨C,A,rfl,al⟩:=yP J;have S:Sta H H H [] [(.list (qs.map frD),C),(frD e,A)]:=Sta.enter (zH.refl _) al;have N:n+n<=100000000:=by omega
 walk_at "=fj2dfj3Bab0cf5RLb3b2dkfj4Gwb2b3del+gab1apb0b4cej3b4ej2b4eib2";left
 refine pF (λm σ H2=>∃(low high:Nat) (z:Option V) (q:Rat),σ=[some C,some A,some (.int (low:Nat)),some (.int (high:Nat)),z]/\H2=H/\low<high/\high<=qs.length/\qs[low]? =some q/\q<=e/\(high=qs.length\/∃r,qs[high]? =some r/\e<r)/\m=high - low) (qs.length - 0) ⟨0,qs.length,none,qs[0],by
  rw [Qa];rfl,rfl,y,Qq _,Qe y,O _ (Qe y), .inl rfl,rfl⟩ ?_
 rintro m σ H2 ⟨low,high,z,q,rfl,rfl,hlh,hhn,hq,ME,Pb,rfl⟩
 left;refine uC (λc=>?_) (λc=>?_)
 ·have c:1<(high:Int) - low:=by simpa using c
  have em:((low:Int)+high) / 2=(((low+high) / 2:Nat):Int):=by omega
  have t:low<(low+high) / 2:=by omega
  have s:(low+high) / 2<high:=by omega
  left;rw [em];generalize (low+high) / 2=mid at*;have g:qs[mid]? =some (qs[mid]'(by omega)):=Qe _;generalize (qs[mid]'(by omega))=p at*;refine yS (xs:=qs.map frD) (x:=frD p) S ‹_› (yJ (by rw [Qi,g];rfl)) λwp M=>?_;have G:=D p (Qb g);refine fi (m:=n) (n:=n) M ‹_› ‹_› I G N ?_;left;refine Yc (λu=>?_) (λu=>?_)
  ·left;exact ⟨mid - low,by omega,low,mid,_,q,rfl,rfl,t,by omega,hq,ME, .inr ⟨p,g,u⟩,rfl⟩
  ·left;exact ⟨high - mid,by omega,mid,high,_,p,rfl,rfl,s,hhn,g,Tz.mp u,Pb,rfl⟩
 ·have c:¬1<(high:Int) - low:=by simpa using c
  have L:high=low+1:=by omega
  subst L;left;exact k low q hq ME Pb
abbrev Zr:Stmt:=top 40
theorem UC:FnScope paw paw (zk Zr):=xC
theorem uS (M:Cal P w K mg base CX0 3 "minus" pab aD) (N:Cal P w K mg base CX0 3 "over" pab Gs) (F:Fun K "portion_reached" "portion_reached" Zr f fd):FnOk P w K mg base CX0 4 f fd paw Uu:=by
 refine F.oo UC λH vs Q E hr nd0 h=>?_;obtain ⟨G,⟨s',L,x⟩,q,p,⟨⟨m,n,z1,z2,z3,hz⟩,g⟩,k⟩:=h;obtain ⟨v1,v2,u,rfl,al⟩:=YW p;have S:Sta H G H [] _:=Sta.enter q al;dsimp only at z1 z2 z3 g k S;walk_at "=eigagab2ab0cagab1ab0cc";left;refine qd S ‹_› ‹_› z3 z1 (by omega) True.intro λC H1 J t=>?_;left;refine qd t ‹_› ‹_› z2 z1 (by omega) True.intro λA T I s=>?_;left;refine qd s ‹_› ‹_› (z3.sub z1) (z2.sub z1) (by omega) (λz=>g (by grind)) λy O D r=>?_;exact yW r k ‹_›
abbrev Ui:Stmt:=top 41
theorem nh:FnScope pau pau (zk Ui):=xC
theorem Bv (N:Cal P w K mg base CX0 3 "plus" pab iQ) (M:Cal P w K mg base CX0 3 "minus" pab aD) (C:Cal P w K mg base CX0 3 "times" pab pM) (F:Fun K "amount_at" "amount_at" Ui f fd):FnOk P w K mg base CX0 4 f fd pau cZ:=by
 refine F.oo nh λH vs Q E hr nd0 h=>?_;obtain ⟨G,⟨s',L,t⟩,p,g,⟨m,n,z1,z2,z3,hz⟩,k⟩:=h;obtain ⟨v1,v2,u,rfl,al⟩:=YW g;have S:Sta H G H [] _:=Sta.enter p al;dsimp only at z1 z2 z3 k S;walk_at "=eigab0agab2agab1ab0ccc";left;refine qd S ‹_› ‹_› z2 z1 (by omega) True.intro λA H1 J s=>?_;left;refine qd s ‹_› ‹_› z3 (z2.sub z1) (by omega) True.intro λz T I r=>?_;left;refine qd r ‹_› ‹_› z1 (z3.mul (z2.sub z1)) (by omega) True.intro λy O D q=>?_;exact yW q k ‹_›
abbrev Yw:Stmt:=top 39
theorem cw:FnScope ["start","end","purse","portion"] paR (zk Yw):=xC
theorem vd (B:Bl mg) (bS:Cal P w K mg base CX0 4 "portion_reached" paw Uu) (rJ:Cal P w K mg base CX0 4 "amount_at" pau cZ) (F:Fun K "parts_between" "parts_between" Yw f fd):FnOk P w K mg base CX0 5 f fd paR el:=by
 refine F.oo cw λH vs Q E hr nd0 h=>?_;obtain ⟨G,⟨c,d,e⟩,U,N,⟨⟨m,n,z1,z2,z3,hz⟩,g,M⟩,k⟩:=h;obtain ⟨v1,v2,v3,rfl,al⟩:=YW N;have S:Sta H G H [] _:=Sta.enter U al;dsimp only at z1 z2 z3 g M k S;walk_at "=fj3gah0ah1ab2ceiXaCone,two,portion;23;>ah0ah1cNDv0Dv1Ozgab0ab1ab2cc";left;rename_i I Z A Y;refine iX Y ‹_› ‹_› ‹_› z1.1 z2.1 z3 (by omega) (λz=>by rw [z] at g;exact jbS g) λr3 H3 e3 S3=>?_;have u:SzQ (m+3*n+2) ((e - c.1) / (d.1 - c.1)):=((z3.sub z1.1).div (z2.1.sub z1.1)).mono (by omega);left;rename_i w4 S4 w5 q;unfold gQ at k;generalize (e - c.1) / (d.1 - c.1)=t at*;refine kF (xs:=c.2.map frD) (ys:=d.2.map frD) q ‹_› ‹_› λJ y=>?_;refine Zk y (λj=>frD ((List.zipWith (Xo t) c.2 d.2).getD j 0)) (ys:=(List.zipWith (Xo t) c.2 d.2).map frD) ?_ q (λ_ _=>⟨.mem (by right),λ_ _ h=>h.tail, .mem (by right)⟩) (by rw [Zc,Qa,Qa];omega) (λj x v B' G' Kd Kn L t1 S hd C ex s0 H0=>?_) λD H1 e1 Z=>?_
 ·rw [Zc,Qa,Qa,show min c.2.length d.2.length=(List.zipWith (Xo t) c.2 d.2).length by rw [QO]];exact zF frD 0 _
 ·obtain ⟨x1,x2,T,O,rfl⟩:=VW L;obtain ⟨n1,r,rfl⟩:=ya T;obtain ⟨p,s,rfl⟩:=ya O;refine YB (YA S ‹_› λI A S=>?_);refine xR (zQ (xR (zQ (aP ⟨rfl,?_⟩))));left;refine nG S ‹_› ‹_› ‹_› (z1.2 n1 (Qb r)) (z2.2 p (Qb s)) u (by omega) λr6 H6 e6 X=>?_;refine hd X ?_;rw [yg (n:=Xo t n1 p) (by rw [QP,r,s])];exact .mem (by right)
 left;exact yW (by assumption) k ‹_›
theorem uU (B:Bl mg) (iM:Cal P w K mg base CX0 2 "last_reached" paO rR) (CP:Cal P w K mg base CX0 5 "parts_between" paR el) (F:Fun K "parts_at" "parts_at" Vm f fd):FnOk P w K mg base CX0 6 f fd paC WC:=by
 refine F.oo eJ λH vs Q E hr nd0 h=>?_;obtain ⟨G,⟨a,e⟩,X,U,⟨m,n,ok,t,hz,h0⟩,k⟩:=h;obtain ⟨v1,v2,rfl,al⟩:=yP U;have S:Sta H G H [] _:=Sta.enter X al;dsimp only at ok t h0 k S;have few:=ok.few
 have Mm:¬e.num<0:=by
  have:=Rat.num_nonneg.mpr h0;omega
 have N:0<a.length:=jaT.mpr ok.ne;walk_at "=flWh1dk@qfj2gaCcorner;1;yb0v0zh0ab1cflnsob2LBab0cdkeippb0b2dqeigapb0b2apb0wb2dab1c";left;refine Yc (λc=>absurd c Mm) (λ_=>?_);left;refine yt (xs:=a.map zG) S ‹_› λJ L=>?_;refine xK L (λj=>frD ((λc:zg=>c.1) (a.getD j (0,[])))) (ys:=(a.map λc=>c.1).map frD) (by rw [Qa,QI];exact zF (λc:zg=>frD c.1) (0,[]) a) S (λj x v=>λO t1 S hd=>?_) λD H1 e1 p=>?_
 ·obtain ⟨c,g,rfl⟩:=ya O;refine zQ ⟨rfl,?_⟩;left;refine hd (by assumption) ?_;rw [yg g];exact .mem (by right)
 left;refine AE (qs:=a.map λc=>c.1) (e:=e) (n:=9000) p (p.hpC (by right)) (p.hp ‹_›) ⟨by rw [Qa];exact N,by rw [Qa];omega,λq u=>?_,t.mono (by omega),by decide,λq u=>?_⟩ λi q T ME OY=>?_
 ·obtain ⟨c,g,rfl⟩:=Qj.mp u;exact (ok.sz c g).1.mono (by omega)
 ·obtain ⟨c,g,rfl⟩:=ya u;rw [ok.zero c g];exact h0
 obtain ⟨c,g,rfl⟩:=ya T;have A:i<a.length:=(Qg.mp g).1
 have key:=UO (E:=e) ok.rise g ME (by
  rcases OY with h|⟨r,s,h⟩
  ·exact Or.inl (by simpa using h)
  ·obtain ⟨d,hd,rfl⟩:=ya s
   exact .inr ⟨d,hd,h⟩)
 left;refine Yc (λy=>?_) (λy=>?_)
 ·rw [Qa] at y;rw [QN (show a.length<=i+1 by omega)] at key;left;refine yS (xs:=a.map zG) (x:=zG c) p ‹_› (yJ (by rw [Qi,g];rfl)) λM z=>?_;left;rw [key] at k;exact yW (by assumption) k ‹_›
 ·rw [Qa] at y;have C:i+1<a.length:=by omega
  have hd:=Qe C;have s:=ok.rise;unfold yO at s;rw [Tf] at s;have I:=s i (i+1) A C (by omega);rw [List.getElem_eq_iff A|>.mpr g] at I;generalize a[i+1]=d at*;rw [hd] at key;left;refine yS (xs:=a.map zG) (x:=zG c) p ‹_› (yJ (by rw [Qi,g];rfl)) λM z=>?_;left;refine yS (xs:=a.map zG) (x:=zG d) z ‹_› (by rw [show ((i:Nat):Int)+1=((i+1:Nat):Int) by omega];exact yJ (by rw [Qi,hd];rfl)) λwd Z=>?_;left;refine uK Z ‹_› ‹_› ‹_› (ok.sz c (Qb g)) (ok.sz d (Qb hd)) t hz I (ok.len c (Qb g)) λr4 H4 e4 Y=>?_;rw [key] at k;exact yW Y k ‹_›
local macro_rules|`(tactic|walk_at "rd")=>`(tactic|first|fail "&181"|fail)
abbrev HG:Stmt:=top 38
theorem sc_gap:FnScope pab pab (zk HG):=xC
abbrev XX:Stmt:=top 37
theorem gZ:FnScope ["ahead","corner","following","near","far","place","start","rise","whole"] paF (zk XX):=xC
abbrev eR:Stmt:=top 31
theorem uy:FnScope ["corners","last"] ["corners"] (zk eR):=xC
theorem ok_gap (F:Fun K "gap" "gap" HG f fd):FnOk P w K mg base CX0 1 f fd pab HB:=by
 refine F.oo sc_gap λH vs Q E hr nd0 h=>?_;obtain ⟨G,⟨p,q⟩,r,m,⟨hp,g⟩,k⟩:=h;obtain ⟨v,s,rfl,al⟩:=yP m;have S:Sta H G H [] _:=Sta.enter r al;dsimp only at hp g k S;have y:IntMulOk q.num (p.den:Int):=g.1.mulOk hp.2 (by decide);have u:IntMulOk p.num (q.den:Int):=hp.1.mulOk g.2 (by decide);have t:IntMulOk (p.den:Int) (q.den:Int):=hp.2.mulOk g.2 (by decide);walk_at "=eimaLxh1h0xh0h1axh0h1c";left;exact yW (by assumption) k ‹_›
theorem qj (B:Bl mg) (JP:Cal P w K mg base CX0 1 "gap" pab HB) (F:Fun K "is_straight" "is_straight" XX f fd):FnOk P w K mg base CX0 2 f fd paF Hv:=by
 refine F.oo gZ λH vs Q E hr nd0 h=>?_;obtain ⟨⟨a,b,c⟩,hA,⟨sa,sb,sc,l1,l2,l3⟩,k⟩:=h;obtain ⟨U,T,O,rfl,al⟩:=YW hA;have S:Sta H H H [] _:=Sta.enter (zH.refl _) al;dsimp only at sa sb sc l1 l2 l3 k S;have za:=sa.1;have zb:=sb.1;have zc:=sc.1;have zn:=sW za zb;have C:=sW za zc;walk_at "=fj3gah0ah1cfj4gah0ah2cfJ:ah0cNDF5DF6Ofj7gab6aph1b5cfj8gab6aph2b5celnQoxxxh7h3h8h4xxxh8h4h7h3keiPqeiP";left;rename_i w1 _ w2 _ M H1 e1 S1 w3 _ w4 _ N H2 e2 S2 w5 S3;refine HS (xs:=a.2.map frD) S3 ‹_› λJ wk=>?_;have S4:Sta H H H2 [] [(yu a.2,w5),(Jo a.1 b.1,M),(Jo a.1 c.1,N),(zG a,U),(zG b,T),(zG c,O)]:=S3.dat (by walk_at "dats")
 refine Zo wk (λi σ cs ds=>∃(L I G D:Option V),σ=[some U,some T,some O,some M,some N,L,I,G,D]/\cs=[]/\ds=[(yu a.2,w5),(Jo a.1 b.1,M),(Jo a.1 c.1,N),(zG a,U),(zG b,T),(zG c,O)]/\
  ∀(j:Nat) (x y z:Rat),j<i->a.2[j]? =some x->b.2[j]? =some y->c.2[j]? =some z->(y - x)*(c.1 - a.1)=(z - x)*(b.1 - a.1)) S4 ⟨none,none,none,none,rfl,rfl,rfl,λj x y z hj=>absurd hj (Nat.not_lt_zero _)⟩ (λi σ cs ds h=>?_) ?_ ?_
 ·obtain ⟨_,_,_,_,_,_,rfl,_⟩:=h;exact .mem (by right)
 ·rintro i x u σ H5 cs ds s ⟨L,I,G,D,rfl,rfl,rfl,inv⟩ S5
  obtain ⟨x0,KS,rfl⟩:=Vx s;obtain ⟨p,hp,rfl⟩:=ya KS;have hi:i<a.2.length:=(Qg.mp hp).1;have t:b.2[i]? =some (b.2[i]'(by omega)):=Qe _;have A:c.2[i]? =some (c.2[i]'(by omega)):=Qe _;generalize (b.2[i]'(by omega))=q at*;generalize (c.2[i]'(by omega))=r at*;have zp:SzQ 2000 p:=sa.2 p (Qb hp);have zq:SzQ 2000 q:=sb.2 q (Qb t);have zr:SzQ 2000 r:=sc.2 r (Qb A);have g:=sW zp zq;have m:=sW zp zr;have ib:atI (b.2.map frD) ((i:Nat):Int)=some (frD q):=yJ (by rw [Qi,t];rfl);have ic:atI (c.2.map frD) ((i:Nat):Int)=some (frD r):=yJ (by rw [Qi,A];rfl);refine YB (YA S5 ‹_› λu1 u2 S6=>?_);cases S6.int1;left;rename_i u3 S7;refine ja (xs:=b.2.map frD) S7 ‹_› ib λu4 S8=>?_;left;rename_i vr H9 e9 S9 u5 KZ;refine ja (xs:=c.2.map frD) KZ ‹_› ic λu6 Ln=>?_;have m1:=g.1.mul zn.2;have m2:=m1.mul m.2;have m3:=m.1.mul C.2;have m4:=m3.mul g.2;have o1:=g.1.mulOk zn.2 (by decide);have o2:=m1.mulOk m.2 (by decide);have o3:=m2.mulOk C.1 (by decide);have o4:=m.1.mulOk C.2 (by decide);have o5:=m3.mulOk g.2 (by decide);have o6:=m4.mulOk zn.1 (by decide);left
  have cr:=Cs (rn:=q.num*(p.den:Int) - p.num*(q.den:Int)) (rd:=(p.den:Int)*(q.den:Int)) (nn:=b.1.num*(a.1.den:Int) - a.1.num*(b.1.den:Int)) (nd:=(a.1.den:Int)*(b.1.den:Int))
   (wn:=r.num*(p.den:Int) - p.num*(r.den:Int)) (wd:=(p.den:Int)*(r.den:Int)) (fn:=c.1.num*(a.1.den:Int) - a.1.num*(c.1.den:Int)) (fd:=(a.1.den:Int)*(c.1.den:Int)) (xg _ _) (xg _ _) (xg _ _) (xg _ _)
  rw [lH,lH,lH,lH] at cr;refine BQ (λz=>?_) (λz=>?_)
  ·left;have Kv:¬zN a b c:=λst=>z (cr.mp (st i _ _ _ hp t A));rw [show (@decide (zN a b c) (Classical.propDecidable _))=false from @decide_eq_false _ (Classical.propDecidable _) Kv] at k;exact ret_B (by assumption) k
  ·left;rename_i vw OG Si LC;refine Xs (LC.dat (by walk_at "dats")) ⟨_,_,_,_,rfl,rfl,rfl,λj x y z' hj Z MU Y=>?_⟩
   by_cases X:j<i
   ·exact inv j x y z' X Z MU Y
   ·have:j=i:=by omega
    subst this;rw [hp] at Z;rw [t] at MU;rw [A] at Y;cases Z;cases MU;cases Y;exact cr.mpr z
 ·rintro σ H5 cs ds ⟨L,I,G,D,rfl,rfl,rfl,inv⟩ S5
  left
  have Kv:zN a b c:=λi x y z s hy hz=>inv i x y z (by
   have:=(Qg.mp s).1
   rw [xQ,Qa];exact this) s hy hz
  rw [show (@decide (zN a b c) (Classical.propDecidable _))=true from @decide_eq_true _ (Classical.propDecidable _) Kv] at k;exact ret_B S5 k
theorem uO (B:Bl mg) (Gh:Cal P w K mg base CX0 2 "is_straight" paF Hv) (F:Fun K "thinned" "thinned" eR f fd):FnOk P w K mg base CX0 3 f fd ["corners"] dU:=by
 refine F.oo uy λH vs Q E hr nd0 h=>?_;obtain ⟨G,a,eG,hA,⟨m,ok⟩,k⟩:=h;obtain ⟨v0,rfl,al⟩:=YX hA;have S:Sta H G H [] _:=Sta.enter eG al;have few:=ok.few;walk_at "=fj1LBab0cdeiCplace,corner,corners,last;201;-ab0cNDv0Dv1O=S#nsob0dk#nsob0b3k.,+gapb2Lb0dab1apb2wb0dcb1";left;refine kG (xs:=a.map zG) S ‹_› λJ Z=>?_;refine gq Z (λj=>if YF a j then (a[j]?).map zG else none) S (λ_ _=> .mem (by right)) (by rw [xQ,Qa];omega) (λi x v Y X Kd Kn t t1 S hd hn C ex s0 H0=>?_) λD H1 e1 U=>?_
 ·obtain ⟨x0,KS,rfl⟩:=Vx t;obtain ⟨c,r,rfl⟩:=ya KS;have hi:i<a.length:=(Qg.mp r).1;refine YB (YA S ‹_› λu1 N u=>?_);cases u.int1;refine xR (zQ (xR (zQ (aP ⟨rfl,?_⟩))));rw [r] at hd hn;have yes:YF a i=true->∀{g:Hp} {cs':zY} {ds':Dat},Sta Y X g cs' ds'->Has ds' (zG c) N->Kd N g:=λhk {g cs' ds'} p h5=>hd (by rw [hk];rfl) p h5;have no:YF a i=false->∀{g:Hp} {cs':zY} {ds':Dat},Sta Y X g cs' ds'->Kn g:=λhk {g cs' ds'} p=>hn (by rw [hk];rfl) p;left;refine Yc (λc0=>?_) (λc0=>?_)
  ·left;exact yes (Xw (.inl (by omega))) u ‹_›
  ·left;refine Yc (λL=>?_) (λL=>?_)
   ·left;rw [Qa] at L;exact yes (Xw (.inr (.inl (by omega)))) u ‹_›
   ·rw [Qa] at L;have h0:i - 1<a.length:=by omega
    have T:i+1<a.length:=by omega
    have A:=Qe h0;have g2:=Qe T;have s:=Tu h0;have y2:=Tu T;generalize a[i - 1]=M at*;generalize a[i+1]=I at*;have y1:=Qb r;left;refine yS (xs:=a.map zG) (x:=zG M) u ‹_› (GZ (by omega) (by rw [show ((i:Int) - 1).toNat=i - 1 by omega,Qi,A];rfl)) λu3 S3=>?_;left;refine yS (xs:=a.map zG) (x:=zG I) S3 ‹_› (GZ (by omega) (by rw [show ((i:Int)+1).toNat=i+1 by omega,Qi,g2];rfl)) λu4 S4=>?_;left;refine rd_str S4 ‹_› ‹_› ‹_› (ok.sz _ s) (ok.sz _ y1) (ok.sz _ y2) (by rw [ok.len _ y1,ok.len _ s]) (by rw [ok.len _ y2,ok.len _ s]) (by rw [ok.len _ s];exact ok.m) λg p=>?_;left;refine @BQ _ _ _ (_) (λz=>?_) (λz=>?_)
    ·left;exact yes (Xw (.inr (.inr λq=>z (q _ _ _ A r g2)))) p ‹_›
    ·refine no ?_ p;refine ji ?_
     rintro (q|q|q)
     ·omega
     ·omega
     ·refine q λx y z' t O hz=>?_;rw [A] at t;rw [r] at O;rw [g2] at hz;cases t;cases O;cases hz;exact z
 ·left;rw [xQ,Qa,vy] at U;exact xM U k
abbrev Ub:Stmt:=top 42
theorem mS:FnScope pak pak (zk Ub):=xC
theorem nN (B:Bl mg) (XJ:Cal P w K mg base CX0 3 "plus" pab iQ) (F:Fun K "plus_each" "plus_each" Ub f fd):FnOk P w K mg base CX0 4 f fd pak (mL λp q=>p+q):=by
 refine F.oo mS λH vs Q E hr nd0 h=>?_;obtain ⟨G,⟨p,q⟩,L,z,⟨s1,s2,y⟩,k⟩:=h;obtain ⟨v,X,rfl,al⟩:=yP z;have S:Sta H G H [] _:=Sta.enter L al;dsimp only at s1 s2 y k S;walk_at "=eiXaCone,two;2;>ab0ab1cNDv0Dv1Ozgab0ab1cc";left;refine kF (xs:=p.map frD) (ys:=q.map frD) S ‹_› ‹_› λJ t=>?_;refine Zk t (λj=>frD ((List.zipWith (λp q=>p+q) p q).getD j 0)) (ys:=(List.zipWith (λp q=>p+q) p q).map frD) ?_ S (λ_ _=>⟨.mem (by right),λ_ _ h=>h.tail, .mem (by right)⟩) (by rw [Zc,Qa,Qa];omega) (λj x v B' G' Kd Kn u t1 S hd C ex s0 H0=>?_) λD H1 Z S1=>?_
 ·rw [Zc,Qa,Qa,show min p.length q.length=(List.zipWith (λp q=>p+q) p q).length by rw [QO]];exact zF frD 0 _
 ·obtain ⟨O,N,I,A,rfl⟩:=VW u;obtain ⟨n1,m,rfl⟩:=ya I;obtain ⟨g,s,rfl⟩:=ya A;have z1:=s1 n1 (Qb m);have z2:=s2 g (Qb s);refine YB (YA S ‹_› λU T S=>?_);refine xR (zQ (xR (zQ (aP ⟨rfl,?_⟩))));left;rename_i r H2 Y M;refine hd M ?_;rw [yg (n:=n1+g) (by rw [QP,m,s])];exact .mem (by right)
 left;exact yW (by assumption) k ‹_›
abbrev Uc:Stmt:=top 43
theorem mU:FnScope pak pak (zk Uc):=xC
theorem nO (B:Bl mg) (Xm:Cal P w K mg base CX0 3 "minus" pab aD) (F:Fun K "less_each" "less_each" Uc f fd):FnOk P w K mg base CX0 4 f fd pak (mL λp q=>p - q):=by
 refine F.oo mU λH vs Q E hr nd0 h=>?_;obtain ⟨G,⟨p,q⟩,L,z,⟨s1,s2,y⟩,k⟩:=h;obtain ⟨v,X,rfl,al⟩:=yP z;have S:Sta H G H [] _:=Sta.enter L al;dsimp only at s1 s2 y k S;walk_at "=eiXaCone,two;2;>ab0ab1cNDv0Dv1Ozgab0ab1cc";left;refine kF (xs:=p.map frD) (ys:=q.map frD) S ‹_› ‹_› λJ t=>?_;refine Zk t (λj=>frD ((List.zipWith (λp q=>p - q) p q).getD j 0)) (ys:=(List.zipWith (λp q=>p - q) p q).map frD) ?_ S (λ_ _=>⟨.mem (by right),λ_ _ h=>h.tail, .mem (by right)⟩) (by rw [Zc,Qa,Qa];omega) (λj x v B' G' Kd Kn u t1 S hd C ex s0 H0=>?_) λD H1 Z S1=>?_
 ·rw [Zc,Qa,Qa,show min p.length q.length=(List.zipWith (λp q=>p - q) p q).length by rw [QO]];exact zF frD 0 _
 ·obtain ⟨O,N,I,A,rfl⟩:=VW u;obtain ⟨n1,m,rfl⟩:=ya I;obtain ⟨g,s,rfl⟩:=ya A;have z1:=s1 n1 (Qb m);have z2:=s2 g (Qb s);refine YB (YA S ‹_› λU T S=>?_);refine xR (zQ (xR (zQ (aP ⟨rfl,?_⟩))));left;rename_i r H2 Y M;refine hd M ?_;rw [yg (n:=n1 - g) (by rw [QP,m,s])];exact .mem (by right)
 left;exact yW (by assumption) k ‹_›
abbrev kd:Stmt:=top 33
theorem Af:FnScope ["path","end"] ["path"] (zk kd):=xC
theorem Ba (B:Bl mg) (Y:Cal P w K mg base CX0 3 "minus" pab aD) (Jj:Cal P w K mg base CX0 4 "less_each" pak (mL λp q=>p - q)) (F:Fun K "turned" "turned" kd f fd):FnOk P w K mg base CX0 5 f fd ["path"] cX:=by
 refine F.oo Af λH vs Q E hr nd0 h=>?_;obtain ⟨G,a,L,I,ok,k⟩:=h;obtain ⟨v0,rfl,al⟩:=YX I;have S:Sta H G H [] _:=Sta.enter L al;have few:=ok.few;obtain ⟨O,y⟩:=ok.last;have g:=ok.sz _ y;have z:=g.1;walk_at "=fj1pb0AdeiCcorner,end;11;;ab0cv0zmagah1ah0cagah1ah0cc";left;refine yS (xs:=a.map zG) (x:=zG (lastC a)) S ‹_› (tN (by rw [jaD,O];rfl)) λT u=>?_;left;refine HQ (xs:=a.map zG) u ‹_› λJ A=>?_;refine Zk A (λj=>zG (gT (lastC a) (a.reverse.getD j (0,[])))) (ys:=(xq a).map zG) ?_ u (λ_ _=> .mem (by right)) (by rw [To,Qa];omega) (λj x v B' G' Kd Kn s t1 S hd C ex s0 H0=>?_) λD H2 X N=>?_
 ·unfold xq;rw [QI,To,Qa,<-To];exact zF (λc=>zG (gT (lastC a) c)) (0,[]) _
 ·rw [<-List.map_reverse] at s;obtain ⟨c,t,rfl⟩:=ya s;have M:c∈a:=jbR.mp (Qb t);have m:=ok.sz c M;have Z:=m.1;refine zQ ⟨rfl,?_⟩;left;refine AJ (p:=(lastC a).2) (q:=c.2) (by assumption) ‹_› ‹_› g.2 m.2 (ok.len _ y) λr H3 U S3=>?_;left;refine hd (by assumption) ?_;rw [yg t];exact .mem (by right)
 exact xM N k
abbrev ki:Stmt:=top 34
theorem Ai:FnScope paT paT (zk ki):=xC
theorem Be (B:Bl mg) (mi:Cal P w K mg base CX0 3 "times" pab pM) (F:Fun K "scaled" "scaled" ki f fd):FnOk P w K mg base CX0 4 f fd paT jI:=by
 refine F.oo Ai λH vs Q E hr nd0 h=>?_;obtain ⟨G,⟨a,p⟩,I,A,⟨ok,t⟩,k⟩:=h;obtain ⟨v0,Z,rfl,al⟩:=yP A;have S:Sta H G H [] _:=Sta.enter I al;dsimp only at ok t k S;have few:=ok.few;walk_at "=eiCcorner,portion;11;yb0v0zmagah0ab1caXaCpart,portion;11;_h0v0zgab0ab1ccc";left;refine yt (xs:=a.map zG) S ‹_› λJ u=>?_;refine xK u (λj=>zG ((λc:zg=>(c.1*p,c.2.map (·*p))) (a.getD j (0,[])))) (ys:=(zP p a).map zG) ?_ S (λj x v=>λz t1 S hd=>?_) λD H2 e2 s=>?_
 ·unfold zP;rw [QI,Qa];exact zF (λc=>zG ((λc:zg=>(c.1*p,c.2.map (·*p))) c)) (0,[]) _
 ·obtain ⟨c,g,rfl⟩:=ya z;have m:=ok.sz c (Qb g);have Su:=m.1;have lc:=ok.len c (Qb g);refine zQ ⟨rfl,?_⟩;left;rename_i Y S1 r1 H1 e1 s X r;refine HR (xs:=c.2.map frD) r ‹_› λJ2 N=>?_;refine Zk N (λj=>frD (c.2.getD j 0*p)) (ys:=(c.2.map (·*p)).map frD) (by rw [Qa,QI];exact zF (λx=>frD (x*p)) 0 c.2) r (λ_ _=> .mem (by right)) (by rw [Qa];exact lc) (λj x v B' G' T O M t2 S hd2 C ex s0 H0=>?_) λD2 H4 e4 S4=>?_
  ·obtain ⟨y,q,rfl⟩:=ya M;have U:=m.2 y (Qb q);refine zQ ⟨rfl,?_⟩;left;rename_i r5 H5 e5 L;refine hd2 L ?_;rw [yg q];exact .mem (by right)
  left;refine hd (by assumption) ?_;rw [yg g];exact .mem (by right)
 exact xM s k
abbrev kv:Stmt:=top 35
theorem An:FnScope ["path","second","end","moved"] paM (zk kv):=xC
theorem Bt (B:Bl mg) (XJ:Cal P w K mg base CX0 3 "plus" pab iQ) (Ji:Cal P w K mg base CX0 4 "plus_each" pak (mL λp q=>p+q)) (ph:Cal P w K mg base CX0 3 "thinned" ["corners"] dU) (F:Fun K "behind" "behind" kv f fd):FnOk P w K mg base CX0 5 f fd paM Uw:=by
 refine F.oo An λH vs Q E hr nd0 h=>?_;obtain ⟨G,⟨a,b⟩,Z,X,⟨ok,s,m,L⟩,k⟩:=h;obtain ⟨v0,v1,rfl,al⟩:=yP X;have S:Sta H G H [] _:=Sta.enter Z al;dsimp only at ok s L k S;have few:=ok.few;have A:=s.few;obtain ⟨KG,M⟩:=ok.last;have u:=ok.sz _ M;have N:=u.1;walk_at "=fj2pb0Adf23corner,end;12;yIb1HdKv0zmagah1ah0cagah1ah0cceigawb0b3c";left;refine yS (xs:=a.map zG) (x:=zG (lastC a)) S ‹_› (tN (by rw [jaD,KG];rfl)) λve S1=>?_;left;refine fe (xs:=b.map zG) S1 ‹_› λl2 H2 e2 t=>?_
 have Y:gP (b.map zG) (some 1) none=b.tail.map zG:=by
  unfold gP;rw [HT.sIx_none,show (some (1:Int))=some ((1:Nat):Int) from rfl,HT.sIx_nat,Qa];have U:1<=b.length:=jaT.mpr s.ne;rw [Nat.min_eq_left U,QQ (by rw [QZ,Qa];exact Qq _),<-List.map_drop,List.drop_one]
 rw [Y] at t;refine AH (xs:=b.tail.map zG) t (by right) λJ O=>?_;refine Zk O (λj=>zG (qf (lastC a) (b.tail.getD j (0,[])))) (ys:=(xb a b).map zG) ?_ t (λ_ _=>Qf _ (by right)) (by rw [Qa,jaM];omega) (λj x v B' G' Kd Kn T t1 S hd C ex s0 H0=>?_) λD H3 e3 g=>?_
 ·unfold xb;rw [QI,Qa];exact zF (λc=>zG (qf (lastC a) c)) (0,[]) _
 ·obtain ⟨c,z,rfl⟩:=ya T;have cm:c∈b:=TF (Qb z);have y:=s.sz c cm;have Su:=y.1;refine zQ ⟨rfl,?_⟩;left;refine AJ (p:=(lastC a).2) (q:=c.2) (by assumption) ‹_› ‹_› u.2 y.2 (ok.len _ M) λr H3 e3 g=>?_;left;refine hd (by assumption) ?_;rw [yg z];exact .mem (by right)
 left;obtain ⟨pa,rfl⟩:=g.refL (xs:=a.map zG) (v:=v0) ‹_›
 refine xU g (g.vwL (xs:=a.map zG) ‹_›) (g.vwC (by right)) (by
  rw [Qa,Qa];unfold xb
  rw [Qa,jaM];omega) λp4 H4 e4 I=>?_
 rw [<-QF] at I;have S5:=I.freeze;left;refine uD (a:=a++xb a b) S5 ‹_› L λp6 H6 e6 S6=>?_;exact xM (S6.weak (cs':=[_]) (by walk_at "sub") Dats.nil) k
section
variable {fS fT Ru:Addr} {A:RAd}
abbrev Yy:Stmt:=ZD (top 61) 0
theorem Wj:FnScope paf paf (zk Yy):=xC
theorem Em (F:Fun K "__init__" "Rule.__init__" Yy f fd):FnOk P w K mg base CX0 1 f fd paf (Xc K fS fT Ru):=by
 refine F.ok Wj (λvs H Q E h=>?_) (λy A outer s H vs Q E hr h=>?_)
 ·obtain ⟨C,ok,G,d,x,m,us,rfl,_,_,_,g,_⟩:=h;rw [Qw,<-g.len];rfl
 obtain ⟨C,ok,G,d,x,m,us,rfl,u,t,q,g,k⟩:=h;obtain ⟨v,rfl,al⟩:=YX g;have nd0:=Wj.nd;walk_at "=e(b0b1";refine ⟨v,rfl, .ref x,rfl,x,C,m,[],rfl,q,ok.cl,ok.na,by decide,?_⟩;refine k _ G v (λp o hp r=>by rw [yb hp];exact r) (zH.refl _) (λp o hp=>?_) (λ_ _=>rfl) ?_ (al _ (Qv.mpr rfl))
 ·rw [yb (yh hp t)];exact u p o hp
 ·rw [yE];rfl
abbrev WL:Stmt:=ZD (top 61) 1
theorem jY:FnScope pae pae (zk WL):=xC
theorem Ek (q:∀r:Rl,ROk K fS fT Ru (A.cls r)) (F:Fun K "shape" "Rule.shape" WL f fd):FnOk P w K mg base CX0 1 f fd pae (aB A):=by
 refine F.oo jY λH vs Q E hr nd0 h=>?_;obtain ⟨G,r,m,g,_,k⟩:=h;obtain ⟨v,rfl,al⟩:=YX g;have S:Sta H G H [] _:=Sta.enter m al;walk_at "=ei$b0";refine rd_ret (rd_fld ?_);left;refine AI S ‹_› (q r) λw p=>?_;exact yW p k ‹_›
abbrev Zt:Stmt:=ZD (top 62) 0
theorem YL:FnScope pae pae (zk Zt):=xC
theorem hV (Yd:mg "Rule"=some (.ref Ru)) (eY:PySem.W.specialIn K (.ref Ru) "__getattribute__"=some (some (.builtin "type.__getattribute__"))) (fm:PySem.W.readsIn K Ru (.type "type")=true) {m:Addr} {q:FuncData} (xW:PySem.W.findCls K (.ref Ru) (.type "type") "__init__"=some (.val (.ref m))) (Za:FnOk P w K mg base CX0 1 m q paf (Xc K fS fT Ru)) (xV:PySem.W.keepIn K (.ref m)=true) (xY:yX K q paf []) (ok:ROk K fS fT Ru (A.cls .shares)) (F:Fun K "__init__" "Shares.__init__" Zt f fd):FnOk P w K mg base CX0 2 f fd pae (xj (A.cls .shares) (α:=Unit) (λ_=>[]) (λ_=>Rl.shares.shape)):=by
 refine F.ok YL (λvs H Q E h=>?_) (λN A outer s H vs Q E hr h=>?_)
 ·obtain ⟨G,d,x,L,us,rfl,_,_,_,g,_⟩:=h;rw [Qw,<-g.len];rfl
 obtain ⟨G,d,x,L,us,rfl,J,I,r,g,k⟩:=h;rw [zu] at g;subst g;have S:Sta H G H [] []:=Sta.enter J λp hp=>absurd hp Qx;have nd0:=YL.nd;walk_at "=eETUab0amaucc";left;refine YR (d:=Rl.shares.shape) (by assumption) I r ok ‹_› λH' M w D C z y u t=>?_;exact k H' M w D C z y u t
abbrev Zx:Stmt:=ZD (top 63) 0
theorem YQ:FnScope pae pae (zk Zx):=xC
theorem ij (Yd:mg "Rule"=some (.ref Ru)) (eY:PySem.W.specialIn K (.ref Ru) "__getattribute__"=some (some (.builtin "type.__getattribute__"))) (fm:PySem.W.readsIn K Ru (.type "type")=true) {m:Addr} {q:FuncData} (xW:PySem.W.findCls K (.ref Ru) (.type "type") "__init__"=some (.val (.ref m))) (Za:FnOk P w K mg base CX0 1 m q paf (Xc K fS fT Ru)) (xV:PySem.W.keepIn K (.ref m)=true) (xY:yX K q paf []) (ok:ROk K fS fT Ru (A.cls .evenly)) (F:Fun K "__init__" "Evenly.__init__" Zx f fd):FnOk P w K mg base CX0 2 f fd pae (xj (A.cls .evenly) (α:=Unit) (λ_=>[]) (λ_=>Rl.evenly.shape)):=by
 refine F.ok YQ (λvs H Q E h=>?_) (λN A outer s H vs Q E hr h=>?_)
 ·obtain ⟨G,d,x,L,us,rfl,_,_,_,g,_⟩:=h;rw [Qw,<-g.len];rfl
 obtain ⟨G,d,x,L,us,rfl,J,I,r,g,k⟩:=h;rw [zu] at g;subst g;have S:Sta H G H [] []:=Sta.enter J λp hp=>absurd hp Qx;have nd0:=YQ.nd;walk_at "=eETUab0amaucc";left;refine YR (d:=Rl.evenly.shape) (by assumption) I r ok ‹_› λH' M w D C z y u t=>?_;exact k H' M w D C z y u t
abbrev Zu:Stmt:=ZD (top 64) 0
theorem YM:FnScope pae pae (zk Zu):=xC
theorem hX (Yd:mg "Rule"=some (.ref Ru)) (eY:PySem.W.specialIn K (.ref Ru) "__getattribute__"=some (some (.builtin "type.__getattribute__"))) (fm:PySem.W.readsIn K Ru (.type "type")=true) {m:Addr} {q:FuncData} (xW:PySem.W.findCls K (.ref Ru) (.type "type") "__init__"=some (.val (.ref m))) (Za:FnOk P w K mg base CX0 1 m q paf (Xc K fS fT Ru)) (xV:PySem.W.keepIn K (.ref m)=true) (xY:yX K q paf []) (ok:ROk K fS fT Ru (A.cls .losses)) (F:Fun K "__init__" "Losses.__init__" Zu f fd):FnOk P w K mg base CX0 2 f fd pae (xj (A.cls .losses) (α:=Unit) (λ_=>[]) (λ_=>Rl.losses.shape)):=by
 refine F.ok YM (λvs H Q E h=>?_) (λN A outer s H vs Q E hr h=>?_)
 ·obtain ⟨G,d,x,L,us,rfl,_,_,_,g,_⟩:=h;rw [Qw,<-g.len];rfl
 obtain ⟨G,d,x,L,us,rfl,J,I,r,g,k⟩:=h;rw [zu] at g;subst g;have S:Sta H G H [] []:=Sta.enter J λp hp=>absurd hp Qx;have nd0:=YM.nd;walk_at "=eETUab0amaucc";left;refine YR (d:=Rl.losses.shape) (by assumption) I r ok ‹_› λH' M w D C z y u t=>?_;exact k H' M w D C z y u t
abbrev Zv:Stmt:=ZD (top 65) 0
theorem YN:FnScope pae pae (zk Zv):=xC
theorem ie (Yd:mg "Rule"=some (.ref Ru)) (eY:PySem.W.specialIn K (.ref Ru) "__getattribute__"=some (some (.builtin "type.__getattribute__"))) (fm:PySem.W.readsIn K Ru (.type "type")=true) {m:Addr} {q:FuncData} (xW:PySem.W.findCls K (.ref Ru) (.type "type") "__init__"=some (.val (.ref m))) (Za:FnOk P w K mg base CX0 1 m q paf (Xc K fS fT Ru)) (xV:PySem.W.keepIn K (.ref m)=true) (xY:yX K q paf []) (ok:ROk K fS fT Ru (A.cls .halves)) (F:Fun K "__init__" "Halves.__init__" Zv f fd):FnOk P w K mg base CX0 2 f fd pae (xj (A.cls .halves) (α:=Unit) (λ_=>[]) (λ_=>Rl.halves.shape)):=by
 refine F.ok YN (λvs H Q E h=>?_) (λN A outer s H vs Q E hr h=>?_)
 ·obtain ⟨G,d,x,L,us,rfl,_,_,_,g,_⟩:=h;rw [Qw,<-g.len];rfl
 obtain ⟨G,d,x,L,us,rfl,J,I,r,g,k⟩:=h;rw [zu] at g;subst g;have S:Sta H G H [] []:=Sta.enter J λp hp=>absurd hp Qx;have nd0:=YN.nd;walk_at "=eETUab0amaucc";left;refine YR (d:=Rl.halves.shape) (by assumption) I r ok ‹_› λH' M w D C z y u t=>?_;exact k H' M w D C z y u t
abbrev ZY:Stmt:=ZD (top 66) 0
theorem Xr:FnScope pan pan (zk ZY):=xC
theorem kR (Yd:mg "Rule"=some (.ref Ru)) (eY:PySem.W.specialIn K (.ref Ru) "__getattribute__"=some (some (.builtin "type.__getattribute__"))) (fm:PySem.W.readsIn K Ru (.type "type")=true) {p:Addr} {t:FuncData} (xW:PySem.W.findCls K (.ref Ru) (.type "type") "__init__"=some (.val (.ref p))) (Za:FnOk P w K mg base CX0 1 p t paf (Xc K fS fT Ru)) (xV:PySem.W.keepIn K (.ref p)=true) (xY:yX K t paf []) {g:FuncData} (ZT:FnOk P w K mg base CX0 1 fS g pae (aB A)) (xp:yX K g pae []) (q:∀r:Rl,ROk K fS fT Ru (A.cls r)) (F:Fun K "__init__" "Other.__init__" ZY f fd):FnOk P w K mg base CX0 2 f fd pan (xj (A.cls (.other .shares)) (α:=Rl) (λr=>[r.ins A]) (λr=>(Rl.other r).shape)):=by
 refine F.ok Xr (λvs H Q E h=>?_) (λY Z outer s H vs Q E hr h=>?_)
 ·obtain ⟨G,d,x,N,us,rfl,_,_,_,m,_⟩:=h;rw [Qw,<-m.len];rfl
 obtain ⟨G,r,x,N,us,rfl,M,L,u,m,k⟩:=h;obtain ⟨v,rfl,al⟩:=YX m;have S:Sta H G H [] _:=Sta.enter M al;have nd0:=Xr.nd;walk_at "=eETUab0amaua3b14cc";left;refine iZ S ‹_› (q r) ?_;refine Vp S ‹_› λT H1 U X=>?_;left;refine YR (d:=(Rl.other r).shape) (by assumption) L u (q (.other .shares)) ‹_› λH' O w J I D C z y=>?_;exact k H' O w J I D C z y
abbrev ZX:Stmt:=ZD (top 67) 0
theorem Xq:FnScope pan pan (zk ZX):=xC
theorem kQ (Yd:mg "Rule"=some (.ref Ru)) (eY:PySem.W.specialIn K (.ref Ru) "__getattribute__"=some (some (.builtin "type.__getattribute__"))) (fm:PySem.W.readsIn K Ru (.type "type")=true) {p:Addr} {t:FuncData} (xW:PySem.W.findCls K (.ref Ru) (.type "type") "__init__"=some (.val (.ref p))) (Za:FnOk P w K mg base CX0 1 p t paf (Xc K fS fT Ru)) (xV:PySem.W.keepIn K (.ref p)=true) (xY:yX K t paf []) {g:FuncData} (ZT:FnOk P w K mg base CX0 1 fS g pae (aB A)) (xp:yX K g pae []) (q:∀r:Rl,ROk K fS fT Ru (A.cls r)) (F:Fun K "__init__" "Ranks.__init__" ZX f fd):FnOk P w K mg base CX0 2 f fd pan (xj (A.cls (.ranks .shares)) (α:=Rl) (λr=>[r.ins A]) (λr=>(Rl.ranks r).shape)):=by
 refine F.ok Xq (λvs H Q E h=>?_) (λY Z outer s H vs Q E hr h=>?_)
 ·obtain ⟨G,d,x,N,us,rfl,_,_,_,m,_⟩:=h;rw [Qw,<-m.len];rfl
 obtain ⟨G,r,x,N,us,rfl,M,L,u,m,k⟩:=h;obtain ⟨v,rfl,al⟩:=YX m;have S:Sta H G H [] _:=Sta.enter M al;have nd0:=Xq.nd;walk_at "=eETUab0amaua3b14cc";left;refine iZ S ‹_› (q r) ?_;refine Vp S ‹_› λT H1 U X=>?_;left;refine YR (d:=(Rl.ranks r).shape) (by assumption) L u (q (.ranks .shares)) ‹_› λH' O w J I D C z y=>?_;exact k H' O w J I D C z y
abbrev Zw:Stmt:=ZD (top 68) 0
theorem YO:FnScope pax pax (zk Zw):=xC
theorem ig (Yd:mg "Rule"=some (.ref Ru)) (eY:PySem.W.specialIn K (.ref Ru) "__getattribute__"=some (some (.builtin "type.__getattribute__"))) (fm:PySem.W.readsIn K Ru (.type "type")=true) {p:Addr} {y:FuncData} (xW:PySem.W.findCls K (.ref Ru) (.type "type") "__init__"=some (.val (.ref p))) (Za:FnOk P w K mg base CX0 1 p y paf (Xc K fS fT Ru)) (xV:PySem.W.keepIn K (.ref p)=true) (xY:yX K y paf []) {g:FuncData} (ZT:FnOk P w K mg base CX0 1 fS g pae (aB A)) (xp:yX K g pae []) (q:∀r:Rl,ROk K fS fT Ru (A.cls r)) (F:Fun K "__init__" "Groups.__init__" Zw f fd):FnOk P w K mg base CX0 2 f fd pax (xj (A.cls (.groups .shares .shares)) (α:=Rl×Rl) (λr=>[r.1.ins A,r.2.ins A]) (λr=>(Rl.groups r.1 r.2).shape)):=by
 refine F.ok YO (λvs H Q E h=>?_) (λKq A' outer s H vs Q E hr h=>?_)
 ·obtain ⟨G,d,x,T,us,rfl,_,_,_,m,_⟩:=h;rw [Qw,<-m.len];rfl
 obtain ⟨G,⟨r,t⟩,x,T,us,rfl,O,N,z,m,k⟩:=h;obtain ⟨v,v2,rfl,al⟩:=yP m;have S:Sta H G H [] _:=Sta.enter O al;dsimp only at k S;have nd0:=YO.nd;walk_at "=eETUab0amaua3b14a3b24cc";left;refine iZ S ‹_› (q r) ?_;refine Vp S ‹_› λY H1 e1 u=>?_;left;refine iZ u ‹_› (q t) ?_;refine Vp u ‹_› λX H2 Z S2=>?_;left;refine YR (d:=(Rl.groups r t).shape) (by assumption) N z (q (.groups .shares .shares)) ‹_› λH' U w M L J I D C=>?_;exact k H' U w M L J I D C
abbrev Yx:Stmt:=ZD (top 69) 0
theorem Wi:FnScope pal pal (zk Yx):=xC
theorem nP (Yd:mg "Rule"=some (.ref Ru)) (eY:PySem.W.specialIn K (.ref Ru) "__getattribute__"=some (some (.builtin "type.__getattribute__"))) (fm:PySem.W.readsIn K Ru (.type "type")=true) {p:Addr} {z:FuncData} (xW:PySem.W.findCls K (.ref Ru) (.type "type") "__init__"=some (.val (.ref p))) (Za:FnOk P w K mg base CX0 1 p z paf (Xc K fS fT Ru)) (xV:PySem.W.keepIn K (.ref p)=true) (xY:yX K z paf []) {g:FuncData} (ZT:FnOk P w K mg base CX0 1 fS g pae (aB A)) (xp:yX K g pae []) (q:∀r:Rl,ROk K fS fT Ru (A.cls r)) (F:Fun K "__init__" "Upto.__init__" Yx f fd):FnOk P w K mg base CX0 2 f fd pal (xj (A.cls (.upto 0 0 .shares .shares)) (α:=(Int×Int)×Rl×Rl) (λr=>[.tuple [.int r.1.1, .int r.1.2],r.2.1.ins A,r.2.2.ins A]) (λr=>(Rl.upto r.1.1 r.1.2 r.2.1 r.2.2).shape)):=by
 refine F.ok Wi (λvs H Q E h=>?_) (λKq A' outer s H vs Q E hr h=>?_)
 ·obtain ⟨G,d,x,U,us,rfl,_,_,_,m,_⟩:=h;rw [Qw,<-m.len];rfl
 obtain ⟨G,⟨⟨t,b⟩,r,u⟩,x,U,us,rfl,T,O,C,m,k⟩:=h;obtain ⟨v0,v,v2,rfl,al⟩:=YW m;have S:Sta H G H [] _:=Sta.enter T al;dsimp only at k S;have nd0:=Wi.nd;walk_at "=eETUab0amauab1a3b24a3b34cc";left;refine iZ S ‹_› (q r) ?_;refine Vp S ‹_› λZ H1 e1 y=>?_;left;refine iZ y ‹_› (q u) ?_;refine Vp y ‹_› λY H2 e2 S2=>?_;left;refine YR (d:=(Rl.upto t b r u).shape) (by assumption) O C (q (.upto 0 0 .shares .shares)) ‹_› λH' X w N M L J I D=>?_;exact k H' X w N M L J I D
end
abbrev eV:Stmt:=ZD (top 61) 2
theorem Gu:FnScope pae pae (zk eV):=xC
abbrev aM:Stmt:=top 21
theorem pW:FnScope ["number"] ["number"] (zk aM):=xC
theorem qm (B:Bl mg) (F:Fun K "is_whole" "is_whole" aM f fd):FnOk P w K mg base CX0 1 f fd ["number"] pL:=by
 refine F.oo pW λH vs Q E hr nd0 h=>?_;obtain ⟨n,rfl,q⟩:=h;have S:Sta H H H [] []:=Sta.enter (zH.refl _) λp hp=>absurd hp Qx;have g:Is H (.int n) (.int n):=S.hp Has.int;walk_at "=ei)%ab0a[int;c]{%ab0a}bool;c";left;exact q
local macro_rules|`(tactic|walk_at "rd")=>`(tactic|first|fail "&183"|fail)
section
variable {A:RAd}
theorem EA (B:Bl mg) (g:mg "MOST"=some (.int 8 tM)) (F:Fun K "check_claims" "check_claims" ZJ f fd):FnOk P w K mg base CX0 1 f fd pai jT:=by
 refine F.oo Zd λH vs Q E hr nd0 h=>?_;obtain ⟨l,r,ok,k⟩:=h;obtain ⟨v,rfl,al⟩:=YX r;have S:Sta H H H [] [(zo l,v)]:=Sta.enter (zH.refl _) al;have pos:=ok.pos;have few:=ok.few;refine ⟨_,(zK (YI (PW.pt (AR (xr (je (Yf hr)) (yk xh rfl B.len XF (zh (pv 0) zA)) Yb (Zn _)) (sk (xr op_gt (yk xh rfl B.len XF (zh (pv 0) zA)) (WQ (v:= .int 8) rfl g ⟨_,rfl⟩) (Zn _))))) (zJ UK) yQ) (zJ (cg PassesOwn.never rfl (Ul (pv 0)) (Ec 1 Zd.nd) (zJ (YI (xr AY (yk (oC rfl) rfl B.min Cz (zh (pv 1) zA)) Yb (Zn _)) (zJ UK) yQ))))),yY ?_⟩;left;refine Yc (λc=>absurd c (by rw [Qa];omega)) (λ_=>?_);left;refine Yc (λc=>absurd c (by rw [Qa];omega)) (λ_=>?_);left;refine yt (xs:=l.map zB) S ‹_› λJ p=>?_;refine Zo p (λi σ cs ds=>(∃x,σ=[some v,x])/\cs=[]/\ds=[(zo l,v)]) S ⟨⟨none,rfl⟩,rfl,rfl⟩ (λi σ cs ds h=>?_) ?_ ?_
 ·obtain ⟨_,rfl,rfl⟩:=h;exact .mem (by right)
 ·rintro i x u σ H2 cs ds hx ⟨⟨x1,rfl⟩,rfl,rfl⟩ S2
  obtain ⟨c,q,rfl⟩:=ya hx;have nn:=ok.nn c (Qb q);left;refine AB (ns:=[c.1,c.2.1,c.2.2]) S2 ‹_› (Nat.zero_lt_succ _) λm hm _=>?_
  have m0:¬m<0:=by
   simp only [Qk,Qx,or_false] at hm
   rcases hm with rfl|rfl|rfl<;>omega
  left;refine Yc (λc=>absurd c m0) (λ_=>?_);left;exact Xs (S2.dat (by walk_at "dats")) ⟨⟨_,rfl⟩,rfl,rfl⟩
 ·rintro σ H2 cs ds ⟨⟨x1,rfl⟩,rfl,rfl⟩ S2
  exact k _ S2.base
abbrev Xd:Stmt:=top 57
theorem eE:FnScope ["parts"] ["parts"] (zk Xd):=xC
theorem ok_wc (B:Bl mg) (F:Fun K "whole_corner" "whole_corner" Xd f fd):FnOk P w K mg base CX0 1 f fd ["parts"] spWC:=by
 refine F.oo eE λH vs Q E hr nd0 h=>?_;obtain ⟨G,l,s,r,ok,k⟩:=h;obtain ⟨v,rfl,al⟩:=YX r;have S:Sta H G H [] _:=Sta.enter s al;walk_at "=eimama*/ab0cadcaXaCpart;1;yb0v0zmab0adccc";left;rename_i t H1 z g;refine yt (xs:=l.map PyData.int) g ‹_› λJ m=>?_;refine xK m (λj=>frD ((l.getD j 0:Int):Rat)) (ys:=(yx l).2.map frD) (by unfold yx;rw [Qa,QI];exact zF (λx:Int=>frD ((x:Int):Rat)) 0 l) g (λj x v=>λq t1 S hd=>?_) λD I u C=>?_
 ·obtain ⟨y,p,rfl⟩:=ya q;cases S.int1;refine zQ ⟨rfl,?_⟩;left;refine hd (by assumption) ?_;rw [yg p];exact .mem (by right)
 left;exact yW (by assumption) k ‹_›
abbrev eU:Stmt:=top 56
theorem uz:FnScope ["count"] ["count"] (zk eU):=xC
theorem uV (J:Cal P w K mg base CX0 1 "whole_corner" ["parts"] spWC) (F:Fun K "nothing" "nothing" eU f fd):FnOk P w K mg base CX0 2 f fd ["count"] WD:=by
 refine F.oo uz λH vs Q E hr nd0 h=>?_;obtain ⟨G,n,q,m,ok,k⟩:=h;cases (yF (ns:=[(n:Int)]) m);have S:Sta H G H [] []:=Sta.enter q λp hp=>absurd hp Qx;walk_at "=eiraga<radcb0cc";left;rename_i z H1 I t;refine HL t (by right) (by omega) λg u D s=>?_;have r:Sta H G u [] [(.list ((Ww n).map PyData.int), .ref g)]:=s.freeze.weak (by walk_at "sub") (by walk_at "dats");refine HI r ‹_› (by rw [dH];exact ok) λy M C L=>?_;left;exact xM (by assumption) k
abbrev kh:Stmt:=top 50
theorem Ah:FnScope ["claims","amounts"] pai (zk kh):=xC
theorem Bc (B:Bl mg) (XO:Cal P w K mg base CX0 2 "nothing" ["count"] WD) (Xl:Cal P w K mg base CX0 1 "whole_corner" ["parts"] spWC) (F:Fun K "shares" "shares" kh f fd):FnOk P w K mg base CX0 3 f fd pai (bY 0):=by
 refine F.oo Ah λH vs Q E hr nd0 h=>?_;obtain ⟨G,l,I,z,ok,k⟩:=h;obtain ⟨v,rfl,al⟩:=YX z;have S:Sta H G H [] _:=Sta.enter I al;have few:=ok.few;walk_at "=f21claim;1;yb0v0zh0flnso*/ab1cdkeigaBab1ccqeiwgaBab1ccragab1cc";left;refine yt (xs:=l.map zB) S ‹_› λJ s=>?_;refine xK s (λj=> .int (l.getD j (0,0,0)).1) (ys:=(amV l).map PyData.int) (by unfold amV;rw [Qa,QI];exact zF (λc:Cl=>PyData.int c.1) (0,0,0) l) S (λj x v=>λu t1 S hd=>?_) λD H1 e1 r=>?_
 ·obtain ⟨c,y,rfl⟩:=ya u;refine zQ ⟨rfl,?_⟩;left;refine hd (by assumption) ?_;rw [yg y];exact Has.int
 have q:Sta H G H1 [] [(.list ((amV l).map PyData.int), .ref D)]:=r.freeze.weak (by walk_at "sub") (by walk_at "dats");clear r;have g:(amV l).length<=8:=by rw [xD];omega
 dsimp only at k;unfold flV at k;have C:IQ (amV l) (lvV (amV l)) 0=shP (amV l):=rfl;rw [C] at k;generalize amV l=as at*;unfold shP at k;left;refine Yc (λc=>?_) (λc=>?_)
 ·rw [QH c] at k;left;rw [Qa];refine aO q g λt N L p=>?_;exact xM p k
 ·rw [QS c] at k;left;rw [Qa];refine aO q g λt N L p=>?_;left;refine HI p ‹_› g λO H4 Z S4=>?_;left;rename_i U H5 Y m;refine xU m (m.vwC (by right)) (m.vwC (by right)) (by show 1+1<=1000;decide) λT H6 X M=>?_;exact xM M k
abbrev kr:Stmt:=top 51
theorem mZ:FnScope ["claims","amounts"] pai (zk kr):=xC
theorem Bq (B:Bl mg) (B2:Bl3 mg) (Xl:Cal P w K mg base CX0 1 "whole_corner" ["parts"] spWC) (F:Fun K "evenly" "evenly" kr f fd):FnOk P w K mg base CX0 2 f fd pai (bY 1):=by
 refine F.oo mZ λH vs Q E hr nd0 h=>?_;obtain ⟨G,l,eG,T,ok,k⟩:=h;obtain ⟨v,rfl,al⟩:=YX T;have S:Sta H G H [] _:=Sta.enter eG al;have few:=ok.few;refine ⟨_,(zK (CQ 1 mZ.nd (pcf ["claim"] 1 [] (Ul (pv 0)) (pg_c 0) kK (pix 0))) (zJ (ZR (Ee (N:=["level","amounts"]) (n:=1) (fr:=[1]) (y:="level") rfl ⟨rfl,by decide+kernel,rfl,by decide,rfl,rfl,λ_ _=>rfl,λ_=>rfl,rfl,rfl,rfl,rfl⟩ (Ul (Ed rfl rfl B2.sorted rfl B2.set (Ia kN (jd (zh Yb zA)) (pv 1)))) (λ_ _ _ _=>(qg (i:=0) (show (["level","amounts"]:List Str).Nodup from by decide+kernel) rfl (by walk_at "o"))) (λ_ _ _ _=>kK) (λ_ _ _ _=>(pcl Xl hr (zh (pcf ["amount","level"] 1 [0] (Ul (pv 1)) (pg_c 0) kK (yk (Cw rfl) rfl B.min Cz (zh (pv 0) (zh (pv 1) zA)))) zA))))))),yY ?_⟩;left;refine yt (xs:=l.map zB) S ‹_› λJ I=>?_;refine xK I (λj=> .int (l.getD j (0,0,0)).1) (ys:=(amV l).map PyData.int) (by unfold amV;rw [Qa,QI];exact zF (λc:Cl=>PyData.int c.1) (0,0,0) l) S (λj x v=>λm t1 S hd=>?_) λD H1 e1 t=>?_
 ·obtain ⟨c,O,rfl⟩:=ya m;refine zQ ⟨rfl,?_⟩;left;refine hd (by assumption) ?_;rw [yg O];exact Has.int
 have q:Sta H G H1 [] [(.list ((amV l).map PyData.int), .ref D)]:=t.freeze.weak (by walk_at "sub") (by walk_at "dats");clear t;have M:(amV l).length<=8:=by rw [xD];omega
 have L:=ok.lv;have Lf:=L.few;dsimp only at k;unfold flV at k;have Z:IQ (amV l) (lvV (amV l)) 1=evP (amV l) (lvV (amV l)):=rfl;rw [Z] at k;generalize amV l=as at*;left;rename_i p3 H3 e3 p;refine xU p (p.vwC (by right)) (p.vwL ‹_›) (by rw [Qa];show 1+_<=1000;omega) λp4 H4 e4 s=>?_;rw [show [PyData.int 0]++as.map PyData.int=(0::as).map PyData.int from rfl] at s;refine fh s (by right) (by rw [Qw];omega) λos l5 H5 X U e5 r=>?_;cases lvV_eq X U;generalize lvV as=ls at*;refine AH (xs:=ls.map PyData.int) r (by right) λJ2 Mp=>?_;refine Zk Mp (λj=>zG (yx (VG as (ls.getD j 0)))) (ys:=(evP as ls).map zG) (by unfold evP;rw [Qa,QI];exact zF (λz:Int=>zG (yx (VG as z))) 0 ls) r (λ_ _=>Qf _ (by right)) (by rw [Qa];omega) (λj x v B' G' Kd Kn m t1 S hd C ex s0 H0=>?_) λD6 H6 e6 S6=>?_
 ·obtain ⟨z,hz,rfl⟩:=ya m;cases S.int1;refine zQ ⟨rfl,?_⟩;left;refine yt (xs:=as.map PyData.int) S ‹_› λJ3 g=>?_;refine Zk g (λi=> .int (min (as.getD i 0) z)) (ys:=(VG as z).map PyData.int) (by unfold VG;rw [Qa,QI];exact zF (λa:Int=>PyData.int (min a z)) 0 as) S (λ_ _=> .mem (by right)) (by rw [Qa];omega) (λi x u B3 G3 Kd2 Kn2 Nw t2 q hd2 C2 Y s2 H2=>?_) λD7 H7 e7 S7=>?_
  ·obtain ⟨a,ha,rfl⟩:=ya Nw;cases q.int1;refine zQ ⟨rfl,?_⟩;left;refine hd2 q ?_;rw [yg ha];exact Has.int
  left;refine HI S7.freeze ‹_› (by unfold VG;rw [Qa];exact M) λw8 H8 e8 S8=>?_;refine hd S8 ?_;rw [yg hz];exact .mem (by right)
 exact xM S6 k
abbrev ko:Stmt:=top 52
theorem Al:FnScope pai pai (zk ko):=xC
theorem Bn (y:Cal P w K mg base CX0 2 "evenly" pai (bY 1)) (z:Cal P w K mg base CX0 5 "turned" ["path"] cX) (F:Fun K "losses" "losses" ko f fd):FnOk P w K mg base CX0 6 f fd pai (bY 2):=by
 refine F.oo Al λH vs Q E hr nd0 h=>?_;obtain ⟨G,l,p,m,ok,k⟩:=h;obtain ⟨v,rfl,al⟩:=YX m;have S:Sta H G H [] _:=Sta.enter p al;walk_at "=eigagab0cc";left;refine aQ S ‹_› ok λs H1 u q=>?_;left;refine nj (a:=flV 1 l) q.freeze ‹_› (ok.lv.inE ok.am) λr C t g=>?_;rw [show xq (flV 1 l)=flV 2 l from dM ok.lv] at g;exact xM g k
abbrev Ap:Stmt:=top 55
theorem HE:FnScope paA paA (zk Ap):=xC
theorem Ij (VF:Cal P w K mg base CX0 5 "behind" paM Uw) (I:Cal P w K mg base CX0 4 "scaled" paT jI) (Z:Cal P w K mg base CX0 3 "minus" pab aD) (F:Fun K "upto" "upto" Ap f fd):FnOk P w K mg base CX0 6 f fd paA wQ:=by
 refine F.oo HE λH vs Q E hr nd0 h=>?_;obtain ⟨G,⟨p,a,b⟩,s,r,ok,k⟩:=h;obtain ⟨v0,v1,v2,rfl,al⟩:=YW r;have S:Sta H G H [] _:=Sta.enter s al;dsimp only at ok k S;have g:=ok.sz;have one:SzQ 1 (1:Rat):=by unfold SzQ Sz;decide+kernel
 obtain ⟨m,pm⟩:=ok.m;walk_at "=eigagab1ab0cagab2agamadadcab0ccc";left;refine nq (a:=a) (p:=p) S ‹_› ‹_› ok.pa (g.mono (by decide)) λN H1 Y C=>?_;have S2:=C.freeze;left;rename_i M H3 X z;refine qd (p:=(1:Rat)) (q:=p) z ‹_› ‹_› one g (by decide) True.intro λD H4 U y=>?_;left;refine nq (a:=b) (p:=1 - p) y ‹_› ‹_› ok.pb ((one.sub g).mono (by decide)) λL H5 T u=>?_;left;refine nF (a:=zP p a) (b:=zP (1 - p) b) u.freeze ‹_› ‹_› ok.sa ok.sb pm λJ H6 O t=>?_;exact xM t k
abbrev ku:Stmt:=top 49
theorem eN:FnScope ["shape","claims","word"] paq (zk ku):=xC
end
abbrev km:Stmt:=top 47
theorem Ak:FnScope ["ones","twos","numbers","one","two"] pak (zk km):=xC
theorem Bk (B:Bl mg) (Wh:Cal P w K mg base CX0 1 "before" pab Ux) (F:Fun K "merged" "merged" km f fd):FnOk P w K mg base CX0 2 f fd pak jP:=by
 refine F.oo Ak λH vs Q E hr nd0 h=>?_;obtain ⟨G,⟨p,q⟩,eG,hA,⟨⟨n,z1,z2,hn⟩,l1,l2⟩,k⟩:=h;obtain ⟨v1,v2,rfl,al⟩:=yP hA;have S:Sta H G H [] [(.list (p.map frD),v1),(.list (q.map frD),v2)]:=Sta.enter eG al;dsimp only at z1 z2 l1 l2 k;have RY:n+n<=100000000:=by omega
 walk_at "=fj2rcfj3dfj4df5SVWb3Bab0ckYWb4Bab1ckel+gapb0b3apb1b4cfEZb2apb0b3ce!3dflnsopb0b3pb1b4ke!3dqfEZb2apb1b4ce!4deiwwb2Ib0Hb3KIb1Hb4K";left;rename_i pn H1 e1 S1;refine mE (λm σ cs ds=>∃(i j:Nat) (ns:List Rat),σ=[some v1,some v2,some (.ref pn),some (.int (i:Nat)),some (.int (j:Nat))]/\cs=[(pn,ns.map frD)]/\ds=[(.list (p.map frD),v1),(.list (q.map frD),v2)]/\i<=p.length/\j<=q.length/\ns.length<=i+j/\ns++yA (p.drop i) (q.drop j)=yA p q/\m=(p.length - i)+(q.length - j)) ((p.length - 0)+(q.length - 0)) S1 ⟨0,0,[],rfl,rfl,rfl,jai _,jai _,jai _,rfl,rfl⟩ ?_
 rintro m σ H2 cs ds ⟨i,j,ns,rfl,rfl,rfl,hi,hj,LP,Lo,rfl⟩ S2
 have cd:∀(l:List Rat) (t:Nat),t<=l.length->gP (l.map frD) (some ((t:Nat):Int)) none=(l.drop t).map frD:=by
  intro l t ht;unfold gP;rw [HT.sIx_none,HT.sIx_nat,Qa,Nat.min_eq_left ht,QQ (by rw [QZ,Qa];exact Qq _),<-List.map_drop]
 left;refine Yc (λM=>?_) (λM=>?_)
 ·rw [Qa] at M;left;refine uC (λL=>?_) (λL=>?_)
  ·rw [Qa,decide_eq_true_eq] at L;have A:i<p.length:=by omega
   have z:j<q.length:=by omega
   have gi:=Qe A;have gj:=Qe z;have X:=List.drop_eq_getElem_cons A;have U:=List.drop_eq_getElem_cons z;have zi:=z1 _ (Tu A);have Z:=z2 _ (Tu z);generalize p[i]=x at*;generalize q[j]=y at*;have D:atI (p.map frD) ((i:Nat):Int)=some (frD x):=yJ (by rw [Qi,gi];rfl);have C:atI (q.map frD) ((j:Nat):Int)=some (frD y):=yJ (by rw [Qi,gj];rfl);rw [X,U,yA] at Lo;left;refine yS (xs:=p.map frD) (x:=frD x) S2 ‹_› D λw3 s=>?_;left;refine yS (xs:=q.map frD) (x:=frD y) s ‹_› C λw4 u=>?_;left;refine fi u ‹_› ‹_› zi Z RY ?_;left;refine Yc (λJ=>?_) (λJ=>?_)
   ·rw [QH J] at Lo;left;refine yS (xs:=p.map frD) (x:=frD x) u ‹_› D λw5 g=>?_;left;refine xw (y:=frD x) g ‹_› (by rw [Qa];omega) λY r=>?_;left;refine ⟨_,?_,_,_,r.dat (by walk_at "dats"),i+1,j,ns++[x],rfl,by rw [QF];rfl,rfl,A,hj,by rw [Qr,Tx];omega,?_,rfl⟩
    ·omega
    ·rw [<-Lo,U,TV];rfl
   ·rw [QS J] at Lo;left;refine yS (xs:=p.map frD) (x:=frD x) u ‹_› D λw5 g=>?_;left;refine yS (xs:=q.map frD) (x:=frD y) g ‹_› C λw6 r=>?_;refine rd_eqD (x:=frD x) (y:=frD y) (r.hp ‹_›) (r.hp ‹_›) (iR _) (iR _) ?_;rw [IU];left;refine Yc (λI=>?_) (λI=>?_)
    ·rw [QH I] at Lo;left;refine yS (xs:=q.map frD) (x:=frD y) r ‹_› C λw7 O=>?_;left;refine xw (y:=frD y) O ‹_› (by rw [Qa];omega) λH8 N=>?_;left;refine ⟨_,?_,_,_,N.dat (by walk_at "dats"),i+1,j+1,ns++[y],rfl,by rw [QF];rfl,rfl,A,z,by rw [Qr,Tx];omega,?_,rfl⟩
     ·omega
     ·rw [<-Lo,TV];rfl
    ·rw [QS I] at Lo;left;refine yS (xs:=q.map frD) (x:=frD y) r ‹_› C λw7 O=>?_;left;refine xw (y:=frD y) O ‹_› (by rw [Qa];omega) λH8 N=>?_;left;refine ⟨_,?_,_,_,N.dat (by walk_at "dats"),i,j+1,ns++[y],rfl,by rw [QF];rfl,rfl,hi,z,by rw [Qr,Tx];omega,?_,rfl⟩
     ·omega
     ·rw [<-Lo,X,TV];rfl
  ·rw [Qa,decide_eq_false_iff_not] at L;have T:p.length<=i\/q.length<=j:= .inr (by omega);left;refine fe (xs:=p.map frD) S2 ‹_› λl3 H3 e3 s=>?_;rw [cd p i hi] at s;refine xU s (s.vwC (by right)) (s.vwC (by right)) (by rw [Qa,Qa,QZ];omega) λp4 H4 e4 u=>?_;left;refine fe (xs:=q.map frD) u ‹_› λl5 H5 e5 g=>?_;rw [cd q j hj] at g;refine xU g (g.vwC (by right)) (g.vwC (by right)) (by rw [Qr,Qa,Qa,Qa,QZ,QZ];omega) λp6 Y e6 r=>?_;refine Gw ?_
   have em:(ns.map frD++(p.drop i).map frD)++(q.drop j).map frD=(yA p q).map frD:=by
    rw [<-Lo,QF,TV]
    congr 1
    rcases T with h|h
    ·rw [jbl h,yA];simp
    ·rw [jbl h,fH];simp
   rw [em] at r;exact xM (r.weak (cs':=[_]) (by walk_at "sub") Dats.nil) k
 ·rw [Qa] at M;have T:p.length<=i\/q.length<=j:= .inl (by omega);refine uC (λh=>by cases h) (λ_=>?_);left;refine fe (xs:=p.map frD) S2 ‹_› λl3 H3 e3 s=>?_;rw [cd p i hi] at s;refine xU s (s.vwC (by right)) (s.vwC (by right)) (by rw [Qa,Qa,QZ];omega) λp4 H4 e4 u=>?_;left;refine fe (xs:=q.map frD) u ‹_› λl5 H5 e5 g=>?_;rw [cd q j hj] at g;refine xU g (g.vwC (by right)) (g.vwC (by right)) (by rw [Qr,Qa,Qa,Qa,QZ,QZ];omega) λp6 Y e6 r=>?_;refine Gw ?_
  have em:(ns.map frD++(p.drop i).map frD)++(q.drop j).map frD=(yA p q).map frD:=by
   rw [<-Lo,QF,TV]
   congr 1
   rcases T with h|h
   ·rw [jbl h,yA];simp
   ·rw [jbl h,fH];simp
  rw [em] at r;exact xM (r.weak (cs':=[_]) (by walk_at "sub") Dats.nil) k
abbrev Zq:Stmt:=top 45
theorem UB:FnScope ["path","place","levels","amounts","purses","level","reached","portion"] paP (zk Zq):=xC
theorem En (B:Bl mg) (iM:Cal P w K mg base CX0 2 "last_reached" paO rR) (bS:Cal P w K mg base CX0 4 "portion_reached" paw Uu) (rJ:Cal P w K mg base CX0 4 "amount_at" pau cZ) (F:Fun K "purses_reaching" "purses_reaching" Zq f fd):FnOk P w K mg base CX0 5 f fd paP pO:=by
 refine F.oo UB λH vs Q E hr nd0 h=>?_;obtain ⟨G,⟨a,g,L⟩,eG,hA,⟨m,n,b,ok⟩,k⟩:=h;obtain ⟨v1,v2,I,rfl,al⟩:=YW hA;have S:Sta H G H [] [(yy a,v1),(.int (g:Nat),v2),(.list (L.map frD),I)]:=Sta.enter eG al;dsimp only at ok k;cases (S.hp (x:= .int (g:Nat)) (v:=v2) ‹_›).int_of;have la:0<a.length:=jaT.mpr ok.pr.ne;have fa:=ok.pr.few;have fl:=ok.few;have hz:=ok.sz;walk_at "=f23corner,place;11;yb0v0zph0b1fj4rcfJyb2F5fj6gab3ab5celWb6LBab0cdkfj7gapb3b6apb3wb6dab5ceEZb4agappb0b6dappb0wb6ddab7ccqeib4";left;refine yt (xs:=a.map zG) S ‹_› λJ X=>?_;refine xK X (λj=>frD ((λc:zg=>c.2.getD g 0) (a.getD j (0,[])))) (ys:=(a.map λc=>c.2.getD g 0).map frD) (by rw [Qa,QI];exact zF (λc:zg=>frD (c.2.getD g 0)) (0,[]) a) S (λj x v=>λY t1 S hd=>?_) λD H1 e1 S1=>?_
 ·obtain ⟨c,p,rfl⟩:=ya Y;have gc:=getD_some (l:=c.2) (k:=g) (by rw [ok.pm.t.len c (Qb p)];exact ok.kn);refine zQ ⟨rfl,?_⟩;left;rename_i w2 S2;refine ja (xs:=c.2.map frD) (x:=frD (c.2.getD g 0)) S2 ‹_› (yJ (by rw [Qi,gc];rfl)) λw3 S3=>?_;refine hd S3 ?_;rw [yg p];exact .mem (by right)
 have S2:=S1.freeze;clear S1;left;rename_i pp H3 e3 S3;have S4:Sta H G H3 [(pp,[])] [(.list ((a.map λc=>c.2.getD g 0).map frD), .ref D),(yy a,v1),(.list (L.map frD),I)]:=S3.dat (by walk_at "dats");refine yt (xs:=L.map frD) S4 ‹_› λJ X=>?_;refine Zo X (λi σ cs ds=>∃(U T O:Option V),σ=[some v1,some (.int (g:Nat)),some I,some (.ref D),some (.ref pp),U,T,O]/\cs=[(pp,((L.take i).filterMap (yZ a g)).map frD)]/\ds=[(.list ((a.map λc=>c.2.getD g 0).map frD), .ref D),(yy a,v1),(.list (L.map frD),I)]) S4 ⟨none,none,none,rfl,rfl,rfl⟩ (λi σ cs ds h=>?_) ?_ ?_
 ·obtain ⟨_,_,_,_,_,rfl⟩:=h;exact .mem (by right)
 ·rintro i x u σ H5 cs ds Y ⟨U,T,O,rfl,rfl,rfl⟩ S5
  obtain ⟨l,hl,rfl⟩:=ya Y;obtain ⟨N,l0⟩:=ok.lev l (Qb hl);have Pa:i<L.length:=(Qg.mp hl).1;have M:∀c∈a,SzQ n (c.2.getD g 0):=λc p=>(ok.pr.sz c p).2 _ (Qb (getD_some (l:=c.2) (k:=g) (by rw [ok.pm.t.len c p];exact ok.kn)))
  have s:∀o:Option Rat,yZ a g l=o->((L.take (i+1)).filterMap (yZ a g)).map frD=((L.take i).filterMap (yZ a g)).map frD++(o.toList.map frD):=λo ho=>by
   rw [TX,hl,List.filterMap_append,QF]
   congr 1
   cases o with
   |none=>simp [ho]
   |some y=>simp [ho]
  left;refine AE (qs:=a.map λc=>c.2.getD g 0) (e:=l) (n:=9000) S5 (S5.hp ‹_›) (S5.hp ‹_›) ⟨by rw [Qa];exact la,by rw [Qa];omega,λq Z=>?_,N.mono (by omega),by decide,λq Z=>?_⟩ λr q hi ME OY=>?_
  ·obtain ⟨c,p,rfl⟩:=Qj.mp Z;exact (M c p).mono (by omega)
  ·obtain ⟨c,p,rfl⟩:=ya Z;exact l0 c p
  obtain ⟨c,p,rfl⟩:=ya hi;have C:r<a.length:=(Qg.mp p).1;rw [Qa] at OY;left;refine Yc (λc1=>?_) (λc1=>?_)
  ·rw [Qa] at c1
   obtain ⟨y,hy,Rt⟩:∃y,(a.map λc=>c.2.getD g 0)[r+1]? =some y/\l<y:=by
    rcases OY with h|h
    ·omega
    ·exact h
   obtain ⟨d,hd,rfl⟩:=ya hy
   have key:yZ a g l=some (Xo ((l - c.2.getD g 0) / (d.2.getD g 0 - c.2.getD g 0)) c.1 d.1):=by
    have pm:=ok.pm;have A:=ok.kn
    obtain ⟨c0,r0,e0⟩:∃c r,a=c::r:=by
     cases a with
     |nil=>simp at C
     |cons c r=>exact ⟨c,r,rfl⟩
    rw [e0] at pm p hd⊢;exact ni A pm p hd ME Rt
   have zc:=M c (Qb p);have zd:=M d (Qb hd);have z1:=(ok.pr.sz c (Qb p)).1;have z2:=(ok.pr.sz d (Qb hd)).1;have er:((r:Nat):Int)+1=((r+1:Nat):Int):=by omega
   have Li:d.2.getD g 0≠c.2.getD g 0:=λz=>by rw [z] at Rt;exact jbh.mpr Rt ME
   have zt:=SzQ.port N zc zd;have st:=s _ key;left;refine yS (xs:=(a.map λc=>c.2.getD g 0).map frD) (x:=frD (c.2.getD g 0)) S5 ‹_› (yJ (by rw [Qi,hi];rfl)) λw6 S6=>?_;left;refine yS (xs:=(a.map λc=>c.2.getD g 0).map frD) (x:=frD (d.2.getD g 0)) S6 ‹_› (by rw [er];exact yJ (by rw [Qi,hy];rfl)) λw7 S7=>?_;left;generalize c.2.getD g 0=x0 at*;generalize d.2.getD g 0=y0 at*;refine iX S7 ‹_› ‹_› ‹_› zc zd N (by omega) Li λr8 H8 e8 S8=>?_;generalize (l - x0) / (y0 - x0)=t at*;left;refine yS (xs:=a.map zG) (x:=zG c) S8 ‹_› (yJ (by rw [Qi,p];rfl)) λw9 S9=>?_;left;rename_i NK KZ;refine yS (xs:=a.map zG) (x:=zG d) KZ ‹_› (by rw [er];exact yJ (by rw [Qi,hd];rfl)) λOJ Ln=>?_;left;rename_i LW LC;refine nG LC ‹_› ‹_› ‹_› z1 z2 zt (by omega) λr13 H13 e13 LU=>?_;left;refine xw (y:=frD (Xo t c.1 d.1)) LU ‹_› ?_ λSs Mj=>?_
   ·rw [Qa];have:=jbg (yZ a g) (L.take i);rw [Tr] at this;omega
   left;exact Xs (Mj.dat (by walk_at "dats")) ⟨_,_,_,rfl,by rw [st];rfl,rfl⟩
  ·rw [Qa] at c1;have SY:r+1=a.length:=by omega
   have key:yZ a g l=none:=by
    have pm:=ok.pm;have A:=ok.kn
    obtain ⟨c0,r0,e0⟩:∃c r,a=c::r:=by
     cases a with
     |nil=>simp at C
     |cons c r=>exact ⟨c,r,rfl⟩
    rw [e0] at pm p SY⊢;refine iW A pm λl' Lx=>?_;rw [jaF,<-SY,Nat.add_sub_cancel,p] at Lx;cases Lx;exact ME
   have st:=s _ key;left;exact Xs (S5.dat (by walk_at "dats")) ⟨_,_,_,rfl,by rw [st];simp,rfl⟩
 ·rintro σ H5 cs ds ⟨U,T,O,rfl,rfl,rfl⟩ S5
  rw [Qa,List.take_length] at S5;left;exact xM S5 k
abbrev Xf:Stmt:=top 46
theorem eI:FnScope ["path","others","purse","parts","part","other"] paQ (zk Xf):=xC
theorem uR (B:Bl mg) (XN:Cal P w K mg base CX0 6 "parts_at" paC WC) (F:Fun K "parts_within" "parts_within" Xf f fd):FnOk P w K mg base CX0 7 f fd paQ aC:=by
 refine F.oo eI λH vs Q E hr nd0 h=>?_;obtain ⟨G,⟨a,Qs,e⟩,T,M,ok,k⟩:=h;obtain ⟨v1,v2,y,rfl,al⟩:=YW M;have S:Sta H G H [] [(yy a,v1),(.list (Qs.map yy),v2),(frD e,y)]:=Sta.enter T al;dsimp only at ok k;unfold xi at k;have few:=ok.few;have len:=ok.len;have part:=ok.part;walk_at "=fj3rcfJ&agab0ab2cab1cNDF4DF5OeEαb3agab5ab4cceiXab3c";left;rename_i pp H1 e1 S1;refine aN (a:=a) (e:=e) (m:=700) (n:=700) S1 ‹_› ‹_› ok.p ok.ez (by decide) ok.e0 λA H2 e2 Z=>?_;left;generalize zm a e=ps at*;have C:Sta H G H2 [(pp,[])] [(yu ps,A),(.list (Qs.map yy),v2)]:=Z.dat (by walk_at "dats");refine se (xs:=ps.map frD) (ys:=Qs.map yy) C ‹_› ‹_› λJ D=>?_;refine Zo D (λi σ cs ds=>∃(s r:Option V),σ=[some v1,some v2,some y,some (.ref pp),s,r]/\cs=[(pp,(((List.zipWith zm Qs ps).take i).flatten).map frD)]/\ds=[(yu ps,A),(.list (Qs.map yy),v2)]) C ⟨none,none,rfl,rfl,rfl⟩ (λi σ cs ds h=>?_) ?_ ?_
 ·obtain ⟨_,_,_,_,rfl⟩:=h;exact ⟨.mem (by right),λ_ _ h=>h.tail, .mem (by right)⟩
 ·rintro i z u σ H4 cs ds hz ⟨s,r,rfl,rfl,rfl⟩ S4
  obtain ⟨z1,z2,O,N,rfl⟩:=VW hz;obtain ⟨p,hp,rfl⟩:=ya O;obtain ⟨t,g,rfl⟩:=ya N;have op:=part p (Qb hp);obtain ⟨I,ql⟩:=ok.q t (Qb g);refine YB (YA S4 ‹_› λw4 w5 Y=>?_);left;refine aN (a:=t) (e:=p) (m:=700) (n:=700) Y ‹_› ‹_› I op.1 (by decide) op.2 λr6 H6 e6 X=>?_;left;refine uH (ys:=(zm t p).map frD) X ‹_› ?_ λH7 U=>?_
  ·rw [Qa,Qa];have l1:=Ci (ps:=ps) i λQ g c L=>(ok.q Q g).2 c L;have l2:=fv (e:=p) ql;omega
  left;refine Xs (U.dat (by walk_at "dats")) ⟨_,_,rfl,?_,rfl⟩;rw [TX,QP,g,hp]
  simp
 ·rintro σ H4 cs ds ⟨s,r,rfl,rfl,rfl⟩ S4
  rw [Zc,Qa,Qa,QQ (by rw [QO];omega)] at S4;left;exact yW (by assumption) k ‹_›
abbrev jZ:Stmt:=top 36
theorem Ae:FnScope ["path","others","purses","place","other"] paV (zk jZ):=xC
theorem AZ (B:Bl mg) (ui:Cal P w K mg base CX0 2 "merged" pak jP) (vY:Cal P w K mg base CX0 5 "purses_reaching" paP pO) (Dk:Cal P w K mg base CX0 7 "parts_within" paQ aC) (F:Fun K "within" "within" jZ f fd):FnOk P w K mg base CX0 8 f fd paV Us:=by
 refine F.oo Ae λH vs Q E hr nd0 h=>?_;obtain ⟨G,⟨a,Qs⟩,eG,Z,ok,k⟩:=h;obtain ⟨v1,v2,rfl,al⟩:=yP Z;have S:Sta H G H [] [(yy a,v1),(.list (Qs.map yy),v2)]:=Sta.enter eG al;dsimp only at ok k;have pl:=ok.pl;have few:=ok.few;walk_at "=f22corner;1;yb0v0zh0fJ-ab1cNDF3DF4Oej2gab2agab0ab3aCcorner;1;yb4v0zh0cceiCpurse,path,others;101;yb2v0zmab0agab1ab2ab0cc";left;refine yt (xs:=a.map zG) S ‹_› λJ z=>?_;refine xK z (λj=>frD ((λc:zg=>c.1) (a.getD j (0,[])))) (ys:=(yf a).map frD) (by unfold yf;rw [Qa,QI];exact zF (λc:zg=>frD c.1) (0,[]) a) S (λj x v=>λm t1 S hd=>?_) λD H1 e1 X=>?_
 ·obtain ⟨c,I,rfl⟩:=ya m;refine zQ ⟨rfl,?_⟩;left;refine hd (by assumption) ?_;rw [yg I];exact .mem (by right)
 have U:=X.freeze;clear X;left;refine kG (xs:=Qs.map yy) U ‹_› λJ z=>?_;refine Zo z (λi σ cs ds=>∃(pp:Addr) (y t:Option V),σ=[some v1,some v2,some (.ref pp),y,t]/\cs=[]/\ds=[(.list ((wpF a 0 (Qs.take i) (yf a)).map frD), .ref pp),(yy a,v1),(.list (Qs.map yy),v2)]) U ⟨D,none,none,rfl,rfl,rfl⟩ (λi σ cs ds h=>?_) ?_ ?_
 ·obtain ⟨_,_,_,_,_,rfl⟩:=h;exact .mem (by right)
 ·rintro i x u σ H3 cs ds m ⟨pp,y,t,rfl,rfl,rfl⟩ S3
  obtain ⟨x0,KS,rfl⟩:=Vx m;obtain ⟨g,r,rfl⟩:=ya KS;have Pa:i<Qs.length:=(Qg.mp r).1;have ql:=ok.ql g (Qb r);refine YB (YA S3 ‹_› λw3 w4 M=>?_);cases M.int1;left;refine yt (xs:=g.map zG) M ‹_› λJ2 N=>?_;refine xK N (λj=>frD ((λc:zg=>c.1) (g.getD j (0,[])))) (ys:=(yf g).map frD) (by unfold yf;rw [Qa,QI];exact zF (λc:zg=>frD c.1) (0,[]) g) M (λj x v=>λm t1 S hd=>?_) λD5 H5 e5 s=>?_
  ·obtain ⟨c,I,rfl⟩:=ya m;refine zQ ⟨rfl,?_⟩;left;refine hd (by assumption) ?_;rw [yg I];exact .mem (by right)
  have T:=s.freeze;clear s;left;refine DT (P:=a) (k:=i) (L:=yf g) T ‹_› ‹_› (ok.reach r) λY H7 e7 O=>?_;have S8:Sta H G H7 [] [(.list ((Yz a i g).map frD), .ref Y),(.list ((wpF a 0 (Qs.take i) (yf a)).map frD), .ref pp),(yy a,v1),(.list (Qs.map yy),v2)]:=O.freeze.dat (by walk_at "dats");clear O;left;refine AD (p:=wpF a 0 (Qs.take i) (yf a)) (q:=Yz a i g) (n:=700) S8 ‹_› ‹_› (λq A=>(ok.szM _ (Dv A)).1) (λq A=>(ok.szM _ (aX.mpr (.inr ⟨i,g,r,by rw [jbE];exact A⟩))).1) (by decide) (by have:=ok.len i;omega) ?_ λpm H9 e9 S9=>?_
  ·unfold Yz;have:=jbg (yZ a i) (yf g);have e:(yf g).length=g.length:=by unfold yf;rw [Qa]
   omega
  left;have et:Qs.take (i+1)=Qs.take i++[g]:=by rw [TX,r];rfl
  have ew:wpF a 0 (Qs.take (i+1)) (yf a)=yA (wpF a 0 (Qs.take i) (yf a)) (Yz a i g):=by
   rw [et,rL,jbE,Tr,Nat.min_eq_left (by omega)]
  refine Xs (S9.freeze.dat (ds':=[(.list ((yA (wpF a 0 (Qs.take i) (yf a)) (Yz a i g)).map frD), .ref pm),(yy a,v1),(.list (Qs.map yy),v2)]) (by walk_at "dats")) ⟨pm,_,_,rfl,rfl,by rw [ew]⟩
 ·rintro σ H3 cs ds ⟨pp,y,t,rfl,rfl,rfl⟩ S3
  rw [xQ,Qa,List.take_length] at S3;left;refine yt (xs:=(wpV a Qs).map frD) S3 ‹_› λJ2 N=>?_;refine Zk N (λj=>zG ((λe:Rat=>(e,xi Qs (zm a e))) ((wpV a Qs).getD j 0))) (ys:=(yK a Qs).map zG) (by unfold yK;rw [Qa,QI];exact zF (λe:Rat=>zG (e,xi Qs (zm a e))) 0 (wpV a Qs)) S3 (λ_ _=> .mem (by right)) (by rw [Qa];have:=ok.lenV;omega) (λj x v B' G' Kd Kn m t1 S hd C ex s0 H0=>?_) λD5 H5 e5 s=>?_
  ·obtain ⟨e,he,rfl⟩:=ya m;refine zQ ⟨rfl,?_⟩;left;refine qe (P:=a) (Qs:=Qs) (e:=e) S ‹_› ‹_› ‹_› (ok.pw (Qb he)) λr6 H6 e6 T=>?_;left;refine hd (by assumption) ?_;rw [yg he];exact .mem (by right)
  left;exact xM s k
abbrev aJ:Stmt:=top 11
theorem pU:FnScope pas pas (zk aJ):=xC
theorem Ei (F:Fun K "those_at" "those_at" aJ f fd):FnOk P w K mg base CX0 1 f fd pas aA:=by
 refine F.oo pU λH vs Q E hr nd0 h=>?_;obtain ⟨G,⟨l,pl⟩,t,s,⟨lt,few⟩,k⟩:=h;obtain ⟨v0,v1,rfl,al⟩:=yP s;have S:Sta H G H [] [(zo l,v0),(plD pl,v1)]:=Sta.enter t al;dsimp only at lt few k;walk_at "=eiCplace,claims;10;yb1v0zpb1b0";left;refine yt (xs:=pl.map λ(i:Nat)=>PyData.int (i:Int)) S ‹_› λJ p=>?_;refine xK p (λj=>zB (l.getD (pl.getD j 0) (0,0,0))) (ys:=(ZS (0,0,0) pl l).map zB) (by unfold ZS;rw [Qa,QI];exact zF (λi:Nat=>zB (l.getD i (0,0,0))) 0 pl) S (λj x v=>λr t1 S hd=>?_) λD H1 A y=>?_
 ·obtain ⟨i,g,rfl⟩:=ya r;cases S.int1;have q:=lt i (Qb g);have m:=Qe q;refine zQ ⟨rfl,?_⟩;left;refine yS (xs:=l.map zB) (x:=zB l[i]) S ‹_› (yJ (by rw [Qi,m];rfl)) λz u=>?_;refine hd u ?_;rw [yg g,yg m];exact .mem (by right)
 exact xM y k
abbrev ZU:Stmt:=top 12
theorem aH:FnScope paN paN (zk ZU):=xC
theorem Bg (B:Bl mg) (F:Fun K "places_of_rank" "places_of_rank" ZU f fd):FnOk P w K mg base CX0 1 f fd paN (XQ yl):=by
 refine F.oo aH λH vs Q E hr nd0 h=>?_;obtain ⟨G,⟨l,g⟩,A,u,few,k⟩:=h;obtain ⟨v0,v1,rfl,al⟩:=yP u;have q:Sta H G H [] [(.int g,v1),(zo l,v0)]:=(Sta.enter A al).dat (by walk_at "dats");cases q.int1;have S:Sta H G H [] [(zo l,v0)]:=q.dat (by walk_at "dats");dsimp only at few k;walk_at "=eiCplace,claim,rank;21;-ab0cNDv0Dv1O=nsoh1b2kb0";left;refine kG (xs:=l.map zB) S ‹_› λJ r=>?_;refine gq r (λj=>if yl g (l.getD j (0,0,0)) then some (.int (j:Int)) else none) S (λ_ _=> .mem (by right)) (by rw [xQ,Qa];omega) (λi x v X U Kd O s t1 S hd hn C ex s0 T=>?_) λD H1 N p=>?_
 ·obtain ⟨x0,I,rfl⟩:=Vx s;obtain ⟨c,t,rfl⟩:=ya I;refine YB (YA S ‹_› λM L m=>?_);cases m.int1;refine xR (zQ (xR (zQ (aP ⟨rfl,?_⟩))));rw [yg t] at hd hn;left;refine Yc (λz=>?_) (λz=>?_)
  ·left;exact hd (QH (Tp z)) m Has.int
  ·exact hn (QS λy=>z (QD y)) m
 rw [xQ,Qa,nI] at p;exact xM p k
abbrev Zs:Stmt:=top 13
theorem UD:FnScope paj paj (zk Zs):=xC
theorem uT (B:Bl mg) (F:Fun K "places_of_group" "places_of_group" Zs f fd):FnOk P w K mg base CX0 1 f fd paj (XQ zL):=by
 refine F.oo UD λH vs Q E hr nd0 h=>?_;obtain ⟨G,⟨l,g⟩,A,u,few,k⟩:=h;obtain ⟨v0,v1,rfl,al⟩:=yP u;have q:Sta H G H [] [(.int g,v1),(zo l,v0)]:=(Sta.enter A al).dat (by walk_at "dats");cases q.int1;have S:Sta H G H [] [(zo l,v0)]:=q.dat (by walk_at "dats");dsimp only at few k;walk_at "=eiCplace,claim,group;21;-ab0cNDv0Dv1O=nsoh1b2kb0";left;refine kG (xs:=l.map zB) S ‹_› λJ r=>?_;refine gq r (λj=>if zL g (l.getD j (0,0,0)) then some (.int (j:Int)) else none) S (λ_ _=> .mem (by right)) (by rw [xQ,Qa];omega) (λi x v X U Kd O s t1 S hd hn C ex s0 T=>?_) λD H1 N p=>?_
 ·obtain ⟨x0,I,rfl⟩:=Vx s;obtain ⟨c,t,rfl⟩:=ya I;refine YB (YA S ‹_› λM L m=>?_);cases m.int1;refine xR (zQ (xR (zQ (aP ⟨rfl,?_⟩))));rw [yg t] at hd hn;left;refine Yc (λz=>?_) (λz=>?_)
  ·left;exact hd (QH (Tp z)) m Has.int
  ·exact hn (QS λy=>z (QD y)) m
 rw [xQ,Qa,nI] at p;exact xM p k
abbrev Xi:Stmt:=top 14
theorem eO:FnScope paj paj (zk Xi):=xC
theorem ok_one (B:Bl mg) (F:Fun K "as_one_claim" "as_one_claim" Xi f fd):FnOk P w K mg base CX0 1 f fd paj DE:=by
 refine F.oo eO λH vs Q E hr nd0 h=>?_;obtain ⟨G,⟨l,g⟩,z,y,⟨pos,few⟩,k⟩:=h;obtain ⟨v0,v1,rfl,al⟩:=yP y;have u:Sta H G H [] [(.int g,v1),(zo l,v0)]:=(Sta.enter z al).dat (by walk_at "dats");cases u.int1;have S:Sta H G H [] [(zo l,v0)]:=u.dat (by walk_at "dats");dsimp only at pos few k;walk_at "=eima*/aCclaim;1;yb0v0zh0caβγaCclaim;1;yb0v0zh0cab1c";left;refine yt (xs:=l.map zB) S ‹_› λJ p=>?_;refine xK p (λj=> .int (l.getD j (0,0,0)).1) (ys:=(amV l).map PyData.int) (by unfold amV;rw [Qa,QI];exact zF (λc:Cl=>PyData.int c.1) (0,0,0) l) S (λj x v=>λq t1 S hd=>?_) λD H1 I t=>?_
 ·obtain ⟨c,r,rfl⟩:=ya q;refine zQ ⟨rfl,?_⟩;left;refine hd (by assumption) ?_;rw [yg r];exact Has.int
 left;have s:Sta H G H1 [] [(zo l,v0)]:=t.dropC;clear t;refine yt (xs:=l.map zB) s ‹_› λJ p=>?_;refine xK p (λj=> .int (l.getD j (0,0,0)).2.1) (ys:=(l.map (·.2.1)).map PyData.int) (by rw [Qa,QI];exact zF (λc:Cl=>PyData.int c.2.1) (0,0,0) l) s (λj x v=>λq t1 S hd=>?_) λM L C A=>?_
 ·obtain ⟨c,r,rfl⟩:=ya q;refine zQ ⟨rfl,?_⟩;left;refine hd (by assumption) ?_;rw [yg r];exact Has.int
 left;refine HM (ns:=l.map (·.2.1)) A (by right) (by rw [Qa];exact pos) λm hm low=>?_;have em:m=vi (l.map (·.2.1)):=Iw hm low;subst em;left;exact yW (by assumption) k ‹_›
abbrev Xe:Stmt:=top 59
theorem eH:FnScope ["parts","places","count","wide","part","place"] paJ (zk Xe):=xC
theorem uP (B:Bl mg) (F:Fun K "spread_parts" "spread_parts" Xe f fd):FnOk P w K mg base CX0 1 f fd paJ dW:=by
 refine F.oo eH λH vs Q E hr nd0 h=>?_;obtain ⟨G,⟨x,pl,n⟩,X,O,ok,k⟩:=h;obtain ⟨v0,v1,v2,rfl,al⟩:=YW O;have D:Sta H G H [] [(.int (n:Int),v2),(yu x,v0),(plD pl,v1)]:=(Sta.enter X al).dat (by walk_at "dats");cases D.int1;have S:Sta H G H [] [(yu x,v0),(plD pl,v1)]:=D.dat (by walk_at "dats");dsimp only at ok k;have few:=ok.few;walk_at "=fj3<ramadadccb2fJ&ab0ab1cNDF4DF5Oe8b49b3b5eiXab3c";left;rename_i q1 H1 e1 S1 q2 H2 e2 C;refine HK (n:=n) C (by right) (by omega) λg H3 e3 r=>?_;left
 have ez:List.replicate n (PyData.tuple [.int 0, .int 1])=(xP ((x.zip pl).take 0) (List.replicate n 0)).map frD:=by
  rw [List.take_zero,xP,jaK];rfl
 rw [ez] at r;have A:Sta H G H3 [(g,(xP ((x.zip pl).take 0) (List.replicate n 0)).map frD)] [(yu x,v0),(plD pl,v1)]:=r.weak (by walk_at "sub") (by walk_at "dats");clear r C S1;refine se (xs:=x.map frD) (ys:=pl.map λ(i:Nat)=>PyData.int (i:Int)) A ‹_› ‹_› λJ I=>?_;refine Zo I (λi σ cs ds=>∃(q m:Option V),σ=[some v0,some v1,some (.int (n:Int)),some (.ref g),q,m]/\cs=[(g,(xP ((x.zip pl).take i) (List.replicate n 0)).map frD)]/\ds=[(yu x,v0),(plD pl,v1)]) A ⟨none,none,rfl,rfl,rfl⟩ (λi σ cs ds h=>?_) ?_ ?_
 ·obtain ⟨_,_,_,_,rfl⟩:=h;exact ⟨.mem (by right),λ_ _ h=>h.tail, .mem (by right)⟩
 ·rintro i z u σ H5 cs ds hz ⟨q,m,rfl,rfl,rfl⟩ S5
  obtain ⟨z1,z2,U,T,rfl⟩:=VW hz;obtain ⟨p,hp,rfl⟩:=ya U;obtain ⟨j,s,rfl⟩:=ya T;have N:=ok.pls.lt j (Qb s);refine YB (YA S5 ‹_› λM L Z=>?_);have t:Sta H G H5 [(g,(xP ((x.zip pl).take i) (List.replicate n 0)).map frD)] [(.int (j:Int),L),(frD p,M),(yu x,v0),(plD pl,v1)]:=Z.dat (by walk_at "dats");cases t.int1;left;refine kB (j:=j) (y:=frD p) t ‹_› (lF (by rw [Qa,aF,QA];exact N)) λH8 Y=>?_;left;refine Xs (Y.dat (by walk_at "dats")) ⟨_,_,rfl,?_,rfl⟩;have PN:(x.zip pl)[i]? =some (p,j):=by rw [QW];exact ⟨hp,s⟩
  rw [TX,PN];show [(g,_)]=[(g,(xP ((x.zip pl).take i++[(p,j)]) (List.replicate n 0)).map frD)];rw [eB,List.map_set]
 ·rintro σ H5 cs ds ⟨q,m,rfl,rfl,rfl⟩ S5
  rw [Zc,Qa,Qa,QQ (by rw [List.length_zip];exact Qq _)] at S5;left;exact yW (by assumption) k ‹_›
abbrev kf:Stmt:=top 58
theorem Ag:FnScope pao pao (zk kf):=xC
theorem Bb (T:Cal P w K mg base CX0 1 "spread_parts" paJ dW) (F:Fun K "spread" "spread" kf f fd):FnOk P w K mg base CX0 2 f fd pao Ut:=by
 refine F.oo Ag λH vs Q E hr nd0 h=>?_;obtain ⟨G,⟨x,pl,n⟩,s,r,⟨ok,few⟩,k⟩:=h;obtain ⟨v0,v1,v2,rfl,al⟩:=YW r;have m:Sta H G H [] [(.int (n:Int),v2),(yy x,v0),(plD pl,v1)]:=(Sta.enter s al).dat (by walk_at "dats");cases m.int1;have S:Sta H G H [] [(yy x,v0),(plD pl,v1)]:=m.dat (by walk_at "dats");dsimp only at ok few k;walk_at "=eiCcorner,places,count;112;yb0v0zmah0agah0ab1ab2cc";left;refine yt (xs:=x.map zG) S ‹_› λJ p=>?_;refine Zk p (λj=>zG (pK pl n (x.getD j (0,[])))) (ys:=(yI pl n x).map zG) (by unfold yI;rw [Qa,QI];exact zF (λc:zg=>zG (pK pl n c)) (0,[]) x) S (λ_ _=> .mem (by right)) (by rw [Qa];omega) (λj u v U O Kd L q t1 S hd C ex s0 N=>?_) λD H1 A t=>?_
 ·obtain ⟨c,g,rfl⟩:=ya q;refine zQ ⟨rfl,?_⟩;left;refine uE (x:=c.2) (pl:=pl) (n:=n) (by assumption) ‹_› ‹_› (ok c (Qb g)) λy M z I=>?_;left;refine hd (by assumption) ?_;rw [yg g];exact .mem (by right)
 exact xM t k
section
variable {A:RAd} {t:Nat}
abbrev kj:Stmt:=top 53
theorem DM:FnScope ["inner","claims","path","rank","places","paid"] paU (zk kj):=xC
theorem Bf {n:Nat} (B:Bl mg) (B2:Bl3 mg) (XO:Cal P w K mg base CX0 2 "nothing" ["count"] WD) (Wv:Cal P w K mg base CX0 1 "places_of_rank" paN (XQ yl)) (Yu:Cal P w K mg base CX0 1 "those_at" pas aA) (ZN:Cal P w K mg base CX0 (2*n+8) "course" paq (Yv t n)) (dE:Cal P w K mg base CX0 2 "spread" pao Ut) (VF:Cal P w K mg base CX0 5 "behind" paM Uw) (F:Fun K "ranks" "ranks" kj f fd):FnOk P w K mg base CX0 (2*n+9) f fd paU (jK t n):=by
 refine F.oo DM λH vs Q E hr nd0 h=>?_;obtain ⟨G,⟨r,l⟩,eG,hA,⟨⟨ru,hd⟩,ok⟩,k⟩:=h;obtain ⟨v0,v1,rfl,al⟩:=yP hA;have S:Sta H G H [] [(r.shape,v0),(zo l,v1)]:=Sta.enter eG al;dsimp only at ru hd ok k;have few:=ok.few;walk_at "=fj2gaBab1ccfJy^Cclaim;1;yb1v0zh0F3fj4gab1ab3cfj5gab0agab1ab4ccej2gab2agab5ab4aBab1ccceib2";left;rw [Qa];refine aO S few λY H1 e1 y=>?_;have ez:[yx (Ww l.length)]=rkP r l 0:=by rw [dI];rfl
 rw [ez] at y;left;refine yt (xs:=l.map zB) y ‹_› λJ L=>?_;refine xK L (λj=> .int (l.getD j (0,0,0)).2.1) (ys:=(l.map (·.2.1)).map PyData.int) (by rw [Qa,QI];exact zF (λc:Cl=>PyData.int c.2.1) (0,0,0) l) y (λj x v=>λN t1 S hd=>?_) λD2 H2 e2 S2=>?_
 ·obtain ⟨c,T,rfl⟩:=ya N;refine zQ ⟨rfl,?_⟩;left;refine hd (by assumption) ?_;rw [yg T];exact Has.int
 refine fh S2 (by right) (by rw [Qa];omega) λos s H3 h1 h2 e3 S3=>?_;have eo:os=zZ l:=Uy h1 (xa l).1 λz=>by rw [h2,(xa l).2]
 subst eo;have S4:Sta H G H3 [(Y,(rkP r l 0).map zG)] [(.list ((zZ l).map PyData.int), .ref s),(r.shape,v0),(zo l,v1)]:=S3.freeze.weak (by walk_at "sub") (by walk_at "dats");clear y S2 S3;left;refine yt (xs:=(zZ l).map PyData.int) S4 ‹_› λJ L=>?_;refine Zo L (λi σ cs ds=>∃(pp:Addr) (I D C:Option V),σ=[some v0,some v1,some (.ref pp),I,D,C]/\cs=[(pp,(rkP r l i).map zG)]/\ds=[(.list ((zZ l).map PyData.int), .ref s),(r.shape,v0),(zo l,v1)]) S4 ⟨Y,none,none,none,rfl,rfl,rfl⟩ (λi σ cs ds h=>?_) ?_ ?_
 ·obtain ⟨_,_,_,_,_,_,rfl⟩:=h;exact .mem (by right)
 ·rintro i x u σ H5 cs ds N ⟨pp,I,D,C,rfl,rfl,rfl⟩ S5
  obtain ⟨m,O,rfl⟩:=ya N;cases S5.int1;have q:=ok.filter (yl m) (nH (Qb O));obtain ⟨b1,b2,b3⟩:=As ru ok O;have X:=UL (yl m) l;have lk:=Wa (yl m) l;have fk:=q.few;have gk:=(ru.gf q).ful.std;have fw:=ru.few q;left;refine nu (p:=yl) (l:=l) (g:=m) S5 ‹_› few λp6 H6 e6 S6=>?_;have S7:=S6.freeze;left;refine dg (l:=l) (pl:=xN (yl m) l) S7 ‹_› ‹_› X.lt (by omega) λp8 H8 e8 U=>?_;rw [<-Va] at U;have Z:=U.freeze;left;refine Zy (r:=r) (l:=l.filter (yl m)) Z ‹_› ‹_› ru hd q λOM LM OC KZ=>?_;have Ln:=KZ.freeze;left;rw [Qa];refine nk (x:=zE r (l.filter (yl m))) (pl:=xN (yl m) l) (n:=l.length) Ln ‹_› ‹_› (λc T=>⟨X,by rw [(gk.ok c T).1,lk],few⟩) (by omega) λM OG Si LC=>?_;have LU:Sta H G OG [(pp,(rkP r l i).map zG)] [(yy (yI (xN (yl m) l) l.length (zE r (l.filter (yl m)))), .ref M),(.list ((zZ l).map PyData.int), .ref s),(r.shape,v0),(zo l,v1)]:=LC.freeze.dat (by walk_at "dats");have Mj:=LU.freeze;clear S6 S7 U Z KZ Ln LC LU;left;refine nF (a:=rkP r l i) (b:=yI (xN (yl m) l) l.length (zE r (l.filter (yl m)))) Mj ‹_› ‹_› b1 b2 b3 λSJ OF e15 Lz=>?_;left;refine Xs (Lz.dat (ds':=[(.list ((zZ l).map PyData.int), .ref s),(r.shape,v0),(zo l,v1)]) (by walk_at "dats")) ⟨SJ,_,_,_,rfl,?_,rfl⟩;rw [DO O];rfl
 ·rintro σ H5 cs ds ⟨pp,I,D,C,rfl,rfl,rfl⟩ S5
  rw [Qa,HH] at S5;left;exact xM S5 k
abbrev df:Stmt:=top 54
theorem Am:FnScope ["outer","inner","claims","sums","others","places","group","members"] paB (zk df):=xC
theorem uX {n:Nat} (B:Bl mg) (B2:Bl3 mg) (XM:Cal P w K mg base CX0 1 "places_of_group" paj (XQ zL)) (Yu:Cal P w K mg base CX0 1 "those_at" pas aA) (VV:Cal P w K mg base CX0 1 "as_one_claim" paj DE) (ZN:Cal P w K mg base CX0 (2*n+8) "course" paq (Yv t n)) (dE:Cal P w K mg base CX0 2 "spread" pao Ut) (dC:Cal P w K mg base CX0 8 "within" paV Us) (F:Fun K "groups" "groups" df f fd):FnOk P w K mg base CX0 (2*n+9) f fd paB (dZ t n):=by
 refine F.oo Am λH vs Q E hr nd0 h=>?_;obtain ⟨G,⟨⟨a,b⟩,l⟩,eG,hA,⟨⟨ru,da,db⟩,ok⟩,k⟩:=h;obtain ⟨v0,v1,v2,rfl,al⟩:=YW hA;have S:Sta H G H [] [(a.shape,v0),(b.shape,v1),(zo l,v2)]:=Sta.enter eG al;dsimp only at ru da db ok k;obtain ⟨ra,rb⟩:=ru.groups;have few:=ok.few;have gfew:=Vu l;walk_at "=fj3rcfj4rcfj5rcfJy^Cclaim;1;yb2v0zh0F6fj7gab2ab6cfEZb3agagab2ab7cab6ccfEZb4agab1agab2ab7ccceEδb5ab7ceigagagab0ab3cab4cab5aBab2cc";left;rename_i C H1 e1 S1 s H2 e2 S2 q H3 e3 S3;refine yt (xs:=l.map zB) S3 ‹_› λJ Y=>?_;refine xK Y (λj=> .int (l.getD j (0,0,0)).2.2) (ys:=(l.map (·.2.2)).map PyData.int) (by rw [Qa,QI];exact zF (λc:Cl=>PyData.int c.2.2) (0,0,0) l) S3 (λj x v=>λhx t1 S hd=>?_) λD4 H4 e4 S4=>?_
 ·obtain ⟨c,hc,rfl⟩:=ya hx;refine zQ ⟨rfl,?_⟩;left;refine hd (by assumption) ?_;rw [yg hc];exact Has.int
 refine fh S4 (by right) (by rw [Qa];omega) λos M H5 h1 h2 e5 S5=>?_;have eo:os=zI l:=Uy h1 (yw l).1 λz=>by rw [h2,(yw l).2]
 subst eo;have S6:Sta H G H5 [(q,((mr l).take 0).flatten.map λ(i:Nat)=>PyData.int (i:Int)),(s,((zS (λl=>zE b l) l).take 0).map yy),(C,((zM l).take 0).map zB)] [(.list ((zI l).map PyData.int), .ref M),(a.shape,v0),(b.shape,v1),(zo l,v2)]:=S5.freeze.weak (by walk_at "sub") (by walk_at "dats");clear S1 S2 S3 S4 S5;left;refine yt (xs:=(zI l).map PyData.int) S6 ‹_› λJ Y=>?_;refine Zo Y (λi σ cs ds=>∃(X U:Option V),σ=[some v0,some v1,some v2,some (.ref C),some (.ref s),some (.ref q),X,U]/\cs=[(q,((mr l).take i).flatten.map λ(i:Nat)=>PyData.int (i:Int)),(s,((zS (λl=>zE b l) l).take i).map yy),(C,((zM l).take i).map zB)]/\ds=[(.list ((zI l).map PyData.int), .ref M),(a.shape,v0),(b.shape,v1),(zo l,v2)]) S6 ⟨none,none,rfl,rfl,rfl⟩ (λi σ cs ds h=>?_) ?_ ?_
 ·obtain ⟨_,_,_,_,rfl⟩:=h;exact .mem (by right)
 ·rintro i x u σ H7 cs ds hx ⟨X,U,rfl,rfl,rfl⟩ S7
  obtain ⟨g,D,rfl⟩:=ya hx;cases S7.int1;have gl:=(Qg.mp D).1;have m:=ok.filter (zL g) (Vt (Qb D));have pk:=UL (zL g) l;have lk:=Wa (zL g) l;have fk:=m.few
  have t1:(zM l).take (i+1)=(zM l).take i++[Ii g (l.filter (zL g))]:=by
   rw [TX];unfold zM;rw [Qi,D];rfl
  have t2:(zS (λl=>zE b l) l).take (i+1)=(zS (λl=>zE b l) l).take i++[zE b (l.filter (zL g))]:=by
   rw [TX];unfold zS;rw [Qi,D];rfl
  have t3:((mr l).take (i+1)).flatten=((mr l).take i).flatten++xN (zL g) l:=by
   rw [TX,List.flatten_append];unfold mr;rw [Qi,D];show _++(xN (zL g) l++[])=_;rw [jaR]
  have fl:((mr l).take i).flatten.length<=64:=by
   have:∀L∈(mr l).take i,L.length<=8:=λL hL=>by
    obtain ⟨g',Nz,rfl⟩:=Qj.mp (List.mem_of_mem_take hL);rw [Wa];exact QT (jbQ _ _) few
   have h1:=oj this;have h2:((mr l).take i).length<=8:=by rw [Tr];unfold mr;rw [Qa];omega
   omega
  left;refine nu (p:=zL) (l:=l) (g:=g) S7 ‹_› few λp8 H8 e8 O=>?_;have N:=O.freeze;left;refine dg (l:=l) (pl:=xN (zL g) l) N ‹_› ‹_› pk.lt (by omega) λOM LM OC I=>?_;rw [<-Va] at I;have T:=I.freeze;left;refine rd_one (l:=l.filter (zL g)) (g:=g) T ‹_› m.pos fk λZ OG Si LC=>?_;have LU:Sta H G OG [(C,((zM l).take i).map zB),(q,((mr l).take i).flatten.map λ(i:Nat)=>PyData.int (i:Int)),(s,((zS (λl=>zE b l) l).take i).map yy)] [(zB (Ii g (l.filter (zL g))),Z),(plD (xN (zL g) l), .ref p8),(.list ((zI l).map PyData.int), .ref M),(a.shape,v0),(b.shape,v1),(zo l,v2)]:=(LC.dat (by walk_at "dats")).rot3;left;refine xw (y:=zB (Ii g (l.filter (zL g)))) LU ‹_› (by rw [Qa,Tr];unfold zM;rw [Qa];omega) λSs Mj=>?_;left;refine dg (l:=l) (pl:=xN (zL g) l) Mj ‹_› ‹_› pk.lt (by omega) λSJ OF e15 Lz=>?_;rw [<-Va] at Lz;have Mo:=Lz.freeze;left;refine Zy (r:=b) (l:=l.filter (zL g)) Mo ‹_› ‹_› rb db m λp17 H17 e17 Nt=>?_;have LS:=Nt.freeze.rot3;clear O N I T LC LU Mj Lz Mo Nt;left;refine xw (y:=yy (zE b (l.filter (zL g)))) LS ‹_› (by rw [Qa,Tr];unfold zS;rw [Qa];omega) λH19 Nr=>?_;have Nq:=Nr.rot3;left;refine uI (ys:=(xN (zL g) l).map λ(i:Nat)=>PyData.int (i:Int)) Nq ‹_› (by rw [Qa,Qa];omega) λSq Np=>?_;left;refine Xs (Np.dat (ds':=[(.list ((zI l).map PyData.int), .ref M),(a.shape,v0),(b.shape,v1),(zo l,v2)]) (by walk_at "dats")) ⟨_,_,rfl,?_,rfl⟩;rw [t1,t2,t3,QF,QF,QF];rfl
 ·rintro σ H7 cs ds ⟨X,U,rfl,rfl,rfl⟩ S7
  have e1:(zM l).take (zI l).length=zM l:=QQ (by rw [ZG];exact Qq _);have e2:(zS (λl=>zE b l) l).take (zI l).length=zS (λl=>zE b l) l:=QQ (by rw [Yq];exact Qq _);have e3:(mr l).take (zI l).length=mr l:=QQ (by unfold mr;rw [Qa];exact Qq _);rw [Qa,e1,e2,e3] at S7;have O:Sta H G H7 [] [(zo (zM l), .ref C),(.list ((zS (λl=>zE b l) l).map yy), .ref s),(plD (wg l), .ref q),(a.shape,v0),(zo l,v2)]:=S7.freeze.freeze.freeze.dat (by walk_at "dats");clear S7;obtain ⟨g1,g2⟩:=Ca ru ok;left;refine Zy (r:=a) (l:=zM l) O ‹_› ‹_› ra da ok.sums λp9 H9 e9 N=>?_;left;refine uB (P:=zE a (zM l)) (Qs:=zS (λl=>zE b l) l) N.freeze ‹_› ‹_› (BZ ru ok) λOM LM OC I=>?_;left;rw [Qa];refine nk (x:=yK (zE a (zM l)) (zS (λl=>zE b l) l)) (pl:=wg l) (n:=l.length) I.freeze ‹_› ‹_› g1 g2 λp11 OH NF T=>?_;exact xM T k
theorem uZ (B:Bl mg) (B2:Bl3 mg) (ug:Cal P w K mg base CX0 3 "shares" pai (bY 0)) (dF:Cal P w K mg base CX0 2 "evenly" pai (bY 1)) (uj:Cal P w K mg base CX0 6 "losses" pai (bY 2)) (Hi:Cal P w K mg base CX0 6 "upto" paA wQ) (dD:Cal P w K mg base CX0 5 "turned" ["path"] cX)
 (XO:Cal P w K mg base CX0 2 "nothing" ["count"] WD) (Wv:Cal P w K mg base CX0 1 "places_of_rank" paN (XQ yl)) (XM:Cal P w K mg base CX0 1 "places_of_group" paj (XQ zL)) (Y:Cal P w K mg base CX0 1 "those_at" pas aA) (VV:Cal P w K mg base CX0 1 "as_one_claim" paj DE) (U:Cal P w K mg base CX0 2 "spread" pao Ut) (VF:Cal P w K mg base CX0 5 "behind" paM Uw) (dC:Cal P w K mg base CX0 8 "within" paV Us)
 {fr fg:Addr} {z C:FuncData} (Fr:Fun K "ranks" "ranks" kj fr z) (M:mg "ranks"=some (.ref fr)) (br:yX K z paU []) (Fg:Fun K "groups" "groups" df fg C) (Lo:mg "groups"=some (.ref fg)) (bg:yX K C paB [])
 (F:Fun K "course" "course" ku f fd) (hm:mg "course"=some (.ref f)) (b:yX K fd paq []):∀n:Nat,FnOk P w K mg base CX0 (2*n+8) f fd paq (Yv t n):=by
 intro n
 induction n with
 |zero=>
  refine F.ok eN (λvs H Q E h=>?_) (λKq A outer s H vs Q E hr h=>?_)
  ·obtain ⟨G,a,_,h,_⟩:=h;rw [<-h.len];rfl
  obtain ⟨G,⟨r,l⟩,_,_,⟨⟨_,hd⟩,_⟩,_⟩:=h;exact absurd hd (by cases r<;>simp [Rl.deep])
 |succ n ih=>
  have X:Cal P w K mg base CX0 (2*n+8) "course" paq (Yv t n):=oG F ih hm b;have Kl:Cal P w K mg base CX0 (2*n+9) "ranks" paU (jK t n):=oG Fr (Bf B B2 XO Wv Y X U VF Fr) M br;have Kb:Cal P w K mg base CX0 (2*n+9) "groups" paB (dZ t n):=oG Fg (uX B B2 XM Y VV X U dC Fg) Lo bg;refine F.ok eN (λvs H Q E h=>?_) (λKq A outer s H vs Q E hr h=>?_)
  ·obtain ⟨G,a,_,h,_⟩:=h;rw [<-h.len];rfl
  obtain ⟨G,⟨r,l⟩,eG,hA,⟨⟨ru,hd⟩,q⟩,k⟩:=h;obtain ⟨v0,v1,rfl,al⟩:=yP hA;have S:Sta H G H [] _:=Sta.enter eG al;dsimp only at ru hd q k S;have ok:=q.ok ru.ht;have nd0:=eN.nd;walk_at "=fj2h0flnsob2ukeigab1cqflnsob2ukeigab1cqflnsob2ukeigab1cqflnsob2ukeigamadadcagab1cagab1ccqflnsob2ukeigagah0ab1ccqflnsob2ukeigah0ab1cqflnsob2ukeigah0ah0ab1cqeigah0agah0ab1cagah0ab1cc"
  cases r with
  |shares=>
   simp only [Rl.shape] at S;left;refine aQ (n:=0) S ‹_› ok λL H1 O g=>?_;exact xM g k
  |evenly=>
   simp only [Rl.shape] at S;left;refine aQ (n:=1) S ‹_› ok λL H1 O g=>?_;exact xM g k
  |losses=>
   simp only [Rl.shape] at S;left;refine aQ (n:=2) S ‹_› ok λL H1 O g=>?_;exact xM g k
  |halves=>
   simp only [Rl.shape] at S;left;rename_i p0 H0 e0 S0
   have eh:PyData.tuple [.int 1, .int 2]=frD (1 / 2):=by
    unfold frD;rw [show ((1:Rat) / 2).num=1 by decide+kernel,show ((1:Rat) / 2).den=2 by decide+kernel];rfl
   rw [eh] at S0;refine aQ (n:=1) S0 ‹_› ok λL H1 O g=>?_;have m:=g.freeze;left;refine aQ (n:=2) m ‹_› ok λJ T N u=>?_;have Z:=u.freeze;left;refine Ay (p:=1 / 2) (a:=flV 1 l) (b:=flV 2 l) Z ‹_› ‹_› ‹_› (up_ok ok) λp5 H5 e5 D=>?_;rw [wF] at D;exact xM D k
  |other r=>
   simp only [Rl.shape] at S;left;rename_i I g;refine Zy (r:=r) g ‹_› ‹_› ru.other (by simp only [Rl.deep] at hd;omega) q λp2 H2 e2 m=>?_;left;refine nj (a:=zE r l) m.freeze ‹_› (ru.other.inn q) λJ T N u=>?_;exact xM u k
  |upto t b x y=>
   obtain ⟨px,py⟩:=ru.upto;have dx:x.deep<=n:=by simp only [Rl.deep] at hd;omega
   have dy:y.deep<=n:=by simp only [Rl.deep] at hd;omega
   have hp:PyData.tuple [.int t, .int b]=frD (Rat.divInt t b):=Eb ru.pok.1;simp only [Rl.shape] at S;rw [hp] at S;left;rename_i I g w2 m;refine Zy (r:=x) m ‹_› ‹_› px dx q λJ T N u=>?_;have Z:=u.freeze;left;rename_i w5 D;refine Zy (r:=y) D ‹_› ‹_› py dy q λp6 H6 e6 S6=>?_;have S7:=S6.freeze;left;refine Ay (p:=Rat.divInt t b) (a:=zE x l) (b:=zE y l) S7 ‹_› ‹_› ‹_› (ru.up q) λp8 H8 e8 S8=>?_;exact xM S8 k
  |ranks r=>
   simp only [Rl.shape] at S;left;rename_i I g;refine AA (r:=r) g ‹_› ‹_› ru.ranks (by simp only [Rl.deep] at hd;omega) q λp2 H2 e2 m=>?_;exact xM m k
  |groups a b=>
   simp only [Rl.shape] at S;left;rename_i I g w2 m;refine uG (a:=a) (b:=b) m ‹_› ‹_› ‹_› ru (by simp only [Rl.deep] at hd;omega) (by simp only [Rl.deep] at hd;omega) q λJ T N u=>?_;exact xM u k
theorem Es {fS fT Ru:Addr} {n:Nat} (y:∀r:Rl,ROk K fS fT Ru (A.cls r)) (z:Cal P w K mg base CX0 1 "check_claims" pai jT) (L:Cal P w K mg base CX0 (2*n+8) "course" paq (Yv t n)) (F:Fun K "path" "Rule.path" XY f fd):FnOk P w K mg base CX0 (2*n+9) f fd pah (dX A t n):=by
 refine F.oo cb λH vs Q E hr nd0 h=>?_;obtain ⟨G,⟨r,l⟩,p,m,⟨⟨pl,hn⟩,g⟩,k⟩:=h;obtain ⟨v0,v1,rfl,al⟩:=yP m;have S:Sta H G H [] _:=Sta.enter p al;dsimp only at pl hn g k S;have ok:=g.ok pl.ht;walk_at "=fEgab1ceiga$b0ab1c";left;refine sf S ‹_› ok λH1 J u=>?_;left;refine AI u ‹_› (y r) λC s=>?_;left;refine Zy s ‹_› ‹_› pl hn g λD M I q=>?_;exact xM q k
end
section
variable {A:RAd} {t:Nat}
theorem Bj {fS fT Ru s:Addr} {g:FuncData} {n:Nat} (I:∀r:Rl,ROk K fS fT Ru (A.cls r)) (J:∀r:Rl,Meth K (A.cls r) "path" s) (xv:FnOk P w K mg base CX0 (2*n+9) s g pah (dX A t n)) (yN:yX K g pah []) (T:Cal P w K mg base CX0 6 "parts_at" paC WC) (F:Fun K "parts" "Rule.parts" ZQ f fd):FnOk P w K mg base CX0 (2*n+10) f fd pac (Uv A t n):=by
 refine F.oo XR λH vs Q E hr nd0 h=>?_;obtain ⟨G,⟨r,l,e⟩,y,u,⟨⟨⟨pl,hn⟩,p⟩,q,e0⟩,k⟩:=h;obtain ⟨v0,v1,v2,rfl,al⟩:=YW u;have S:Sta H G H [] _:=Sta.enter y al;dsimp only at pl hn p q e0 k S;walk_at "=eigaεb0ζab1cab2c";left;refine cf (C:=A.cls r) S ‹_› (I r).cl (J r) (by decide+kernel) ?_;left;refine kE (r:=r) S ‹_› ‹_› pl hn p λM H1 O D=>?_;left;refine aN (a:=zE r l) (e:=e) (m:=4000) (n:=700) D.freeze ‹_› ‹_› (pl.R p) q (by decide) e0 λL U N z=>?_;exact yW z k ‹_›
end
abbrev XW:Stmt:=top 73
theorem gY:FnScope pay pay (zk XW):=xC
theorem Io (B:Bl mg) (F:Fun K "_law_cell_at" "_law_cell_at" XW f fd):FnOk P w K mg base CX0 1 f fd pay (rS K):=by
 refine F.oo gY λH vs Q E hr nd0 h=>?_;obtain ⟨a,ns,k,rfl,g,h0,q⟩:=h;walk_at "=flWb1Bab0ckeipb0b1qeid";left;refine HP g ?_;left;refine Yc (λc=>?_) (λc=>?_)
 ·left;refine rd_ixS g h0 c ?_;unfold Vd at q;rw [QH c] at q;exact q
 ·left;unfold Vd at q;rw [QS c] at q;exact q
abbrev Ue:Stmt:=top 74
theorem mW:FnScope ["_law_cell","_law_place","_law_number"] paK (zk Ue):=xC
theorem Ex (F:Fun K "_law_mixed" "_law_mixed" Ue f fd):FnOk P w K mg base CX0 1 f fd paK Hz:=by
 refine F.oo mW λH vs Q E hr nd0 h=>?_;obtain ⟨c,p,rfl,q⟩:=h;walk_at "=fj2twwxtb0ddxdb1ddfj2twwxb2b2xdb1ddeitxb2dd";left;exact q
abbrev XU:Stmt:=top 75
theorem gX:FnScope paH paH (zk XU):=xC
theorem uY (B:Bl mg) (F:Fun K "_law_divisor" "_law_divisor" XU f fd):FnOk P w K mg base CX0 1 f fd paH wX:=by
 refine F.oo gX λH vs Q E hr nd0 h=>?_;obtain ⟨a,b,rfl,p,q⟩:=h;walk_at "=f5nQob1dkeη0ab1a0b0b1cei6ab0c";refine pF (λm σ H2=>∃(x y:Int),σ=[some (.int x),some (.int y)]/\0<=y/\Int.gcd x y=Int.gcd a b/\H2=H/\m=y.toNat) _ ⟨a,b,rfl,p,rfl,rfl,rfl⟩ ?_
 rintro m σ H2 ⟨x,y,rfl,hy,hg,rfl,rfl⟩
 left;refine uC (λc=>?_) (λc=>?_)
 ·have c:y≠0:=by simpa using c
  left;have e:x.fmod y=x % y:=TL x hy;have g:=jad x c;have r:=jao x (show 0<y by omega);refine ⟨(x.fmod y).toNat,by rw [e];omega,y,x.fmod y,rfl,by rw [e];exact g,?_,rfl,rfl⟩;rw [e,sV,hg]
 ·have c:y=0:=by simpa using c
  subst c;left
  have e:(x.natAbs:Int)=((Int.gcd a b:Nat):Int):=by
   rw [<-hg,Int.gcd_zero]
  rw [e];exact q
abbrev WI:Stmt:=top 76
theorem jV:FnScope ["_law_top","_law_bottom","_law_by"] paL (zk WI):=xC
theorem Bo (t:Cal P w K mg base CX0 1 "_law_divisor" paH wX) (F:Fun K "_law_lowest" "_law_lowest" WI f fd):FnOk P w K mg base CX0 2 f fd paL jQ:=by
 refine F.oo jV λH vs Q E hr nd0 h=>?_;obtain ⟨G,⟨a,b⟩,q,m,⟨g,sb⟩,k⟩:=h;cases (yF (ns:=[a,b]) m);have S:Sta H G H [] []:=Sta.enter q λp hp=>absurd hp Qx;dsimp only at g sb k;have s:0<Int.gcd a b:=jbn a (by omega)
 have r:CDv a ((Int.gcd a b:Nat):Int):=⟨by omega,by
  refine Sz.le sb ?_;have:=Nat.le_of_dvd (by omega) (Int.gcd_dvd_natAbs_right a b)
  omega⟩
 walk_at "=fj2gab0ab1ceima1b0b2a1b1b2c";left;refine yW (by assumption) k (.mem ?_);rw [show frD (Rat.divInt a b)= .tuple [.int (a.fdiv ((Int.gcd a b:Nat):Int)), .int (b.fdiv ((Int.gcd a b:Nat):Int))] by unfold frD;rw [<-(WV g).1,<-(WV g).2]];walk_at "mem"
abbrev WJ:Stmt:=top 77
theorem jW:FnScope ["_law_number"] ["_law_number"] (zk WJ):=xC
theorem Bp (F:Fun K "_law_labels" "_law_labels" WJ f fd):FnOk P w K mg base CX0 1 f fd ["_law_number"] jR:=by
 refine F.oo jW λH vs Q E hr nd0 h=>?_;obtain ⟨G,n,m,g,_,k⟩:=h;cases (yF (ns:=[n]) g);have S:Sta H G H [] []:=Sta.enter m λp hp=>absurd hp Qx;dsimp only at k;unfold lD at k;walk_at "=flnsotb0ddkeiradadadcqflnsotb0ddkeirawMdddadadcqflnsotb0ddkeiradaMddadcqeiradadadc";left;refine Yc (λc=>?_) (λc=>?_)
 ·rw [QH c] at k;left;exact xM (by assumption) k
 rw [QS c] at k;left;refine Yc (λc=>?_) (λc=>?_)
 ·rw [QH c] at k;left;exact xM (by assumption) k
 rw [QS c] at k;left;refine Yc (λc=>?_) (λc=>?_)
 ·rw [QH c] at k;left;exact xM (by assumption) k
 rw [QS c] at k;left;exact xM (by assumption) k
section
variable {A:RAd}
abbrev WK:Stmt:=top 78
theorem jX:FnScope ["_law_script","_law_at","_law_many","_law_size","_law_labels_here","_law_ranks","_law_groups","_law_claims_here","_law_k","_law_cell","_law_amount"] pam (zk WK):=xC
theorem Br (B:Bl mg) (mj:Cal P w K mg base CX0 1 "_law_cell_at" pay (rS K)) (Jl:Cal P w K mg base CX0 1 "_law_mixed" paK Hz) (Hl:Cal P w K mg base CX0 1 "_law_labels" ["_law_number"] jR) (F:Fun K "_law_claims" "_law_claims" WK f fd):FnOk P w K mg base CX0 2 f fd pam (ef K):=by
 refine F.oo jX λH vs Q E hr nd0 h=>?_;obtain ⟨G,a,ns,at',many,size,rfl,eG,hS,⟨Pm,hm1,hm8,hs0,SX⟩,k⟩:=h;have S:Sta H G H [] []:=Sta.enter eG λp hp=>absurd hp Qx;walk_at "=fj4gagab0ab1cadcfj5gab4cfj6gaGb4dcfj7rcfJ?ab2cF8fj9gab0awb1b8cfja0Gb9db3flnsotb9ddkejatGb9ddqflSVnsotb9ddkYRb8dkejappb70Gb9db8dqeEZb7amabaapb5tgab9adcdapb6tgab9adcdcceib7";left;generalize mixV (Vd ns at') 3=m at*;refine nC S λN H1 e1 S1=>?_;have S1':=S1.freeze;left;refine nC S1' λM H2 e2 S2=>?_;have S2':=S2.freeze;left;rename_i u H3 e3 S3;refine nD H G (by omega) (by omega) λJ wk=>?_
 refine Zo wk (λi σ cs ds=>∃(l:List Cl) (T O Y:Option V),σ=[some (.ref a),some (.int at'),some (.int many),some (.int size),some (.int m),some (.ref N),some (.ref M),some (.ref u),T,O,Y]/\cs=[(u,l.map zB)]/\ds=[(eZ (lD (m / 5)), .ref M),(eZ (lD m), .ref N)]/\l.length=i/\∀c∈l,(0<=c.1/\0<=c.2.1/\0<=c.2.2)/\c.1<size) S3
  ⟨[],none,none,none,rfl,rfl,rfl,rfl,λc C=>absurd C Qx⟩ (λ_ _ _ _ _=>trivial) ?_ ?_
 ·rintro i x v σ H4 cs ds hx ⟨l,T,O,Y,rfl,rfl,rfl,hlen,hok⟩ s
  obtain ⟨hi,rfl⟩:=YC hx;cases s.int1;have hS4:SqL K H4 a (ns.map V.int):=s.base.seq hS;have s:=s.drop1;left;generalize Vd ns (at'+(0+(i:Int)))=c at*
  have fin:∀(am:Int) (y8 y9 NH:Option V) (r g:Int) (L:Hp),0<=am->am<size->0<=r->0<=g->Sta H G L [(u,l.map zB++[zB (am,r,g)])] [(eZ (lD (m / 5)), .ref M),(eZ (lD m), .ref N)]->
   AtP H G (λσ cs ds=>∃(l:List Cl) (T O Y:Option V),σ=[some (.ref a),some (.int at'),some (.int many),some (.int size),some (.int m),some (.ref N),some (.ref M),some (.ref u),T,O,Y]/\cs=[(u,l.map zB)]/\ds=[(eZ (lD (m / 5)), .ref M),(eZ (lD m), .ref N)]/\l.length=i+1/\∀c∈l,(0<=c.1/\0<=c.2.1/\0<=c.2.2)/\c.1<size) [some (.ref a),some (.int at'),some (.int many),some (.int size),some (.int m),some (.ref N),some (.ref M),some (.ref u),y8,y9,NH] L:=by
   intro am y8 y9 NH r g L h0 hz hr hg t;refine Xs t ⟨l++[(am,r,g)],y8,y9,NH,rfl,by rw [QF];rfl,rfl,by rw [Qr,hlen];rfl,λc C=>?_⟩
   rcases QX.mp C with z|z
   ·exact hok c z
   ·rw [Qv.mp z];exact ⟨⟨h0,hr,hg⟩,hz⟩
  have q:(l.map zB).length<=1000:=by rw [Qa];omega
  obtain ⟨r,OV,OU⟩:=BM m (mixV c 1);obtain ⟨g,Z,Pe⟩:=BM (m / 5) (mixV c 2);have sz0:size≠0:=by omega
  have f0:(c / 9).fmod size=c / 9 % size:=TL _ (by omega);have m1:=jad (c / 9) sz0;have m2:=jao (c / 9) (show 0<size by omega);left;refine Yc (λc1=>?_) (λc1=>?_)
  ·left;refine Yc (λc2=>absurd c2 (by omega)) (λ_=>?_);left;refine WN (xs:=(lD m).map PyData.int) s ‹_› OU ?_;left;refine WN (xs:=(lD (m / 5)).map PyData.int) s ‹_› Pe ?_;left;rename_i q5 L e5 t;refine xw (y:=zB (c / 9 % 5,r,g)) t ‹_› q λI D=>?_;left;exact fin (c / 9 % 5) _ _ _ r g I (by omega) (by omega) OV Z (D.dat (by walk_at "dats"))
  ·have q0:0<=(c / 9).fmod size:=by rw [f0];exact m1
   have qz:(c / 9).fmod size<size:=by rw [f0];exact m2
   left;refine Yc (λc2=>?_) (λ_=>?_)
   ·left;refine Yc (λc3=>?_) (λ_=>?_)
    ·have i0:0+(i:Int)≠0:=by omega
     have e1:=TL (c / 9) (show 0<=0+(i:Int) by omega);have n1:=jad (c / 9) i0;have n2:=jao (c / 9) (show 0<0+(i:Int) by omega);rw [<-e1] at n1 n2;left;have hj:((c / 9).fmod (0+(i:Int))).toNat<l.length:=by omega
     have Kx:=Qe hj
     have Pl:atI (l.map zB) ((c / 9).fmod (0+(i:Int)))=some (zB (l[((c / 9).fmod (0+(i:Int))).toNat])):=by
      have:=yJ (xs:=l.map zB) (j:=((c / 9).fmod (0+(i:Int))).toNat) (v:=zB (l[((c / 9).fmod (0+(i:Int))).toNat])) (by rw [Qi,Kx];rfl);rwa [Int.toNat_of_nonneg n1] at this
     have U:=hok _ (Tu hj);generalize l[((c / 9).fmod (0+(i:Int))).toNat]=X at*;refine YT (x:=zB X) s (by right) Pl λw7 S7=>?_;left;refine WN (xs:=(lD m).map PyData.int) S7 ‹_› OU ?_;left;refine WN (xs:=(lD (m / 5)).map PyData.int) S7 ‹_› Pe ?_;left;rename_i q5 L e5 t;refine xw (y:=zB (X.1,r,g)) t ‹_› q λI D=>?_;left;exact fin (X.1) _ _ _ r g I U.1.1 U.2 OV Z (D.dat (by walk_at "dats"))
    ·skip
     left;refine WN (xs:=(lD m).map PyData.int) s ‹_› OU ?_;left;refine WN (xs:=(lD (m / 5)).map PyData.int) s ‹_› Pe ?_;left;rename_i q5 L e5 t;refine xw (y:=zB ((c / 9).fmod size,r,g)) t ‹_› q λI D=>?_;left;exact fin ((c / 9).fmod size) _ _ _ r g I q0 qz OV Z (D.dat (by walk_at "dats"))
   ·skip
    left;refine WN (xs:=(lD m).map PyData.int) s ‹_› OU ?_;left;refine WN (xs:=(lD (m / 5)).map PyData.int) s ‹_› Pe ?_;left;rename_i q5 L e5 t;refine xw (y:=zB ((c / 9).fmod size,r,g)) t ‹_› q λI D=>?_;left;exact fin ((c / 9).fmod size) _ _ _ r g I q0 qz OV Z (D.dat (by walk_at "dats"))
 ·rintro σ H4 cs ds ⟨l,T,O,Y,rfl,rfl,rfl,hlen,hok⟩ s
  left;rw [Yo] at hlen;obtain ⟨G',a',b',X,d',e',f',g'⟩:=s;obtain ⟨z1,z2,us,z3,z4⟩:=e' _ (Qc ..);exact k l u H4 G' us hlen ⟨by omega,by omega,λc C=>(hok c C).1,λc C=>(hok c C).2⟩ ⟨X,a',b',d'⟩ z1 z2 z3 z4
end
abbrev aK:Stmt:=top 82
theorem VY:FnScope paz paz (zk aK):=xC
section
variable {A:RAd}
theorem El (m:VH P w K mg base "Shares" (A.cls .shares) pae (xj (A.cls .shares) (α:=Unit) (λ_=>[]) (λ_=>Rl.shares.shape))) (z:VH P w K mg base "Evenly" (A.cls .evenly) pae (xj (A.cls .evenly) (α:=Unit) (λ_=>[]) (λ_=>Rl.evenly.shape))) (p:VH P w K mg base "Losses" (A.cls .losses) pae (xj (A.cls .losses) (α:=Unit) (λ_=>[]) (λ_=>Rl.losses.shape))) (q:VH P w K mg base "Halves" (A.cls .halves) pae (xj (A.cls .halves) (α:=Unit) (λ_=>[]) (λ_=>Rl.halves.shape))) (D:VH P w K mg base "Other" (A.cls (.other .shares)) pan (xj (A.cls (.other .shares)) (α:=Rl) (λr=>[r.ins A]) (λr=>(Rl.other r).shape))) (C:VH P w K mg base "Ranks" (A.cls (.ranks .shares)) pan (xj (A.cls (.ranks .shares)) (α:=Rl) (λr=>[r.ins A]) (λr=>(Rl.ranks r).shape))) (u:VH P w K mg base "Groups" (A.cls (.groups .shares .shares)) pax (xj (A.cls (.groups .shares .shares)) (α:=Rl×Rl) (λr=>[r.1.ins A,r.2.ins A]) (λr=>(Rl.groups r.1 r.2).shape))) (J:VH P w K mg base "Upto" (A.cls (.upto 0 0 .shares .shares)) pal (xj (A.cls (.upto 0 0 .shares .shares)) (α:=(Int×Int)×Rl×Rl) (λr=>[.tuple [.int r.1.1, .int r.1.2],r.2.1.ins A,r.2.2.ins A]) (λr=>(Rl.upto r.1.1 r.1.2 r.2.1 r.2.2).shape))) (F:Fun K "_law_rule" "_law_rule" aK f fd) (hm:mg "_law_rule"=some (.ref f)) (b:yX K fd paz []):∀n:Nat,FnOk P w K mg base CX0 (n+4) f fd paz (jJ A n):=by
 obtain ⟨JW,JH,oU,Dd,CS,sX⟩:=m;obtain ⟨Ka,JL,oY,Di,CY,tf⟩:=z;obtain ⟨JX,JI,oV,Df,CT,sY⟩:=p;obtain ⟨JY,JJ,oW,Dg,CU,sZ⟩:=q;obtain ⟨Ki,JV,tR,Gb,FT,Cc⟩:=D;obtain ⟨Kh,JU,tQ,Ga,FR,Cb⟩:=C;obtain ⟨JZ,JK,oX,Dh,CV,td⟩:=u;obtain ⟨Km,Kg,CJ,Hh,GY,GO⟩:=J;intro n
 induction n with
 |zero=>
  refine F.ok VY (λvs H Q E h=>?_) (λKq A' outer s H vs Q E hr h=>?_)
  ·obtain ⟨G,a,_,h,_⟩:=h;rw [<-h.len];rfl
  obtain ⟨G,r,_,_,hd,_⟩:=h;exact absurd hd (by cases r<;>simp [Rl.deep])
 |succ n ih=>
  have wa:Cal P w K mg base CX0 (n+4) "_law_rule" paz (jJ A n):=oG F ih hm b;refine F.ok VY (λvs H Q E h=>?_) (λKq A' outer s H vs Q E hr h=>?_)
  ·obtain ⟨G,a,_,h,_⟩:=h;rw [<-h.len];rfl
  obtain ⟨G,r,eG,hA,hd,k⟩:=h;obtain ⟨v,rfl,al⟩:=YX hA;have S:Sta H G H [] [(r.shape,v)]:=Sta.enter eG al;have nd0:=VY.nd;walk_at "=flnsoh0ukeiθιqflnsoh0ukeiκμqflnsoh0ukeiνξqflnsoh0ukeiπρqflnsoh0ukeiστagah0ccqflnsoh0ukeiυφagah0ccqflnsoh0ukeiχψagah0cagah0ccqeiωΓah0agah0cagah0cc"
  cases r with
  |shares=>
   simp only [Rl.shape] at S;left;refine YS () S yc.nil λI H1 T g=>?_;exact yW g k ‹_›
  |evenly=>
   simp only [Rl.shape] at S;left;refine YS () S yc.nil λI H1 T g=>?_;exact yW g k ‹_›
  |losses=>
   simp only [Rl.shape] at S;left;refine YS () S yc.nil λI H1 T g=>?_;exact yW g k ‹_›
  |halves=>
   simp only [Rl.shape] at S;left;refine YS () S yc.nil λI H1 T g=>?_;exact yW g k ‹_›
  |other r=>
   simp only [Rl.shape] at S;left;rename_i N g;refine XZ (r:=r) g ‹_› (by simp only [Rl.deep] at hd;omega) λw2 H2 e2 M=>?_;left;refine YS r M (yc.cons ‹_› yc.nil) λI H3 O L=>?_;exact yW L k ‹_›
  |upto t b x y=>
   have X:x.deep<=n:=by simp only [Rl.deep] at hd;omega
   have U:y.deep<=n:=by simp only [Rl.deep] at hd;omega
   simp only [Rl.shape] at S;left;rename_i N g w2 M;refine XZ (r:=x) M ‹_› X λw3 H3 O L=>?_;left;rename_i w4 S4;refine XZ (r:=y) S4 ‹_› U λw5 H5 e5 Z=>?_;left;refine YS (((t,b),x,y):(Int×Int)×Rl×Rl) Z (yc.cons ‹_› (yc.cons ‹_› (yc.cons ‹_› yc.nil))) λI H6 e6 Y=>?_;exact yW Y k ‹_›
  |ranks r=>
   simp only [Rl.shape] at S;left;rename_i N g;refine XZ (r:=r) g ‹_› (by simp only [Rl.deep] at hd;omega) λw2 H2 e2 M=>?_;left;refine YS r M (yc.cons ‹_› yc.nil) λI H3 O L=>?_;exact yW L k ‹_›
  |groups x y=>
   have X:x.deep<=n:=by simp only [Rl.deep] at hd;omega
   have U:y.deep<=n:=by simp only [Rl.deep] at hd;omega
   simp only [Rl.shape] at S;left;rename_i N g;refine XZ (r:=x) g ‹_› X λw3 H3 O L=>?_;left;rename_i w4 S4;refine XZ (r:=y) S4 ‹_› U λw5 H5 e5 Z=>?_;left;refine YS ((x,y):Rl×Rl) Z (yc.cons ‹_› (yc.cons ‹_› yc.nil)) λI H6 e6 Y=>?_;exact yW Y k ‹_›
end
abbrev XT:Stmt:=top 79
theorem gW:FnScope ["_law_cell","_law_number"] paG (zk XT):=xC
theorem Eo (F:Fun K "_law_portion" "_law_portion" XT f fd):FnOk P w K mg base CX0 1 f fd paG pP:=by
 refine F.oo gW λH vs Q E hr nd0 h=>?_;obtain ⟨G,c,rfl,z,k⟩:=h;have S:Sta H G H [] []:=Sta.enter z λp hp=>absurd hp Qx;walk_at "=fj1tb0Mddflnsotb1ddkeimadawdtGb1ddcqflnsotb1ddkeimawdtGb1ddadcqeimawdtGb1ddawdtGb1ddc";left;generalize c % 10 ^ Int.toNat 9=m at*;have hm:0<=m / 3 % 60/\m / 3 % 60<60:=by omega
 have g:∀t b:Int,0<t->t<b->b<=61->Int.gcd t b=1->Small t b:=λt b y u s r=>⟨⟨⟨by unfold Sz;omega,by unfold Sz;omega⟩,y,u,r⟩,s⟩;refine Yc (λ_=>?_) (λ_=>?_)
 ·left;exact Aw (by assumption) k ‹_› (g _ _ (by decide) (by omega) (by omega) (by rw [Int.gcd_one_left]))
 left;refine Yc (λ_=>?_) (λ_=>?_)
 ·left;refine Aw (by assumption) k ‹_› (g _ _ (by omega) (by omega) (by omega) ?_);obtain ⟨i,q,e⟩:∃i:Nat,i<60/\m / 3 % 60=(i:Int):=⟨(m / 3 % 60).toNat,by omega,by omega⟩;rw [e];clear e hm
  revert q
  revert i
  decide+kernel
 left;refine Aw (by assumption) k ‹_› (g _ _ (by omega) (by omega) (by omega) ?_);obtain ⟨i,q,e⟩:∃i:Nat,i<60/\m / 3 % 60=(i:Int):=⟨(m / 3 % 60).toNat,by omega,by omega⟩;rw [e];clear e hm
 revert q
 revert i
 decide+kernel
abbrev aL:Stmt:=top 80
theorem pV:FnScope paG paG (zk aL):=xC
theorem Ez (F:Fun K "_law_leaf" "_law_leaf" aL f fd):FnOk P w K mg base CX0 1 f fd paG pR:=by
 refine F.oo pV λH vs Q E hr nd0 h=>?_;obtain ⟨G,c,rfl,g,k⟩:=h;have S:Sta H G H [] []:=Sta.enter g λp hp=>absurd hp Qx;walk_at "=eipramaucamaucamaucamaucctb0d";left;rename_i z Z J O y Y I N u X D M t U C L s T A q
 obtain ⟨n,hn⟩:∃n,atI [PyData.tuple [.str "shares"], .tuple [.str "evenly"], .tuple [.str "losses"], .tuple [.str "halves"]] (c % 4)=some (iB n).shape:=by
  rcases (by omega:c % 4=0\/c % 4=1\/c % 4=2\/c % 4=3) with h|h|h|h<;>rw [h]
  ·exact ⟨0,rfl⟩
  ·exact ⟨1,rfl⟩
  ·exact ⟨2,rfl⟩
  ·exact ⟨3,rfl⟩
 refine YT (x:=(iB n).shape) q (by right) hn λr m=>?_;exact Ax (n:=n) m k ‹_›
abbrev Ud:Stmt:=top 81
theorem mV:FnScope ["_law_cells","_law_groups","_law_pile","_law_cell","_law_more","_law_kind"] paI (zk Ud):=xC
theorem Bd (B:Bl mg) (Gf:Cal P w K mg base CX0 1 "_law_portion" paG pP) (Jq:Cal P w K mg base CX0 1 "_law_leaf" paG pR) (F:Fun K "_law_shape" "_law_shape" Ud f fd):FnOk P w K mg base CX0 2 f fd paI jH:=by
 refine F.oo mV λH vs Q E hr nd0 h=>?_;obtain ⟨G,ns,g,v,rfl,eG,hv,hl6,k⟩:=h;have S:Sta H G H [] [(eZ ns,v)]:=Sta.enter eG λp hp=>by rw [Qv.mp hp];exact hv
 have two:∀rs:List Rl,1<rs.length->∃ls ra s,rs=ls++[ra,s]:=λrs h=>by
  refine ⟨rs.dropLast.dropLast,rs.dropLast.getLast (λz=>?_),rs.getLast (λz=>?_),?_⟩
  ·have:=congrArg List.length z;rw [List.length_dropLast,List.length_nil] at this;omega
  ·rw [z,List.length_nil] at h;omega
  ·rw [show ∀a b:Rl,[a,b]=[a]++[b] from λ_ _=>rfl,<-TV,TZ,TZ]
 have one:∀rs:List Rl,0<rs.length->∃ls ra,rs=ls++[ra]:=λrs h=>by
  refine ⟨rs.dropLast,rs.getLast (λz=>?_),?_⟩
  ·rw [z,List.length_nil] at h;omega
  ·rw [TZ]
 have Sl:∀(ls:List Rl) (r:Rl),atI ((ls++[r]).map Rl.shape) (-1)=some r.shape:=λls r=>by
  rw [QF];exact tO _ _
 have at2:∀(ls:List Rl) (r q:Rl),atI ((ls++[r,q]).map Rl.shape) (-2)=some r.shape/\atI ((ls++[r,q]).map Rl.shape) (-1)=some q.shape:=λls r q=>⟨by rw [QF];exact FU,by rw [show ls++[r,q]=ls++[r]++[q] by simp];exact Sl _ _⟩;walk_at "=fj2rcfJyb0F3fj4tGb3dMddfj5tb3delSVnsob5dkYRBab2cdkej27Ib2KHAdramauapb2AdccelSVnsob5dkYRBab2cdkej27Ib2KHAdramauapb2AdccelSVnsob5dkVRBab2cdkY+b1ej27Ib2KHAdramauapb2Adapb2AdccelSVRb5dkYRBab2cdkej27Ib2KHAdramauagab4capb2Adapb2AdcceEZb2agab4ccflnsoBab2cdkeimaucqf5RBab2cdkej27Ib2KHAdramauamadawdBab2ccapb2Adapb2Adcceih2";left;rename_i p1 H1 e1 S1;refine yt (xs:=ns.map PyData.int) S1 ‹_› λJ wk=>?_;refine Zo wk (λi σ cs ds=>∃(rs:List Rl) (p:Addr) (Y X U:Option V),σ=[some v,some (.bl g),some (.ref p),Y,X,U]/\cs=[(p,rs.map Rl.shape)]/\ds=[(eZ ns,v)]/\(∀r∈rs,PS6 r)/\ndS rs<=i) S1 ⟨[],p1,none,none,none,rfl,rfl,rfl,λr hr=>absurd hr Qx,Qq _⟩ (λi σ cs ds h=>?_) ?_ ?_
 ·obtain ⟨_,_,_,_,_,_,_,rfl,_⟩:=h;exact .mem (by right)
 ·rintro i x u σ H2 cs ds hx ⟨rs,p,Y,X,U,rfl,rfl,rfl,Lh,Ob⟩ M
  obtain ⟨c,hc,rfl⟩:=ya hx;have hi:=(Qg.mp hc).1;cases M.int1;have M:=M.drop1;have ll:=WT rs
  have fin:∀(q:Addr) (ls:List Rl) (r:Rl) (y3 y4 y5:Option V) (H5:Hp),(∀r∈ls,PS6 r)->PS6 r->ndS ls+nd r<=i+1->Sta H G H5 [(q,ls.map Rl.shape++[r.shape])] [(eZ ns,v)]->
   AtP H G (λσ cs ds=>∃(rs:List Rl) (p:Addr) (Y X U:Option V),σ=[some v,some (.bl g),some (.ref p),Y,X,U]/\cs=[(p,rs.map Rl.shape)]/\ds=[(eZ ns,v)]/\(∀r∈rs,PS6 r)/\ndS rs<=i+1) [some v,some (.bl g),some (.ref q),y3,y4,y5] H5:=by
   intro q ls r y3 y4 y5 H5 h1 h2 h3 T;refine Xs T ⟨ls++[r],q,y3,y4,y5,rfl,by rw [QF];rfl,rfl,λz hz=>?_,by rw [Yi];exact h3⟩
   rcases QX.mp hz with z'|z'
   ·exact h1 z z'
   ·rw [Qv.mp z'];exact h2
  left;refine' if2 ?gh1 ?gk1 ?gn1
  case gh1=>
   intro z;left;exact z
  case gk1=>
   intro Z C;have C:=QD C;rw [Qa] at C;left;obtain ⟨ls,ra,rfl⟩:=one rs (by omega);have O:=Lh ra (by simp);have nn:=Yi ls ra;refine ff M (by right) λq3 H3 e3 A=>?_;rw [show gP ((ls++[ra]).map Rl.shape) none (some (-1))=ls.map Rl.shape by rw [QF];exact tD _ _] at A;left;refine YT (x:=ra.shape) A (by right) (Sl ls ra) λw4 L=>?_;left;rename_i q5 H5 e5 T q6 H6 e6 I;refine .inl (xU (xs:=ls.map Rl.shape) (zs:=[(Rl.other ra).shape]) I (I.vwC (by right)) (I.vwC (by right)) (by have:=WT ls;rw [Qa];show _+1<=1000;omega) λq7 H7 e7 D=>?_);left;exact fin q7 ls (Rl.other ra) _ _ _ H7 (λr hr=>Lh r (by simp [hr])) O (by simp only [nd];omega) (D.weak (by walk_at "sub") (by walk_at "dats"))
  intro _;left;refine' if2 ?gh2 ?gk2 ?gn2
  case gh2=>
   intro z;left;exact z
  case gk2=>
   intro Z C;have C:=QD C;rw [Qa] at C;left;obtain ⟨ls,ra,rfl⟩:=one rs (by omega);have O:=Lh ra (by simp);have nn:=Yi ls ra;refine ff M (by right) λq3 H3 e3 A=>?_;rw [show gP ((ls++[ra]).map Rl.shape) none (some (-1))=ls.map Rl.shape by rw [QF];exact tD _ _] at A;left;refine YT (x:=ra.shape) A (by right) (Sl ls ra) λw4 L=>?_;left;rename_i q5 H5 e5 T q6 H6 e6 I;refine .inl (xU (xs:=ls.map Rl.shape) (zs:=[(Rl.ranks ra).shape]) I (I.vwC (by right)) (I.vwC (by right)) (by have:=WT ls;rw [Qa];show _+1<=1000;omega) λq7 H7 e7 D=>?_);left;exact fin q7 ls (Rl.ranks ra) _ _ _ H7 (λr hr=>Lh r (by simp [hr])) O (by simp only [nd];omega) (D.weak (by walk_at "sub") (by walk_at "dats"))
  intro _;left;refine' if3 ?gh3 ?gi3 ?gk3 ?gn3
  case gh3=>
   intro z;left;exact z
  case gi3=>
   intro z;left;exact z
  case gk3=>
   intro Z C _;have C:=QD C;rw [Qa] at C;left;obtain ⟨ls,ra,s,rfl⟩:=two rs (by omega);have O:=Lh ra (by simp);have ob:=Lh s (by simp);have nn:ndS (ls++[ra,s])=ndS ls+nd ra+nd s:=by rw [show ls++[ra,s]=ls++[ra]++[s] by simp,Yi,Yi]
   refine ff M (by right) λq3 H3 e3 A=>?_;rw [show gP ((ls++[ra,s]).map Rl.shape) none (some (-2))=ls.map Rl.shape by rw [QF];exact lL _ _ _] at A;left;refine YT (x:=ra.shape) A (by right) (at2 ls ra s).1 λw4 L=>?_;left;refine YT (x:=s.shape) L (by right) (at2 ls ra s).2 λw5 T=>?_;left;rename_i q6 H6 e6 I q7 H7 e7 D;refine .inl (xU (xs:=ls.map Rl.shape) (zs:=[(Rl.groups ra s).shape]) D (D.vwC (by right)) (D.vwC (by right)) (by have:=WT ls;rw [Qa];show _+1<=1000;omega) λq8 H8 e8 S8=>?_);left;exact fin q8 ls (Rl.groups ra s) _ _ _ H8 (λr hr=>Lh r (by simp [hr])) ⟨O,ob⟩ (by simp only [nd];omega) (S8.weak (by walk_at "sub") (by walk_at "dats"))
  intro _;left;refine' if2 ?gh4 ?gk4 ?gn4
  case gh4=>
   intro z;left;exact z
  case gk4=>
   intro Z C;have C:=QD C;rw [Qa] at C;left;obtain ⟨ls,ra,s,rfl⟩:=two rs (by omega);have O:=Lh ra (by simp);have ob:=Lh s (by simp);have nn:ndS (ls++[ra,s])=ndS ls+nd ra+nd s:=by rw [show ls++[ra,s]=ls++[ra]++[s] by simp,Yi,Yi]
   refine ff M (by right) λq3 H3 e3 A=>?_;rw [show gP ((ls++[ra,s]).map Rl.shape) none (some (-2))=ls.map Rl.shape by rw [QF];exact lL _ _ _] at A;left;refine DU A λwp Hp t b sm ep Sp=>?_;left;refine YT (x:=ra.shape) Sp (by right) (at2 ls ra s).1 λw4 L=>?_;left;refine YT (x:=s.shape) L (by right) (at2 ls ra s).2 λw5 T=>?_;left;rename_i q6 H6 e6 I q7 H7 e7 D;refine .inl (xU (xs:=ls.map Rl.shape) (zs:=[(Rl.upto t b ra s).shape]) D (D.vwC (by right)) (D.vwC (by right)) (by have:=WT ls;rw [Qa];show _+1<=1000;omega) λq8 H8 e8 S8=>?_);left;exact fin q8 ls (Rl.upto t b ra s) _ _ _ H8 (λr hr=>Lh r (by simp [hr])) ⟨sm.ps,O,ob⟩ (by simp only [nd];omega) (S8.weak (by walk_at "sub") (by walk_at "dats"))
  intro _;left;refine DX M λw3 H3 n e3 A=>?_;left;refine xw (y:=(iB n).shape) A ‹_› (by rw [Qa];omega) λH4 L=>?_;left;exact fin p rs (iB n) _ _ _ H4 Lh (Cg n).1 (by rw [(Cg n).2];omega) (L.dat (by walk_at "dats"))
 ·rintro σ H2 cs ds ⟨rs,p,Y,X,U,rfl,rfl,rfl,Lh,Ob⟩ M
  rw [Qa] at Ob;have ll:=WT rs;left;rw [Qa];refine Yc (λZ=>?_) (λZ=>?_)
  ·left;exact iV (r:= .halves) (by assumption) k ‹_› ⟨0,1,λt=>JOk.of (r:= .halves) trivial (by decide),by decide,by decide⟩
  obtain ⟨ls,y,rfl⟩:=one rs (by omega);have nn:=Yi ls y;left;refine mE (λm σ cs ds=>∃(ls:List Rl) (y:Rl) (p:Addr) (j N:Nat),σ=[some v,some (.bl g),some (.ref p),Y,X,U]/\cs=[(p,(ls++[y]).map Rl.shape)]/\ds=[(eZ ns,v)]/\(∀r∈ls,PS6 r)/\(∀t,JOk t j N y)/\j+ls.length<=5/\N+ndS ls<=6/\m=ls.length) _ M ⟨ls,y,p,0,nd y,rfl,rfl,rfl,λr hr=>Lh r (by simp [hr]),λt=>JOk.of (Lh y (by simp)) (by omega),by rw [Qr,Tx] at ll;omega,by omega,rfl⟩ ?_;clear Lh Ob M ll nn Z
  rintro m σ H3 cs ds ⟨ls,y,p,j,N,rfl,rfl,rfl,Lh,hy,hj,hN,rfl⟩ A
  left;rw [Qa,Qr,Tx];refine uC (λc=>?_) (λc=>?_)
  ·have c:0<ls.length:=by
    have:=QD c;omega
   obtain ⟨ls,ra,rfl⟩:=one ls c;have O:=Lh ra (by simp);have nn:=Yi ls ra;have pa:=fB ra;have ll:=WT ls;rw [Qr,Tx] at hj;rw [show ls++[ra]++[y]=ls++[ra,y] by simp] at A;have hb:(((ls++[ra,y]).map Rl.shape).length:Int)=ls.length+2:=by rw [Qa,Qr];rfl
   left;refine ff A (by right) λq4 H4 e4 L=>?_;rw [show gP ((ls++[ra,y]).map Rl.shape) none (some (-2))=ls.map Rl.shape by rw [QF];exact lL _ _ _] at L;left;rename_i q5 H5 e5 T;rw [hb] at T;refine YT (x:=ra.shape) T (by right) (at2 ls ra y).1 λw6 I=>?_;left;refine YT (x:=y.shape) I (by right) (at2 ls ra y).2 λw7 D=>?_;left;rename_i q8 H8 e8 S8 q9 H9 e9 S9;refine .inl (xU (xs:=ls.map Rl.shape) (zs:=[(Rl.upto 1 (1+((ls.length:Int)+2)) ra y).shape]) S9 (S9.vwC (by right)) (S9.vwC (by right)) (by rw [Qa];show _+1<=1000;omega) λqa Ha ea Sa=>?_);left;have po:ah 1 (1+((ls.length:Int)+2)):=⟨⟨by unfold Sz;omega,by unfold Sz;omega⟩,by omega,by omega,Int.gcd_one_left _⟩;refine ⟨ls.length,by simp,_,_,Sa.weak (cs':=[(qa,ls.map Rl.shape++[(Rl.upto 1 (1+((ls.length:Int)+2)) ra y).shape])]) (ds':=[(eZ ns,v)]) (by walk_at "sub") (by walk_at "dats"),ls,_,qa,j+1,nd ra+N,rfl,by rw [QF];rfl,rfl,λr hr=>Lh r (by simp [hr]),λt=>JOk.join po (GG (by omega) (by omega)) (JOk.of O (by omega)) (hy t),by omega,by omega,rfl⟩
  ·have c:ls=[]:=by
    have:=of_decide_eq_false c;exact List.length_eq_zero_iff.mp (by omega)
   subst c;left;refine YT (x:=y.shape) A (by right) rfl λw4 L=>?_;exact iV (r:=y) L k ‹_› ⟨j,N,hy,by omega,by omega⟩
local macro_rules|`(tactic|walk_at "rd")=>`(tactic|first|fail "&188"|fail)
section
variable {A:RAd} {cC cP cL cD:Addr}
abbrev kq:Stmt:=top 88
theorem sc_law:FnScope ["_law_script","_law_first","_law_many","_law_claims_here","_law_rule_here","_law_cell","_law_bad","_law_below","_law_place","_law_division","_law_whole","_law_kind","_law_good","_law_thing"] ["_law_script"] (zk kq):=xC
theorem ok_law {fS fT Ye:Addr} (B:Bl mg) (Ks:∀r:Rl,ROk K fS fT Ye (A.cls r)) (mj:Cal P w K mg base CX0 1 "_law_cell_at" pay (rS K)) (Hm:Cal P w K mg base CX0 2 "_law_claims" pam (ef K)) (Jk:Cal P w K mg base CX0 2 "_law_shape" paI jH) (wa:Cal P w K mg base CX0 11 "_law_rule" paz (jJ A 7)) (Hk:Cal P w K mg base CX0 2 "_law_lowest" paL jQ) (wq:Cal P w K mg base CX0 1 "_law_bad_claims" pag wZ) (uk:Cal P w K mg base CX0 1 "_law_bad_division" pag wY) (Ge:Cal P w K mg base CX0 27 "_law_refusal" paa (Hw A 7 cC cP cL cD)) (F:Fun K "law" "law" kq f fd):FnOk P w K mg base CX0 28 f fd ["_law_script"] (DF K):=by
 refine F.oo sc_law λH vs Q E hr nd0 h=>?_;obtain ⟨a,ns,rfl,hS,hlen,_,q⟩:=h;have S:Sta H H H [] []:=Sta.enter (zH.refl _) λp hp=>absurd hp Qx;walk_at "=fj1gab0adcfj2wdtb1dfj3gab0adab2aMddcfj4gagaIb0HdHdaPccfj5gab0adcfj6gab3ab5cfj7gaLAdtgab0adcMddawdtb5dcfj8praLAdtb5Mddawb2tb5MddctGb5ddfj9gab3agab0adccfjaga*/aC_law_claim;1;yb3v0zh0cadcfJ?adcFbfjdprarcarcarab8cab9cbbflnQogabbab4ab6ab7abdcrauckeiPqelSVΔbbmadadcYnQogabbab4ab3ab7abdcrauckeiPqflnQogadab4ab3abaaradab8ccrauckeiPqflnQogadab4ab3abaab9crauckeiPqf2c_law_claim;1;yb3v0zmah0adcfJ?adcFbelnQogabbab4ab3abaaprarcarcaradcabccbbcrckeiPqeiP";left;generalize Vd ns 0=c at*;have OL:(10:Int) ^ Int.toNat 6<=10 ^ 46/\(10:Int)<=10 ^ Int.toNat 6/\(10:Int) ^ Int.toNat 6<=2 ^ 20:=by decide+kernel
 refine uJ S hS ⟨by decide,by omega,by omega,OL.2.1,OL.1⟩ λl g H3 hl PF e3 S3=>?_;have KD:ClS 23 l:=PF.S (s:=20) (by omega) OL.2.2;have few:=PF.few;have pos:=KD.pos;have em:1+c % 8=((l.length:Nat):Int):=by omega
 rw [em];clear hl PF OL;have S4:Sta H H H3 [] [(zo l, .ref g)]:=S3.freeze;clear S3 S
 have Oo:(cutI ns (some 1) (some 7)).length<=6:=by
  unfold cutI;rw [Tr,show HT.sIx ns.length ns.length (some 7)=min 7 ns.length from HT.sIx_nat _ _ 7,show HT.sIx ns.length 0 (some 1)=min 1 ns.length from HT.sIx_nat _ _ 1];omega
 left;refine rd_slS S4 (S4.base.seq hS) λp5 H5 e5 S5=>?_;left;refine Az S5.freeze ‹_› Oo λw6 H6 r dr e6 S6=>?_;obtain ⟨j,N,hJ,hj,hN⟩:=dr;obtain ⟨ru,_,hdp⟩:=(hJ 24).ru (by decide) hj hN;have T:Gd 7 r l:=⟨ru,hdp,KD⟩;left;refine XZ (A:=A) (r:=r) S6 ‹_› hdp λm H7 e7 S7'=>?_;have S7:Sta H H H7 [] [(r.ins A,m),(zo l, .ref g)]:=S7'.dat (by walk_at "dats");clear S7' S6 S5 S4 Oo;have hS7:SqL K H7 a (ns.map V.int):=S7.base.seq hS;left;generalize Vd ns 7=d at*;refine HV S7 ‹_› ⟨pos,few⟩ λC L H8 bad e8 S8=>?_;have hS8:SqL K H8 a (ns.map V.int):=S8.base.seq hS;clear hS7;have SI:(0:Int)<10 ^ Int.toNat 30:=by decide+kernel
 left;have x8:=jad (Vd ns 8) (Int.ne_of_gt SI);generalize Vd ns 8 % 10 ^ Int.toNat 30=x at*;refine nB S8 (by omega) (Gp ⟨by omega,by omega⟩) λt H9 e9 S9=>?_;have ng:=EX (x:= -1 - x) (j:=1+d % 7) (by omega) (by omega);generalize Rat.divInt (-1 - x) (1+d % 7)=G at*;left;rename_i OM LM OC KZ;have MN:=jad d (Int.ne_of_gt SI)
 obtain ⟨pl,Pl,KU⟩:∃pl:Int,atI [PyData.int (-1 - d % 10 ^ Int.toNat 30), .int ((l.length:Int)+d % 10 ^ Int.toNat 30)] (d / 7 % 2)=some (.int pl)/\(pl<0\/(l.length:Int)<=pl):=by
  rcases (by omega:d / 7 % 2=0\/d / 7 % 2=1) with h|h<;>rw [h]
  ·exact ⟨_,rfl,by omega⟩
  ·exact ⟨_,rfl,by omega⟩
 refine kH KZ (by right) Pl ?_;have Ln:Sta H H LM [] [(frD G,t),(zo L,C),(r.ins A,m),(zo l, .ref g)]:=KZ.dropC;have RV:SqL K LM a (ns.map V.int):=Ln.base.seq hS;clear KZ S9 S8 S7 hS8 Pl MN x8;left;generalize Vd ns 9=d9 at*;refine HU Ln ‹_› KD λM ps OG bd Si LC=>?_;clear Ln RV;left;refine yt (xs:=l.map zB) LC ‹_› λJ I=>?_;refine xK I (λj=> .int (l.getD j (0,0,0)).1) (ys:=(amV l).map PyData.int) (by unfold amV;rw [Qa,QI];exact zF (λc:Cl=>PyData.int c.1) (0,0,0) l) LC (λj x v=>λY t1 S hd=>?_) λD13 H13 e13 LU=>?_
 ·obtain ⟨c,hc,rfl⟩:=ya Y;refine zQ ⟨rfl,?_⟩;left;refine hd (by assumption) ?_;rw [yg hc];exact Has.int
 left;refine nB LU (by decide) (Gp ⟨by decide,by decide⟩) λO Ss e14 X=>?_;have Mj:Sta H H Ss [] [(frD (Rat.divInt (amV l).sum 2),O),(.list (ps.map frD),M),(frD G,t),(zo L,C),(r.ins A,m),(zo l, .ref g)]:=X.dropC;clear X LU LC I J;have ge:=KD.half;generalize Rat.divInt (amV l).sum 2=D at*;left;refine nD H H (by decide) (by decide) λJ I=>?_;refine Zo I (λi σ cs ds=>(∃NJ NI,σ=[some (.ref a),some (.int c),some (.int (l.length:Nat)),some (.ref g),some m,some (.int d),some C,some t,some (.int pl),some M,some O,NJ,none,NI])/\cs=[]/\ds=[(frD D,O),(.list (ps.map frD),M),(frD G,t),(zo L,C),(r.ins A,m),(zo l, .ref g)]) Mj ⟨⟨_,_,rfl⟩,rfl,rfl⟩ (λ_ _ _ _ _=>trivial) ?_ ?_
 ·rintro i x u σ OF cs ds Y ⟨⟨NJ,NI,rfl⟩,rfl,rfl⟩ Lz
  obtain ⟨hi,rfl⟩:=YC Y;cases Lz.int1;have Lz:=Lz.drop1;clear Mj;left;rename_i q1 G1 i1 T1 q2 G2 i2 T2 q3 G3 i3 T3;refine AG T3.freeze.freeze.freeze (.cons ‹_› (.cons ‹_› (.cons ‹_› (.cons ‹_› .nil)))) (by show 4<=1000;decide) λq4 G4 i4 T4=>?_;left
  obtain ⟨th,Rb⟩:∃th,atI [PyData.list [], .list [], .list [.int pl], .list (ps.map frD)] (0+(i:Int))=some th:=by
   rcases (by omega:i=0\/i=1\/i=2\/i=3) with rfl|rfl|rfl|rfl<;>exact ⟨_,rfl⟩
  refine YT (x:=th) T4 (by right) Rb λSy T16=>?_;have Mo:Sta H H G4 [] [(th,Sy),(frD D,O),(.list (ps.map frD),M),(frD G,t),(zo L,C),(r.ins A,m),(zo l, .ref g)]:=T16.weak (by walk_at "sub") (by walk_at "dats");clear T16 T4 T3 T2 T1 Lz;left;refine nr (r:=r) (l:=L) (e:=G) (th:=th) (R:=some cC) (s:=some "NoClaims") Mo ‹_› ‹_› ‹_› ‹_› ⟨⟨by omega,by omega⟩, .inl ⟨rfl,bad⟩⟩ ⟨_,rfl, .inl ⟨rfl,rfl⟩⟩ λSx H17 e17 Nt=>?_;left;rename_i q18 Sr e18 U;refine iY (x:= .list [.str "NoClaims"]) (y:= .list [.str "NoClaims"]) (U.hp ‹_›) (U.hpC (by right)) (by decide+kernel) (by decide+kernel) ?_;rw [show PyData.eqv (.list [.str "NoClaims"]) (.list [.str "NoClaims"])=true from by decide+kernel];have Nr:Sta H H Sr [] [(th,Sy),(frD D,O),(.list (ps.map frD),M),(frD G,t),(zo L,C),(r.ins A,m),(zo l, .ref g)]:=U.weak (by walk_at "sub") (by walk_at "dats");clear U Nt Mo;left;rename_i q20 H20 e20 Nq;refine rd_inT (ns:=[1,2]) Nq ‹_› ?_;refine ⟨_,rfl,?_⟩
  by_cases z:(0+(i:Int))∈[1,2]
  ·rw [Tp z];refine Eq.mpr (QH (by decide)) ?_;have k12:0+(i:Int)=1\/0+(i:Int)=2:=by simpa using z
   left;refine nr (r:=r) (l:=l) (e:=G) (th:=th) (R:=some cP) (s:=some "NoPurse") Nq ‹_› ‹_› ‹_› ‹_› ⟨⟨by omega,by omega⟩, .inr (.inl ⟨rfl,T,ng,k12⟩)⟩ ⟨_,rfl, .inr (.inl ⟨rfl,rfl⟩)⟩ λw21 Sq e21 Np=>?_;left;rename_i q22 H22 e22 Z;refine iY (x:= .list [.str "NoPurse"]) (y:= .list [.str "NoPurse"]) (Z.hp ‹_›) (Z.hpC (by right)) (by decide+kernel) (by decide+kernel) ?_;rw [show PyData.eqv (.list [.str "NoPurse"]) (.list [.str "NoPurse"])=true from by decide+kernel];left;exact Xs (Z.weak (by walk_at "sub") (by walk_at "dats")) ⟨⟨_,_,rfl⟩,rfl,rfl⟩
  ·rw [Tb z];refine Eq.mpr (QS (by decide)) ?_;left;exact Xs (Nq.weak (by walk_at "sub") (by walk_at "dats")) ⟨⟨_,_,rfl⟩,rfl,rfl⟩
 rintro σ OF cs ds ⟨⟨NJ,NI,rfl⟩,rfl,rfl⟩ Lz
 clear Mj I J;left;rename_i q16 H16 e16 Mo;refine nr (r:=r) (l:=l) (e:=D) (th:=eZ [0,pl]) (R:=some cL) (s:=some "NoPlace") Mo.freeze ‹_› ‹_› ‹_› ‹_› ⟨⟨by decide,by decide⟩, .inr (.inr (.inl ⟨[0,pl],rfl,T,ge,rfl,rfl,pl,by simp,KU⟩))⟩ ⟨_,rfl, .inr (.inr (.inl ⟨rfl,rfl⟩))⟩ λSx H17 e17 Nt=>?_;left;rename_i q18 Sr e18 U;refine iY (x:= .list [.str "NoPlace"]) (y:= .list [.str "NoPlace"]) (U.hp ‹_›) (U.hpC (by right)) (by decide+kernel) (by decide+kernel) ?_;rw [show PyData.eqv (.list [.str "NoPlace"]) (.list [.str "NoPlace"])=true from by decide+kernel];have Nr:Sta H H Sr [] [(frD D,O),(.list (ps.map frD),M),(frD G,t),(zo L,C),(r.ins A,m),(zo l, .ref g)]:=U.weak (by walk_at "sub") (by walk_at "dats");clear U Nt Mo Lz;left;refine nr (r:=r) (l:=l) (e:=D) (th:= .list (ps.map frD)) (R:=some cD) (s:=some "NoDivision") Nr ‹_› ‹_› ‹_› ‹_› ⟨⟨by decide,by decide⟩, .inr (.inr (.inr (.inl ⟨ps,rfl,T,rfl,rfl,bd.2.1,bd.2.2,bd.1⟩)))⟩ ⟨_,rfl, .inr (.inr (.inr ⟨rfl,rfl⟩))⟩ λw20 H20 e20 Nq=>?_;left;rename_i q21 Sq e21 Np;refine iY (x:= .list [.str "NoDivision"]) (y:= .list [.str "NoDivision"]) (Np.hp ‹_›) (Np.hpC (by right)) (by decide+kernel) (by decide+kernel) ?_;rw [show PyData.eqv (.list [.str "NoDivision"]) (.list [.str "NoDivision"])=true from by decide+kernel];have Z:Sta H H Sq [] [(frD D,O),(.list (ps.map frD),M),(frD G,t),(zo L,C),(r.ins A,m),(zo l, .ref g)]:=Np.weak (by walk_at "sub") (by walk_at "dats");clear Np Nq Nr;left;refine yt (xs:=l.map zB) Z ‹_› λJ I=>?_;refine xK I (λj=>frD (((l.getD j (0,0,0)).1:Int):Rat)) (ys:=(amQ l).map frD) (by rw [Qa];exact CH l) Z (λj x v=>λY t1 S hd=>?_) λOI H23 e23 S23=>?_
 ·obtain ⟨c,hc,rfl⟩:=ya Y;refine zQ ⟨rfl,?_⟩;left;refine hd (by assumption) ?_;rw [yg hc];exact .mem (by right)
 have S24:=S23.freeze;clear S23 Z I J;left;refine nD H H (by decide) (by decide) λJ I=>?_;refine Zo I (λi σ cs ds=>(∃NJ NI,σ=[some (.ref a),some (.int c),some (.int (l.length:Nat)),some (.ref g),some m,some (.int d),some C,some t,some (.int pl),some M,some O,NJ,some (.ref OI),NI])/\cs=[]/\ds=[(.list ((amQ l).map frD), .ref OI),(frD D,O),(.list (ps.map frD),M),(frD G,t),(zo L,C),(r.ins A,m),(zo l, .ref g)]) S24 ⟨⟨_,_,rfl⟩,rfl,rfl⟩ (λ_ _ _ _ _=>trivial) ?_ ?_
 ·rintro i x u σ H25 cs ds Y ⟨⟨Sv,y13,rfl⟩,rfl,rfl⟩ OE
  obtain ⟨hi,rfl⟩:=YC Y;cases OE.int1;have OE:=OE.drop1;clear S24;left;rename_i q1 G1 i1 T1 q2 G2 i2 T2 q3 G3 i3 T3;refine AG T3.freeze.freeze.freeze (.cons ‹_› (.cons ‹_› (.cons ‹_› (.cons ‹_› .nil)))) (by show 4<=1000;decide) λq4 G4 i4 T4=>?_;left
  obtain ⟨th,Rb,o⟩:∃th,atI [PyData.list [], .list [], .list [.int 0], .list ((amQ l).map frD)] (0+(i:Int))=some th/\gD 7 cC cP cL cD (0+(i:Int)) r l D th none:=by
   have z4:=left0 T.ru T.cl.up1 ge.1 ge.2.dq (by decide)
   rcases (by omega:i=0\/i=1\/i=2\/i=3) with rfl|rfl|rfl|rfl
   ·exact ⟨_,rfl,⟨by decide,by decide⟩, .inr (.inr (.inr (.inr ⟨rfl,T,ge, .inl rfl⟩)))⟩
   ·exact ⟨_,rfl,⟨by decide,by decide⟩, .inr (.inr (.inr (.inr ⟨rfl,T,ge, .inr (.inl rfl)⟩)))⟩
   ·exact ⟨_,rfl,⟨by decide,by decide⟩, .inr (.inr (.inr (.inr ⟨rfl,T,ge, .inr (.inr (.inl ⟨rfl,[0],rfl,λp hp=>by rw [Qv.mp hp];omega,by decide,z4⟩))⟩)))⟩
   ·exact ⟨_,rfl,⟨by decide,by decide⟩, .inr (.inr (.inr (.inr ⟨rfl,T,ge, .inr (.inr (.inr ⟨rfl,amQ l,rfl,λp hp=>(Hc KD (by decide) p hp).mono (by decide),by rw [xZ];omega,Fv KD⟩))⟩)))⟩
  refine YT (x:=th) T4 (by right) Rb λw26 T26=>?_;have S26:Sta H H G4 [] [(th,w26),(.list ((amQ l).map frD), .ref OI),(frD D,O),(.list (ps.map frD),M),(frD G,t),(zo L,C),(r.ins A,m),(zo l, .ref g)]:=T26.weak (by walk_at "sub") (by walk_at "dats");clear T26 T4 T3 T2 T1 OE;left;refine nr (r:=r) (l:=l) (e:=D) (th:=th) (R:=none) (s:=none) S26 ‹_› ‹_› ‹_› ‹_› o rfl λw27 H27 e27 S27=>?_;left;rename_i q28 H28 e28 Sm;refine iY (x:= .list []) (y:= .list []) (Sm.hp ‹_›) (Sm.hpC (by right)) (by decide+kernel) (by decide+kernel) ?_;rw [show PyData.eqv (.list []) (.list [])=true from by decide+kernel];left;exact Xs (Sm.weak (by walk_at "sub") (by walk_at "dats")) ⟨⟨_,_,rfl⟩,rfl,rfl⟩
 rintro σ H25 cs ds ⟨⟨Sv,y13,rfl⟩,rfl,rfl⟩ OE
 left;exact q _
end
end
theorem all_mk {l:PySem.W.OpenLaw} {w:World} {K:PySem.W.Frag} {h:Heap} {mg:Str->Option Value} {fa:Addr} (X:K.In h) (G:h.Ns mainGlobals mg) (hfa:mg "law"=some (.ref fa))
 {f1 f2 f3 f4 f5 f6 f7 f8 f9 f10 f11 f12 f13 f14 f15 f16 f17 f18 f19 f20 f21 f22 f23 f24 f25 f26 f27 f28 f29 f30 f31 f32 f33 f34 f35 f36 f37 f38 f39 f40 f41 f42 f43 f44 f45 f46 f47 f48 f49 f50 f51 f52 f53 f54 f55 f56 f57 f58 f59 f60 f61 Se:Addr} {d1 d2 d3 d4 d5 d6 d7 d8 d9 d10 d11 d12 d13 d14 d15 d16 d17 d18 d19 d20 d21 d22 d23 d24 d25 d26 d27 d28 d29 d30 d31 d32 d33 d34 d35 d36 d37 d38 d39 d40 d41 d42 d43 d44 d45 d46 d47 d48 d49 d50 d51 d52 d53 d54 d55 d56 d57 d58 d59 d60 d61:FuncData} {od62 an62:Option Addr} {sl62:Array (Option Value)} {oc62 kV62 dc62 pm62 cd62 ct62:Value}
 (D1:DkT K mg "check_claims" ZJ f1 d1 pai)
 (D2:DkT K mg "those_at" aJ f2 d2 pas)
 (D3:DkT K mg "places_of_rank" ZU f3 d3 paN)
 (D4:DkT K mg "places_of_group" Zs f4 d4 paj)
 (D5:DkT K mg "as_one_claim" Xi f5 d5 paj)
 (D6:DkT K mg "plus" rV f6 d6 pab)
 (D7:DkT K mg "minus" pZ f7 d7 pab)
 (D8:DkT K mg "times" pY f8 d8 pab)
 (D9:DkT K mg "over" Aq f9 d9 pab)
 (D10:DkT K mg "before" kz f10 d10 pab)
 (D11:DkT K mg "is_whole" aM f11 d11 ["number"])
 (D12:DkT K mg "lowest" dc f12 d12 pav)
 (D13:DkT K mg "greatest_divisor" Zf f13 d13 pab)
 (D14:DkT K mg "staying" eS f14 d14 paD)
 (D15:DkT K mg "pair_off" Vn f15 d15 paE)
 (D16:DkT K mg "check_places" Xh f16 d16 ["places","count"])
 (D17:DkT K mg "check_division" ZW f17 d17 paS)
 (D18:DkT K mg "total" pX f18 d18 ["numbers"])
 (D19:DkT K mg "thinned" eR f19 d19 ["corners"])
 (D20:DkT K mg "parts_at" Vm f20 d20 paC)
 (D21:DkT K mg "turned" kd f21 d21 ["path"])
 (D22:DkT K mg "scaled" ki f22 d22 paT)
 (OI:DkT K mg "behind" kv f23 d23 paM)
 (D24:DkT K mg "within" jZ f24 d24 paV)
 (D25:DkT K mg "is_straight" XX f25 d25 paF)
 (D26:DkT K mg "gap" HG f26 d26 pab)
 (D27:DkT K mg "parts_between" Yw f27 d27 paR)
 (D28:DkT K mg "portion_reached" Zr f28 d28 paw)
 (D29:DkT K mg "amount_at" Ui f29 d29 pau)
 (D30:DkT K mg "plus_each" Ub f30 d30 pak)
 (D31:DkT K mg "less_each" Uc f31 d31 pak)
 (D32:DkT K mg "last_reached" Xg f32 d32 paO)
 (D33:DkT K mg "purses_reaching" Zq f33 d33 paP)
 (D34:DkT K mg "parts_within" Xf f34 d34 paQ)
 (D35:DkT K mg "merged" km f35 d35 pak)
 (D36:DkT K mg "course" ku f36 d36 paq)
 (D37:DkT K mg "shares" kh f37 d37 pai)
 (D38:DkT K mg "evenly" kr f38 d38 pai)
 (D39:DkT K mg "losses" ko f39 d39 pai)
 (D40:DkT K mg "ranks" kj f40 d40 paU)
 (D41:DkT K mg "groups" df f41 d41 paB)
 (D42:DkT K mg "upto" Ap f42 d42 paA)
 (D43:DkT K mg "nothing" eU f43 d43 ["count"])
 (D44:DkT K mg "whole_corner" Xd f44 d44 ["parts"])
 (D45:DkT K mg "spread" kf f45 d45 pao)
 (D46:DkT K mg "spread_parts" Xe f46 d46 paJ)
 (D47:DkT K mg "_law_cell_at" XW f47 d47 pay)
 (D48:DkT K mg "_law_mixed" Ue f48 d48 paK)
 (D49:DkT K mg "_law_divisor" XU f49 d49 paH)
 (D50:DkT K mg "_law_lowest" WI f50 d50 paL)
 (D51:DkT K mg "_law_labels" WJ f51 d51 ["_law_number"])
 (D52:DkT K mg "_law_claims" WK f52 d52 pam)
 (D53:DkT K mg "_law_portion" XT f53 d53 paG)
 (D54:DkT K mg "_law_leaf" aL f54 d54 paG)
 (D55:DkT K mg "_law_shape" Ud f55 d55 paI)
 (D56:DkT K mg "_law_rule" aK f56 d56 paz)
 (D57:DkT K mg "_law_kinds" Ug f57 d57 ["_law_e"])
 (D58:DkT K mg "_law_asked" Uh f58 d58 paa)
 (D59:DkT K mg "_law_refusal" XS f59 d59 paa)
 (D60:DkT K mg "_law_bad_claims" ZV f60 d60 pag)
 (D61:DkT K mg "_law_bad_division" Ze f61 d61 pag)
 (a62:PySem.W.nsIn K mainGlobals "law"=some (some (.ref Se))) (l62:K.lookup Se=some ⟨oc62,od62, .func (PySem.W.fnOf "law" "law" (ZZ kq) (xX kq) (zk kq) .none kV62 dc62 pm62 an62 cd62 ct62),sl62⟩) (c62:PySem.W.codeIn K cd62 "law"=true) (k62:PySem.W.keepIn K (.ref Se)=true)
 {Ye Vy VC Vz VA bw bu VB jq Vc yn yG yH yo Xy XD Xz XA Wq Wo XC Vb:Addr} {gn ox qM qN oy bj bt bo bp cH cG bq gm:FuncData} {t_MOST:Tok} (Js:PySem.W.nsIn K mainGlobals "Rule"=some (some (.ref Ye))) (yC:PySem.W.findCls K (.ref Ye) (.type "type") "__init__"=some (.val (.ref Vc)))
 (Dq:PySem.W.nsIn K mainGlobals "Shares"=some (some (.ref Vy)))
 (Du:PySem.W.nsIn K mainGlobals "Evenly"=some (some (.ref VC)))
 (Dr:PySem.W.nsIn K mainGlobals "Losses"=some (some (.ref Vz)))
 (Ds:PySem.W.nsIn K mainGlobals "Halves"=some (some (.ref VA)))
 (Hq:PySem.W.nsIn K mainGlobals "Other"=some (some (.ref bw)))
 (Ho:PySem.W.nsIn K mainGlobals "Ranks"=some (some (.ref bu)))
 (Dt:PySem.W.nsIn K mainGlobals "Groups"=some (some (.ref VB)))
 (Jr:PySem.W.nsIn K mainGlobals "Upto"=some (some (.ref jq)))
 (lY:CkT K Vy Xy Ye yn yG yH yo)
 (mh:CkT K VC XD Ye yn yG yH yo)
 (lZ:CkT K Vz Xz Ye yn yG yH yo)
 (md:CkT K VA XA Ye yn yG yH yo)
 (rD:CkT K bw Wq Ye yn yG yH yo)
 (rC:CkT K bu Wo Ye yn yG yH yo)
 (mf:CkT K VB XC Ye yn yG yH yo)
 (CI:CkT K jq Vb Ye yn yG yH yo)
 (gC:FkT K "__init__" "Rule.__init__" Yy Vc gn paf)
 (oQ:FkT K "shape" "Rule.shape" WL yn ox pae)
 (rA:FkT K "text" "Rule.text" eV yG qM pae)
 (rB:FkT K "path" "Rule.path" XY yH qN pah)
 (oR:FkT K "parts" "Rule.parts" ZQ yo oy pac)
 (bH:FkT K "__init__" "Shares.__init__" Zt Xy bj pae)
 (bL:FkT K "__init__" "Evenly.__init__" Zx XD bt pae)
 (bI:FkT K "__init__" "Losses.__init__" Zu Xz bo pae)
 (bJ:FkT K "__init__" "Halves.__init__" Zv XA bp pae)
 (cQ:FkT K "__init__" "Other.__init__" ZY Wq cH pan)
 (cO:FkT K "__init__" "Ranks.__init__" ZX Wo cG pan)
 (bK:FkT K "__init__" "Groups.__init__" Zw XC bq pax)
 (gB:FkT K "__init__" "Upto.__init__" Yx Vb gm pal)
 (xl:PySem.W.isFn K (.ref yn)=true) (xF:PySem.W.isFn K (.ref yG)=true) (xG:PySem.W.isFn K (.ref yH)=true) (xm:PySem.W.isFn K (.ref yo)=true) (x_MOST:PySem.W.nsIn K mainGlobals "MOST"=some (some (.int 8 t_MOST)))
 (WB:PySem.W.specialIn K (.ref Ye) "__getattribute__"=some (some (.builtin "type.__getattribute__"))) (WO:PySem.W.readsIn K Ye (.type "type")=true) (Mm:PySem.W.specialIn K (.builtin "object.__class__") "__get__"=some (some (.builtin "getset_descriptor.__get__"))) (MB:PySem.W.takesIn K (.builtin "object.__class__")=some true)
 {zW yp Y Z xS zX zz:Addr} (mD:PySem.W.nsIn K mainGlobals "PurseError"=some (some (.ref zW))) (YJ:PySem.W.nsIn K mainGlobals "NoFraction"=some (some (.ref yp))) (Wx:PySem.W.nsIn K mainGlobals "NoPurse"=some (some (.ref Y))) (Xp:PySem.W.nsIn K mainGlobals "NoClaims"=some (some (.ref Z))) (cU:PySem.W.nsIn K mainGlobals "NoRule"=some (some (.ref xS))) (Wy:PySem.W.nsIn K mainGlobals "NoPlace"=some (some (.ref zX))) (ZO:PySem.W.nsIn K mainGlobals "NoDivision"=some (some (.ref zz)))
 (qP:PySem.W.excIn K zW ZP "ValueError.__new__"=true) (mP:PySem.W.mroIn K zW (.type "BaseException")=some true)
 (p:XkT K Z zW yp Y Z xS zX zz false false true false false false)
 (u:XkT K Y zW yp Y Z xS zX zz false true false false false false)
 (y:XkT K zX zW yp Y Z xS zX zz false false false false true false)
 (g:XkT K zz zW yp Y Z xS zX zz false false false false false true) (B:Bl mg) (B2:Bl3 mg):
 ∃fd:FuncData,(∀(s:Shared) (v:Value),BindsTo s fd ⟨[v],[]⟩ [("_law_script",v)])/\∀base:Heap,K.In base->base.Ns mainGlobals mg->FnOk l.prog w K mg base CX0 28 fa fd ["_law_script"] (DF K):=by
 have e:=hfa.symm.trans (QC X G a62);cases e;obtain ⟨ZM,VN,VO⟩:=D1;obtain ⟨jv,vq,vU⟩:=D2;obtain ⟨Ws,cA,cI⟩:=D3;obtain ⟨XI,ba,bB⟩:=D4;obtain ⟨VU,iw,iJ⟩:=D5;obtain ⟨tZ,GC,GX⟩:=D6;obtain ⟨CN,IC,Ja⟩:=D7;obtain ⟨CM,IA,IX⟩:=D8;obtain ⟨Hg,JE,JN⟩:=D9;obtain ⟨uf,ER,FQ⟩:=D10;obtain ⟨jy,vx,vX⟩:=D11;obtain ⟨dB,sE,tK⟩:=D12;obtain ⟨Xb,UX,af⟩:=D13;obtain ⟨pd,BC,CB⟩:=D14;obtain ⟨bM,vt,vV⟩:=D15;obtain ⟨VT,iu,iI⟩:=D16;obtain ⟨Wu,cE,cK⟩:=D17;obtain ⟨CL,Iz,IW⟩:=D18;obtain ⟨oZ,BB,CA⟩:=D19;obtain ⟨VE,jf,js⟩:=D20;obtain ⟨tV,EG,FF⟩:=D21;obtain ⟨tY,EJ,FJ⟩:=D22;obtain ⟨ue,EO,FP⟩:=OI;obtain ⟨tU,EF,FE⟩:=D24;obtain ⟨au,lq,lU⟩:=D25;obtain ⟨JO,Kf,Kj⟩:=D26;obtain ⟨Ve,fJ,gv⟩:=D27;obtain ⟨XH,aZ,bA⟩:=D28;obtain ⟨gJ,qx,rh⟩:=D29;obtain ⟨gE,qp,qV⟩:=D30;obtain ⟨gF,qq,qW⟩:=D31;obtain ⟨VS,ir,iH⟩:=D32;obtain ⟨XG,aY,bz⟩:=D33;obtain ⟨VR,iq,iG⟩:=D34;obtain ⟨ua,EK,FK⟩:=D35;obtain ⟨ud,sF,tL⟩:=D36;obtain ⟨tX,EI,FI⟩:=D37;obtain ⟨uc,EN,FO⟩:=D38;obtain ⟨ub,EL,FL⟩:=D39;obtain ⟨Jg,IB,IZ⟩:=D40;obtain ⟨FZ,EM,FN⟩:=D41;obtain ⟨Hf,JD,JM⟩:=D42;obtain ⟨pf,BD,CC⟩:=D43;obtain ⟨VP,ik,iE⟩:=D44;obtain ⟨tW,EH,FH⟩:=D45;obtain ⟨VQ,ip,iF⟩:=D46;obtain ⟨ar,lp,lT⟩:=D47;obtain ⟨gH,qu,qY⟩:=D48;obtain ⟨aq,lj,lS⟩:=D49;obtain ⟨cq,nS,oN⟩:=D50;obtain ⟨cu,nU,oO⟩:=D51;obtain ⟨cv,nV,oP⟩:=D52;obtain ⟨ao,lh,lR⟩:=D53;obtain ⟨jx,vv,vW⟩:=D54;obtain ⟨gG,qt,qX⟩:=D55;obtain ⟨jw,jg,jt⟩:=D56;obtain ⟨YH,qv,qZ⟩:=D57;obtain ⟨gI,qw,rf⟩:=D58;obtain ⟨ak,kZ,lQ⟩:=D59;obtain ⟨Wt,cB,cJ⟩:=D60;obtain ⟨Xa,UW,ae⟩:=D61;have Kk:=oh (st:=kq) l62 c62 k62;refine ⟨PySem.W.fnOf "law" "law" (ZZ kq) (xX kq) (zk kq) .none kV62 dc62 pm62 an62 cd62 ct62,λs v=> .of_eq rfl,λbase C D=>?_⟩;obtain ⟨gM,yD,yB⟩:=gC;obtain ⟨ZT,xp,xn⟩:=oQ;obtain ⟨Jh,Jb,xH⟩:=rA;obtain ⟨xv,yN,xI⟩:=rB;obtain ⟨yr,yi,xo⟩:=oR;obtain ⟨bN,bC,vz⟩:=bH;obtain ⟨bR,bG,vD⟩:=bL;obtain ⟨bO,bD,vA⟩:=bI;obtain ⟨bP,bE,vB⟩:=bJ;obtain ⟨cS,cN,wo⟩:=cQ;obtain ⟨cR,cM,wm⟩:=cO;obtain ⟨bQ,bF,vC⟩:=bK;obtain ⟨gK,gw,BO⟩:=gB;have Yd:=QC C D Js;have g_MOST:=QC C D x_MOST;have sX:=QC C D Dq;have oU:=lY.MK;have Jt:=lY.ok xl xn xF xH Mm MB;have Jy:=lY.mp xG xI xm xo;have tf:=QC C D Du;have oY:=mh.MK;have Jx:=mh.ok xl xn xF xH Mm MB;have JC:=mh.mp xG xI xm xo;have sY:=QC C D Dr;have oV:=lZ.MK;have Ju:=lZ.ok xl xn xF xH Mm MB;have Jz:=lZ.mp xG xI xm xo;have sZ:=QC C D Ds;have oW:=md.MK;have Jv:=md.ok xl xn xF xH Mm MB;have JA:=md.mp xG xI xm xo;have Cc:=QC C D Hq;have tR:=rD.MK;have JR:=rD.ok xl xn xF xH Mm MB;have JT:=rD.mp xG xI xm xo;have Cb:=QC C D Ho;have tQ:=rC.MK;have JQ:=rC.ok xl xn xF xH Mm MB;have JS:=rC.mp xG xI xm xo;have td:=QC C D Dt;have oX:=mf.MK;have Jw:=mf.ok xl xn xF xH Mm MB;have JB:=mf.mp xG xI xm xo;have GO:=QC C D Jr;have CJ:=CI.MK;have Kc:=CI.ok xl xn xF xH Mm MB;have Ke:=CI.mp xG xI xm xo;have WZ:=QC C D mD;have O_NoClaims:PyProof.Rows.OwnCls "NoClaims" Z ZP "ValueError.__new__" mg base:=su C D Xp p.q;have hU_NoClaims:ag base Z zW:=cV C p.q qP p.m mP;have Z_NoClaims:Kd K mg Z yp Y Z xS zX zz false false true false false false:=⟨p.i,p.kV,QC C D YJ,QC C D Wx,QC C D Xp,QC C D cU,QC C D Wy,QC C D ZO,p.k1,p.k2,p.k3,p.k4,p.k5,p.k6⟩;have O_NoPurse:PyProof.Rows.OwnCls "NoPurse" Y ZP "ValueError.__new__" mg base:=su C D Wx u.q;have hU_NoPurse:ag base Y zW:=cV C u.q qP u.m mP;have Z_NoPurse:Kd K mg Y yp Y Z xS zX zz false true false false false false:=⟨u.i,u.kV,QC C D YJ,QC C D Wx,QC C D Xp,QC C D cU,QC C D Wy,QC C D ZO,u.k1,u.k2,u.k3,u.k4,u.k5,u.k6⟩;have O_NoPlace:PyProof.Rows.OwnCls "NoPlace" zX ZP "ValueError.__new__" mg base:=su C D Wy y.q;have hU_NoPlace:ag base zX zW:=cV C y.q qP y.m mP;have Z_NoPlace:Kd K mg zX yp Y Z xS zX zz false false false false true false:=⟨y.i,y.kV,QC C D YJ,QC C D Wx,QC C D Xp,QC C D cU,QC C D Wy,QC C D ZO,y.k1,y.k2,y.k3,y.k4,y.k5,y.k6⟩;have M:PyProof.Rows.OwnCls "NoDivision" zz ZP "ValueError.__new__" mg base:=su C D ZO g.q;have hU_NoDivision:ag base zz zW:=cV C g.q qP g.m mP;have L:Kd K mg zz yp Y Z xS zX zz false false false false false true:=⟨g.i,g.kV,QC C D YJ,QC C D Wx,QC C D Xp,QC C D cU,QC C D Wy,QC C D ZO,g.k1,g.k2,g.k3,g.k4,g.k5,g.k6⟩;have T:∀r:Rl,ROk K yn yG Ye ((⟨Vy,VC,Vz,VA,bw,bu,VB,jq⟩:RAd).cls r):=λr=>by cases r<;>assumption
 have KY:∀r:Rl,Meth K ((⟨Vy,VC,Vz,VA,bw,bu,VB,jq⟩:RAd).cls r) "path" yH/\Meth K ((⟨Vy,VC,Vz,VA,bw,bu,VB,jq⟩:RAd).cls r) "parts" yo:=λr=>by cases r<;>assumption
 generalize MJ:(⟨Vy,VC,Vz,VA,bw,bu,VB,jq⟩:RAd)=A at T KY;have z:=Em (P:=l.prog) (w:=w) (mg:=mg) (base:=base) (fS:=yn) (fT:=yG) (Ru:=Ye) gM;have H:=Ek (P:=l.prog) (w:=w) (mg:=mg) (base:=base) T ZT;have Fm:=hV (A:=A) Yd WB WO yC z yB yD (T .shares) bN
 have ES:VH l.prog w K mg base "Shares" (A.cls .shares) pae (xj (A.cls .shares) (α:=Unit) (λ_=>[]) (λ_=>Rl.shares.shape)):=by
  subst MJ;exact ⟨_,_,oU,Fm,bC,sX⟩
 have Fq:=ij (A:=A) Yd WB WO yC z yB yD (T .evenly) bR
 have EW:VH l.prog w K mg base "Evenly" (A.cls .evenly) pae (xj (A.cls .evenly) (α:=Unit) (λ_=>[]) (λ_=>Rl.evenly.shape)):=by
  subst MJ;exact ⟨_,_,oY,Fq,bG,tf⟩
 have Fn:=hX (A:=A) Yd WB WO yC z yB yD (T .losses) bO
 have ET:VH l.prog w K mg base "Losses" (A.cls .losses) pae (xj (A.cls .losses) (α:=Unit) (λ_=>[]) (λ_=>Rl.losses.shape)):=by
  subst MJ;exact ⟨_,_,oV,Fn,bD,sY⟩
 have Fo:=ie (A:=A) Yd WB WO yC z yB yD (T .halves) bP
 have EU:VH l.prog w K mg base "Halves" (A.cls .halves) pae (xj (A.cls .halves) (α:=Unit) (λ_=>[]) (λ_=>Rl.halves.shape)):=by
  subst MJ;exact ⟨_,_,oW,Fo,bE,sZ⟩
 have IK:=kR (A:=A) Yd WB WO yC z yB yD H xp T cS
 have IE:VH l.prog w K mg base "Other" (A.cls (.other .shares)) pan (xj (A.cls (.other .shares)) (α:=Rl) (λr=>[r.ins A]) (λr=>(Rl.other r).shape)):=by
  subst MJ;exact ⟨_,_,tR,IK,cN,Cc⟩
 have IJ:=kQ (A:=A) Yd WB WO yC z yB yD H xp T cR
 have ID:VH l.prog w K mg base "Ranks" (A.cls (.ranks .shares)) pan (xj (A.cls (.ranks .shares)) (α:=Rl) (λr=>[r.ins A]) (λr=>(Rl.ranks r).shape)):=by
  subst MJ;exact ⟨_,_,tQ,IJ,cM,Cb⟩
 have Fp:=ig (A:=A) Yd WB WO yC z yB yD H xp T bQ
 have EV:VH l.prog w K mg base "Groups" (A.cls (.groups .shares .shares)) pax (xj (A.cls (.groups .shares .shares)) (α:=Rl×Rl) (λr=>[r.1.ins A,r.2.ins A]) (λr=>(Rl.groups r.1 r.2).shape)):=by
  subst MJ;exact ⟨_,_,oX,Fp,bF,td⟩
 have JG:=nP (A:=A) Yd WB WO yC z yB yD H xp T gK
 have JF:VH l.prog w K mg base "Upto" (A.cls (.upto 0 0 .shares .shares)) pal (xj (A.cls (.upto 0 0 .shares .shares)) (α:=(Int×Int)×Rl×Rl) (λr=>[.tuple [.int r.1.1, .int r.1.2],r.2.1.ins A,r.2.2.ins A]) (λr=>(Rl.upto r.1.1 r.1.2 r.2.1 r.2.2).shape)):=by
  subst MJ;exact ⟨_,_,CJ,JG,gw,GO⟩
 have cm {f:Addr} {fd:FuncData} {k:Nat} {x:Str} {st:Stmt} {ps:List Str} {sp:Sp} (F:Fun K x x st f fd) (a:FnOk l.prog w K mg base CX0 k f fd ps sp) (hm:mg x=some (.ref f)) (b:yX K fd ps []):Cal l.prog w K mg base CX0 k x ps sp:=oG F a hm b;have C_gcd:=cm Xb (ok_gcd Xb) UX af;have Ym:=cm dB (Bm B C_gcd dB) sE tK;have XJ:=cm tZ (Ik Ym tZ) GC GX;have Xm:=cm CN (Ey Ym CN) IC Ja;have mi:=cm CM (Eh Ym CM) IA IX;have Hj:=cm Hg (Il Ym Hg) JE JN;have Wh:=cm uf (Bu uf) ER FQ;have C_last:=cm VS (Im B Wh VS) ir iH;have J:=cm XH (uS Xm Hj XH) aZ bA;have Q:=cm gJ (Bv XJ Xm mi gJ) qx rh;have C_between:=cm Ve (vd B J Q Ve) fJ gv;have E:=cm VE (uU B C_last C_between VE) jf js;have JP:=cm JO (ok_gap JO) Kf Kj;have C_straight:=cm au (qj B JP au) lq lU;have ph:=cm oZ (uO B C_straight oZ) BB CA;have C_pe:=cm gE (nN B XJ gE) qp qV;have C_le:=cm gF (nO B Xm gF) qq qW;have dD:=cm tV (Ba B Xm C_le tV) EG FF;have uh:=cm tY (Be B mi tY) EJ FJ;have VF:=cm ue (Bt B XJ C_pe ph ue) EO FP;have C_check:=cm ZM (EA B g_MOST ZM) VN VO;have C_wc:=cm VP (ok_wc B VP) ik iE;have XO:=cm pf (uV C_wc pf) BD CC;have ug:=cm tX (Bc B XO C_wc tX) EI FI;have dF:=cm uc (Bq B B2 C_wc uc) EN FO;have uj:=cm ub (Bn dF dD ub) EL FL;have Hi:=cm Hf (Ij VF uh Xm Hf) JD JM;have C_reach:=cm XG (En B C_last J Q XG) aY bz;have C_pwith:=cm VR (uR B E VR) iq iG;have ui:=cm ua (Bk B Wh ua) EK FK;have dC:=cm tU (AZ B ui C_reach C_pwith tU) EF FE;have C_those:=cm jv (Ei jv) vq vU;have C_plr:=cm Ws (Bg B Ws) cA cI;have C_plg:=cm XI (uT B XI) ba bB;have C_one:=cm VU (ok_one B VU) iw iJ;have C_sprv:=cm VQ (uP B VQ) ip iF;have C_spr:=cm tW (Bb C_sprv tW) EH FH;have ZN:=cm ud (uZ (t:=24) B B2 ug dF uj Hi dD XO C_plr C_plg C_those C_one C_spr VF dC Jg IB IZ FZ EM FN ud sF tL 7) sF tL;have U:=Es (A:=A) (t:=24) (n:=7) T C_check ZN xv;have I:=Bj (A:=A) (t:=24) (n:=7) T (λr=>(KY r).1) U yN E yr;have Nm {f:Addr} {fd:FuncData} {k:Nat} {x:Str} {st:Stmt} {ps:List Str} {sp:Sp} (F:Fun K x x st f fd) (a:FnOk l.prog w K mg base (CX1 l.prog w) k f fd ps sp) (hm:mg x=some (.ref f)) (b:yX K fd ps []):Cal l.prog w K mg base (CX1 l.prog w) k x ps sp:=⟨f,fd,a,hm,F.kp,b⟩;have O:=Nm ZM (Bs O_NoClaims B g_MOST ZM) VN VO;have F_pathX:=Er (A:=A) (t:=24) (n:=7) T O ZN xv;have F_path8:FnOk l.prog w K mg base (CX1 l.prog w) 23 yH _ _ (wV A 7 Z):=(U.cx.or F_pathX).imp λ_ _ _ _ h=>h;have F_partsX:=Bi (A:=A) (n:=7) T (λr=>(KY r).1) F_pathX yN E yr;have C_pax:=Nm VE (qk O_NoPurse VE) jf js;have F_partsY:=Bh (A:=A) (t:=24) (n:=7) T (λr=>(KY r).1) U yN C_pax yr;have N:FnOk l.prog w K mg base (CX1 l.prog w) 24 yo _ _ (jO A 7 Z Y):=(I.cx.or (F_partsX.or F_partsY)).imp λ_ _ _ _ h=>h;have bU:=cm jy (qm B jy) vx vX;have C_plx:=Nm VT (ok_plx O_NoPlace bU VT) iu iI;have C_dvx:=Nm Wu (ok_dvx M B Wh Wu) cE cK;have C_lowestW:=cm dB (uW B C_gcd dB) sE tK;have C_plusW:=cm tZ (Ep C_lowestW tZ) GC GX;have rF:=cm CL (Eg C_plusW CL) Iz IW;have F_pairx:=Et (A:=A) (n:=7) B O C_dvx XJ I yi bM;have F_pairg:=Eu (A:=A) (n:=7) B T (λr=>(KY r).2) C_check C_dvx XJ I yi bM;have C_pair8:=Nm bM (Ew (cP:=Y) (cL:=zX) F_pairx F_pairg) vt vV;have C_stay8:=Nm pd (Ej (n:=7) (cD:=zz) B T (λr=>(KY r).2) C_plx rF C_those N yi pd) BC CB;have C_asked:=Nm gI (EB (n:=7) T KY F_path8 yN N yi C_stay8 C_pair8 gI) qw rf;have kC:=UQ (P:=l.prog) (w:=w) (base:=base) (nm:="NoClaims") B Z_NoClaims (.tail _ (.head _)) YH;have kP:=UQ (P:=l.prog) (w:=w) (base:=base) (nm:="NoPurse") B Z_NoPurse (.head _) YH;have kL:=UQ (P:=l.prog) (w:=w) (base:=base) (nm:="NoPlace") B Z_NoPlace (.tail _ (.tail _ (.head _))) YH;have kD:=UQ (P:=l.prog) (w:=w) (base:=base) (nm:="NoDivision") B L (.tail _ (.tail _ (.tail _ (.head _)))) YH;have F_kinds8:FnOk l.prog w K mg base CX0 1 _ _ _ (jS Z Y zX zz):=((kC.or kP).or (kL.or kD)).imp λ_ _ _ _ h=>h;have C_kinds8:=cm YH F_kinds8 qv qZ
 have hU:∀c s,nm28 Z Y zX zz c s->ag base c zW:=λc s h=>by
  rcases h with ⟨rfl,_⟩|⟨rfl,_⟩|⟨rfl,_⟩|⟨rfl,_⟩<;>assumption
 have C_refusal:=cm ak (uQ (A:=A) (n:=7) WZ hU C_asked C_kinds8 ak) kZ lQ;have C_badc:=cm Wt (Iq B Wt) cB cJ;have C_badd:=cm Xa (Ip B Xa) UW ae;have C_cell:=cm ar (Io B ar) lp lT;have C_mix:=cm gH (Ex gH) qu qY;have C_div:=cm aq (uY B aq) lj lS;have C_low:=cm cq (Bo C_div cq) nS oN;have C_labels:=cm cu (Bp cu) nU oO;have C_claims:=cm cv (Br B C_cell C_mix C_labels cv) nV oP;have C_por:=cm ao (Eo ao) lh lR;have C_leaf:=cm jx (Ez jx) vv vW;have C_shape:=cm gG (Bd B C_por C_leaf gG) qt qX;have C_rule:=cm jw (El ES EW ET EU IE ID EV JF jw jg jt 7) jg jt;exact ok_law (A:=A) B T C_cell C_claims C_shape C_rule C_low C_badc C_badd C_refusal Kk
theorem walk {l:PySem.W.OpenLaw} {q:Program} {loose:List Str} {y:(Str->Option Value)->Heap->Prop} {g:World->Heap->Prop} {d:DefRec} {K:Params->PySem.W.Frag} (hn:l.most=some 63) (A:d.params.defaults=[])
 (p:∀(w:World) (h:Heap),g w h->(K w.params).In h)
 (F:∀(w:World) (mg:Str->Option Value) (fa:Addr) (h:Heap),(K w.params).In h->h.Ns mainGlobals mg->mg d.name=some (.ref fa)->
  ∃fd:FuncData,(∀(s:Shared) (u:Value),BindsTo s fd ⟨[u],[]⟩ [("_law_script",u)])/\∀base:Heap,(K w.params).In base->base.Ns mainGlobals mg->FnOk l.prog w (K w.params) mg base CX0 28 fa fd ["_law_script"] (DF (K w.params))):
 PySem.W.WalkO q loose y g l.row.toRowW d [] (λf vs=>PySem.call f vs):=
 L2.Hr (n:=63) (k:=28) (x:="_law_script") (CX:=λ_=>CX0) (sp:=λw=>DF (K w.params)) hn (by decide) A ⟨rfl,by decide,by decide⟩ p F (λ_ _ a ns m t r=>⟨a,ns,rfl,r,m,t,λ_=>rfl⟩) λ_ _ _ _ _ z=>z
end K
structure PySem.W.Fast:Prop where(tw9504510539465097931 tw15215710098043921774 tw14505710873127069774 tw2867920658065763758 tw9202703501716622942 tw18310843696038234239 tw7895105298978652607 tw13383755274692360778 tw9883530324613821875 tw17309233822416774523 tw9860184985264420637 tw11227826544798373971 tw18150503643819151154 tw16192066356076833270 tw8780740232549248736 tw2652275335482509637 tw14460165475865246485 tw14645299707363638036 tw5119227174829325328 tw4006947496619506293 tw1188899921906689794 tw11895500323249225767 tw7963848582379517118 tw6974235539378610954 tw12130423940789729891 tw16603921333822423756 tw3939276713457562178 tw1044553160457669527 tw5223854007304774697 tw1125209507265292145 tw4135291731727764343 tw6743711887486237000 tw5895928178033756260 tw31878621704413835 tw13210147373503446277 tw14011496900340107566 tw15208927481020779338 tw11433448795037593088 tw14593736263669205719 tw10107216081256051564 tw1908896997378326531 tw8480510117682124868 tw3021648029958316413 tw10878281368751558686 tw13987637525316117138 tw9184682504688967492 tw850845130260245346 tw10177373205544473405 tw3215608248531135796 tw7407861439011643724 tw17820628277825930963 tw16777972630951449792 tw3765001225555224552 tw10197263342265233798 tw2508010095068210755 tw14615455637606439604 tw12030462417156434227 tw10277524598469660584 tw3837449075963617477 tw6014061821011047259 tw8637039698542364456 tw15101317932496678815 tw10485351943931078207 tw3506824041739850539 tw7317677949249522936 tw18072858154784886607 tw9916803770638674713 tw12542595329053833093 tw10723648160246997315 tw16476606150483415790 tw11065815991022353334 tw12404339634395781795 tw2578959974035522527 tw2395899434836932523 tw16428415140737420979 tw3161443657862909350 tw12097893147646105671 tw9612681814714568789 tw17512124211289203976 tw15977193111985517273 tw10316693913577218094 tw1765087968279291840 tw7346249571305034565 tw5167052432873305148 tw9454477946064424334 tw13952560076194428567 tw7361937004979706145 tw9460428524505529245 tw1818101170742970162 tw10441881583393219418 tw13183434366948397856 tw5255352107723190933 tw3331858708879233869 tw548078367419468530 tw15821369984014478610 tw16756777416765054106 tw14995910449972490897 tw18371244737334201818 tw6962115493277635957 tw1316478428129586095 tw17460342071899524052 tw862441205742013140 tw10503522902527865313 tw17642607482757207954 tw14185967222397011501 tw11692012422098874777 tw14330372592535102429 tw5302509107680745195 tw14446926203194126385 tw16909254217893473254 tw12811265497641676612 tw17502814901285192817 tw14419224787327961676 tw11218601814622053807 tw13895443637443190274 tw2149201155276417172 tw12838929069747367275 tw1576670023240026793 tw18262820509327097034 tw12112665150518907345 tw8061582892028283658 tw3161965882201486511 tw286708572173767145 tw5037484888873200284 tw13067631572609182270 tw82801796817706293 tw9299152522428700330 tw10982908244752521667 tw5698273888086081012 tw3123254465769252370 tw1330123503447828635 tw15179933809118856643 tw10281308888102077710 tw9270971039198145717 tw16100819605107988100 tw14224610369040276092 tw11976962915886029123 tw9306619742383798381 tw1988686218652106773 tw12235890368672126395 tw696922812757304294 tw16050970416402505376 tw12603890410658413922 tw5022624020952694666 tw13696661717276888046 tw5416812420216247464 tw3434266823425787358 tw8330232885928430939 tw14314809435863963030 tw17693108553504585708 tw6105157866279424353 tw3156363989639283173 tw18069478956974816702 tw8642816079383614000 tw16400320987949029050 tw14243051622983194794 tw340069655817162420 tw15230868226160535883 tw637130513813733724 tw6064469176733977317 tw9949640975074555299 tw3474518407827768892 tw6230125855455229202 tw8002629233668867860 tw541426855364222936 tw2987106463316073273 tw12657209297708410149 tw3356164957106792801 tw11251510739231869826 tw15046438396185793587 tw6992817377110157136 tw13457347023602557383 tw9199239482158083995 tw4015792186456205040 tw15898605272070223149 tw9181819750364819058 tw14304303737217818672 tw7691020111874474817 tw17515140806936269951 tw8680148848211327999 tw15984283309641633726 tw17461997354036469783 tw6580953991078559755 tw9502392056044963061 tw14401191068722423100 tw8287191181624274844 tw2589093816862314058 tw11748400724242933223 tw6373800139682205339 tw8374938696581377401 tw6047662536033003738 tw9707911159691994126 tw7536569070343758972 tw3157178387263311173 tw12569991148819445561 tw15813775116629210122 tw7196166738438153086 tw12228121384411228505 tw9132041544828430330 tw12109659934959073566 tw10498743215421393099 tw16839052184411481665 tw14377791264674465669 tw2639931596996893052 tw10756127499819228685 tw6824247559160953959 tw15559965905963603306 tw10358317236224895186 tw18288604271523656569 tw11002266934787477814 tw14922450242378665793 tw14710666396430044419 tw14350432630540770000 tw3315898612244790085 tw7037389056756529524 tw17255984229037957848 tw17904889949731637963 tw15077959187887627347 tw12830182234662920646 tw8809316617058519425 tw7004492377883097501 tw11376885617004903723 tw10477821098383698181 tw11749946096779120634 tw15777509449401574459 tw4889001038315069490 tw13020535601191333173 tw14380406337667153451 tw2758395505846099027 tw770172535887050458 tw4858605892334823752 tw15033969289377984382 tw7955563299063304854 tw3404979237856319587 tw4128654178404257195 tw10116754088950770080 tw6936577724215888493 tw4808166437936568454 tw16523023856428167744 tw2859337400363852982 tw7033056254447540753 tw11749972798687782284 tw2265932067522233435 tw6362844350225391422 tw6016980888114400104 tw4903297206891578137 tw6763999243986675921 tw11693804478452979595 tw5501524638393237634 tw18064821140519118389 tw14169572844279053142 tw8690332718589826037 tw17129470494203429015 tw16337364945716996976 tw6273356217130755987 tw17890128775518466226 tw9195348276140574168 tw14146647730360383363 tw2184592630367738384 tw5618029025121156486 tw11608740293099584535 tw9390358677575554207 tw7336729185301643271 tw11756847276152252000 tw18446487068049069534 tw7922268341516840435 tw12357310314599724866 tw14953575782320825705 tw17520674646105662853 tw18406056619005560396 tw5728002320328882654 tw2536845019923168668 tw479076425536661096 tw12658076661139262353 tw18376964003973534973 tw7172136797291802607 tw3957584301984057635 tw8393791593841490733 tw4081762645297525976 tw10814178235220698335 tw4527993728587829147 tw10905965958628241239 tw14235516578973066929 tw8511944986367647644 tw7183813687549577575 tw16378765503108756826 tw8114185263724908339 tw729657719091076702 tw10130436025988869393 tw10516241017443304020 tw5642354309220510403 tw13854825503415277390 tw12932058135346183482 tw10766409732462061370 tw10811312082973651334 tw7997266202262659142 tw8991542077872916143 tw11935519295994909098 tw8189517298855364717 tw11976003362834921991 tw1134824128928007711 tw294966522437958495 tw14323990797332405912 tw5791303023798151636 tw8667555467637167197 tw15356172185907802161 tw1886776292006266212 tw9527499879852230852 tw847501851525194721 tw7514764715780868875 tw7124681181733120147 tw4447457504701811086 tw6673730423732723699 tw1961556247945941109 tw9606189236420256830 tw10020101057920072133 tw10293752304662801418 tw404788808428125483 tw16042193134951860731 tw11959678137253032333 tw6464745539033783840 tw9761972624129396217 tw695691955172326275 tw11566377260930304708 tw9148917896502547252 tw14267176990872389430 tw9210125199041095463 tw15685665342495811999 tw7285031534178984213 tw9895118536998528283 tw13682410355225831876 tw12355257600357264446 tw5227788732844769553 tw2890346192704218599 tw16223534783224410049 tw13019393390586816303 tw15232886880888060997 tw2788156956532804903 tw1819133726551313592 tw7491987091695187914 tw10613057887773965962 tw4344498415655957903 tw11462643149091236556 tw10444644395292811127 tw14247836879883430243 tw17864596542206010446 tw6674276872994120579 tw5236018327393239445 tw7720905136951157716 tw947557757960736593 tw2934997345899660355 tw2144740069208133033 tw1259314641117510634 tw10689318089750314732 tw14477310007960901787 tw5212217130625475445 tw1640740973640898026 tw2810837921472494746 tw17578338899384705719 tw12248683216665102235 tw14700294913132680545 tw6971600022684035963 tw7678817364918112195 tw14988429269756617553 tw2356250320116875153 tw13097875423894079030 tw32093790570778154 tw14489194664005020642 tw16672337197204748744 tw647680173863702348 tw7434518694360944995 tw14627450551819409263 tw199130470670514550 tw4286529461119026808 tw9265153856825102107 tw11311247086480994889 tw15215712021563722956 tw1439753178323622829 tw29093214747188471 tw17009508505847135301 tw18283700686151292741 tw9933749915288298422 tw135606373503274363 tw11542532212534161671 tw10746840604492292177 tw17935856334356941421 tw17945117720410538732 tw11127121370919360782 tw16288550269996126999 tw10951340172775697853 tw16456767485539490024 tw554733026494425890 tw7411195653307704764 tw11469957279770314134 tw4855554181181713702 tw13179989306517278689 tw5548965627817730546 tw8223663345492243696 tw4551491752558736888 tw10505245197928948782 tw4778174135784324558 tw14378551891285828545 tw16716941328692433295 tw12589511013310899208 tw2898764774198830590 tw15882793948418438791 tw10386154126719572626 tw15082460932514765150 tw4604090146041849286 tw16760676463385411501 tw2310616451604259855 tw9620641596175375078 tw13339105715992138558 tw10880449287762201320 tw3668113067800832723 tw6318720794791892556 tw7872925828924351798 tw8750081508151180072 tw5712148797565217657 tw4733994993127101709 tw9030226024503677832 tw11746076510198139799 tw1907731889711094266 tw10036119643841363277 tw5035325399531770572 tw16328206177579524867 tw16618384914247283948 tw11285676858813695963 tw15958771564011921840 tw3494107453067924619 tw2825582243587286550 tw15990659550709978909 tw3818072905445879678 tw14411884512610355203 tw9448155440969771296 tw2954672740942518766 tw13370411712296937154 tw1054177112997365111 tw8539704917730196131 tw4902234147716361274 tw6361137082945415473 tw9761106433167139617 tw13807666607747314456 tw3727775057205925750 tw6171508189995086704 tw16461872629323518010 tw5284505367493063161 tw10793406886375060450 tw15909890562615785390 tw14194497983014111524 tw3520142925982811778 tw13300738418337349148 tw17229488506436798729:True)
open PySem PySem.W PyProof.Rows
set_option maxRecDepth 100000 in
set_option maxHeartbeats 0 in
theorem PySem.Challenge.cw_shortpurse_k28_claims_and_purses_refused_holds : PySem.Challenge.rw_shortpurse_k28_claims_and_purses_refused.Holds := by
 w_on;o_law;k_head;(case hw=>w_witness2)
 k_fill
 refine K.walk (l:=PySem.Challenge.rw_shortpurse_k28_claims_and_purses_refused) rfl rfl (λw h Y=>PySem.W.kIn_of Y) ?F
 case F=>
  intro w mg fa h g G m;refine' K.all_mk g G m ?_ ?_ ?_ ?_ ?_ ?_ ?_ ?_ ?_ ?_ ?_ ?_ ?_ ?_ ?_ ?_ ?_ ?_ ?_ ?_ ?_ ?_ ?_ ?_ ?_ ?_ ?_ ?_ ?_ ?_ ?_ ?_ ?_ ?_ ?_ ?_ ?_ ?_ ?_ ?_ ?_ ?_ ?_ ?_ ?_ ?_ ?_ ?_ ?_ ?_ ?_ ?_ ?_ ?_ ?_ ?_ ?_ ?_ ?_ ?_ ?_ ?_ ?_ ?_ ?_ ?_ ?_ ?_ ?_ ?_ ?_ ?_ ?_ ?_ ?_ ?_ ?_ ?_ ?_ ?_ ?_ ?_ ?_ ?_ ?_ ?_ ?_ ?_ ?_ ?_ ?_ ?_ ?_ ?_ ?_ ?_ ?_ ?_ ?_ ?_ ?_ ?_ ?_ ?_ ?_ ?_ ?_ ?_ ?_ ?_ ?_ ?_ ?_ ?_ ?_ ?_ ?_ ?_ ?_ ?_
  all_goals try first
   |(refine' S.dk_mk g G ?a ?l ?c ?k ?b;(case a=>k_is);(case l=>k_is);(case c=>k_is);(case k=>k_is);(case b=>first|(exact λ_ _ _ _ _ _=>S.all1 λ_=>rfl)|(exact λ_ _ _ _ _ _=>S.all2 λ_ _=>rfl)|(exact λ_ _ _ _ _ _=>S.all3 λ_ _ _=>rfl)|(exact λ_ _ _ _ _ _=>S.all4 λ_ _ _ _=>rfl)|(exact λ_ _ _ _ _ _=>S.all5 λ_ _ _ _ _=>rfl)))
   |(refine' S.fk_mk ?l ?c ?k ?b;(case l=>k_is);(case c=>k_is);(case k=>k_is);(case b=>first|(exact λ_ _ _ _ _ _=>S.all1 λ_=>rfl)|(exact λ_ _ _ _ _ _=>S.all2 λ_ _=>rfl)|(exact λ_ _ _ _ _ _=>S.all3 λ_ _ _=>rfl)|(exact λ_ _ _ _ _ _=>S.all4 λ_ _ _ _=>rfl)|(exact λ_ _ _ _ _ _=>S.all5 λ_ _ _ _ _=>rfl)))
   |(exact S.CkT.mk (by k_is) (by k_is) (by k_is) (by k_is) (by k_is) (by k_is) (by k_is) (by k_is) (by k_is) (by k_is) (by k_is) (by k_is) (by kit_is) (by k_is) (by k_is) (by k_is))
   |(refine' S.Bl.mk ?_ ?_ ?_ ?_ ?_ ?_ ?_ ?_ ?_ ?_ ?_ ?_ ?_ ?_ ?_ ?_;all_goals exact PySem.W.mg_none_of g G (by k_is))
   |(refine' S.Bl3.mk ?_ ?_;all_goals exact PySem.W.mg_none_of g G (by k_is))
   |(refine' S.xk_mk ?yq ?ym ?y1 ?y2 ?y3 ?y4 ?y5 ?y6 ?z0 ?z1 ?z2 ?z3 ?z4 ?z5 ?z6;(case yq=>k_exc);(case ym=>k_is);(case y1=>k_is);(case y2=>k_is);(case y3=>k_is);(case y4=>k_is);(case y5=>k_is);(case y6=>k_is);(case z0=>kit_is);(case z1=>kit_is);(case z2=>kit_is);(case z3=>kit_is);(case z4=>kit_is);(case z5=>kit_is);(case z6=>kit_is))
   |k_is
   |k_exc
