import PyProof.Rows.All
import Wide.All
import OpenK.KLine
import OpenK.KWalk
import OpenK.KOwn
import KE.RegKIsAll
import KE.IntBitsLaws
import KE.KItem
import Wide.FinOn
import Lean
import PyProof.EqAt
import PyProof.EqKinds
import PyProof.TupleCall
import PyProof.Draws
import PyProof.EnumMake
import PyProof.ZipIter
import PyProof.Rows.SumAny
import KE.KRevIter
import PyProof.StrCalls2
import KE.KRevSl
import KE.LcSums
import PyProof.Rows.SetFrom
import PyProof.DictIter
import PyProof.CollectWalk
import PyProof.Rows.SortRev
import PySem.Challenge.RW_shortpurse_k41_whole_texts_and_purses
set_option autoImplicit true
set_option relaxedAutoImplicit true
set_option compiler.extract_closed false
set_option genSizeOfSpec false
set_option Elab.async false
set_option linter.all false
set_option maxRecDepth 100000
set_option maxHeartbeats 4000000
abbrev Qa:=@List.length_map
abbrev Qb:=@List.getElem?_eq_getElem
abbrev Qc:=@List.mem_of_getElem?
abbrev Qd:=@List.getElem?_eq_some_iff
abbrev Qe:=@List.mem_cons_self
abbrev Qf:=@List.mem_cons_of_mem
abbrev Qg:=@PySem.wpAny_bind
abbrev Qh:=@List.getElem?_map
abbrev Qi:=@PySem.Heap.get?_push_of_some
abbrev Qj:=@List.mem_map
abbrev Qk:=@List.getD_eq_getElem?_getD
abbrev Ql:=@List.mem_cons
abbrev Qm:=@List.not_mem_nil
abbrev Qn:=@List.pairwise_cons
abbrev Qo:=@PySem.wpAny_pure
abbrev Qp:=@List.map_cons
abbrev Qq:=@List.mem_singleton
abbrev Qr:=@List.map_map
abbrev Qt:=@List.getElem?_zipWith
abbrev Qu:=@Nat.le_refl
abbrev Qv:=@PySem.Heap.lt_size
abbrev Qw:=@List.mem_iff_getElem?
abbrev Qx:=@PySem.Heap.get?_push_size
abbrev Qy:=@List.length_cons
abbrev Qz:=@of_decide_eq_true
abbrev QA:=@Bool.false_ne_true
abbrev QB:=@List.length_append
abbrev QC:=@List.length_zipWith
abbrev QD:=@List.length_replicate
abbrev QE:=@Rat.le_of_lt
abbrev QF:=@List.mem_append_right
abbrev QG:=@List.getElem?_eq_none
abbrev QH:=@Option.some.inj
abbrev QI:=@List.size_toArray
abbrev QJ:=@if_pos
abbrev QK:=@List.map_congr_left
abbrev QL:=@Nat.le_trans
abbrev QM:=@List.map_append
abbrev QN:=@List.sum_cons
abbrev QO:=@if_neg
abbrev QP:=@List.pairwise_iff_getElem
abbrev QQ:=@Nat.ne_of_lt
abbrev QR:=@Rat.le_refl
abbrev QS:=@List.getElem_of_mem
abbrev QT:=@List.mem_append
abbrev QU:=@List.getElem?_replicate
abbrev QV:=@PySem.Heap.size_push
abbrev QW:=@decide_eq_true
abbrev QX:=@Rat.mul_nonneg
abbrev QY:=@List.getElem_zipWith
abbrev QZ:=@Nat.lt_of_lt_of_le
abbrev Ta:=@List.getElem_mem
abbrev Tb:=@Rat.intCast_mul
abbrev Tc:=@Rat.intCast_le_intCast
abbrev Td:=@Int.toNat_natCast
abbrev Te:=@List.getLast?_eq_some_getLast
abbrev Tf:=@List.ext_getElem?
abbrev Tg:=@Rat.not_lt
abbrev Th:=@decide_eq_false
abbrev Ti:=@PySem.wpAny_newObj_type
abbrev Tj:=@List.pairwise_map
abbrev Tn:=@Nat.lt_succ_self
abbrev To:=@List.length_drop
abbrev Tp:=@Int.fmod_eq_emod_of_nonneg
abbrev Tq:=@List.mem_filter
abbrev Tr:=@PySem.wpAny_callSpecial?_slot
abbrev Ts:=@List.getElem?_zip_eq_some
abbrev Tt:=@List.ext_getElem
abbrev Tu:=@List.replicate_succ
abbrev Tv:=@List.length_reverse
abbrev Tw:=@List.take_of_length_le
abbrev Tx:=@List.getElem_replicate
abbrev Tz:=@Int.fdiv_eq_ediv_of_nonneg
abbrev TB:=@List.getElem?_append_right
abbrev TC:=@List.length_take
abbrev TF:=@Bool.and_eq_true
abbrev TH:=@Nat.lt_succ_of_lt
abbrev TK:=@List.cons_append
abbrev TL:=@List.length_singleton
abbrev TM:=@Nat.min_self
abbrev TN:=@Rat.le_trans
abbrev TQ:=@List.getLast?_cons_cons
abbrev TR:=@Nat.zero_le
abbrev TU:=@List.pairwise_append
abbrev TV:=@List.mem_of_mem_tail
abbrev TX:=@PySem.wpAny_call_entry
abbrev TY:=@List.all_eq_true
abbrev TZ:=@List.nodup_cons
abbrev jaa:=@List.flatten_cons
abbrev jab:=@List.take_add_one
abbrev jac:=@Rat.mul_inv_cancel
abbrev jad:=@PySem.Heap.SameBut.update
abbrev jae:=@List.getElem?_append_left
abbrev jaf:=@List.append_assoc
abbrev jag:=@List.mem_append_left
abbrev jah:=@List.mem_of_getLast?
abbrev jai:=@Rat.div_def
abbrev jaj:=@List.getElem?_drop
abbrev jak:=@Int.emod_lt_of_pos
abbrev jal:=@List.dropLast_concat_getLast
abbrev jam:=@PySem.W.mg_of
abbrev jan:=@Option.isSome_iff_exists
abbrev jao:=@Array.length_toList
abbrev jap:=@PyProof.Rows.callWith_type1
abbrev jaq:=@Rat.not_le
abbrev jar:=@List.pairwise_singleton
abbrev jas:=@Array.getElem?_eq_some_iff
abbrev jat:=@Nat.le_succ
abbrev jau:=@PySem.wpAny_pyIter_tuple
abbrev jav:=@List.map_nil
abbrev jaw:=@List.zipWith_cons_cons
abbrev jax:=@PySem.W.kia_one
abbrev jay:=@List.getLast?_eq_getElem?
abbrev jaz:=@Nat.lt_irrefl
abbrev jaA:=@PySem.wpAny_field
abbrev jaB:=@List.length_filter_le
abbrev jaC:=@Int.emod_nonneg
abbrev jaD:=@List.getElem_map
abbrev jaE:=@beq_eq_false_iff_ne
abbrev jaF:=@PySem.wpAny_pyIter_list
abbrev jaG:=@PySem.mem_of_lookup
abbrev jaH:=@List.getLast?_map
abbrev jaI:=@List.append_nil
abbrev jaJ:=@PySem.Heap.get?_update_self
abbrev jaK:=@List.nil_append
abbrev jaL:=@Rat.le_antisymm
abbrev jaM:=@PySem.wpAny_Call_Name_kw
abbrev jaN:=@List.lookup_cons
abbrev jaO:=@List.length_tail
abbrev jaP:=@Rat.lt_irrefl
abbrev jaQ:=@List.mem_singleton_self
abbrev jaR:=@PyProof.Rows.F.plain_set_update_loop
abbrev jaS:=@List.filterMap_cons
abbrev jaT:=@List.map_const'
abbrev jaU:=@Rat.intCast_sub
abbrev jaV:=@List.length_pos_iff
abbrev jaW:=@List.length_pos_of_mem
abbrev jaX:=@PySem.F.slot_tuple_iterator_next
abbrev jaY:=@PySem.wpAny_holding
abbrev jaZ:=@Nat.ne_of_gt
abbrev jba:=@PySem.wpAny_setField_rec
abbrev jbb:=@Rat.divInt_mul_divInt
abbrev jbc:=@Int.le_of_lt
abbrev jbd:=@Nat.le_of_ble_eq_true
abbrev jbe:=@List.Pairwise.sublist
abbrev jbf:=@PySem.wpAny_seqItems
abbrev jbg:=@PySem.wpAny_setField
abbrev jbh:=@List.getElem?_eq_none_iff
abbrev jbi:=@PySem.Around.under_plainId
abbrev jbj:=@PySem.wpAny_passesOwn
abbrev jbk:=@PySem.wpAny_loadPart'
abbrev jbl:=@List.Sublist.refl
abbrev jbm:=@List.length_filterMap_le
abbrev jbn:=@Nat.le_of_lt
abbrev jbo:=@Nat.zero_add
abbrev jbp:=@Int.mul_le_mul_of_nonneg_right
abbrev jbq:=@PySem.wpAny_setEntries_of
abbrev jbr:=@PySem.Heap.get?_update_other
abbrev jbs:=@PySem.SeqAt.canLay_of_shaped
abbrev jbt:=@Rat.intCast_lt_intCast
abbrev jbu:=@List.drop_eq_nil_of_le
abbrev jbv:=@PySem.W.callWith_K
abbrev jbw:=@Rat.num_divInt_den
abbrev jbx:=@List.map_replicate
abbrev jby:=@Int.gcd_pos_of_ne_zero_right
abbrev jbz:=@List.of_mem_zip
abbrev jbA:=@Rat.mul_pos
abbrev jbB:=@PySem.codeAny_builtin
abbrev jbC:=@PySem.F.called_set
abbrev jbD:=@Int.natCast_pow
abbrev jbE:=@Int.le_trans
abbrev jbF:=@PySem.wpAny_attempt
abbrev jbG:=@PySem.wpAny_setState_of
abbrev jbH:=@List.Pairwise.imp
abbrev jbI:=@List.getElem?_set_ne
abbrev jbJ:=@List.mem_range
abbrev jbK:=@List.drop_eq_getElem_cons
abbrev jbL:=@List.mem_reverse
abbrev jbM:=@List.zipWith_map
abbrev jbN:=@List.map_zipWith
abbrev jbO:=@List.filter_cons
abbrev jbP:=@Int.le_refl
abbrev jbQ:=@PySem.wpAny_comprehension_free
abbrev jbR:=@Rat.divInt_eq_divInt_iff
abbrev jbS:=@Rat.zero_mul
abbrev jbT:=@Int.gcd_dvd_natAbs_right
abbrev jbU:=@List.mem_filterMap
abbrev jbV:=@Bool.eq_iff_iff
abbrev jbW:=@List.length_set
abbrev jbX:=@Bool.false_eq_true
abbrev jbY:=@PySem.Obj.data_mapFields
abbrev jbZ:=@List.getLast?_cons
abbrev jca:=@PySem.wpAny_truthy_bool
abbrev jcb:=@Int.mul_one
abbrev jcc:=@List.length_range
abbrev jcd:=@PySem.codeAny_mono
abbrev jce:=@PySem.wpAny_rule
abbrev Frg:=PySem.W.Frag
abbrev Pn:=List (PySem.Addr×PySem.Obj)
set_option exponentiation.threshold 2000
local macro_rules|`(⋯)=>`(by omega)
local macro_rules|`(nofun)=>`(by decide)
local macro_rules|`(‹$h:ident›)=>`(by simpa using $h)
local macro_rules|`(‹()›)=>`(by walk_at "dats")
local macro_rules|`(tactic|walk_at "f")=>`(tactic|first|exact .inl rfl|exact .inr rfl|assumption)
local macro_rules|`(tactic|walk_at "o")=>`(tactic|first|exact Or.inl rfl|exact Or.inr rfl)
local macro_rules|`(tactic|walk_at "v")=>`(tactic|first|exact Or.inl rfl|exact Or.inr (Or.inl rfl)|exact Or.inr (Or.inr rfl))
local macro_rules|`(tactic|walk_at "l")=>`(tactic|first|decide|exact Qu _|omega)
namespace L2
open PySem PySem.Spec PyProof.Rows
abbrev Key:=Sum Int Str
noncomputable def keyIs:Key->Value->Bool
 | .inl k,v=>Value.isInt k v
 | .inr x,v=>Value.isStrOf x v
noncomputable def keyH (w:World):Key->Int
 | .inl k=>hashInt k
 | .inr x=>hashStr w x
theorem xr:∀{k:Key} {v:Value},keyIs k v=true->(∃i t,k=Sum.inl i/\v=Value.int i t)\/(∃x t,k=Sum.inr x/\v=Value.str x t)
 | .inl i,v,h=>by
   obtain ⟨t,e⟩:=Value.isInt_shape (k:=i) (v:=v) h;exact .inl ⟨i,t,rfl,e⟩
 | .inr x,v,h=>by
   obtain ⟨t,e⟩:=Value.isStrOf_shape (x:=x) (v:=v) h;exact .inr ⟨x,t,rfl,e⟩
def key_ll (a b:Int):decide ((Sum.inl a:Key)=Sum.inl b)=(a==b):=by
 by_cases e:a=b
 ·subst e;simp
 ·have h:¬(Sum.inl a:Key)=Sum.inl b:=λq=>e (Sum.inl.inj q);rw [Th h];exact (jaE.mpr e).symm
def key_rr (a b:Str):decide ((Sum.inr a:Key)=Sum.inr b)=decide (a=b):=by
 by_cases e:a=b
 ·subst e;simp
 ·have h:¬(Sum.inr a:Key)=Sum.inr b:=λq=>e (Sum.inr.inj q);rw [Th h,Th e]
def key_lr (a:Int) (b:Str):decide ((Sum.inl a:Key)=Sum.inr b)=false:=Th (λq=>nomatch q)
def key_rl (a:Str) (b:Int):decide ((Sum.inr a:Key)=Sum.inl b)=false:=Th (λq=>nomatch q)
noncomputable def Dm (prog:Program) (w:World):PySem.KeyKind prog w Key where
 is:=keyIs
 hash:=keyH w
 inj:=λv a b ha p=>by
  rcases xr ha with ⟨i,t,rfl,rfl⟩|⟨x,t,rfl,rfl⟩
  ·rcases xr p with ⟨j,u,rfl,e⟩|⟨y,u,rfl,e⟩
   ·injection e with g _;rw [g]
   ·exact nomatch e
  ·rcases xr p with ⟨j,u,rfl,e⟩|⟨y,u,rfl,e⟩
   ·exact nomatch e
   ·injection e with g _;rw [g]
 byValue:=λk v h=>by
  rcases xr h with ⟨i,t,rfl,rfl⟩|⟨x,t,rfl,rfl⟩<;>rfl
 pyHash:=λm h=>by
  rcases xr m with ⟨i,t,rfl,rfl⟩|⟨x,t,rfl,rfl⟩
  ·exact wpAny_pyHash_int h
  ·exact wpAny_pyHash_str h
 eqBool:=λq m h=>by
  rcases xr q with ⟨i,t,rfl,rfl⟩|⟨x,t,rfl,rfl⟩
  ·rcases xr m with ⟨j,u,rfl,rfl⟩|⟨y,u,rfl,rfl⟩
   ·rw [key_ll] at h;exact wpAny_eqBool_int h
   ·rw [key_lr] at h;exact SeqAt.EqAt.int_str i t y u _ _ _ _ h
  ·rcases xr m with ⟨j,u,rfl,rfl⟩|⟨y,u,rfl,rfl⟩
   ·rw [key_rl] at h;exact SeqAt.EqAt.str_int x t j u _ _ _ _ h
   ·rw [key_rr] at h;exact wpAny_eqBool_str h
 «strs»:=λk x t v h=>by
  rcases xr h with ⟨i,u,rfl,e⟩|⟨y,u,rfl,e⟩
  ·exact nomatch e
  ·injection e with g _
   subst g;cases v<;>rfl
inductive V where
 |non|bl (b:Bool)|int (i:Int)|str (x:Str)|byt (b:Array UInt8)|flt (b:UInt64)|ref (a:Addr)|ty (n:String)
 deriving DecidableEq
def Zx:V->Value->Prop
 | .non,u=>u=Value.none
 | .bl b,u=>u=Value.bool b
 | .int i,u=>∃t,u=Value.int i t
 | .str x,u=>∃t,u=Value.str x t
 | .byt b,u=>∃t,u=Value.bytes b t
 | .flt b,u=>∃t,u=Value.float b t
 | .ref a,u=>u=Value.ref a
 | .ty n,u=>u=Value.type n
abbrev xx:List V->List Value->Prop:=Paired Zx
def xx.length {xs:List V} {us:List Value} (r:xx xs us):xs.length=us.length:=Paired.length r
theorem xx.get:∀{xs:List V} {us:List Value} {i:Nat} {x:V},xx xs us->xs[i]? =some x->∃u,us[i]? =some u/\Zx x u
 |_,_,_,_, .nil,e=>by simp at e
 |_,_,0,_, .cons r _,e=>by simp at e;subst e;exact ⟨_,rfl,r⟩
 |_,_,i+1,x, .cons _ t,e=>by
  obtain ⟨u,m,g⟩:=xx.get (i:=i) (x:=x) t ‹e›;exact ⟨u,by simpa using m,g⟩
theorem xx.set {x:V} {u:Value} (r:Zx x u):∀{xs:List V} {us:List Value} (i:Nat),xx xs us->xx (xs.set i x) (us.set i u)
 |_,_,_, .nil=> .nil
 |_,_,0, .cons _ t=> .cons r t
 |_,_,i+1, .cons q t=> .cons q (xx.set r i t)
def xx.append {xs ys:List V} {us ws:List Value} (h:xx xs us) (s:xx ys ws):xx (xs++ys) (us++ws):=by
 induction h with
 |nil=>exact s
 |cons r t g=>exact .cons r g
theorem xx.take:∀{xs:List V} {us:List Value} (n:Nat),xx xs us->xx (xs.take n) (us.take n)
 |_,_,0,_=> .nil
 |_,_,_+1, .nil=> .nil
 |_,_,n+1, .cons r t=> .cons r (xx.take n t)
theorem xx.drop:∀{xs:List V} {us:List Value} (n:Nat),xx xs us->xx (xs.drop n) (us.drop n)
 |_,_,0,r=>r
 |_,_,_+1, .nil=> .nil
 |_,_,n+1, .cons _ t=>xx.drop n t
def ET:Option V->Option Value->Prop
 |some v,some u=>Zx v u
 |none,none=>True
 |_,_=>False
def KV {κ:Type}:List (κ×V)->List (κ×Value)->Prop:=Paired λ(p:κ×V) (q:κ×Value)=>p.1=q.1/\Zx p.2 q.2
noncomputable def kV:Key->V
 | .inl i=> .int i
 | .inr x=> .str x
inductive HO where
 |lst (xs:List V)
 |tup (xs:List V)
 |dK (kvs:List (Key×V))|dT (kvs:List (List Key×V))
 |set (S:Int->Bool) (n:Nat)
 |ins (C dx:Addr) (fs:List (Str×V))
 |own (x:Addr)
 |xd (fs:List (Str×V))
 |met (f x:Addr)
 |rng (lo hi:Int)
 |frz (o:Obj) (u:HO)
 |tbl (ps:Array Value)
 |ext (φ:Heap->Prop)
abbrev Hp:=Addr->Option HO
noncomputable def upd (H:Hp) (a:Addr) (o:HO):Hp:=λb=>if b=a then some o else H b
def yf {H:Hp} {a:Addr} {o:HO}:upd H a o a=some o:=by unfold upd;rw [QJ rfl]
def ya {H:Hp} {a b:Addr} {o:HO} (h:b≠a):upd H a o b=H b:=by unfold upd;rw [QO h]
def yc {H:Hp} {a b:Addr} {o:HO} (h:H a=some o) (h':H b=none):a≠b:=by
 intro e;subst e;rw [h] at h';cases h'
section
variable (P:Program) (w:World)
def Yp (H:Hp) (h:Heap) (a:Addr):HO->Prop
 | .lst xs=>xs.length<=sizeLine/\∃(its:List Value) (n:Nat),xx xs its/\h.get? a=some {cls:= .type "list",data:= .seq its.toArray n}
 | .tup xs=>xs.length<=sizeLine/\∃its:List Value,xx xs its/\IsTup h a its.toArray
 | .dK g=>g.length<=sizeLine/\(a==sysModules)=false/\∃vs,KV g vs/\h.DictOf (Dm P w) a vs
 | .dT g=>g.length<=sizeLine/\(a==sysModules)=false/\∃xs:List (List Key×Addr×Value),
  Paired (λ(p:List Key×V) (q:List Key×Addr×Value)=>p.1=q.1/\H q.2.1=some (.tup (p.1.map kV))/\Zx p.2 q.2.2) g xs/\
  ∃o es ep,h.get? a=some o/\o.ExactDict/\o.data= .dict es ep/\es.toList=xs.map (entryOfKey (tupleKind (Dm P w)))/\(xs.map (·.1)).Nodup
 | .set S n=>h.SetOf (intKind P w) a S n
 | .ins C r fs=>H r=some (.own a)/\fs.length<=1000/\r≠a/\h.get? a=some (PySem.W.instObj C r)/\
  ∃m,h.Ns1 r m/\(∀f,ET (fs.lookup f) (m f))/\PySem.Within m (fs.map (·.1))
 | .own _=>∃o,h.get? a=some o
 | .xd fs=>∃m,h.Ns1 a m/\∀f,ET (fs.lookup f) (m f)
 | .rng lo z=>∃t u v,h.get? a=some {cls:= .type "range",data:= .fields #[.int lo t, .int z u, .int 1 v]}
 | .frz o u=>h.get? a=some o/\Yp H h a u
 | .tbl ps=>h.get? a=some {cls:= .none,data:= .fields ps}
 | .met f x=>h.get? a=some (PySem.W.methodObj (.ref f) (.ref x))
 | .ext φ=>φ h/\(∃o,h.get? a=some o)/\∀y s:Heap,φ y->(∀o,y.get? a=some o->s.get? a=some o)->φ s
def HOk (H:Hp) (h:Heap):Prop:=∀a o,H a=some o->Yp P w H h a o
end
section
variable {P:Program} {w:World} {H H':Hp} {h h':Heap} {a:Addr} {o:HO}
def Yp.lt (x:Yp P w H h a o):a<h.objs.size:=by
 cases o with
 |lst xs=>obtain ⟨_,_,_,_,e⟩:=x;exact Qv e
 |tup xs=>obtain ⟨_,_,_,p⟩:=x;exact p.lt
 |dK g=>obtain ⟨_,_,_,_,o,_,_,e,_⟩:=x;exact Qv e
 |dT g=>obtain ⟨_,_,_,_,o,_,_,e,_⟩:=x;exact Qv e
 |set S n=>obtain ⟨o,_,_,_,e,_⟩:=x;exact Qv e
 |ins C r fs=>obtain ⟨_,_,_,e,_⟩:=x;exact Qv e
 |own y=>obtain ⟨_,e⟩:=x;exact Qv e
 |xd fs=>obtain ⟨_,⟨_,_,_,e,_⟩,_⟩:=x;exact Qv e
 |rng lo q=>obtain ⟨_,_,_,e⟩:=x;exact Qv e
 |frz m u=>obtain ⟨e,_⟩:=x;exact Qv e
 |tbl ps=>exact Qv (show h.get? a=some _ from x)
 |met f y=>exact Qv (show h.get? a=some _ from x)
 |ext φ=>obtain ⟨_,⟨_,e⟩,_⟩:=x;exact Qv e
theorem Paired.mapP {α β:Type} {F G:α->β->Prop}:∀{l₁:List α} {l₂:List β},Paired F l₁ l₂->(∀a b,F a b->G a b)->Paired G l₁ l₂
 |_,_, .nil,_=> .nil
 |_,_, .cons r t,f=> .cons (f _ _ r) (Paired.mapP t f)
def Yp.stay (x:Yp P w H h a o) (k:∀b u,(b=a\/H b=some (.own a))->h.get? b=some u->h'.get? b=some u)
 (G:∀b,H b=some (.own a)->H' b=some (.own a)) (ht:∀b xs,H b=some (.tup xs)->H' b=some (.tup xs)):Yp P w H' h' a o:=by
 induction o with
 |lst xs=>obtain ⟨z,its,n,r,e⟩:=x;exact ⟨z,its,n,r,k _ _ (.inl rfl) e⟩
 |tup xs=>obtain ⟨z,its,r,g,e,c⟩:=x;exact ⟨z,its,r,g,k _ _ (.inl rfl) e,c⟩
 |dK A=>obtain ⟨z,y,vs,r,g,es,ep,e,c⟩:=x;exact ⟨z,y,vs,r,g,es,ep,k _ _ (.inl rfl) e,c⟩
 |dT A=>
  obtain ⟨z,y,xs,r,g,es,ep,e,c⟩:=x;exact ⟨z,y,xs,Paired.mapP r λp q z=>⟨z.1,ht _ _ z.2.1,z.2.2⟩,g,es,ep,k _ _ (.inl rfl) e,c⟩
 |set S n=>obtain ⟨g,es,ep,t,e,c⟩:=x;exact ⟨g,es,ep,t,k _ _ (.inl rfl) e,c⟩
 |ins C K fs=>
  obtain ⟨d,z,ne,e,s,⟨m,es,ep,I,c⟩,r⟩:=x;exact ⟨G _ d,z,ne,k _ _ (.inl rfl) e,s,⟨m,es,ep,k _ _ (.inr d) I,c⟩,r⟩
 |own y=>obtain ⟨g,e⟩:=x;exact ⟨g,k _ _ (.inl rfl) e⟩
 |xd fs=>obtain ⟨s,⟨m,es,ep,e,c⟩,r⟩:=x;exact ⟨s,⟨m,es,ep,k _ _ (.inl rfl) e,c⟩,r⟩
 |rng lo J=>obtain ⟨t,u,v,e⟩:=x;exact ⟨t,u,v,k _ _ (.inl rfl) e⟩
 |frz g u D=>obtain ⟨e,q⟩:=x;exact ⟨k _ _ (.inl rfl) e,D q⟩
 |tbl ps=>
  have e:h.get? a=some {cls:= .none,data:= .fields ps}:=x;show h'.get? a=some {cls:= .none,data:= .fields ps};exact k a _ (.inl rfl) e
 |met f y=>
  have e:h.get? a=some (PySem.W.methodObj (.ref f) (.ref y)):=x;show h'.get? a=some (PySem.W.methodObj (.ref f) (.ref y));exact k a _ (.inl rfl) e
 |ext φ=>obtain ⟨p,⟨o,e⟩,st⟩:=x;exact ⟨st _ _ p λo q=>k _ _ (.inl rfl) q,⟨o,k _ _ (.inl rfl) e⟩,st⟩
def HOk.lt (x:HOk P w H h) (e:H a=some o):a<h.objs.size:=(x a o e).lt
def HOk.fresh (x:HOk P w H h) (e:h.objs.size<=a):H a=none:=by
 cases q:H a with
 |none=>rfl
 |some u=>exact absurd (QZ (x.lt q) e) (jaz _)
def HOk.kept (x:HOk P w H h) (k:∀b u,h.get? b=some u->h'.get? b=some u):HOk P w H h':=λa o e=>
 (x a o e).stay (λb u _ q=>k b u q) (λ_ q=>q) λ_ _ q=>q
def HOk.laid (x:HOk P w H h) (k:∀b u,h.get? b=some u->h'.get? b=some u) (hp:h.objs.size<=a) (new:Yp P w (upd H a o) h' a o):HOk P w (upd H a o) h':=λb u e=>by
 have hn:=x.fresh hp
 by_cases g:b=a
 ·subst g;rw [yf] at e;cases e;exact new
 ·rw [ya g] at e;exact (x b u e).stay (λc v _ q=>k c v q) (λc q=>by rw [ya (yc q hn)];exact q) λc xs q=>by rw [ya (yc q hn)];exact q
end
def Rd (H:Hp) (a:Addr) (u:HO):Prop:=H a=some u\/∃o,H a=some (.frz o u)
def Rd.ok {P:Program} {w:World} {H:Hp} {h:Heap} {a:Addr} {u:HO} (r:Rd H a u) (x:HOk P w H h):Yp P w H h a u:=by
 rcases r with r|⟨o,r⟩
 ·exact x a u r
 ·obtain ⟨_,q⟩:=x a _ r;exact q
def Mut:Option HO->Prop
 |some (.lst _)=>True
 |some (.dK _)=>True
 |some (.dT _)=>True
 |some (.set _ _)=>True
 |some (.ins _ _ _)=>True
 |some (.ext _)=>True
 |_=>False
section
variable {P:Program} {w:World} {H:Hp} {h h':Heap} {x e:Addr} {o':HO}
def HOk.write (ok:HOk P w H h) (p:Mut (H x)) (he:e=x\/H e=some (.own x)) (k:∀b u,b≠e->h.get? b=some u->h'.get? b=some u) (G:∃u,h'.get? e=some u)
 (new:Yp P w (upd H x o') h' x o'):HOk P w (upd H x o') h':=λb u q=>by
 have g:∀c y,H c=some (.own y)->c≠x:=λc y r z=>by subst z;rw [r] at p;exact p
 have m:∀c xs,H c=some (.tup xs)->c≠x:=λc xs r z=>by subst z;rw [r] at p;exact p
 by_cases t:b=x
 ·subst t;rw [yf] at q;cases q;exact new
 ·rw [ya t] at q
  by_cases A:b=e
  ·have C:H b=some (.own x):=by
    rcases he with z|z
    ·exact absurd (A.trans z) t
    ·rw [A];exact z
   rw [q] at C;cases C;obtain ⟨v,D⟩:=G;exact ⟨v,by rw [A];exact D⟩
  ·refine (ok b u q).stay (λc v s r=>k c v ?_ r) (λc r=>by rw [ya (g c b r)];exact r) λc xs r=>by rw [ya (m c xs r)];exact r
   rcases s with rfl|s
   ·exact A
   ·rintro rfl
    rcases he with z|z
    ·exact g c b s z
    ·rw [s] at z;cases z;exact t rfl
end
structure Un (fs ex:List Addr) (H H':Hp) (h h':Heap):Prop where
 keep:∀b o,h.get? b=some o->H b=none->b∉fs->b∉ex->h'.get? b=some o
 slot:∀b o,h.get? b=some o->H b=none->b∈fs->b∉ex->∃sl,h'.get? b=some {o with slots:=sl}
 free:∀b o,h.get? b=some o->H b=none->b∉ex->H' b=none
 there:∀b o,h.get? b=some o->b∉ex->∃o',h'.get? b=some o'
 tups:∀b xs,H b=some (.tup xs)->H' b=some (.tup xs)
 frzs:∀b o u,H b=some (.frz o u)->H' b=some (.frz o u)
 tbls:∀b ps,H b=some (.tbl ps)->∃more,H' b=some (.tbl (ps++more))
section
variable {fs Py ex ex':List Addr} {H H1 H2:Hp} {h h1 h2 h':Heap} {a x e:Addr} {o:HO}
def Un.any (u:Un fs ex H H1 h h1) {b:Addr} {g:Obj} (q:h.get? b=some g) (n:H b=none) (m:b∉ex):∃sl,h1.get? b=some {g with slots:=sl}:=by
 by_cases p:b∈fs
 ·exact u.slot b g q n p m
 ·exact ⟨g.slots,u.keep b g q n p m⟩
def Un.trans (a:Un fs ex H H1 h h1) (b:Un fs ex H1 H2 h1 h2):Un fs ex H H2 h h2 where
 keep:=λc g q n r m=>b.keep c g (a.keep c g q n r m) (a.free c g q n m) r m
 slot:=λc g q n r m=>by
  obtain ⟨sl,p⟩:=a.slot c g q n r m;obtain ⟨w,t⟩:=b.slot c _ p (a.free c g q n m) r m;exact ⟨w,t⟩
 free:=λc g q n m=>by
  obtain ⟨s,p⟩:=a.there c g q m;exact b.free c s p (a.free c g q n m) m
 there:=λc g q m=>by
  obtain ⟨s,p⟩:=a.there c g q m;exact b.there c s p m
 tups:=λc xs q=>b.tups c xs (a.tups c xs q)
 frzs:=λc g xs q=>b.frzs c g xs (a.frzs c g xs q)
 tbls:=λc ps q=>by
  obtain ⟨u,p⟩:=a.tbls c ps q;obtain ⟨m2,t⟩:=b.tbls c _ p;exact ⟨u++m2,by rw [t,Array.append_assoc]⟩
def Un.kept (k:∀b u,h.get? b=some u->h'.get? b=some u):Un fs ex H H h h':=
 ⟨λb g q _ _ _=>k b g q,λb g q _ _ _=>⟨g.slots,k b g q⟩,λ_ _ _ n _=>n,λb g q _=>⟨g,k b g q⟩,λ_ _ q=>q,λ_ _ _ q=>q,λ_ ps q=>⟨#[],by rw [q];simp⟩⟩
def Un.refl:Un fs ex H H h h:=Un.kept λ_ _ q=>q
def Un.laid (k:∀b u,h.get? b=some u->h'.get? b=some u) (hp:h.objs.size<=a) (hn:H a=none):Un fs ex H (upd H a o) h h' where
 keep:=λb u q _ _ _=>k b u q
 slot:=λb u q _ _ _=>⟨u.slots,k b u q⟩
 free:=λb u q n _=>by rw [ya (QQ (QZ (Qv q) hp))];exact n
 there:=λb u q _=>⟨u,k b u q⟩
 tups:=λb xs q=>by rw [ya (yc q hn)];exact q
 frzs:=λb u xs q=>by rw [ya (yc q hn)];exact q
 tbls:=λb ps q=>⟨#[],by rw [ya (yc q hn),q];simp⟩
def Un.write (g:Mut (H x)) (he:e=x\/H e=some (.own x)) (k:∀b u,b≠e->h.get? b=some u->h'.get? b=some u) (t:∃u,h'.get? e=some u):Un fs ex H (upd H x o) h h':=by
 have m:∀b,H b=none->b≠x:=λb n z=>by subst z;rw [n] at g;exact g
 have p:∀b,H b=none->b≠e:=λb n z=>by
  subst z
  rcases he with r|r
  ·exact m b n r
  ·rw [n] at r;cases r
 have hm:∀b u,H b=some u->¬Mut (some u)->b≠x:=λb u q nm z=>by subst z;rw [q] at g;exact nm g
 refine ⟨λb u q n _ _=>k b u (p b n) q,λb u q n _ _=>⟨u.slots,k b u (p b n) q⟩,λb u q n _=>by rw [ya (m b n)];exact n,λb u q _=>?_,
  λb xs q=>by rw [ya (hm b _ q λz=>z)];exact q,λb u xs q=>by rw [ya (hm b _ q λz=>z)];exact q,λb ps q=>⟨#[],by rw [ya (hm b _ q λz=>z),q];simp⟩⟩
 by_cases s:b=e
 ·subst s;exact t
 ·exact ⟨u,k b u s q⟩
end
noncomputable def trk (h:Heap) (H:Hp):List Addr:=(List.range h.objs.size).filter λa=>(H a).isSome
noncomputable def Hr (h:Heap) (H:Hp):Heap:=PySem.W.hideAll h (trk h H)
def DM (h:Heap) (H:Hp):(Hr h H).objs.size=h.objs.size:=PySem.W.hideAll_size _ _
def Hq {h:Heap} {H:Hp} {b:Addr} {o:Obj} (e:h.get? b=some o) (n:H b=none):(Hr h H).get? b=some o:=
 PySem.W.hideAll_get _ e λhm=>by
  have q:(H b).isSome=true:=(Tq.mp hm).2;rw [n] at q;simp at q
def Ko {h:Heap} {H:Hp} {b:Addr} {o:Obj} (e:(Hr h H).get? b=some o):h.get? b=some o/\H b=none:=by
 have g:h.get? b=some o:=PySem.W.of_hideAll (trk h H) e;refine ⟨g,?_⟩
 cases q:H b with
 |none=>rfl
 |some x=>
  have hm:b∈trk h H:=Tq.mpr ⟨jbJ.mpr (Qv g),by simp [q]⟩;have z:(Hr h H).get? b=none:=PySem.W.hideAll_none (trk h H) hm;rw [z] at e;cases e
noncomputable def Le (g h:Heap) (L:Addr):List (Addr×Obj):=(List.range h.objs.size).filterMap λa=>if a=L\/(g.get? a).isSome=true then none else (h.get? a).map λo=>(a,o)
noncomputable def rest (g h:Heap) (L d:Addr):List (Addr×Obj):=(Le g h L).filter λp=>decide (p.1≠d)
structure Mod (K:Frg) (mg:Str->Option Value) (base:Heap):Prop where
 kin:K.In base
 glob:base.Ns mainGlobals mg
 blt:∃mb,base.Ns builtinsNs mb/\∀x:Str,x≠"__name__"->mb x=bootBuiltins x
 nolimit:base.NoLimit
structure Cx where
 prog:Program
 w:World
 K:Frg
 mg:Str->Option Value
 base:Heap
 A:Around
 N:List Str
 s₀:Shared
 H₀:Hp
 env:Env
 outer:List Env
 stack:List Env
 ex:List Addr
 fn:Str->Bool
 calm:Bool
 pn:List (Addr×Obj)
 xe:Value->Shared->Prop
noncomputable def frs (l:List Env):List Addr:=l.filterMap (·.frame)
noncomputable abbrev Cx.fs (X:Cx):List Addr:=frs X.outer
def Vis (sc:Scope) (x:Str):Prop:=sc.names.lookup x=some .local\/sc.names.lookup x=some .cell\/sc.names.lookup x=some .free
def Loc (sc:Scope) (x:Str):Prop:=sc.names.lookup x=some .local\/sc.names.lookup x=some .cell
def Look (env:Env) (h:Heap) (m:Str->Option Value) (x:Str) (u:Value):Prop:=
 (env.kindOf x=some .local/\m x=some u)\/((env.kindOf x=some .cell\/env.kindOf x=some .free)/\∃c,env.cells.lookup x=some c/\h.IsCell c (some u))
structure Cx.Ok (X:Cx):Prop where
 mod:Mod X.K X.mg X.base
 kind:X.env.scope.kind= .function
 glob:X.env.globals=mainGlobals
 blt:X.env.builtins=builtinsNs
 above:X.s₀.heap.objs.size<=X.env.locals
 inj:∀x y c,X.env.cells.lookup x=some c->X.env.cells.lookup y=some c->x=y
 has:∀x,(X.env.kindOf x=some .cell\/X.env.kindOf x=some .free)->∃c,X.env.cells.lookup x=some c
 cab:∀x c,X.fn x=true->X.env.cells.lookup x=some c->X.s₀.heap.objs.size<=c
 hd:X.calm=true->X.A.handled=none
 frames:X.A.frames=some X.stack
 stk:X.stack=X.outer\/(X.stack=X.env::X.outer/\X.env.frame=some X.env.locals)
 exf:∀b∈X.ex,b≠X.env.locals/\∀x c,X.env.cells.lookup x=some c->c≠b
 bs:∀b o,X.base.get? b=some o->X.s₀.heap.get? b=some o/\X.H₀ b=none
 bsz:X.base.objs.size<=X.s₀.heap.objs.size
 noex:∀b o,X.base.get? b=some o->b∉X.ex
 exfs:∀b∈X.ex,b∉X.fs
 funs:X.s₀.heap.FunFrames X.base X.outer
 frf:∀b∈X.fs,X.H₀ b=none
structure Inv (X:Cx) (pins:Pn) (σ:List (Option V)) (H:Hp) (s:Shared):Prop where
 ok:X.Ok
 os:s.os=X.s₀.os
 bare:AllBare s.gens
 base:Un X.fs X.ex X.H₀ H X.s₀.heap s.heap
 loc:∃m,s.heap.Ns X.env.locals m/\∀(i:Nat) (x:Str) (v:V),X.N[i]? =some x->σ[i]? =some (some v)->Vis X.env.scope x->∃u,Zx v u/\Look X.env s.heap m x u
 cell:∀x c,X.env.cells.lookup x=some c->∃v,s.heap.IsCell c v
 free:H X.env.locals=none
 freeC:∀x c,X.env.cells.lookup x=some c->H c=none
 pin:∀p∈X.pn++pins,s.heap.get? p.1=some p.2/\H p.1=none/\p.1≠X.env.locals/\p.1∉X.fs/\∀v,p.2.data≠ .cell v
 hok:HOk X.prog X.w H s.heap
 len:σ.length=X.N.length
section
variable {X:Cx} {pins:Pn} {σ:List (Option V)} {H H':Hp} {s:Shared} {h':Heap}
def Cx.Ok.nofr (ok:X.Ok) {b:Addr} {o:Obj} (e:X.base.get? b=some o):b∉X.fs:=λg=>by
 have:=(ok.funs.mem g).1;rw [e] at this;cases this
def Inv.bs (I:Inv X pins σ H s):∀b o,X.base.get? b=some o->s.heap.get? b=some o/\H b=none:=λb o e=>
 ⟨I.base.keep b o (I.ok.bs b o e).1 (I.ok.bs b o e).2 (I.ok.nofr e) (I.ok.noex b o e),I.base.free b o (I.ok.bs b o e).1 (I.ok.bs b o e).2 (I.ok.noex b o e)⟩
def Inv.bk (I:Inv X pins σ H s):∀b o,X.base.get? b=some o->s.heap.get? b=some o:=λb o e=>(I.bs b o e).1
def Inv.mod (I:Inv X pins σ H s):Mod X.K X.mg X.base:=I.ok.mod
def Inv.kIn (I:Inv X pins σ H s):X.K.In s.heap:=I.ok.mod.kin.keeps I.bk
def Inv.lt (I:Inv X pins σ H s):X.env.locals<s.heap.objs.size:=by
 obtain ⟨_,hn,_⟩:=I.loc;exact hn.lt
def Inv.sz (I:Inv X pins σ H s):X.s₀.heap.objs.size<=s.heap.objs.size:=QL I.ok.above (jbn I.lt)
def Inv.nofs (I:Inv X pins σ H s) {a:Addr} (h:s.heap.objs.size<=a):a∉X.fs:=λm=>by
 obtain ⟨_,o,g,_⟩:=I.ok.funs.mem m;exact absurd (QZ (Qv g) (QL I.sz h)) (jaz _)
def Inv.cne (I:Inv X pins σ H s):∀x c,X.env.cells.lookup x=some c->c≠X.env.locals:=λx c e z=>by
 obtain ⟨v,o,g,hd⟩:=I.cell x c e;obtain ⟨m,⟨r,es,ep,p,q,_⟩,_⟩:=I.loc;rw [z,p] at g;cases g;rw [q] at hd;cases hd
def Inv.funs (I:Inv X pins σ H s):s.heap.FunFrames X.base X.outer:=by
 have all:∀(l:List Env),(∀b∈frs l,b∈X.fs)->X.s₀.heap.FunFrames X.base l->s.heap.FunFrames X.base l:=by
  intro l
  induction l with
  |nil=>intro _ _;trivial
  |cons env r q=>
   intro p u;obtain ⟨w,⟨L,o,hf,hn,t,hd⟩,hr⟩:=u;have m:L∈X.fs:=p L (by unfold frs;rw [jaS,hf];exact Qe);obtain ⟨sl,e⟩:=I.base.slot L o t (I.ok.frf L m) m λz=>I.ok.exfs L z m;exact ⟨w,⟨L,_,hf,hn,e,hd⟩,q (λb g=>p b (by unfold frs;rw [jaS,hf];exact Qf _ g)) hr⟩
 exact all X.outer (λ_ g=>g) I.ok.funs
def Inv.stack (I:Inv X pins σ H s):s.heap.FunFrames X.base X.stack:=by
 rcases I.ok.stk with e|⟨e,hf⟩
 ·rw [e];exact I.funs
 ·rw [e];obtain ⟨m,hn,_⟩:=I.loc;refine .cons (by rw [I.ok.kind];decide) hf hn ?_ I.funs;exact Heap.get?_none_of_le (QL I.ok.bsz I.ok.above)
def Inv.stkSub (I:Inv X pins σ H s):∀b∈frs X.stack,b∈X.env.locals::X.fs:=λb g=>by
 rcases I.ok.stk with e|⟨e,hf⟩
 ·rw [e] at g;exact Qf _ g
 ·rw [e] at g;unfold frs at g;rw [jaS,hf] at g;exact g
def Inv.stkFree (I:Inv X pins σ H s):∀b∈frs X.stack,H b=none:=λb g=>by
 rcases Ql.mp (I.stkSub b g) with e|g
 ·rw [e];exact I.free
 ·obtain ⟨_,o,m,_⟩:=I.ok.funs.mem g;exact I.base.free b o m (I.ok.frf b g) λz=>I.ok.exfs b z g
def Inv.step {g':Array GenState} {t':Nat} {d':Drawn} {ch:List Addr} (I:Inv X pins σ H s)
 (L:∀b∈ch,(b∈X.ex\/X.s₀.heap.objs.size<=b)/\b≠X.env.locals/\(∀x c,X.env.cells.lookup x=some c->c≠b)/\∀p∈X.pn++pins,p.1≠b)
 (keep:∀b o,b≠X.env.locals->b∉X.fs->b∉ch->s.heap.get? b=some o->H b=none->h'.get? b=some o)
 (slot:∀b o,b≠X.env.locals->b∈X.fs->b∉ch->s.heap.get? b=some o->H b=none->∃sl,h'.get? b=some {o with slots:=sl}) (free:∀b o,b∉ch->s.heap.get? b=some o->H b=none->H' b=none)
 (there:∀b o,b∉ch->s.heap.get? b=some o->∃G,h'.get? b=some G)
 (tups:∀b xs,H b=some (.tup xs)->H' b=some (.tup xs)) (frzs:∀b o u,H b=some (.frz o u)->H' b=some (.frz o u)) (tbls:∀b ps,H b=some (.tbl ps)->∃more,H' b=some (.tbl (ps++more)))
 (ns:∀m,s.heap.Ns X.env.locals m->h'.Ns X.env.locals m) (hok:HOk X.prog X.w H' h') (P:AllBare g'):
 Inv X pins σ H' {s with heap:=h',gens:=g',drawn:=d',toks:=t'}:=by
 have J:∀b o,X.s₀.heap.get? b=some o->b≠X.env.locals:=λb o e=>QQ (QZ (Qv e) I.ok.above)
 have y:∀b o,X.s₀.heap.get? b=some o->b∉X.ex->b∉ch:=λb o e g C=>by
  rcases (L b C).1 with z|z
  ·exact g z
  ·exact absurd (QZ (Qv e) z) (jaz _)
 have cellK:∀x c,X.env.cells.lookup x=some c->∀v,s.heap.IsCell c v->h'.IsCell c v:=λx c e v ⟨o,D,hd⟩=>by
  have t:c∉ch:=λz=>(L c z).2.2.1 x c e rfl
  by_cases M:c∈X.fs
  ·obtain ⟨sl,q⟩:=slot c o (I.cne x c e) M t D (I.freeC x c e);exact ⟨_,q,hd⟩
  ·exact ⟨o,keep c o (I.cne x c e) M t D (I.freeC x c e),hd⟩
 refine ⟨I.ok,I.os,P,⟨λb o e n C g=>?_,λb o e n C g=>?_,λb o e n g=>?_,λb o e g=>?_,λb xs e=>tups b xs (I.base.tups b xs e),λb o xs e=>frzs b o xs (I.base.frzs b o xs e),λb ps e=>?_⟩,?_,λx c e=>?_,?_,λx c e=>?_,λp hp=>?_,hok,I.len⟩
 ·exact keep b o (J b o e) C (y b o e g) (I.base.keep b o e n C g) (I.base.free b o e n g)
 ·obtain ⟨sl,A⟩:=I.base.slot b o e n C g;obtain ⟨U,K⟩:=slot b _ (J b o e) C (y b o e g) A (I.base.free b o e n g);exact ⟨U,K⟩
 ·obtain ⟨G,A⟩:=I.base.there b o e g;exact free b G (y b o e g) A (I.base.free b o e n g)
 ·obtain ⟨G,A⟩:=I.base.there b o e g;exact there b G (y b o e g) A
 ·obtain ⟨N,A⟩:=I.base.tbls b ps e;obtain ⟨m2,K⟩:=tbls b _ A;exact ⟨N++m2,by rw [K,Array.append_assoc]⟩
 ·obtain ⟨m,hn,O⟩:=I.loc;refine ⟨m,ns m hn,λi x v A K T=>?_⟩;obtain ⟨u,r,l⟩:=O i x v A K T;refine ⟨u,r,?_⟩
  rcases l with l|⟨k,c,e,z⟩
  ·exact .inl l
  ·exact .inr ⟨k,c,e,cellK x c e _ z⟩
 ·obtain ⟨v,z⟩:=I.cell x c e;exact ⟨v,cellK x c e v z⟩
 ·obtain ⟨m,⟨o,_,_,D,_⟩,_⟩:=I.loc;exact free _ o (λz=>(L _ z).2.1 rfl) D I.free
 ·obtain ⟨v,o,D,hd⟩:=I.cell x c e;exact free c o (λz=>(L c z).2.2.1 x c e rfl) D (I.freeC x c e)
 ·obtain ⟨e,n,ne,nf,d⟩:=I.pin p hp;have t:p.1∉ch:=λz=>(L p.1 z).2.2.2 p hp rfl;exact ⟨keep p.1 p.2 ne nf t e n,free p.1 p.2 t e n,ne,nf,d⟩
def Inv.un {t':Nat} (I:Inv X pins σ H s) (u:Un X.fs [] H H' s.heap h') (hok:HOk X.prog X.w H' h'):Inv X pins σ H' {s with heap:=h',toks:=t'}:=by
 obtain ⟨m,⟨o,es,ep,q,r⟩,_⟩:=id I.loc;obtain ⟨sl,A⟩:=u.any q I.free (by simp)
 exact I.step (g':=s.gens) (d':=s.drawn) (ch:=[]) (λ_ z=>nomatch z) (λb o _ g _ e n=>u.keep b o e n g (by simp)) (λb o _ g _ e n=>u.slot b o e n g (by simp)) (λb o _ e n=>u.free b o e n (by simp)) (λb o _ e=>u.there b o e (by simp)) u.tups u.frzs u.tbls (λG hm=>by
  obtain ⟨D,p,C,t,y⟩:=hm;rw [q] at t;cases t
  exact ⟨_,p,C,A,y⟩) hok I.bare
def Inv.call {g':Array GenState} {t':Nat} {d':Drawn} {ch:List Addr} (I:Inv X pins σ H s) (u:Un (frs X.stack) ch H H' s.heap h') (hok:HOk X.prog X.w H' h') (G:AllBare g')
 (A:∀b∈ch,(b∈X.ex\/X.s₀.heap.objs.size<=b)/\b≠X.env.locals/\(∀x c,X.env.cells.lookup x=some c->c≠b)/\∀p∈X.pn++pins,p.1≠b):
 Inv X pins σ H' {s with heap:=h',gens:=g',drawn:=d',toks:=t'}:=by
 obtain ⟨m,⟨o,es,ep,y,r⟩,_⟩:=id I.loc;obtain ⟨sl,q⟩:=u.any y I.free λz=>(A _ z).2.1 rfl
 exact I.step (ch:=ch) A (λb o q J g e n=>u.keep b o e n (λz=>(Ql.mp (I.stkSub b z)).elim q J) g) (λb o _ _ g e n=>u.any e n g) (λb o g e n=>u.free b o e n g) (λb o g e=>u.there b o e g) u.tups u.frzs u.tbls (λM hm=>by
  obtain ⟨L,t,K,C,D⟩:=hm;rw [y] at C;cases C
  exact ⟨_,t,K,q,D⟩) hok G
def Inv.turned {t':Nat} {it:Addr} (I:Inv X pins σ H s) (k:∀b o,b≠it->s.heap.get? b=some o->h'.get? b=some o) (hn:H it=none) (w:it≠X.env.locals)
 (G:it∈X.ex\/X.s₀.heap.objs.size<=it) (D:∀x c,X.env.cells.lookup x=some c->c≠it) (C:∀p∈X.pn++pins,p.1≠it):Inv X pins σ H {s with heap:=h',toks:=t'}:=by
 have t:∀b u,H b=some u->b≠it:=λb u e z=>by rw [z,hn] at e;cases e
 refine I.step (g':=s.gens) (d':=s.drawn) (ch:=[it]) (λb A=>?_) (λb o _ _ g e _=>k b o (λz=>g (by simp [z])) e) (λb o _ _ g e _=>⟨o.slots,k b o (λz=>g (by simp [z])) e⟩) (λ_ _ _ _ n=>n)
  (λb o g e=>⟨o,k b o (λz=>g (by simp [z])) e⟩) (λ_ _ e=>e) (λ_ _ _ e=>e) (λb ps e=>⟨#[],by rw [e];simp⟩) (λm hm=>?_) (λb u e=>?_) I.bare
 ·have e:b=it:=by simpa using A
  subst e;exact ⟨G,w,D,C⟩
 ·obtain ⟨o,es,ep,y,r⟩:=hm;exact ⟨o,es,ep,k _ o (Ne.symm w) y,r⟩
 ·refine (I.hok b u e).stay (λc v g q=>k c v ?_ q) (λ_ q=>q) λ_ _ q=>q
  rcases g with z|z
  ·rw [z];exact t b u e
  ·exact t c _ z
def Inv.tok (I:Inv X pins σ H s) (t:Nat):Inv X pins σ H {s with toks:=t}:=I.un (h':=s.heap) (t':=t) Un.refl I.hok
def Inv.kept {t':Nat} (I:Inv X pins σ H s) (k:∀b u,s.heap.get? b=some u->h'.get? b=some u):Inv X pins σ H {s with heap:=h',toks:=t'}:=I.un (Un.kept k) (I.hok.kept k)
def Inv.laid {a:Addr} {o:HO} {t':Nat} (I:Inv X pins σ H s) (k:∀b u,s.heap.get? b=some u->h'.get? b=some u) (hp:s.heap.objs.size<=a) (new:Yp X.prog X.w (upd H a o) h' a o):
 Inv X pins σ (upd H a o) {s with heap:=h',toks:=t'}:=I.un (Un.laid k hp (I.hok.fresh hp)) (I.hok.laid k hp new)
def Inv.write {x e:Addr} {o:HO} {t':Nat} (I:Inv X pins σ H s) (g:Mut (H x)) (he:e=x\/H e=some (.own x)) (k:∀b u,b≠e->s.heap.get? b=some u->h'.get? b=some u) (m:∃u,h'.get? e=some u)
 (new:Yp X.prog X.w (upd H x o) h' x o):Inv X pins σ (upd H x o) {s with heap:=h',toks:=t'}:=I.un (Un.write g he k m) (I.hok.write g he k m new)
def Inv.weak {σ':List (Option V)} (I:Inv X pins σ H s) (g:σ'.length=σ.length) (w:∀(i:Nat) v,σ'[i]? =some (some v)->σ[i]? =some (some v)):Inv X pins σ' H s:=
 ⟨I.ok,I.os,I.bare,I.base,let ⟨m,hn,t⟩:=I.loc;⟨m,hn,λi x v r q p=>t i x v r (w i v q) p⟩,I.cell,I.free,I.freeC,I.pin,I.hok,g.trans I.len⟩
def Inv.pins_of {g:List (Addr×Obj)} (I:Inv X pins σ H s) (h:∀p∈g,s.heap.get? p.1=some p.2/\H p.1=none/\p.1≠X.env.locals/\p.1∉X.fs/\∀v,p.2.data≠ .cell v):Inv X g σ H s:=
 ⟨I.ok,I.os,I.bare,I.base,I.loc,I.cell,I.free,I.freeC,λp hp=>(QT.mp hp).elim (λz=>I.pin p (jag _ z)) (h p),I.hok,I.len⟩
def ux {N:List Str} (g:N.Nodup) {i j:Nat} {x:Str} (a:N[i]? =some x) (b:N[j]? =some x):i=j:=by
 obtain ⟨r,p⟩:=Qd.mp a;obtain ⟨q,m⟩:=Qd.mp b;exact (List.getElem_inj g).mp (p.trans m.symm)
def ow {M:Model} {A:Around} {E:Value->Shared->Prop} {i:Nat} {x:Str} {v:V} {u:Value} {Q:Unit->Shared->Prop} (I:Inv X pins σ H s) (hN:X.N.Nodup) (K:X.N[i]? =some x) (D:Loc X.env.scope x) (r:Zx v u)
 (h:∀s',Inv X pins (σ.set i (some v)) H s'->(∃a,Heap.SameBut a s.heap s'.heap/\(a=X.env.locals\/X.env.cells.lookup x=some a))->Q () s') (hf:X.fn x=true\/X.env.scope.names.lookup x=some .local:=by walk_at "f"):wpAny M A (storeName X.env x u) Q E s:=by
 obtain ⟨m,hn,hl⟩:=id I.loc;have Y:(X.env.scope.kind== .class||(X.env.scope.kind== .module && X.env.locals !=X.env.globals))=false:=by rw [I.ok.kind];rfl
 have Kσ:i<σ.length:=by rw [I.len];exact (Qd.mp K).1
 have cne:=I.cne
 have tracked:∀{a:Addr} {h':Heap},(∃o,s.heap.get? a=some o/\H a=none)->Heap.SameBut a s.heap h'->HOk X.prog X.w H h':=λ{a h'} ha g b ob e=>by
  obtain ⟨_,_,OP⟩:=ha;refine (I.hok b ob e).stay (λc Z C q=>(g.2 c ?_).trans q) (λ_ q=>q) λ_ _ q=>q
  rintro rfl
  rcases C with rfl|C
  ·rw [OP] at e;cases e
  ·rw [OP] at C;cases C
 rcases D with J|J
 ·refine wpAny_storeName_local J hn (λh' hn' g=>?_) Y;obtain ⟨oL,_,_,hoL,_⟩:=id hn;refine h _ ⟨I.ok,I.os,I.bare,⟨λb o e n P D=>?_,λb o e n P D=>?_,I.base.free,λb o e D=>?_,I.base.tups,I.base.frzs,I.base.tbls⟩,⟨_,hn',λj y v' t G e3=>?_⟩,λy c e=>?_,I.free,I.freeC,λp hp=>?_,tracked ⟨oL,hoL,I.free⟩ g,by simpa using I.len⟩ ⟨_,g, .inl rfl⟩
  ·exact (g.2 b (QQ (QZ (Qv e) I.ok.above))).trans (I.base.keep b o e n P D)
  ·obtain ⟨sl,t⟩:=I.base.slot b o e n P D;exact ⟨sl,(g.2 b (QQ (QZ (Qv e) I.ok.above))).trans t⟩
  ·obtain ⟨o',t⟩:=I.base.there b o e D;exact ⟨o',(g.2 b (QQ (QZ (Qv e) I.ok.above))).trans t⟩
  ·by_cases L:j=i
   ·subst L;rw [K] at t;cases t;rw [List.getElem?_set_self Kσ] at G;cases G;exact ⟨u,r, .inl ⟨J,by simp⟩⟩
   ·rw [jbI (Ne.symm L)] at G;obtain ⟨u',r',q⟩:=hl j y v' t G e3;refine ⟨u',r',?_⟩
    rcases q with ⟨k,e⟩|⟨k,c,e,z⟩
    ·refine .inl ⟨k,?_⟩;have:y≠x:=λe=>L (ux hN t (e▸K));simp [this,e]
    ·exact .inr ⟨k,c,e,z.sameBut g (cne y c e)⟩
  ·obtain ⟨Z,z⟩:=I.cell y c e;exact ⟨Z,z.sameBut g (cne y c e)⟩
  ·obtain ⟨e,n,ne,nf,d⟩:=I.pin p hp;exact ⟨(g.2 p.1 ne).trans e,n,ne,nf,d⟩
 ·have O:X.fn x=true:=by
   rcases hf with z|z
   ·exact z
   ·rw [z] at J;cases J
  obtain ⟨c,C⟩:=I.ok.has x (.inl J);obtain ⟨Z,z⟩:=I.cell x c C;refine wpAny_storeName_cell I.ok.kind J C z (λh' ML g=>?_);obtain ⟨oc,U,T⟩:=id z;refine h {s with heap:=h'} ⟨I.ok,I.os,I.bare,⟨λb o e n P D=>?_,λb o e n P D=>?_,I.base.free,λb o e D=>?_,I.base.tups,I.base.frzs,I.base.tbls⟩,⟨m,hn.sameBut g (Ne.symm (cne x c C)),λj y v' t G e3=>?_⟩,λy c' e=>?_,I.free,I.freeC,λp hp=>?_,tracked ⟨oc,U,I.freeC x c C⟩ g,by simpa using I.len⟩ ⟨c,g, .inr C⟩
  ·exact (g.2 b (QQ (QZ (Qv e) (I.ok.cab x c O C)))).trans (I.base.keep b o e n P D)
  ·obtain ⟨sl,t⟩:=I.base.slot b o e n P D;exact ⟨sl,(g.2 b (QQ (QZ (Qv e) (I.ok.cab x c O C)))).trans t⟩
  ·obtain ⟨o',t⟩:=I.base.there b o e D;exact ⟨o',(g.2 b (QQ (QZ (Qv e) (I.ok.cab x c O C)))).trans t⟩
  ·by_cases L:j=i
   ·subst L;rw [K] at t;cases t;rw [List.getElem?_set_self Kσ] at G;cases G;exact ⟨u,r, .inr ⟨.inl J,c,C,ML⟩⟩
   ·rw [jbI (Ne.symm L)] at G;obtain ⟨u',r',q⟩:=hl j y v' t G e3;refine ⟨u',r',?_⟩
    rcases q with q|⟨k,c',e,z'⟩
    ·exact .inl q
    ·refine .inr ⟨k,c',e,z'.sameBut g ?_⟩
     rintro rfl
     exact L (ux hN t (I.ok.inj _ _ _ e C▸K))
  ·by_cases Sn:c'=c
   ·subst Sn;exact ⟨_,ML⟩
   ·obtain ⟨w2,z2⟩:=I.cell y c' e;exact ⟨w2,z2.sameBut g Sn⟩
  ·obtain ⟨e,n,ne,nf,d⟩:=I.pin p hp;refine ⟨(g.2 p.1 ?_).trans e,n,ne,nf,d⟩;intro q;rw [q,U] at e;have q':oc=p.2:=QH e;exact d Z (by rw [<-q'];exact T)
def UO {M:Model} {A:Around} {E:Value->Shared->Prop} {i:Nat} {x:Str} {v:V} {u:Value} {Q:Unit->Shared->Prop} (I:Inv X pins σ H s) (p:X.N.Nodup) (m:X.N[i]? =some x) (g:Loc X.env.scope x) (r:Zx v u)
 (h:∀s',Inv X pins (σ.set i (some v)) H s'->Q () s') (hf:X.fn x=true\/X.env.scope.names.lookup x=some .local:=by walk_at "f"):wpAny M A (storeName X.env x u) Q E s:=
 ow I p m g r (λs' q _=>h s' q) hf
def Inv.call' {s':Shared} {ch:List Addr} (I:Inv X pins σ H s) (m:s'.os=s.os) (u:Un (frs X.stack) ch H H' s.heap s'.heap) (hok:HOk X.prog X.w H' s'.heap) (q:AllBare s'.gens)
 (r:∀b∈ch,(b∈X.ex\/X.s₀.heap.objs.size<=b)/\b≠X.env.locals/\(∀x c,X.env.cells.lookup x=some c->c≠b)/\∀p∈X.pn++pins,p.1≠b):Inv X pins σ H' s':=by
 obtain ⟨h',g',d',t',g⟩:=s';have e:g=s.os:=m;subst e;exact I.call (g':=g') (t':=t') (d':=d') u hok q r
end
abbrev XK:=Value->Option Addr->Hp->Prop
abbrev St:=List (Option V)
abbrev VK:=V->Hp->Prop
abbrev TE:=St->Hp->VK->Prop
abbrev TT:=St->Hp->(Bool->Hp->Prop)->Prop
abbrev TA:=St->Hp->(List V->Hp->Prop)->Prop
structure Ends where
 nx:St->Hp->Prop
 rt:VK
 bk:St->Hp->Prop:=λ_ _=>False
 ct:St->Hp->Prop:=λ_ _=>False
abbrev TS:=Ends->St->Hp->Prop
def EP (X:Cx) (pins:Pn) (σ:St) (Q:VK) (u:Value) (s':Shared):Prop:=∃v H',Inv X pins σ H' s'/\Zx v u/\Q v H'
def TP (X:Cx) (pins:Pn) (σ:St) (Q:Bool->Hp->Prop) (b:Bool) (s':Shared):Prop:=∃H',Inv X pins σ H' s'/\Q b H'
def AP (X:Cx) (pins:Pn) (σ:St) (Q:List V->Hp->Prop) (us:List Value) (s':Shared):Prop:=∃vs H',Inv X pins σ H' s'/\xx vs us/\Q vs H'
def SP (X:Cx) (pins:Pn) (D:Ends) (f:Flow) (s':Shared):Prop:=
 match f with
 | .next=>∃σ' H',Inv X pins σ' H' s'/\D.nx σ' H'
 | .brk=>∃σ' H',Inv X pins σ' H' s'/\D.bk σ' H'
 | .cont=>∃σ' H',Inv X pins σ' H' s'/\D.ct σ' H'
 | .ret u=>∃v σ' H',Inv X pins σ' H' s'/\Zx v u/\D.rt v H'
def PE (X:Cx) (e:Expr) (t:TE):Prop:=
 ∀(pins:Pn) (s:Shared) (σ:St) (H:Hp) (Q:VK),Inv X pins σ H s->t σ H Q->wpAny (model X.prog X.w) X.A (eval e X.env) (EP X pins σ Q) X.xe s
def PT (X:Cx) (e:Expr) (t:TT):Prop:=
 ∀(pins:Pn) (s:Shared) (σ:St) (H:Hp) (Q:Bool->Hp->Prop),Inv X pins σ H s->t σ H Q->wpAny (model X.prog X.w) X.A (isTrue e X.env (eval e X.env)) (TP X pins σ Q) X.xe s
def PW (X:Cx) (e:Expr) (t:TT):Prop:=
 ∀(whole:Sem Value) (pins:Pn) (s:Shared) (σ:St) (H:Hp) (Q:Bool->Hp->Prop),Inv X pins σ H s->t σ H Q->wpAny (model X.prog X.w) X.A (isTrue e X.env whole) (TP X pins σ Q) X.xe s
def PW.pt {X:Cx} {e:Expr} {t:TT} (h:PW X e t):PT X e t:=h _
def PA (X:Cx) (es:List Expr) (t:TA):Prop:=
 ∀(pos:Pos) (pins:Pn) (s:Shared) (σ:St) (H:Hp) (Q:List V->Hp->Prop),Inv X pins σ H s->t σ H Q->wpAny (model X.prog X.w) X.A (spliced (backTo pos (starEach es X.env))) (AP X pins σ Q) X.xe s
def PS (X:Cx) (st:Stmt) (t:TS):Prop:=
 ∀(pins:Pn) (s:Shared) (σ:St) (H:Hp) (D:Ends),Inv X pins σ H s->t D σ H->wpAny (model X.prog X.w) X.A (exec st X.env) (SP X pins D) X.xe s
def PSs (X:Cx) (st:List Stmt) (t:TS):Prop:=
 ∀(pins:Pn) (s:Shared) (σ:St) (H:Hp) (D:Ends),Inv X pins σ H s->t D σ H->wpAny (model X.prog X.w) X.A (execs st X.env) (SP X pins D) X.xe s
def thn {α:Type} {t:Sem α} {Q g:α->Shared->Prop} {M:Model} {A:Around} {E:Value->Shared->Prop} {s:Shared} (h:wpAny M A t Q E s) (m:∀a s,Q a s->g a s):wpAny M A t g E s:=wpAny_mono h m λ_ _ x=>x
section
variable {X:Cx}
def tVar (i:Nat):TE:=λσ H Q=>∃v,σ[i]? =some (some v)/\Q v H
def tC (v:V):TE:=λ_ H Q=>Q v H
def pe_var {i:Nat} {x:Str} {pos:Pos} (y:X.N[i]? =some x) (t:Vis X.env.scope x) (hd:(x==("__debug__":Str))=false:=by decide) (z:(x==("__classdict__":Str))=false:=by decide):PE X (.Name x pos) (tVar i):=by
 intro pins s σ H Q I h;obtain ⟨v,e,h⟩:=h;obtain ⟨m,hn,w⟩:=I.loc;obtain ⟨u,r,l⟩:=w i x v y e t;have fin:EP X pins σ Q u s:=⟨v,H,I,r,h⟩
 rcases l with ⟨g,hm⟩|⟨g,c,p,q⟩
 ·exact wpAny_Name (wpAny_loadName_local I.ok.kind g hn hm fin) hd
 ·rcases g with g|g
  ·exact wpAny_Name (wpAny_loadName_cell I.ok.kind g p q fin) hd
  ·exact wpAny_Name (wpAny_loadName_free I.ok.kind g p q fin z) hd
def uw {i j pos}:PE X (.Constant (.int i) j pos) (tC (.int i)):=λ_ _ _ H _ I h=>wpAny_Constant_int ⟨.int i,H,I.tok _,⟨_,rfl⟩,h⟩
def pe_bl {b j pos}:PE X (.Constant (.bool b) j pos) (tC (.bl b)):=λ_ _ _ H _ I h=>Constant_bool ⟨.bl b,H,I,rfl,h⟩
def pe_str {x j pos}:PE X (.Constant (.str x) j pos) (tC (.str x)):=λ_ _ _ H _ I h=>Calls.Constant_str ⟨.str x,H,I.tok _,⟨_,rfl⟩,h⟩
def Gl (X:Cx) (x:Str):Prop:=X.env.kindOf x=some .globalImplicit
def gR {E:Value->Shared->Prop} {pins:Pn} {s:Shared} {σ:St} {H:Hp} {x:Str} {u:Value} {pos:Pos} {Q:Value->Shared->Prop} (I:Inv X pins σ H s) (g:Gl X x) (hm:X.mg x=some u) (h:Q u s)
 (hd:(x==("__debug__":Str))=false:=by decide):wpAny (model X.prog X.w) X.A (eval (.Name x pos) X.env) Q E s:=
 Calls.Name_function_global I.ok.kind g (Calls.loadGlobal_global (by rw [I.ok.glob];exact I.mod.glob.keeps I.bk) hm h) hd
def ax {E:Value->Shared->Prop} {pins:Pn} {s:Shared} {σ:St} {H:Hp} {x:Str} {u:Value} {pos:Pos} {Q:Value->Shared->Prop} (I:Inv X pins σ H s) (m:Gl X x) (hm:X.mg x=none) (g:bootBuiltins x=some u) (h:Q u s)
 (hn:x≠"__name__":=by decide) (hd:(x==("__debug__":Str))=false:=by decide):wpAny (model X.prog X.w) X.A (eval (.Name x pos) X.env) Q E s:=by
 obtain ⟨r,q,p⟩:=I.mod.blt;exact Calls.Name_function_global I.ok.kind m (Calls.loadGlobal_builtin (by rw [I.ok.glob];exact I.mod.glob.keeps I.bk) hm (by rw [I.ok.blt];exact q.keeps I.bk) ((p x hn).trans g) h) hd
def JW {x:Str} {v:V} {u:Value} {pos:Pos} (g:Gl X x) (hm:X.mg x=some u) (r:Zx v u) (hd:(x==("__debug__":Str))=false:=by decide):PE X (.Name x pos) (tC v):=
 λ_ _ _ H _ I h=>gR I g hm ⟨v,H,I,r,h⟩ hd
def pe_bltn {x:Str} {v:V} {u:Value} {pos:Pos} (m:Gl X x) (hm:X.mg x=none) (g:bootBuiltins x=some u) (r:Zx v u) (hn:x≠"__name__":=by decide) (hd:(x==("__debug__":Str))=false:=by decide):PE X (.Name x pos) (tC v):=
 λ_ _ _ H _ I h=>ax I m hm g ⟨v,H,I,r,h⟩ hn hd
variable {a b:Expr} {ta tb:TE} {pos:Pos}
def tB (t:TE):TT:=λσ H Q=>t σ H λx H1=>∃c,x= .bl c/\Q c H1
def pt_val {e:Expr} {t:TE} (h:PE X e t) (he:∀whole,isTrue e X.env whole=(do let v<-whole;standAt e.pos;holding [v] (truthy v)):=by intro _;rfl):PT X e (tB t):=by
 intro pins s σ H Q I hw;refine isTrue_plain (thn (h pins s σ H _ I hw) ?_) (he _);rintro v s1 ⟨x,H1,p,g,m⟩;obtain ⟨d,rfl,q⟩:=m;cases g;exact jca ⟨H1,p,q⟩
variable {tA tB':TT} {rest:List Expr}
def tAnd (t u:TT):TT:=λσ H Q=>t σ H λc H1=>if c=true then u σ H1 Q else Q false H1
def tOr (t u:TT):TT:=λσ H Q=>t σ H λc H1=>if c=true then Q true H1 else u σ H1 Q
def tNot (t:TT):TT:=λσ H Q=>t σ H λc H1=>Q (!c) H1
def pw_and1 (ha:PT X a tA):PW X (.BoolOp .And [a] pos) tA:=by
 intro wh pins s σ H Q I h;refine isTrue_and (thn (ha pins s σ H Q I h) λc s1 e=>?_)
 cases c with
 |true=>exact isTrue_and_nil e
 |false=>exact e
def pw_or1 (ha:PT X a tA):PW X (.BoolOp .Or [a] pos) tA:=by
 intro wh pins s σ H Q I h;refine isTrue_or (thn (ha pins s σ H Q I h) λc s1 e=>?_)
 cases c with
 |false=>exact isTrue_or_nil e
 |true=>exact e
def pw_and (ha:PT X a tA) (q:PW X (.BoolOp .And (b::rest) pos) tB'):PW X (.BoolOp .And (a::b::rest) pos) (tAnd tA tB'):=by
 intro wh pins s σ H Q I h;refine isTrue_and (thn (ha pins s σ H _ I h) λc s1 p=>?_);obtain ⟨H1,m,g⟩:=p
 cases c with
 |true=>exact q wh pins s1 σ H1 Q m g
 |false=>exact ⟨H1,m,g⟩
def pw_or (ha:PT X a tA) (q:PW X (.BoolOp .Or (b::rest) pos) tB'):PW X (.BoolOp .Or (a::b::rest) pos) (tOr tA tB'):=by
 intro wh pins s σ H Q I h;refine isTrue_or (thn (ha pins s σ H _ I h) λc s1 p=>?_);obtain ⟨H1,m,g⟩:=p
 cases c with
 |true=>exact ⟨H1,m,g⟩
 |false=>exact q wh pins s1 σ H1 Q m g
def pt_not (ha:PT X a tA):PT X (.UnaryOp .Not a pos) (tNot tA):=by
 intro pins s σ H Q I h;exact isTrue_not (ha pins s σ H (λc H1=>Q (!c) H1) I h)
def tAndV (ta tb:TE):TE:=λσ H Q=>ta σ H λx H1=>∃c,x= .bl c/\if c=true then tb σ H1 Q else Q (.bl false) H1
def tNotV (ta:TE):TE:=λσ H Q=>ta σ H λx H1=>∃c,x= .bl c/\Q (.bl (!c)) H1
def pe_one {op} {t:TE} (h:PE X a t):PE X (.BoolOp op [a] pos) t:=λpins s σ H Q I hw=>BoolOp_one (h pins s σ H Q I hw)
def pe_and (ha:PE X a ta) (r:PE X (.BoolOp .And (b::rest) pos) tb):PE X (.BoolOp .And (a::b::rest) pos) (tAndV ta tb):=by
 intro pins s σ H Q I h;refine BoolOp_and (thn (ha pins s σ H _ I h) λv s1 q=>?_);obtain ⟨x,H1,m,p,g⟩:=q;obtain ⟨c,rfl,g⟩:=g;cases p;refine jca ?_
 cases c with
 |true=>exact r pins s1 σ H1 Q m g
 |false=>exact ⟨.bl false,H1,m,rfl,g⟩
def pe_not (ha:PE X a ta):PE X (.UnaryOp .Not a pos) (tNotV ta):=by
 intro pins s σ H Q I h;refine UnaryOp_ (thn (ha pins s σ H _ I h) λv s1 p=>?_);obtain ⟨x,H1,q,m,g⟩:=p;obtain ⟨c,rfl,g⟩:=g;cases m;exact not_of (jca ⟨.bl (!c),H1,q,rfl,g⟩)
end
def SqL (K:Frg) (H:Hp) (a:Addr) (xs:List V):Prop:=
 Rd H a (.lst xs)\/
  ∃(o:Obj) (its:Array Value) (n:Nat),K.lookup a=some o/\o.cls= .type "list"/\o.dict=none/\o.data= .seq its n/\its.size<=sizeLine/\xx xs its.toList
def SqT (K:Frg) (H:Hp) (a:Addr) (xs:List V):Prop:=
 Rd H a (.tup xs)\/
  ∃(o:Obj) (its:Array Value) (n:Nat),K.lookup a=some o/\o.cls= .type "tuple"/\o.data= .seq its n/\its.size<=sizeLine/\xx xs its.toList
noncomputable def absV:Value->Option V
 | .none=>some .non
 | .bool b=>some (.bl b)
 | .int i _=>some (.int i)
 | .str x _=>some (.str x)
 | .bytes b _=>some (.byt b)
 | .float b _=>some (.flt b)
 | .ref a=>some (.ref a)
 | .type n=>some (.ty n)
 |_=>none
def Zx.abs {x:V} {u:Value} (r:Zx x u):absV u=some x:=by
 cases x with
 |non=>cases r;rfl
 |bl _=>cases r;rfl
 |int _=>obtain ⟨t,rfl⟩:=r;rfl
 |str _=>obtain ⟨t,rfl⟩:=r;rfl
 |byt _=>obtain ⟨t,rfl⟩:=r;rfl
 |flt _=>obtain ⟨t,rfl⟩:=r;rfl
 |ref _=>cases r;rfl
 |ty _=>cases r;rfl
def Zx.inj {x y:V} {u:Value} (r:Zx x u) (q:Zx y u):x=y:=QH (r.abs.symm.trans q.abs)
def xx.inj {xs ys:List V} {us:List Value} (h:xx xs us) (g:xx ys us):xs=ys:=by
 induction h generalizing ys with
 |nil=>cases g;rfl
 |cons r t p=>
  cases g with
  |cons m t'=>rw [r.inj m,p t']
section
variable {X:Cx} {pins:Pn} {σ:St} {H:Hp} {s:Shared} {a:Addr} {xs ys:List V}
def SqL.of {K:Frg} (h:H a=some (.lst xs)):SqL K H a xs:= .inl (.inl h)
def SqT.of {K:Frg} (h:H a=some (.tup xs)):SqT K H a xs:= .inl (.inl h)
def Inv.list (I:Inv X pins σ H s) (h:SqL X.K H a xs):∃its:List Value,xx xs its/\PlainL s.heap a its.toArray/\xs.length<=sizeLine:=by
 rcases h with h|⟨o,its,n,m,p,hd,g,hz,r⟩
 ·obtain ⟨z,its,n,r,e⟩:=h.ok I.hok;exact ⟨its,r,⟨_,n,e,rfl,rfl,rfl⟩,z⟩
 ·refine ⟨its.toList,r,⟨o,n,I.kIn a o m,p,hd,by simpa using g⟩,?_⟩;have e:=r.length;simp only [jao] at e;omega
def Inv.tuple (I:Inv X pins σ H s) (h:SqT X.K H a xs):∃its:List Value,xx xs its/\IsTup s.heap a its.toArray/\xs.length<=sizeLine:=by
 rcases h with h|⟨o,its,n,m,q,g,hz,r⟩
 ·obtain ⟨z,its,r,p⟩:=h.ok I.hok;exact ⟨its,r,p,z⟩
 ·refine ⟨its.toList,r,⟨o,I.kIn a o m,q,n,by simpa using g⟩,?_⟩;have e:=r.length;simp only [jao] at e;omega
def Inv.list_inj (I:Inv X pins σ H s) (h:SqL X.K H a xs) (h':SqL X.K H a ys):xs=ys:=by
 obtain ⟨its,r,⟨o,n,e,_,_,d⟩,_⟩:=I.list h;obtain ⟨its',m,⟨q,t,g,_,_,d'⟩,_⟩:=I.list h';rw [e] at g;cases g;rw [d] at d'
 injection d' with p _
 have:its=its':=by simpa using congrArg Array.toList p
 subst this;exact r.inj m
def Inv.tuple_inj (I:Inv X pins σ H s) (h:SqT X.K H a xs) (h':SqT X.K H a ys):xs=ys:=by
 obtain ⟨its,r,⟨o,e,_,n,d⟩,_⟩:=I.tuple h;obtain ⟨its',m,⟨q,g,_,t,d'⟩,_⟩:=I.tuple h';rw [e] at g;cases g;rw [d] at d'
 injection d' with p _
 have:its=its':=by simpa using congrArg Array.toList p
 subst this;exact r.inj m
end
noncomputable abbrev Cx.wish (X:Cx) (E:Value->Shared->Prop):Cx:={X with xe:=E}
noncomputable abbrev Cx.nox (X:Cx):Cx:=X.wish λ_ _=>False
def Cx.Ok.wish {X:Cx} (ok:X.Ok) (E:Value->Shared->Prop):(X.wish E).Ok:=
 ⟨ok.mod,ok.kind,ok.glob,ok.blt,ok.above,ok.inj,ok.has,ok.cab,ok.hd,ok.frames,ok.stk,ok.exf,ok.bs,ok.bsz,ok.noex,ok.exfs,ok.funs,ok.frf⟩
def Cx.Ok.unwish {X:Cx} {E:Value->Shared->Prop} (ok:(X.wish E).Ok):X.Ok:=
 ⟨ok.mod,ok.kind,ok.glob,ok.blt,ok.above,ok.inj,ok.has,ok.cab,ok.hd,ok.frames,ok.stk,ok.exf,ok.bs,ok.bsz,ok.noex,ok.exfs,ok.funs,ok.frf⟩
section
variable {X:Cx} {pins:Pn} {σ:St} {H:Hp} {s:Shared} {E:Value->Shared->Prop}
def Inv.wish (I:Inv X pins σ H s) (E:Value->Shared->Prop):Inv (X.wish E) pins σ H s:=⟨I.ok.wish E,I.os,I.bare,I.base,I.loc,I.cell,I.free,I.freeC,I.pin,I.hok,I.len⟩
def Inv.unwish (I:Inv (X.wish E) pins σ H s):Inv X pins σ H s:=⟨I.ok.unwish,I.os,I.bare,I.base,I.loc,I.cell,I.free,I.freeC,I.pin,I.hok,I.len⟩
def SP.unwish {D:Ends} {f:Flow} {s':Shared} (h:SP (X.wish E) pins D f s'):SP X pins D f s':=by
 cases f with
 |next=>obtain ⟨σ',H',I,q⟩:=h;exact ⟨σ',H',I.unwish,q⟩
 |brk=>obtain ⟨σ',H',I,q⟩:=h;exact ⟨σ',H',I.unwish,q⟩
 |cont=>obtain ⟨σ',H',I,q⟩:=h;exact ⟨σ',H',I.unwish,q⟩
 |ret u=>obtain ⟨v,σ',H',I,r,q⟩:=h;exact ⟨v,σ',H',I.unwish,r,q⟩
def PSs.nox {st:List Stmt} {t:TS} (h:PSs X.nox st t):PSs X st t:=λpins s σ H D I hw=>
 wpAny_mono (h pins s σ H D (I.wish _) hw) (λ_ _ q=>q.unwish) λ_ _ z=>False.elim z
end
section
variable {X:Cx} {st:Stmt} {rest:List Stmt} {t u:TS} {e:Expr} {te:TE} {pos:Pos}
def tNext:TS:=λD σ H=>D.nx σ H
def tSeq (t u:TS):TS:=λD σ H=>t {D with nx:=u D} σ H
def CA:PSs X [] tNext:=λ_ _ σ H _ I h=>wpAny_execs_nil ⟨σ,H,I,h⟩
def uu (m:PS X st t) (g:PSs X rest u):PSs X (st::rest) (tSeq t u):=by
 intro pins s σ H D I h;refine wpAny_execs_cons (thn (m pins s σ H {D with nx:=u D} I h) λf s1 q=>?_)
 cases f with
 |next=>
  obtain ⟨σ',H',p,q⟩:=q;exact g pins s1 σ' H' D p q
 |ret v=>exact q
 |brk=>exact q
 |cont=>exact q
def gg (g:PS X st t):PSs X [st] t:=by
 intro pins s σ H D I h;refine wpAny_execs_cons (thn (g pins s σ H D I h) λf s1 q=>?_)
 cases f with
 |next=>exact wpAny_execs_nil q
 |ret v=>exact q
 |brk=>exact q
 |cont=>exact q
def Inv.quiet {pins:Pn} {σ:St} {H:Hp} {s:Shared} (I:Inv X pins σ H s):interactive X.env=false:=by simp [interactive,I.ok.kind]
def tDrop (te:TE):TS:=λD σ H=>te σ H λ_ H1=>D.nx σ H1
def ps_expr (he:PE X e te) (m:swapsWith e none pos.line X.env=pure false:=by rfl):PS X (.Expr e pos) (tDrop te):=by
 intro pins s σ H D I h;refine wpAny_Expr_any (thn (he pins s σ H _ I h) ?_) I.quiet m;rintro v s1 ⟨x,H1,p,q,g⟩;exact ⟨σ,H1,p,g⟩
def tRet (te:TE):TS:=λD σ H=>te σ H D.rt
def ps_ret (he:PE X e te):PS X (.Return (some e) pos) (tRet te):=by
 intro pins s σ H D I h;refine wpAny_Return_some (thn (he pins s σ H _ I h) ?_);rintro v s1 ⟨x,H1,p,g,m⟩;exact ⟨x,σ,H1,p,g,m⟩
def tIfS (c:TT) (t u:TS):TS:=λD σ H=>c σ H λb H1=>if b=true then t D σ H1 else u D σ H1
def ps_if {c:Expr} {a b:List Stmt} {g:TT} (r:PT X c g) (ha:PSs X a t) (w:PSs X b u):PS X (.If c a b pos) (tIfS g t u):=by
 intro pins s σ H D I h;refine wpAny_If (thn (r pins s σ H _ I h) λd s1 q=>?_);obtain ⟨H1,p,m⟩:=q
 cases d with
 |true=>exact ha pins s1 σ H1 D p m
 |false=>exact w pins s1 σ H1 D p m
def tNever:TS:=λ_ _ _=>False
def uv:PS X st tNever:=λ_ _ _ _ _ _ h=>h.elim
end
abbrev TG:=V->St->Hp->(St->Hp->Prop)->Prop
abbrev TGs:=List V->St->Hp->(St->Hp->Prop)->Prop
def PG (X:Cx) (target:Expr) (t:TG):Prop:=
 ∀(pins:Pn) (s:Shared) (σ:St) (H:Hp) (v:V) (u:Value) (Q:St->Hp->Prop),Inv X pins σ H s->Zx v u->t v σ H Q->
  wpAny (model X.prog X.w) X.A (assign target X.env u) (λ_ s'=>∃σ' H',Inv X pins σ' H' s'/\Q σ' H') X.xe s
def PGs (X:Cx) (g:List Expr) (t:TGs):Prop:=
 ∀(pins:Pn) (s:Shared) (σ:St) (H:Hp) (vs:List V) (us:List Value) (Q:St->Hp->Prop),Inv X pins σ H s->xx vs us->t vs σ H Q->
  wpAny (model X.prog X.w) X.A (assignInOrder ((assignEach g X.env).map (·.2)) us) (λ_ s'=>∃σ' H',Inv X pins σ' H' s'/\Q σ' H') X.xe s
abbrev TSet:=V->V->V->Hp->(Hp->Prop)->Prop
def PSet (X:Cx) (t:TSet):Prop:=
 ∀(pins:Pn) (s:Shared) (σ:St) (H:Hp) (o i v:V) (g m u:Value) (Q:Hp->Prop),Inv X pins σ H s->Zx o g->Zx i m->Zx v u->t o i v H Q->
  wpAny (model X.prog X.w) X.A (setItem g m u) (λ_ s'=>∃H',Inv X pins σ H' s'/\Q H') X.xe s
abbrev TIp:=V->V->Hp->VK->Prop
def PIp (X:Cx) (op:Operator) (t:TIp):Prop:=
 ∀(pins:Pn) (s:Shared) (σ:St) (H:Hp) (x y:V) (v u:Value) (Q:VK),Inv X pins σ H s->Zx x v->Zx y u->t x y H Q->
  wpAny (model X.prog X.w) X.A (inplaceOp op v u) (EP X pins σ Q) X.xe s
section
variable {X:Cx} {pos:Pos}
def nj (i:Nat):TG:=λv σ H Q=>Q (σ.set i (some v)) H
def rX {i:Nat} {x:Str} (p:X.N.Nodup) (m:X.N[i]? =some x) (g:Loc X.env.scope x) (hf:X.fn x=true\/X.env.scope.names.lookup x=some .local:=by walk_at "f"):PG X (.Name x pos) (nj i):=by
 intro pins s σ H v u Q I r h;exact wpAny_assign_Name (UO I p m g r (λs' q=>⟨_,H,q,h⟩) hf)
def gNil:TGs:=λvs σ H Q=>vs=[]/\Q σ H
def gCons (t:TG) (u:TGs):TGs:=λvs σ H Q=>∃v r,vs=v::r/\t v σ H λσ' H'=>u r σ' H' Q
def pgs_nil:PGs X [] gNil:=by
 intro pins s σ H vs us Q I r h;obtain ⟨e,h⟩:=h;subst e;cases r;exact assignInOrder_nil ⟨σ,H,I,h⟩
def pgs_cons {e:Expr} {es:List Expr} {t:TG} {u:TGs} (y:PG X e t) (w:PGs X es u)
 (p:(assignEach (e::es) X.env).map (·.2)=assign e X.env::(assignEach es X.env).map (·.2):=by rfl):PGs X (e::es) (gCons t u):=by
 intro pins s σ H vs us Q I r h;obtain ⟨v,C,z,h⟩:=h;subst z
 cases r with
 |cons r g=>
  rw [p];refine assignInOrder_cons (thn (y pins s σ H _ _ _ I r h) λ_ s1 q=>?_);obtain ⟨σ1,H1,A,m⟩:=q;exact w pins s1 σ1 H1 _ _ Q A g m
def gTup (K:Frg) (n:Nat) (t:TGs):TG:=λv σ H Q=>∃a xs,v= .ref a/\SqT K H a xs/\xs.length=n/\t xs σ H Q
def pg_tup {es:List Expr} {k:Nat} {t:TGs} {n:Nat} (w:X.calm=true) (h:PGs X es t)
 (hn:(assignEach es X.env).length=n:=by rfl) (z:(assignEach es X.env).findIdx? (·.1)=none:=by rfl):PG X (.Tuple es k pos) (gTup X.K n t):=by
 intro pins s σ H v u Q I r hw;obtain ⟨a,xs,y,p,q,hw⟩:=hw;subst y;cases r;obtain ⟨its,g,ht,hz⟩:=I.tuple p;refine assign_Tuple_tuple (I.ok.hd w) ht (by simp [hn,<-q,g.length]) z λh' m=>?_;have A:Inv X pins σ H {s with heap:=h'}:=I.kept (t':=s.toks) λb o e=>m b o (QQ (Qv e)) e;exact h pins _ σ H xs _ Q A ‹g› hw
def gSub (to g:TE) (t:TSet):TG:=λv σ H Q=>to σ H λo H1=>g σ H1 λi p=>t o i v p λm=>Q σ m
def pg_sub {o i:Expr} {to q:TE} {t:TSet} (J:PE X o to) (K:PE X i q) (G:PSet X t)
 (ha:∀v,assign (.Subscript o i pos) X.env v=(do
  let g<-holding [v] (eval o X.env)
  let m<-holding [v,g] (eval i X.env)
  standAt pos
  holding [v,g,m] (setItem g m v)
  release [v,g,m] []):=by intro _;rfl):PG X (.Subscript o i pos) (gSub to q t):=by
 intro pins s σ H v u Q I r h;rw [ha];refine Qg (jaY (thn (J pins s σ H _ I h) λg s1 p=>?_));obtain ⟨x,H1,N,z,D⟩:=p;refine Qg (jaY (thn (K pins s1 σ H1 _ N D) λm s2 p=>?_));obtain ⟨y,P,M,w,C⟩:=p;refine Qg (wpAny_standAt (Qg (jaY (thn (G pins s2 σ P x y v g m u _ M z w r C) λ_ s3 p=>?_))));obtain ⟨O,L,A⟩:=p;exact wpAny_release ⟨σ,O,L,A⟩
def Lu (m:TE) (g:TG):TS:=λD σ H=>m σ H λx H1=>g x σ H1 D.nx
def ps_asg {m e:Expr} {p:TE} {g:TG} (he:PE X e p) (w:PG X m g) (u:swapsWithSole [m] e pos.line X.env=pure false:=by rfl) (hw:swappedStores [m] e X.env=pure none:=by rfl)
 (y:(assignEach [m] X.env).map (·.2)=[assign m X.env]:=by rfl):PS X (.Assign [m] e pos) (Lu p g):=by
 intro pins s σ H D I h;refine wpAny_Assign_stores (thn (he pins s σ H _ I h) ?_) u hw;rintro v s1 ⟨x,H1,z,r,t⟩;rw [y];exact thn (w pins s1 σ H1 x v _ z r t) λ_ s2 q=>q
def ps_set {i:Nat} {x:Str} {e:Expr} {g:TE} {pos':Pos} (u:X.N.Nodup) (t:X.N[i]? =some x) (q:Loc X.env.scope x) (he:PE X e g) (r:swapsWith e (some (.Name x pos')) pos.line X.env=pure false:=by rfl) (hf:X.fn x=true\/X.env.scope.names.lookup x=some .local:=by walk_at "f"):
 PS X (.Assign [.Name x pos'] e pos) (Lu g (nj i)):=by
 intro pins s σ H D I h;refine wpAny_Assign_Name (thn (he pins s σ H _ I h) ?_) r;rintro v s1 ⟨y,H1,z,m,p⟩;exact UO z u t q m (λs2 w=>⟨_,H1,w,p⟩) hf
def tPar (i j:Nat) (g:TA):TS:=λD σ H=>g σ H λvs H1=>∃v w,vs=[v,w]/\D.nx ((σ.set i (some v)).set j (some w)) H1
def ps_par {i j:Nat} {x y:Str} {a b:Expr} {u:TA} {t py pt:Pos} {kt k2 SV} (Z:X.calm=true) (G:X.N.Nodup) (U:X.N[i]? =some x) (T:X.N[j]? =some y) (Rm:i≠j)
 (C:X.env.scope.names.lookup x=some .local) (z:X.env.scope.names.lookup y=some .local) (ha:PA X [a,b] u)
 (hw:swappedStores [.Tuple [.Name x t, .Name y py] kt pt] (.Tuple [a,b] k2 SV) X.env=pure (some [x,y]))
 (P:swapsWithSole [.Tuple [.Name x t, .Name y py] kt pt] (.Tuple [a,b] k2 SV) pos.line X.env=pure false:=by rfl):
 PS X (.Assign [.Tuple [.Name x t, .Name y py] kt pt] (.Tuple [a,b] k2 SV) pos) (tPar i j u):=by
 intro pins s σ H D I h;rw [exec_Assign_arm];refine Qg (wpAny_standAt ?_);rw [P];refine Qg (Qo ?_);rw [QO nofun];refine Qg (Tuple_ (thn (ha _ pins s σ H _ I h) λus s1 Y=>?_));obtain ⟨vs,H1,I1,L,r⟩:=Y;obtain ⟨v,w,e1,r⟩:=r;subst e1
 obtain ⟨m,g,rfl,K,NU⟩:∃m g,us=[m,g]/\Zx v m/\Zx w g:=by
  cases L with
  |cons p q=>
   cases q with
   |cons O M=>
    cases M;exact ⟨_,_,rfl,p,O⟩
 refine Ti ?_ (by show 2<=sizeLine;decide);have I2:Inv X pins σ H1 {s1 with heap:=s1.heap.push {cls:= .type "tuple",data:= .seq [m,g].toArray}}:=I1.kept (t':=s1.toks) λb o e=>Qi _ e;rw [hw];refine Qg (Qo ?_);show wpAny (model X.prog X.w) X.A (do rule "assign.swapped-stores";let items<-unpackItems (.ref s1.heap.objs.size) 2 none;assignInOrder [λv=>bindName X.env y v,λv=>bindName X.env x v] items.reverse;pure Flow.next) _ _ _;refine Qg (jce (Qg (unpackItems_tuple (items:=#[m,g]) (I.ok.hd Z) (IsTup.new s1.heap _) λh' MV=>?_)));have I3:=I2.kept (h':=h') (t':=s1.toks) λb o e=>MV b o (QQ (Qv e)) e;show wpAny _ _ (assignInOrder [λv=>bindName X.env y v,λv=>bindName X.env x v] [g,m]>>=λ_=>pure Flow.next) _ _ _;refine Qg (assignInOrder_cons (wpAny_bindName (UO I3 G T (.inl z) NU (λs2 I4=>?_) (.inr z))));refine assignInOrder_cons (wpAny_bindName (UO I4 G U (.inl C) K (λs3 J=>assignInOrder_nil (Qo ?_)) (.inr C)));rw [List.set_comm _ _ (Ne.symm Rm)] at J;exact ⟨_,H1,J,r⟩
def tAug (i:Nat) (m:TE) (g:TIp):TS:=λD σ H=>∃x,σ[i]? =some (some x)/\m σ H λy H1=>g x y H1 λz p=>D.nx (σ.set i (some z)) p
def ps_aug {i:Nat} {x:Str} {e:Expr} {G:TE} {op:Operator} {C:TIp} {pos':Pos} (Y:X.N.Nodup) (J:X.N[i]? =some x) (q:Loc X.env.scope x) (he:PE X e G) (P:PIp X op C) (hf:X.fn x=true\/X.env.scope.names.lookup x=some .local:=by walk_at "f"):
 PS X (.AugAssign (.Name x pos') op e pos) (tAug i G C):=by
 intro pins s σ H D I h;obtain ⟨v,Z,h⟩:=h;obtain ⟨m,hn,T⟩:=I.loc
 have p:Vis X.env.scope x:=by rcases q with k|k;exact .inl k;exact .inr (.inl k)
 obtain ⟨u,r,l⟩:=T i x v J Z p;refine wpAny_AugAssign_Name ?_
 have go:wpAny (model X.prog X.w) X.A (eval e X.env) (λw s₂=>wpAny (model X.prog X.w) X.A (inplaceOp op u w) (λr s₃=>wpAny (model X.prog X.w) X.A (storeName X.env x r) (λ_=>SP X pins D .next) X.xe s₃) X.xe s₂) X.xe s:=by
  refine thn (he pins s σ H _ I h) λw s1 t=>?_;obtain ⟨y,H1,I1,L,O⟩:=t;refine thn (P pins s1 σ H1 v y u w _ I1 r L O) λz s2 t=>?_;obtain ⟨zv,H2,I2,K,M⟩:=t;exact UO I2 Y J q K (λs3 I3=>⟨_,H2,I3,M⟩) hf
 rcases l with ⟨g,hm⟩|⟨g,c,U,NL⟩
 ·exact wpAny_loadName_local I.ok.kind g hn hm go
 ·rcases g with g|g
  ·exact wpAny_loadName_cell I.ok.kind g U NL go
  ·rcases q with k|k
   ·have:X.env.scope.names.lookup x=some .free:=g;rw [k] at this;cases this
   ·have:X.env.scope.names.lookup x=some .free:=g;rw [k] at this;cases this
def ipI (f:Int->Int->Int):TIp:=λx y H Q=>∃i j,x= .int i/\y= .int j/\Q (.int (f i j)) H
def ip_add:PIp X .Add (ipI λi j=>i+j):=by
 intro pins s σ H x y v u Q I r1 r2 h;obtain ⟨i,j,m,g,q⟩:=h;subst m;subst g;obtain ⟨t,rfl⟩:=r1;obtain ⟨t',rfl⟩:=r2;exact iadd_int ⟨.int _,H,I.tok _,⟨_,rfl⟩,q⟩
end
section
variable {X:Cx} {pos:Pos}
def Bh (c:TT) (p:TS):TS:=λD σ H=>∃W:Nat->St->Hp->Prop,(∃m,W m σ H)/\∀m σ H,W m σ H->
 c σ H λb H1=>if b=true then ∃N:St->Hp->Prop,(∀σ' H',N σ' H'->∃g,g<m/\W g σ' H')/\p {D with nx:=N,ct:=N,bk:=D.nx} σ H1 else D.nx σ H1
def ps_while {c:Expr} {body:List Stmt} {y:TT} {z:TS} (hp:PassesOwn (model X.prog X.w) X.A X.env X.xe) (M:PT X c y) (O:PSs X body z):PS X (.While c body [] pos) (Bh y z):=by
 intro pins s σ H D I h;obtain ⟨W,⟨m0,K⟩,turn⟩:=h;refine wpAny_While (codeAny_whileLoop (λn s'=>∃σ' H',Inv X pins σ' H' s'/\W n σ' H') ?_ m0 ⟨σ,H,I,K⟩)
 rintro n s1 ⟨σ1,H1,I1,w1⟩
 refine jbj hp (thn (M pins s1 σ1 H1 _ I1 (turn n σ1 H1 w1)) λb s2 L=>?_);obtain ⟨J,G,p⟩:=L
 cases b with
 |true=>
  obtain ⟨N,C,p⟩:=p;rw [QJ rfl];refine jbj hp (thn (O pins s2 σ1 J _ G p) λf s3 m=>?_)
  cases f with
  |next=>
   obtain ⟨σ3,g,u,r⟩:=m;obtain ⟨t,hm,q⟩:=C σ3 g r;exact ⟨t,hm,σ3,g,u,q⟩
  |cont=>
   obtain ⟨σ3,g,u,r⟩:=m;obtain ⟨t,hm,q⟩:=C σ3 g r;exact ⟨t,hm,σ3,g,u,q⟩
  |brk=>exact m
  |ret v=>exact m
 |false=>
  rw [QO QA];exact wpAny_execs_nil ⟨σ1,J,G,p⟩
end
structure It where
 go:Nat->Hp->Prop
 yld:Nat->Hp->V->Hp->Prop
 stop:Nat->Hp->Prop
def tN (X:Cx) (pins:Pn) (H:Hp) (b:Addr):Prop:=
 H b=none/\b≠X.env.locals/\b∉X.fs/\(b∈X.ex\/X.s₀.heap.objs.size<=b)/\(∀x c,X.env.cells.lookup x=some c->c≠b)/\∀p∈X.pn++pins,p.1≠b
def Inv.fpOk {X:Cx} {pins:Pn} {σ:St} {H H':Hp} {s:Shared} {b:Addr} (I:Inv X pins σ H s) (g:s.heap.objs.size<=b) (hn:H' b=none):tN X pins H' b:=by
 refine ⟨hn,jaZ (QZ I.lt g),I.nofs g, .inr (QL I.sz g),λx c e z=>?_,λp hp z=>?_⟩
 ·obtain ⟨v,q⟩:=I.cell x c e;exact absurd (QZ q.lt (by rw [z];exact g)) (jaz _)
 ·exact absurd (QZ (Qv (I.pin p hp).1) (by rw [z];exact g)) (jaz _)
structure Turn (P:Program) (w:World) (K:Frg) (tg:Expr) (J:It) (fp:List Addr) (it:Addr) (tn:Nat->Heap->Prop):Prop where
 mem:it∈fp
 obj:∀i h,tn i h->∀b∈fp,∃o,h.get? b=some o/\∀v,o.data≠ .cell v
 keep:∀i h h',tn i h->(∀b∈fp,∀o,h.get? b=some o->h'.get? b=some o)->tn i h'
 item:∀(X:Cx),X.prog=P->X.w=w->X.K=K->X.calm=true->∀(i:Nat) (pins:Pn) (s:Shared) (σ:St) (H:Hp) (E:Value->Shared->Prop),Inv X pins σ H s->(∀b∈fp,tN X pins H b)->tn i s.heap->J.go i H->
  wpAny (model P w) X.A (pyNext (.ref it)) (λr s1=>∃u,r=some u/\
   wpAny (model P w) X.A (letOwnedTupleGo tg (.ref it) u) (λ_ s2=>∃x H',Inv X pins σ H' s2/\Zx x u/\J.yld i H x H'/\tn (i+1) s2.heap/\∀b∈fp,H' b=none) E s1) E s
 done:∀(X:Cx),X.prog=P->X.w=w->X.K=K->X.calm=true->∀(i:Nat) (pins:Pn) (s:Shared) (σ:St) (H:Hp) (E:Value->Shared->Prop),Inv X pins σ H s->(∀b∈fp,tN X pins H b)->tn i s.heap->J.stop i H->
  wpAny (model P w) X.A (pyNext (.ref it)) (λr s1=>r=none/\Inv X pins σ H s1) E s
 self:∀(A:Around) (i:Nat) (s:Shared) (Q:Value->Shared->Prop) (E:Value->Shared->Prop),tn i s.heap->Q (.ref it) s->wpAny (model P w) A (pyIter (.ref it)) Q E s
abbrev TI:=St->Hp->(It->Hp->Prop)->Prop
def PIE (X:Cx) (pins:Pn) (σ:St) (q:Expr) (R:It->Hp->Prop) (g:Value) (s2:Shared):Prop:=
 ∃(it:Addr) (p:List Addr) (m:Nat->Heap->Prop) (J:It) (H':Hp),g= .ref it/\Inv X pins σ H' s2/\Turn X.prog X.w X.K q J p it m/\m 0 s2.heap/\(∀b∈p,tN X pins H' b)/\R J H'
def PI (X:Cx) (m iter:Expr) (g:TI):Prop:=
 ∀(pins:Pn) (s:Shared) (σ:St) (H:Hp) (R:It->Hp->Prop),Inv X pins σ H s->g σ H R->
  wpAny (model X.prog X.w) X.A (eval iter X.env) (λv s1=>wpAny (model X.prog X.w) X.A (pyIter v) (PIE X pins σ m R) X.xe s1) X.xe s
def DT {M:Model} {A:Around} {E:Value->Shared->Prop} {s:Shared} {m:Expr} {it:Addr} {u:Value} {o:Obj} {n:String} {vs:Array Value} {Q:Unit->Shared->Prop} (p:s.heap.get? it=some o) (q:o.cls= .type n) (hd:o.data= .fields vs)
 (hn:["enumerate","zip","dict_itemiterator","dict_reverseitemiterator","odict_iterator","itertools.zip_longest","itertools.pairwise"].contains n=false) (g:Q () s):wpAny M A (letOwnedTupleGo m (.ref it) u) Q E s:=by
 unfold letOwnedTupleGo
 cases m<;>first
  |exact Qo g
  |(cases u<;>first
   |exact Qo g
   |(refine Qg (wpAny_load p ?_)
     rw [q,hd];show wpAny M A (if (["enumerate","zip","dict_itemiterator","dict_reverseitemiterator","odict_iterator","itertools.zip_longest","itertools.pairwise"].contains n && vs[0]? ==some (rawInt _))=true then _ else _) Q E s;rw [QO (by intro h;rw [hn,Bool.false_and] at h;cases h)]
     exact Qo g))
noncomputable def Itl (K:Frg) (a:Addr):It:=
 ⟨λi H=>∃xs x,SqL K H a xs/\xs[i]? =some x,λi H x H'=>H'=H/\∀xs,SqL K H a xs->xs[i]? =some x,λi H=>∃xs,SqL K H a xs/\xs.length<=i⟩
noncomputable def Itt (K:Frg) (a:Addr):It:=
 ⟨λi H=>∃xs x,SqT K H a xs/\xs[i]? =some x,λi H x H'=>H'=H/\∀xs,SqT K H a xs->xs[i]? =some x,λi H=>∃xs,SqT K H a xs/\xs.length<=i⟩
noncomputable def Itr (lo:Int) (n:Nat):It:=⟨λi _=>i<n,λi H x H'=>H'=H/\x= .int (lo+i),λi _=>n<=i⟩
def Bf {P:Program} {w:World} {K:Frg} {C:Expr} (a it:Addr):Turn P w K C (Itl K a) [it] it (λi h=>h.IsListIter it a i) where
 mem:=by simp
 obj:=λi h st b g=>by
  have e:b=it:=by simpa using g
  subst e;obtain ⟨o,e,c,d⟩:=st;exact ⟨o,e,λv z=>by rw [d] at z;cases z⟩
 keep:=λi h h' st k=>st.at λo e=>k it (by simp) o e
 item:=by
  intro X hP hw hK hc i pins s σ H E I hf st hg;subst hP hw hK;obtain ⟨xs,x,m,r⟩:=hg;obtain ⟨its,q,p,hz⟩:=I.list m;obtain ⟨u,G,ru⟩:=q.get r;obtain ⟨f0,f1,f2,y,f4,t⟩:=hf it (by simp);refine wpAny_pyNext_list_item st p.isList (x:=u) ‹G› λh' A sb=>?_;have L:Inv X pins σ H {s with heap:=h'}:=I.turned (t':=s.toks) (λb o g e=>(sb.2 b g).trans e) f0 f1 y f4 t;obtain ⟨o,e,c,d⟩:=id A;exact ⟨u,rfl,DT (s:={s with heap:=h'}) e c d nofun ⟨x,H,L,ru,⟨rfl,λys D=>by rw [I.list_inj D m];exact r⟩,A,λb g=>(hf b g).1⟩⟩
 done:=by
  intro X hP hw hK hc i pins s σ H E I hf st hg;subst hP hw hK;obtain ⟨xs,m,r⟩:=hg;obtain ⟨its,q,p,hz⟩:=I.list m;obtain ⟨f0,f1,f2,y,f4,t⟩:=hf it (by simp);have M:=q.length;exact wpAny_pyNext_list_end (I.ok.hd hc) st p.isList (by simp;omega) λh' J=>⟨rfl,I.turned (t':=s.toks) (λb o g e=>J b o g e) f0 f1 y f4 t⟩
 self:=λ_ _ _ _ _ st h=>wpAny_pyIter_listiter st h
def vO {P:Program} {w:World} {K:Frg} {C:Expr} (a it:Addr):Turn P w K C (Itt K a) [it] it (λi h=>h.IsTupleIter it a i) where
 mem:=by simp
 obj:=λi h st b g=>by
  have e:b=it:=by simpa using g
  subst e;obtain ⟨o,e,c,d⟩:=st;exact ⟨o,e,λv z=>by rw [d] at z;cases z⟩
 keep:=λi h h' st k=>st.at λo e=>k it (by simp) o e
 item:=by
  intro X hP hw hK hc i pins s σ H E I hf st hg;subst hP hw hK;obtain ⟨xs,x,m,r⟩:=hg;obtain ⟨its,q,p,hz⟩:=I.tuple m;obtain ⟨u,G,ru⟩:=q.get r;obtain ⟨f0,f1,f2,y,f4,t⟩:=hf it (by simp);refine wpAny_pyNext_tuple_item st (show s.heap.IsTuple a its.toArray from p) (x:=u) ‹G› λh' A sb=>?_;have L:Inv X pins σ H {s with heap:=h'}:=I.turned (t':=s.toks) (λb o g e=>(sb.2 b g).trans e) f0 f1 y f4 t;obtain ⟨o,e,c,d⟩:=id A;exact ⟨u,rfl,DT (s:={s with heap:=h'}) e c d nofun ⟨x,H,L,ru,⟨rfl,λys D=>by rw [I.tuple_inj D m];exact r⟩,A,λb g=>(hf b g).1⟩⟩
 done:=by
  intro X hP hw hK hc i pins s σ H E I hf st hg;subst hP hw hK;obtain ⟨xs,m,r⟩:=hg;obtain ⟨its,q,p,hz⟩:=I.tuple m;obtain ⟨f0,f1,f2,y,f4,t⟩:=hf it (by simp);have M:=q.length;exact wpAny_pyNext_tuple_end (I.ok.hd hc) st (show s.heap.IsTuple a its.toArray from p) (by simp;omega) λh' J=>⟨rfl,I.turned (t':=s.toks) (λb o g e=>J b o g e) f0 f1 y f4 t⟩
 self:=λ_ _ _ _ _ st h=>wpAny_pyIter_tupleiter st h
def vP {P:Program} {w:World} {K:Frg} {u:Expr} (it:Addr) (lo:Int) (n:Nat):Turn P w K u (Itr lo n) [it] it (λi h=>IsRangeIter h it (lo+(i:Nat)*1) ((n:Int) - (i:Nat)) 1) where
 mem:=by simp
 obj:=λi h st b g=>by
  have e:b=it:=by simpa using g
  subst e
  exact ⟨_,st,λv z=>by
   have r:Data.fields _=Data.cell v:=z
   cases r⟩
 keep:=λi h h' st k=>k it (by simp) _ st
 item:=by
  intro X hP hw hK hc i pins s σ H E I hf st hg;subst hP hw hK;obtain ⟨f0,f1,f2,p,f4,m⟩:=hf it (by simp);have W:=Walks.range (prog:=X.prog) (w:=X.w) (I.ok.hd hc) it lo 1 n;refine W.item i s _ _ hg st λv h' tk A q y=>?_;obtain ⟨t,rfl⟩:=A;have D:Inv X pins σ H {s with heap:=h',toks:=tk}:=I.turned (λb o g e=>y b o ‹g› e) f0 f1 p f4 m;refine ⟨_,rfl,DT (s:={s with heap:=h',toks:=tk}) (n:="range_iterator") q rfl rfl nofun ⟨.int (lo+i),H,D,⟨t,?_⟩,⟨rfl,rfl⟩,q,λb g=>(hf b g).1⟩⟩;rw [jcb]
 done:=by
  intro X hP hw hK hc i pins s σ H E I hf st hg;subst hP hw hK;obtain ⟨f0,f1,f2,p,f4,m⟩:=hf it (by simp);exact wpAny_pyNext_range_end (I.ok.hd hc) st (by have:n<=i:=hg;omega) λh' C=>⟨rfl,I.turned (t':=s.toks) (λb o g e=>C b o g e) f0 f1 p f4 m⟩
 self:=λ_ _ _ _ _ st h=>wpAny_pyIter_rangeiter st h
section
variable {X:Cx} {tg:Expr}
def iList (K:Frg) (g:TE):TI:=λσ H R=>g σ H λx H1=>∃a,x= .ref a/\(∃xs,SqL K H1 a xs)/\R (Itl K a) H1
def iTup (K:Frg) (g:TE):TI:=λσ H R=>g σ H λx H1=>∃a,x= .ref a/\(∃xs,SqT K H1 a xs)/\R (Itt K a) H1
def mF {l:Expr} {m:TE} (w:PE X l m):PI X tg l (iList X.K m):=by
 intro pins s σ H R I h;refine thn (w pins s σ H _ I h) λv s1 y=>?_;obtain ⟨x,H1,g,r,t⟩:=y;obtain ⟨a,e,⟨xs,u⟩,q⟩:=t;subst e;cases r;obtain ⟨its,A,p,hz⟩:=g.list u;refine jaF p.isList ?_;refine ⟨s1.heap.objs.size,[s1.heap.objs.size],_,_,H1,rfl,g.kept (t':=s1.toks) λb o e=>Qi _ e,Bf a _,⟨_,Qx _ rfl,rfl,rfl⟩,λb z=>?_,q⟩;have e:b=s1.heap.objs.size:=by simpa using z
 subst e;exact g.fpOk (Qu _) (g.hok.fresh (Qu _))
def pi_tup {l:Expr} {m:TE} (w:PE X l m):PI X tg l (iTup X.K m):=by
 intro pins s σ H R I h;refine thn (w pins s σ H _ I h) λv s1 y=>?_;obtain ⟨x,H1,g,r,t⟩:=y;obtain ⟨a,e,⟨xs,u⟩,q⟩:=t;subst e;cases r;obtain ⟨its,A,p,hz⟩:=g.tuple u;refine jau (show s1.heap.IsTuple a its.toArray from p) ?_;refine ⟨s1.heap.objs.size,[s1.heap.objs.size],_,_,H1,rfl,g.kept (t':=s1.toks) λb o e=>Qi _ e,vO a _,⟨_,Qx _ rfl,rfl,rfl⟩,λb z=>?_,q⟩;have e:b=s1.heap.objs.size:=by simpa using z
 subst e;exact g.fpOk (Qu _) (g.hok.fresh (Qu _))
def FW {pins:Pn} {σ:St} {H:Hp} {s:Shared} {R:It->Hp->Prop} {E:Value->Shared->Prop} {lo g:Int} {t u v:Tok} {tk:Nat} (I:Inv X pins σ H s) (C: -(2 ^ 62)<=lo) (z:lo<2 ^ 62) (y: -(2 ^ 62)<=g) (r:g<2 ^ 62)
 (q:R (Itr lo (g - lo).toNat) H):wpAny (model X.prog X.w) X.A (pyIter (.ref s.heap.objs.size)) (PIE X pins σ tg R) E {s with heap:=s.heap.push {cls:= .type "range",data:= .fields #[.int lo t, .int g u, .int 1 v]},toks:=tk}:=by
 refine wpAny_pyIter_range (IsRange.new ..) (small_one C z y r) ?_;have m:Inv X pins σ H {s with heap:=s.heap.push {cls:= .type "range",data:= .fields #[.int lo t, .int g u, .int 1 v]},toks:=tk}:=I.kept λb o e=>Qi _ e
 refine ⟨(s.heap.push {cls:= .type "range",data:= .fields #[.int lo t, .int g u, .int 1 v]}).objs.size,[(s.heap.push {cls:= .type "range",data:= .fields #[.int lo t, .int g u, .int 1 v]}).objs.size],_,_,H,rfl,
  m.kept (t':=tk) λb o e=>Qi _ e,vP _ lo (g - lo).toNat,?_,λb p=>?_,q⟩
 ·have G:lo+((0:Nat):Int)*1=lo:=by simp
  have D:(((g - lo).toNat:Nat):Int) - ((0:Nat):Int)=Builtin.Range.rangeSize lo g 1:=by rw [rangeSize_one];split<;>omega
  show IsRangeIter _ _ (lo+((0:Nat):Int)*1) ((((g - lo).toNat:Nat):Int) - ((0:Nat):Int)) 1;rw [G,D];exact Qx _ rfl
 ·have e:b=(s.heap.push {cls:= .type "range",data:= .fields #[.int lo t, .int g u, .int 1 v]}).objs.size:=by simpa using p
  subst e;exact m.fpOk (Qu _) (m.hok.fresh (Qu _))
def iRng1 (g:TA):TI:=λσ H R=>g σ H λvs H1=>∃j:Int,vs=[.int j]/\ -(2 ^ 62)<=j/\j<2 ^ 62/\R (Itr 0 j.toNat) H1
def pi_range1 {a:Expr} {m:TA} {p pos:Pos} (A:Gl X "range") (hm:X.mg "range"=none) (ha:PA X [a] m) (z:starEach [a] X.env=[(false,eval a X.env)]:=by rfl):PI X tg (.Call (.Name "range" p) [a] [] pos) (iRng1 m):=by
 intro pins s σ H R I h;refine Call_ (ax I A hm boot_range (jap (thn (ha pos pins s σ H _ I h) ?_) z rfl));rintro us s1 ⟨vs,H1,C,w,g⟩;obtain ⟨j,e,g,y,q⟩:=g;subst e
 cases w with
 |cons r u=>
  cases u;obtain ⟨t,rfl⟩:=r;exact call_range_1 (FW C ⋯ ⋯ g y ‹q›)
def tFor (q:TI) (g:TG) (r:TS):TS:=λD σ H=>q σ H λJ H1=>∃W:Nat->Nat->St->Hp->Prop,(∃m,W 0 m σ H1)/\∀i m σ H,W i m σ H->
 (J.stop i H/\D.nx σ H)\/(J.go i H/\∃N:St->Hp->Prop,(∀σ' H',N σ' H'->∃p,p<m/\W (i+1) p σ' H')/\∀x H',J.yld i H x H'->g x σ H' λσ2 H2=>r {D with nx:=N,ct:=N,bk:=D.nx} σ2 H2)
noncomputable def kd (g:List Addr) (h:Heap):List (Addr×Obj):=g.filterMap λb=>(h.get? b).map λo=>(b,o)
def Yt {g:List Addr} {h:Heap} {b:Addr} {o:Obj} (m:b∈g) (e:h.get? b=some o):(b,o)∈kd g h:=jbU.mpr ⟨b,m,by rw [e];rfl⟩
def Dh {g:List Addr} {h:Heap} {p:Addr×Obj} (hp:p∈kd g h):p.1∈g/\h.get? p.1=some p.2:=by
 obtain ⟨b,m,e⟩:=jbU.mp hp
 cases q:h.get? b with
 |none=>rw [q] at e;cases e
 |some o=>
  rw [q] at e;have r:(b,o)=p:=QH e;subst r;exact ⟨m,q⟩
def Inv.pinned {pins:Pn} {σ:St} {H:Hp} {s:Shared} {g:List Addr} (I:Inv X pins σ H s) (hf:∀b∈g,tN X pins H b) (r:∀b∈g,∃o,s.heap.get? b=some o/\∀v,o.data≠ .cell v):Inv X (pins++kd g s.heap) σ H s:=
 I.pins_of λp hp=>(QT.mp hp).elim (λz=>I.pin p (QF _ z)) λz=>by
  obtain ⟨m,e⟩:=Dh z;obtain ⟨f0,f1,f2,_⟩:=hf p.1 m;obtain ⟨o,q,d⟩:=r p.1 m;rw [e] at q;cases q;exact ⟨e,f0,f1,f2,d⟩
def Inv.unpinned {pins pl:List (Addr×Obj)} {σ:St} {H:Hp} {s:Shared} (I:Inv X (pins++pl) σ H s):Inv X pins σ H s:=I.pins_of λp hp=>I.pin p (QF _ (jag _ hp))
def ps_for {iter:Expr} {body:List Stmt} {P:TI} {g:TG} {Y:TS} {pos:Pos} (hp:PassesOwn (model X.prog X.w) X.A X.env X.xe) (Z:X.calm=true) (hi:PI X tg iter P) (hg:PG X tg g) (q:PSs X body Y)
 (hs:∀x,foldedSetIterable iter X.env x=pure x:=by intro _;rfl):PS X (.For tg iter body [] pos) (tFor P g Y):=by
 intro pins s σ H D I h;refine wpAny_For (thn (hi pins s σ H _ I h) λv s1 h1=>thn h1 λitv s2 h2=>?_) hs;obtain ⟨it,K,U,J,H2,e,I2,T,Nj,f2,W,⟨m0,w0⟩,turn⟩:=h2;subst e;have p:∀{H':Hp},(∀b∈K,H' b=none)->∀b∈K,tN X pins H' b:=λhn b q=>⟨hn b q,(f2 b q).2⟩;refine codeAny_forLoop_any (λn s'=>∃i σ' H',Inv X pins σ' H' s'/\U i s'.heap/\(∀b∈K,H' b=none)/\W i n σ' H') ?_ m0 ⟨0,σ,H2,I2,Nj,λb q=>(f2 b q).1,w0⟩
 rintro n s3 ⟨i,σ3,H3,I3,st3,fr3,w3⟩
 rcases turn i n σ3 H3 w3 with ⟨stop,qn⟩|⟨go,N,hN,step⟩
 ·refine jbj hp (thn (T.done X rfl rfl rfl Z i pins s3 σ3 H3 X.xe I3 (p fr3) st3 stop) λr s4 C=>?_);obtain ⟨hr,I4⟩:=C;subst hr;exact wpAny_execs_nil ⟨σ3,H3,I4,qn⟩
 ·refine jbj hp (thn (T.item X rfl rfl rfl Z i pins s3 σ3 H3 X.xe I3 (p fr3) st3 go) λr s4 C=>?_);obtain ⟨u,hr,h4⟩:=C;subst hr;refine jbj hp (thn h4 λ_ s5 C=>?_);obtain ⟨x,H5,I5,r5,y5,M,Pj⟩:=C;have O:=I5.pinned (p Pj) (T.obj _ _ M);refine jbj hp (thn (hg _ s5 σ3 H5 x u _ O r5 (step x H5 y5)) λ_ s6 C=>?_);obtain ⟨σ6,H6,I6,q6⟩:=C;refine jbj hp (thn (q _ s6 σ6 H6 _ I6 q6) λf L z=>?_)
  have again:∀{σ7:St} {y:Hp},Inv X (pins++kd K s5.heap) σ7 y L->N σ7 y->∃m,m<n/\∃i σ' H',Inv X pins σ' H' L/\U i L.heap/\(∀b∈K,H' b=none)/\W i m σ' H':=λ{σ7 y} t G=>by
   obtain ⟨m',hm,w7⟩:=hN σ7 y G;refine ⟨m',hm,i+1,σ7,y,t.unpinned,T.keep _ _ _ M λb q o e=>(t.pin (b,o) (QF _ (QF _ (Yt q e)))).1,λb q=>?_,w7⟩;obtain ⟨o,e,d⟩:=T.obj _ _ M b q;exact (t.pin (b,o) (QF _ (QF _ (Yt q e)))).2.1
  cases f with
  |next=>obtain ⟨σ7,y,t,G⟩:=z;exact again t G
  |cont=>obtain ⟨σ7,y,t,G⟩:=z;exact again t G
  |brk=>obtain ⟨σ7,y,t,z⟩:=z;exact ⟨σ7,y,t.unpinned,z⟩
  |ret v=>obtain ⟨x7,σ7,y,t,r7,z⟩:=z;exact ⟨x7,σ7,y,t.unpinned,r7,z⟩
end
abbrev R2:=V->V->Hp->VK->Prop
def OpR (X:Cx) (f:Value->Value->Sem Value) (r:R2):Prop:=
 ∀(pins:Pn) (s:Shared) (σ:St) (H:Hp) (x y:V) (v u:Value) (Q:VK),Inv X pins σ H s->Zx x v->Zx y u->r x y H Q->
  wpAny (model X.prog X.w) X.A (f v u) (EP X pins σ Q) X.xe s
def UnR (X:Cx) (f:Value->Sem Value) (r:V->Hp->VK->Prop):Prop:=
 ∀(pins:Pn) (s:Shared) (σ:St) (H:Hp) (x:V) (v:Value) (Q:VK),Inv X pins σ H s->Zx x v->r x H Q->
  wpAny (model X.prog X.w) X.A (f v) (EP X pins σ Q) X.xe s
def Wt (X:Cx) (f:Value) (r:List V->Hp->VK->Prop):Prop:=
 ∀(pins:Pn) (s:Shared) (σ:St) (H:Hp) (xs:List V) (us:List Value) (Q:VK),Inv X pins σ H s->xx xs us->r xs H Q->
  wpAny (model X.prog X.w) X.A (call f us) (EP X pins σ Q) X.xe s
def tOp (r:R2) (m g:TE):TE:=λσ H Q=>m σ H λx H1=>g σ H1 λy p=>r x y p Q
def tUn (r:V->Hp->VK->Prop) (g:TE):TE:=λσ H Q=>g σ H λx H1=>r x H1 Q
def rI (C:Int->Int->Prop) (g:Int->Int->V):R2:=λx y H Q=>∃i j,x= .int i/\y= .int j/\C i j/\Q (g i j) H
def rI0 (g:Int->Int->V):R2:=λx y H Q=>∃i j,x= .int i/\y= .int j/\Q (g i j) H
def rU (g:Int->V):V->Hp->VK->Prop:=λx H Q=>∃i,x= .int i/\Q (g i) H
section
variable {X:Cx} {a b c:Expr} {ta tb tc:TE} {pos:Pos}
def binT (ha:PE X a ta) (z:PE X b tb) {pins:Pn} {s:Shared} {σ:St} {H:Hp} {R:V->V->Hp->Prop} (I:Inv X pins σ H s)
 (h:ta σ H λx H1=>tb σ H1 λy g=>R x y g) {Q:Value->Shared->Prop} {f:Value->Value->Sem Value}
 (hf:∀v u s2 x y g,Inv X pins σ g s2->Zx x v->Zx y u->R x y g->wpAny (model X.prog X.w) X.A (f v u) Q X.xe s2):
 wpAny (model X.prog X.w) X.A (eval a X.env) (λv s₁=>wpAny (model X.prog X.w) X.A (eval b X.env) (λu s₂=>wpAny (model X.prog X.w) X.A (f v u) Q X.xe s₂) X.xe s₁) X.xe s:=by
 refine thn (ha pins s σ H _ I h) λv s1 m=>?_;obtain ⟨x,H1,D,q,t⟩:=m;refine thn (z pins s1 σ H1 _ D t) λu s2 m=>?_;obtain ⟨y,g,C,p,r⟩:=m;exact hf v u s2 x y g C q p r
def pe_op {op:Operator} {r:R2} (p:OpR X (binaryOp op) r) (ha:PE X a ta) (t:PE X b tb):PE X (.BinOp a op b pos) (tOp r ta tb):=by
 intro pins s σ H Q I h;exact wpAny_BinOp (binT ha t I h λv u s2 x y z w m g q=>p pins s2 σ z x y v u Q w m g q)
def pe_un {op:UnaryOp} {r:V->Hp->VK->Prop} (p:UnR X (unaryOp op) r) (ha:PE X a ta):PE X (.UnaryOp op a pos) (tUn r ta):=by
 intro pins s σ H Q I h;refine UnaryOp_ (thn (ha pins s σ H _ I h) ?_);rintro v s1 ⟨x,H1,q,g,m⟩;exact p pins s1 σ H1 x v Q q g m
def opI {f:Value->Value->Sem Value} {C:Int->Int->Prop} {g:Int->Int->Int}
 (rule:∀(i j:Int) (t u:Tok) (s:Shared) (Q:Value->Shared->Prop) (E:Value->Shared->Prop),C i j->Q (.int (g i j) s.toks) {s with toks:=s.toks+1}->wpAny (model X.prog X.w) X.A (f (.int i t) (.int j u)) Q E s):
 OpR X f (rI C λi j=> .int (g i j)):=by
 intro pins s σ H x y v u Q I rx ry h;obtain ⟨i,j,rfl,rfl,m,q⟩:=h;obtain ⟨t,rfl⟩:=rx;obtain ⟨t',rfl⟩:=ry;exact rule i j t t' s _ _ m ⟨.int (g i j),H,I.tok _,⟨_,rfl⟩,q⟩
def opI0 {f:Value->Value->Sem Value} {g:Int->Int->Int}
 (rule:∀(i j:Int) (t u:Tok) (s:Shared) (Q:Value->Shared->Prop) (E:Value->Shared->Prop),Q (.int (g i j) s.toks) {s with toks:=s.toks+1}->wpAny (model X.prog X.w) X.A (f (.int i t) (.int j u)) Q E s):
 OpR X f (rI0 λi j=> .int (g i j)):=by
 intro pins s σ H x y v u Q I rx ry h;obtain ⟨i,j,rfl,rfl,q⟩:=h;obtain ⟨t,rfl⟩:=rx;obtain ⟨t',rfl⟩:=ry;exact rule i j t t' s _ _ ⟨.int (g i j),H,I.tok _,⟨_,rfl⟩,q⟩
def opB0 {f:Value->Value->Sem Value} {g:Int->Int->Bool}
 (rule:∀(i j:Int) (t u:Tok) (s:Shared) (Q:Value->Shared->Prop) (E:Value->Shared->Prop),Q (.bool (g i j)) s->wpAny (model X.prog X.w) X.A (f (.int i t) (.int j u)) Q E s):
 OpR X f (rI0 λi j=> .bl (g i j)):=by
 intro pins s σ H x y v u Q I rx ry h;obtain ⟨i,j,rfl,rfl,q⟩:=h;obtain ⟨t,rfl⟩:=rx;obtain ⟨t',rfl⟩:=ry;exact rule i j t t' s _ _ ⟨.bl (g i j),H,I,rfl,q⟩
def CDiv (i j:Int):Prop:=0<j/\j<1073741824
def CPow (i j:Int):Prop:=0<=j/\j<=1000000/\i.natAbs<2 ^ 64
def CMul (i j:Int):Prop:=(-(2 ^ 64)<i/\i<2 ^ 64)\/(-(2 ^ 64)<j/\j<2 ^ 64)
def CMul.ok {i j:Int} (h:CMul i j):IntMulOk i j:=by
 rcases h with ⟨m,g⟩|⟨m,g⟩
 ·exact .of_left (intBits_le_64 m g)
 ·exact .of_right (intBits_le_64 m g)
def op_add:OpR X (binaryOp .Add) (rI0 λi j=> .int (i+j)):=opI0 λ_ _ _ _ _ _ _ q=>add_int q
def op_sub:OpR X (binaryOp .Sub) (rI0 λi j=> .int (i - j)):=opI0 λ_ _ _ _ _ _ _ q=>sub_int q
def op_fdiv:OpR X (binaryOp .FloorDiv) (rI CDiv λi j=> .int (i / j)):=opI λi j _ _ _ _ _ g q=>by
 have p:(0:Int)<j:=g.1;have m:j<1073741824:=g.2;exact floordiv_int ⋯ (by rw [Tz i ⋯];exact q) (.inl (PyProof.noPylong_small ⋯))
def op_mod:OpR X (binaryOp .Mod) (rI (λ_ j=>0<j) λi j=> .int (i % j)):=opI λi j _ _ _ _ _ g q=>by
 have m:(0:Int)<j:=g;exact mod_int' ⋯ (by rw [Tp i ⋯];exact q)
def op_modN:OpR X (binaryOp .Mod) (rI (λ_ j=>j≠0) λi j=> .int (i.fmod j)):=opI λ_ _ _ _ _ _ _ g q=>mod_int' g q
def op_pow:OpR X (binaryOp .Pow) (rI CPow λi j=> .int (i ^ j.toNat)):=opI λ_ _ _ _ _ _ _ g q=>pow_int_small g.1 g.2.1 g.2.2 q
def unI {f:Value->Sem Value} {g:Int->Int}
 (rule:∀(i:Int) (t:Tok) (s:Shared) (Q:Value->Shared->Prop) (E:Value->Shared->Prop),Q (.int (g i) s.toks) {s with toks:=s.toks+1}->wpAny (model X.prog X.w) X.A (f (.int i t)) Q E s):
 UnR X f (rU λi=> .int (g i)):=by
 intro pins s σ H x v Q I rx h;obtain ⟨i,rfl,q⟩:=h;obtain ⟨t,rfl⟩:=rx;exact rule i t s _ _ ⟨.int (g i),H,I.tok _,⟨_,rfl⟩,q⟩
def un_neg:UnR X (unaryOp .USub) (rU λi=> .int (-i)):=unI λ_ _ _ _ _ q=>neg_int q
end
noncomputable def scal:V->V->Bool
 | .non, .non=>true| .non, .int _=>true| .int _, .non=>true| .non, .bl _=>true| .bl _, .non=>true| .non, .str _=>true| .str _, .non=>true
 | .int _, .int _=>true| .bl _, .bl _=>true| .str _, .str _=>true| .byt _, .byt _=>true
 | .int _, .str _=>true| .str _, .int _=>true| .bl _, .str _=>true| .str _, .bl _=>true
 |_,_=>false
def rEq:R2:=λx y H Q=>scal x y=true/\Q (.bl (decide (x=y))) H
def rNe:R2:=λx y H Q=>scal x y=true/\Q (.bl (!decide (x=y))) H
def Ek {i j:Int}:decide (V.int i=V.int j)=(i==j):=by
 rw [jbV]
 simp
def II {i j:Bool}:decide (V.bl i=V.bl j)=(i==j):=by
 rw [jbV]
 simp
def Ej {i j:Str}:decide (V.str i=V.str j)=(i==j):=by
 rw [jbV]
 simp
def El {i j:Array UInt8}:decide (V.byt i=V.byt j)=(i.toList==j.toList):=by
 rw [jbV];cases i;cases j
 simp
section
variable {X:Cx} {a b c:Expr} {ta tb tc:TE} {pos:Pos}
def yR {pins:Pn} {σ:St} {H:Hp} {s:Shared} {Q:VK} {k g:Bool} (I:Inv X pins σ H s) (q:Q (.bl k) H) (e:k=g):EP X pins σ Q (.bool g) s:=by
 subst e;exact ⟨.bl k,H,I,rfl,q⟩
def op_eq:OpR X (compareOp .Eq) rEq:=by
 intro pins s σ H x y v u Q I rx ry h;obtain ⟨g,q⟩:=h
 cases x with
 |non=>
  cases rx
  cases y with
  |non=>cases ry;exact PySem.EqNone.eq_none_none (yR I q (by simp))
  |bl j=>cases ry;exact PySem.EqNone.eq_none_bool (yR I q (by simp))
  |int j=>obtain ⟨t',rfl⟩:=ry;exact PySem.EqNone.eq_none_int (yR I q (by simp))
  |str j=>obtain ⟨t',rfl⟩:=ry;exact PySem.EqNone.eq_none_str (yR I q (by simp))
  |_=>exact absurd (show false=true from g) QA
 |bl i=>
  cases rx
  cases y with
  |non=>cases ry;exact PySem.EqNone.eq_bool_none (yR I q (by simp))
  |bl j=>cases ry;exact eq_bool (yR I q II)
  |str j=>obtain ⟨t',rfl⟩:=ry;exact PySem.EqMixed.eq_bool_str (yR I q (by simp))
  |_=>exact absurd (show false=true from g) QA
 |int i=>
  obtain ⟨t,rfl⟩:=rx
  cases y with
  |non=>cases ry;exact PySem.EqNone.eq_int_none (yR I q (by simp))
  |int j=>obtain ⟨t',rfl⟩:=ry;exact eq_int (yR I q Ek)
  |str j=>obtain ⟨t',rfl⟩:=ry;exact PySem.EqMixed.eq_int_str (yR I q (by simp))
  |_=>exact absurd (show false=true from g) QA
 |str i=>
  obtain ⟨t,rfl⟩:=rx
  cases y with
  |non=>cases ry;exact PySem.EqNone.eq_str_none (yR I q (by simp))
  |bl j=>cases ry;exact PySem.EqMixed.eq_str_bool (yR I q (by simp))
  |int j=>obtain ⟨t',rfl⟩:=ry;exact PySem.EqMixed.eq_str_int (yR I q (by simp))
  |str j=>obtain ⟨t',rfl⟩:=ry;exact eq_str (yR I q Ej)
  |_=>exact absurd (show false=true from g) QA
 |byt i=>
  obtain ⟨t,rfl⟩:=rx
  cases y with
  |byt j=>obtain ⟨t',rfl⟩:=ry;exact PySem.W.eq_bytes (yR I q El)
  |_=>exact absurd (show false=true from g) QA
 |_=>cases y<;>exact absurd (show false=true from g) QA
def op_ne:OpR X (compareOp .NotEq) rNe:=by
 intro pins s σ H x y v u Q I rx ry h;obtain ⟨g,q⟩:=h
 cases x with
 |non=>
  cases rx
  cases y with
  |non=>cases ry;exact PySem.EqNone.ne_none_none (yR I q (by simp))
  |bl j=>cases ry;exact PySem.EqNone.ne_none_bool (yR I q (by simp))
  |int j=>obtain ⟨t',rfl⟩:=ry;exact PySem.EqNone.ne_none_int (yR I q (by simp))
  |str j=>obtain ⟨t',rfl⟩:=ry;exact PySem.EqNone.ne_none_str (yR I q (by simp))
  |_=>exact absurd (show false=true from g) QA
 |bl i=>
  cases rx
  cases y with
  |non=>cases ry;exact PySem.EqNone.ne_bool_none (yR I q (by simp))
  |bl j=>cases ry;exact ne_bool (yR I q (congrArg not II))
  |str j=>obtain ⟨t',rfl⟩:=ry;exact PySem.EqMixed.ne_bool_str (yR I q (by simp))
  |_=>exact absurd (show false=true from g) QA
 |int i=>
  obtain ⟨t,rfl⟩:=rx
  cases y with
  |non=>cases ry;exact PySem.EqNone.ne_int_none (yR I q (by simp))
  |int j=>obtain ⟨t',rfl⟩:=ry;exact ne_int (yR I q (congrArg not Ek))
  |str j=>obtain ⟨t',rfl⟩:=ry;exact PySem.EqMixed.ne_int_str (yR I q (by simp))
  |_=>exact absurd (show false=true from g) QA
 |str i=>
  obtain ⟨t,rfl⟩:=rx
  cases y with
  |non=>cases ry;exact PySem.EqNone.ne_str_none (yR I q (by simp))
  |bl j=>cases ry;exact PySem.EqMixed.ne_str_bool (yR I q (by simp))
  |int j=>obtain ⟨t',rfl⟩:=ry;exact PySem.EqMixed.ne_str_int (yR I q (by simp))
  |str j=>obtain ⟨t',rfl⟩:=ry;exact ne_str (yR I q (congrArg not Ej))
  |_=>exact absurd (show false=true from g) QA
 |byt i=>
  obtain ⟨t,rfl⟩:=rx
  cases y with
  |byt j=>obtain ⟨t',rfl⟩:=ry;exact PySem.W.ne_bytes (yR I q (congrArg not El))
  |_=>exact absurd (show false=true from g) QA
 |_=>cases y<;>exact absurd (show false=true from g) QA
def op_lt:OpR X (compareOp .Lt) (rI0 λi j=> .bl (decide (i<j))):=opB0 λ_ _ _ _ _ _ _ q=>lt_int q
def op_le:OpR X (compareOp .LtE) (rI0 λi j=> .bl (decide (i<=j))):=opB0 λ_ _ _ _ _ _ _ q=>le_int q
def op_gt:OpR X (compareOp .Gt) (rI0 λi j=> .bl (decide (j<i))):=opB0 λ_ _ _ _ _ _ _ q=>gt_int q
def OpR.or {f:Value->Value->Sem Value} {r g:R2} (h:OpR X f r) (h':OpR X f g):OpR X f (λx y H Q=>r x y H Q\/g x y H Q):=by
 intro pins s σ H x y v u Q I rx ry q
 rcases q with q|q
 ·exact h pins s σ H x y v u Q I rx ry q
 ·exact h' pins s σ H x y v u Q I rx ry q
def Di (b:Expr) {op:CmpOp} (h:op≠ .In:=by decide) (g:op≠ .NotIn:=by decide):behindInMarks op b=false:=by
 have p:(op==CmpOp.In)=false:=by cases op<;>first|rfl|exact absurd rfl h
 have m:(op==CmpOp.NotIn)=false:=by cases op<;>first|rfl|exact absurd rfl g
 cases b<;>simp [behindInMarks,p,m]
def pe_cmpR {op:CmpOp} {r:R2} (p:OpR X (compareOp op) r) (ha:PE X a ta) (t:PE X b tb) (hm:behindInMarks op b=false):PE X (.Compare a [op] [b] pos) (tOp r ta tb):=by
 intro pins s σ H Q I h;exact wpAny_Compare1 (binT ha t I h λv u s2 x y z w m g q=>p pins s2 σ z x y v u Q w m g q) hm
def tTest (t:TE):TT:=λσ H Q=>t σ H λx H'=>∃k,x= .bl k/\Q k H'
def rT {op:CmpOp} {r:R2} (A:OpR X (compareOp op) r) (ha:PE X a ta) (C:PE X b tb) (hm:behindInMarks op b=false):PT X (.Compare a [op] [b] pos) (tTest (tOp r ta tb)):=by
 intro pins s σ H Q I h
 refine wpAny_isTrue_Compare1 (thn (ha pins s σ H _ I h) λv s1 ⟨x,H1,J,p,w⟩=>thn (C pins s1 σ H1 _ J w) λu s2 ⟨y,L,G,m,t⟩=>
  thn (A pins s2 σ L x y v u _ G p m t) λc s3 ⟨z,K,D,g,k,e,q⟩=>?_) hm
 subst e;cases g;exact jca ⟨K,D,q⟩
def pY:(sizeLine:Nat)<2 ^ 63:=by rw [sizeLine_eq];decide
def wy:OpR X (binaryOp .Add) (λx y H Q=>∃i j,x= .str i/\y= .str j/\i.length+j.length<=sizeLine/\Q (.str (i++j)) H):=by
 intro pins s σ H x y v u Q I rx ry h;obtain ⟨i,j,rfl,rfl,hz,q⟩:=h;obtain ⟨t,rfl⟩:=rx;obtain ⟨t',rfl⟩:=ry;exact add_str (λt' tk=>⟨.str (i++j),H,I.tok _,⟨_,rfl⟩,q⟩) hz
def UK {x:V} {us:List Value} (r:xx [x] us):∃u,us=[u]/\Zx x u:=by
 cases r with
 |cons m g=>cases g;exact ⟨_,rfl,m⟩
def Jk {x y:V} {us:List Value} (r:xx [x,y] us):∃u g,us=[u,g]/\Zx x u/\Zx y g:=by
 cases r with
 |cons s q=>
  cases q with
  |cons p m=>cases m;exact ⟨_,_,rfl,s,p⟩
def Hx:Wt X (.builtin "abs") (λxs H Q=>∃i,xs=[.int i]/\Q (.int (if i<0 then -i else i)) H):=by
 intro pins s σ H xs us Q I r h;obtain ⟨i,rfl,q⟩:=h;obtain ⟨u,rfl,t,rfl⟩:=UK r;exact call_abs_int λu tk=>⟨.int (if i<0 then -i else i),H,I.tok _,⟨_,rfl⟩,q⟩
def Eu (m:X.calm=true):Wt X (.builtin "min") (λxs H Q=>∃i j,xs=[.int i, .int j]/\Q (.int (if j<i then j else i)) H):=by
 intro pins s σ H xs us Q I r h;obtain ⟨i,j,rfl,q⟩:=h;obtain ⟨u,p,rfl,⟨t,rfl⟩,⟨t',rfl⟩⟩:=Jk r;refine min_two_ints (I.ok.hd m) λh' tk k=>⟨_,H,I.kept k,?_,q⟩
 by_cases g:j<i
 ·rw [QJ g,QJ g];exact ⟨_,rfl⟩
 ·rw [QO g,QO g];exact ⟨_,rfl⟩
def qj:Wt X (.type "str") (λxs H Q=>∃i,xs=[.int i]/\i.natAbs.log2<1920/\Q (.str (toString i)) H):=by
 intro pins s σ H xs us Q I r h;obtain ⟨i,rfl,hz,q⟩:=h;obtain ⟨u,rfl,t,rfl⟩:=UK r;exact PySem.P.str_of_int hz ⟨.str _,H,I.tok _,⟨_,rfl⟩,q⟩
end
structure ObjM (h:Heap) (x dx C:Addr) (mA:Str->Option Value):Prop where
 obj:h.get? x=some (PySem.W.instObj C dx)
 ns:h.Ns1 dx mA
 ne:dx≠x
def Dt {h:Heap} {r:Addr} {p:Str->Option Value} (n:h.Ns1 r p):∃m,h.get? r=some m/\∀name,PySem.W.lookIn name m=some (p name):=by
 obtain ⟨o,es,ep,u,hd,w,_,hm⟩:=n;refine ⟨o,u,λname=>?_⟩;have e:=hm name;unfold nsFind findBy at e;rw [<-Array.find?_toList] at e;unfold PySem.W.lookIn;rw [hd];dsimp only
 split
 ·rename_i y q;rw [q] at e;exact congrArg some e
 ·rename_i q;rw [q] at e
  have a:es.toList.any (·.refKey)=false:=by
   rw [List.any_eq_false];intro y s;obtain ⟨z,t,g⟩:=w y (Array.mem_toList_iff.mp s);simp [DictEntry.refKey,g]
  have A:¬es.toList.any (·.refKey)=true:=by rw [a];exact QA
  rw [QO A];exact congrArg some e
def ObjM.look {h:Heap} {x p C:Addr} {m:Str->Option Value} (I:ObjM h x p C m):∃g,PySem.W.InstAt h x (PySem.W.instObj C p) C (some g)/\∀name,PySem.W.lookIn name g=some (m name):=
 let ⟨g,q,r⟩:=Dt I.ns
 ⟨g,⟨I.obj,rfl,rfl,q⟩,r⟩
section
variable {prog:Program} {w:World} {A:Around} {E:Value->Shared->Prop} {s:Shared} {K:Frg} {x dx C f:Addr} {mA:Str->Option Value} {name:Str} {v:Value}
def KL {expr:Bool} {Q:Value->Shared->Prop} (X:K.In s.heap) (I:ObjM s.heap x dx C mA) (q:PySem.W.plainGet K C name=true) (p:PySem.W.hasDictIn K C=true)
 (ha:PySem.W.findIn K (.ref C) name=some none) (g:mA name=some v) (r:PySem.W.handedIn v=true) (h:Q v {s with toks:=s.toks+1}):
 wpAny (model prog w) A (getAttr (.ref x) name expr) Q E s:=by
 obtain ⟨t,J,m⟩:=I.look;exact PySem.W.get_value X J (PySem.W.plainGet_of q).1 (PySem.W.findObj_own p ha rfl (by rw [m,g])) r h
def Ht {pl:Sem Bool} {Q:Value×List Value->Shared->Prop} (X:K.In s.heap) (I:ObjM s.heap x dx C mA) (g:PySem.W.plainGet K C name=true)
 (hf:PySem.W.findIn K (.ref C) name=some (some (.ref f))) (ht:PySem.W.isFn K (.ref f)=true) (p:mA name=none) (h:Q (.ref f,[.ref x]) s):
 wpAny (model prog w) A (getMethod (.ref x) name pl) Q E s:=by
 obtain ⟨m,J,q⟩:=I.look;exact PySem.W.method_fn X J (PySem.W.plainGet_of g).1 (PySem.W.plainGet_of g).2 hf (beq_iff_eq.mp ht) (by show (PySem.W.lookIn name m).map (·.isSome)=some false;rw [q,p];rfl) h
def Jt {ns:List Str} {Q:Unit->Shared->Prop} (X:K.In s.heap) (I:ObjM s.heap x dx C mA)
 (z:PySem.W.findIn K (.ref C) "__setattr__"=some (some (.builtin "object.__setattr__"))) (hp:PySem.W.plainOver K C=true) (ht:PySem.W.takerIn K C name=some none) (D:PySem.W.hasDictIn K C=true)
 (hw:PySem.Within mA ns) (U:ns.length<=sizeLine)
 (h:∀h',ObjM h' x dx C (λy=>if y=name then some v else mA y)->Heap.SameBut dx s.heap h'->Q () {s with heap:=h',toks:=s.toks+2}):
 wpAny (model prog w) A (setAttr (.ref x) name v) Q E s:=by
 obtain ⟨O,J,T⟩:=I.look;refine PySem.W.set_plain X J z (PySem.W.osa_open (s:={s with toks:=s.toks+1}) (r:=none) X J hp ht λb=>?_);obtain ⟨cd,G,N⟩:=PySem.W.any_some D;have u:s.heap.get? x=some ⟨.ref C,some dx, .plain,#[]⟩:=I.obj;refine Qg (Qo (Qg (Qg (wpAny_loadPart u (Qg (PySem.W.Looks.here (s:={s with toks:=s.toks+1}) (PySem.W.looks_clsIn X G) ?_))))));rw [N];refine Qo (a:=some dx) (Qg (Qo (Qg ?_)));refine wpAny_nsSet1 (s:={s with toks:=s.toks+1}) I.ns λh' t q=>?_;obtain ⟨P,L,M,g,m,p⟩:=t.count (PySem.Within.cons name v hw);refine Qg (wpAny_lookBehind g (by rw [m];exact pastItsLine_dict (QL p (by rw [Qy];omega))) ?_);exact Qo (h _ ⟨(q.2 _ (Ne.symm I.ne)).trans I.obj,t,I.ne⟩ q)
def GC {R:Result->Shared->Prop} {vs:List Value} {kw:List (Str×Value)} (X:K.In s.heap) (hm:PySem.W.makesIn K C=true)
 (m:PySem.W.findIn K (.ref C) "__init__"=some (some (.ref f))) (hf:PySem.W.typeIn K (.ref f)=some (.type "function"))
 (h:codeAny (model prog w) (A.under (.builtin "type.__call__" ⟨.ref C::vs,kw⟩)) (.call (.ref f) ⟨.ref (s.heap.objs.size+1)::vs,kw⟩) (PySem.W.InitBack (s.heap.objs.size+1) R)
  {s with heap:=(s.heap.push PySem.W.emptyDict).push (PySem.W.instObj C s.heap.objs.size)}):
 codeAny (model prog w) A (.call (.ref C) ⟨vs,kw⟩) R s:=by
 obtain ⟨p,g,d,t,os⟩:=s;exact PySem.W.make_core (PySem.W.makes_of X hm) (PySem.W.looks_findIn X m) (λself=>PySem.W.bind_fn X self hf) (.inl rfl) h
end
noncomputable def pL (f:Str) (v:V):List (Str×V)->List (Str×V)
 |[]=>[(f,v)]
 |(g,x)::r=>if g=f then (g,v)::r else (g,x)::pL f v r
theorem gN (f g:Str) (v:V):∀fs:List (Str×V),(pL f v fs).lookup g=if g=f then some v else fs.lookup g
 |[]=>by
  show List.lookup g [(f,v)]=_
  by_cases h:g=f
  ·have m:(g==f)=true:=beq_iff_eq.mpr h;simp only [List.lookup,m,QJ h]
  ·have m:(g==f)=false:=jaE.mpr h;simp only [List.lookup,m,QO h]
 |(k,x)::r=>by
  have q:=gN f g v r;rw [show pL f v ((k,x)::r)=(if k=f then (k,v)::r else (k,x)::pL f v r) from rfl]
  by_cases p:k=f
  ·rw [QJ p]
   by_cases h:g=k
   ·have m:(g==k)=true:=beq_iff_eq.mpr h;simp only [List.lookup,m,QJ (h.trans p)]
   ·have m:(g==k)=false:=jaE.mpr h;simp only [List.lookup,m,QO (λe:g=f=>h (e.trans p.symm))]
  ·rw [QO p]
   by_cases h:g=k
   ·have m:(g==k)=true:=beq_iff_eq.mpr h;simp only [List.lookup,m,QO (λe:g=f=>p (h.symm.trans e))]
   ·have m:(g==k)=false:=jaE.mpr h;simp only [List.lookup,m];exact q
theorem gT (f:Str) (v:V):∀fs:List (Str×V),f∈(pL f v fs).map (·.1)/\∀g,g∈fs.map (·.1)->g∈(pL f v fs).map (·.1)
 |[]=>⟨by simp [pL],λg h=>by simp at h⟩
 |(k,x)::r=>by
  obtain ⟨q,p⟩:=gT f v r;rw [show pL f v ((k,x)::r)=(if k=f then (k,v)::r else (k,x)::pL f v r) from rfl]
  by_cases m:k=f
  ·rw [QJ m];subst m;exact ⟨by simp,λg h=>by simpa using h⟩
  ·rw [QO m];refine ⟨?_,λg h=>?_⟩
   ·rw [Qp];exact Qf _ q
   ·rw [Qp] at h⊢
    rcases Ql.mp h with e|e
    ·exact Ql.mpr (.inl e)
    ·exact Qf _ (p g e)
theorem gQ (f:Str) (v:V):∀fs:List (Str×V),(pL f v fs).length<=fs.length+1
 |[]=>by simp [pL]
 |(k,x)::r=>by
  have m:=gQ f v r;rw [show pL f v ((k,x)::r)=(if k=f then (k,v)::r else (k,x)::pL f v r) from rfl]
  by_cases g:k=f
  ·rw [QJ g,Qy,Qy];omega
  ·rw [QO g,Qy,Qy];omega
def ET.some_of {v:V} {o:Option Value} (r:ET (some v) o):∃u,o=some u/\Zx v u:=by
 cases o with
 |none=>exact (show False from r).elim
 |some u=>exact ⟨u,rfl,r⟩
def ET.none_of {o:Option Value} (r:ET none o):o=none:=by
 cases o with
 |none=>rfl
 |some u=>exact (show False from r).elim
def DO {v:V} {u:Value} (r:Zx v u):PySem.W.handedIn u=true:=by
 cases v with
 |non=>cases (show u=Value.none from r);rfl
 |bl b=>cases (show u=Value.bool b from r);rfl
 |int i=>obtain ⟨t,e⟩:=(show ∃t,u=Value.int i t from r);cases e;rfl
 |str x=>obtain ⟨t,e⟩:=(show ∃t,u=Value.str x t from r);cases e;rfl
 |byt b=>obtain ⟨t,e⟩:=(show ∃t,u=Value.bytes b t from r);cases e;rfl
 |flt b=>obtain ⟨t,e⟩:=(show ∃t,u=Value.float b t from r);cases e;rfl
 |ref a=>cases (show u=Value.ref a from r);rfl
 |ty n=>cases (show u=Value.type n from r);rfl
section
variable {P:Program} {w:World} {H H':Hp} {h h':Heap} {a C dx:Addr} {fs Py:List (Str×V)}
def nh (hok:HOk P w H h) (e:H a=some (.ins C dx fs)):∃g,ObjM h a dx C g/\(∀f,ET (fs.lookup f) (g f))/\PySem.Within g (fs.map (·.1))/\fs.length<=1000/\H dx=some (.own a):=by
 obtain ⟨d,z,ne,m,g,n,r,q⟩:=(show Yp P w H h a (.ins C dx fs) from hok a _ e);exact ⟨g,⟨m,n,ne⟩,r,q,z,d⟩
end
structure Cls (K:Frg) (C:Addr):Prop where
 pg:PySem.W.plainGet K C Str.empty=true
 hd:PySem.W.hasDictIn K C=true
 po:PySem.W.plainOver K C=true
 sa:PySem.W.findIn K (.ref C) "__setattr__"=some (some (.builtin "object.__setattr__"))
def Cls.get {K:Frg} {C:Addr} (c:Cls K C) (f:Str):PySem.W.plainGet K C f=true:=c.pg
def Vv (K:Frg) (C:Addr) (f:Str):Prop:=PySem.W.findIn K (.ref C) f=some none
def Vv.taker {K:Frg} {C:Addr} {f:Str} (n:Vv K C f):PySem.W.takerIn K C f=some none:=by
 unfold PySem.W.takerIn;rw [show PySem.W.findIn K (.ref C) f=some none from n];rfl
structure Meth (K:Frg) (C:Addr) (m:Str) (f:Addr):Prop where
 at_:PySem.W.findIn K (.ref C) m=some (some (.ref f))
 fn:PySem.W.isFn K (.ref f)=true
 kp:PySem.W.keepIn K (.ref f)=true
section
variable {X:Cx} {pins:Pn} {σ:St} {H:Hp} {s:Shared} {a C dx:Addr} {fs:List (Str×V)} {f:Str} {v:V} {A:Around} {E:Value->Shared->Prop}
def kz {b:Bool} {Q:Value->Shared->Prop} (I:Inv X pins σ H s) (e:H a=some (.ins C dx fs)) (c:Cls X.K C) (n:Vv X.K C f) (l:fs.lookup f=some v)
 (h:∀u s',Inv X pins σ H s'->Zx v u->Q u s'):wpAny (model X.prog X.w) A (getAttr (.ref a) f b) Q E s:=by
 obtain ⟨g,O,r,_,_,_⟩:=nh I.hok e;obtain ⟨u,m,ru⟩:=ET.some_of (v:=v) (o:=g f) (by rw [<-l];exact r f);exact KL I.kIn O (c.get f) c.hd n m (DO ru) (h u _ (I.tok _) ru)
def bS {m:Str} {g:Addr} {pl:Sem Bool} {Q:Value×List Value->Shared->Prop} (I:Inv X pins σ H s) (e:H a=some (.ins C dx fs)) (c:Cls X.K C) (k:Meth X.K C m g) (l:fs.lookup m=none)
 (h:Q (.ref g,[.ref a]) s):wpAny (model X.prog X.w) A (getMethod (.ref a) m pl) Q E s:=by
 obtain ⟨p,O,r,_,_,_⟩:=nh I.hok e;have hn:p m=none:=ET.none_of (by rw [<-l];exact r m);exact Ht I.kIn O (c.get m) k.at_ k.fn hn h
def jN {y:V} {u:Value} {Q:Unit->Shared->Prop} (I:Inv X pins σ H s) (e:H a=some (.ins C dx fs)) (c:Cls X.K C) (n:Vv X.K C f) (N:fs.length<1000) (G:Zx y u)
 (h:∀s',Inv X pins σ (upd H a (.ins C dx (pL f y fs))) s'->Q () s'):wpAny (model X.prog X.w) A (setAttr (.ref a) f u) Q E s:=by
 obtain ⟨t,O,r,p,_,D⟩:=nh I.hok e;have hz:(fs.map (·.1)).length<=sizeLine:=by rw [Qa,sizeLine_eq];omega
 refine Jt I.kIn O c.sa c.po n.taker c.hd p hz λh' m sb=>h _ ?_;have hd:∃o,h'.get? dx=some o:=let ⟨o,_,_,M,_⟩:=m.ns;⟨o,M⟩
 refine I.write (x:=a) (e:=dx) (by rw [e];exact True.intro) (.inr D) (λb q L z=>(sb.2 b L).trans z) hd ?_;refine ⟨by rw [ya O.ne];exact D,?_,O.ne,m.obj,_,m.ns,λg=>?_,λg J=>?_⟩
 ·have:=gQ f y fs;omega
 ·show ET ((pL f y fs).lookup g) (if g=f then some u else t g);rw [gN]
  by_cases q:g=f
  ·rw [QJ q,QJ q];exact G
  ·rw [QO q,QO q];exact r g
 ·by_cases q:g=f
  ·rw [q];exact (gT f y fs).1
  ·refine (gT f y fs).2 g (p g λz=>J ?_);show (if g=f then some u else t g)=none;rw [QO q];exact z
def Inv.made (I:Inv X pins σ H s):Inv X pins σ (upd (upd H s.heap.objs.size (.own (s.heap.objs.size+1))) (s.heap.objs.size+1) (.ins C s.heap.objs.size []))
 {s with heap:=(s.heap.push PySem.W.emptyDict).push (PySem.W.instObj C s.heap.objs.size)}:=by
 have g:(s.heap.push PySem.W.emptyDict).get? s.heap.objs.size=some PySem.W.emptyDict:=Qx s.heap rfl
 have r:((s.heap.push PySem.W.emptyDict).push (PySem.W.instObj C s.heap.objs.size)).get? (s.heap.objs.size+1)=some (PySem.W.instObj C s.heap.objs.size):=by
  have:=Qx (s.heap.push PySem.W.emptyDict) (o:=PySem.W.instObj C s.heap.objs.size) rfl;rwa [QV] at this
 have p:(s.heap.push PySem.W.emptyDict).Ns s.heap.objs.size (λ_=>none):=⟨PySem.W.emptyDict,#[],_,g,rfl,(λe he=>absurd he (by simp)),λ_=>rfl⟩;have t:=I.laid (a:=s.heap.objs.size) (o:= .own (s.heap.objs.size+1)) (h':=s.heap.push PySem.W.emptyDict) (t':=s.toks) (λb u q=>Qi _ q) (Qu _) ⟨_,g⟩;refine t.laid (a:=s.heap.objs.size+1) (o:= .ins C s.heap.objs.size []) (t':=s.toks) (λb u q=>Qi _ q) (Nat.le_of_eq (QV _ _)) ?_;have ne:s.heap.objs.size≠s.heap.objs.size+1:=QQ (Tn _);refine ⟨by rw [ya ne,yf],TR _,ne,r,λ_=>none,(Heap.Ns1.of_empty p).at λo q=>Qi _ q,λ_=>True.intro,λy m=>absurd rfl m⟩
def Ld {prog:Program} {w:World} {env:Env} {e:Expr} {f:Str} {pos:Pos} {s:Shared} {Q:Value->Shared->Prop} (g:attributeBase e f env (eval e env)=eval e env)
 (h:wpAny (model prog w) A (eval e env) (λo s₁=>wpAny (model prog w) A (getAttr o f true) Q E s₁) E s):wpAny (model prog w) A (eval (.Attribute e f pos) env) Q E s:=
 Attribute_any_ h (by rw [arm_eval_Attribute,g])
end
def tFld (K:Frg) (g:TE) (f:Str):TE:=λσ H Q=>g σ H λx H1=>∃a C m fs v,x= .ref a/\H1 a=some (.ins C m fs)/\Cls K C/\Vv K C f/\fs.lookup f=some v/\Q v H1
def sFld (K:Frg) (q p:TE) (f:Str):TS:=λD σ H=>p σ H λy H1=>q σ H1 λx m=>∃a C g fs,x= .ref a/\m a=some (.ins C g fs)/\Cls K C/\Vv K C f/\fs.length<1000/\
 D.nx σ (upd m a (.ins C g (pL f y fs)))
def InOp (X:Cx) (op:Operator) (rd:V->V->Hp->VK->Prop):Prop:=
 ∀(pins:Pn) (s:Shared) (σ:St) (H:Hp) (x y:V) (u v:Value) (Q:VK),Inv X pins σ H s->Zx x u->Zx y v->rd x y H Q->wpAny (model X.prog X.w) X.A (inplaceOp op u v) (EP X pins σ Q) X.xe s
def BU (K:Frg) (r q:TE) (rd:V->V->Hp->VK->Prop) (f:Str):TS:=λD σ H=>r σ H λx H1=>∃a C s fs v,x= .ref a/\H1 a=some (.ins C s fs)/\Cls K C/\Vv K C f/\fs.lookup f=some v/\
 q σ H1 λy t=>rd v y t λz p=>∃g m,p a=some (.ins C g m)/\m.length<1000/\D.nx σ (upd p a (.ins C g (pL f z m)))
section
variable {X:Cx} {o e value:Expr} {f:Str} {pos pos' tpos:Pos} {ta tv:TE}
def pe_fld (he:PE X e ta) (p:attributeBase e f X.env (eval e X.env)=eval e X.env):PE X (.Attribute e f pos) (tFld X.K ta f):=by
 intro pins s σ H Q I h;refine Ld p (thn (he pins s σ H _ I h) λu s1 m=>?_);obtain ⟨x,H1,w,g,a,C,z,fs,v,ex,r,c,n,l,q⟩:=m;subst ex;obtain rfl:u=Value.ref a:=g;exact kz w r c n l λy s2 t ru=>⟨v,H1,t,ru,q⟩
def ps_fld (ha:PE X o ta) (t:PE X value tv) (w:swapsWith value (some (.Attribute o f pos')) pos.line X.env=pure false):PS X (.Assign [.Attribute o f pos'] value pos) (sFld X.K ta tv f):=by
 intro pins s σ H D I h;refine plainObj_wpAny_Assign_Attribute (thn (t pins s σ H _ I h) λu s1 ⟨y,H1,L,g,q⟩=>thn (ha pins s1 σ H1 _ L q) λr s2 z=>?_) w;obtain ⟨x,N,J,m,a,C,M,fs,ex,A,c,n,l,p⟩:=z;subst ex;obtain rfl:r=Value.ref a:=m;exact jN J A c n l g λs3 G=>⟨σ,_,G,p⟩
def ps_fldaug {op:Operator} {rd:V->V->Hp->VK->Prop} (ha:PE X o ta) (M:PE X value tv) (g:InOp X op rd):PS X (.AugAssign (.Attribute o f tpos) op value pos) (BU X.K ta tv rd f):=by
 intro pins s σ H D I h;refine wpAny_AugAssign_AttributeAny (thn (ha pins s σ H _ I h) λL s1 m=>?_);obtain ⟨x,H1,Z,A,a,C,dx,fs,v,ex,N,c,n,l,q⟩:=m;subst ex;obtain rfl:L=Value.ref a:=A;refine kz Z N c n l λu s2 Y ru=>thn (M pins s2 σ H1 _ Y q) λr s3 ⟨y,H2,U,w,J⟩=>thn (g pins s3 σ H2 v y u r _ U ru w J) λw4 s4 m=>?_;obtain ⟨z,H3,T,t,O,Py,p,l',G⟩:=m;exact jN T p c n l' t λs5 P=>⟨σ,_,P,G⟩
def rAdd:V->V->Hp->VK->Prop:=λx y H Q=>∃i j,x= .int i/\y= .int j/\Q (.int (i+j)) H
def in_add:InOp X .Add rAdd:=by
 rintro pins s σ H x y u v Q I rx ry ⟨i,j,rfl,rfl,q⟩
 obtain ⟨t,rfl⟩:=(show ∃t,u=Value.int i t from rx);obtain ⟨t',rfl⟩:=(show ∃t',v=Value.int j t' from ry);exact PyProof.Rows.iadd_int ⟨.int (i+j),H,I.tok _,⟨_,rfl⟩,q⟩
end
section
variable {X:Cx} {pins:Pn} {σ:St} {H:Hp} {s:Shared} {A:Around} {E:Value->Shared->Prop} {Q:Value->Shared->Prop} {c:Value} {b:Bool}
inductive TyOf (K:Frg) (H:Hp):V->Value->Prop where
 |non:TyOf K H .non (.type "NoneType")
 |bl (x:Bool):TyOf K H (.bl x) (.type "bool")
 |int (i:Int):TyOf K H (.int i) (.type "int")
 |str (x:Str):TyOf K H (.str x) (.type "str")
 |flt (x:UInt64):TyOf K H (.flt x) (.type "float")
 |lst {a:Addr} {xs:List V} (e:H a=some (.lst xs)):TyOf K H (.ref a) (.type "list")
 |frz {a:Addr} {o:Obj} {xs:List V} (e:H a=some (.frz o (.lst xs))):TyOf K H (.ref a) (.type "list")
 |tup {a:Addr} {xs:List V} (e:H a=some (.tup xs)):TyOf K H (.ref a) (.type "tuple")
 |dK {a:Addr} {kvs:List (Key×V)} (e:H a=some (.dK kvs)):TyOf K H (.ref a) (.type "dict")
 |dT {a:Addr} {kvs:List (List Key×V)} (e:H a=some (.dT kvs)):TyOf K H (.ref a) (.type "dict")
 |ins {a C dx:Addr} {fs:List (Str×V)} (e:H a=some (.ins C dx fs)) (cl:Cls K C) (ha:PySem.W.findIn K (.ref C) "__class__"=some (some (.builtin "object.__class__")))
  (hn:PySem.W.specialIn K (.builtin "object.__class__") "__get__"=some (some (.builtin "getset_descriptor.__get__"))) (htk:PySem.W.takesIn K (.builtin "object.__class__")=some true)
  (hm:PySem.W.mroIn K C (.type "object")=some true):TyOf K H (.ref a) (.ref C)
def DI {x:V} {u t:Value} (I:Inv X pins σ H s) (g:Zx x u) (ty:TyOf X.K H x t) (e:PySem.W.kitOne X.K t c=some b) (h:∀tk,Q (.bool b) {s with toks:=tk}):
 wpAny (model X.prog X.w) A (call (.builtin "isinstance") [u,c]) Q E s:=by
 cases ty with
 |non=>cases (show u=Value.none from g);exact jax PySem.W.kitx_none I.kIn True.intro e (λz=>nomatch z) h
 |bl y=>cases (show u=Value.bool y from g);exact jax PySem.W.kitx_bool I.kIn True.intro e (λz=>nomatch z) h
 |int i=>obtain ⟨t,q⟩:=(show ∃t,u=Value.int i t from g);cases q;exact jax PySem.W.kitx_int I.kIn True.intro e (λz=>nomatch z) h
 |str y=>obtain ⟨t,q⟩:=(show ∃t,u=Value.str y t from g);cases q;exact jax PySem.W.kitx_str I.kIn True.intro e (λz=>nomatch z) h
 |flt y=>obtain ⟨t,q⟩:=(show ∃t,u=Value.float y t from g);cases q;exact jax PySem.W.kitx_float I.kIn True.intro e (λz=>nomatch z) h
 |@lst a xs ea=>
  cases (show u=Value.ref a from g);obtain ⟨_,_,n,_,m⟩:=(show Yp X.prog X.w H s.heap a (.lst xs) from I.hok a _ ea);exact jax PySem.W.kitx_list I.kIn ⟨_,m,rfl⟩ e (λz=>nomatch z) h
 |@frz a ob xs ea=>
  cases (show u=Value.ref a from g);obtain ⟨_,_,_,n,_,m⟩:=(show Yp X.prog X.w H s.heap a (.frz ob (.lst xs)) from I.hok a _ ea);exact jax PySem.W.kitx_list I.kIn ⟨_,m,rfl⟩ e (λz=>nomatch z) h
 |@tup a xs ea=>
  cases (show u=Value.ref a from g);obtain ⟨_,_,_,p⟩:=(show Yp X.prog X.w H s.heap a (.tup xs) from I.hok a _ ea);obtain ⟨o,m,r,_⟩:=p;exact jax PySem.W.kitx_tuple I.kIn ⟨o,m,r⟩ e (λz=>nomatch z) h
 |@dK a kvs ea=>
  cases (show u=Value.ref a from g);obtain ⟨_,_,vs,_,p⟩:=(show Yp X.prog X.w H s.heap a (.dK kvs) from I.hok a _ ea);obtain ⟨o,es,ep,m,r,_⟩:=p;exact jax PySem.W.kitx_dict I.kIn ⟨o,m,r.1⟩ e (λz=>nomatch z) h
 |@dT a kvs ea=>
  cases (show u=Value.ref a from g);obtain ⟨_,_,xs,_,o,es,ep,m,r,_⟩:=(show Yp X.prog X.w H s.heap a (.dT kvs) from I.hok a _ ea);exact jax PySem.W.kitx_dict I.kIn ⟨o,m,r.1⟩ e (λz=>nomatch z) h
 |@ins a C dx fs ea cl ha hn htk hm=>
  cases (show u=Value.ref a from g);obtain ⟨G,O,_⟩:=nh I.hok ea;obtain ⟨D,J,_⟩:=O.look;exact jax (PySem.W.kitx_own (cl.get _) cl.hd ha hn htk hm) I.kIn J e (λz=>nomatch z) h
end
structure Room (k:Nat) (A:Around):Prop where
 hd:A.handled=none
 dp:A.depth+3*k+5<recursionLimit
 un:A.units+16*k+200<cLine
def Room.mono {j k:Nat} {A:Around} (r:Room k A) (h:j<=k):Room j A:=⟨r.hd,by have:=r.dp;omega,by have:=r.un;omega⟩
def Room.deeper {k:Nat} {A:Around} (r:Room (k+1) A) (env:Env):Room k (A.deeper env):=
 ⟨r.hd,by have:=r.dp;show A.depth+1+3*k+5<_;omega,by have:=r.un;show A.units+3+16*k+200<_;omega⟩
def wU {A:Around} {C:Addr} {us:List Value} {kw:List (Str×Value)}:(A.under (.builtin "type.__call__" ⟨.ref C::us,kw⟩)).depth=A.depth+1:=by
 first|rfl|simp [Around.under,Code.weight,Code.isCreation,Code.isGuard,Code.isCaller,Code.frames,Code.isFrame,guardIds]
def wR {A:Around} {C:Addr} {us:List Value} {kw:List (Str×Value)}:(A.under (.builtin "type.__call__" ⟨.ref C::us,kw⟩)).units=A.units+1:=by
 first|rfl|simp [Around.under,Code.cUnits,Code.frames,Code.isFrame]
def Room.make {k:Nat} {A:Around} (r:Room (k+1) A) (C:Addr) (us:List Value) (kw:List (Str×Value)):Room k (A.under (.builtin "type.__call__" ⟨.ref C::us,kw⟩)):=
 ⟨r.hd,by have:=r.dp;rw [wU];omega,by have:=r.un;rw [wR];omega⟩
def Room.depth {k:Nat} {A:Around} (r:Room k A):A.depth<recursionLimit:=by have:=r.dp;omega
def Room.units {k:Nat} {A:Around} (r:Room k A):A.units+64<cLine:=by have:=r.un;omega
def tNil:TA:=λ_ H Q=>Q [] H
def tCons (m:TE) (g:TA):TA:=λσ H Q=>m σ H λx H1=>g σ H1 λxs p=>Q (x::xs) p
section
variable {X:Cx} {e:Expr} {es:List Expr} {te:TE} {t:TA} {pos:Pos}
def gB:PA X [] tNil:=λ_ _ _ _ H Q I h=>Calls.spliced_nil ⟨[],H,I, .nil,h⟩
def Vg (ha:PE X e te) (hr:PA X es t) (r:starEach (e::es) X.env=(false,eval e X.env)::starEach es X.env:=by rfl):PA X (e::es) (tCons te t):=by
 intro pos pins s σ H Q I h;rw [r];show wpAny _ _ (spliced ((false,eval e X.env)::backTo pos (starEach es X.env))) _ _ s;refine Calls.spliced_cons (thn (ha pins s σ H _ I h) λu s1 w=>?_);obtain ⟨x,H1,z,m,q⟩:=w;refine thn (hr pos pins s1 σ H1 _ z q) ?_;rintro us s2 ⟨xs,A,y,g,p⟩;exact ⟨x::xs,A,y, .cons m g,p⟩
def tTup (t:TA):TE:=λσ H Q=>t σ H λxs H1=>xs.length<=sizeLine/\∀p,H1 p=none->Q (.ref p) (upd H1 p (.tup xs))
def tLst (t:TA):TE:=λσ H Q=>t σ H λxs H1=>xs.length<=sizeLine/\∀p,H1 p=none->Q (.ref p) (upd H1 p (.lst xs))
def pe_tup {x1} (h:PA X es t):PE X (.Tuple es x1 pos) (tTup t):=by
 intro pins s σ H Q I hq;refine wpAny_Tuple_spliced (thn (h pos pins s σ H _ I hq) λus s1 ⟨xs,H1,g,r,z,q⟩=>⟨by rw [<-r.length];exact z,?_⟩);have hf:H1 s1.heap.objs.size=none:=g.hok.fresh (Qu _);refine ⟨.ref s1.heap.objs.size,upd H1 s1.heap.objs.size (.tup xs),g.laid (t':=s1.toks) (λb u e=>Qi _ e) (Qu _) ?_,rfl,q _ hf⟩;exact ⟨z,us,r,⟨_,Qx _ rfl,rfl,_,rfl⟩⟩
def pe_lst (h:PA X es t):PE X (.List es pos) (tLst t):=by
 intro pins s σ H Q I hq;refine wpAny_List_spliced (thn (h pos pins s σ H _ I hq) λus s1 ⟨xs,H1,g,r,z,q⟩=>⟨by rw [<-r.length];exact z,?_⟩);have hf:H1 s1.heap.objs.size=none:=g.hok.fresh (Qu _);refine ⟨.ref s1.heap.objs.size,upd H1 s1.heap.objs.size (.lst xs),g.laid (t':=s1.toks) (λb u e=>Qi _ e) (Qu _) ?_,rfl,q _ hf⟩;exact ⟨z,us,0,r,Qx _ rfl⟩
end
abbrev Sp:=List V->Hp->VK->XK->Prop
abbrev CXT:=List Env->Hp->Shared->XK->Value->Shared->Prop
structure Env0 (P:Program) (w:World) (K:Frg) (mg:Str->Option Value) (base:Heap) (A:Around) (outer:List Env) (s:Shared) (H:Hp):Prop where
 frames:A.frames=some outer
 mod:Mod K mg base
 bs:∀b o,base.get? b=some o->s.heap.get? b=some o/\H b=none
 bsz:base.objs.size<=s.heap.objs.size
 funs:s.heap.FunFrames base outer
 frf:∀b∈frs outer,H b=none
 hok:HOk P w H s.heap
 bare:AllBare s.gens
def CE (outer:List Env) (P:Program) (w:World) (H:Hp) (s:Shared) (Q:VK) (u:Value) (s':Shared):Prop:=
 ∃v H',s'.os=s.os/\AllBare s'.gens/\Un (frs outer) [] H H' s.heap s'.heap/\HOk P w H' s'.heap/\Zx v u/\Q v H'
def CR (CX:CXT) (outer:List Env) (P:Program) (w:World) (H:Hp) (s:Shared) (Q:VK) (E:XK) (r:Result) (s':Shared):Prop:=
 match r with
 | .ok (.ret u)=>CE outer P w H s Q u s'
 | .ok _=>False
 | .error e=>CX outer H s E e s'
structure FnOk (P:Program) (w:World) (K:Frg) (mg:Str->Option Value) (base:Heap) (CX:CXT) (k:Nat) (f:Addr) (fd:FuncData) (ps:List Str) (sp:Sp):Prop where
 len:∀vs H Q E,sp vs H Q E->vs.length=ps.length
 run:∀(A:Around) (outer:List Env) (s:Shared) (H:Hp) (args:Args) (us:List Value) (vs:List V) (Q:VK) (E:XK),Room k A->Env0 P w K mg base A outer s H->BindsTo s fd args (ps.zip us)->xx vs us->sp vs H Q E->
  codeAny (model P w) A (.call (.ref f) args) (CR CX outer P w H s Q E) s
def FnOk.mono {P:Program} {w:World} {K:Frg} {mg:Str->Option Value} {base:Heap} {CX:CXT} {j k:Nat} {f:Addr} {fd:FuncData} {ps:List Str} {sp:Sp} (F:FnOk P w K mg base CX j f fd ps sp) (h:j<=k):
 FnOk P w K mg base CX k f fd ps sp:=⟨F.len,λA outer s H args us vs Q E hr=>F.run A outer s H args us vs Q E (hr.mono h)⟩
def Env0.make {P:Program} {w:World} {K:Frg} {mg:Str->Option Value} {base:Heap} {A:Around} {outer:List Env} {s:Shared} {H:Hp} (e:Env0 P w K mg base A outer s H) (C:Addr) (us:List Value) (kw:List (Str×Value)):
 Env0 P w K mg base (A.under (.builtin "type.__call__" ⟨.ref C::us,kw⟩)) outer s H:=⟨by first|exact e.frames|(simpa [Around.under,Code.envs,Code.isFrame,pushEnvs] using e.frames),e.mod,e.bs,e.bsz,e.funs,e.frf,e.hok,e.bare⟩
section
variable {X:Cx} {pins:Pn} {σ:St} {H:Hp} {s s':Shared}
def Inv.env0 (I:Inv X pins σ H s):Env0 X.prog X.w X.K X.mg X.base X.A X.stack s H:=
 ⟨I.ok.frames,I.ok.mod,I.bs,QL I.ok.bsz I.sz,I.stack,I.stkFree,I.hok,I.bare⟩
def Inv.after {Q:VK} {u:Value} (I:Inv X pins σ H s) (h:CE X.stack X.prog X.w H s Q u s'):EP X pins σ Q u s':=by
 obtain ⟨v,H',os,bare,un,hok,r,q⟩:=h;obtain ⟨m,g,d,t,p⟩:=s';obtain rfl:p=s.os:=os;exact ⟨v,H',I.call (h':=m) (g':=g) (d':=d) (t':=t) (ch:=[]) un hok bare (λb z=>absurd z (by simp)),r,q⟩
end
def vR (sp:Sp) (g:List V) (E:XK) (t:TA):TE:=λσ H Q=>t σ H λvs H1=>sp (vs++g) H1 Q E
def tMeth (C:Addr) (m:Str) (sp:Sp) (g:List V) (E:XK) (p:TE) (t:TA):TE:=λσ H Q=>p σ H λx H1=>∃a q fs,x= .ref a/\H1 a=some (.ins C q fs)/\fs.lookup m=none/\
 t σ H1 λvs r=>sp (x::(vs++g)) r Q E
def Jl (C:Addr) (sp:Sp) (m:List V) (E:XK) (t:TA):TE:=λσ H Q=>t σ H λvs H1=>∀x g,H1 x=none->H1 g=none->g≠x->
 sp (.ref x::(vs++m)) (upd (upd H1 g (.own x)) x (.ins C g [])) (λv p=>v= .non/\Q (.ref x) p) E
def yG (K:Frg) (fd:FuncData) (ps:List Str) (ds:List Value):Prop:=
 ∀(s:Shared) (us:List Value),K.In s.heap->(us++ds).length=ps.length->BindsTo s fd ⟨us,[]⟩ (ps.zip (us++ds))
def yG.all {K:Frg} {fd:FuncData} {ps:List Str} (h:∀us:List Value,us.length=ps.length->bindArgs fd ⟨us,[]⟩=pure (ps.zip us)):yG K fd ps []:=λs us _ g=>by
 rw [jaI] at g⊢;exact .of_eq (h us g)
def Vu (CX:CXT) (X:Cx) (E:XK):Prop:=∀(pins:Pn) (σ:St) (H:Hp) (s:Shared) (e:Value) (s':Shared),Inv X pins σ H s->CX X.stack H s E e s'->X.xe e s'
section
variable {X:Cx} {CX:CXT} {k:Nat} {f C:Addr} {fd:FuncData} {ps:List Str} {sp:Sp} {dvs:List V} {ds:List Value} {E:XK} {x m:Str} {p pos apos:Pos} {e o:Expr} {es:List Expr} {ta:TE} {t:TA}
def oV {pins:Pn} {σ:St} {H:Hp} {s:Shared} {Q:VK} {us:List Value} {vs:List V} (F:FnOk X.prog X.w X.K X.mg X.base CX k f fd ps sp) (hr:Room k X.A) (D:yG X.K fd ps ds) (hd:xx dvs ds) (y:Vu CX X E)
 (I:Inv X pins σ H s) (r:xx vs us) (h:sp (vs++dvs) H Q E):wpAny (model X.prog X.w) X.A (call (.ref f) us) (EP X pins σ Q) X.xe s:=by
 have q:xx (vs++dvs) (us++ds):=r.append hd;have z:(us++ds).length=ps.length:=by rw [<-q.length];exact F.len _ _ _ _ h
 refine wpAny_call (jcd (F.run X.A X.stack s H ⟨us,[]⟩ (us++ds) (vs++dvs) Q E hr I.env0 (D s us I.kIn z) q h) λr s' g=>?_)
 cases r with
 |error e=>exact y pins σ H s e s' I g
 |ok G=>
  cases G with
  |ret u=>exact I.after g
  |next=>exact False.elim g
  |brk=>exact False.elim g
  |cont=>exact False.elim g
def JY (F:FnOk X.prog X.w X.K X.mg X.base CX k f fd ps sp) (hr:Room k X.A) (z:Gl X x) (hm:X.mg x=some (.ref f)) (y:PySem.W.keepIn X.K (.ref f)=true) (D:yG X.K fd ps ds) (hd:xx dvs ds) (u:Vu CX X E)
 (ha:PA X (e::es) t) (J:(x==("__debug__":Str))=false:=by decide) (he:starEach (e::es) X.env=(false,eval e X.env)::starEach es X.env:=by rfl) (G:(backTo pos (starEach es X.env)).any (·.1)=false:=by rfl):
 PE X (.Call (.Name x p) (e::es) [] pos) (vR sp dvs E t):=by
 intro pins s σ H Q I h;refine jaM (gR I z hm ?_ J);refine jbv (h₀:=X.base) I.ok.mod.kin y (thn (ha pos pins s σ H _ I h) ?_) he G;rintro us s1 ⟨vs,H1,g,r,q⟩;refine ⟨g.kIn,?_⟩;exact oV F hr D hd u g r q
def pe_meth {pl:Sem Bool} (he:PE X o ta) (c:Cls X.K C) (hm:Meth X.K C m f) (F:FnOk X.prog X.w X.K X.mg X.base CX k f fd ps sp) (hr:Room k X.A) (J:yG X.K fd ps ds) (hd:xx dvs ds) (G:Vu CX X E) (ha:PA X (e::es) t)
 (N:starEach (e::es) X.env=(false,eval e X.env)::starEach es X.env:=by rfl) (M:(backTo pos (starEach es X.env)).any (·.1)=false:=by rfl)
 (ht:eval (.Call (.Attribute o m apos) (e::es) [] pos) X.env=(do
  let ov<-eval o X.env
  standAt apos.atName
  let (f,first)<-holding [ov] (getMethod ov m pl)
  callWith pos f first (backTo pos (starEach (e::es) X.env)) (backToKw pos (keywordEach [] X.env))):=by rfl):
 PE X (.Call (.Attribute o m apos) (e::es) [] pos) (tMeth C m sp dvs E ta t):=by
 intro pins s σ H Q I h;refine PySem.W.methodCall_KW (pl:=pl) (thn (he pins s σ H _ I h) ?_) ht;rintro u s1 ⟨x,H1,y,z,a,O,fs,ex,L,l,q⟩;subst ex;obtain rfl:u=Value.ref a:=z;refine bS y L c hm l ?_;refine jbv (first:=[.ref a]) (h₀:=X.base) I.ok.mod.kin hm.kp (thn (ha pos pins s1 σ H1 _ y q) ?_) N M;rintro us s2 ⟨vs,P,g,r,D⟩;refine ⟨g.kIn,?_⟩;exact oV (us:= .ref a::us) (vs:= .ref a::vs) F hr J hd G g (.cons rfl r) D
structure Mk (K:Frg) (C f:Addr):Prop where
 makes:PySem.W.makesIn K C=true
 init:PySem.W.findIn K (.ref C) "__init__"=some (some (.ref f))
 fn:PySem.W.isFn K (.ref f)=true
 kp:PySem.W.keepIn K (.ref C)=true
def ug {pins:Pn} {σ:St} {H:Hp} {s:Shared} {Q:VK} {us:List Value} {vs:List V} (M:Mk X.K C f) (F:FnOk X.prog X.w X.K X.mg X.base CX k f fd ps sp) (hr:Room (k+1) X.A) (O:yG X.K fd ps ds) (hd:xx dvs ds)
 (L:Vu CX X E) (I:Inv X pins σ H s) (r:xx vs us)
 (h:∀x q,H x=none->H q=none->q≠x->sp (.ref x::(vs++dvs)) (upd (upd H q (.own x)) x (.ins C q [])) (λv U=>v= .non/\Q (.ref x) U) E):
 wpAny (model X.prog X.w) X.A (call (.ref C) us) (EP X pins σ Q) X.xe s:=by
 have D:=h (s.heap.objs.size+1) s.heap.objs.size (I.hok.fresh (jat _)) (I.hok.fresh (Qu _)) (QQ (Tn _));have y:=Inv.made (C:=C) I;have z:xx (V.ref (s.heap.objs.size+1)::(vs++dvs)) (Value.ref (s.heap.objs.size+1)::(us++ds)):= .cons rfl (r.append hd)
 have N:(Value.ref (s.heap.objs.size+1)::us++ds).length=ps.length:=by
  have e:=z.length;rw [F.len _ _ _ _ D] at e;exact e.symm
 refine wpAny_call (GC (f:=f) I.kIn M.makes M.init (beq_iff_eq.mp M.fn) (jcd (F.run _ X.stack _ _ ⟨Value.ref (s.heap.objs.size+1)::us,[]⟩ (Value.ref (s.heap.objs.size+1)::(us++ds)) _ _ E (hr.make C us [])
  (y.env0.make C us []) (O _ (Value.ref (s.heap.objs.size+1)::us) y.kIn N) z D) λr s' g=>?_))
 cases r with
 |error e=>exact L pins σ _ _ e s' y g
 |ok P=>
  cases P with
  |ret u=>
   obtain ⟨v,H',T,G,ev,J⟩:=y.after g;subst ev;exact ⟨G,⟨V.ref (s.heap.objs.size+1),H',T,rfl,J⟩⟩
  |next=>exact False.elim g
  |brk=>exact False.elim g
  |cont=>exact False.elim g
def pe_make (M:Mk X.K C f) (F:FnOk X.prog X.w X.K X.mg X.base CX k f fd ps sp) (hr:Room (k+1) X.A) (y:Gl X x) (hm:X.mg x=some (.ref C)) (z:yG X.K fd ps ds) (hd:xx dvs ds) (u:Vu CX X E)
 (ha:PA X (e::es) t) (G:(x==("__debug__":Str))=false:=by decide) (he:starEach (e::es) X.env=(false,eval e X.env)::starEach es X.env:=by rfl) (D:(backTo pos (starEach es X.env)).any (·.1)=false:=by rfl):
 PE X (.Call (.Name x p) (e::es) [] pos) (Jl C sp dvs E t):=by
 intro pins s σ H Q I h;refine jaM (gR I y hm ?_ G);refine jbv (h₀:=X.base) I.ok.mod.kin M.kp (thn (ha pos pins s σ H _ I h) ?_) he D;rintro us s1 ⟨vs,H1,g,r,q⟩;refine ⟨g.kIn,?_⟩;exact ug M F hr z hd u g r q
def pe_make0 (M:Mk X.K C f) (F:FnOk X.prog X.w X.K X.mg X.base CX k f fd ps sp) (hr:Room (k+1) X.A) (q:Gl X x) (hm:X.mg x=some (.ref C)) (r:yG X.K fd ps ds) (hd:xx dvs ds) (g:Vu CX X E)
 (u:(x==("__debug__":Str))=false:=by decide):PE X (.Call (.Name x p) [] [] pos) (Jl C sp dvs E tNil):=by
 intro pins s σ H Q I h;refine jaM (gR I q hm ?_ u);exact PySem.W.callWith_K0 I.kIn M.kp (ug (us:=[]) M F hr r hd g I .nil h)
end
section
variable {X:Cx} {CX:CXT} {k:Nat} {f C:Addr} {fd:FuncData} {ps ks:List Str} {sp:Sp} {E:XK} {x m:Str} {p pos apos kpos:Pos} {e o:Expr} {es:List Expr} {kws:List Keyword} {te ta:TE} {t tk:TA} {nm:Option Str}
variable {g:List Value->List Value->List Value} {gV:List V->List V->List V}
end
structure FnScope (N P:List Str) (sc:Scope):Prop where
 kind:sc.kind= .function
 co:sc.isCoroutine=false
 gen:sc.isGenerator=false
 nd:N.Nodup
 pre:N.take P.length=P
 par:∀x∈P,sc.names.lookup x=some .local\/sc.names.lookup x=some .cell
 nofree:∀y∈sc.names,y.2≠ .free
theorem qq {kindOf:Str->Option NameKind} {x:Str}:∀{binds:List (Str×Value)} {m:Str->Option Value},(∀v,(x,v)∉binds)->bindL kindOf binds m x=m x
 |[],_,_=>rfl
 |(n,v)::r,m,h=>by
  unfold bindL;rw [qq λw hw=>h w (Qf _ hw)]
  split
  ·have:x≠n:=by rintro rfl;exact h v Qe
   simp [this]
  ·rfl
theorem qu {kindOf:Str->Option NameKind} {x:Str}:∀{binds:List (Str×Value)} {m:Str->Option Value},(∀v,(x,v)∉binds)->bindC kindOf binds m x=m x
 |[],_,_=>rfl
 |(n,v)::r,m,h=>by
  unfold bindC;rw [qu λw hw=>h w (Qf _ hw)]
  split
  ·rfl
  ·have:x≠n:=by rintro rfl;exact h v Qe
   simp [this]
theorem qt {kindOf:Str->Option NameKind} {x:Str} {v:Value}:∀{P:List Str} {vs:List Value} {i:Nat} {m:Str->Option Value},P.Nodup->P[i]? =some x->vs[i]? =some v->kindOf x=some .local->
 bindL kindOf (P.zip vs) m x=some v
 |[],_,_,_,_,h,_,_=>by simp at h
 |_::_,[],_,_,_,_,h,_=>by simp at h
 |p::P,w::vs,0,m,nd,h1,h2,hk=>by
  simp at h1 h2;subst h1;subst h2;show bindL kindOf ((p,w)::P.zip vs) m p=_;unfold bindL;rw [qq λv g=>(TZ.mp nd).1 (jbz g).1,QJ hk]
  simp
 |p::P,w::vs,i+1,m,nd,h1,h2,hk=>by
  show bindL kindOf ((p,w)::P.zip vs) m x=_;unfold bindL;exact qt (i:=i) (TZ.mp nd).2 ‹h1› ‹h2› hk
theorem qv {kindOf:Str->Option NameKind} {x:Str} {v:Value}:∀{P:List Str} {vs:List Value} {i:Nat} {m:Str->Option Value},P.Nodup->P[i]? =some x->vs[i]? =some v->kindOf x≠some .local->
 bindC kindOf (P.zip vs) m x=some v
 |[],_,_,_,_,h,_,_=>by simp at h
 |_::_,[],_,_,_,_,h,_=>by simp at h
 |p::P,w::vs,0,m,nd,h1,h2,hk=>by
  simp at h1 h2;subst h1;subst h2;show bindC kindOf ((p,w)::P.zip vs) m p=_;unfold bindC;rw [qu λv g=>(TZ.mp nd).1 (jbz g).1,QO hk]
  simp
 |p::P,w::vs,i+1,m,nd,h1,h2,hk=>by
  show bindC kindOf ((p,w)::P.zip vs) m x=_;unfold bindC;exact qv (i:=i) (TZ.mp nd).2 ‹h1› ‹h2› hk
noncomputable def lB (N:List Str) (vs:List V):St:=vs.map some++List.replicate (N.length - vs.length) none
noncomputable def IJ (CX:CXT) (P:Program) (w:World) (K:Frg) (mg:Str->Option Value) (base:Heap) (N:List Str) (qual:Str) (scope:Scope) (f:Addr) (cd:Value) (A:Around) (outer:List Env) (s:Shared) (H:Hp) (E:XK):Cx where
 prog:=P
 w:=w
 K:=K
 mg:=mg
 base:=base
 A:=A.deeper (envOfC qual scope s.heap.objs.size f cd)
 N:=N
 s₀:=s
 H₀:=H
 env:=envOfC qual scope s.heap.objs.size f cd
 outer:=outer
 stack:=envOfC qual scope s.heap.objs.size f cd::outer
 ex:=[]
 calm:=true
 fn:=λ_=>true
 pn:=[]
 xe:=λe s'=>wpAny (model P w) (A.deeper (envOfC qual scope s.heap.objs.size f cd)) (leaving (envOfC qual scope s.heap.objs.size f cd) e) (λ_ g=>CX outer H s E e g) (λm g=>CX outer H s E m g) s'
def vd {sc:Scope} {n:Nat} {x:Str} (h:sc.names.lookup x=some .cell):∃c,(cellsFrom n sc.names []).lookup x=some c:=by
 have q:=PySem.W.cellsFrom_some sc.names n [] (.inl h);exact jan.mp q
def DJ {CX:CXT} {P:Program} {w:World} {K:Frg} {mg:Str->Option Value} {base:Heap} {N ps:List Str} {qual:Str} {scope:Scope} {f:Addr} {cd:Value} {A:Around} {outer:List Env} {s s1:Shared} {H:Hp} {E:XK} {us:List Value} {vs:List V}
 (S:FnScope N ps scope) (hd:A.handled=none) (e0:Env0 P w K mg base A outer s H) (M:vs.length=ps.length) (r:xx vs us)
 (x:InCallC s s.heap.objs.size (bindL (envOfC qual scope s.heap.objs.size f cd).kindOf (ps.zip us) λ_=>none) (cellsFrom (s.heap.objs.size+1) scope.names []) (bindC (envOfC qual scope s.heap.objs.size f cd).kindOf (ps.zip us) λ_=>none) s1):
 Inv (IJ CX P w K mg base N qual scope f cd A outer s H E) [] (lB N vs) H s1:=by
 have T:ps.length<=N.length:=by have:=congrArg List.length S.pre;rw [TC] at this;omega
 obtain ⟨G,tk,rfl,J⟩:=x.done;have m:∀b:Addr,b∉(IJ CX P w K mg base N qual scope f cd A outer s H E).ex:=λb z=>absurd (show b∈([]:List Addr) from z) (by simp)
 refine ⟨⟨e0.mod,S.kind,rfl,rfl,Qu _,λy z c G g=>?_,λy t=>?_,λy c _ h=>?_,λ_=>hd,Around.frames_deeper e0.frames, .inr ⟨rfl,rfl⟩,λb z=>absurd z (m b),e0.bs,e0.bsz,λb _ _=>m b,λb z=>absurd z (m b),e0.funs,e0.frf⟩,
  rfl,e0.bare,Un.kept J,⟨_,x.toInCall.ns,λi y v G g O=>?_⟩,λy c h=>⟨_,x.cell y c h⟩,e0.hok.fresh (Qu _),λy c h=>?_,λp hp=>absurd (show p∈([]:List (Addr×Obj)) from hp) (by simp),e0.hok.kept J,?_⟩
 ·exact name_of_addr x.apart (jaG G) (jaG g)
 ·have t:scope.names.lookup y=some .cell\/scope.names.lookup y=some .free:=t
  rcases t with t|t
  ·exact vd t
  ·exact absurd rfl (S.nofree _ (jaG t))
 ·exact jbn (x.above y c (jaG h))
 ·have D:i<vs.length:=by
   unfold lB at g
   by_cases D:i<vs.length
   ·exact D
   ·rw [TB ‹D›] at g;rw [QU] at g
    split at g<;>cases g
  have ha:vs[i]? =some v:=by
   unfold lB at g;rw [jae ‹D›,Qh] at g
   cases e:vs[i]? with
   |none=>rw [e] at g;cases g
   |some a=>rw [e] at g;cases g;rfl
  obtain ⟨u,I,L⟩:=r.get ha
  have hp:ps[i]? =some y:=by
   rw [<-S.pre,List.getElem?_take_of_lt ⋯];exact G
  have C:ps.Nodup:=by rw [<-S.pre];exact S.nd.sublist (List.take_sublist _ _)
  refine ⟨u,L,?_⟩
  rcases S.par y (Qc hp) with k|k
  ·exact .inl ⟨k,qt C hp I k⟩
  ·obtain ⟨c,e⟩:=vd (n:=s.heap.objs.size+1) k;refine .inr ⟨.inl k,c,e,?_⟩;have q:=x.cell y c e;rw [qv C hp I (by show scope.names.lookup y≠_;rw [k];decide)] at q;exact q
 ·exact e0.hok.fresh (jbn (x.above y c (jaG h)))
 ·unfold lB;show _=N.length;rw [QB,Qa,QD];omega
def fn_of {CX:CXT} {P:Program} {w:World} {K:Frg} {mg:Str->Option Value} {base:Heap} {k:Nat} {f:Addr} {name qual:Str} {params:Arguments} {body:List Stmt} {scope:Scope} {C kV doc pm g ct M:Value} {an L:Option Addr}
 {z:Array (Option Value)} {N ps:List Str} {sp:Sp} (lk:K.lookup f=some ⟨M,L, .func (PySem.W.fnOf name qual params body scope C kV doc pm an g ct),z⟩) (MI:PySem.W.codeIn K g qual=true) (S:FnScope N ps scope)
 (len:∀vs H Q E,sp vs H Q E->vs.length=ps.length)
 (Nz:∀(A:Around) (outer:List Env) (s:Shared) (H:Hp) (vs:List V) (Q:VK) (E:XK),Room k (A.deeper (envOfC qual scope s.heap.objs.size f g))->sp vs H Q E->
  ∃t,PSs (IJ CX P w K mg base N qual scope f g A outer s H E) body t/\t {nx:=λ_ H'=>Q .non H',rt:=Q} (lB N vs) H):
 FnOk P w K mg base CX (k+1) f (PySem.W.fnOf name qual params body scope C kV doc pm an g ct) ps sp:=by
 refine ⟨len,λA outer s H args us vs Q E hr e0 X r D=>?_⟩;have U:=len _ _ _ _ D;have G:K.In s.heap:=e0.mod.kin.keeps λb o e=>(e0.bs b o e).1;have lim:s.heap.NoLimit:=e0.mod.nolimit.keeps λb o e=>(e0.bs b o e).1
 have Z:∀y∈ps.zip us,scope.names.lookup y.1=some .local\/(scope.names.lookup y.1=some .cell/\((cellsFrom (s.heap.objs.size+1) scope.names []).lookup y.1).isSome=true):=λ⟨n,v⟩ O=>by
  rcases S.par n (jbz O).1 with q|q
  ·exact .inl q
  ·exact .inr ⟨q,PySem.W.cellsFrom_some _ _ _ (.inl q)⟩
 refine codeAny_call_function hr.depth (G _ _ lk) rfl S.co S.gen rfl (PySem.W.codeRec_of G MI) (X _ _ _ _ ?_);refine wpAny_newFunctionEnv_cells S.kind Z λenv he s1 x=>?_;subst he;refine ⟨lim.keeps x.toInCall.keep,codeAny_func ?_⟩;obtain ⟨t,ht,T⟩:=Nz A outer s H vs Q E (hr.deeper _) D;have I:Inv (IJ CX P w K mg base N qual scope f g A outer s H E) [] (lB N vs) H s1:=DJ S hr.hd e0 U r x;refine wpAny_mono (ht [] s1 (lB N vs) H _ I T) (λY s' m=>?_) λe s' m=>m
 have fin:∀{σ':St} {H':Hp} {v:V} {u:Value},Inv (IJ CX P w K mg base N qual scope f g A outer s H E) [] σ' H' s'->Zx v u->Q v H'->CE outer P w H s Q u s':=
  λ{σ' H' v u} J p q=>⟨v,H',J.os,J.bare,J.base,J.hok,p,q⟩
 cases Y with
 |ret u=>
  obtain ⟨v,σ',H',J,p,q⟩:=m;exact fin J p q
 |next=>
  obtain ⟨σ',H',J,q⟩:=m;exact fin (v:=V.non) (u:=Value.none) J rfl q
 |brk=>
  obtain ⟨_,_,_,q⟩:=m;exact False.elim q
 |cont=>
  obtain ⟨_,_,_,q⟩:=m;exact False.elim q
section
variable {X:Cx} {x:Str} {p pos:Pos} {e:Expr} {es:List Expr} {t:TA} {id T:String} {r:List V->Hp->VK->Prop}
def tCB (r:List V->Hp->VK->Prop) (t:TA):TE:=λσ H Q=>t σ H λvs H1=>r vs H1 Q
def eB (w:Wt X (.builtin id) r) (u:Gl X x) (hm:X.mg x=none) (q:bootBuiltins x=some (.builtin id)) (ha:PA X (e::es) t) (hn:x≠"__name__":=by decide) (z:(x==("__debug__":Str))=false:=by decide)
 (he:starEach (e::es) X.env=(false,eval e X.env)::starEach es X.env:=by rfl) (y:(backTo pos (starEach es X.env)).any (·.1)=false:=by rfl):PE X (.Call (.Name x p) (e::es) [] pos) (tCB r t):=by
 intro pins s σ H Q I h;refine jaM (ax I u hm q ?_ hn z);refine PyProof.Rows.callWith_builtin1 (thn (ha pos pins s σ H _ I h) ?_) he y;rintro us s1 ⟨vs,H1,A,g,m⟩;exact w pins s1 σ H1 vs us Q A g m
def pe_callTy (w:Wt X (.type T) r) (u:Gl X x) (hm:X.mg x=none) (q:bootBuiltins x=some (.type T)) (ha:PA X (e::es) t) (hn:x≠"__name__":=by decide) (z:(x==("__debug__":Str))=false:=by decide)
 (he:starEach (e::es) X.env=(false,eval e X.env)::starEach es X.env:=by rfl) (y:(backTo pos (starEach es X.env)).any (·.1)=false:=by rfl):PE X (.Call (.Name x p) (e::es) [] pos) (tCB r t):=by
 intro pins s σ H Q I h;refine jaM (ax I u hm q ?_ hn z);refine jap (thn (ha pos pins s σ H _ I h) ?_) he y;rintro us s1 ⟨vs,H1,A,g,m⟩;exact w pins s1 σ H1 vs us Q A g m
end
end L2
namespace HT
open PySem PyProof.Rows
section
open PySem.SeqAt
open PySem.AutoSeq1 (wpAny_loadPart')
open PySem.MeetsSeq PySem.MeetsSeq2 PySem.MeetsSeq3
end
section
variable {prog:Program} {w:World} {A:Around} {E:Value->Shared->Prop} {s:Shared}
def sIx (n d:Nat):Option Int->Nat
 |none=>d
 |some v=>if v<0 then (v+(n:Int)).toNat else min v.toNat n
def sIx_none (n d:Nat):sIx n d none=d:=rfl
def sIx_nat (n d k:Nat):sIx n d (some (k:Int))=min k n:=by
 show (if (k:Int)<0 then ((k:Int)+(n:Int)).toNat else min (k:Int).toNat n)=min k n;rw [QO ⋯,Td]
def sIx_le (n d:Nat) (hd:d<=n) (o:Option Int):sIx n d o<=n:=by
 cases o with
 |none=>exact hd
 |some v=>
  show (if v<0 then (v+(n:Int)).toNat else min v.toNat n)<=n
  by_cases g:v<0
  ·rw [QJ g];omega
  ·rw [QO g];exact Nat.min_le_right _ _
def Ep (v:Int) (n d:Nat):(if v<0 then max (v+(n:Int)) 0 else min v (n:Int))=((sIx n d (some v):Nat):Int):=by
 show (if v<0 then max (v+(n:Int)) 0 else min v (n:Int))=(((if v<0 then (v+(n:Int)).toNat else min v.toNat n):Nat):Int)
 by_cases g:v<0
 ·simp only [QJ g];omega
 ·simp only [QO g];omega
def AI (lo g:Option Int) (n:Nat):Builtin.Slice.sliceAdjust lo g 1 (n:Int)=(((sIx n 0 lo:Nat):Int),((sIx n n g:Nat):Int)):=by
 have m:¬((1:Int)<0):=⋯
 unfold Builtin.Slice.sliceAdjust;simp only [m,if_false];refine Prod.ext ?_ ?_
 ·cases lo with
  |none=>rfl
  |some v=>exact Ep v n 0
 ·cases g with
  |none=>rfl
  |some v=>exact Ep v n n
def wx (i j:Nat):Builtin.Slice.slicePlaces (i:Int) (j:Int) 1=j - i:=by
 unfold Builtin.Slice.slicePlaces;have g:(1:Int)>0:=⋯
 simp only [g,if_true,Int.ediv_one]
 split<;>omega
def jM {v:Value} {o:Option Int} {Q:Option Int->Shared->Prop} (p:IsPart v o) (h:Q o s):wpAny (model prog w) A (Builtin.Slice.slicePartIndex v) Q E s:=by
 cases p with
 |none=>exact slicePart_none h
 |int i t=>exact slicePart_int h
def du {sl:Addr} {p m:Value} {lo g:Option Int} {n:Nat} {Q:Int×Int×Nat->Shared->Prop} (t:s.heap.IsSliceOf sl p m .none) (pl:IsPart p lo) (pu:IsPart m g)
 (h:Q (((sIx n 0 lo:Nat):Int),1,sIx n n g - sIx n 0 lo) s):wpAny (model prog w) A (Builtin.Slice.sliceApplied (.ref sl) (pure (n:Int))) Q E s:=by
 obtain ⟨os,r,u,q⟩:=id t;unfold Builtin.Slice.sliceApplied Builtin.Slice.sliceFields;refine Qg (Qg (jaA r q (x:=p) rfl (Qg (jaA r q (x:=m) rfl (Qg (jaA r q (x:= .none) rfl (Qo ?_)))))));refine Qg (slicePart_none ?_);show wpAny _ _ (if ((1:Int)==0)=true then _ else _) _ _ s;rw [QO nofun];refine Qg (jM pl (Qg (jM pu (Qg (Qo ?_)))));show wpAny _ _ (match Builtin.Slice.sliceAdjust lo g 1 (n:Int) with|(lo,g)=>pure (lo,(1:Int),Builtin.Slice.slicePlaces lo g 1)) _ _ s;rw [AI lo g n];show wpAny _ _ (pure (((sIx n 0 lo:Nat):Int),(1:Int),Builtin.Slice.slicePlaces ((sIx n 0 lo:Nat):Int) ((sIx n n g:Nat):Int) 1)) _ _ s;rw [wx];exact Qo h
def FZ (xs:Array Value) (i k:Nat):((List.range k).filterMap λ(m:Nat)=>xs[((i:Int)+(m:Int)*1).toNat]?).toArray=((xs.toList.drop i).take k).toArray:=by
 have e:(λ(m:Nat)=>xs[((i:Int)+(m:Int)*1).toNat]?)=λm=>xs[i+m]? :=by
  funext m
  have:((i:Int)+(m:Int)*1).toNat=i+m:=⋯
  rw [this]
 rw [e];have:=pick_run xs i k;rw [List.filterMap_map] at this;have g:((λx=>xs[x]?)∘λx=>i+x)=λm=>xs[i+m]? :=rfl;rw [g] at this;rw [this]
def getItem_tuple_cut {t sl:Addr} {items:Array Value} {z y:Value} {lo g:Option Int} {Q:Value->Shared->Prop} (ht:IsTup s.heap t items) (C:s.heap.IsSliceOf sl z y .none) (pl:IsPart z lo) (pu:IsPart y g)
 (hw:¬(sIx items.size 0 lo=0/\sIx items.size items.size g=items.size))
 (h:Q (.ref s.heap.objs.size) {s with heap:=s.heap.push {cls:= .type "tuple",data:= .seq ((items.toList.drop (sIx items.size 0 lo)).take (sIx items.size items.size g - sIx items.size 0 lo)).toArray}})
 (M:items.size<=sizeLine):wpAny (model prog w) A (getItem (.ref t) (.ref sl)) Q E s:=by
 have p:sizeOk (.seq ((items.toList.drop (sIx items.size 0 lo)).take (sIx items.size items.size g - sIx items.size 0 lo)).toArray):=by
  show ((items.toList.drop (sIx items.size 0 lo)).take (sIx items.size items.size g - sIx items.size 0 lo)).toArray.size<=sizeLine;rw [QI,TC,To,jao];omega
 have K:sIx items.size items.size g<=items.size:=sIx_le _ _ (Qu _) g;obtain ⟨os,D,r,L⟩:=id C;have u:s.TypeIs (.ref sl) "slice":=⟨os,D,r⟩;unfold getItem
 try with_reducible refine jaY ?_
 first|refine Qg (Qo ?_)|skip
 refine Qg (wpAny_sequenceKey ht.typeIs nofun ?_)
 refine Qg (Tr (name:=Str.ofString "__getitem__") ht.typeIs PyProof.Rows.slot_tuple_getitem
  (TX PyProof.Rows.slot_tuple_getitem ht.typeIs entry_tuple_getitem ?_ (args_tuple_getitem _ _)))
 show wpAny _ _ (Builtin.Tuple.tupleItemsOf (.ref t)>>=_) _ _ s;refine Qg (tupleItemsOf_ ht ?_);refine Qg (wpAny_typeOf u ?_);rw [QJ nofun];refine Qg (du C pl pu ?_)
 have G:¬((((sIx items.size 0 lo:Nat):Int)==0 && (1:Int)==1 && (sIx items.size items.size g - sIx items.size 0 lo)==items.size)=true):=by
  intro q;rw [TF,TF] at q;have J:((sIx items.size 0 lo:Nat):Int)=0:=eq_of_beq q.1.1;have I:sIx items.size items.size g - sIx items.size 0 lo=items.size:=eq_of_beq q.2;exact hw ⟨⋯,⋯⟩
 show wpAny _ _ (if (((sIx items.size 0 lo:Nat):Int)==0 && (1:Int)==1 && (sIx items.size items.size g - sIx items.size 0 lo)==items.size)=true then _ else _) _ _ s;rw [QO G,FZ]
 first
  |exact Qg (m:=Builtin.Tuple.tupleExact _) (Ti (Qo ⟨_,rfl,Qo h⟩) p)
  |exact Qg (m:=Builtin.Tuple.tupleExact _) (Ti (Qg (Qo (Qo ⟨_,rfl,Qo h⟩))) p)
  |exact Qg (Qg (m:=Builtin.Tuple.tupleExact _) (Ti (Qo (Qo ⟨_,rfl,Qo h⟩)) p))
  |exact Qg (Qg (m:=Builtin.Tuple.tupleExact _) (Ti (Qo ⟨_,rfl,Qo h⟩) p))
end
end HT
namespace L2
open PySem PySem.Spec PyProof.Rows
abbrev TO:=St->Hp->(Option Int->Hp->Prop)->Prop
def PO (X:Cx) (e:Option Expr) (t:TO):Prop:=
 ∀(pins:Pn) (s:Shared) (σ:St) (H:Hp) (Q:Option Int->Hp->Prop),Inv X pins σ H s->t σ H Q->
  wpAny (model X.prog X.w) X.A (evalPart e X.env) (λu s'=>∃o H',Inv X pins σ H' s'/\IsPart u o/\Q o H') X.xe s
def Bi:TO:=λ_ H Q=>Q none H
def tPart (t:TE):TO:=λσ H Q=>t σ H λx H1=>∃i,x= .int i/\Q (some i) H1
def Xy {ns:List Int}:∀{us:List Value},xx (ns.map V.int) us->IntsAre us ns:=by
 induction ns with
 |nil=>intro us r;rw [jav] at r;cases r;exact .nil
 |cons n ns p=>
  intro us r;rw [Qp] at r
  cases r with
  |cons m g=>
   obtain ⟨t,e⟩:=m;subst e;exact .cons n t (p g)
section
variable {X:Cx} {e:Expr} {te:TE} {lo hi:Option Expr} {tl th:TO} {pos p2:Pos}
def po_none:PO X none Bi:=by
 intro pins s σ H Q I h;rw [evalPart_none];exact Qo ⟨none,H,I, .none,h⟩
def po_some (h:PE X e te):PO X (some e) (tPart te):=by
 intro pins s σ H Q I hw;rw [evalPart_some];refine thn (h pins s σ H _ I hw) λu s1 p=>?_;obtain ⟨x,H1,r,g,m⟩:=p;obtain ⟨i,rfl,q⟩:=m;obtain ⟨t,rfl⟩:=g;exact ⟨some i,H1,r, .int i t,q⟩
def SlR (X:Cx) (r:V->Option Int->Option Int->Hp->VK->Prop):Prop:=
 ∀(pins:Pn) (s:Shared) (σ:St) (H:Hp) (x:V) (v m g:Value) (lo hi:Option Int) (sl:Addr) (Q:VK),Inv X pins σ H s->Zx x v->s.heap.IsSliceOf sl m g .none->IsPart m lo->IsPart g hi->r x lo hi H Q->
  ∃T id,typeLookup (.type T) "__getitem__"=pure (some (.builtin id))/\s.TypeIs v T/\wpAny (model X.prog X.w) X.A (getItem v (.ref sl)) (EP X pins σ Q) X.xe s
def tSl (r:V->Option Int->Option Int->Hp->VK->Prop) (te:TE) (tl th:TO):TE:=λσ H Q=>te σ H λx H1=>tl σ H1 λl m=>th σ m λu g=>r x l u g Q
def pe_slice {r:V->Option Int->Option Int->Hp->VK->Prop} (hr:SlR X r) (he:PE X e te) (J:PO X lo tl) (G:PO X hi th):PE X (.Subscript e (.Slice lo hi none p2) pos) (tSl r te tl th):=by
 intro pins s σ H Q I h;refine Subscript_ (thn (he pins s σ H _ I h) λv s1 p=>?_);obtain ⟨x,H1,P,y,D⟩:=p;refine wpAny_Slice (thn (J pins s1 σ H1 _ P D) λm s2 ⟨l,U,O,pl,C⟩=>thn (G pins s2 σ U _ O C) λg s3 p=>?_);obtain ⟨u,t,N,pu,z⟩:=p;rw [evalPart_none];refine Qo ?_;have M:Inv X pins σ t {s3 with heap:=s3.heap.push {cls:= .type "slice",data:= .fields #[m,g, .none]}}:=N.kept (t':=s3.toks) λb Y q=>Qi _ q;obtain ⟨T,id,L,ht,K⟩:=hr pins {s3 with heap:=s3.heap.push {cls:= .type "slice",data:= .fields #[m,g, .none]}} σ t x v m g l u s3.heap.objs.size Q M y (Heap.IsSliceOf.new ..) pl pu z;show wpAny (model X.prog X.w) X.A (subscriptTail e (.Slice lo hi none p2) v (.ref s3.heap.objs.size)) (EP X pins σ Q) X.xe {s3 with heap:=s3.heap.push {cls:= .type "slice",data:= .fields #[m,g, .none]}};exact tail_any (ops:=[.ref s3.heap.objs.size,v]) ht L K (by with_unfolding_all rfl)
noncomputable def AV (xs:List V) (lo hi:Option Int):List V:=(xs.drop (HT.sIx xs.length 0 lo)).take (HT.sIx xs.length xs.length hi - HT.sIx xs.length 0 lo)
def ij (xs:List V) (lo hi:Option Int):(AV xs lo hi).length<=xs.length:=by
 unfold AV;rw [TC,To];omega
def rSlT (K:Frg):V->Option Int->Option Int->Hp->VK->Prop:=λx lo hi H Q=>∃a xs,x= .ref a/\SqT K H a xs/\
 ¬(HT.sIx xs.length 0 lo=0/\HT.sIx xs.length xs.length hi=xs.length)/\∀p,H p=none->Q (.ref p) (upd H p (.tup (AV xs lo hi)))
def sl_tup:SlR X (rSlT X.K):=by
 intro pins s σ H x v vl vu lo hi sl Q I rx hs pl pu h;obtain ⟨a,xs,rfl,g,hw,q⟩:=h;cases rx;obtain ⟨its,r,ht,hz⟩:=I.tuple g;have hlen:its.toArray.size=xs.length:=by rw [QI];exact r.length.symm
 refine ⟨"tuple",_,PyProof.Rows.slot_tuple_getitem.lookup,ht.typeIs,?_⟩;refine HT.getItem_tuple_cut ht hs pl pu (by rw [hlen];exact hw) ?_ (by rw [hlen];exact hz);rw [hlen];refine ⟨.ref s.heap.objs.size,_,I.laid (t':=s.toks) (o:= .tup (AV xs lo hi)) (λb m q=>Qi _ q) (Qu _) ?_,rfl,q _ (I.hok.fresh (Qu _))⟩;exact ⟨QL (ij xs lo hi) hz,_,(r.drop (HT.sIx xs.length 0 lo)).take (HT.sIx xs.length xs.length hi - HT.sIx xs.length 0 lo),IsTup.new _ _⟩
end
noncomputable def ixN (n:Nat) (i:Int):Option Nat:=if 0<=i then (if i<n then some i.toNat else none) else if -(n:Int)<=i then some (i+n).toNat else none
noncomputable def atI {α:Type} (xs:List α) (i:Int):Option α:=(ixN xs.length i).bind λj=>xs[j]?
def DH {n:Nat} {i:Int} {j:Nat} (h:ixN n i=some j):seqIndex? i n=some j/\j<n/\ -(n:Int)<=i/\i<n:=by
 unfold ixN at h
 by_cases h0:0<=i
 ·rw [QJ h0] at h
  by_cases g:i<n
  ·rw [QJ g] at h;have e:i.toNat=j:=QH h;exact ⟨by rw [seqIndex_of h0 g,e],⋯,⋯,g⟩
  ·rw [QO g] at h;cases h
 ·rw [QO h0] at h
  by_cases g: -(n:Int)<=i
  ·rw [QJ g] at h;have e:(i+n).toNat=j:=QH h;exact ⟨by rw [seqIndex_neg ⋯ g,e],⋯,g,⋯⟩
  ·rw [QO g] at h;cases h
def tF {α:Type} {xs:List α} {i:Int} {v:α} (h:atI xs i=some v):∃j,seqIndex? i xs.length=some j/\xs[j]? =some v/\j<xs.length/\ -(xs.length:Int)<=i/\i<xs.length:=by
 unfold atI at h
 cases e:ixN xs.length i with
 |none=>rw [e] at h;cases h
 |some j=>
  rw [e] at h;obtain ⟨q,p,m,g⟩:=DH e;exact ⟨j,q,h,p,m,g⟩
def yt {α:Type} {xs:List α} {j:Nat} {v:α} (h:xs[j]? =some v):atI xs (j:Int)=some v:=by
 have g:j<xs.length:=(Qd.mp h).1
 have e:ixN xs.length (j:Int)=some j:=by
  unfold ixN;rw [QJ ⋯,QJ ⋯];simp
 unfold atI;rw [e];exact h
def vk {α:Type} (xs:List α) (v:α):atI (xs++[v]) (-1)=some v:=by
 have g:(xs++[v]).length=xs.length+1:=by simp
 have e:ixN (xs++[v]).length (-1)=some xs.length:=by
  unfold ixN;rw [g,QO nofun,QJ ⋯]
  congr 1
  omega
 unfold atI;rw [e];show (xs++[v])[xs.length]? =some v
 simp
def Li (b:Expr):Prop:=∀o i,subscripted b false o i=operate [o,i] (getItem o i)
def IxR (X:Cx) (r:R2):Prop:=
 ∀(value slice:Expr) (pins:Pn) (s:Shared) (σ:St) (H:Hp) (x y:V) (v u:Value) (Q:VK),Inv X pins σ H s->Zx x v->Zx y u->r x y H Q->
  subscripted slice false v u=operate [v,u] (getItem v u)->wpAny (model X.prog X.w) X.A (subscriptTail value slice v u) (EP X pins σ Q) X.xe s
def MtR (X:Cx) (id:String) (r:V->List V->Hp->VK->Prop):Prop:=
 ∀(pins:Pn) (s:Shared) (σ:St) (H:Hp) (x:V) (xs:List V) (v:Value) (us:List Value) (Q:VK),Inv X pins σ H s->Zx x v->xx xs us->r x xs H Q->
  wpAny (model X.prog X.w) X.A (call (.builtin id) (v::us)) (EP X pins σ Q) X.xe s
section
variable {X:Cx} {a b:Expr} {ta tb:TE} {pos:Pos}
def IxR.or {r g:R2} (h:IxR X r) (h':IxR X g):IxR X (λx y H Q=>r x y H Q\/g x y H Q):=by
 intro value slice pins s σ H x y v u Q I rx ry q hs
 rcases q with q|q
 ·exact h value slice pins s σ H x y v u Q I rx ry q hs
 ·exact h' value slice pins s σ H x y v u Q I rx ry q hs
def pe_ix {r:R2} (hr:IxR X r) (ha:PE X a ta) (t:PE X b tb) (p:Li b):PE X (.Subscript a b pos) (tOp r ta tb):=by
 intro pins s σ H Q I h;exact Subscript_ (binT ha t I h λv u s2 x y z w m g q=>hr a b pins s2 σ z x y v u Q w m g q (p _ _))
def rIxL (K:Frg):R2:=λx y H Q=>∃p xs i v,x= .ref p/\y= .int i/\SqL K H p xs/\atI xs i=some v/\Q v H
def rIxT (K:Frg):R2:=λx y H Q=>∃p xs i v,x= .ref p/\y= .int i/\SqT K H p xs/\atI xs i=some v/\Q v H
def rIxS:R2:=λx y H Q=>∃z i c,x= .str z/\y= .int i/\z.length<=sizeLine/\atI z.cps.toList i=some c/\Q (.str ⟨#[c]⟩) H
def KD:IxR X (rIxL X.K):=by
 intro value slice pins s σ H x y v u Q I rx ry h hs;obtain ⟨p,xs,i,z,rfl,rfl,C,he,q⟩:=h;cases rx;obtain ⟨t,rfl⟩:=ry;obtain ⟨its,r,pl,hz⟩:=I.list C;obtain ⟨j,g,L,N,J,G⟩:=tF he;obtain ⟨w,A,M⟩:=r.get L;have D:=r.length;have hn:=pY;have fin:EP X pins σ Q w s:=⟨z,H,I,M,q⟩
 by_cases h0:0<=i
 ·have m:i.toNat=j:=by
   rw [seqIndex_of h0 G] at g;exact QH g
  exact item_listR pl.isList h0 ⋯ (by rw [m];simpa using A) fin hs
 ·have m:(i+(its.toArray.size:Int)).toNat=j:=by
   rw [seqIndex_neg ⋯ J] at g;rw [QI,<-D];exact QH g
  exact subscriptTail_builtinR (x:=w) pl.isList.typeIs slot_list_getitem.lookup
   (wpAny_getItem_list_neg (Q:=λr s'=>r=w/\EP X pins σ Q r s') pl.isList ⋯ (by rw [QI]<;>omega) ⋯ (by rw [m];simpa using A) ⟨rfl,fin⟩) hs
def ix_tup:IxR X (rIxT X.K):=by
 intro value slice pins s σ H x y v u Q I rx ry h hs;obtain ⟨p,xs,i,z,rfl,rfl,g,he,q⟩:=h;cases rx;obtain ⟨t,rfl⟩:=ry;obtain ⟨its,r,pl,hz⟩:=I.tuple g;obtain ⟨j,C,A,M,L,J⟩:=tF he;obtain ⟨w,D,G⟩:=r.get A;have m:=r.length;have hn:=pY;have fin:EP X pins σ Q w s:=⟨z,H,I,G,q⟩
 exact subscriptTail_builtinR (x:=w) pl.typeIs slot_tuple_getitem.lookup
  (getItem_tuple (j:=j) (Q:=λr s'=>r=w/\EP X pins σ Q r s') pl ⋯ ⋯ (by rw [QI,<-m];exact C) ‹D› ⟨rfl,fin⟩) hs
def ix_str:IxR X rIxS:=by
 intro value slice pins s σ H x y v u Q I rx ry h hs;obtain ⟨z,i,c,rfl,rfl,hz,he,q⟩:=h;obtain ⟨t,rfl⟩:=rx;obtain ⟨t',rfl⟩:=ry;obtain ⟨j,g,w,D,r,p⟩:=tF he;have m:z.cps.toList.length=z.length:=by simp [Str.length]
 rw [m] at g r p;have hn:=pY
 exact tail_any (typeIs_str s z t) slot_str_getitem.lookup (getItem_str (c:=c) (by
  have C:decide (i< -(2 ^ 63:Int))=false:=Th ⋯;have A:decide (i≥2 ^ 63)=false:=Th ⋯
  rw [C,A,Bool.or_false]) (by rw [g];simpa using w) ⟨.str ⟨#[c]⟩,H,I.tok _,⟨_,rfl⟩,q⟩) hs
def rIx (K:Frg):R2:=λx y H Q=>rIxL K x y H Q\/rIxT K x y H Q\/rIxS x y H Q
def ix_seq:IxR X (rIx X.K):=KD.or (ix_tup.or ix_str)
def wQ (its:List Value) (n j:Nat) (u:Value):Obj.mapSeq (·.setIfInBounds j u) {cls:= .type "list",data:= .seq its.toArray n}={cls:= .type "list",data:= .seq (its.set j u).toArray n}:=by
 simp [Obj.mapSeq]
def Inv.lst {pins:Pn} {σ:St} {H:Hp} {s:Shared} {p:Addr} {xs:List V} (I:Inv X pins σ H s) (h:H p=some (.lst xs)):
 ∃(its:List Value) (n:Nat),xx xs its/\s.heap.get? p=some {cls:= .type "list",data:= .seq its.toArray n}/\xs.length<=sizeLine:=by
 obtain ⟨z,its,n,r,e⟩:=I.hok p _ h;exact ⟨its,n,r,e,z⟩
def Inv.lstUpd {pins:Pn} {σ:St} {H:Hp} {s:Shared} {p:Addr} {xs ys:List V} {its its':List Value} {n g:Nat} {f:Obj->Obj} (I:Inv X pins σ H s) (h:H p=some (.lst xs))
 (m:s.heap.get? p=some {cls:= .type "list",data:= .seq its.toArray n}) (hf:f {cls:= .type "list",data:= .seq its.toArray n}={cls:= .type "list",data:= .seq its'.toArray g}) (r:xx ys its') (hz:ys.length<=sizeLine) (t:Nat):
 Inv X pins σ (upd H p (.lst ys)) {s with heap:=s.heap.update p f,toks:=t}:=by
 have e:(s.heap.update p f).get? p=some {cls:= .type "list",data:= .seq its'.toArray g}:=by
  rw [jaJ f m (by rw [hf]<;>rfl),hf]
 refine I.write (x:=p) (e:=p) (by rw [h];trivial) (.inl rfl) (λb u w q=>(jbr _ _ (Ne.symm w)).trans q) ⟨_,e⟩ ?_;exact ⟨hz,its',g,r,e⟩
def rSetL:V->V->V->Hp->(Hp->Prop)->Prop:=λo i v H Q=>∃p xs k j,o= .ref p/\i= .int k/\H p=some (.lst xs)/\ixN xs.length k=some j/\Q (upd H p (.lst (xs.set j v)))
def set_list:PSet X rSetL:=by
 intro pins s σ H o i v ov iv u Q I ro ri rv h;obtain ⟨p,xs,k,j,rfl,rfl,hp,D,q⟩:=h;cases ro;obtain ⟨t,rfl⟩:=ri;obtain ⟨its,n,r,m,hz⟩:=I.lst hp;obtain ⟨g,G,A,z⟩:=DH D;have w:=r.length;have hn:=pY
 have C:Inv X pins σ (upd H p (.lst (xs.set j v))) {s with heap:=s.heap.update p (Obj.mapSeq (·.setIfInBounds j u))}:=
  I.lstUpd hp m (wQ its n j u) (r.set rv j) (by rw [jbW];exact hz) s.toks
 by_cases h0:0<=k
 ·have y:k.toNat=j:=by
   rw [seqIndex_of h0 z] at g;exact QH g
  exact PySem.W.ki_setAt m h0 ⋯ (by rw [QI,<-w];exact z) (by rw [y];exact ⟨_,C,q⟩)
 ·have y:(k+(its.toArray.size:Int)).toNat=j:=by
   rw [seqIndex_neg ⋯ A] at g;rw [QI,<-w];exact QH g
  exact PySem.W.ki_setBack m ⋯ (by rw [QI,<-w];exact A) ⋯ (by rw [y];exact ⟨_,C,q⟩)
def oC (lo g:Option Int) (n:Nat):(sliceBounds lo g none n).1=((HT.sIx n 0 lo:Nat):Int)/\(sliceBounds lo g none n).2.1=((HT.sIx n n g:Nat):Int)/\(sliceBounds lo g none n).2.2=1:=by
 refine ⟨?_,?_,rfl⟩
 ·cases lo with
  |none=>simp [sliceBounds,HT.sIx]
  |some i=>
   simp only [sliceBounds,HT.sIx,Option.getD_none,show (1:Int)>0 by decide,if_true]
   by_cases h:i<0
   ·simp only [h,if_true]<;>omega
   ·simp only [h,if_false]<;>omega
 ·cases g with
  |none=>simp [sliceBounds,HT.sIx]
  |some i=>
   simp only [sliceBounds,HT.sIx,Option.getD_none,show (1:Int)>0 by decide,if_true]
   by_cases h:i<0
   ·simp only [h,if_true]<;>omega
   ·simp only [h,if_false]<;>omega
def lL (its:List Value) (lo g:Option Int):slicePick its.toArray lo g none=((its.drop (HT.sIx its.length 0 lo)).take (HT.sIx its.length its.length g - HT.sIx its.length 0 lo)).toArray:=by
 obtain ⟨q,p,m⟩:=oC lo g its.toArray.size;unfold slicePick;rw [q,p,m];simp only [sliceRange_one,pick_run,QI]<;>rfl
def rSlL (K:Frg):V->Option Int->Option Int->Hp->VK->Prop:=λx lo g H Q=>∃a xs,x= .ref a/\SqL K H a xs/\∀p,H p=none->Q (.ref p) (upd H p (.lst (AV xs lo g)))
def sl_list:SlR X (rSlL X.K):=by
 intro pins s σ H x v vl vu lo hi sl Q I rx hs pl pu h;obtain ⟨a,xs,rfl,g,q⟩:=h;cases rx;obtain ⟨its,r,ht,hz⟩:=I.list g;have hlen:=r.length;refine ⟨"list",_,slot_list_getitem.lookup,ht.isList.typeIs,?_⟩;refine wpAny_getItem_list_slice ht.isList hs pl pu .none (by simp) ?_ (by rw [QI]<;>omega);rw [lL,<-hlen];refine ⟨.ref s.heap.objs.size,_,I.laid (t':=s.toks) (o:= .lst (AV xs lo hi)) (λb m q=>Qi _ q) (Qu _) ?_,rfl,q _ (I.hok.fresh (Qu _))⟩;exact ⟨QL (ij xs lo hi) hz,_,0,(r.drop (HT.sIx xs.length 0 lo)).take (HT.sIx xs.length xs.length hi - HT.sIx xs.length 0 lo),Qx _ rfl⟩
noncomputable def qf:V->Bool
 | .non=>true
 | .bl _=>true
 | .int _=>true
 | .str _=>true
 |_=>false
noncomputable def eqV:V->V->Bool
 | .non, .non=>true
 | .bl a, .bl b=>a==b
 | .bl a, .int b=>(if a then 1 else 0)==b
 | .int a, .bl b=>a==(if b then 1 else 0)
 | .int a, .int b=>a==b
 | .str a, .str b=>a==b
 |_,_=>false
def eqAt_V {A:Around} {s:Shared} {y x:V} {u v:Value} (m:Zx y u) (g:Zx x v) (q:qf y=true) (p:qf x=true):SeqAt.EqAt A s u v (eqV y x):=by
 cases y with
 |non=>
  cases m
  cases x with
  |non=>cases g;exact SeqAt.EqAt.same _
  |bl b=>cases g;exact SeqAt.EqAt.none_bool b
  |int b=>obtain ⟨t,rfl⟩:=g;exact SeqAt.EqAt.none_int b t
  |str b=>obtain ⟨t,rfl⟩:=g;exact SeqAt.EqAt.none_str b t
  |_=>exact absurd (show false=true from p) QA
 |bl a=>
  cases m
  cases x with
  |non=>cases g;exact SeqAt.EqAt.bool_none a
  |bl b=>cases g;exact SeqAt.EqAt.bool_bool a b
  |int b=>obtain ⟨t,rfl⟩:=g;exact SeqAt.EqAt.bool_int a b t
  |str b=>obtain ⟨t,rfl⟩:=g;exact SeqAt.EqAt.bool_str a b t
  |_=>exact absurd (show false=true from p) QA
 |int a=>
  obtain ⟨t',rfl⟩:=m
  cases x with
  |non=>cases g;exact SeqAt.EqAt.int_none a t'
  |bl b=>cases g;exact SeqAt.EqAt.int_bool a t' b
  |int b=>obtain ⟨t,rfl⟩:=g;exact SeqAt.EqAt.int_int a t' b t
  |str b=>obtain ⟨t,rfl⟩:=g;exact SeqAt.EqAt.int_str a t' b t
  |_=>exact absurd (show false=true from p) QA
 |str a=>
  obtain ⟨t',rfl⟩:=m
  cases x with
  |non=>cases g;exact SeqAt.EqAt.str_none a t'
  |bl b=>cases g;exact SeqAt.EqAt.str_bool a t' b
  |int b=>obtain ⟨t,rfl⟩:=g;exact SeqAt.EqAt.str_int a t' b t
  |str b=>obtain ⟨t,rfl⟩:=g;exact SeqAt.EqAt.str_str a t' b t
  |_=>exact absurd (show false=true from p) QA
 |_=>exact absurd (show false=true from q) QA
noncomputable def eqU (x:V) (u:Value):Bool:=match u with
 | .none=>eqV .non x
 | .bool b=>eqV (.bl b) x
 | .int i _=>eqV (.int i) x
 | .str z _=>eqV (.str z) x
 |_=>false
def IG {x y:V} {u:Value} (r:Zx y u) (f:qf y=true):eqU x u=eqV y x:=by
 cases y with
 |non=>cases r;rfl
 |bl b=>cases r;rfl
 |int i=>obtain ⟨t,rfl⟩:=r;rfl
 |str z=>obtain ⟨t,rfl⟩:=r;rfl
 |_=>exact absurd (show false=true from f) QA
theorem iE {x:V}:∀{xs:List V} {us:List Value},xx xs us->xs.all qf=true->us.any (eqU x)=xs.any λy=>eqV y x
 |_,_, .nil,_=>rfl
 |y::xs,u::us, .cons r t,f=>by
  rw [List.all_cons,TF] at f;rw [List.any_cons,List.any_cons,IG r f.1,iE t f.2]
theorem av {A:Around} {s:Shared} {x:V} {v:Value} (m:Zx x v) (p:qf x=true):∀{xs:List V} {us:List Value},xx xs us->xs.all qf=true->∀u∈us,SeqAt.EqAt A s u v (eqU x u)
 |_,_, .nil,_=>λu g=>by cases g
 |y::xs,u::us, .cons r t,f=>λq g=>by
  rw [List.all_cons,TF] at f
  rcases Ql.mp g with rfl|g
  ·rw [IG r f.1];exact eqAt_V r m f.1 p
  ·exact av m p t f.2 q g
noncomputable def inV (x:V) (xs:List V):Bool:=xs.any λy=>eqV y x
def rIn (K:Frg) (neg:Bool):R2:=λx y H Q=>∃p xs,y= .ref p/\(SqL K H p xs\/SqT K H p xs)/\qf x=true/\xs.all qf=true/\Q (.bl (if neg then !inV x xs else inV x xs)) H
def op_in_seq:OpR X (compareOp .In) (rIn X.K false):=by
 intro pins s σ H x y v u Q I rx ry h;obtain ⟨p,xs,rfl,g,m,fs,q⟩:=h;cases ry
 rcases g with g|g
 ·obtain ⟨its,r,pl,hz⟩:=I.list g;refine SeqAt.in_listAt (eqU x) pl.isList (λw hw=>av rx m r fs w ‹hw›) ⟨.bl _,H,I,rfl,?_⟩;rw [show its.toArray.any (eqU x)=its.any (eqU x) by simp,iE r fs];exact q
 ·obtain ⟨its,r,pl,hz⟩:=I.tuple g;refine SeqAt.in_tupleAt (eqU x) pl (λw hw=>av rx m r fs w ‹hw›) ⟨.bl _,H,I,rfl,?_⟩;rw [show its.toArray.any (eqU x)=its.any (eqU x) by simp,iE r fs];exact q
def Iu:OpR X (compareOp .NotIn) (rIn X.K true):=by
 intro pins s σ H x y v u Q I rx ry h;obtain ⟨p,xs,rfl,g,m,fs,q⟩:=h;cases ry
 rcases g with g|g
 ·obtain ⟨its,r,pl,hz⟩:=I.list g;refine SeqAt.notIn_listAt (eqU x) pl.isList (λw hw=>av rx m r fs w ‹hw›) ⟨.bl _,H,I,rfl,?_⟩;rw [show its.toArray.any (eqU x)=its.any (eqU x) by simp,iE r fs];exact q
 ·obtain ⟨its,r,pl,hz⟩:=I.tuple g;refine SeqAt.notIn_tupleAt (eqU x) pl (λw hw=>av rx m r fs w ‹hw›) ⟨.bl _,H,I,rfl,?_⟩;rw [show its.toArray.any (eqU x)=its.any (eqU x) by simp,iE r fs];exact q
def qm:Wt X (.builtin "len") (λxs H Q=>∃p ys,xs=[.ref p]/\(SqL X.K H p ys\/SqT X.K H p ys)/\Q (.int ys.length) H):=by
 intro pins s σ H xs us Q I r h;obtain ⟨p,ys,rfl,g,q⟩:=h;obtain ⟨u,rfl,t⟩:=UK r;cases t;have hn:=pY
 rcases g with g|g
 ·obtain ⟨its,m,pl,hz⟩:=I.list g;have hlen:=m.length;exact Calls.call_len_list pl.isList (by simp only [QI]<;>omega) ⟨.int ys.length,H,I.tok _,⟨s.toks+1,by rw [QI,hlen]⟩,q⟩
 ·obtain ⟨its,m,pl,hz⟩:=I.tuple g;have hlen:=m.length;exact len_tuple pl (by simp only [QI]<;>omega) ⟨.int ys.length,H,I.tok _,⟨s.toks+1,by rw [QI,hlen]⟩,q⟩
def qk:Wt X (.type "list") (λxs H Q=>∃p ys,xs=[.ref p]/\(SqL X.K H p ys\/SqT X.K H p ys)/\∀l,H l=none->Q (.ref l) (upd H l (.lst ys))):=by
 intro pins s σ H xs us Q I r h;obtain ⟨p,ys,rfl,t,q⟩:=h;obtain ⟨u,rfl,C⟩:=UK r;cases C
 have fin:∀(its:List Value),xx ys its->ys.length<=sizeLine->∀(h':Heap) (m:Nat),(∀b A,s.heap.get? b=some A->h'.get? b=some A)->
  h'.get? s.heap.objs.size=some {cls:= .type "list",dict:=none,data:= .seq its.toArray m,slots:=#[]}->EP X pins σ Q (.ref s.heap.objs.size) {s with heap:=h'}:=λits g hz h' m kp e=>
  ⟨.ref s.heap.objs.size,_,I.laid (t':=s.toks) kp (Qu _) (show Yp X.prog X.w _ h' _ (.lst ys) from ⟨hz,its,m,g,e⟩),rfl,q _ (I.hok.fresh (Qu _))⟩
 rcases t with t|t
 ·obtain ⟨its,g,pl,hz⟩:=I.list t;have hlen:=g.length;obtain ⟨o,y,z,n,hd⟩:=pl.isList;exact call_list_seq p (.inl rfl) y z hd (λh' m kp e=>fin its g hz h' m kp e) (by simp only [QI]<;>omega)
 ·obtain ⟨its,g,pl,hz⟩:=I.tuple t;have hlen:=g.length;obtain ⟨o,y,z,n,hd⟩:=pl;exact call_list_seq p (.inr rfl) y z hd (λh' m kp e=>fin its g hz h' m kp e) (by simp only [QI]<;>omega)
def nC:Wt X (.type "tuple") (λxs H Q=>∃p ys,xs=[.ref p]/\((SqL X.K H p ys/\∀l,H l=none->Q (.ref l) (upd H l (.tup ys)))\/(SqT X.K H p ys/\Q (.ref p) H))):=by
 intro pins s σ H xs us Q I r h;obtain ⟨p,ys,rfl,h⟩:=h;obtain ⟨u,rfl,y⟩:=UK r;cases y
 rcases h with ⟨m,q⟩|⟨m,q⟩
 ·obtain ⟨its,g,pl,hz⟩:=I.list m;have hlen:=g.length;refine call_tuple_list pl.isList (λh' kp=>?_) (by simp only [QI]<;>omega);have t:Inv X pins σ H {s with heap:=h'}:=I.kept (t':=s.toks) kp
  have z:Inv X pins σ (upd H h'.objs.size (.tup ys)) {s with heap:=h'.push {cls:= .type "tuple",data:= .seq its.toArray}}:=
   t.laid (t':=s.toks) (λb o e=>Qi _ e) (Qu _) (show Yp X.prog X.w _ _ _ (.tup ys) from ⟨hz,its,g,IsTup.new _ _⟩)
  exact ⟨.ref h'.objs.size,_,z,rfl,q _ (t.hok.fresh (Qu _))⟩
 ·obtain ⟨its,g,pl,hz⟩:=I.tuple m;exact call_tuple_same pl ⟨.ref p,H,I,rfl,q⟩
def tyV (K:Frg) (T:String) (x:V) (H:Hp):Prop:=match x with
 | .str _=>T="str"
 | .int _=>T="int"
 | .ref p=>(T="list"/\∃xs,SqL K H p xs)\/(T="tuple"/\∃o,K.lookup p=some o/\o.cls= .type "tuple"/\o.dict=none)\/
  (T="dict"/\((∃g,H p=some (.dK g))\/∃g,H p=some (.dT g)))\/(T="set"/\∃S n,H p=some (.set S n))
 |_=>False
def tyV_is {pins:Pn} {σ:St} {H:Hp} {s:Shared} {T:String} {x:V} {v:Value} (I:Inv X pins σ H s) (r:Zx x v) (ty:tyV X.K T x H):
 s.TypeIs v T/\∀a,v= .ref a->∃u,s.heap.get? a=some u/\u.dict=none:=by
 cases x with
 |str z=>
  obtain ⟨t,rfl⟩:=r;cases (show T="str" from ty);exact ⟨typeIs_str s z t,λ_ e=>nomatch e⟩
 |int i=>
  obtain ⟨t,rfl⟩:=r;cases (show T="int" from ty);exact ⟨typeIs_int s i t,λ_ e=>nomatch e⟩
 |ref p=>
  cases r
  rcases ty with ⟨rfl,xs,w⟩|⟨rfl,o,g,y,hd⟩|⟨rfl,g⟩|⟨rfl,S,n,g⟩
  ·obtain ⟨its,_,pl,_⟩:=I.list w;refine ⟨pl.isList.typeIs,λa e=>?_⟩;cases e;obtain ⟨o,n,e,c,hd,_⟩:=pl;exact ⟨o,e,hd⟩
  ·refine ⟨⟨o,I.kIn p o g,y⟩,λa e=>?_⟩;cases e;exact ⟨o,I.kIn _ o g,hd⟩
  ·have z:∃o,s.heap.get? p=some o/\o.ExactDict:=by
    rcases g with ⟨m,g⟩|⟨m,g⟩
    ·obtain ⟨_,_,_,_,o,_,_,e,ex,_⟩:=I.hok p _ g;exact ⟨o,e,ex⟩
    ·obtain ⟨_,_,_,_,o,_,_,e,ex,_⟩:=I.hok p _ g;exact ⟨o,e,ex⟩
   obtain ⟨o,e,ex⟩:=z;refine ⟨⟨o,e,ex.1⟩,λa q=>?_⟩;cases q;exact ⟨o,e,ex.2.1⟩
  ·obtain ⟨o,_,_,_,e,ex,_⟩:=I.hok p _ g;refine ⟨⟨o,e,ex.1⟩,λa q=>?_⟩;cases q;exact ⟨o,e,ex.2.1⟩
 |_=>exact False.elim ty
def tBM (K:Frg) (T:String) (r:V->List V->Hp->VK->Prop) (to:TE) (t:TA):TE:=λσ H Q=>to σ H λx H1=>tyV K T x H1/\t σ H1 λxs g=>r x xs g Q
variable {o e:Expr} {es:List Expr} {to:TE} {t:TA} {name:Str} {apos cpos:Pos} {T id:String} {r:V->List V->Hp->VK->Prop}
def pe_bm (pa:PlainAttrs T) (slot:Slot T name id) (m:typeOf (.builtin id)=pure (.type "method_descriptor")) (hm:MtR X id r) (C:PE X o to) (ha:PA X (e::es) t)
 (L:attributeBase o name X.env (eval o X.env)=eval o X.env:=by rfl)
 (g:((backTo cpos (starEach (e::es) X.env)).all (λx=>!x.1) && (backToKw cpos (keywordEach [] X.env)).all (λx=>x.1.isSome)
  && decide ((e::es).length+([]:List Keyword).length+(if ([]:List Keyword).isEmpty then 0 else 1)<30))=true:=by rfl)
 (M:(apos.endLine==cpos.line)=true:=by rfl) (A:starEach (e::es) X.env=(false,eval e X.env)::starEach es X.env:=by rfl) (N:(backTo cpos (starEach es X.env)).any (·.1)=false:=by rfl):
 PE X (.Call (.Attribute o name apos) (e::es) [] cpos) (tBM X.K T r to t):=by
 intro pins s σ H Q I h;refine wpAny_Call_method_late L g M rfl (thn (C pins s σ H _ I h) λv s1 D=>?_);obtain ⟨x,H1,u,p,ty,z⟩:=D;obtain ⟨J,G⟩:=tyV_is u p ty;refine ⟨T,id,pa,slot,m,J,G,?_⟩;have q:=ha cpos pins s1 σ H1 _ u z;rw [A] at q⊢;refine Calls.callWith_builtin (by show (false||(backTo cpos (starEach es X.env)).any (·.1))=false;rw [N]<;>rfl) (Calls.evalArgs_plain ?_);refine thn q ?_;rintro us s2 ⟨vs,P,O,w,y⟩;exact hm pins s2 σ P x vs v us Q O p w y
end
def MtM (X:Cx) (id:String) (r:V->List V->Hp->VK->Prop):Prop:=
 ∀(pins:Pn) (s:Shared) (σ:St) (H:Hp) (x:V) (xs:List V) (v:Value) (us:List Value) (Q:VK),Inv X pins σ H s->Zx x v->xx xs us->r x xs H Q->
  wpAny (model X.prog X.w) X.A (call (.builtin id) (v::us)) (EP X pins σ Q) X.xe s
def xx.one {x:V} {us:List Value} (h:xx [x] us):∃u,us=[u]/\Zx x u:=by
 cases h with
 |cons r t=>
  cases t;exact ⟨_,rfl,r⟩
theorem xx.zero:∀{us:List Value},xx [] us->us=[]
 |_, .nil=>rfl
theorem xx.rep {xs:List V} {us:List Value} (h:xx xs us):∀k:Nat,xx (List.replicate k xs).flatten (List.replicate k us).flatten
 |0=> .nil
 |k+1=>by
  rw [Tu,Tu,jaa,jaa];exact xx.append h (xx.rep h k)
theorem qd (its:List Value):∀(k:Nat) (acc:List Value),
 List.foldl (λm g=>m++g) acc.toArray (List.replicate k its.toArray)=(acc++(List.replicate k its).flatten).toArray
 |0,acc=>by simp
 |k+1,acc=>by
  have e:acc.toArray++its.toArray=(acc++its).toArray:=by simp
  have p:(acc++its)++(List.replicate k its).flatten=acc++(List.replicate (k+1) its).flatten:=by
   rw [Tu,jaa,jaf]
  rw [<-p,<-qd its k (acc++its),<-e,Tu,List.foldl_cons]
section
variable {X:Cx} {pins:Pn} {σ:St} {H:Hp} {s:Shared} {l b:Addr} {xs ys zs:List V}
def Inv.lset {its its':List Value} {n:Nat} {f:Array Value->Array Value} {t':Nat} (I:Inv X pins σ H s) (r:H l=some (.lst xs))
 (e:s.heap.get? l=some {cls:= .type "list",data:= .seq its.toArray n}) (hf:f its.toArray=its'.toArray) (g:xx ys its') (hz:ys.length<=sizeLine):
 Inv X pins σ (upd H l (.lst ys)) {s with heap:=s.heap.update l (Obj.mapSeq f),toks:=t'}:=by
 have q:=PySem.IsL.update e f;rw [hf] at q;refine I.write (x:=l) (e:=l) (by rw [r];exact trivial) (.inl rfl) (λt u p m=>(jbr s.heap (Obj.mapSeq f) (Ne.symm p)).trans m) ⟨_,q⟩ ?_;exact ⟨hz,its',_,g,q⟩
def Inv.lnew {its:List Value} {t':Nat} (I:Inv X pins σ H s) (g:xx ys its) (hz:ys.length<=sizeLine):
 Inv X pins σ (upd H s.heap.objs.size (.lst ys)) {s with heap:=s.heap.push {cls:= .type "list",data:= .seq its.toArray},toks:=t'}:=
 I.laid (λ_ _ q=>Qi _ q) (Qu _) ⟨hz,its,0,g,Qx _ rfl⟩
def Inv.fresh (I:Inv X pins σ H s):H s.heap.objs.size=none:=I.hok.fresh (Qu _)
def Inv.lstM (I:Inv X pins σ H s) (g:H l=some (.lst xs)):xs.length<=sizeLine/\∃(its:List Value) (n:Nat),xx xs its/\xs.length=its.length/\s.heap.get? l=some {cls:= .type "list",data:= .seq its.toArray n}:=by
 obtain ⟨z,its,n,r,e⟩:=I.hok l _ g;exact ⟨z,its,n,r,r.length,e⟩
def mK {n:Nat} (h:n<=sizeLine):Builtin.List.listTooLong n=false:=by
 unfold Builtin.List.listTooLong;exact Th ⋯
end
section
variable {X:Cx}
def Cz:V->List V->Hp->VK->Prop:=λx vs H Q=>∃l xs y,x= .ref l/\vs=[y]/\H l=some (.lst xs)/\xs.length<sizeLine/\Q .non (upd H l (.lst (xs++[y])))
def pT:MtM X "list.append" Cz:=by
 intro pins s σ H x vs v us Q I rx rv h;obtain ⟨l,xs,y,rfl,rfl,g,hz,q⟩:=h;cases rx;obtain ⟨u,rfl,ru⟩:=rv.one;obtain ⟨z,its,n,r,m,e⟩:=I.lstM g;refine call_meets F.slot_list_append ⟨_,e,rfl⟩ F.entry_list_append (F.args_list_append_2 _ _) (PySem.list_append l its.toArray n u (by rw [QI];omega)) ⟨e,?_⟩;refine ⟨.non,_,I.lset (its':=its++[u]) g e (by simp) (r.append (.cons ru .nil)) ?_,rfl,q⟩;rw [QB,TL];omega
def Cy:V->List V->Hp->VK->Prop:=λx vs H Q=>∃l b xs zs,x= .ref l/\vs=[.ref b]/\H l=some (.lst xs)/\H b=some (.lst zs)/\xs.length+zs.length<=sizeLine/\Q .non (upd H l (.lst (xs++zs)))
def mt_extend:MtM X "list.extend" Cy:=by
 intro pins s σ H x vs v us Q I rx rv h;obtain ⟨l,b,xs,zs,rfl,rfl,m,w,hz,q⟩:=h;cases rx;obtain ⟨u,rfl,ru⟩:=rv.one;cases ru;obtain ⟨z,its,n,r,D,e⟩:=I.lstM m;obtain ⟨z2,g,t,p,G,y⟩:=I.lstM w;have C:its.toArray.size+g.toArray.size<=sizeLine:=by rw [QI,QI];omega
 have A:¬(!its.toArray.isEmpty && Builtin.List.listTooLong (its.toArray.size+g.toArray.size))=true:=by
  rw [mK C,Bool.and_false];exact QA
 refine call_meets F.slot_list_extend ⟨_,e,rfl⟩ F.entry_list_extend (F.args_list_extend_2 _ _)
  (AutoSeq1.list_extend_list_list_0 l its.toArray n b g.toArray t A (by rw [QI];omega) ⋯) ⟨e,y,?_⟩
 refine ⟨.non,_,I.lset (its':=its++g) m e (by simp) (r.append p) ?_,rfl,q⟩;rw [QB];omega
def rCat:R2:=λx y H Q=>∃l b xs zs,x= .ref l/\y= .ref b/\H l=some (.lst xs)/\H b=some (.lst zs)/\xs.length+zs.length<=sizeLine/\∀p,H p=none->Q (.ref p) (upd H p (.lst (xs++zs)))
def op_cat:OpR X (binaryOp .Add) rCat:=by
 intro pins s σ H x y v u Q I rx ry h;obtain ⟨l,b,xs,zs,rfl,rfl,p,t,hz,q⟩:=h;cases rx;cases ry;obtain ⟨z,its,n,r,D,e⟩:=I.lstM p;obtain ⟨z2,g,C,m,G,A⟩:=I.lstM t;refine PySem.P.add_list e A ?_ (by rw [QI,QI];omega);have w:its.toArray++g.toArray=(its++g).toArray:=by simp
 rw [w];exact ⟨.ref _,_,I.lnew (t':=s.toks) (r.append m) (by rw [QB];omega),rfl,q _ I.fresh⟩
def rRep:R2:=λx y H Q=>∃l k xs,x= .ref l/\y= .int k/\H l=some (.lst xs)/\ -(2 ^ 63)<=k/\k<2 ^ 63/\xs.length*k.toNat<=sizeLine/\
 ∀p,H p=none->Q (.ref p) (upd H p (.lst (List.replicate k.toNat xs).flatten))
def Ky {α:Type} (xs:List α) (k:Nat):(List.replicate k xs).flatten.length=k*xs.length:=by
 induction k with
 |zero=>simp
 |succ k g=>rw [Tu,jaa,QB,g,Nat.succ_mul,Nat.add_comm]
def op_rep:OpR X (binaryOp .Mult) rRep:=by
 intro pins s σ H x y v u Q I rx ry h;obtain ⟨l,k,xs,rfl,rfl,G,K,J,hz,q⟩:=h;cases rx;obtain ⟨t,rfl⟩:=ry;obtain ⟨z,its,n,r,D,e⟩:=I.lstM G;have hlen:its.toArray.size*k.toNat<=sizeLine:=by rw [QI,<-D];exact hz
 have w:¬its.toArray.size*k.toNat>(2 ^ 63 - 1) / 8:=by
  have:(sizeLine:Nat)<=(2 ^ 63 - 1) / 8:=by decide
  omega
 have p:¬(!Builtin.List.listFitsIndex k)=true:=by
  rw [fitsIndex_both K J];exact QA
 have L:¬Builtin.List.listTooLong (its.toArray.size*k.toNat)=true:=by
  rw [mK hlen];exact QA
 have g:List.foldl (λC A=>C++A) #[] (List.replicate (if its.toArray.isEmpty=true then 0 else k.toNat) its.toArray)=(List.replicate k.toNat its).flatten.toArray:=by
  have f0:∀m:Nat,List.foldl (λC A=>C++A) #[] (List.replicate m its.toArray)=(List.replicate m its).flatten.toArray:=λm=>by
   have:=qd its m [];rw [jaK] at this;exact this
  rw [f0]
  cases its with
  |nil=>simp
  |cons a M=>rw [QO (by simp)]
 refine wpAny_binaryOp_repeat_ref (T:="list") (U:="int") nofun ⟨_,e,rfl⟩ (λs'=>typeIs_int s' k t) noFill_list_mul F.fills_int_mul F.slot_int_rmul repeat_list F.slot_int_index.lookup
  (call_meets F.slot_int_rmul (typeIs_int s k t) F.entry_int_rmul (F.args_int_rmul_2 _ _) (int___rmul___int_list k t l its.toArray n)
   ⟨e,rfl,⟨_,e,rfl⟩,call_meets F.slot_list_mul ⟨_,e,rfl⟩ F.entry_list_mul (F.args_list_mul_2 _ _) (AutoListH.list___mul___list_int_3 l its.toArray n k t p w L) ⟨e,?_⟩⟩)
 rw [g];exact ⟨.ref _,_,I.lnew (t':=s.toks) (r.rep k.toNat) (by rw [Ky,Nat.mul_comm];exact hz),rfl,q _ I.fresh⟩
end
section
variable {prog:Program} {w:World} {A:Around} {E:Value->Shared->Prop} {s:Shared}
set_option maxRecDepth 100000 in
end
section
variable {X:Cx}
end
end L2
namespace Att
open PySem PySem.W PySem.Calls PyProof.Rows
def gW {P:Params} {h:Heap}:∀(ns:List Int) (vs:List Value),WellAll P h vs (ns.map WData.int)->IntsAre vs ns:=by
 intro ns
 induction ns with
 |nil=>
  intro vs w;rw [jav] at w;cases w;exact .nil
 |cons n ns g=>
  intro vs w;rw [Qp] at w
  cases w with
  |cons a b=>
   cases a;exact .cons _ _ (g _ b)
def BC {l:OpenLaw} {n:Nat} (hn:l.most=some n) {P:Params} {h:Heap} {args:List WData} {vals:List Value}
 (u:l.row.toRowW.claim.pre args=true) (I:WellAll P h vals args):
 ∃a vs ns,vals=[Value.ref a]/\args=[WData.list (ns.map WData.int)]/\h.get? a=some {cls:= .type "list",data:= .seq vs.toArray}/\IntsAre vs ns/\ns.length<=n:=by
 have s:WShape.hasAll [] args [.list .int]=true:=(pre_splitW u).1;have t:l.pre.holds [] {args:=args}=true:=(pre_splitW u).2;obtain ⟨d,r,rfl,G,D⟩:=hasAllW_cons s;obtain rfl:=hasAllW_nil D;obtain ⟨xs,rfl,C⟩:=hasW_list G;obtain ⟨ns,rfl⟩:=items_int C
 have hlen:ns.length<=n:=by
  unfold OpenLaw.pre at t
  have p:(WTm.not (.lt (.lit (.int (n:Int))) (.len (.arg 0)))).holds [] {args:=[.list (ns.map .int)]}=true:=by
   have p:=(holds_andW t).1;rw [hn] at p;exact p
  have m:=condW_of p (w_not (w_lt w_lit (w_len_list (w_arg rfl))));rw [Qa] at m;refine Nat.le_of_not_lt λq=>?_;have z:(n:Int)<((ns.length:Nat):Int):=⋯
  first
   |(rw [QW z] at m;exact absurd m nofun)
   |(simp at m;omega)
 cases I with
 |cons y w=>
  cases w
  cases y with
  |list A g=>exact ⟨_,_,ns,rfl,rfl,A,gW ns _ g,hlen⟩
def CB (l:OpenLaw) (args:List WData):l.row.toRowW.claim.post args (.bool true) args=true:=
 postW_of (r:=l.row.toRowW) (X:=(true==true))
  (show WShape.has [] (.bool true) .bool=true by first|rfl|decide|simp [WShape.has,WShape.arms,WShape.armsAll])
  (show (WTm.eq .res (.lit (.bool true))).value [] {args:=args,res:=some (.bool true),after:=args}=some (.bool (true==true)) from w_eq_bool (w_res rfl) w_lit) rfl
def attach_call {l:OpenLaw} {n:Nat} {q:Program} {loose:List Str} {p:(Str->Option Value)->Heap->Prop} {m:World->Heap->Prop} {d:DefRec}
 (hn:l.most=some n) (C:d.params.defaults=[])
 (call:∀(w:World) (s₀ s₁:Shared) (mg g:Str->Option Value) (fa:Addr) (o:Obj) (pm cd doc:Value) (a:Addr) (vs:List Value) (ns:List Int),
  Ground q loose [] p w s₀ mg g s₁.heap->m w s₁.heap->
  s₁.heap.get? fa=some o->o.data= .func (docDef d.name d.params d.body d.scope pm cd doc)->s₁.heap.CodeRec cd d.name->mg d.name=some (.ref fa)->
  s₁.heap.get? a=some {cls:= .type "list",data:= .seq vs.toArray}->IntsAre vs ns->ns.length<=n->s₁.gens=#[]->
  codeAny (model l.prog w) callerA (.call (.ref fa) ⟨[.ref a],[]⟩) (λr s'=>r= .ok (.ret (.bool true))/\OldK s₁.heap s'.heap/\s'.os=s₁.os/\AllBare s'.gens) s₁):
 WalkO q loose p m l.row.toRowW d [] (λf vs=>PySem.call f vs):=by
 intro w s₀ s₁ mg g G Y fa o pm cd doc dV kV ho hd MI hD Nq hg args vals as Oz hlay hrd RS hlo;obtain rfl:dV= .none:=Dflts.none hD C;obtain rfl:kV= .none:=Dflts.noKw hD;obtain ⟨a,vs,ns,rfl,rfl,A,hints,hlen⟩:=BC hn Oz RS;refine enter_call (jcd (call w s₀ s₁ mg g fa o pm cd doc a vs ns G Y ho (fd_plain hd) MI Nq A hints hlen hg) λr s' t=>?_);obtain ⟨rfl,z,y,u⟩:=t;exact ⟨.inl ⟨.bool true, .bool true,[],rfl,λ_=>rfl, .bool true,CB l _,λ_=>⟨List.Pairwise.nil,λ_ hm=>(nomatch hm)⟩⟩,z,y,u⟩
section
variable {prog:Program} {w:World} {A:Around} {E:Value->Shared->Prop} {s:Shared} {K:Frag}
def ledger (h:Heap) (L d:Addr):List (Addr×Obj):=(List.range h.objs.size).filterMap λa=>if a=L\/a=d then none else (h.get? a).map λo=>(a,o)
end
end Att
namespace L2
open PySem PySem.Spec PyProof.Rows
theorem oh:∀{vs:List Value} {ns:List Int},IntsAre vs ns->xx (ns.map V.int) vs
 |_,_, .nil=> .nil
 |_,_, .cons n t h=> .cons ⟨t,rfl⟩ (oh h)
def Only (H:Hp):Prop:=∀b,H b=none\/∃o xs,H b=some (.frz o (.lst xs))
def He {P:Program} {w:World} {K:Frg} {mg G:Str->Option Value} {CX:CXT} {k:Nat} {fa a:Addr} {fd:FuncData} {x:Str} {sp:Sp} {s₁:Shared} {vs:List Value} {ns:List Int}
 (Z:K.In s₁.heap) (Y:s₁.heap.Ns mainGlobals mg) (p:s₁.heap.Ns builtinsNs G) (I:∀x:Str,x≠"__name__"->G x=bootBuiltins x) (A:s₁.heap.NoLimit) (hg:s₁.gens=#[])
 (ha:s₁.heap.get? a=some {cls:= .type "list",data:= .seq vs.toArray}) (O:IntsAre vs ns) (N:ns.length<=sizeLine) (hr:Room k callerA)
 (F:∀base:Heap,K.In base->base.Ns mainGlobals mg->FnOk P w K mg base CX k fa fd [x] sp) (Ry:∀(s:Shared) (u:Value),BindsTo s fd ⟨[u],[]⟩ [(x,u)])
 (OI:∀H:Hp,Only H->SqL K H a (ns.map V.int)->sp [.ref a] H (λv _=>v= .bl true) λ_ _ _=>False)
 (J:∀H e s',CX [] H s₁ (λ_ _ _=>False) e s'->False):
 codeAny (model P w) callerA (.call (.ref fa) ⟨[.ref a],[]⟩) (λr s'=>r= .ok (.ret (.bool true))/\OldK s₁.heap s'.heap/\s'.os=s₁.os/\AllBare s'.gens) s₁:=by
 have M:=oh O;have lenV:=O.length
 have core:∀H:Hp,Only H->SqL K H a (ns.map V.int)->HOk P w H s₁.heap->(∀b,H b≠none->b=a)->(H a≠none->K.lookup a=none)->
  codeAny (model P w) callerA (.call (.ref fa) ⟨[.ref a],[]⟩) (λr s'=>r= .ok (.ret (.bool true))/\OldK s₁.heap s'.heap/\s'.os=s₁.os/\AllBare s'.gens) s₁:=by
  intro H T hS hok U hK;have g:∀{b:Addr} {o:Obj},s₁.heap.get? b=some o->H b=none->(Hr s₁.heap H).get? b=some o:=λe n=>Hq e n
  have D:∀{b:Addr} {o:Obj} {es:Array DictEntry} {ep:Nat},s₁.heap.get? b=some o->o.data= .dict es ep->H b=none:=λ{b o es ep} e d=>by
   cases q:H b with
   |none=>rfl
   |some u=>
    have L:b=a:=U b (by rw [q];simp);subst L;rw [ha] at e;cases e;have d':Data.seq vs.toArray _=Data.dict es ep:=d;cases d'
  have t:∀{b:Addr} {m:Str->Option Value},s₁.heap.Ns b m->(Hr s₁.heap H).Ns b m:=λ{b m} ⟨o,es,ep,e,d,r⟩=>⟨o,es,ep,g e (D e d),d,r⟩
  have C:K.In (Hr s₁.heap H):=λb o e=>g (Z b o e) (by
   cases q:H b with
   |none=>rfl
   |some u=>
    have L:b=a:=U b (by rw [q];simp);subst L
    rw [hK (by rw [q];simp)] at e;cases e)
  have hM:Mod K mg (Hr s₁.heap H):=⟨C,t Y,⟨G,t p,I⟩,let ⟨mc,h1,h2⟩:=A;⟨mc,t h1,h2⟩⟩;have e0:Env0 P w K mg (Hr s₁.heap H) callerA [] s₁ H:=⟨rfl,hM,λb o e=>Ko e,Nat.le_of_eq (DM _ _),trivial,λb p=>absurd (show b∈([]:List Addr) from p) (by simp),hok, .of_eq hg⟩;refine jcd ((F _ C (t Y)).run callerA [] s₁ H ⟨[.ref a],[]⟩ [.ref a] [.ref a] _ _ hr e0 (Ry s₁ (.ref a)) (.cons rfl .nil) (OI H T hS)) λr s' h=>?_
  cases r with
  |error e=>exact (J H e s' h).elim
  |ok fl=>
   cases fl with
   |next=>exact False.elim h
   |brk=>exact False.elim h
   |cont=>exact False.elim h
   |ret u=>
    obtain ⟨v,H',os,bare,un,Oa,r',q⟩:=h;have q':v= .bl true:=q;subst q';obtain rfl:u=Value.bool true:=r';refine ⟨rfl,OldK.of_keep λb o e=>?_,os,bare⟩
    cases q:H b with
    |none=>exact un.keep b o e q (by intro z;exact absurd (show b∈([]:List Addr) from z) (by simp)) (by simp)
    |some u=>
     rcases T b with z|⟨ob,xs,z⟩
     ·rw [q] at z;cases z
     ·have z2:=un.frzs b ob _ z;obtain ⟨X,_⟩:=hok b _ z;obtain ⟨e2,_⟩:=Oa b _ z2;rw [e] at X;cases X;exact e2
 cases hk:K.lookup a with
 |some o=>
  have e:=Z a o hk;rw [ha] at e;cases e;refine core (λ_=>none) (λ_=> .inl rfl) (.inr ⟨_,vs.toArray,_,hk,rfl,rfl,rfl,by rw [QI,lenV];exact N,by simpa using M⟩) (λb u z=>by have y:(none:Option HO)=some u:=z;cases y) (λb z=>absurd rfl z) λz=>absurd rfl z
 |none=>
  refine core (λb=>if b=a then some (.frz {cls:= .type "list",data:= .seq vs.toArray} (.lst (ns.map V.int))) else none) (λb=>?_) (.inl (.inr ⟨{cls:= .type "list",data:= .seq vs.toArray},QJ rfl⟩)) (λb u z=>?_) (λb z=>?_) λ_=>hk
  ·by_cases p:b=a
   ·exact .inr ⟨_,_,QJ p⟩
   ·exact .inl (QO p)
  ·by_cases p:b=a
   ·have y:=(QJ p).symm.trans z;cases y;subst p;exact ⟨ha,by rw [Qa];exact N,vs,_,M,ha⟩
   ·have y:=(QO p).symm.trans z;cases y
  ·by_cases p:b=a
   ·exact p
   ·exact absurd (QO p) z
def Jj {l:PySem.W.OpenLaw} {n k:Nat} {q:Program} {loose:List Str} {D:(Str->Option Value)->Heap->Prop} {p:World->Heap->Prop} {d:DefRec} {K:Params->Frg} {CX:World->CXT} {sp:World->Sp} {x:Str}
 (hn:l.most=some n) (L:n<=sizeLine) (J:d.params.defaults=[]) (hr:Room k callerA)
 (y:∀(w:World) (h:Heap),p w h->(K w.params).In h)
 (F:∀(w:World) (mg:Str->Option Value) (fa:Addr) (h:Heap),(K w.params).In h->h.Ns mainGlobals mg->mg d.name=some (.ref fa)->
  ∃fd:FuncData,(∀(s:Shared) (u:Value),BindsTo s fd ⟨[u],[]⟩ [(x,u)])/\
   ∀base:Heap,(K w.params).In base->base.Ns mainGlobals mg->FnOk l.prog w (K w.params) mg base (CX w) k fa fd [x] (sp w))
 (I:∀(w:World) (H:Hp) (a:Addr) (ns:List Int),ns.length<=n->Only H->SqL (K w.params) H a (ns.map V.int)->sp w [.ref a] H (λv _=>v= .bl true) λ_ _ _=>False)
 (m:∀(w:World) (H:Hp) (s:Shared) (e:Value) (s':Shared),CX w [] H s (λ_ _ _=>False) e s'->False):
 PySem.W.WalkO q loose D p l.row.toRowW d [] (λf vs=>PySem.call f vs):=by
 refine Att.attach_call hn J λw s₀ s₁ mg mb fa o pm cd doc a vs ns G Y ho hd MI Nq OY hints hlen hg=>?_;have r:=y w _ Y;obtain ⟨fd,t,C⟩:=F w mg fa _ r G.T.g Nq;exact He r G.T.g G.T.b G.T.builtins G.T.nolimit hg OY hints (QL hlen L) hr C t (λH A z=>I w H a ns hlen A z) λH e s'=>m w H s₁ e s'
noncomputable def xP (s:Stmt) (j:Nat):Stmt:=match s with
 | .ClassDef _ _ _ body _ _ _ _ _ _ _=>body.getD j (.Pass ⟨0,0,0,0⟩)
 |_=> .Pass ⟨0,0,0,0⟩
noncomputable def Yc (s:Stmt):Arguments:=match s with
 | .FunctionDef _ a _ _ _ _ _ _ _ _=>a
 |_=>{posonlyargs:=[],args:=[],vararg:=none,kwonlyargs:=[],kw_defaults:=[],kwarg:=none,defaults:=[]}
noncomputable def Zu (s:Stmt):List Stmt:=match s with
 | .FunctionDef _ _ b _ _ _ _ _ _ _=>b
 |_=>[]
noncomputable def zk (s:Stmt):Scope:=match s with
 | .FunctionDef _ _ _ _ _ _ sc _ _ _=>sc
 |_=>{kind:= .function,names:=[],isGenerator:=false,isCoroutine:=false}
abbrev CX0:CXT:=λ_ _ _ _ _ _=>False
abbrev E0:XK:=λ_ _ _=>False
def pass0 {X:Cx}:Vu CX0 X E0:=λ_ _ _ _ _ _ _ h=>h.elim
structure Fun (K:Frg) (x qual:Str) (st:Stmt) (f:Addr) (fd:FuncData):Prop where
 ex:∃(oc:Value) (od:Option Addr) (kV doc pm:Value) (an:Option Addr) (MH ct:Value) (osl:Array (Option Value)),
  fd=PySem.W.fnOf x qual (Yc st) (Zu st) (zk st) .none kV doc pm an MH ct/\K.lookup f=some ⟨oc,od, .func fd,osl⟩/\PySem.W.codeIn K MH qual=true
 kp:PySem.W.keepIn K (.ref f)=true
section
variable {P:Program} {w:World} {K:Frg} {mg:Str->Option Value} {base:Heap}
def Fun.ok {x qual:Str} {st:Stmt} {f:Addr} {fd:FuncData} {N ps:List Str} {k:Nat} {sp:Sp} (F:Fun K x qual st f fd) (S:FnScope N ps (zk st)) (len:∀vs H Q E,sp vs H Q E->vs.length=ps.length)
 (r:∀(g:Value) (A:Around) (outer:List Env) (s:Shared) (H:Hp) (vs:List V) (Q:VK) (E:XK),Room k (A.deeper (envOfC qual (zk st) s.heap.objs.size f g))->sp vs H Q E->
  ∃t,PSs (IJ CX0 P w K mg base N qual (zk st) f g A outer s H E).nox (Zu st) t/\t {nx:=λ_ H'=>Q .non H',rt:=Q} (lB N vs) H):FnOk P w K mg base CX0 (k+1) f fd ps sp:=by
 obtain ⟨z,y,kV,doc,pm,an,g,ct,m,rfl,lk,u⟩:=F.ex;refine fn_of lk u S len λA outer s H vs Q E hr p=>?_;obtain ⟨t,h,q⟩:=r g A outer s H vs Q E hr p;exact ⟨t,h.nox,q⟩
def Fun.binds {x qual:Str} {st:Stmt} {f:Addr} {fd:FuncData} {ps:List Str} (F:Fun K x qual st f fd)
 (h:∀(kV doc pm:Value) (an:Option Addr) (g ct:Value) (us:List Value),us.length=ps.length->bindArgs (PySem.W.fnOf x qual (Yc st) (Zu st) (zk st) .none kV doc pm an g ct) ⟨us,[]⟩=pure (ps.zip us)):yG K fd ps []:=by
 obtain ⟨q,p,kV,doc,pm,an,g,ct,m,rfl,lk,r⟩:=F.ex;exact .all (h kV doc pm an g ct)
def qc {x qual:Str} {st:Stmt} {f:Addr} {q:Value} {p an:Option Addr} {g:Array (Option Value)} {kV doc pm m ct:Value} (l:K.lookup f=some ⟨q,p, .func (PySem.W.fnOf x qual (Yc st) (Zu st) (zk st) .none kV doc pm an m ct),g⟩)
 (c:PySem.W.codeIn K m qual=true) (k:PySem.W.keepIn K (.ref f)=true):Fun K x qual st f (PySem.W.fnOf x qual (Yc st) (Zu st) (zk st) .none kV doc pm an m ct):=⟨⟨q,p,kV,doc,pm,an,m,ct,g,rfl,l,c⟩,k⟩
end
def Xt {n:Nat} (h:n<=1000):n<sizeLine:=Nat.lt_of_le_of_lt h nofun
section
variable {X:Cx}
def pv (i:Nat) {x:Str} {pos:Pos} (m:X.N[i]? =some x:=by rfl) (g:Vis X.env.scope x:=by walk_at "v") (hd:(x==("__debug__":Str))=false:=by decide)
 (p:(x==("__classdict__":Str))=false:=by decide):PE X (.Name x pos) (tVar i):=pe_var m g hd p
end
def iteF {A B:Prop} (h:B):if false=true then A else B:=by
 rw [QO QA];exact h
def iteT {A B:Prop} (h:A):if true=true then A else B:=by
 rw [QJ rfl];exact h
def Ai {c A B:Prop} [Decidable c] (g:c) (h:B):if (!decide c)=true then A else B:=by
 rw [QW g];exact iteF h
def zP (H H':Hp):Prop:=∀b o,H b=some o->H' b=some o
def zP.refl (H:Hp):zP H H:=λ_ _ h=>h
def zP.trans {H H1 g:Hp} (a:zP H H1) (b:zP H1 g):zP H g:=λc o h=>b c o (a c o h)
def zP.free {H H':Hp} (e:zP H H') {l:Addr} (h:H' l=Option.none):H l=Option.none:=by
 cases q:H l with
 |none=>rfl
 |some o=>
  rw [e l o q] at h;cases h
def zP.seq {K:Frg} {H H':Hp} {a:Addr} {xs:List V} (e:zP H H') (h:SqL K H a xs):SqL K H' a xs:=by
 rcases h with (h|⟨o,h⟩)|h
 ·exact .inl (.inl (e _ _ h))
 ·exact .inl (.inr ⟨o,e _ _ h⟩)
 ·exact .inr h
end L2
namespace L2
open PySem PySem.W PySem.Spec PySem.Calls PyProof.Rows
section
variable {X:Cx} {e v1 v2:Expr} {es rest:List Expr} {te:TE} {pos p2:Pos}
theorem qT:∀{ys:List Str} {us:List Value},xx (ys.map V.str) us->∃l,us=strValues l/\l.map (·.1)=ys
 |[],us,r=>by
  rw [jav] at r;cases r;exact ⟨[],rfl,rfl⟩
 |y::ys,us,r=>by
  rw [Qp] at r
  cases r with
  |cons m g=>
   obtain ⟨t,rfl⟩:=m;obtain ⟨l,rfl,h⟩:=qT g;exact ⟨(y,t)::l,rfl,by rw [Qp,h]⟩
def rJoin (K:Frg):V->List V->Hp->VK->Prop:=λx xs H Q=>∃sep p ys,x= .str sep/\xs=[.ref p]/\SqL K H p (ys.map V.str)/\JoinOk sep ys=true/\Q (.str (Txt.join sep ys)) H
def mt_join:MtR X "str.join" (rJoin X.K):=by
 intro pins s σ H x xs v us Q I rx r h;obtain ⟨sep,p,ys,rfl,rfl,w,hok,q⟩:=h;obtain ⟨t,rfl⟩:=(show ∃t,v=Value.str sep t from rx);obtain ⟨u,rfl,m⟩:=UK r;cases (show u=Value.ref p from m);obtain ⟨its,g,pl,_⟩:=I.list w;obtain ⟨l,rfl,y⟩:=qT g;exact SC.join pl.isList y hok λt' k=>⟨.str (Txt.join sep ys),H,I.tok k,⟨_,rfl⟩,q⟩
def pe_ccall      (G:Gl X c) (hm:X.mg c=some (.ref C))
 (z:specialIn X.K (.ref C) "__getattribute__"=some (some (.builtin "type.__getattribute__"))) (g:readsIn X.K C (.type "type")=true) (hf:findCls X.K (.ref C) (.type "type") m=some (.val (.ref f)))
 (F:FnOk X.prog X.w X.K X.mg X.base CX k f fd ps sp) (hr:Room k X.A) (D:PySem.W.keepIn X.K (.ref f)=true) (J:yG X.K fd ps []) (y:Vu CX X E) (ha:PA X (e::es) t)
 (hd:(c==("__debug__":Str))=false:=by decide) (M:starEach (e::es) X.env=(false,eval e X.env)::starEach es X.env:=by rfl) (L:(backTo pos (starEach es X.env)).any (·.1)=false:=by rfl)
 (ht:eval (.Call (.Attribute (.Name c p) m apos) (e::es) [] pos) X.env=(do
  let ov<-eval (.Name c p) X.env
  standAt apos.atName
  let (f,first)<-holding [ov] (getMethod ov m pl)
  callWith pos f first (backTo pos (starEach (e::es) X.env)) (backToKw pos (keywordEach [] X.env))):=by rfl):
 PE X (.Call (.Attribute (.Name c p) m apos) (e::es) [] pos) (vR sp [] E t):=by
 intro pins s σ H Q I h;refine PySem.W.methodCall_KW (pl:=pl) (gR I G hm ?_ hd) ht;refine method_cls I.kIn z (cls_value I.kIn g hf rfl ?_);have N:=I.tok (s.toks+1);refine jbv (first:=[]) (h₀:=X.base) I.ok.mod.kin D (thn (ha pos pins _ σ H _ N h) ?_) M L;rintro us s2 ⟨vs,O,q,r,u⟩;refine ⟨q.kIn,?_⟩;exact oV (us:=us) (vs:=vs) F hr J .nil y q r u
def Ie (K:Frg) (m:Str) (f:Addr) (sp:Sp) (E:XK) (g:TE):TE:=λσ H Q=>g σ H λx H1=>∃a C p fs,x= .ref a/\H1 a=some (.ins C p fs)/\Cls K C/\Meth K C m f/\fs.lookup m=none/\sp [x] H1 Q E
def pe_methA      (he:PE X e te) (F:FnOk X.prog X.w X.K X.mg X.base CX k f fd ps sp) (hr:Room k X.A) (y:yG X.K fd ps []) (r:Vu CX X E)
 (ht:eval (.Call (.Attribute e m apos) [] [] pos) X.env=(do
  let ov<-eval e X.env
  standAt apos.atName
  let (f,first)<-holding [ov] (getMethod ov m pl)
  callWith pos f first (backTo pos (starEach [] X.env)) (backToKw pos (keywordEach [] X.env))):=by rfl):
 PE X (.Call (.Attribute e m apos) [] [] pos) (Ie X.K m f sp E te):=by
 intro pins s σ H Q I h;refine PySem.W.methodCall_KW (pl:=pl) (thn (he pins s σ H _ I h) λu s1 t=>?_) ht;obtain ⟨x,H1,g,p,a,C,D,fs,ex,z,c,k,l,q⟩:=t;subst ex;cases (show u=Value.ref a from p);refine bS g z c k l ?_;exact PySem.W.callWith_K0 (first:=[.ref a]) g.kIn k.kp (oV (us:=[.ref a]) (vs:=[.ref a]) F hr y .nil r g (.cons rfl .nil) q)
end
end L2
namespace L2
open PySem PySem.W PySem.Spec PySem.Calls PyProof.Rows Builtin
section
variable {X:Cx} {e:Expr} {te:TE} {tg:Expr}
def rSlS:V->Option Int->Option Int->Hp->VK->Prop:=λx lo g H Q=>∃z,x= .str z/\z.length<=sizeLine/\Q (.str (Txt.slice z lo g)) H
def sl_str:SlR X rSlS:=by
 intro pins s σ H x v vl vu lo hi sl Q I rx hs pl pu h;obtain ⟨z,rfl,hz,q⟩:=h;obtain ⟨t,rfl⟩:=(show ∃t,v=Value.str z t from rx);refine ⟨"str",_,F.slot_str_getitem.lookup,typeIs_str _ _ _,?_⟩;have fin:∀t' k,EP X pins σ Q (.str (Txt.slice z lo hi) t') {s with toks:=k}:=λt' k=>⟨.str (Txt.slice z lo hi),H,I.tok k,⟨_,rfl⟩,q⟩;have g:=QL (Txt.slice_le z lo hi) hz;cases pl<;>cases pu
 ·exact wpAny_getItem_str_slice (l:=none) (u:=none) (st:=none) hs rfl (post_val_or_str ⟨g,fin⟩)
 ·exact wpAny_getItem_str_slice (l:=none) (u:=some (_,_)) (st:=none) hs rfl (post_val_or_str ⟨g,fin⟩)
 ·exact wpAny_getItem_str_slice (l:=some (_,_)) (u:=none) (st:=none) hs rfl (post_val_or_str ⟨g,fin⟩)
 ·exact wpAny_getItem_str_slice (l:=some (_,_)) (u:=some (_,_)) (st:=none) hs rfl (post_val_or_str ⟨g,fin⟩)
noncomputable def Its (z:Str):It:=⟨λi _=>i<z.cps.size,λi H x H'=>H'=H/\∃c,z.cps[i]? =some c/\x= .str ⟨#[c]⟩,λi _=>z.cps.size<=i⟩
def Ft {P:Program} {w:World} {K:Frg} {tg:Expr} (z:Str) (t:Tok) (it:Addr):Turn P w K tg (Its z) [it] it (λi h=>h.IsStrIter it "str_ascii_iterator" z t i) where
 mem:=by simp
 obj:=λi h st b g=>by
  have e:b=it:=by simpa using g
  subst e;obtain ⟨o,e,c,d⟩:=st;exact ⟨o,e,λv z=>by rw [d] at z;cases z⟩
 keep:=λi h h' st k=>let ⟨o,y,r⟩:=st;⟨o,k it (by simp) o y,r⟩
 item:=by
  intro X hP hw hK hc i pins s σ H E I hf st hg;subst hP hw hK;have m:i<z.cps.size:=hg;obtain ⟨f0,f1,f2,q,f4,p⟩:=hf it (by simp);refine wpAny_pyNext_ascii_item st (c:=z.cps[i]) (by simp [m]) λh' u sb=>?_;have C:Inv X pins σ H {s with heap:=h',toks:=s.toks+1}:=I.turned (t':=s.toks+1) (λb o g e=>(sb.2 b g).trans e) f0 f1 q f4 p;obtain ⟨o,e,c,d⟩:=id u;exact ⟨_,rfl,DT (s:={s with heap:=h',toks:=s.toks+1}) e c d nofun ⟨.str ⟨#[z.cps[i]]⟩,H,C,⟨_,rfl⟩,⟨rfl,z.cps[i],by simp [m],rfl⟩,u,λb g=>(hf b g).1⟩⟩
 done:=by
  intro X hP hw hK hc i pins s σ H E I hf st hg;subst hP hw hK;have m:z.cps.size<=i:=hg;obtain ⟨f0,f1,f2,q,f4,p⟩:=hf it (by simp);exact wpAny_pyNext_ascii_end (I.ok.hd hc) st (by simp [m]) λh' A=>⟨rfl,I.turned (t':=s.toks) (λb o g e=>A b o g e) f0 f1 q f4 p⟩
 self:=λ_ _ _ _ _ st h=>wpAny_pyIter_striter_ascii st h
def iStr (g:TE):TI:=λσ H R=>g σ H λx H1=>∃z,x= .str z/\z.cps.all (·<128)=true/\R (Its z) H1
def pi_str (r:PE X e te):PI X tg e (iStr te):=by
 intro pins s σ H R I h;refine thn (r pins s σ H _ I h) λv s1 u=>?_;obtain ⟨x,H1,g,m,p⟩:=u;obtain ⟨z,ex,ha,q⟩:=p;subst ex;obtain ⟨t,rfl⟩:=(show ∃t,v=Value.str z t from m);refine wpAny_pyIter_ascii ha ?_;refine ⟨s1.heap.objs.size,[s1.heap.objs.size],_,_,H1,rfl,g.kept (t':=s1.toks) λb o e=>Qi _ e,Ft z t _,⟨_,Qx _ rfl,rfl,rfl⟩,λb w=>?_,q⟩;have e:b=s1.heap.objs.size:=by simpa using w
 subst e;exact g.fpOk (Qu _) (g.hok.fresh (Qu _))
def JR (K:Frg):V->List V->Hp->VK->Prop:=λx xs H Q=>∃(p:Addr) (ys:List Str) (z:Str) (j:Nat),x= .ref p/\xs=[.str z]/\SqT K H p (ys.map V.str)/\ys[j]? =some z/\(∀m,m<j->ys[m]? ≠some z)/\Q (.int (j:Nat)) H
def sH {prog:Program} {w:World} {A:Around} {E:Value->Shared->Prop} {z:Str} {t:Tok} {l:List (Str×Tok)} {j:Nat} {R:Option PySem.Fin×Unit->Shared->Prop} {f:Nat->Option PySem.Fin×Unit->Sem (ForInStep (Option PySem.Fin×Unit))} (p:(l.map (·.1))[j]? =some z) (G:∀m,m<j->(l.map (·.1))[m]? ≠some z)
 (hf:∀(i:Nat) (g:i<l.length) (st:Option PySem.Fin×Unit),f i st=(do
  let b<-eqBool (.str l[i].1 l[i].2) (.str z t)
  if b=true then do
   let r<-retInt (i:Nat)
   pure (ForInStep.done (some r,()))
   else pure (ForInStep.yield (none,())))):
 ∀(k i:Nat) (s:Shared),i+k=l.length->i<=j->(∀tk,R (some (.done (.ret (.int (j:Nat) s.toks))),()) {s with toks:=tk})->wpAny (model prog w) A (forIn (List.range' i k) ((none,()):Option PySem.Fin×Unit) f) R E s:=by
 intro k
 induction k with
 |zero=>
  intro i s C y _;have:=(Qd.mp p).1;rw [Qa] at this;omega
 |succ k u=>
  intro i s C y q;have g:i<l.length:=⋯
  rw [List.range'_succ,List.forIn_cons,hf i g];refine Qg (Qg (PyProof.Rows.eqBool_str ?_))
  by_cases D:i=j
  ·subst D
   have ez:l[i].1=z:=by
    rw [Qh,Qb g] at p;exact QH p
   rw [QJ (by rw [ez];exact beq_self_eq_true z)]
   wp_walk
   exact q _
  ·have I:(l[i].1==z)=false:=by
    refine jaE.mpr λez=>G i ⋯ ?_;rw [Qh,Qb g];exact congrArg some ez
   rw [QO (by rw [I];exact QA)];refine Qo ?_;exact u (i+1) s ⋯ ⋯ q
def mt_indexT:MtR X "tuple.index" (JR X.K):=by
 intro pins s σ H x xs v us Q I rx r h;obtain ⟨p,ys,z,j,rfl,rfl,A,C,N,q⟩:=h;cases (show v=Value.ref p from rx);obtain ⟨u,rfl,y⟩:=UK r;obtain ⟨t,rfl⟩:=(show ∃t,u=Value.str z t from y);obtain ⟨its,w,ht,hz⟩:=I.tuple A;obtain ⟨l,rfl,g⟩:=qT w;have m:s.heap.IsTuple p (strValues l).toArray:=ht;refine wpAny_call (codeAny_call_builtin PySem.F.slot_tuple_index.plain PySem.F.entry_tuple_index (PySem.F.slot_tuple_index.check _ _ _ _ _ _ _ _ m.typeIs (PySem.F.args_tuple_index_2 _ _) ?_));unfold Builtin.«tuple.index»;obtain ⟨o,J,O,n,G⟩:=id m
 wp_walk using jbk J
 rw [G];refine Qo (Qo ?_);dsimp only;refine Qg (Qo (Qg (Qo ?_)));refine Qg ?_;rw [Std.Legacy.Range.forIn_eq_forIn_range',TM];have M:(strValues l).toArray.size=l.length:=by simp [strValues]
 have L:List.range' 0 (Std.Legacy.Range.size [:(strValues l).toArray.size]) 1=List.range' 0 l.length:=by rw [M];simp [Std.Legacy.Range.size]
 show wpAny _ _ (forIn (List.range' 0 (Std.Legacy.Range.size [:(strValues l).toArray.size]) 1) _ _) _ _ _;rw [L]
 refine sH (l:=l) (j:=j) (z:=z) (t:=t) (by rw [g];exact C) (by rw [g];exact N) (λi D st=>by
  have e:(strValues l).toArray[i]? =some (.str l[i].1 l[i].2):=by simp [strValues,D]
  rw [e]) l.length 0 _ ⋯ (TR _) λtk=>?_
 exact Qo ⟨.int (j:Nat),H,I.tok tk,⟨_,rfl⟩,q⟩
end
end L2
namespace S
open PySem PySem.Spec PyProof.Rows L2
def Sz (n:Nat) (x:Int):Prop:=x.natAbs<2 ^ n
def Sz.mono  (h:Sz m x) (l:m<=n):Sz n x:=QZ h (Nat.pow_le_pow_right nofun l)
def Sz.bits  (h:Sz n x):Builtin.Int.intBits x<=n:=intBits_le_iff.mpr h
def Sz.of  (h:Builtin.Int.intBits x<=n):Sz n x:=intBits_le_iff.mp h
def Sz.mulOk  (h:Sz m x) (g:Sz n y) (l:m+n<=134217728):IntMulOk x y:=IntMulOk.of_le h.bits g.bits l
def Sz.mul  (h:Sz m x) (g:Sz n y):Sz (m+n) (x*y):=Sz.of (intBits_mul_le h.bits g.bits)
def Sz.add  (h:Sz n x) (g:Sz n y):Sz (n+1) (x+y):=Sz.of (QL (intBits_add_le h.bits g.bits) ⋯)
def Sz.sub  (h:Sz n x) (g:Sz n y):Sz (n+1) (x - y):=Sz.of (QL (intBits_sub_le h.bits g.bits) ⋯)
def Sz.le  (h:Sz n x) (l:y.natAbs<=x.natAbs):Sz n y:=Nat.lt_of_le_of_lt l h
def Sz.log  (h:Sz n x) (l:n<=8999):x.natAbs.log2<9000:=by
 by_cases h0:x.natAbs=0
 ·rw [h0];decide+kernel
 ·have:=(Nat.log2_lt h0).mpr (Sz.mono h l);omega
section
variable {X:Cx}
def op_mulB:OpR X (binaryOp .Mult) (rI IntMulOk λi j=> .int (i*j)):=opI λ_ _ _ _ _ _ _ g q=>mul_int q g
def CDv (_ j:Int):Prop:=j≠0/\Sz 8999 j
def op_fdivB:OpR X (binaryOp .FloorDiv) (rI CDv λi j=> .int (i.fdiv j)):=opI λi j _ _ _ _ _ g q=>
 floordiv_int g.1 q (.inl (PyProof.noPylong_of_log2 (g.2.log (Qu _))))
end
mutual
def Is (H:Hp):PyData->V->Prop
 | .none,v=>v= .non
 | .bool b,v=>v= .bl b
 | .int i,v=>v= .int i
 | .str x,v=>v= .str x
 | .list xs,v=>∃p vs,v= .ref p/\H p=some (.lst vs)/\zJ H xs vs
 | .tuple xs,v=>∃p vs,v= .ref p/\H p=some (.tup vs)/\zJ H xs vs
 | .dict g,v=>EU H g v
def zJ (H:Hp):List PyData->List V->Prop
 |[],vs=>vs=[]
 |x::xs,vs=>∃v r,vs=v::r/\Is H x v/\zJ H xs r
def EU (H:Hp):List (PyData×PyData)->V->Prop
 |[(c,x)],v=>∃(p C g:Addr) (w:V),c= .int ((C:Nat):Int)/\v= .ref p/\H p=some (.ins C g [("form",w)])/\Is H x w
 |_,_=>False
end
mutual
theorem Is.mono (e:zP H H'):∀(d:PyData) (v:V),Is H d v->Is H' d v
 | .none,v,h=>by simpa only [Is] using h
 | .bool b,v,h=>by simpa only [Is] using h
 | .int i,v,h=>by simpa only [Is] using h
 | .str x,v,h=>by simpa only [Is] using h
 | .list xs,v,h=>by
   rw [Is] at h⊢;obtain ⟨p,vs,r,q,m⟩:=h;exact ⟨p,vs,r,e _ _ q,zJ.mono e xs vs m⟩
 | .tuple xs,v,h=>by
   rw [Is] at h⊢;obtain ⟨p,vs,r,q,m⟩:=h;exact ⟨p,vs,r,e _ _ q,zJ.mono e xs vs m⟩
 | .dict g,v,h=>by
   rw [Is] at h⊢;exact EU.mono e g v h
theorem EU.mono (e:zP H H'):∀(d:List (PyData×PyData)) (v:V),EU H d v->EU H' d v
 |[],v,h=>by rw [EU] at h;exact h.elim;simp
 |[(c,x)],v,h=>by
  rw [EU] at h⊢;obtain ⟨p,C,s,w,r,q,m,g⟩:=h;exact ⟨p,C,s,w,r,q,e _ _ m,Is.mono e x w g⟩
 |_::_::_,v,h=>by rw [EU] at h;exact h.elim;simp
theorem zJ.mono (e:zP H H'):∀(d:List PyData) (v:List V),zJ H d v->zJ H' d v
 |[],v,h=>by rw [zJ] at h⊢;exact h
 |x::xs,v,h=>by
  rw [zJ] at h⊢;obtain ⟨v,r,p,m,g⟩:=h;exact ⟨v,r,p,Is.mono e x v m,zJ.mono e xs r g⟩
end
def zP.new  (h:H p=none) (o:HO):zP H (upd H p o):=λb u q=>by rw [ya (yc q h)];exact q
section
variable {X:Cx} {pins:Pn} {σ:L2.St} {H:Hp} {s:Shared}
mutual
theorem Is.reads (I:Inv X pins σ H s):∀(d:PyData) (v:V) (u:Value),d.canLay0=true->Is H d v->Zx v u->∃as,Reads s.heap u d as
 | .none,v,u,lay,h,r=>by rw [Is] at h;subst h;cases (show u=Value.none from r);exact ⟨_, .none⟩
 | .bool b,v,u,lay,h,r=>by rw [Is] at h;subst h;cases (show u=Value.bool b from r);exact ⟨_, .bool b⟩
 | .int i,v,u,lay,h,r=>by rw [Is] at h;subst h;obtain ⟨t,rfl⟩:=(show ∃t,u=Value.int i t from r);exact ⟨_, .int i t⟩
 | .str x,v,u,lay,h,r=>by rw [Is] at h;subst h;obtain ⟨t,rfl⟩:=(show ∃t,u=Value.str x t from r);exact ⟨_, .str x t⟩
 | .list xs,v,u,lay,h,r=>by
   rw [Is] at h;obtain ⟨p,vs,z,y,m⟩:=h;subst z;cases (show u=Value.ref p from r);obtain ⟨_,its,n,g,hp⟩:=(show Yp X.prog X.w H s.heap p (.lst vs) from I.hok p _ y);obtain ⟨as,q⟩:=zJ.reads I xs vs its (by rw [PyData.canLay0] at lay;exact lay) m g;exact ⟨_, .list hp rfl rfl ‹q›⟩
 | .tuple xs,v,u,lay,h,r=>by
   rw [Is] at h;obtain ⟨p,vs,z,y,m⟩:=h;subst z;cases (show u=Value.ref p from r);obtain ⟨_,its,g,hp⟩:=(show Yp X.prog X.w H s.heap p (.tup vs) from I.hok p _ y);obtain ⟨o,D,C,n,A⟩:=hp;obtain ⟨as,q⟩:=zJ.reads I xs vs its (by rw [PyData.canLay0] at lay;exact lay) m g;exact ⟨_, .tuple D C A ‹q›⟩
 | .dict _,v,u,lay,h,r=>by rw [PyData.canLay0] at lay;cases lay
theorem zJ.reads (I:Inv X pins σ H s):∀(d:List PyData) (v:List V) (u:List Value),PyData.canLayAll0 d=true->zJ H d v->xx v u->∃as,ReadsAll s.heap u d as
 |[],v,u,lay,h,r=>by rw [zJ] at h;subst h;cases xx.zero r;exact ⟨_, .nil⟩
 |x::xs,v,u,lay,h,r=>by
  rw [PyData.canLayAll0,TF] at lay;rw [zJ] at h;obtain ⟨v,w,z,y,t⟩:=h;subst z
  cases r with
  |cons m g=>
   obtain ⟨as,q⟩:=Is.reads I x v _ lay.1 y m;obtain ⟨bs,p⟩:=zJ.reads I xs w _ lay.2 t g;exact ⟨_, .cons q p⟩
end
end
def rEqD:R2:=λx y H Q=>∃d e,Is H d x/\Is H e y/\SeqAt.shaped d=true/\SeqAt.shaped e=true/\Q (.bl (PyData.eqv d e)) H
def rNeD:R2:=λx y H Q=>∃d e,Is H d x/\Is H e y/\SeqAt.shaped d=true/\SeqAt.shaped e=true/\Q (.bl (!PyData.eqv d e)) H
section
variable {X:Cx}
def op_eqD (t:X.A.units+64<cLine):OpR X (compareOp .Eq) rEqD:=by
 intro pins s σ H x y v u Q I rx ry h;obtain ⟨d,e,z,w,m,g,q⟩:=h;obtain ⟨as,r⟩:=Is.reads I d x v (jbs m) z rx;obtain ⟨bs,p⟩:=Is.reads I e y u (jbs g) w ry;exact eq_dataH r p m g t ⟨.bl _,H,I,rfl,q⟩
def op_neD (t:X.A.units+64<cLine):OpR X (compareOp .NotEq) rNeD:=by
 intro pins s σ H x y v u Q I rx ry h;obtain ⟨d,e,z,w,m,g,q⟩:=h;obtain ⟨as,r⟩:=Is.reads I d x v (jbs m) z rx;obtain ⟨bs,p⟩:=Is.reads I e y u (jbs g) w ry;exact ne_dataH r p m g t ⟨.bl _,H,I,rfl,q⟩
end
def rIsi (K:Frg):List V->Hp->VK->Prop:=λxs H Q=>∃(x:V) (T:String) (t:Value) (b:Bool),xs=[x, .ty T]/\TyOf K H x t/\PySem.W.kitOne K t (.type T)=some b/\Q (.bl b) H
section
variable {X:Cx}
def call_isi:Wt X (.builtin "isinstance") (rIsi X.K):=by
 intro pins s σ H xs us Q I r h;obtain ⟨x,T,t,b,rfl,ty,e,q⟩:=h;obtain ⟨u,g,rfl,p,m⟩:=Jk r;cases (show g=Value.type T from m);exact DI I p ty e λtk=>⟨.bl b,H,I.tok tk,rfl,q⟩
end
structure Cal (P:Program) (w:World) (K:Frg) (mg:Str->Option Value) (base:Heap) (CX:CXT) (k:Nat) (x:Str) (ps:List Str) (sp:Sp):Prop where
 ex:∃(f:Addr) (fd:FuncData),FnOk P w K mg base CX k f fd ps sp/\mg x=some (.ref f)/\PySem.W.keepIn K (.ref f)=true/\yG K fd ps []
section
variable {X:Cx} {CX:CXT} {k j:Nat} {ps:List Str} {sp:Sp} {E:XK} {x:Str} {p pos:Pos} {e:Expr} {es:List Expr} {t:TA}
def pe_cal (C:Cal X.prog X.w X.K X.mg X.base CX k x ps sp) (hr:Room j X.A) (q:k<=j) (m:Vu CX X E) (r:Gl X x)
 (ha:PA X (e::es) t) (y:(x==("__debug__":Str))=false:=by decide) (he:starEach (e::es) X.env=(false,eval e X.env)::starEach es X.env:=by rfl) (u:(backTo pos (starEach es X.env)).any (·.1)=false:=by rfl):
 PE X (.Call (.Name x p) (e::es) [] pos) (vR sp [] E t):=by
 obtain ⟨f,fd,F,hm,g,s⟩:=C.ex;exact JY F (hr.mono q) r hm g s .nil m ha y he u
end
def Fq  (hr:Room k A):A.units+64<cLine:=hr.units
noncomputable def frD (q:Rat):PyData:= .tuple [.int q.num, .int (q.den:Int)]
def SzQ (n:Nat) (q:Rat):Prop:=Sz n q.num/\Sz n (q.den:Int)
def SzQ.mono  (h:SzQ m q) (l:m<=n):SzQ n q:=⟨h.1.mono l,h.2.mono l⟩
def den_pos (q:Rat):(0:Int)<(q.den:Int):=Int.natCast_pos.mpr q.den_pos
def SzQ.divInt  (ha:Sz n a) (g:Sz n b) (h0:b≠0):SzQ n (Rat.divInt a b):=by
 constructor
 ·refine ha.le ?_;rw [Rat.num_divInt,Int.natAbs_ediv_of_dvd ?_]
  ·rw [Int.natAbs_mul];have e:b.sign.natAbs=1:=Int.natAbs_sign_of_ne_zero h0;rw [e,Nat.one_mul];exact Nat.div_le_self _ _
  ·exact Int.dvd_trans (Int.gcd_dvd_right b a) (Int.dvd_mul_left _ _)
 ·refine g.le ?_;rw [Rat.den_divInt,QO h0];show b.natAbs / b.gcd a<=b.natAbs;exact Nat.div_le_self _ _
def IM:bootBuiltins "len"=some (.builtin "len"):=by decide+kernel
def bt_abs:bootBuiltins "abs"=some (.builtin "abs"):=by decide+kernel
def IL:bootBuiltins "min"=some (.builtin "min"):=by decide+kernel
def bt_max:bootBuiltins "max"=some (.builtin "max"):=by decide+kernel
def Hy:bootBuiltins "isinstance"=some (.builtin "isinstance"):=by decide+kernel
def bt_int:bootBuiltins "int"=some (.type "int"):=by decide+kernel
def bt_bool:bootBuiltins "bool"=some (.type "bool"):=by decide+kernel
def bt_tuple:bootBuiltins "tuple"=some (.type "tuple"):=by decide+kernel
def bt_list:bootBuiltins "list"=some (.type "list"):=by decide+kernel
def qp:bootBuiltins "enumerate"=some (.type "enumerate"):=by decide+kernel
def bt_zip:bootBuiltins "zip"=some (.type "zip"):=by decide+kernel
def td:bootBuiltins "reversed"=some (.type "reversed"):=by decide+kernel
def bt_str:bootBuiltins "str"=some (.type "str"):=by decide+kernel
def bt_sum:bootBuiltins "sum"=some (.builtin "sum"):=by decide+kernel
structure Bl (mg:Str->Option Value):Prop where
 len:mg "len"=none
 abs:mg "abs"=none
 min:mg "min"=none
 max:mg "max"=none
 isinstance:mg "isinstance"=none
 range:mg "range"=none
 int:mg "int"=none
 bool:mg "bool"=none
 tuple:mg "tuple"=none
 list:mg "list"=none
 enumerate:mg "enumerate"=none
 zip:mg "zip"=none
 reversed:mg "reversed"=none
 ValueError:mg "ValueError"=none
 sum:mg "sum"=none
 str:mg "str"=none
def IC {c A B:Prop} [Decidable c] (p:¬c->A) (m:c->B):if (!decide c)=true then A else B:=by
 by_cases g:c
 ·rw [QW g];exact m g
 ·rw [Th g];exact p g
def yS {c A B:Prop} [Decidable c] (p:c->A) (m:¬c->B):if decide c=true then A else B:=by
 by_cases g:c
 ·rw [QW g];exact p g
 ·rw [Th g];exact m g
def HP {ms:List Int} {k:Int} (h0:0<=k) (h:k<(ms.length:Int)):atI (ms.map V.int) k=some (.int (ms.getD k.toNat 0)):=by
 have g:k.toNat<ms.length:=⋯
 have m:k=((k.toNat:Nat):Int):=⋯
 have q:atI (ms.map V.int) ((k.toNat:Nat):Int)=some (.int (ms.getD k.toNat 0)):=yt (by rw [Qh,Qb g,Qk,Qb g];rfl);rwa [<-m] at q
def UC (m:0<b):(a.fdiv (Int.gcd a b:Nat)=(Rat.divInt a b).num)/\b.fdiv (Int.gcd a b:Nat)=((Rat.divInt a b).den:Int):=by
 have g:(0:Int)<=((Int.gcd a b:Nat):Int):=Int.natCast_nonneg _;rw [Tz _ g,Tz _ g,Rat.num_divInt,Rat.den_divInt,QO ⋯,Int.gcd_comm b a,Int.sign_eq_one_of_pos m,Int.one_mul];refine ⟨rfl,?_⟩;have e:b=(b.natAbs:Int):=⋯
 rw [Int.natCast_ediv,<-e]
def Ds (g:b<0):(a.fdiv (-((Int.gcd a b:Nat):Int))=(Rat.divInt a b).num)/\b.fdiv (-((Int.gcd a b:Nat):Int))=((Rat.divInt a b).den:Int):=by
 have h:=UC (a:= -a) (b:= -b) ⋯;rw [Rat.neg_divInt_neg,Int.neg_gcd,Int.gcd_neg] at h;rw [<-h.1,<-h.2]
 constructor
 ·rw [<-Int.neg_fdiv_neg,Int.neg_neg]
 ·rw [<-Int.neg_fdiv_neg,Int.neg_neg]
def tU (h:1<=n) (m: -2<x) (g:x<2):Sz n x:=Sz.mono (show Sz 1 x by unfold Sz;omega) h
def uN (a b:Int):Int.gcd b (a % b)=Int.gcd a b:=by
 have e:a % b=a - b*(a / b):=by have:=Int.mul_ediv_add_emod a b;omega
 rw [e,Int.gcd_sub_mul_left_right,Int.gcd_comm]
noncomputable def yY (cells:List (Str×Addr)):List (Str×NameKind)->List (Str×Addr)->List (Str×Addr)
 |[],acc=>acc
 |(n,k)::r,acc=>yY cells r (if k== .free then (n,(cells.lookup n).getD 0)::acc else acc)
def Wq  (h:∀y∈scope.names,y.2= .free->∃c,env.cells.lookup y.1=some c):closureFor scope env=pure (yY env.cells scope.names []):=by
 have key:∀(names:List (Str×NameKind)) (acc:List (Str×Addr)),(∀y∈names,y.2= .free->∃c,env.cells.lookup y.1=some c)->
  (forIn names acc λx r=>match x with
   |(name,kind)=>if (kind==NameKind.free)=true then do
    let a<-cellOf env name
    pure (ForInStep.yield ((name,a)::r))
    else pure (ForInStep.yield r):Sem (List (Str×Addr)))=pure (yY env.cells names acc):=by
  intro names
  induction names with
  |nil=>intro acc _;rfl
  |cons y r g=>
   intro acc m;obtain ⟨n,k⟩:=y;rw [List.forIn_cons,yY];have hr:=λz hz=>m z (Qf _ hz)
   cases hk:k==NameKind.free with
   |false=>
    simp only [hk,jbX,if_false,pure_bind];exact g acc hr
   |true=>
    obtain ⟨c,p⟩:=m (n,k) (Qe ..) ‹hk›;have q:cellOf env n=pure c:=by unfold cellOf;rw [p]
    simp only [hk,if_true,q,pure_bind,p,Option.getD_some];exact g _ hr
 simp only [closureFor];rw [key _ _ h];rfl
theorem Wr  :∀{names:List (Str×NameKind)} {acc:List (Str×Addr)},(∀y∈names,y.2= .free->∃c,cells.lookup y.1=some c)->(∀c,acc.lookup x=some c->cells.lookup x=some c)->
 (yY cells names acc).lookup x=some c->cells.lookup x=some c
 |[],acc,_,ha,h=>ha c h
 |(n,k)::r,acc,hn,ha,h=>by
  rw [yY] at h;refine Wr (λz hz=>hn z (Qf _ hz)) (λm g=>?_) h
  cases hk:k==NameKind.free with
  |false=>rw [hk] at g;simp only [jbX,if_false] at g;exact ha m g
  |true=>
   rw [hk] at g;simp only [if_true] at g;obtain ⟨d,hd⟩:=hn (n,k) (Qe ..) ‹hk›;rw [jaN] at g
   cases hx:x==n with
   |true=>
    rw [hx] at g;have e:x=n:=by simpa using hx
    subst e;have p:cells.lookup x=some d:=hd;rw [p] at g⊢;exact g
   |false=>rw [hx] at g;exact ha m g
theorem XH  :∀{names:List (Str×NameKind)} {acc:List (Str×Addr)},((x,NameKind.free)∈names\/(acc.lookup x).isSome=true)->((yY cells names acc).lookup x).isSome=true
 |[],acc,h=>by
  rcases h with h|h
  ·exact absurd h (Qm)
  ·exact h
 |(n,k)::r,acc,h=>by
  rw [yY];refine XH ?_
  have keep:(acc.lookup x).isSome=true->((if (k==NameKind.free)=true then (n,(cells.lookup n).getD 0)::acc else acc).lookup x).isSome=true:=λz=>by
   split
   ·rw [jaN];split<;>simp [z]
   ·exact z
  rcases h with h|h
  ·rcases Ql.mp h with e|e
   ·cases e;refine .inr ?_
    simp
   ·exact .inl e
  ·exact .inr (keep h)
noncomputable def xu (X:Cx) (N:List Str) (scope:Scope) (C:Addr) (ex:List Addr) (s:Shared) (H:Hp):Cx where
 prog:=X.prog
 w:=X.w
 K:=X.K
 mg:=X.mg
 base:=X.base
 A:=X.A
 N:=N
 s₀:=s
 H₀:=H
 env:=compEnvC scope (yY X.env.cells scope.names []) C X.env
 outer:=X.stack
 stack:=X.stack
 ex:=ex
 fn:=λ_=>false
 calm:=X.calm
 pn:=[]
 xe:=λ_ _=>False
noncomputable def frσ (σ:L2.St) (fr:List Nat):L2.St:=fr.map λj=>(σ[j]?).getD none
structure CompOk (X:Cx) (N:List Str) (n:Nat) (fr:List Nat) (scope:Scope):Prop where
 kind:scope.kind= .function
 nd:N.Nodup
 names:(N.drop n)=fr.map (λj=>(X.N[j]?).getD ("":Str))
 own:n<=N.length
 inx:(fr.all λj=>decide (j<X.N.length))=true
 free:((N.drop n).all λx=>decide (scope.names.lookup x=some .free))=true
 nocell:(scope.names.all λy=>decide (y.2≠ .cell))=true
 loc:(scope.names.all λy=>decide (y.2= .local->scope.names.lookup y.1=some .local))=true
 seen:(scope.names.all λy=>decide (y.2= .free->(X.env.kindOf y.1=some .cell\/X.env.kindOf y.1=some .free)))=true
def ae   (h:(relabel scope env).names.lookup x=some k) (p:k= .cell\/k= .free) (s:(scope.names.all λy=>decide (y.2≠ .cell))=true):(x,NameKind.free)∈scope.names:=by
 unfold relabel at h;dsimp only at h
 have key:∀names:List (Str×NameKind),(names.all λy=>decide (y.2≠ .cell))=true->
  (names.map λ(n,k)=>if (k==NameKind.free && env.scope.kind== .function && env.kindOf n==some .cell)=true then (n,NameKind.cell) else (n,k)).lookup x=some k->(x,NameKind.free)∈names:=by
  intro names
  induction names with
  |nil=>intro _ h;simp at h
  |cons y r m=>
   intro ha h;obtain ⟨n,j⟩:=y;rw [List.all_cons,TF] at ha;rw [Qp] at h;have t:∀(b:Bool) (g:NameKind),((if b=true then (n,NameKind.cell) else (n,g)):Str×NameKind)=(n,if b=true then NameKind.cell else g):=by intro b g;cases b<;>rfl
   dsimp only at h;rw [t,jaN] at h
   cases hx:x==n with
   |false=>rw [hx] at h;exact Qf _ (m ha.2 h)
   |true=>
    rw [hx] at h;have e:x=n:=by simpa using hx
    subst e;have h':=QH h;have q:j≠ .cell:=by simpa using ha.1
    have:j= .free:=by
     cases hb:(j==NameKind.free && env.scope.kind== .function && env.kindOf x==some .cell) with
     |true=>
      rw [TF,TF] at hb
      simpa using hb.1.1
     |false=>
      rw [hb] at h';simp only [jbX,if_false] at h';subst h'
      rcases p with z|z
      ·exact absurd z q
      ·exact z
    subst this;exact Qe ..
 exact key _ s h
def cU  (h:scope.names.lookup x=some .free):(relabel scope env).names.lookup x=some .cell\/(relabel scope env).names.lookup x=some .free:=by
 unfold relabel;dsimp only
 have key:∀names:List (Str×NameKind),names.lookup x=some .free->
  (names.map λ(n,k)=>if (k==NameKind.free && env.scope.kind== .function && env.kindOf n==some .cell)=true then (n,NameKind.cell) else (n,k)).lookup x=some .cell\/(names.map λ(n,k)=>if (k==NameKind.free && env.scope.kind== .function && env.kindOf n==some .cell)=true then (n,NameKind.cell) else (n,k)).lookup x=some .free:=by
  intro names
  induction names with
  |nil=>intro h;simp at h
  |cons y r m=>
   intro h;obtain ⟨n,j⟩:=y;have p:∀(b:Bool) (g:NameKind),((if b=true then (n,NameKind.cell) else (n,g)):Str×NameKind)=(n,if b=true then NameKind.cell else g):=by intro b g;cases b<;>rfl
   rw [Qp];dsimp only;rw [p,jaN];rw [jaN] at h
   cases hx:x==n with
   |false=>rw [hx] at h;exact m h
   |true=>
    rw [hx] at h;cases QH h;dsimp only
    split
    ·exact .inl rfl
    ·exact .inr rfl
 exact key _ h
section
variable {X:Cx} {N:List Str} {n:Nat} {fr:List Nat} {scope:Scope} {pins:Pn} {σ:L2.St} {H:Hp} {s:Shared}
def CompOk.cells (O:CompOk X N n fr scope) (I:Inv X pins σ H s):∀y∈scope.names,y.2= .free->∃c,X.env.cells.lookup y.1=some c:=λy g hf=>I.ok.has y.1 (Qz (TY.mp O.seen y g) hf)
def Ar   (O:CompOk X N n fr scope) (I:Inv X pins σ H s) (hf:∀b∈fp,tN X pins H b) (Si:∀b∈fp,b<s.heap.objs.size)
 (NW:h'.Ns s.heap.objs.size m) (keep:∀b o,s.heap.get? b=some o->h'.get? b=some o):
 Inv (xu X N scope s.heap.objs.size fp s H) [] (List.replicate n none++frσ σ fr) H {s with heap:=h',toks:=tk}:=by
 have Oo:=O.cells I;have lk:∀x c,(yY X.env.cells scope.names []).lookup x=some c->X.env.cells.lookup x=some c:=λx c h=>Wr Oo (λc h=>by simp at h) h;have cne:∀x c,(yY X.env.cells scope.names []).lookup x=some c->∃v,s.heap.IsCell c v:=λx c h=>I.cell x c (lk x c h)
 have Z:∀x c,(yY X.env.cells scope.names []).lookup x=some c->c<s.heap.objs.size:=λx c h=>by
  obtain ⟨v,o,w,_⟩:=cne x c h;exact Qv w
 refine ⟨⟨I.mod,O.kind,I.ok.glob,I.ok.blt,Qu _,λx y c A g=>I.ok.inj x y c (lk x c A) (lk y c g),λx r=>?_,λx c h=>(by cases h),I.ok.hd,I.ok.frames, .inl rfl,λb t=>⟨QQ (Si b t),λx c h=>(hf b t).2.2.2.2.1 x c (lk x c h)⟩,I.bs,QL I.ok.bsz I.sz,λb o e t=>?_,λb t z=>?_,I.stack,I.stkFree⟩,
  rfl,I.bare,Un.kept keep,⟨m,NW,λi x v A g h3=>?_⟩,λx c h=>?_,I.hok.fresh (Qu _),λx c h=>I.freeC x c (lk x c h),λp hp=>absurd hp (by simp [xu]),I.hok.kept keep,?_⟩
 ·have MV:(x,NameKind.free)∈scope.names:=by
   rcases r with r|r
   ·exact ae r (.inl rfl) O.nocell
   ·exact ae r (.inr rfl) O.nocell
  exact jan.mp (XH (.inl MV))
 ·rcases (hf b t).2.2.2.1 with z|z
  ·exact I.ok.noex b o e z
  ·exact absurd (QZ (Qv (I.ok.bs b o e).1) z) (jaz _)
 ·rcases Ql.mp (I.stkSub b z) with q|q
  ·exact (hf b t).2.1 q
  ·exact (hf b t).2.2.1 q
 ·by_cases G:i<n
  ·rw [jae ‹G›,QU,QJ G] at g;cases g
  ·have J:(N.drop n)[i - n]? =some x:=by rw [jaj,show n+(i - n)=i by omega];exact A
   rw [TB ‹G›,QD] at g;unfold frσ at g;rw [Qh] at g;rw [O.names,Qh] at J
   cases ej:fr[i - n]? with
   |none=>rw [ej] at g;cases g
   |some j=>
    rw [ej] at g J;have D:j<X.N.length:=Qz (TY.mp O.inx j (Qc ej))
    have r:X.N[j]? =some x:=by
     have e:=QH J;dsimp only at e;rw [Qb D] at e⊢;exact congrArg some e
    have U:σ[j]? =some (some v):=by
     have e:=QH g;dsimp only at e
     cases es:σ[j]? with
     |none=>rw [es] at e;cases e
     |some o=>rw [es] at e;rw [show o=some v from e]
    have P:scope.names.lookup x=some .free:=by
     refine Qz (TY.mp O.free x ?_);exact Qc (i:=i - n) (by rw [jaj,show n+(i - n)=i by omega];exact A)
    have M:(x,NameKind.free)∈scope.names:=jaG P;have L:=Qz (TY.mp O.seen _ M) rfl;obtain ⟨mX,Y,C⟩:=I.loc;obtain ⟨u,ru,T⟩:=C j x v r U (L.elim (λz=> .inr (.inl z)) λz=> .inr (.inr z));refine ⟨u,ru, .inr ⟨?_,?_⟩⟩
    ·exact cU P
    ·obtain ⟨c,K⟩:=jan.mp (XH (cells:=X.env.cells) (acc:=[]) (.inl M));refine ⟨c,K,?_⟩
     rcases T with ⟨k,_⟩|⟨_,c',ML,z⟩
     ·rcases L with q|q
      ·rw [show X.env.kindOf x=_ from k] at q;cases q
      ·rw [show X.env.kindOf x=_ from k] at q;cases q
     ·have:=lk x c K;rw [ML] at this;cases this;obtain ⟨o,w,hd⟩:=z;exact ⟨o,keep _ _ w,hd⟩
 ·obtain ⟨v,o,w,hd⟩:=cne x c h;exact ⟨v,o,keep _ _ w,hd⟩
 ·rw [QB,QD];unfold frσ;have e:=congrArg List.length O.names;rw [To,Qa] at e;have:=O.own;show _=N.length;rw [Qa];omega
end
def PIf (Y:Cx) (ifs:List Expr) (tt:TT):Prop:=
 ∀(pins:Pn) (s:Shared) (σ:L2.St) (H:Hp) (Q:Bool->Hp->Prop),Inv Y pins σ H s->tt σ H Q->
  wpAny (model Y.prog Y.w) Y.A (forIn ifs true λc r=>if r=true then do let ok<-isTrue c Y.env (eval c Y.env);pure (ForInStep.yield ok) else pure (ForInStep.yield r)) (TP Y pins σ Q) Y.xe s
def tTrue:TT:=λ_ H Q=>Q true H
def rV:PIf Y [] tTrue:=λpins s σ H Q I h=>wpAny_tests_nil ⟨H,I,h⟩
def pif_one {Y:Cx} {c:Expr} {tt:TT} (h:PT Y c tt):PIf Y [c] tt:=λpins s σ H Q I q=>wpAny_tests_one (h pins s σ H Q I q)
abbrev Blk (α:Type):=Addr->List Addr->Shared->Hp->α
def vQ (n:Nat) (fr:List Nat) (w:TI) (g:Blk TG) (tt:Blk TT) (z:Blk TE):TE:=λσ H Q=>w σ H λJ H1=>∀D,H1 D=none->∀C ex s0 r,
 ∃W:Nat->Nat->List V->Hp->Prop,(∃m,W 0 m [] (upd H1 D (.lst [])))/\∀i m ys p,W i m ys p->p D=some (.lst ys)/\
  ((J.stop i p/\Q (.ref D) p)\/(J.go i p/\∀x u,J.yld i p x u->g C ex s0 r x (List.replicate n none++frσ σ fr) u λσ4 H4=>σ4.drop n=frσ σ fr/\tt C ex s0 r σ4 H4 λb t=>
    if b=true then z C ex s0 r σ4 t λy s=>s D=some (.lst ys)/\ys.length<sizeLine/\∃q,q<m/\W (i+1) q (ys++[y]) (upd s D (.lst (ys++[y])))
    else ∃q,q<m/\W (i+1) q ys t))
structure Side (X:Cx) (pins:Pn) (H:Hp) (C:Addr):Prop where
 nt:H C=none
 nl:C≠X.env.locals
 ab:X.s₀.heap.objs.size<=C
 nc:∀x c,X.env.cells.lookup x=some c->c≠C
 np:∀p∈X.pn++pins,p.1≠C
section
variable {X:Cx} {N:List Str} {n:Nat} {fr:List Nat} {scope:Scope}
def yU {α:Type} {M:Model} {A:Around} {m:Sem α} {Q:α->Shared->Prop} {E:Value->Shared->Prop} {s:Shared} (h:wpAny M A m Q (λ_ _=>False) s):wpAny M A m Q E s:=wpAny_mono h (λ_ _ q=>q) λ_ _ z=>z.elim
def uZ {tg iter elt:Expr} {ifs:List Expr} {pos:Pos} {g:Blk TG} {tt:Blk TT} {te:Blk TE} {pins:Pn} {σ:L2.St} {z:Hp} {s2:Shared} {it:Addr} {I:List Addr} {tn:Nat->Heap->Prop} {J:It} {Q:VK}
 {RR:Value->Addr->Result->Shared->Prop} {E:Value->Shared->Prop}
 (hc:X.calm=true) (O:CompOk X N n fr scope)
 (hg:∀C ex s H,PG (xu X N scope C ex s H) tg (g C ex s H)) (ht:∀C ex s H,PIf (xu X N scope C ex s H) ifs (tt C ex s H)) (he:∀C ex s H,PE (xu X N scope C ex s H) elt (te C ex s H))
 (I2:Inv X pins σ z s2) (T:Turn X.prog X.w X.K tg J I it tn) (Nj:tn 0 s2.heap) (f2:∀b∈I,tN X pins z b)
 (hW:∀D,z D=none->∀C ex s0 H0,∃W:Nat->Nat->List V->Hp->Prop,(∃m,W 0 m [] (upd z D (.lst [])))/\∀i m ys z,W i m ys z->z D=some (.lst ys)/\
  ((J.stop i z/\Q (.ref D) z)\/(J.go i z/\∀x H3,J.yld i z x H3->g C ex s0 H0 x (List.replicate n none++frσ σ fr) H3 λσ4 H4=>σ4.drop n=frσ σ fr/\tt C ex s0 H0 σ4 H4 λb U=>
    if b=true then te C ex s0 H0 σ4 U λy H6=>H6 D=some (.lst ys)/\ys.length<sizeLine/\∃M,M<m/\W (i+1) M (ys++[y]) (upd H6 D (.lst (ys++[y])))
    else ∃M,M<m/\W (i+1) M ys U)))
 (hR:∀(D C:Addr) (H':Hp) (s':Shared),Q (.ref D) H'->(∃m,s'.heap.Ns C m)->Side X pins H' C->Inv X pins σ H' s'->RR (.ref D) C (.ok .next) s'):
 wpAny (model X.prog X.w) X.A (newList []) (λacc s₃=>wpAny (model X.prog X.w) X.A (newFunctionEnv scope X.env.globals (yY X.env.cells scope.names []) [] X.env.qual none .none (some X.env)) (λcenv s₄=>
  codeAny (model X.prog X.w) X.A (.compStart (.ListComp elt [⟨tg,iter,ifs,0⟩] scope pos) 0 (.ref it) acc {cenv with scope:=relabel scope X.env}) (RR acc cenv.locals) s₄) E s₃) E s2:=by
 have nocell:∀y∈scope.names,y.2≠ .cell:=λy hy=>Qz (TY.mp O.nocell y hy);refine Ti (wpAny_newFunctionEnv nocell (by intro y hy;simp at hy) (λh₁ NW₁ RU₁=>?_) O.kind);have hDn:z s2.heap.objs.size=none:=I2.fresh;have I3:Inv X pins σ (upd z s2.heap.objs.size (.lst [])) {s2 with heap:=s2.heap.push {cls:= .type "list",data:= .seq ([]:List Value).toArray},toks:=s2.toks}:=I2.lnew (its:=[]) .nil (TR _);generalize hD:s2.heap.objs.size=D at*;dsimp only at NW₁ RU₁⊢;generalize PZ:s2.heap.push {cls:= .type "list",dict:=none,data:= .seq ([]:List Value).toArray}=t at*;have k23:∀b o,s2.heap.get? b=some o->t.get? b=some o:=λb o e=>by rw [<-PZ];exact Qi _ e
 have SN:t.objs.size=D+1:=by rw [<-PZ,QV,hD]
 have keep:∀b o,t.get? b=some o->h₁.get? b=some o:=λb o e=>RU₁.extBut b o (QQ (Qv e)) (Qi _ e)
 have flt:∀b∈I,b<D:=λb q=>by
  obtain ⟨o,ho,_⟩:=T.obj _ _ Nj b q;rw [<-hD];exact Qv ho
 have f3:∀b∈I,tN X pins (upd z D (.lst [])) b:=λb q=>⟨by rw [ya (QQ (flt b q))];exact (f2 b q).1,(f2 b q).2⟩;have IY:=Ar (tk:=s2.toks+([]:List (Str×Value)).length) O I3 f3 (λb q=>by show b<t.objs.size;rw [SN];exact TH (flt b q)) NW₁ keep;obtain ⟨W,⟨m0,w0⟩,turn⟩:=hW _ hDn t.objs.size I {s2 with heap:=t,toks:=s2.toks} (upd z D (.lst []));have PL:tn 0 h₁:=T.keep _ _ _ Nj λb q o e=>keep b o (k23 b o e);generalize G:xu X N scope t.objs.size I {s2 with heap:=t,toks:=s2.toks} (upd z D (.lst []))=Y at*;have P:Y.env=compEnvC scope (yY X.env.cells scope.names []) t.objs.size X.env:=by rw [<-G];rfl
 have Rp:=hg t.objs.size I {s2 with heap:=t,toks:=s2.toks} (upd z D (.lst []));have PY:=ht t.objs.size I {s2 with heap:=t,toks:=s2.toks} (upd z D (.lst []));have Rr:=he t.objs.size I {s2 with heap:=t,toks:=s2.toks} (upd z D (.lst []));rw [G] at Rp PY Rr;have eP:Y.prog=X.prog:=by rw [<-G];rfl
 have Z:Y.w=X.w:=by rw [<-G];rfl
 have eK:Y.K=X.K:=by rw [<-G];rfl
 have eA:Y.A=X.A:=by rw [<-G];rfl
 have eC:Y.calm=true:=by rw [<-G];exact hc
 have eX:Y.xe=λ_ _=>False:=by rw [<-G];rfl
 have fY:∀{H':Hp},(∀b∈I,H' b=none)->∀b∈I,tN Y [] H' b:=λ{H'} hn b q=>by
  have h1:=IY.ok.exf b (by rw [<-G];exact q);refine ⟨hn b q,h1.1,IY.ok.exfs b (by rw [<-G];exact q), .inl (by rw [<-G];exact q),h1.2,λp hp=>absurd hp (by rw [<-G];simp [xu])⟩
 have loop:codeAny (model X.prog X.w) X.A (.compLoop (.ListComp elt [⟨tg,iter,ifs,0⟩] scope pos) 0 (.ref it) (.ref D) (compEnvC scope (yY X.env.cells scope.names []) t.objs.size X.env))
  (RR (.ref D) t.objs.size) {s2 with heap:=h₁,toks:=s2.toks+([]:List (Str×Value)).length}:=by
  refine codeAny_loop rfl (λk s'=>∃i ys H',Inv Y [] (List.replicate n none++frσ σ fr) H' s'/\tn i s'.heap/\(∀b∈I,H' b=none)/\W i k ys H') (λk s5 hI=>?_) m0 ⟨0,[],_,IY,PL,λb q=>(f3 b q).1,w0⟩;obtain ⟨i,ys,U,I5,Ou,Pj,w5⟩:=hI;show wpAny _ X.A ((compTurn (.ListComp elt [⟨tg,iter,ifs,0⟩] scope pos) 0 (.ref it) (.ref D) _).onRaise (λx=>do noteFrame x _;theTreesLotGoes x)) _ _ s5;refine wpAny_noted ?_;rw [compTurn_list,<-P];refine Qg (wpAny_standAt (Qg ?_));obtain ⟨Sr,step⟩:=turn i k ys U w5
  rcases step with ⟨stop,qn⟩|⟨go,step⟩
  ·have d:=T.done Y eP Z eK eC i [] s5 _ U (λ_ _=>False) I5 (fY Pj) Ou stop;rw [eA] at d;refine yU (thn d λr s6 L=>?_);obtain ⟨hr,I6⟩:=L;subst hr;refine Qo ?_;have hC:U t.objs.size=none:=by have:=I6.free;rw [P] at this;exact this
   have Pb:∃m,s6.heap.Ns t.objs.size m:=by
    have:=I6.loc;rw [P] at this;obtain ⟨m,hm,_⟩:=this;exact ⟨m,hm⟩
   have sd:Side X pins U t.objs.size:=⟨hC,jaZ I3.lt,I3.sz,λx c e=>QQ (let ⟨v,o,ho,_⟩:=I3.cell x c e;Qv ho),λp hp=>QQ (Qv (I3.pin p hp).1)⟩;refine hR D t.objs.size U s6 qn Pb sd ?_;have un:=I6.base;have e0:Y.s₀.heap=t:=by rw [<-G];rfl
   have eH0:Y.H₀=upd z D (.lst []):=by rw [<-G];rfl
   have eF:Y.fs=frs X.stack:=by rw [<-G];rfl
   have eEx:Y.ex=I:=by rw [<-G];rfl
   rw [e0,eH0,eF,eEx] at un;have Oa:HOk X.prog X.w U s6.heap:=by have:=I6.hok;rw [eP,Z] at this;exact this
   have SW:s6.os=s2.os:=I6.os.trans (by rw [<-G];rfl);exact I3.call' (s':=s6) (ch:=I) SW un Oa I6.bare λb q=>⟨(f2 b q).2.2.2.1,(f2 b q).2.1,(f2 b q).2.2.2.2.1,(f2 b q).2.2.2.2.2⟩
  ·have d:=T.item Y eP Z eK eC i [] s5 _ U (λ_ _=>False) I5 (fY Pj) Ou go;rw [eA] at d;refine yU (thn d λr s6 L=>?_);obtain ⟨u,hr,h6⟩:=L;subst hr;refine Qg (yU (thn h6 λ_ s7 L=>?_));obtain ⟨x,H7,I7,r7,y7,OS,fr7⟩:=L;have I7':=I7.pinned (fY fr7) (T.obj _ _ OS);have g7:=Rp _ s7 _ H7 x u _ I7' r7 (step x H7 y7);rw [eA,eP,Z,eX] at g7;refine Qg (yU (thn g7 λ_ s8 L=>?_));obtain ⟨σ8,H8,I8,ed,q8⟩:=L;have t8:=PY _ s8 σ8 H8 _ I8 q8;rw [eA,eP,Z,eX] at t8;refine Qg (yU (thn t8 λb s9 L=>?_));obtain ⟨H9,I9,q9⟩:=L
   have back:∀{s':Shared} {H':Hp} {OR:List V} {M:Nat},Inv Y ([]++kd I s7.heap) σ8 H' s'->M<k->W (i+1) M OR H'->∃m,m<k/\∃i ys H',Inv Y [] (List.replicate n none++frσ σ fr) H' s'/\tn i s'.heap/\(∀b∈I,H' b=none)/\W i m ys H':=λ{s' H' OR M} I' hm w'=>by
    refine ⟨M,hm,i+1,OR,H',?_,T.keep _ _ _ OS λb q o e=>(I'.pin (b,o) (QF _ (QF _ (Yt q e)))).1,λb q=>?_,w'⟩
    ·refine (Inv.unpinned I').weak ?_ λj v hj=>?_
     ·exact IY.len.trans I'.len.symm
     ·by_cases Pd:j<n
      ·rw [jae ‹Pd›,QU,QJ Pd] at hj;cases hj
      ·rw [TB ‹Pd›,QD,<-ed,jaj,show n+(j - n)=j by omega] at hj;exact hj
    ·obtain ⟨o,e,d⟩:=T.obj _ _ OS b q;exact (I'.pin (b,o) (QF _ (QF _ (Yt q e)))).2.1
   cases b with
   |false=>
    obtain ⟨M,hm,w9⟩:=q9;exact Qo ⟨rfl,back I9 hm w9⟩
   |true=>
    have e9:=Rr _ s9 σ8 H9 _ I9 q9;rw [eA,eP,Z,eX] at e9;refine Qg (Qg (yU (thn e9 λv SQ L=>?_)));obtain ⟨y,OD,I10,SU,Ph,hz,M,hm,RK⟩:=L;have RE:=pT _ SQ σ8 OD (.ref D) [y] (.ref D) [v] (λ_ H'=>H'=upd OD D (.lst (ys++[y]))) I10 rfl (.cons SU .nil) ⟨D,ys,y,rfl,rfl,Ph,hz,rfl⟩;rw [eA,eP,Z,eX] at RE;refine Qg (yU (thn RE λ_ s11 L=>?_));obtain ⟨_,PF,I11,_,Pk⟩:=L;subst Pk;exact Qo (Qo ⟨rfl,back I11 hm RK⟩)
 exact codeAny_compStart_list loop (T.self _ _ _ _ _ PL loop)
def JX {r iter elt:Expr} {ifs:List Expr} {pos:Pos} {t:TI} {g:Blk TG} {tt:Blk TT} {u:Blk TE}
 (P:X.calm=true) (O:CompOk X N n fr scope) (L:PI X r iter t)
 (M:∀C ex s H,PG (xu X N scope C ex s H) r (g C ex s H)) (ht:∀C ex s H,PIf (xu X N scope C ex s H) ifs (tt C ex s H)) (he:∀C ex s H,PE (xu X N scope C ex s H) elt (u C ex s H))
 (K:∀x,foldedSetIterable iter X.env x=pure x:=by intro _;rfl):
 PE X (.ListComp elt [⟨r,iter,ifs,0⟩] scope pos) (vQ n fr t g tt u):=by
 intro pins s σ H Q I h;rw [eval_ListComp];refine jbQ (use:=none) rfl K (Wq (O.cells I)) O.kind (λy G=>Qz (TY.mp O.loc y G)) (thn (L pins s σ H _ I h) λv s1 h1=>thn h1 λz s2 Z=>?_);obtain ⟨it,fp,tn,J,H2,e,I2,T,Nj,f2,Y⟩:=Z;subst e;refine uZ (RR:=λacc C=>compPost (model X.prog X.w) X.A X.xe none (EP X pins σ Q) acc C) P O M ht he I2 T Nj f2 Y ?_;intro D C H' s' q ⟨m,hm⟩ p inv;exact ⟨m,hm,λh' OJ=>⟨.ref D,H',inv.turned (t':=s'.toks) (it:=C) (λb o U e=>OJ.extBut b o U e) p.nt p.nl (.inr p.ab) p.nc p.np,rfl,q⟩⟩
def wq {i:Nat} {x:Str} {t:Pos} {u iter elt:Expr} {ifs:List Expr} {pos p:Pos} {L:TI} {g:Blk TG} {tt:Blk TT} {M:Blk TE}
 (hN:X.N.Nodup) (hx:X.N[i]? =some x) (P:X.env.scope.names.lookup x=some .local)
 (hc:X.calm=true) (O:CompOk X N n fr scope) (hi:PI X u iter L)
 (hg:∀C ex s H,PG (xu X N scope C ex s H) u (g C ex s H)) (ht:∀C ex s H,PIf (xu X N scope C ex s H) ifs (tt C ex s H)) (he:∀C ex s H,PE (xu X N scope C ex s H) elt (M C ex s H))
 (G:swapsWith (.ListComp elt [⟨u,iter,ifs,0⟩] scope pos) (some (.Name x t)) p.line X.env=pure true:=by rfl)
 (hs:∀x,foldedSetIterable iter X.env x=pure x:=by intro _;rfl):
 PS X (.Assign [.Name x t] (.ListComp elt [⟨u,iter,ifs,0⟩] scope pos) p) (Lu (vQ n fr L g tt M) (nj i)):=by
 intro pins s σ H D I h;rw [exec_Assign_Name_used _ _ _ _ G];refine Qg (wpAny_standAt (Qg ?_));show wpAny _ X.A (do let _<-comprehension (.ListComp elt [⟨u,iter,ifs,0⟩] scope pos) scope X.env _ (newList []) false (eval iter X.env) (some (assign (.Name x t) X.env))) _ _ s
 refine Qg (wpAny_mono (jbQ (use:=some (assign (.Name x t) X.env)) (Q:=λ_ s'=>SP X pins D .next s') rfl hs (Wq (O.cells I)) O.kind (λy hy=>Qz (TY.mp O.loc y hy))
  (thn (hi pins s σ H _ I h) λv s1 h1=>thn h1 λZ s2 h2=>?_)) (λ_ s' hq=>Qo (Qo hq)) λ_ _ e=>e)
 obtain ⟨it,fp,tn,J,H2,e,I2,T,Nj,f2,hW⟩:=h2;subst e;refine uZ (Q:=λx H1=>nj i x σ H1 D.nx) (RR:=λacc C=>compPost (model X.prog X.w) X.A X.xe (some (assign (.Name x t) X.env)) (λ_ s'=>SP X pins D .next s') acc C) hc O hg ht he I2 T Nj f2 hW ?_;intro U C H' s' q ⟨m,hm⟩ r inv;show wpAny _ X.A (assign (.Name x t) X.env (.ref U)) _ _ _;refine wpAny_assign_Name (ow (i:=i) (v:= .ref U) inv hN hx (.inl P) rfl (?_) (.inr P));rintro Y I6 ⟨a,RU,ha⟩
 have K:C≠a:=by
  rcases ha with z|z
  ·rw [z];exact r.nl
  ·exact λe=>r.nc x a z e.symm
 refine ⟨m,hm.sameBut RU K,λh' OJ=>?_⟩;refine ⟨_,H',I6.turned (t':=Y.toks) (it:=C) (λb o hb e=>OJ.extBut b o hb e) r.nt r.nl (.inr r.ab) r.nc r.np,q⟩
end
open PySem.AutoSeq1 (wpAny_loadPart')
def ItB (b:Bool) (h:Heap) (it a:Addr) (i:Nat):Prop:=match b with|true=>h.IsListIter it a i|false=>h.IsTupleIter it a i
def SeB (b:Bool) (h:Heap) (a:Addr) (items:Array Value):Prop:=match b with|true=>h.IsList a items|false=>h.IsTuple a items
def SqB (b:Bool) (K:Frg) (H:Hp) (a:Addr) (xs:List V):Prop:=match b with|true=>SqL K H a xs|false=>SqT K H a xs
def ItB.at   (x:ItB b h it a i) (k:∀o,h.get? it=some o->h'.get? it=some o):ItB b h' it a i:=by
 cases b with
 |true=>obtain ⟨o,g,r⟩:=x;exact ⟨o,k o g,r⟩
 |false=>obtain ⟨o,g,r⟩:=x;exact ⟨o,k o g,r⟩
def ItB.obj   (x:ItB b h it a i):∃o,h.get? it=some o/\∀v,o.data≠ .cell v:=by
 cases b with
 |true=>obtain ⟨o,g,c,d⟩:=x;exact ⟨o,g,λv z=>by rw [d] at z;cases z⟩
 |false=>obtain ⟨o,g,c,d⟩:=x;exact ⟨o,g,λv z=>by rw [d] at z;cases z⟩
def SeB.at   (x:SeB b h a items) (k:∀o,h.get? a=some o->h'.get? a=some o):SeB b h' a items:=by
 cases b with
 |true=>obtain ⟨o,g,r⟩:=x;exact ⟨o,k o g,r⟩
 |false=>obtain ⟨o,g,r⟩:=x;exact ⟨o,k o g,r⟩
def SeB.obj   (x:SeB b h a items):∃o,h.get? a=some o:=by
 cases b with
 |true=>obtain ⟨o,g,r⟩:=x;exact ⟨o,g⟩
 |false=>obtain ⟨o,g,r⟩:=x;exact ⟨o,g⟩
section
variable {X:Cx} {pins:Pn} {σ:L2.St} {H:Hp} {s:Shared} {a:Addr} {xs ys:List V} {b:Bool}
def seB (I:Inv X pins σ H s) (h:SqB b X.K H a xs):∃its:List Value,xx xs its/\SeB b s.heap a its.toArray/\xs.length<=sizeLine:=by
 cases b with
 |true=>obtain ⟨its,r,p,z⟩:=I.list h;exact ⟨its,r,p.isList,z⟩
 |false=>obtain ⟨its,r,p,z⟩:=I.tuple h;exact ⟨its,r,p,z⟩
def rC (I:Inv X pins σ H s) (h:SqB b X.K H a xs) (h':SqB b X.K H a ys):xs=ys:=by
 cases b with
 |true=>exact I.list_inj h h'
 |false=>exact I.tuple_inj h h'
end
section
variable {prog:Program} {w:World} {A:Around} {E:Value->Shared->Prop} {s:Shared}
def bK  {items}  (hit:s.heap.IsTupleIter it t i)
 (ht:s.heap.IsTuple t items) (q:items[i]? =some x)
 (u:∀h',h'.IsTupleIter it t (i+1)->Heap.SameBut it s.heap h'->Q x {s with heap:=h'}):
 wpAny (model prog w) A (Builtin.SmallTypes.nextOf (.ref it)) Q E s:=by
 obtain ⟨o,g,r,hd⟩:=id hit;obtain ⟨ol,m,_,nl,p⟩:=ht;unfold Builtin.SmallTypes.nextOf
 refine Qg (Tr (name:=Str.ofString "__next__") hit.typeIs jaX
  (TX jaX hit.typeIs F.entry_tuple_iterator_next ?_ (F.args_tuple_iterator_next_1 _)))
 show wpAny _ _ (field (.ref it) 0>>=_) _ _ s;refine Qg (jaA g hd (x:= .ref t) rfl ?_);show wpAny _ _ (if (Value.ref t==Value.none)=true then _ else _) _ _ s;rw [QO (show ¬((Value.ref t==Value.none)=true) from QA)];show wpAny _ _ (field (.ref it) 1>>=_) _ _ s;refine Qg (jaA g hd (x:= .int i 0) rfl ?_);show wpAny _ _ (seqItems? (.ref t)>>=_) _ _ s;refine Qg (jbf m p ?_);simp only [Td,q];refine Qg (jbg g hd (by simp) (Qo ⟨x,rfl,Qo (u _ ?_ (jad ..))⟩))
 exact ⟨_,jaJ _ g (Obj.isFreed_of_fields (jbY hd _)),(Obj.cls_mapFields ..).trans r,by
  rw [jbY hd];simp [rawInt]⟩
def dB  {items} (r:A.handled=none)
 (hit:s.heap.IsTupleIter it t i) (ht:s.heap.IsTuple t items) (u:items[i]? =none)
 (y:∀h' e,Heap.ExtBut it s.heap h'->(∃o,h'.get? e=some o/\o.cls= .type "StopIteration")->E (.ref e) {s with heap:=h'}):
 wpAny (model prog w) A (Builtin.SmallTypes.nextOf (.ref it)) Q E s:=by
 obtain ⟨o,p,z,hd⟩:=id hit;obtain ⟨ol,g,_,nl,q⟩:=ht;unfold Builtin.SmallTypes.nextOf
 refine Qg (Tr (name:=Str.ofString "__next__") hit.typeIs jaX
  (TX jaX hit.typeIs F.entry_tuple_iterator_next ?_ (F.args_tuple_iterator_next_1 _)))
 show wpAny _ _ (field (.ref it) 0>>=_) _ _ s;refine Qg (jaA p hd (x:= .ref t) rfl ?_);show wpAny _ _ (if (Value.ref t==Value.none)=true then _ else _) _ _ s;rw [QO (show ¬((Value.ref t==Value.none)=true) from QA)];show wpAny _ _ (field (.ref it) 1>>=_) _ _ s;refine Qg (jaA p hd (x:= .int i 0) rfl ?_);show wpAny _ _ (seqItems? (.ref t)>>=_) _ _ s;refine Qg (jbf g q ?_);simp only [Td,u];refine Qg (jce (Qg (jbg p hd (by simp) ?_)));show wpAny _ _ (newExc (.type "StopIteration") []>>=_) _ _ _;refine Qg ?_;simp only [newExc,newTuple];refine Qg (Ti ?_ (by size_fits));refine Qg (m:=firstArgMember _ _) (wpAny_of_eq (a:=Value.none) (by first|rfl|(simp only [firstArgMember];rfl)) ?_);refine Ti ?_ (by size_fits);simp only [raiseNew];refine Qg (wpAny_handled ?_)
 first|rw [show A.in1.handled=none from r]|rw [r]
 refine Qg (Qo (wpAny_throw ?_));exact y _ _ (((jad ..).extBut.push _).push _) ⟨_,Qx _ rfl,rfl⟩
def VD  {items}  (hit:ItB b s.heap it a i) (m:SeB b s.heap a items) (g:items[i]? =some x)
 (p:∀h',ItB b h' it a (i+1)->Heap.SameBut it s.heap h'->Q x {s with heap:=h'}):wpAny (model prog w) A (Builtin.SmallTypes.nextOf (.ref it)) Q E s:=by
 cases b with
 |true=>exact wpAny_nextOf_list_item hit m g p
 |false=>exact bK hit m g p
def aq  {items} (p:A.handled=none) (hit:ItB b s.heap it a i) (m:SeB b s.heap a items) (g:items[i]? =none)
 (q:∀h' e,Heap.ExtBut it s.heap h'->(∃o,h'.get? e=some o/\o.cls= .type "StopIteration")->E (.ref e) {s with heap:=h'}):
 wpAny (model prog w) A (Builtin.SmallTypes.nextOf (.ref it)) Q E s:=by
 cases b with
 |true=>exact wpAny_nextOf_list_end p hit m g q
 |false=>exact dB p hit m g q
end
def drawsB  (u:A.handled=none) (b:Bool) (it a:Addr) (C:a≠it) (items:Array Value):
 Draws prog w A it [it,a] items.size (λi x=>items[i]? =some x) (λi h=>ItB b h it a i/\SeB b h a items) where
 live:=λi h g=>by obtain ⟨o,t,_⟩:=g.1.obj;exact ⟨o,t⟩
 frame:=λi h h' g p=>⟨g.1.at λo e=>p _ (by simp) o e,g.2.at λo e=>p _ (by simp) o e⟩
 item:=λi s Q E q g y=>VD g.1 g.2 (Array.getElem?_eq_getElem q) λh' m r=>y _ h' s.toks (Array.getElem?_eq_getElem q) ⟨m,g.2.at λo e=>(r.2 _ C).trans e⟩ r
 done:=λs Q E g z=>aq u g.1 g.2 (by simp) z
def aD {X:Cx} {pins:Pn} {σ:L2.St} {H:Hp} {s:Shared} {h':Heap} {t':Nat} {ch:List Addr} {a:Addr} {o:HO} (I:Inv X pins σ H s) (hf:∀b∈ch,tN X pins H b)
 (k:∀b o,b∉ch->s.heap.get? b=some o->h'.get? b=some o) (C:∀b∈ch,∃o,h'.get? b=some o) (ha:s.heap.objs.size<=a) (new:Yp X.prog X.w (upd H a o) h' a o):
 Inv X pins σ (upd H a o) {s with heap:=h',toks:=t'}:=by
 have t:H a=none:=I.hok.fresh ha;have same:zP H (upd H a o):=zP.new t o
 refine I.step (g':=s.gens) (d':=s.drawn) (ch:=ch) (λb p=>⟨(hf b p).2.2.2.1,(hf b p).2.1,(hf b p).2.2.2.2.1,(hf b p).2.2.2.2.2⟩) (λb u _ _ g e _=>k b u g e) (λb u _ _ g e _=>⟨u.slots,k b u g e⟩)
  (λb u g e n=>by rw [ya (QQ (QZ (Qv e) ha))];exact n) (λb u g e=>⟨u,k b u g e⟩) (λb xs e=>same _ _ e) (λb u v e=>same _ _ e) (λb ps e=>⟨#[],by rw [same _ _ e];simp⟩) (λm hm=>?_) (λb u e=>?_) I.bare
 ·obtain ⟨y,es,ep,A,r⟩:=hm;exact ⟨y,es,ep,k _ y (λz=>(hf _ z).2.1 rfl) A,r⟩
 ·by_cases p:b=a
  ·subst p;rw [yf] at e;cases e;exact new
  ·rw [ya p] at e;refine (I.hok b u e).stay (λc v g q=>k c v ?_ q) (λ_ q=>same _ _ q) λ_ _ q=>same _ _ q;intro z
   rcases g with q|q
   ·rw [q] at z;rw [(hf b z).1] at e;cases e
   ·rw [(hf c z).1] at q;cases q
noncomputable def ItE (b:Bool) (K:Frg) (a:Addr):It:=
 ⟨λi H=>∃xs x,SqB b K H a xs/\xs[i]? =some x,λi H v H'=>∃p x,(∀xs,SqB b K H a xs->xs[i]? =some x)/\H p=none/\v= .ref p/\H'=upd H p (.tup [.int i,x]),λi H=>∃xs,SqB b K H a xs/\xs.length<=i⟩
def oz:(2:Nat)<=sizeLine:=by decide
def Bg {P:Program} {w:World} {K:Frg} {elts:List Expr} {k:Nat} {pos:Pos} (b:Bool) (a e it:Addr) (RA:a≠it) (J:e≠it) (Y:e≠a):
 Turn P w K (.Tuple elts k pos) (ItE b K a) [e,it] e (λi h=>(∃old,IsEnum h e it i old)/\ItB b h it a i) where
 mem:=by simp
 obj:=λi h st c g=>by
  rcases Ql.mp g with rfl|g
  ·obtain ⟨old,z⟩:=st.1;exact ⟨_,z,λv q=>by cases q⟩
  ·obtain rfl:c=it:=by simpa using g
   exact st.2.obj
 keep:=λi h h' st kk=>by
  obtain ⟨⟨old,z⟩,y⟩:=st;exact ⟨⟨old,kk e (by simp) _ z⟩,y.at λo q=>kk it (by simp) o q⟩
 item:=by
  intro X C hw hK g i pins s σ H E I hf st hg;subst C hw hK;obtain ⟨⟨old,he⟩,hit⟩:=st;obtain ⟨xs,x,D,N⟩:=hg;obtain ⟨its,M,p,hz⟩:=seB I D;obtain ⟨u,hu,ru⟩:=M.get N;have U:=I.ok.hd g;have hi:i<its.toArray.size:=by have:=(Qd.mp hu).1;simpa using this
  refine wpAny_pyNext_enum_itemD (drawsB (A:=X.A.in1) U b it a RA its.toArray) he ⟨hit,p⟩ hi J (by simp only [Ql,Qm,or_false,not_or];exact ⟨J,Y⟩) λm h' tk C O MR G Np hk=>?_
  have ex:m=u:=by
   have t:its[i]? =some m:=by simpa using C
   rw [hu] at t;exact (QH t).symm
  subst ex;refine ⟨_,rfl,wpAny_letOwnedTupleGo_enum O λOC Rt L=>?_⟩;have Rq:e<s.heap.objs.size:=Qv he;have r:it<s.heap.objs.size:=by obtain ⟨o,z,_⟩:=hit.obj;exact Qv z
  have Og:OC.get? s.heap.objs.size=some {cls:= .type "tuple",data:= .seq #[.int i tk,m]}:=(L.2 _ (jaZ Rq)).trans G;refine ⟨.ref s.heap.objs.size,upd H s.heap.objs.size (.tup [.int i,x]),?_,rfl,⟨_,x,λys hy=>by rw [rC I hy D];exact N,I.fresh,rfl,rfl⟩,⟨⟨m,by simpa using Rt⟩,MR.1.at λo q=>(L.2 _ J.symm).trans q⟩,λc g=>?_⟩
  ·refine aD (s:=s) (t':=tk+1) (ch:=[e,it]) I hf (λc o Z q=>(L.2 c (λz=>Z (by simp [z]))).trans (hk c o (λz=>Z (by simp [z])) (λz=>Z (by simp [z])) q)) (λc g=>?_) (Qu _) ⟨oz,[.int i tk,m], .cons ⟨tk,rfl⟩ (.cons ru .nil),⟨_,Og,rfl,_,rfl⟩⟩
   rcases Ql.mp g with rfl|g
   ·exact ⟨_,Rt⟩
   ·obtain rfl:c=it:=by simpa using g
    obtain ⟨o,z,_⟩:=MR.1.obj;exact ⟨o,(L.2 _ J.symm).trans z⟩
  ·have MF:c<s.heap.objs.size:=by
    rcases Ql.mp g with rfl|g
    ·exact Rq
    ·obtain rfl:c=it:=by simpa using g
     exact r
   rw [ya (QQ MF)];exact (hf c g).1
 done:=by
  intro X C hw hK g i pins s σ H E I hf st hg;subst C hw hK;obtain ⟨⟨old,he⟩,hit⟩:=st;obtain ⟨xs,D,N⟩:=hg;obtain ⟨its,M,p,hz⟩:=seB I D;have U:=I.ok.hd g;have hl:=M.length;obtain ⟨f0,f1,f2,f3,f4,f5⟩:=hf it (by simp);have G:s.TypeIs (.ref e) "enumerate":=⟨_,he,rfl⟩;unfold pyNext;refine Qg (jbF (Tr (name:=Str.ofString "__next__") G F.slot_enumerate_next (TX F.slot_enumerate_next G F.entry_enumerate_next ?_ (F.args_enumerate_next_1 _))));show wpAny _ _ (field (.ref e) 2>>=_) _ _ _;refine Qg (jaA he rfl (x:= .ref it) rfl ?_);refine Qg (aq (A:=X.A.in1) U hit p (by simp;omega) λh' y Rv MV=>?_);obtain ⟨o,O,Oo⟩:=MV;refine Qg (wpAny_isInstance (T:="StopIteration") (b:=true) ⟨o,O,Oo⟩ isSubtype_stop ?_);exact Qo ⟨rfl,I.turned (t':=s.toks) (λc o hb e=>Rv c o hb e) f0 f1 f3 f4 f5⟩
 self:=λ_ _ _ _ _ st h=>by
  obtain ⟨⟨old,he⟩,_⟩:=st;exact wpAny_pyIter_enum he h
def pU (l:Addr) (items:Array Value) (n:Nat) (q:Option Addr) (sl:Array (Option Value)):
 Meets (Builtin.«enumerate.__new__» ⟨[.type "enumerate", .ref l],[]⟩) (λ_ R s=>s.heap.get? l=some {cls:= .type "tuple",dict:=q,data:= .seq items n,slots:=sl}/\
  R (.ok (.ret (.ref (s.heap.push {cls:= .type "tuple_iterator",data:= .fields #[.ref l, .int 0 0]}).objs.size)))
    {s with heap:=(s.heap.push {cls:= .type "tuple_iterator",data:= .fields #[.ref l, .int 0 0]}).push {cls:= .type "enumerate",data:= .fields #[.none, .bool false, .ref s.heap.objs.size,rawInt 0, .none, .none]}}):=
 .of_wp λprog w A R s h=>by
  obtain ⟨hp,g,d,tk,os⟩:=s;obtain ⟨m,h⟩:=h;have r:=sub_enumerate;have p:Heap.IsTuple (Shared.heap ⟨hp,g,d,tk,os⟩) l items:=⟨_,m,rfl,n,rfl⟩
  wp_walk using jbk m
  refine wpAny_stack_any λst=>Qo ?_
  split
  ·rename_i c _ _ _ _ _;cases (c==Value.type "enumerate")
   ·wp_walk using jbk m,jau p
    exact ⟨_,rfl,h⟩
   ·wp_walk using jbk m,jau p
    exact ⟨_,rfl,h⟩
  ·wp_walk using jbk m,jau p
   exact ⟨_,rfl,h⟩
def Ax     (p:SeB b s.heap l items)
 (h:∀h',IsEnum h' (s.heap.objs.size+1) s.heap.objs.size 0 .none->ItB b h' s.heap.objs.size l 0->h'.objs.size=s.heap.objs.size+2->
  (∀b o,s.heap.get? b=some o->h'.get? b=some o)->Q (.ref (s.heap.objs.size+1)) {s with heap:=h'}):
 wpAny (model prog w) A (call (.type "enumerate") [.ref l]) Q E s:=by
 cases b with
 |true=>exact call_enumerate_list p h
 |false=>
  obtain ⟨⟨c,m,r,sl⟩,q,g,n,hd⟩:=p
  replace g:c= .type "tuple":=g
  replace hd:r= .seq items n:=hd
  subst g hd
  refine callType_new F.called_enumerate nofun (F.typeCall_enumerate_1 _) (F.newCall_enumerate_1 _) (λobj=>F.args_object_init_2 obj _) F.entry_enumerate_new
   (pU l items n m sl) ⟨q,?_⟩
  have hz:(s.heap.push {cls:= .type "tuple_iterator",data:= .fields #[.ref l, .int 0 0]}).objs.size=s.heap.objs.size+1:=QV ..;show _/\_;rw [hz]
  have he:IsEnum ((s.heap.push {cls:= .type "tuple_iterator",data:= .fields #[.ref l, .int 0 0]}).push
   {cls:= .type "enumerate",data:= .fields #[.none, .bool false, .ref s.heap.objs.size,rawInt 0, .none, .none]}) (s.heap.objs.size+1) s.heap.objs.size 0 .none:=by
   have:=Qx (s.heap.push {cls:= .type "tuple_iterator",data:= .fields #[.ref l, .int 0 0]})
    (o:={cls:= .type "enumerate",data:= .fields #[.none, .bool false, .ref s.heap.objs.size,rawInt 0, .none, .none]}) rfl
   rw [hz] at this;exact this
  refine ⟨⟨_,he,rfl⟩,h _ he ⟨_,Qi _ (Qx _ rfl),rfl,rfl⟩ (by rw [QV,hz]) λb o x=>Qi _ (Qi _ x)⟩
section
variable {X:Cx}
def iEnum (b:Bool) (K:Frg) (g:TA):TI:=λσ H R=>g σ H λvs H1=>∃a,vs=[.ref a]/\(∃xs,SqB b K H1 a xs)/\R (ItE b K a) H1
def pi_enum (b:Bool) {elts:List Expr} {k:Nat} {m:Pos} {a:Expr} {t:TA} {p pos:Pos} (L:Gl X "enumerate") (hm:X.mg "enumerate"=none) (ha:PA X [a] t) (D:starEach [a] X.env=[(false,eval a X.env)]:=by rfl):
 PI X (.Tuple elts k m) (.Call (.Name "enumerate" p) [a] [] pos) (iEnum b X.K t):=by
 intro pins s σ H R I h;refine Call_ (ax I L hm qp (jap (thn (ha pos pins s σ H _ I h) ?_) D rfl));rintro us s1 ⟨vs,H1,g,A,C⟩;obtain ⟨l,e,⟨xs,G⟩,q⟩:=C;subst e;obtain ⟨u,rfl,ru⟩:=UK A;cases (show u=Value.ref l from ru);obtain ⟨its,N,w,hz⟩:=seB g G;refine Ax w λh' he hit O J=>wpAny_pyIter_enum he ?_;have M:Inv X pins σ H1 {s1 with heap:=h'}:=g.kept (t':=s1.toks) J;have y:l<s1.heap.objs.size:=by obtain ⟨o,z⟩:=w.obj;exact Qv z
 refine ⟨s1.heap.objs.size+1,[s1.heap.objs.size+1,s1.heap.objs.size],_,_,H1,rfl,M,Bg b l _ _ (QQ y) (Nat.succ_ne_self _) (jaZ (TH y)),⟨⟨_,he⟩,hit⟩,λc r=>?_,q⟩
 rcases Ql.mp r with rfl|r
 ·exact g.fpOk (jat _) (g.hok.fresh (jat _))
 ·obtain rfl:c=s1.heap.objs.size:=by simpa using r
  exact g.fpOk (Qu _) (g.hok.fresh (Qu _))
end
def ItB.extBut   (x:ItB b h it a i) (g:Heap.ExtBut c h h') (m:it≠c):ItB b h' it a i:=x.at λo e=>g _ o m e
def SeB.extBut   (x:SeB b h a items) (g:Heap.ExtBut c h h') (m:a≠c):SeB b h' a items:=x.at λo e=>g _ o m e
section
variable {prog:Program} {w:World} {A:Around} {E:Value->Shared->Prop} {s:Shared}
open PySem
def AY {m r:Bool} {z TI TO q p G C:Addr} {K J:Nat} {xs ys:Array Value} {x y a b:Value} {Q:Value->Shared->Prop} (D:ZipApart z TI TO q p G C)
 (hz:IsZip s.heap z TI TO .none) (NQ:IsPair s.heap TI (.ref q) (.ref p)) (g:IsPair s.heap TO a b)
 (u:ItB m s.heap q G K) (t:ItB r s.heap p C J) (NC:SeB m s.heap G xs) (Nm:SeB r s.heap C ys) (Y:xs[K]? =some x) (X:ys[J]? =some y)
 (Z:∀h',IsZip h' z TI TO (rawInt s.heap.objs.size)->IsPair h' TO x y->ItB m h' q G (K+1)->ItB r h' p C (J+1)->IsPair h' s.heap.objs.size x y->h'.objs.size=s.heap.objs.size+1->
  (∀c o,c≠z->c≠TO->c≠q->c≠p->s.heap.get? c=some o->h'.get? c=some o)->Q (.ref s.heap.objs.size) {s with heap:=h'}):
 wpAny (model prog w) A (Builtin.«zip.__next__» ⟨[.ref z],[]⟩) (λfin s'=>∃v,fin= .done (.ret v)/\Q v s') E s:=by
 show wpAny _ _ (field (.ref z) 2>>=_) _ _ _;refine Qg (jaA hz rfl (x:= .bool false) rfl ?_);show wpAny _ _ (field (.ref z) 3>>=_) _ _ _;refine Qg (jaA hz rfl (x:= .ref TI) rfl ?_);refine Qg (jbf NQ rfl ?_);show wpAny _ _ (Builtin.SmallTypes.ownedTupleIsFree (.ref z)>>=_) _ _ _;refine Qg ?_;unfold Builtin.SmallTypes.ownedTupleIsFree;refine Qg (jaA hz rfl (x:= .none) rfl (Qo ?_));simp only [if_true];refine Qg (jce ?_);refine Qg (jaA hz rfl (x:= .ref TO) rfl ?_);refine Qg (jba hz (by simp) λh₁ hz₁ hs₁=>?_)
 replace hz₁:IsZip h₁ z TI TO .ellipsis:=hz₁
 refine Qg ?_;simp only [List.zipIdx_cons,List.zipIdx_nil,List.forIn_cons,List.forIn_nil];refine Qg (Qg (wpAny_onRaise ?_));show wpAny _ _ (Builtin.SmallTypes.nextOf (.ref q)>>=_) _ _ _;refine Qg (VD (u.extBut hs₁.extBut D.i1z) (NC.extBut hs₁.extBut D.l1z) Y λh₂ u₂ hs₂=>Qo ?_);have g₂:IsPair h₂ TO a b:=hs₂.extBut _ _ D.TOi1 (hs₁.extBut _ _ D.TOz g);refine Qg (jbf g₂ rfl ?_);refine Qg (wpAny_updateSeq_pair g₂ λh₃ g₃ hs₃=>?_)
 replace g₃:IsPair h₃ TO x b:=g₃
 refine Qg (wpAny_letGo (Qo ?_));refine Qg (Qg (wpAny_onRaise ?_));show wpAny _ _ (Builtin.SmallTypes.nextOf (.ref p)>>=_) _ _ _
 refine Qg (VD (((t.extBut hs₁.extBut D.i2z).extBut hs₂.extBut D.i12.symm).extBut hs₃.extBut D.TOi2.symm)
  (((Nm.extBut hs₁.extBut D.l2z).extBut hs₂.extBut D.l2i1).extBut hs₃.extBut D.l2TO) X λh₄ t₄ hs₄=>Qo ?_)
 have g₄:IsPair h₄ TO x b:=hs₄.extBut _ _ D.TOi2 g₃;refine Qg (jbf g₄ rfl ?_);refine Qg (wpAny_updateSeq_pair g₄ λh₅ g₅ hs₅=>?_)
 replace g₅:IsPair h₅ TO x y:=g₅
 refine Qg (wpAny_letGo (Qo (Qo ?_)));refine Qg (jbf g₅ rfl ?_);refine Qg (wpAny_newTuple ?_);have U:h₅.objs.size=s.heap.objs.size:=by rw [hs₅.1,hs₄.1,hs₃.1,hs₂.1,hs₁.1]
 have hz₅:IsZip h₅ z TI TO .ellipsis:=hs₅.extBut _ _ D.TOz.symm (hs₄.extBut _ _ D.i2z.symm (hs₃.extBut _ _ D.TOz.symm (hs₂.extBut _ _ D.i1z.symm hz₁)))
 have hk₅:∀c o,c≠z->c≠TO->c≠q->c≠p->s.heap.get? c=some o->h₅.get? c=some o:=λc o m r P O e=>
  hs₅.extBut _ _ r (hs₄.extBut _ _ O (hs₃.extBut _ _ r (hs₂.extBut _ _ P (hs₁.extBut _ _ m e))))
 have u₅:ItB m h₅ q G (K+1):=((u₂.extBut hs₃.extBut D.TOi1.symm).extBut hs₄.extBut D.i12).extBut hs₅.extBut D.TOi1.symm;have t₅:ItB r h₅ p C (J+1):=t₄.extBut hs₅.extBut D.TOi2.symm;have T:z<h₅.objs.size:=Qv hz₅;have N:TO<h₅.objs.size:=Qv g₅;have M:q<h₅.objs.size:=by obtain ⟨_,e,_⟩:=u₅.obj;exact Qv e
 have L:p<h₅.objs.size:=by obtain ⟨_,e,_⟩:=t₅.obj;exact Qv e
 show wpAny _ _ (Builtin.SmallTypes.ownedTupleHandOut (.ref z) (.ref h₅.objs.size)>>=_) _ _ _;refine Qg ?_;unfold Builtin.SmallTypes.ownedTupleHandOut;have hz₆:IsZip (h₅.push {cls:= .type "tuple",data:= .seq #[x,y]}) z TI TO .ellipsis:=Qi _ hz₅;refine Qg (jba hz₆ (by simp) λh₇ hz₇ hs₇=>?_)
 replace hz₇:IsZip h₇ z TI TO (rawInt h₅.objs.size):=hz₇
 refine jba hz₇ (by simp) λh₈ hz₈ hs₈=>?_
 replace hz₈:IsZip h₈ z TI TO (rawInt h₅.objs.size):=hz₈
 have up:∀c o,c≠z->h₅.get? c=some o->h₈.get? c=some o:=λc o m e=>hs₈.extBut _ _ m (hs₇.extBut _ _ m (Qi _ e));have hT₈:IsPair h₈ h₅.objs.size x y:=hs₈.extBut _ _ (jaZ T) (hs₇.extBut _ _ (jaZ T) (Qx _ rfl));have I:h₈.objs.size=h₅.objs.size+1:=by rw [hs₈.1,hs₇.1,QV]
 rw [U] at hz₈ hT₈ I;refine Qo ⟨_,rfl,?_⟩;show Q (.ref h₅.objs.size) _;rw [U];exact Z h₈ hz₈ (up _ _ D.TOz g₅) (u₅.at λo e=>up _ o D.i1z e) (t₅.at λo e=>up _ o D.i2z e) hT₈ I λc o m r P O e=>up c o m (hk₅ c o m r P O e)
def Ff {g y:Bool} {z TI TO r q I G:Addr} {K J:Nat} {xs ys:Array Value} {a b:Value} {Q:Fin->Shared->Prop} (N:A.handled=none) (D:ZipApart z TI TO r q I G)
 (hz:IsZip s.heap z TI TO .none) (Z:IsPair s.heap TI (.ref r) (.ref q)) (u:IsPair s.heap TO a b)
 (L:ItB g s.heap r I K) (U:ItB y s.heap q G J) (P:SeB g s.heap I xs) (Y:SeB y s.heap G ys) (NI:xs[K]? =none\/ys[J]? =none)
 (O:∀h' e,(∀c o,c≠z->c≠TO->c≠r->c≠q->s.heap.get? c=some o->h'.get? c=some o)->(∃o,h'.get? e=some o/\o.cls= .type "StopIteration")->E (.ref e) {s with heap:=h'}):
 wpAny (model prog w) A (Builtin.«zip.__next__» ⟨[.ref z],[]⟩) Q E s:=by
 show wpAny _ _ (field (.ref z) 2>>=_) _ _ _;refine Qg (jaA hz rfl (x:= .bool false) rfl ?_);show wpAny _ _ (field (.ref z) 3>>=_) _ _ _;refine Qg (jaA hz rfl (x:= .ref TI) rfl ?_);refine Qg (jbf Z rfl ?_);show wpAny _ _ (Builtin.SmallTypes.ownedTupleIsFree (.ref z)>>=_) _ _ _;refine Qg ?_;unfold Builtin.SmallTypes.ownedTupleIsFree;refine Qg (jaA hz rfl (x:= .none) rfl (Qo ?_));simp only [if_true];refine Qg (jce ?_);refine Qg (jaA hz rfl (x:= .ref TO) rfl ?_);refine Qg (jba hz (by simp) λh₁ hz₁ hs₁=>?_)
 replace hz₁:IsZip h₁ z TI TO .ellipsis:=hz₁
 refine Qg ?_;simp only [List.zipIdx_cons,List.zipIdx_nil,List.forIn_cons,List.forIn_nil];refine Qg (Qg (wpAny_onRaise ?_));show wpAny _ _ (Builtin.SmallTypes.nextOf (.ref r)>>=_) _ _ _
 cases hx:xs[K]? with
 |none=>
  refine Qg (aq N (L.extBut hs₁.extBut D.i1z) (P.extBut hs₁.extBut D.l1z) hx λh₂ e hs₂ he=>?_);obtain ⟨C,p,t⟩:=he;have hz₂:IsZip h₂ z TI TO .ellipsis:=hs₂ _ _ D.i1z.symm hz₁;have m:e≠z:=λx=>by subst x;rw [hz₂] at p;cases p;simp at t
  refine jba hz₂ (by simp) λh₃ _ hs₃=>O h₃ e (λc o g _ M _ x=>hs₃.extBut _ _ g (hs₂ _ _ M (hs₁.extBut _ _ g x))) ⟨C,hs₃.extBut _ _ m p,t⟩
 |some x=>
  have T:ys[J]? =none:=by rcases NI with h|h;rw [hx] at h;cases h;exact h
  refine Qg (VD (L.extBut hs₁.extBut D.i1z) (P.extBut hs₁.extBut D.l1z) hx λh₂ L₂ hs₂=>Qo ?_);have u₂:IsPair h₂ TO a b:=hs₂.extBut _ _ D.TOi1 (hs₁.extBut _ _ D.TOz u);refine Qg (jbf u₂ rfl ?_);refine Qg (wpAny_updateSeq_pair u₂ λh₃ u₃ hs₃=>?_);refine Qg (wpAny_letGo (Qo ?_));refine Qg (Qg (wpAny_onRaise ?_));show wpAny _ _ (Builtin.SmallTypes.nextOf (.ref q)>>=_) _ _ _
  refine Qg (aq N (((U.extBut hs₁.extBut D.i2z).extBut hs₂.extBut D.i12.symm).extBut hs₃.extBut D.TOi2.symm)
   (((Y.extBut hs₁.extBut D.l2z).extBut hs₂.extBut D.l2i1).extBut hs₃.extBut D.l2TO) T λh₄ e hs₄ he=>?_)
  obtain ⟨C,p,t⟩:=he;have hz₄:IsZip h₄ z TI TO .ellipsis:=hs₄ _ _ D.i2z.symm (hs₃.extBut _ _ D.TOz.symm (hs₂.extBut _ _ D.i1z.symm hz₁));have m:e≠z:=λx=>by subst x;rw [hz₄] at p;cases p;simp at t
  refine jba hz₄ (by simp) λh₅ _ hs₅=>O h₅ e (λc o g y M X x=>hs₅.extBut _ _ g (hs₄ _ _ X (hs₃.extBut _ _ y (hs₂.extBut _ _ M (hs₁.extBut _ _ g x))))) ⟨C,hs₅.extBut _ _ m p,t⟩
end
noncomputable def ItZ (m g:Bool) (K:Frg) (a1 a2:Addr):It:=
 ⟨λi H=>∃xs ys x y,SqB m K H a1 xs/\SqB g K H a2 ys/\xs[i]? =some x/\ys[i]? =some y,
  λi H v H'=>∃p x y,(∀xs,SqB m K H a1 xs->xs[i]? =some x)/\(∀ys,SqB g K H a2 ys->ys[i]? =some y)/\H p=none/\v= .ref p/\H'=upd H p (.tup [x,y]),
  λi H=>∃xs ys,SqB m K H a1 xs/\SqB g K H a2 ys/\(xs.length<=i\/ys.length<=i)⟩
def Fs {P:Program} {w:World} {K:Frg} {elts:List Expr} {k:Nat} {pos:Pos} (c1 c2:Bool) (z TI TO t p l1 l2:Addr) (D:ZipApart z TI TO t p l1 l2):
 Turn P w K (.Tuple elts k pos) (ItZ c1 c2 K l1 l2) [z,TI,TO,t,p] z (λi h=>IsZip h z TI TO .none/\IsPair h TI (.ref t) (.ref p)/\(∃a b,IsPair h TO a b)/\ItB c1 h t l1 i/\ItB c2 h p l2 i) where
 mem:=by simp
 obj:=λi h st c C=>by
  obtain ⟨hz,G,⟨a,b,N⟩,M,L⟩:=st;simp only [Ql,Qm,or_false] at C
  rcases C with rfl|rfl|rfl|rfl|rfl
  ·exact ⟨_,hz,λv q=>by cases q⟩
  ·exact ⟨_,G,λv q=>by cases q⟩
  ·exact ⟨_,N,λv q=>by cases q⟩
  ·exact M.obj
  ·exact L.obj
 keep:=λi h h' st U=>by
  obtain ⟨hz,G,⟨a,b,N⟩,M,L⟩:=st;exact ⟨U z (by simp) _ hz,U TI (by simp) _ G,⟨a,b,U TO (by simp) _ N⟩,M.at λo e=>U t (by simp) o e,L.at λo e=>U p (by simp) o e⟩
 item:=by
  intro X hP hw hK C i pins s σ H E I hf st hg;subst hP hw hK;obtain ⟨hz,G,⟨a,b,N⟩,M,L⟩:=st;obtain ⟨xs,ys,x,y,Oy,Pp,hx,hy⟩:=hg;obtain ⟨PV,RM,p1,_⟩:=seB I Oy;obtain ⟨MQ,RL,p2,_⟩:=seB I Pp;obtain ⟨u1,hu1,SS⟩:=RM.get hx;obtain ⟨u2,hu2,SR⟩:=RL.get hy;have hT:s.TypeIs (.ref z) "zip":=⟨_,hz,rfl⟩;unfold pyNext
  refine Qg (jbF (Tr (name:=Str.ofString "__next__") hT F.slot_zip_next (TX F.slot_zip_next hT F.entry_zip_next
   (AY D hz G N M L p1 p2 (x:=u1) (y:=u2) ‹hu1› ‹hu2› λh' a1 a2 a3 a4 a5 a6 J=>Qo ?_) (F.args_zip_next_1 _))))
  refine ⟨_,rfl,wpAny_letOwnedTupleGo_zip a1 λO hz'' NO=>?_⟩;have lt:∀{c o},s.heap.get? c=some o->c<s.heap.objs.size:=λe=>Qv e;have Z:t<s.heap.objs.size:=by obtain ⟨_,e,_⟩:=M.obj;exact lt e
  have Y:p<s.heap.objs.size:=by obtain ⟨_,e,_⟩:=L.obj;exact lt e
  have hTI':IsPair h' TI (.ref t) (.ref p):=J _ _ D.TIz D.TITO D.TIi1 D.TIi2 G;have up:∀c o,c≠z->h'.get? c=some o->O.get? c=some o:=λc o C e=>(NO.2 c C).trans e;have Og:O.get? s.heap.objs.size=some {cls:= .type "tuple",data:= .seq #[u1,u2]}:=up _ _ (jaZ (lt hz)) a5
  have PM:IsZip O z TI TO .none/\IsPair O TI (.ref t) (.ref p)/\(∃a b,IsPair O TO a b)/\ItB c1 O t l1 (i+1)/\ItB c2 O p l2 (i+1):=
   ⟨hz'',up _ _ D.TIz hTI',⟨u1,u2,up _ _ D.TOz a2⟩,a3.at λo e=>up _ o D.i1z e,a4.at λo e=>up _ o D.i2z e⟩
  refine ⟨.ref s.heap.objs.size,upd H s.heap.objs.size (.tup [x,y]),?_,rfl,⟨_,x,y,λzs hy=>by rw [rC I hy Oy];exact hx,λzs NB=>by rw [rC I NB Pp];exact hy,I.fresh,rfl,rfl⟩,PM,λc C=>?_⟩
  ·refine aD (s:=s) (t':=s.toks) (ch:=[z,TI,TO,t,p]) I hf (λc o g q=>?_) (λc C=>?_) (Qu _) ⟨oz,[u1,u2], .cons SS (.cons SR .nil),⟨_,Og,rfl,_,rfl⟩⟩
   ·have n1:c≠z:=λe=>g (by simp [e]);exact up c o n1 (J c o n1 (λe=>g (by simp [e])) (λe=>g (by simp [e])) (λe=>g (by simp [e])) q)
   ·obtain ⟨z1,z2,⟨_,_,z3⟩,z4,z5⟩:=PM;simp only [Ql,Qm,or_false] at C
    rcases C with rfl|rfl|rfl|rfl|rfl
    ·exact ⟨_,z1⟩
    ·exact ⟨_,z2⟩
    ·exact ⟨_,z3⟩
    ·obtain ⟨o,e,_⟩:=z4.obj;exact ⟨o,e⟩
    ·obtain ⟨o,e,_⟩:=z5.obj;exact ⟨o,e⟩
  ·have MF:c<s.heap.objs.size:=by
    simp only [Ql,Qm,or_false] at C
    rcases C with rfl|rfl|rfl|rfl|rfl
    ·exact lt hz
    ·exact lt G
    ·exact lt N
    ·exact Z
    ·exact Y
   rw [ya (QQ MF)];exact (hf c C).1
 done:=by
  intro X hP hw hK C i pins s σ H E I hf st hg;subst hP hw hK;obtain ⟨hz,G,⟨a,b,N⟩,M,L⟩:=st;obtain ⟨xs,ys,Oy,Pp,NI⟩:=hg;obtain ⟨PV,RM,p1,_⟩:=seB I Oy;obtain ⟨MQ,RL,p2,_⟩:=seB I Pp;have e1:=RM.length;have e2:=RL.length;have hh:=I.ok.hd C;have hT:s.TypeIs (.ref z) "zip":=⟨_,hz,rfl⟩;unfold pyNext
  refine Qg (jbF (Tr (name:=Str.ofString "__next__") hT F.slot_zip_next (TX F.slot_zip_next hT F.entry_zip_next
   (Ff (A:=X.A.in1) hh D hz G N M L p1 p2 (by simp only [List.getElem?_toArray];rcases NI with q|q;exact .inl (QG ⋯);exact .inr (QG ⋯)) λh' e J he=>?_) (F.args_zip_next_1 _))))
  obtain ⟨o,ho,Oo⟩:=he;refine Qg (wpAny_isInstance (T:="StopIteration") (b:=true) ⟨o,ho,Oo⟩ isSubtype_stop ?_);refine Qo ⟨rfl,?_⟩
  refine I.step (g':=s.gens) (d':=s.drawn) (t':=s.toks) (H':=H) (ch:=[z,TO,t,p]) (λb hb=>?_) (λb u _ _ g e _=>J b u (λq=>g (by simp [q])) (λq=>g (by simp [q])) (λq=>g (by simp [q])) (λq=>g (by simp [q])) e)
   (λb u _ _ g e _=>⟨u.slots,J b u (λq=>g (by simp [q])) (λq=>g (by simp [q])) (λq=>g (by simp [q])) (λq=>g (by simp [q])) e⟩) (λ_ _ _ _ n=>n)
   (λb u g e=>⟨u,J b u (λq=>g (by simp [q])) (λq=>g (by simp [q])) (λq=>g (by simp [q])) (λq=>g (by simp [q])) e⟩) (λ_ _ e=>e) (λ_ _ _ e=>e) (λb ps e=>⟨#[],by rw [e];simp⟩) (λm hm=>?_) (λb u e=>?_) I.bare
  ·have Ng:b∈[z,TI,TO,t,p]:=by
    simp only [Ql,Qm,or_false] at hb⊢
    rcases hb with q|q|q|q<;>simp [q]
   exact ⟨(hf b Ng).2.2.2.1,(hf b Ng).2.1,(hf b Ng).2.2.2.2.1,(hf b Ng).2.2.2.2.2⟩
  ·obtain ⟨ob,es,ep,ho,r⟩:=hm;exact ⟨ob,es,ep,J _ ob (λq=>(hf z (by simp)).2.1 q.symm) (λq=>(hf TO (by simp)).2.1 q.symm) (λq=>(hf t (by simp)).2.1 q.symm) (λq=>(hf p (by simp)).2.1 q.symm) ho,r⟩
  ·refine (I.hok b u e).stay (λc v Sn q=>?_) (λ_ q=>q) λ_ _ q=>q
   have nf:∀d∈[z,TI,TO,t,p],c≠d:=λd hd z=>by
    subst z
    rcases Sn with q|q
    ·rw [<-q,(hf _ hd).1] at e;cases e
    ·rw [(hf _ hd).1] at q;cases q
   exact J c v (nf z (by simp)) (nf TO (by simp)) (nf t (by simp)) (nf p (by simp)) q
 self:=λ_ _ _ _ _ st h=>wpAny_pyIter_zip st.1 h
noncomputable def Hi (b:Bool) (l:Addr):Obj:={cls:= .type (match b with|true=>"list_iterator"|false=>"tuple_iterator"),data:= .fields #[.ref l, .int 0 0]}
noncomputable abbrev zB1 (m:Bool) (h:Heap) (g:Addr):Heap:=h.push (Hi m g)
noncomputable abbrev zB2 (q p:Bool) (h:Heap) (m g:Addr):Heap:=(zB1 q h m).push (Hi p g)
noncomputable abbrev zB3 (m q:Bool) (h:Heap) (g p:Addr):Heap:=(zB2 m q h g p).push {cls:= .type "tuple",data:= .seq #[.ref h.objs.size, .ref (zB1 m h g).objs.size]}
noncomputable abbrev zB4 (q p:Bool) (h:Heap) (m g:Addr):Heap:=(zB3 q p h m g).push {cls:= .type "tuple",data:= .seq #[.none, .none]}
noncomputable abbrev zB5 (q p:Bool) (h:Heap) (m g:Addr):Heap:=(zB4 q p h m g).push {cls:= .type "zip",data:= .fields #[.none, .bool false, .bool false, .ref (zB2 q p h m g).objs.size, .ref (zB3 q p h m g).objs.size]}
def SeB.push   (x:SeB b h a items) (o:Obj):SeB b (h.push o) a items:=x.at λ_ e=>Qi _ e
def wO (u r:Bool) (m p:Addr) (xs ys:Array Value):
 Meets (Builtin.«zip.__new__» ⟨[.type "zip", .ref m, .ref p],[]⟩) (λ_ R s=>SeB u s.heap m xs/\SeB r s.heap p ys/\
  R (.ok (.ret (.ref (zB4 u r s.heap m p).objs.size))) {s with heap:=zB5 u r s.heap m p}):=
 .of_wp λprog w A R s h=>by
  obtain ⟨hp,g,d,tk,os⟩:=s;obtain ⟨C,y,h⟩:=h;have z:=sub_zip
  cases u with
  |true=>
   have t:Heap.IsList (Shared.heap ⟨hp,g,d,tk,os⟩) m xs:=C
   cases r with
   |true=>
    have q:Heap.IsList (Shared.heap ⟨hp.push {cls:= .type "list_iterator",data:= .fields #[.ref m, .int 0 0]},g,d,tk,os⟩) p ys:=SeB.push (b:=true) y _
    wp_walk using jaF t,jaF q
    exact ⟨_,rfl,h⟩
   |false=>
    have q:Heap.IsTuple (Shared.heap ⟨hp.push {cls:= .type "list_iterator",data:= .fields #[.ref m, .int 0 0]},g,d,tk,os⟩) p ys:=SeB.push (b:=false) y _
    wp_walk using jaF t,jau q
    exact ⟨_,rfl,h⟩
  |false=>
   have t:Heap.IsTuple (Shared.heap ⟨hp,g,d,tk,os⟩) m xs:=C
   cases r with
   |true=>
    have q:Heap.IsList (Shared.heap ⟨hp.push {cls:= .type "tuple_iterator",data:= .fields #[.ref m, .int 0 0]},g,d,tk,os⟩) p ys:=SeB.push (b:=true) y _
    wp_walk using jau t,jaF q
    exact ⟨_,rfl,h⟩
   |false=>
    have q:Heap.IsTuple (Shared.heap ⟨hp.push {cls:= .type "tuple_iterator",data:= .fields #[.ref m, .int 0 0]},g,d,tk,os⟩) p ys:=SeB.push (b:=false) y _
    wp_walk using jau t,jau q
    exact ⟨_,rfl,h⟩
def uK  (e:h.get? it=some (Hi b l)):ItB b h it l 0:=by
 cases b with
 |true=>exact ⟨_,e,rfl,rfl⟩
 |false=>exact ⟨_,e,rfl,rfl⟩
def ku (b:Bool) (l:Addr):(Hi b l).isFreed=false:=by cases b<;>rfl
def Er     (t:SeB c1 s.heap l1 xs) (r:SeB c2 s.heap l2 ys)
 (h:∀h',IsZip h' (s.heap.objs.size+4) (s.heap.objs.size+2) (s.heap.objs.size+3) .none->IsPair h' (s.heap.objs.size+2) (.ref s.heap.objs.size) (.ref (s.heap.objs.size+1))->
  IsPair h' (s.heap.objs.size+3) .none .none->ItB c1 h' s.heap.objs.size l1 0->ItB c2 h' (s.heap.objs.size+1) l2 0->
  (∀c o,s.heap.get? c=some o->h'.get? c=some o)->Q (.ref (s.heap.objs.size+4)) {s with heap:=h'}):
 wpAny (model prog w) A (call (.type "zip") [.ref l1, .ref l2]) Q E s:=by
 refine callType_new F.called_zip nofun (F.typeCall_zip_2 _ _) (F.newCall_zip_2 _ _) (λobj=>F.args_object_init_3 obj _ _) F.entry_zip_new
  (wO c1 c2 l1 l2 xs ys) ⟨t,r,?_⟩
 have z1:(zB1 c1 s.heap l1).objs.size=s.heap.objs.size+1:=QV ..;have z2:(zB2 c1 c2 s.heap l1 l2).objs.size=s.heap.objs.size+2:=by rw [QV,z1]
 have g:(zB3 c1 c2 s.heap l1 l2).objs.size=s.heap.objs.size+3:=by rw [QV,z2]
 have p:(zB4 c1 c2 s.heap l1 l2).objs.size=s.heap.objs.size+4:=by rw [QV,g]
 have m:(zB5 c1 c2 s.heap l1 l2).get? (zB4 c1 c2 s.heap l1 l2).objs.size=some _:=Qx _ rfl;have q:(zB5 c1 c2 s.heap l1 l2).get? (zB3 c1 c2 s.heap l1 l2).objs.size=some _:=Qi _ (Qx _ rfl);have g3:(zB5 c1 c2 s.heap l1 l2).get? (zB2 c1 c2 s.heap l1 l2).objs.size=some _:=Qi _ (Qi _ (Qx _ rfl));have g2:(zB5 c1 c2 s.heap l1 l2).get? (zB1 c1 s.heap l1).objs.size=some _:=Qi _ (Qi _ (Qi _ (Qx _ (ku c2 l2))));have g1:(zB5 c1 c2 s.heap l1 l2).get? s.heap.objs.size=some _:=Qi _ (Qi _ (Qi _ (Qi _ (Qx _ (ku c1 l1)))));show _/\_;rw [z2,g,p] at m;rw [z1,z2] at g3;rw [g] at q;rw [z1] at g2;rw [p];exact ⟨⟨_,m,rfl⟩,h _ m g3 q (uK g1) (uK g2) λc o x=>Qi _ (Qi _ (Qi _ (Qi _ (Qi _ x))))⟩
section
variable {X:Cx}
def iZip (m g:Bool) (K:Frg) (p:TA):TI:=λσ H R=>p σ H λvs H1=>∃a1 a2,vs=[.ref a1, .ref a2]/\(∃xs,SqB m K H1 a1 xs)/\(∃ys,SqB g K H1 a2 ys)/\R (ItZ m g K a1 a2) H1
def pi_zip (G D:Bool) {elts:List Expr} {k:Nat} {g:Pos} {a b:Expr} {w:TA} {p pos:Pos} (U:Gl X "zip") (hm:X.mg "zip"=none) (ha:PA X [a,b] w) (P:starEach [a,b] X.env=[(false,eval a X.env),(false,eval b X.env)]:=by rfl) (J:starEach [b] X.env=[(false,eval b X.env)]:=by rfl):
 PI X (.Tuple elts k g) (.Call (.Name "zip" p) [a,b] [] pos) (iZip G D X.K w):=by
 intro pins s σ H R I h;refine Call_ (ax I U hm bt_zip (jap (thn (ha pos pins s σ H _ I h) ?_) (by rw [P,J]) (by rw [J];rfl)));rintro us s1 ⟨vs,H1,m,N,O⟩;obtain ⟨u,t,e,⟨xs,Oy⟩,⟨ys,Pp⟩,q⟩:=O;subst e;obtain ⟨M,L,rfl,Y,Z⟩:=Jk N;cases (show M=Value.ref u from Y);cases (show L=Value.ref t from Z);obtain ⟨PV,RM,A,_⟩:=seB m Oy;obtain ⟨MQ,RL,y,_⟩:=seB m Pp;have RQ:u<s1.heap.objs.size:=by obtain ⟨o,z⟩:=A.obj;exact Qv z
 have r:t<s1.heap.objs.size:=by obtain ⟨o,z⟩:=y.obj;exact Qv z
 refine Er A y λh' a1 a2 a3 a4 a5 T=>wpAny_pyIter_zip a1 ?_;have I2:Inv X pins σ H1 {s1 with heap:=h'}:=m.kept (t':=s1.toks) T;refine ⟨s1.heap.objs.size+4,[s1.heap.objs.size+4,s1.heap.objs.size+2,s1.heap.objs.size+3,s1.heap.objs.size,s1.heap.objs.size+1],_,_,H1,rfl,I2,Fs G D _ _ _ _ _ u t (zipApart_new RQ r),⟨a1,a2,⟨_,_,a3⟩,a4,a5⟩,λc C=>?_,q⟩
 have hle:s1.heap.objs.size<=c:=by
  simp only [Ql,Qm,or_false] at C
  rcases C with z|z|z|z|z<;>rw [z]<;>first|exact Nat.le_add_right _ _|exact Qu _
 exact m.fpOk hle (m.hok.fresh hle)
end
end S
namespace S
open PySem PySem.Spec PyProof.Rows L2
def IS {α:Type} {xs:List α} {k:Int} {v:α} (h0:0<=k) (h:xs[k.toNat]? =some v):atI xs k=some v:=by
 have g:k=((k.toNat:Nat):Int):=⋯
 rw [g];exact yt h
def eqv_fr (p q:Rat):PyData.eqv (frD p) (frD q)=decide (p=q):=by
 unfold frD;simp only [PyData.eqv,PyData.eqvAll,Bool.and_true]
 by_cases h:p=q
 ·subst h;simp
 ·rw [Th h]
  by_cases m:p.num=q.num
  ·have r:p.den≠q.den:=λz=>h (Rat.ext m z);have g:((p.den:Int)==(q.den:Int))=false:=jaE.mpr (λz=>r (Int.ofNat.inj z));rw [g,Bool.and_false]
  ·have g:(p.num==q.num)=false:=jaE.mpr m;rw [g,Bool.false_and]
abbrev zg:=Rat×List Rat
section
variable {H H':Hp} {qs:List Rat} {c:zg} {cs:List zg} {v:V} {vs:List V} {l:Addr} {xs:List V} {o:HO}
end
noncomputable def yl (qs:List Rat):PyData:= .tuple (qs.map frD)
noncomputable def zL (c:zg):PyData:= .tuple [frD c.1,yl c.2]
noncomputable def yy (cs:List zg):PyData:= .list (cs.map zL)
theorem uL {H:Hp} {α:Type} {R:α->V->Prop} {f:α->PyData} (g:∀a v,R a v->Is H (f a) v):∀{xs:List α} {vs:List V},xs.length=vs.length->(∀(i:Nat) (x:α) (v:V),xs[i]? =some x->vs[i]? =some v->R x v)->zJ H (xs.map f) vs
 |[],[],_,_=>by rw [jav,zJ]
 |[],_::_,h,_=>by simp at h
 |_::_,[],h,_=>by simp at h
 |x::xs,v::vs,hl,h=>by
  rw [Qp,zJ];exact ⟨v,vs,rfl,g x v (h 0 x v rfl rfl),uL g ‹hl› λi a b ha m=>h (i+1) a b ‹ha› ‹m›⟩
theorem Dz {α:Type} {f:α->PyData} (h:∀a,(f a).canLay0=true):∀xs:List α,PyData.canLayAll0 (xs.map f)=true
 |[]=>rfl
 |x::xs=>by rw [Qp,PyData.canLayAll0,h x,Dz h xs];rfl
theorem Ei {α:Type} {f:α->PyData} {n:Nat} (h:∀a,(f a).depth<=n):∀xs:List α,PyData.depthAll (xs.map f)<=n
 |[]=>by rw [jav,PyData.depthAll];exact TR _
 |x::xs=>by rw [Qp,PyData.depthAll];exact Nat.max_le.mpr ⟨h x,Ei h xs⟩
def lay_fr (q:Rat):(frD q).canLay0=true:=by unfold frD;simp [PyData.canLay0,PyData.canLayAll0]
def dep_fr (q:Rat):(frD q).depth<=2:=by unfold frD;simp [PyData.depth,PyData.depthAll]
def zR (g p m:zg):Prop:=∀(i:Nat) (a b c:Rat),g.2[i]? =some a->p.2[i]? =some b->m.2[i]? =some c->(b - a)*(m.1 - g.1)=(c - a)*(p.1 - g.1)
def ni (p q:Rat):Rat.divInt (q.num*p.den - p.num*q.den) (p.den*q.den)=q - p:=by
 rw [Rat.sub_def',Int.mul_comm (p.den:Int),<-Int.natCast_mul,Rat.divInt_ofNat]
def Em (q:rd≠0) (p:nd≠0) (m:wd≠0) (g:fd≠0):
 Rat.divInt rn rd*Rat.divInt fn fd=Rat.divInt wn wd*Rat.divInt nn nd↔rn*nd*wd*fn=wn*fd*rd*nn:=by
 rw [jbb,jbb,jbR (Int.mul_ne_zero q g) (Int.mul_ne_zero m p)];have s:rn*fn*(wd*nd)=rn*nd*wd*fn:=by grind
 have r:wn*nn*(rd*fd)=wn*fd*rd*nn:=by grind
 rw [s,r]
abbrev yq:=List (Addr×List PyData)
abbrev Dat:=List (PyData×V)
def YK (G:Hp) (ds:Dat):Prop:=∀p∈ds,Is G p.1 p.2
def Has (ds:Dat) (x:PyData) (v:V):Prop:=∀G,YK G ds->Is G x v
def ye (ds:Dat) (xs:List PyData) (vs:List V):Prop:=∀G,YK G ds->zJ G xs vs
def Lg (B g H:Hp) (cs:yq) (ds:Dat) (G:Hp):Prop:=
 zP g G/\zP G H/\zP B H/\(∀p,B p≠none->G p=g p)/\(∀c∈cs,B c.1=none/\G c.1=none/\∃vs,H c.1=some (.lst vs)/\zJ G c.2 vs)/\(cs.map (·.1)).Nodup/\YK G ds
def Sta (B g H:Hp) (cs:yq) (ds:Dat):Prop:=∃G,Lg B g H cs ds G
structure Grow (G H G' H':Hp):Prop where
 h:zP H H'
 g:zP G G'
 sub:zP G' H'
 old:∀p,H p≠none->G' p=G p
def YK.mono  (h:YK G ds) (e:zP G G'):YK G' ds:=λp hp=>Is.mono e _ _ (h p hp)
def YK.cons   (h:YK G ds) (g:Is G x v):YK G ((x,v)::ds):=λp hp=>by
 rcases Ql.mp hp with rfl|hp
 ·exact g
 ·exact h p hp
def Has.int  :Has ds (.int i) (.int i):=λ_ _=>by rw [Is]
def Has.str  :Has ds (.str i) (.str i):=λ_ _=>by rw [Is]
def Has.mem  (h:(x,v)∈ds):Has ds x v:=λ_ a=>a _ h
def Has.weak  (h:Has ds x v) (k:∀p∈ds,Has ds' p.1 p.2):Has ds' x v:=λG a=>h G λp hp=>k p hp G a
def Has.tail   (h:Has ds x v):Has (p::ds) x v:=h.weak λq g=> .mem (Qf _ g)
def ye.nil:ye ds [] []:=λ_ _=>by rw [zJ]
def ye.cons   (h:Has ds x v) (g:ye ds xs vs):ye ds (x::xs) (v::vs):=λG a=>by
 rw [zJ];exact ⟨v,vs,rfl,h G a,g G a⟩
theorem zJ.len:∀{xs:List PyData} {vs:List V},zJ H xs vs->xs.length=vs.length
 |[],vs,h=>by rw [zJ] at h;subst h;rfl
 |x::xs,vs,h=>by
  rw [zJ] at h;obtain ⟨v,r,rfl,_,g⟩:=h;rw [Qy,Qy,zJ.len g]
theorem zJ.at:∀{xs:List PyData} {vs:List V} {i:Nat} {x:PyData},zJ H xs vs->xs[i]? =some x->∃v,vs[i]? =some v/\Is H x v
 |[],_,_,_,_,e=>by simp at e
 |y::xs,vs,i,x,h,e=>by
  rw [zJ] at h;obtain ⟨v,r,rfl,m,g⟩:=h
  cases i with
  |zero=>simp at e;subst e;exact ⟨v,rfl,m⟩
  |succ i=>simpa using zJ.at g ‹e›
theorem zJ.app:∀{xs ys:List PyData} {vs ws:List V},zJ H xs vs->zJ H ys ws->zJ H (xs++ys) (vs++ws)
 |[],ys,vs,ws,h,g=>by rw [zJ] at h;subst h;exact g
 |x::xs,ys,vs,ws,h,g=>by
  rw [zJ] at h;obtain ⟨v,r,rfl,p,m⟩:=h;rw [TK,TK,zJ];exact ⟨v,_,rfl,p,zJ.app m g⟩
def Zr  :zJ H xs vs↔xs.length=vs.length/\∀(i:Nat) (x:PyData) (v:V),xs[i]? =some x->vs[i]? =some v->Is H x v:=by
 constructor
 ·intro h;refine ⟨h.len,λi x v m p=>?_⟩;obtain ⟨w,hw,g⟩:=h.at m;rw [p] at hw;cases hw;exact g
 ·rintro ⟨r,q⟩
  have:=uL (R:=λ(a:PyData) v=>Is H a v) (f:=id) (λ_ _ z=>z) r q
  simpa using this
def zJ.take  (h:zJ H xs vs) (n:Nat):zJ H (xs.take n) (vs.take n):=by
 rw [Zr] at h⊢;refine ⟨by rw [TC,TC,h.1],λi x v g m=>?_⟩;rw [List.getElem?_take] at g m
 split at g
 ·rename_i c;rw [QJ c] at m;exact h.2 i x v g m
 ·cases g
def zJ.drop  (h:zJ H xs vs) (n:Nat):zJ H (xs.drop n) (vs.drop n):=by
 rw [Zr] at h⊢;refine ⟨by rw [To,To,h.1],λi x v g m=>?_⟩;rw [jaj] at g m;exact h.2 _ x v g m
def zJ.set   (h:zJ H xs vs) (g:Is H x v) (n:Nat):zJ H (xs.set n x) (vs.set n v):=by
 rw [Zr] at h⊢;refine ⟨by rw [jbW,jbW,h.1],λi y w p m=>?_⟩;rw [List.getElem?_set] at p m;rw [<-h.1] at m
 split at p
 ·rename_i c;rw [QJ c] at m
  split at p
  ·rename_i q;rw [QJ q] at m;cases p;cases m;exact g
  ·cases p
 ·rename_i c;rw [QO c] at m;exact h.2 i y w p m
section
variable {B G0 H H':Hp} {cs cs':yq} {ds ds':Dat} {x y:PyData} {v w:V} {xs ys:List PyData} {vs:List V} {D:Addr} {p:Addr}
def Sta.enter (e:zP G H) (h:YK G ds):Sta H G H [] ds:=
 ⟨G,zP.refl _,e,zP.refl _,λ_ _=>rfl,λc g=>absurd g (Qm),List.nodup_nil,h⟩
def Sta.base (S:Sta B G0 H cs ds):zP B H:=by
 obtain ⟨_,_,_,b,_⟩:=S;exact b
def Sta.push (S:Sta B G0 H cs ds) (h:Has ds x v):Sta B G0 H cs ((x,v)::ds):=by
 obtain ⟨G,a,b,c,d,e,f,g⟩:=S;exact ⟨G,a,b,c,d,e,f,g.cons (h G g)⟩
def Sta.weak (S:Sta B G0 H cs ds) (m:cs'.Sublist cs) (hd:∀p∈ds',Has ds p.1 p.2):Sta B G0 H cs' ds':=by
 obtain ⟨G,a,b,c,d,e,f,g⟩:=S;exact ⟨G,a,b,c,d,λq r=>e q (m.subset r),f.sublist (m.map _),λp hp=>hd p hp G g⟩
def Sta.dat (S:Sta B G0 H cs ds) (hd:∀p∈ds',Has ds p.1 p.2):Sta B G0 H cs ds':=S.weak (jbl _) hd
def Sta.drop1 (S:Sta B G0 H cs (q::ds)):Sta B G0 H cs ds:=S.dat λp hp=> .mem (Qf _ hp)
def Sta.dropC (S:Sta B G0 H (q::cs) ds):Sta B G0 H cs ds:=S.weak (List.sublist_cons_self _ _) λp hp=> .mem hp
def Sta.permC (S:Sta B G0 H cs ds) (h:cs.Perm cs'):Sta B G0 H cs' ds:=by
 obtain ⟨G,a,b,c,d,e,f,g⟩:=S;exact ⟨G,a,b,c,d,λq m=>e q (h.mem_iff.mpr m),(h.map _).nodup_iff.mp f,g⟩
def Sta.swap (S:Sta B G0 H (m::g::cs) ds):Sta B G0 H (g::m::cs) ds:=S.permC (List.Perm.swap _ _ _)
def Sta.same (S:Sta B G0 H cs ds) (h:zP H H'):Sta B G0 H' cs ds:=
 let ⟨G,a,b,c,d,e,f,g⟩:=S;⟨G,a,b.trans h,c.trans h,d,λq m=>let ⟨x,y,vs,z,u⟩:=e q m;⟨x,y,vs,h _ _ z,u⟩,f,g⟩
def Lg.grow (S:Lg B G0 H cs ds G) (h:Grow G H G' H'):Lg B G0 H' cs ds G':=by
 obtain ⟨a,b,c,d,e,f,g⟩:=S;refine ⟨a.trans h.g,h.sub,c.trans h.h,λp hp=>?_,λq m=>?_,f,g.mono h.g⟩
 ·rw [h.old p λz=>?_,d p hp]
  cases hb:B p with
  |none=>exact hp hb
  |some o=>rw [c _ _ hb] at z;cases z
 ·obtain ⟨x,y,vs,z,u⟩:=e q m;exact ⟨x,by rw [h.old q.1 (by rw [z];simp)];exact y,vs,h.h _ _ z,zJ.mono h.g _ _ u⟩
def Sta.leave (S:Sta H G H' cs ds):∃m,Grow G H m H'/\YK m ds:=by
 obtain ⟨m,a,b,c,d,_,_,g⟩:=S;exact ⟨m,⟨c,a,b,d⟩,g⟩
def Sta.newT (S:Sta B G0 H cs ds) (hp:H p=none) (h:ye ds xs vs):Sta B G0 (upd H p (.tup vs)) cs ((.tuple xs, .ref p)::ds):=by
 obtain ⟨G,a,b,c,d,e,f,g⟩:=S;have t:G p=none:=b.free hp;have s:=zP.new t (.tup vs);refine ⟨upd G p (.tup vs),a.trans s,λq o m=>?_,c.trans (zP.new hp _),λq m=>?_,λq m=>?_,f,(g.mono s).cons ?_⟩
 ·by_cases r:q=p
  ·subst r;rw [yf] at m⊢;exact m
  ·rw [ya r] at m⊢;exact b _ _ m
 ·have r:q≠p:=λz=>by subst z;exact m (c.free hp)
  rw [ya r];exact d q m
 ·obtain ⟨x,y,ws,z,u⟩:=e q m;have r:q.1≠p:=yc z hp;exact ⟨x,by rw [ya r];exact y,ws,by rw [ya r];exact z,zJ.mono s _ _ u⟩
 ·rw [Is];exact ⟨p,vs,rfl,yf,zJ.mono s _ _ (h G g)⟩
def Sta.newL (S:Sta B G0 H cs ds) (hp:H p=none) (h:ye ds xs vs):Sta B G0 (upd H p (.lst vs)) ((p,xs)::cs) ds:=by
 obtain ⟨G,a,b,c,d,e,f,g⟩:=S;have s:G p=none:=b.free hp;refine ⟨G,a,b.trans (zP.new hp _),c.trans (zP.new hp _),d,λq m=>?_,?_,g⟩
 ·rcases Ql.mp m with rfl|m
  ·exact ⟨c.free hp,s,vs,yf,h G g⟩
  ·obtain ⟨x,y,ws,z,u⟩:=e q m;have r:q.1≠p:=yc z hp;exact ⟨x,y,ws,by rw [ya r];exact z,u⟩
 ·rw [Qp,TZ];refine ⟨λz=>?_,f⟩;obtain ⟨q,m,r⟩:=Qj.mp z;obtain ⟨_,_,ws,z,_⟩:=e q m;rw [r,hp] at z;cases z
def Sta.freeze (S:Sta B G0 H ((D,xs)::cs) ds):Sta B G0 H cs ((.list xs, .ref D)::ds):=by
 obtain ⟨G,a,b,c,d,e,f,g⟩:=S;obtain ⟨x,y,vs,z,u⟩:=e _ (Qe ..);have s:=zP.new y (.lst vs);rw [Qp,TZ] at f;refine ⟨upd G D (.lst vs),a.trans s,λq o m=>?_,c,λq m=>?_,λq m=>?_,f.2,(g.mono s).cons ?_⟩
 ·by_cases r:q=D
  ·subst r;rw [yf] at m;rw [<-m];exact z
  ·rw [ya r] at m;exact b _ _ m
 ·have r:q≠D:=λz=>by subst z;exact m x
  rw [ya r];exact d q m
 ·obtain ⟨C,A,ws,t,I⟩:=e q (Qf _ m);have r:q.1≠D:=λz=>f.1 (Qj.mpr ⟨q,m,z⟩);exact ⟨C,by rw [ya r];exact A,ws,t,zJ.mono s _ _ I⟩
 ·rw [Is];exact ⟨D,vs,rfl,yf,zJ.mono s _ _ u⟩
def Sta.cell (S:Sta B G0 H cs ds) (h:(D,xs)∈cs):∃vs,H D=some (.lst vs)/\xs.length=vs.length/\∀(i:Nat) (x:PyData),xs[i]? =some x->∃v,vs[i]? =some v/\Sta B G0 H cs ((x,v)::ds):=by
 obtain ⟨G,a,b,c,d,e,f,g⟩:=S;obtain ⟨_,_,vs,z,u⟩:=e _ h;refine ⟨vs,z,u.len,λi x m=>?_⟩;obtain ⟨v,q,k⟩:=u.at m;exact ⟨v,q,G,a,b,c,d,e,f,g.cons k⟩
def Sta.put (S:Sta B G0 H ((D,xs)::cs) ds):∃vs,H D=some (.lst vs)/\xs.length=vs.length/\∀ys ws,(∀G,YK G ds->zJ G xs vs->zJ G ys ws)->Sta B G0 (upd H D (.lst ws)) ((D,ys)::cs) ds:=by
 obtain ⟨G,a,b,c,d,e,f,g⟩:=S;obtain ⟨x,y,vs,z,u⟩:=e _ (Qe ..);refine ⟨vs,z,u.len,λys ws h=>?_⟩
 have key:∀{A:Hp},zP A H->A D=none->zP A (upd H D (.lst ws)):=λ{A} s n q o m=>by
  rw [ya (yc m n)];exact s _ _ m
 have t:=f;rw [Qp,TZ] at t;refine ⟨G,a,key b y,key c x,d,λq m=>?_,f,g⟩
 rcases Ql.mp m with rfl|m
 ·exact ⟨x,y,ws,yf,h G g u⟩
 ·obtain ⟨J,I,r,C,K⟩:=e q (Qf _ m);have L:q.1≠D:=λz=>t.1 (Qj.mpr ⟨q,m,z⟩);exact ⟨J,I,r,by rw [ya L];exact C,K⟩
def Sta.tup (S:Sta B G0 H cs ds) (h:Has ds (.tuple xs) v):∃p vs,v= .ref p/\H p=some (.tup vs)/\xs.length=vs.length/\∀(i:Nat) (x:PyData),xs[i]? =some x->∃w,vs[i]? =some w/\Sta B G0 H cs ((x,w)::ds):=by
 obtain ⟨G,a,b,c,d,e,f,g⟩:=S;have q:=h G g;rw [Is] at q;obtain ⟨p,vs,m,hp,u⟩:=q;refine ⟨p,vs,m,b _ _ hp,u.len,λi x r=>?_⟩;obtain ⟨v,m,k⟩:=u.at r;exact ⟨v,m,G,a,b,c,d,e,f,g.cons k⟩
def Sta.lst (S:Sta B G0 H cs ds) (h:Has ds (.list xs) v):∃p vs,v= .ref p/\H p=some (.lst vs)/\xs.length=vs.length/\∀(i:Nat) (x:PyData),xs[i]? =some x->∃w,vs[i]? =some w/\Sta B G0 H cs ((x,w)::ds):=by
 obtain ⟨G,a,b,c,d,e,f,g⟩:=S;have q:=h G g;rw [Is] at q;obtain ⟨p,vs,m,hp,u⟩:=q;refine ⟨p,vs,m,b _ _ hp,u.len,λi x r=>?_⟩;obtain ⟨v,m,k⟩:=u.at r;exact ⟨v,m,G,a,b,c,d,e,f,g.cons k⟩
def Sta.tupAll (S:Sta B G0 H cs ds) (h:Has ds (.tuple xs) v):∃p vs,v= .ref p/\H p=some (.tup vs)/\xs.length=vs.length/\Sta B G0 H cs (xs.zip vs++ds)/\∀G,YK G (xs.zip vs++ds)->zJ G xs vs:=by
 obtain ⟨G,a,b,c,d,e,f,g⟩:=S;have q:=h G g;rw [Is] at q;obtain ⟨p,vs,r,hp,u⟩:=q;refine ⟨p,vs,r,b _ _ hp,u.len,⟨G,a,b,c,d,e,f,λq m=>?_⟩,λA z=>?_⟩
 ·rcases QT.mp m with m|m
  ·obtain ⟨i,s⟩:=Qw.mp m;rw [Ts] at s;exact (Zr.mp u).2 i _ _ s.1 s.2
  ·exact g q m
 ·refine Zr.mpr ⟨u.len,λi x v t r=>?_⟩;exact z (x,v) (jag _ (Qw.mpr ⟨i,Ts.mpr ⟨t,r⟩⟩))
def Sta.lstAll (S:Sta B G0 H cs ds) (h:Has ds (.list xs) v):∃p vs,v= .ref p/\H p=some (.lst vs)/\xs.length=vs.length/\Sta B G0 H cs (xs.zip vs++ds)/\∀G,YK G (xs.zip vs++ds)->zJ G xs vs:=by
 obtain ⟨G,a,b,c,d,e,f,g⟩:=S;have q:=h G g;rw [Is] at q;obtain ⟨p,vs,r,hp,u⟩:=q;refine ⟨p,vs,r,b _ _ hp,u.len,⟨G,a,b,c,d,e,f,λq m=>?_⟩,λA z=>?_⟩
 ·rcases QT.mp m with m|m
  ·obtain ⟨i,s⟩:=Qw.mp m;rw [Ts] at s;exact (Zr.mp u).2 i _ _ s.1 s.2
  ·exact g q m
 ·refine Zr.mpr ⟨u.len,λi x v t r=>?_⟩;exact z (x,v) (jag _ (Qw.mpr ⟨i,Ts.mpr ⟨t,r⟩⟩))
def Sta.cellAll (S:Sta B G0 H cs ds) (h:(D,xs)∈cs):∃vs,H D=some (.lst vs)/\xs.length=vs.length/\Sta B G0 H cs (xs.zip vs++ds)/\∀G,YK G (xs.zip vs++ds)->zJ G xs vs:=by
 obtain ⟨G,a,b,c,d,e,f,g⟩:=S;obtain ⟨_,_,vs,z,u⟩:=e _ h;refine ⟨vs,z,u.len,⟨G,a,b,c,d,e,f,λq m=>?_⟩,λC A=>?_⟩
 ·rcases QT.mp m with m|m
  ·obtain ⟨i,r⟩:=Qw.mp m;rw [Ts] at r;exact (Zr.mp u).2 i _ _ r.1 r.2
  ·exact g q m
 ·refine Zr.mpr ⟨u.len,λi x v s t=>?_⟩;exact A (x,v) (jag _ (Qw.mpr ⟨i,Ts.mpr ⟨s,t⟩⟩))
def Sta.hp (S:Sta B G0 H cs ds) (h:Has ds x v):Is H x v:=by
 obtain ⟨G,a,b,c,d,e,f,g⟩:=S;exact Is.mono b _ _ (h G g)
def Sta.hpC (S:Sta B G0 H cs ds) (h:(D,xs)∈cs):Is H (.list xs) (.ref D):=by
 obtain ⟨G,a,b,c,d,e,f,g⟩:=S;obtain ⟨_,_,vs,z,u⟩:=e _ h;rw [Is];exact ⟨D,vs,rfl,z,zJ.mono b _ _ u⟩
end
noncomputable def mkD (D:Ends) (u:L2.St->Hp->Prop):Ends:={D with nx:=u}
noncomputable def mkL (D:Ends) (u:L2.St->Hp->Prop):Ends:={D with nx:=u,ct:=u,bk:=D.nx}
noncomputable def endD (Q:VK):Ends:={nx:=λ_ H'=>Q .non H',rt:=Q}
section
variable {B G0 H:Hp} {cs:yq} {ds:Dat} {D:Ends} {σ:L2.St} {Q:VK} {x y:PyData} {v w:V} {xs:List PyData} {vs:List V} {K:Frg} {X:Cx}
def rd_seq (h:t (mkD D (u D)) σ H):tSeq t u D σ H:=h
def rd_asg  (h:te σ H λx H1=>g x σ H1 D.nx):Lu te g D σ H:=h
def zB  (h:N (σ.set i (some v)) H):nj i v σ H N:=h
def mC {t:TS} (h:t (endD Q) σ H):t {nx:=λ_ H'=>Q .non H',rt:=Q} σ H:=h
def rd_nx (h:u σ H):Ends.nx (mkD D u) σ H:=h
def rd_rt (h:Ends.rt D v H):Ends.rt (mkD D u) v H:=h
def Ip (h:Q v H):Ends.rt (endD Q) v H:=h
def rd_nxL (h:u σ H):Ends.nx (mkL D u) σ H:=h
def rd_rtL (h:Ends.rt D v H):Ends.rt (mkL D u) v H:=h
def rd_next (h:D.nx σ H):tNext D σ H:=h
def rd_ret (h:te σ H D.rt):tRet te D σ H:=h
def rd_drop (h:te σ H λ_ H1=>D.nx σ H1):tDrop te D σ H:=h
def rd_if  (h:c σ H λb H1=>if b=true then t D σ H1 else u D σ H1):tIfS c t u D σ H:=h
def rd_var (e:σ[i]? =some (some v)) (h:Q v H):tVar i σ H Q:=⟨v,e,h⟩
def rd_c (h:Q v H):tC v σ H Q:=h
def rd_op  (h:ta σ H λx H1=>tb σ H1 λy g=>r x y g Q):tOp r ta tb σ H Q:=h
def rd_un  (h:ta σ H λx H1=>r x H1 Q):tUn r ta σ H Q:=h
def rd_rI0  (h:Q (g i j) H):rI0 g (.int i) (.int j) H Q:=⟨i,j,rfl,rfl,h⟩
def rd_mulB (c:IntMulOk i j) (h:Q (.int (i*j)) H):rI IntMulOk (λi j=> .int (i*j)) (.int i) (.int j) H Q:=⟨i,j,rfl,rfl,c,h⟩
def rd_modL (c:0<j) (h:Q (.int (i % j)) H):rI (λ_ j=>0<j) (λi j=> .int (i % j)) (.int i) (.int j) H Q:=⟨i,j,rfl,rfl,c,h⟩
def rd_modN (c:j≠0) (h:Q (.int (i.fmod j)) H):rI (λ_ j=>j≠0) (λi j=> .int (i.fmod j)) (.int i) (.int j) H Q:=⟨i,j,rfl,rfl,c,h⟩
def rd_fdivL (c:CDiv i j) (h:Q (.int (i / j)) H):rI CDiv (λi j=> .int (i / j)) (.int i) (.int j) H Q:=⟨i,j,rfl,rfl,c,h⟩
def rd_fdivB (c:CDv i j) (h:Q (.int (i.fdiv j)) H):rI CDv (λi j=> .int (i.fdiv j)) (.int i) (.int j) H Q:=⟨i,j,rfl,rfl,c,h⟩
def rd_pow (c:CPow i j) (h:Q (.int (i ^ j.toNat)) H):rI CPow (λi j=> .int (i ^ j.toNat)) (.int i) (.int j) H Q:=⟨i,j,rfl,rfl,c,h⟩
def rd_rU  (h:Q (g i) H):rU g (.int i) H Q:=⟨i,rfl,h⟩
def rd_test  (h:t σ H λx H'=>∃k,x= .bl k/\R k H'):tTest t σ H R:=h
def rd_tB  (h:t σ H λx H'=>∃k,x= .bl k/\R k H'):tB t σ H R:=h
def rd_isbl {k:Bool} {R:Bool->Prop} (h:R k):∃g,V.bl k= .bl g/\R g:=⟨k,rfl,h⟩
def rd_not  (h:t σ H λc H1=>R (!c) H1):tNot t σ H R:=h
def rd_and  (h:t σ H λc H1=>if c=true then u σ H1 R else R false H1):tAnd t u σ H R:=h
def rd_or  (h:t σ H λc H1=>if c=true then R true H1 else u σ H1 R):tOr t u σ H R:=h
def rd_andV (h:ta σ H λx H1=>∃c,x= .bl c/\if c=true then tb σ H1 Q else Q (.bl false) H1):tAndV ta tb σ H Q:=h
def rd_notV (h:ta σ H λx H1=>∃c,x= .bl c/\Q (.bl (!c)) H1):tNotV ta σ H Q:=h
def rd_nil (h:R [] H):tNil σ H R:=h
def rd_cons  (h:ta σ H λx H1=>tr σ H1 λxs g=>R (x::xs) g):tCons ta tr σ H R:=h
def rd_call  (h:t σ H λvs H1=>sp vs H1 Q E):vR sp [] E t σ H Q:=by
 unfold vR
 simpa only [jaI] using h
def rd_cb  (h:t σ H λvs H1=>r vs H1 Q):tCB r t σ H Q:=h
def rd_aug  (e:σ[i]? =some (some v)) (h:te σ H λy H1=>ti v y H1 λz g=>D.nx (σ.set i (some z)) g):tAug i te ti D σ H:=⟨v,e,h⟩
def rd_ipI  (h:Q (.int (f i j)) H):ipI f (.int i) (.int j) H Q:=⟨i,j,rfl,rfl,h⟩
def rd_par  (h:ta σ H λvs H1=>∃v w,vs=[v,w]/\D.nx ((σ.set i (some v)).set j (some w)) H1):tPar i j ta D σ H:=h
def rd_is2 {R:V->V->Prop} (h:R v w):∃m g,[v,w]=[m,g]/\R m g:=⟨v,w,rfl,h⟩
def rEqA:R2:=λx y H Q=>rEq x y H Q\/rEqD x y H Q
def rNeA:R2:=λx y H Q=>rNe x y H Q\/rNeD x y H Q
def op_eqA (g:X.A.units+64<cLine):OpR X (compareOp .Eq) rEqA:=op_eq.or (op_eqD g)
def op_neA (g:X.A.units+64<cLine):OpR X (compareOp .NotEq) rNeA:=op_ne.or (op_neD g)
def Vo {a b:Prop} [Decidable a] [Decidable b] (h:a↔b):decide a=decide b:=by
 by_cases ha:a
 ·rw [QW ha,QW (h.mp ha)]
 ·rw [Th ha,Th (λz=>ha (h.mpr z))]
def rd_eqI (h:Q (.bl (decide (i=j))) H):rEqA (.int i) (.int j) H Q:= .inl ⟨rfl,by
 rw [Vo (show V.int i=V.int j↔i=j from ⟨V.int.inj,congrArg _⟩)];exact h⟩
def rd_neI (h:Q (.bl (!decide (i=j))) H):rNeA (.int i) (.int j) H Q:= .inl ⟨rfl,by
 rw [Vo (show V.int i=V.int j↔i=j from ⟨V.int.inj,congrArg _⟩)];exact h⟩
def Cq (m:Is H x v) (g:Is H y w) (s1:SeqAt.shaped x=true) (s2:SeqAt.shaped y=true) (h:Q (.bl (PyData.eqv x y)) H):rEqA v w H Q:= .inr ⟨x,y,m,g,s1,s2,h⟩
def rd_neD (m:Is H x v) (g:Is H y w) (s1:SeqAt.shaped x=true) (s2:SeqAt.shaped y=true) (h:Q (.bl (!PyData.eqv x y)) H):rNeA v w H Q:= .inr ⟨x,y,m,g,s1,s2,h⟩
def kTup (Q:VK) (xs:List V) (H:Hp):Prop:=xs.length<=sizeLine/\∀p,H p=none->Q (.ref p) (upd H p (.tup xs))
def kLst (Q:VK) (xs:List V) (H:Hp):Prop:=xs.length<=sizeLine/\∀p,H p=none->Q (.ref p) (upd H p (.lst xs))
def rd_tup (h:t σ H (kTup Q)):tTup t σ H Q:=h
def rd_lst (h:t σ H (kLst Q)):tLst t σ H Q:=h
def rd_kTup (S:Sta B G0 H cs ds) (h:ye ds xs vs) (g:vs.length<=1000) (k:∀p H',zP H H'->Sta B G0 H' cs ((.tuple xs, .ref p)::ds)->Q (.ref p) H'):kTup Q vs H:=
 ⟨jbn (Xt g),λp hp=>k p _ (zP.new hp _) (S.newT hp h)⟩
def rd_kLst (S:Sta B G0 H cs ds) (h:ye ds xs vs) (g:vs.length<=1000) (k:∀p H',zP H H'->Sta B G0 H' ((p,xs)::cs) ds->Q (.ref p) H'):kLst Q vs H:=
 ⟨jbn (Xt g),λp hp=>k p _ (zP.new hp _) (S.newL hp h)⟩
def Ez {α β:Type} {xs:List α} {ys:List β} {i:Int} {x:α} (m:xs.length=ys.length) (h:atI xs i=some x):∃j:Nat,xs[j]? =some x/\∀y,ys[j]? =some y->atI ys i=some y:=by
 unfold atI at h⊢;rw [<-m]
 cases e:ixN xs.length i with
 |none=>rw [e] at h;cases h
 |some j=>rw [e] at h;exact ⟨j,h,λy g=>g⟩
def pH {i:Int} (S:Sta B G0 H cs ds) (m:Has ds (.tuple xs) v) (s:atI xs i=some x) (k:∀w,Sta B G0 H cs ((x,w)::ds)->Q w H):rIx K v (.int i) H Q:=by
 obtain ⟨p,vs,rfl,hp,q,z⟩:=S.tup m;obtain ⟨j,r,g⟩:=Ez q s;obtain ⟨w,hw,t⟩:=z j x r;exact .inr (.inl ⟨p,vs,i,w,rfl,rfl,SqT.of hp,g _ hw,k w t⟩)
def Sta.top {n:PyData} (S:Sta B G0 H cs ((n,v)::ds)):Is H n v:=S.hp (.mem (Qe ..))
def rd_ixTI {i n:Int} (S:Sta B G0 H cs ds) (g:Has ds (.tuple xs) v) (m:atI xs i=some (.int n)) (k:Q (.int n) H):rIx K v (.int i) H Q:=
 pH S g m λw p=>by have:=p.top;rw [Is] at this;subst this;exact k
def xk {i:Int} (S:Sta B G0 H cs ds) (m:Has ds (.list xs) v) (s:atI xs i=some x) (k:∀w,Sta B G0 H cs ((x,w)::ds)->Q w H):rIx K v (.int i) H Q:=by
 obtain ⟨p,vs,rfl,hp,q,z⟩:=S.lst m;obtain ⟨j,r,g⟩:=Ez q s;obtain ⟨w,hw,t⟩:=z j x r;exact .inl ⟨p,vs,i,w,rfl,rfl,SqL.of hp,g _ hw,k w t⟩
def YB {i n:Int} (S:Sta B G0 H cs ds) (g:Has ds (.list xs) v) (m:atI xs i=some (.int n)) (k:Q (.int n) H):rIx K v (.int i) H Q:=
 xk S g m λw p=>by have:=p.top;rw [Is] at this;subst this;exact k
def Wz {i:Int} {L:Addr} (S:Sta B G0 H cs ds) (m:(L,xs)∈cs) (r:atI xs i=some x) (k:∀w,Sta B G0 H cs ((x,w)::ds)->Q w H):rIx K (.ref L) (.int i) H Q:=by
 obtain ⟨vs,hp,p,z⟩:=S.cell m;obtain ⟨j,q,g⟩:=Ez p r;obtain ⟨w,hw,s⟩:=z j x q;exact .inl ⟨L,vs,i,w,rfl,rfl,SqL.of hp,g _ hw,k w s⟩
def JN {i n:Int} {L:Addr} (S:Sta B G0 H cs ds) (g:(L,xs)∈cs) (m:atI xs i=some (.int n)) (k:Q (.int n) H):rIx K (.ref L) (.int i) H Q:=
 Wz S g m λw p=>by have:=p.top;rw [Is] at this;subst this;exact k
def rd_ixS {i:Int} {a:Addr} {ns:List Int} (g:SqL K H a (ns.map V.int)) (h0:0<=i) (m:i<(ns.length:Int)) (k:Q (.int (ns.getD i.toNat 0)) H):rIx K (.ref a) (.int i) H Q:=
 .inl ⟨a,_,i,_,rfl,rfl,g,HP h0 m,k⟩
def rLen (K:Frg):List V->Hp->VK->Prop:=λxs H Q=>∃p ys,xs=[.ref p]/\(SqL K H p ys\/SqT K H p ys)/\Q (.int ys.length) H
def qo:Wt X (.builtin "len") (rLen X.K):=qm
def rd_lenT (S:Sta B G0 H cs ds) (g:Has ds (.tuple xs) v) (k:Q (.int xs.length) H):rLen K [v] H Q:=by
 obtain ⟨p,vs,rfl,hp,m,_⟩:=S.tup g;exact ⟨p,vs,rfl, .inr (SqT.of hp),by rw [<-m];exact k⟩
def rd_lenL (S:Sta B G0 H cs ds) (g:Has ds (.list xs) v) (k:Q (.int xs.length) H):rLen K [v] H Q:=by
 obtain ⟨p,vs,rfl,hp,m,_⟩:=S.lst g;exact ⟨p,vs,rfl, .inl (SqL.of hp),by rw [<-m];exact k⟩
def rd_lenC (S:Sta B G0 H cs ds) (g:(L,xs)∈cs) (k:Q (.int xs.length) H):rLen K [.ref L] H Q:=by
 obtain ⟨vs,hp,m,_⟩:=S.cell g;exact ⟨L,vs,rfl, .inl (SqL.of hp),by rw [<-m];exact k⟩
def JK {a:Addr} {ns:List Int} (g:SqL K H a (ns.map V.int)) (k:Q (.int ns.length) H):rLen K [.ref a] H Q:=
 ⟨a,_,rfl, .inl g,by rw [Qa];exact k⟩
def rAbs:List V->Hp->VK->Prop:=λxs H Q=>∃i,xs=[.int i]/\Q (.int (if i<0 then -i else i)) H
def call_absA:Wt X (.builtin "abs") rAbs:=Hx
def rd_abs (k:Q (.int (i.natAbs:Int)) H):rAbs [.int i] H Q:=⟨i,rfl,by
 rw [show (if i<0 then -i else i)=(i.natAbs:Int) by split<;>omega];exact k⟩
def rMin:List V->Hp->VK->Prop:=λxs H Q=>∃i j,xs=[.int i, .int j]/\Q (.int (if j<i then j else i)) H
def Et (g:X.calm=true):Wt X (.builtin "min") rMin:=Eu g
def rd_min (k:Q (.int (min i j)) H):rMin [.int i, .int j] H Q:=⟨i,j,rfl,by
 rw [show (if j<i then j else i)=min i j by split<;>omega];exact k⟩
def Cw (K:Frg):List V->Hp->VK->Prop:=λxs H Q=>∃p ys,xs=[.ref p]/\(SqL K H p ys\/SqT K H p ys)/\∀l,H l=none->Q (.ref l) (upd H l (.lst ys))
def Lx:Wt X (.type "list") (Cw X.K):=qk
def uq (K:Frg):List V->Hp->VK->Prop:=λxs H Q=>∃p ys,xs=[.ref p]/\((SqL K H p ys/\∀l,H l=none->Q (.ref l) (upd H l (.tup ys)))\/(SqT K H p ys/\Q (.ref p) H))
def KY:Wt X (.type "tuple") (uq X.K):=nC
def rd_listL (S:Sta B G0 H cs ds) (m:Has ds (.list xs) v) (k:∀l H',zP H H'->Sta B G0 H' ((l,xs)::cs) ds->Q (.ref l) H'):Cw K [v] H Q:=by
 obtain ⟨p,vs,rfl,hp,g,t,s⟩:=S.lstAll m;exact ⟨p,vs,rfl, .inl (SqL.of hp),λl g=>k l _ (zP.new g _) ((t.newL g s).dat λq r=> .mem (QF _ r))⟩
def rd_tupleC (S:Sta B G0 H cs ds) (p:(L,xs)∈cs) (k:∀l H',zP H H'->Sta B G0 H' cs ((.tuple xs, .ref l)::ds)->Q (.ref l) H'):uq K [.ref L] H Q:=by
 obtain ⟨vs,hp,m,s,r⟩:=S.cellAll p
 exact ⟨L,vs,rfl, .inl ⟨SqL.of hp,λl m=>k l _ (zP.new m _) ((s.newT m r).dat λq g=> .mem (by
  rcases Ql.mp g with rfl|g
  ·exact Qe ..
  ·exact Qf _ (QF _ g)))⟩⟩
def kBM (K:Frg) (T:String) (r:V->List V->Hp->VK->Prop) (t:TA) (σ:L2.St) (Q:VK):VK:=λx H1=>tyV K T x H1/\t σ H1 λxs g=>r x xs g Q
def rd_bm   (h:to σ H (kBM K T r t σ Q)):tBM K T r to t σ H Q:=h
def rd_kBM  (S:Sta B G0 H cs ds) (g:(L,xs)∈cs) (h:t σ H λys m=>r (.ref L) ys m Q):kBM K "list" r t σ Q (.ref L) H:=by
 obtain ⟨vs,hp,p,_⟩:=S.cell g;exact ⟨.inl ⟨rfl,_,SqL.of hp⟩,h⟩
def yW (S:Sta B G0 H ((L,xs)::cs) ds) (g:Has ds y w) (hz:xs.length<=1000) (k:∀H',Sta B G0 H' ((L,xs++[y])::cs) ds->Q .non H'):Cz (.ref L) [w] H Q:=by
 obtain ⟨vs,hp,m,put⟩:=S.put;exact ⟨L,vs,w,rfl,rfl,hp,Xt ⋯,k _ (put _ _ λG a u=>u.app (by rw [zJ];exact ⟨w,[],rfl,g G a,by rw [zJ]⟩))⟩
def JD   (S:Sta B G0 H ((L,xs)::cs) ds) (g:Has ds y w) (p:ixN xs.length i=some j) (k:∀H',Sta B G0 H' ((L,xs.set j y)::cs) ds->R H'):rSetL (.ref L) (.int i) w H R:=by
 obtain ⟨vs,hp,m,put⟩:=S.put;exact ⟨L,vs,i,j,rfl,rfl,hp,by rw [<-m];exact p,k _ (put _ _ λG a u=>u.set (g G a) j)⟩
noncomputable def nA (xs:List PyData) (lo g:Option Int):List PyData:=(xs.drop (HT.sIx xs.length 0 lo)).take (HT.sIx xs.length xs.length g - HT.sIx xs.length 0 lo)
def pB {lo g:Option Int} (S:Sta B G0 H cs ds) (m:Has ds (.list xs) v) (k:∀l H',zP H H'->Sta B G0 H' ((l,nA xs lo g)::cs) ds->Q (.ref l) H'):rSlL K v lo g H Q:=by
 obtain ⟨p,vs,rfl,hp,s,u,t⟩:=S.lstAll m;refine ⟨p,vs,rfl,SqL.of hp,λl hn=>k l _ (zP.new hn _) ((u.newL hn λG a=>?_).dat λq r=> .mem (QF _ r))⟩;unfold nA AV;rw [s];exact ((t G a).drop _).take _
def pC {lo g:Option Int} {L:Addr} (S:Sta B G0 H cs ds) (m:(L,xs)∈cs) (k:∀l H',zP H H'->Sta B G0 H' ((l,nA xs lo g)::cs) ds->Q (.ref l) H'):rSlL K (.ref L) lo g H Q:=by
 obtain ⟨vs,hp,r,t,s⟩:=S.cellAll m;refine ⟨L,vs,rfl,SqL.of hp,λl hn=>k l _ (zP.new hn _) ((t.newL hn λG a=>?_).dat λq p=> .mem (QF _ p))⟩;unfold nA AV;rw [r];exact ((s G a).drop _).take _
end
def mulModOk (h:(0<m/\m<2 ^ 64)/\(0<n/\n<2 ^ 64)):IntMulOk (a % m) (b % n):=by
 have s:=jaC a (show m≠0 by omega);have r:=jak a h.1.1;have q:=jaC b (show n≠0 by omega);have p:=jak b h.2.1;have e:(2:Nat) ^ 64=18446744073709551616:=by decide
 have g:(2:Int) ^ 64=18446744073709551616:=by decide
 rw [g] at h;exact Sz.mulOk (m:=64) (n:=64) (by unfold Sz;rw [e];omega) (by unfold Sz;rw [e];omega) nofun
def iteNT {A B:Prop} (h:B):if (!true)=true then A else B:=h
section
variable {B G0 H:Hp} {cs:yq} {ds:Dat} {Q:VK} {v:V} {xs zs:List PyData} {K:Frg} {X:Cx} {L M:Addr}
def FX:R2:=λx y H Q=>rI0 (λi j=> .int (i+j)) x y H Q\/rCat x y H Q
def CF:OpR X (binaryOp .Add) FX:=op_add.or op_cat
def rd_addI (h:Q (.int (i+j)) H):FX (.int i) (.int j) H Q:= .inl ⟨i,j,rfl,rfl,h⟩
def Vw (B G0 H:Hp) (cs:yq) (ds:Dat) (L:Addr) (xs:List PyData):Prop:=∃vs,H L=some (.lst vs)/\∀G,Lg B G0 H cs ds G->zJ G xs vs
def Sta.vwL (S:Sta B G0 H cs ds) (h:Has ds (.list xs) (.ref L)):Vw B G0 H cs ds L xs:=by
 obtain ⟨G,S⟩:=S;have q:=h G S.2.2.2.2.2.2;rw [Is] at q;obtain ⟨p,vs,e,hp,u⟩:=q;cases e;have r:=S.2.1 _ _ hp;refine ⟨vs,r,λw m=>?_⟩;have q:=h w m.2.2.2.2.2.2;rw [Is] at q;obtain ⟨p,s,e,g,t⟩:=q;cases e;have:=m.2.1 _ _ g;rw [r] at this;cases this;exact t
def Sta.vwC (S:Sta B G0 H cs ds) (h:(L,xs)∈cs):Vw B G0 H cs ds L xs:=by
 obtain ⟨G,S⟩:=S;obtain ⟨_,_,vs,z,u⟩:=S.2.2.2.2.1 _ h;refine ⟨vs,z,λr q=>?_⟩;obtain ⟨_,_,m,g,p⟩:=q.2.2.2.2.1 _ h;rw [z] at g;cases g;exact p
def Zn (S:Sta B G0 H cs ds) (v1:Vw B G0 H cs ds L xs) (v2:Vw B G0 H cs ds M zs) (hz:xs.length+zs.length<=1000)
 (k:∀p H',zP H H'->Sta B G0 H' ((p,xs++zs)::cs) ds->Q (.ref p) H'):FX (.ref L) (.ref M) H Q:=by
 obtain ⟨us,D,w⟩:=v1;obtain ⟨ws,C,t⟩:=v2;obtain ⟨G,r⟩:=id S;refine .inr ⟨L,M,us,ws,rfl,rfl,D,C,jbn (Xt (by rw [<-(w G r).len,<-(t G r).len];exact hz)),λp hp=>k p _ (zP.new hp _) ?_⟩;obtain ⟨a,b,c,d,e,f,g⟩:=id r;have A:G p=none:=b.free hp;refine ⟨G,a,b.trans (zP.new hp _),c.trans (zP.new hp _),d,λq m=>?_,?_,g⟩
 ·rcases Ql.mp m with rfl|m
  ·exact ⟨c.free hp,A,_,yf,(w G r).app (t G r)⟩
  ·obtain ⟨x,y,ws,z,u⟩:=e q m;have s:q.1≠p:=yc z hp;exact ⟨x,y,ws,by rw [ya s];exact z,u⟩
 ·rw [Qp,TZ];refine ⟨λz=>?_,f⟩;obtain ⟨q,m,s⟩:=Qj.mp z;obtain ⟨_,_,ws,z,_⟩:=e q m;rw [s,hp] at z;cases z
def rSum (K:Frg):List V->Hp->VK->Prop:=λxs H Q=>∃(p:Addr) (ns:List Int),xs=[.ref p]/\SqL K H p (ns.map V.int)/\Q (.int ns.sum) H
def call_sumA (C:X.calm=true):Wt X (.builtin "sum") (rSum X.K):=by
 intro pins s σ H xs us Q I r h;obtain ⟨p,ns,rfl,y,q⟩:=h;obtain ⟨u,rfl,t⟩:=UK r;cases t;obtain ⟨its,w,pl,_⟩:=I.list y;have g:=Xy w;obtain ⟨ys,e⟩:=g.allInts.items;have z:s.heap.IsList p (intItems ys):=e▸pl.isList;have m:ys.toList.map (·.1)=ns:=by rw [<-nums_intItems,<-e];exact g.numsOf
 refine sum_intListG (I.ok.hd C) z λh' tk t' A=>?_;refine ⟨.int ns.sum,H,I.kept (t':=tk) A,⟨t',?_⟩,q⟩;rw [preSum_eq,m,Tw (by rw [<-m];simp)]
theorem yK:∀{ns:List Int} {vs:List V},zJ G (ns.map PyData.int) vs->vs=ns.map V.int
 |[],vs,h=>by rw [jav,zJ] at h;exact h
 |n::ns,vs,h=>by
  rw [Qp,zJ] at h;obtain ⟨v,r,rfl,g,m⟩:=h;rw [Is] at g;subst g;rw [yK m,Qp]
def rd_sumC {ns:List Int} (S:Sta B G0 H cs ds) (h:(L,ns.map PyData.int)∈cs) (k:Q (.int ns.sum) H):rSum K [.ref L] H Q:=by
 obtain ⟨vs,hp,u⟩:=S.vwC h;obtain ⟨G,g⟩:=id S;rw [yK (u G g)] at hp;exact ⟨L,ns,rfl,SqL.of hp,k⟩
def rd_sumL {ns:List Int} (S:Sta B G0 H cs ds) (h:Has ds (.list (ns.map PyData.int)) v) (k:Q (.int ns.sum) H):rSum K [v] H Q:=by
 obtain ⟨p,vs,rfl,_⟩:=S.lst h;obtain ⟨vs,hp,u⟩:=S.vwL h;obtain ⟨G,g⟩:=id S;rw [yK (u G g)] at hp;exact ⟨_,ns,rfl,SqL.of hp,k⟩
end
def Ro (B g:Hp) (L:Addr) (xs:List PyData):Prop:=g L=none/\∃vs,B L=some (.lst vs)/\zJ g xs vs
def Src (B g:Hp) (b:Bool) (K:Frg) (a:Addr) (xs:List PyData) (P:yq->Dat->Prop):Prop:=∀{H:Hp} {cs:yq} {ds:Dat},Sta B g H cs ds->P cs ds->
 ∃vs,SqB b K H a vs/\xs.length=vs.length/\∀(i:Nat) (x:PyData),xs[i]? =some x->∃v,vs[i]? =some v/\Sta B g H cs ((x,v)::ds)
structure Wk (B G0:Hp) (J:It) (xs:List PyData) (P:yq->Dat->Prop):Prop where
 go:∀{H:Hp} {cs:yq} {ds:Dat} {i:Nat},Sta B G0 H cs ds->P cs ds->i<xs.length->J.go i H
 stop:∀{H:Hp} {cs:yq} {ds:Dat} {i:Nat},Sta B G0 H cs ds->P cs ds->xs.length<=i->J.stop i H
 yld:∀{H H':Hp} {cs:yq} {ds:Dat} {i:Nat} {x:PyData} {v:V},Sta B G0 H cs ds->P cs ds->xs[i]? =some x->J.yld i H v H'->zP H H'/\Sta B G0 H' cs ((x,v)::ds)
section
variable {B G0 H:Hp} {cs:yq} {ds:Dat} {K:Frg} {a:Addr} {xs ys:List PyData} {P P':yq->Dat->Prop} {b c:Bool} {v:V}
def Vy:Src B G0 true K a xs (λ_ ds=>Has ds (.list xs) (.ref a)):=λS h=>by
 obtain ⟨p,vs,e,hp,g,z⟩:=S.lst h;cases e;exact ⟨vs,SqL.of hp,g,z⟩
def ff:Src B G0 false K a xs (λ_ ds=>Has ds (.tuple xs) (.ref a)):=λS h=>by
 obtain ⟨p,vs,e,hp,g,z⟩:=S.tup h;cases e;exact ⟨vs,SqT.of hp,g,z⟩
def Fx:Src B G0 true K a xs (λcs _=>(a,xs)∈cs):=λS h=>by
 obtain ⟨vs,hp,g,z⟩:=S.cell h;exact ⟨vs,SqL.of hp,g,z⟩
def Ba (s:Src B G0 true K a xs P):Wk B G0 (Itl K a) xs P where
 go:=λ{H cs ds i} S h hi=>by
  obtain ⟨vs,q,g,_⟩:=s S h;exact ⟨vs,vs[i]'⋯,q,Qb _⟩
 stop:=λ{H cs ds i} S h hi=>by
  obtain ⟨vs,q,g,_⟩:=s S h;exact ⟨vs,q,⋯⟩
 yld:=λ{H H' cs ds i x v} S h hx y=>by
  obtain ⟨e,y⟩:=y;subst e;obtain ⟨vs,q,g,z⟩:=s S h;obtain ⟨w,hw,m⟩:=z i x hx;have:=y vs q;rw [hw] at this;cases this;exact ⟨zP.refl _,m⟩
def wk_tup (s:Src B G0 false K a xs P):Wk B G0 (Itt K a) xs P where
 go:=λ{H cs ds i} S h hi=>by
  obtain ⟨vs,q,g,_⟩:=s S h;exact ⟨vs,vs[i]'⋯,q,Qb _⟩
 stop:=λ{H cs ds i} S h hi=>by
  obtain ⟨vs,q,g,_⟩:=s S h;exact ⟨vs,q,⋯⟩
 yld:=λ{H H' cs ds i x v} S h hx y=>by
  obtain ⟨e,y⟩:=y;subst e;obtain ⟨vs,q,g,z⟩:=s S h;obtain ⟨w,hw,m⟩:=z i x hx;have:=y vs q;rw [hw] at this;cases this;exact ⟨zP.refl _,m⟩
noncomputable def jY (lo:Int) (n:Nat):List PyData:=(List.range n).map λi=> .int (lo+(i:Nat))
def Zh (lo:Int) (n:Nat):(jY lo n).length=n:=by unfold jY;rw [Qa,jcc]
def aj {lo:Int} {n i:Nat} {x:PyData} (h:(jY lo n)[i]? =some x):i<n/\x= .int (lo+(i:Nat)):=by
 have g:i<n:=by have:=(Qd.mp h).1;rwa [Zh] at this
 unfold jY at h;rw [Qh,List.getElem?_range g] at h;exact ⟨g,(QH h).symm⟩
def Fp {lo:Int} {n:Nat}:Wk B G0 (Itr lo n) (jY lo n) (λ_ _=>True) where
 go:=λ{H cs ds i} S h hi=>by rw [Zh] at hi;exact hi
 stop:=λ{H cs ds i} S h hi=>by rw [Zh] at hi;exact hi
 yld:=λ{H H' cs ds i x v} S h hx y=>by
  obtain ⟨e,y⟩:=y;obtain ⟨_,rfl⟩:=aj hx;subst e y;exact ⟨zP.refl _,S.push Has.int⟩
noncomputable def sR (xs:List PyData):List PyData:=xs.mapIdx λi x=> .tuple [.int (i:Nat),x]
def xV (xs:List PyData):(sR xs).length=xs.length:=by unfold sR;rw [List.length_mapIdx]
def VH {xs:List PyData} {i:Nat} {y:PyData} (h:(sR xs)[i]? =some y):∃x,xs[i]? =some x/\y= .tuple [.int (i:Nat),x]:=by
 unfold sR at h;rw [List.getElem?_mapIdx] at h
 cases e:xs[i]? with
 |none=>rw [e] at h;cases h
 |some x=>rw [e] at h;exact ⟨x,rfl,(QH h).symm⟩
def Bb (s:Src B G0 b K a xs P):Wk B G0 (ItE b K a) (sR xs) P where
 go:=λ{H cs ds i} S h hi=>by
  rw [xV] at hi;obtain ⟨vs,q,g,_⟩:=s S h;exact ⟨vs,vs[i]'⋯,q,Qb _⟩
 stop:=λ{H cs ds i} S h hi=>by
  rw [xV] at hi;obtain ⟨vs,q,g,_⟩:=s S h;exact ⟨vs,q,⋯⟩
 yld:=λ{H H' cs ds i x v} S h hx y=>by
  obtain ⟨x0,A,rfl⟩:=VH hx;obtain ⟨p,u,m,hp,rfl,rfl⟩:=y;obtain ⟨vs,q,g,z⟩:=s S h;obtain ⟨w,hw,t⟩:=z i x0 A;have:=m vs q;rw [hw] at this;cases this;refine ⟨zP.new hp _,(t.newT hp (xs:=[.int (i:Nat),x0]) (vs:=[.int (i:Nat),u]) (.cons Has.int (.cons (.mem (Qe ..)) .nil))).dat λr hr=> .mem ?_⟩
  rcases Ql.mp hr with rfl|hr
  ·exact Qe ..
  ·exact Qf _ (Qf _ hr)
noncomputable def HZ (xs ys:List PyData):List PyData:=List.zipWith (λx y=> .tuple [x,y]) xs ys
def xf (xs ys:List PyData):(HZ xs ys).length=min xs.length ys.length:=by unfold HZ;rw [QC]
def ZX {xs ys:List PyData} {i:Nat} {z:PyData} (h:(HZ xs ys)[i]? =some z):∃x y,xs[i]? =some x/\ys[i]? =some y/\z= .tuple [x,y]:=by
 unfold HZ at h;rw [Qt] at h
 cases e:xs[i]? with
 |none=>rw [e] at h;cases h
 |some x=>
  cases e2:ys[i]? with
  |none=>rw [e,e2] at h;cases h
  |some y=>rw [e,e2] at h;exact ⟨x,y,rfl,rfl,(QH h).symm⟩
def AZ {a2:Addr} (s:Src B G0 b K a xs P) (s2:Src B G0 c K a2 ys P'):Wk B G0 (ItZ b c K a a2) (HZ xs ys) (λcs ds=>P cs ds/\(∀x v,P' cs ds->P' cs ((x,v)::ds))/\P' cs ds) where
 go:=λ{H cs ds i} S h hi=>by
  rw [xf] at hi;obtain ⟨vs,q,G,_⟩:=s S h.1;obtain ⟨ws,g,I,_⟩:=s2 S h.2.2;exact ⟨vs,ws,vs[i]'⋯,ws[i]'⋯,q,g,Qb _,Qb _⟩
 stop:=λ{H cs ds i} S h hi=>by
  rw [xf] at hi;obtain ⟨vs,q,G,_⟩:=s S h.1;obtain ⟨ws,g,I,_⟩:=s2 S h.2.2;exact ⟨vs,ws,q,g,⋯⟩
 yld:=λ{H H' cs ds i x v} S h hx y=>by
  obtain ⟨x0,D,N,m,rfl⟩:=ZX hx;obtain ⟨p,u,J,L,A,hp,rfl,rfl⟩:=y;obtain ⟨vs,q,G,z⟩:=s S h.1;obtain ⟨w,hw,M⟩:=z i x0 N;obtain ⟨ws,g,I,z2⟩:=s2 M (h.2.1 _ _ h.2.2);obtain ⟨O,t,C⟩:=z2 i D m;have:=L vs q;rw [hw] at this;cases this;have:=A ws g;rw [t] at this;cases this;refine ⟨zP.new hp _,(C.newT hp (xs:=[x0,D]) (vs:=[u,J]) (.cons (.mem (Qf _ (Qe ..))) (.cons (.mem (Qe ..)) .nil))).dat λr hr=> .mem ?_⟩
  rcases Ql.mp hr with rfl|hr
  ·exact Qe ..
  ·exact Qf _ (Qf _ (Qf _ hr))
def kIL (K:Frg) (R:It->Hp->Prop):VK:=λx H1=>∃a,x= .ref a/\(∃xs,SqL K H1 a xs)/\R (Itl K a) H1
def kIT (K:Frg) (R:It->Hp->Prop):VK:=λx H1=>∃a,x= .ref a/\(∃xs,SqT K H1 a xs)/\R (Itt K a) H1
def kR1 (R:It->Hp->Prop):List V->Hp->Prop:=λvs H1=>∃j:Int,vs=[.int j]/\ -(2 ^ 62)<=j/\j<2 ^ 62/\R (Itr 0 j.toNat) H1
def kEn (b:Bool) (K:Frg) (R:It->Hp->Prop):List V->Hp->Prop:=λvs H1=>∃a,vs=[.ref a]/\(∃xs,SqB b K H1 a xs)/\R (ItE b K a) H1
def kZi (b c:Bool) (K:Frg) (R:It->Hp->Prop):List V->Hp->Prop:=λvs H1=>∃a1 a2,vs=[.ref a1, .ref a2]/\(∃xs,SqB b K H1 a1 xs)/\(∃ys,SqB c K H1 a2 ys)/\R (ItZ b c K a1 a2) H1
section
variable {σ:L2.St} {R:It->Hp->Prop} {tl:TE} {ta:TA}
def rd_iList (h:tl σ H (kIL K R)):iList K tl σ H R:=h
def rd_iTup (h:tl σ H (kIT K R)):iTup K tl σ H R:=h
def rd_iR1 (h:ta σ H (kR1 R)):iRng1 ta σ H R:=h
def rd_iEn (h:ta σ H (kEn b K R)):iEnum b K ta σ H R:=h
def rd_iZi (h:ta σ H (kZi b c K R)):iZip b c K ta σ H R:=h
def Ck (B G0:Hp) (m: -1000<=j) (g:j<=1000000) (k:∀J,Wk B G0 J (jY 0 j.toNat) (λ_ _=>True)->R J H):kR1 R [.int j] H:=⟨j,rfl,⋯,⋯,k _ Fp⟩
end
def kGT (K:Frg) (n:Nat) (t:TGs) (σ:L2.St) (N:L2.St->Hp->Prop):VK:=λv H=>∃a xs,v= .ref a/\SqT K H a xs/\xs.length=n/\t xs σ H N
def xB   (h:kGT K n t σ N v H):gTup K n t v σ H N:=h
def rd_kGT   (S:Sta B G0 H cs ds) (h:Has ds (.tuple xs) v) (hn:xs.length=n) (k:∀vs,xs.length=vs.length->Sta B G0 H cs (xs.zip vs++ds)->t vs σ H N):kGT K n t σ N v H:=by
 obtain ⟨p,vs,rfl,hp,g,m,_⟩:=S.tupAll h;exact ⟨p,vs,rfl,SqT.of hp,⋯,k vs g m⟩
def xA   (S:Sta B G0 H cs ds) (h:Has ds (.tuple [x,y]) v) (k:∀m g,Sta B G0 H cs ((x,m)::(y,g)::ds)->t [m,g] σ H N):kGT K 2 t σ N v H:=by
 refine rd_kGT S h rfl λvs p q=>?_
 rcases vs with _|⟨m,_|⟨g,_|⟨r,vs⟩⟩⟩<;>try cases p
 exact k m g q
def yP   (h:t v σ H λσ' H'=>u vs σ' H' N):gCons t u (v::vs) σ H N:=⟨v,vs,rfl,h⟩
def Wj  (h:N σ H):gNil [] σ H N:=⟨rfl,h⟩
def kFor (g:TG) (q:TS) (D:Ends) (σ:L2.St):It->Hp->Prop:=λJ H1=>∃W:Nat->Nat->L2.St->Hp->Prop,(∃m,W 0 m σ H1)/\∀i m σ H,W i m σ H->
 (J.stop i H/\D.nx σ H)\/(J.go i H/\∃N:L2.St->Hp->Prop,(∀σ' H',N σ' H'->∃p,p<m/\W (i+1) p σ' H')/\∀x H',J.yld i H x H'->g x σ H' λσ2 H2=>q {D with nx:=N,ct:=N,bk:=D.nx} σ2 H2)
def rd_for   (h:wi σ H (kFor g tb D σ)):tFor wi g tb D σ H:=h
def AtP (B G0:Hp) (Pv:L2.St->yq->Dat->Prop):L2.St->Hp->Prop:=λσ H=>∃cs ds,Sta B G0 H cs ds/\Pv σ cs ds
def YM  (S:Sta B G0 H cs ds) (h:Pv σ cs ds):AtP B G0 Pv σ H:=⟨cs,ds,S,h⟩
def Zs   (w:Wk B G0 J xs P) (Pv:Nat->L2.St->yq->Dat->Prop) (S:Sta B G0 H cs ds) (h0:Pv 0 σ cs ds) (r:∀i σ cs ds,Pv i σ cs ds->P cs ds)
 (s:∀(i:Nat) (x:PyData) (v:V) (σ:L2.St) (H:Hp) (cs:yq) (ds:Dat),xs[i]? =some x->Pv i σ cs ds->Sta B G0 H cs ((x,v)::ds)->g v σ H λσ2 H2=>tb (mkL D (AtP B G0 (Pv (i+1)))) σ2 H2)
 (hd:∀(σ:L2.St) (H:Hp) (cs:yq) (ds:Dat),Pv xs.length σ cs ds->Sta B G0 H cs ds->D.nx σ H):kFor g tb D σ J H:=by
 refine ⟨λi m σ H=>m=xs.length - i/\i<=xs.length/\AtP B G0 (Pv i) σ H,⟨xs.length,by simp,TR _,cs,ds,S,h0⟩,?_⟩
 rintro i m σ H ⟨rfl,hi,cs,ds,S,p⟩
 by_cases q:i<xs.length
 ·refine .inr ⟨w.go S (r _ _ _ _ p) q,AtP B G0 (Pv (i+1)),λσ' H' p'=>⟨xs.length - (i+1),⋯,rfl,q,p'⟩,λx H' y=>?_⟩;exact s i _ x σ H' cs ds (Qb q) p (w.yld S (r _ _ _ _ p) (Qb q) y).2
 ·have e:i=xs.length:=⋯
  subst e;exact .inl ⟨w.stop S (r _ _ _ _ p) (Qu _),hd σ H cs ds p S⟩
def WP (B G0:Hp) (Pv:Nat->L2.St->yq->Dat->Prop):Nat->L2.St->Hp->Prop:=λm σ H=>AtP B G0 (Pv m) σ H
def kWh (W:Nat->L2.St->Hp->Prop) (p:TS) (D:Ends) (m:Nat) (σ:L2.St):Bool->Hp->Prop:=λb H1=>if b=true then ∃N:L2.St->Hp->Prop,(∀σ' H',N σ' H'->∃g,g<m/\W g σ' H')/\p {D with nx:=N,ct:=N,bk:=D.nx} σ H1 else D.nx σ H1
def rQ    (r:b=true->tb (mkL D (λσ' H'=>∃g,g<m/\W g σ' H')) σ H)
 (p:b=false->D.nx σ H):kWh W tb D m σ b H:=by
 cases b with
 |true=>exact ⟨_,λσ' H' q=>q,r rfl⟩
 |false=>exact p rfl
def kX {c:TT} {g:TS} {D:Ends} {σ:L2.St} (W:Nat->L2.St->Hp->Prop) (m:Nat) (h0:W m σ H) (p:∀(m:Nat) (σ:L2.St) (H:Hp),W m σ H->c σ H (kWh W g D m σ)):Bh c g D σ H:=⟨W,⟨m,h0⟩,p⟩
def og {c:TT} {g:TS} {D:Ends} {σ:L2.St} (Pv:Nat->L2.St->yq->Dat->Prop) (m:Nat) (S:Sta B G0 H cs ds) (h0:Pv m σ cs ds)
 (q:∀(m:Nat) (σ:L2.St) (H:Hp) (cs:yq) (ds:Dat),Pv m σ cs ds->Sta B G0 H cs ds->c σ H (kWh (WP B G0 Pv) g D m σ)):Bh c g D σ H:=
 ⟨WP B G0 Pv,⟨m,cs,ds,S,h0⟩,λm σ H ⟨cs,ds,S,p⟩=>q m σ H cs ds p S⟩
def Hf (n:Nat) (fr:List Nat) (g:Blk TG) (tt:Blk TT) (w:Blk TE) (σ:L2.St) (Q:VK):It->Hp->Prop:=λJ H1=>∀D,H1 D=none->∀C ex s0 r,
 ∃W:Nat->Nat->List V->Hp->Prop,(∃m,W 0 m [] (upd H1 D (.lst [])))/\∀i m ys p,W i m ys p->p D=some (.lst ys)/\
  ((J.stop i p/\Q (.ref D) p)\/(J.go i p/\∀x u,J.yld i p x u->g C ex s0 r x (List.replicate n none++frσ σ fr) u λσ4 H4=>σ4.drop n=frσ σ fr/\tt C ex s0 r σ4 H4 λb t=>
    if b=true then w C ex s0 r σ4 t λy s=>s D=some (.lst ys)/\ys.length<sizeLine/\∃q,q<m/\W (i+1) q (ys++[y]) (upd s D (.lst (ys++[y])))
    else ∃q,q<m/\W (i+1) q ys t))
def rd_comp     (h:wi σ H (Hf n fr g tt te σ Q)):vQ n fr wi g tt te σ H Q:=h
structure Turn1 (B G0:Hp) (cs:yq) (B' G':Hp):Prop where
 b:zP B B'
 ro:∀c∈cs,Ro B' G' c.1 c.2
 old:∀{L:Addr} {xs:List PyData},Ro B G0 L xs->Ro B' G' L xs
def cc     (w:Wk B G0 J xs P) (f:Nat->Option PyData) (S:Sta B G0 H cs ds) (Pf:∀D ys,P ((D,ys)::cs) ds) (hn:xs.length<=1000)
 (hs:∀(i:Nat) (x:PyData) (v:V) (t G':Hp) (Kd:VK) (Kn:Hp->Prop),xs[i]? =some x->Turn1 B G0 cs t G'->Sta t G' t [] ((x,v)::ds)->
  (∀{z:PyData} {y:V} {r:Hp} {cs':yq} {ds':Dat},f i=some z->Sta t G' r cs' ds'->Has ds' z y->Kd y r)->(∀{s:Hp} {cs':yq} {ds':Dat},f i=none->Sta t G' s cs' ds'->Kn s)->
  ∀C ex s0 O,g C ex s0 O v (List.replicate n none++frσ σ fr) t λσ4 H4=>σ4.drop n=frσ σ fr/\tt C ex s0 O σ4 H4 λb s=>if b=true then te C ex s0 O σ4 s Kd else Kn s)
 (k:∀D H',zP H H'->Sta B G0 H' ((D,(List.range xs.length).filterMap f)::cs) ds->Q (.ref D) H'):Hf n fr g tt te σ Q J H:=by
 intro D hD C ex s0 O;have len:∀i,((List.range i).filterMap f).length<=i:=λi=>QL (jbm _ _) (by rw [jcc];exact Qu _);refine ⟨λi m ys N=>m=xs.length - i/\i<=xs.length/\N D=some (.lst ys)/\zP H N/\Sta B G0 N ((D,(List.range i).filterMap f)::cs) ds,⟨xs.length,by simp,TR _,yf,zP.new hD _,S.newL hD .nil⟩,?_⟩
 rintro i m ys N ⟨rfl,hi,Sr,U,Y⟩
 refine ⟨Sr,?_⟩
 by_cases M:i<xs.length
 ·refine .inr ⟨w.go Y (Pf _ _) M,λv Z y=>?_⟩;obtain ⟨X,G3,S3⟩:=w.yld Y (Pf _ _) (Qb M) y;obtain ⟨a,b,c,d,e,f',g'⟩:=id S3;have I:Z D=some (.lst ys):=X _ _ Sr
  have t1:Turn1 B G0 cs Z G3:=by
   refine ⟨c,λq T=>?_,λ{L zs} ⟨r1,vs,r2,r3⟩=>?_⟩
   ·obtain ⟨_,y',vs,z',u'⟩:=e q (Qf _ T);exact ⟨y',vs,z',u'⟩
   ·exact ⟨by rw [d L (by rw [r2];simp)];exact r1,vs,c _ _ r2,zJ.mono a _ _ r3⟩
  have up:∀{r:Hp} {cs':yq} {ds':Dat} {o:HO},zP H Z->H D=none->zP H r->zP H (upd r D o):=λ{r cs' ds' o} _ hn h q u T=>by
   rw [ya (yc T hn)];exact h _ _ T
  refine hs i _ v Z G3 _ _ (Qb M) t1 (Sta.enter b g') ?_ ?_ C ex s0 O
  ·intro z y6 r cs' ds' fz S6 hz;obtain ⟨G6,gr,al⟩:=S6.leave;have A:r D=some (.lst ys):=gr.h _ _ I;have S6':Lg B G0 r ((D,(List.range i).filterMap f)::cs) ((xs[i],v)::ds) G6:=S3.grow gr
   have S7:Sta B G0 r ((D,(List.range i).filterMap f)::cs) ((z,y6)::ds):=by
    obtain ⟨a',b',c',d',e',f'',g''⟩:=S6';exact ⟨G6,a',b',c',d',e',f'',YK.cons (λp hp=>g'' p (Qf _ hp)) (hz G6 al)⟩
   obtain ⟨vs,hv,hl,put⟩:=S7.put;rw [A] at hv;cases hv;refine ⟨A,Xt (by have:=len i;omega),xs.length - (i+1),⋯,rfl,M,yf,up (cs':=cs') (ds':=ds') (U.trans X) hD ((U.trans X).trans gr.h),?_⟩
   have er:(List.range (i+1)).filterMap f=(List.range i).filterMap f++[z]:=by
    rw [List.range_succ,List.filterMap_append];simp [fz]
   rw [er];exact (put _ _ λG a u=>u.app (by rw [zJ];exact ⟨y6,[],rfl,a _ (Qe ..),by rw [zJ]⟩)).drop1
  ·intro s cs' ds' fz S5;obtain ⟨G5,gr,al⟩:=S5.leave;have S5':Sta B G0 s ((D,(List.range i).filterMap f)::cs) ((xs[i],v)::ds):=⟨G5,S3.grow gr⟩
   have er:(List.range (i+1)).filterMap f=(List.range i).filterMap f:=by
    rw [List.range_succ,List.filterMap_append];simp [fz]
   exact ⟨xs.length - (i+1),⋯,rfl,M,gr.h _ _ I,(U.trans X).trans gr.h,by rw [er];exact S5'.drop1⟩
 ·have e:i=xs.length:=⋯
  subst e;exact .inl ⟨w.stop Y (Pf _ _) (Qu _),k D N U Y⟩
def KO {α β:Type} (g:α->β) (l:List α):l.filterMap (λi=>some (g i))=l.map g:=by
 induction l with
 |nil=>rfl
 |cons a l m=>simp [m]
def yp     (w:Wk B G0 J xs P) (f:Nat->PyData) (A:(List.range xs.length).map f=ys) (S:Sta B G0 H cs ds) (L:∀D ys,P ((D,ys)::cs) ds) (hn:xs.length<=1000)
 (I:∀(i:Nat) (x:PyData) (v:V) (m p:Hp) (r:VK) (s:Hp->Prop),xs[i]? =some x->Turn1 B G0 cs m p->Sta m p m [] ((x,v)::ds)->
  (∀{y:V} {t:Hp} {cs':yq} {ds':Dat},Sta m p t cs' ds'->Has ds' (f i) y->r y t)->
  ∀C ex s0 u,g C ex s0 u v (List.replicate n none++frσ σ fr) m λσ4 H4=>σ4.drop n=frσ σ fr/\tt C ex s0 u σ4 H4 λb z=>if b=true then te C ex s0 u σ4 z r else s z)
 (k:∀D H',zP H H'->Sta B G0 H' ((D,ys)::cs) ds->Q (.ref D) H'):Hf n fr g tt te σ Q J H:=by
 refine cc w (λi=>some (f i)) S L hn (λi x v m p r s G t1 q hd _=>I i x v m p r s G t1 q λ{y t cs' ds'} a b=>hd rfl a b) λD H' e q=>k D H' e ?_;rw [KO,A] at q;exact q
def zO (S:Sta B G0 H cs ds) (h:Has ds (.list xs) v) (k:∀J,Wk B G0 J xs (λ_ ds=>Has ds (.list xs) v)->R J H):kIL K R v H:=by
 obtain ⟨p,vs,rfl,hp,_⟩:=S.lst h;exact ⟨p,rfl,⟨_,SqL.of hp⟩,k _ (Ba Vy)⟩
def fW (S:Sta B G0 H cs ds) (h:Has ds (.tuple xs) v) (k:∀J,Wk B G0 J xs (λ_ ds=>Has ds (.tuple xs) v)->R J H):kIT K R v H:=by
 obtain ⟨p,vs,rfl,hp,_⟩:=S.tup h;exact ⟨p,rfl,⟨_,SqT.of hp⟩,k _ (wk_tup ff)⟩
def Cm  (S:Sta B G0 H cs ds) (h:(L,xs)∈cs) (k:∀J,Wk B G0 J xs (λcs _=>(L,xs)∈cs)->R J H):kIL K R (.ref L) H:=by
 obtain ⟨vs,hp,_⟩:=S.cell h;exact ⟨L,rfl,⟨_,SqL.of hp⟩,k _ (Ba Fx)⟩
def JM (S:Sta B G0 H cs ds) (h:Has ds (.tuple xs) v) (k:∀J,Wk B G0 J (sR xs) (λ_ ds=>Has ds (.tuple xs) v)->R J H):kEn false K R [v] H:=by
 obtain ⟨p,vs,rfl,hp,_⟩:=S.tup h;exact ⟨p,rfl,⟨_,SqT.of hp⟩,k _ (Bb ff)⟩
def mD (S:Sta B G0 H cs ds) (h:Has ds (.list xs) v) (k:∀J,Wk B G0 J (sR xs) (λ_ ds=>Has ds (.list xs) v)->R J H):kEn true K R [v] H:=by
 obtain ⟨p,vs,rfl,hp,_⟩:=S.lst h;exact ⟨p,rfl,⟨_,SqL.of hp⟩,k _ (Bb Vy)⟩
def dZ  (S:Sta B G0 H cs ds) (h:Has ds (.tuple xs) v) (m:Has ds (.tuple ys) w) (k:∀J,Wk B G0 J (HZ xs ys) (λcs ds=>Has ds (.tuple xs) v/\(∀x u,Has ds (.tuple ys) w->Has ((x,u)::ds) (.tuple ys) w)/\Has ds (.tuple ys) w)->R J H):kZi false false K R [v,w] H:=by
 obtain ⟨p,vs,rfl,hp,_⟩:=S.tup h;obtain ⟨q,ws,rfl,g,_⟩:=S.tup m;exact ⟨p,q,rfl,⟨_,SqT.of hp⟩,⟨_,SqT.of g⟩,k _ (AZ ff ff)⟩
def Sta.refL (S:Sta B G0 H cs ds) (h:Has ds (.list xs) v):∃a,v= .ref a:=by
 obtain ⟨p,_,e,_⟩:=S.lst h;exact ⟨p,e⟩
section
variable {α:Type}
def spT (enc:α->List PyData) (dom:α->Prop) (res:α->PyData):Sp:=λvs H Q _=>∃(G:Hp) (a:α),zP G H/\zJ G (enc a) vs/\dom a/\∀v H' g,Grow G H g H'->Is g (res a) v->Q v H'
def spL (enc:α->List PyData) (dom:α->Prop) (res:α->List PyData):Sp:=λvs H Q _=>∃(G:Hp) (a:α),zP G H/\zJ G (enc a) vs/\dom a/\∀p H' g us,Grow G H g H'->H p=none->g p=none->H' p=some (.lst us)->zJ g (res a) us->Q (.ref p) H'
def spB (enc:α->List PyData) (dom:α->Prop) (res:α->V):Sp:=λvs H Q _=>∃(a:α),zJ H (enc a) vs/\dom a/\∀H',zP H H'->Q (res a) H'
variable {enc:α->List PyData} {dom:α->Prop} {res:α->PyData} {resL:α->List PyData} {resB:α->V} {Q:VK} {E:XK} {vs:List V}
def Yd (a:α) (S:Sta B G0 H cs ds) (g:ye ds (enc a) vs) (hd:dom a) (k:∀v H',zP H H'->Sta B G0 H' cs ((res a,v)::ds)->Q v H'):spT enc dom res vs H Q E:=by
 obtain ⟨G,S⟩:=S;refine ⟨G,a,S.2.1,g G S.2.2.2.2.2.2,hd,λv H' u gr m=>k v H' gr.h ?_⟩;obtain ⟨t,s,r,d',q,p,g'⟩:=S.grow gr;exact ⟨u,t,s,r,d',q,p,g'.cons m⟩
def Zw (a:α) (S:Sta B G0 H cs ds) (m:ye ds (enc a) vs) (hd:dom a) (k:∀p H',zP H H'->Sta B G0 H' ((p,resL a)::cs) ds->Q (.ref p) H'):spL enc dom resL vs H Q E:=by
 obtain ⟨G,S⟩:=S;refine ⟨G,a,S.2.1,m G S.2.2.2.2.2.2,hd,λp H' J us gr hp t s r=>k p H' gr.h ?_⟩;have u:=S.2.2.1.free hp;obtain ⟨_,_,_,_,e0,_,_⟩:=id S;obtain ⟨D,C,A,d',y,w,g'⟩:=S.grow gr;refine ⟨J,D,C,A,d',λq g=>?_,?_,g'⟩
 ·rcases Ql.mp g with rfl|g
  ·exact ⟨u,t,us,s,r⟩
  ·exact y q g
 ·rw [Qp,TZ];refine ⟨λz=>?_,w⟩;obtain ⟨q,g,I⟩:=Qj.mp z;obtain ⟨_,_,ws,z,_⟩:=e0 q g;rw [I,hp] at z;cases z
def WZ (a:α) (g:zJ H (enc a) vs) (hd:dom a) (k:∀H',zP H H'->Q (resB a) H'):spB enc dom resB vs H Q E:=⟨a,g,hd,k⟩
def Sta.hpAll (S:Sta B G0 H cs ds) (h:ye ds xs vs):zJ H xs vs:=by
 obtain ⟨G,a,b,c,d,e,f,g⟩:=S;exact zJ.mono b _ _ (h G g)
def YL  (S:Sta H G H' cs ds) (k:∀v H' g,Grow G H g H'->Is g r v->Q v H') (h:Has ds r v):Q v H':=by
 obtain ⟨g,gr,al⟩:=S.leave;exact k v H' g gr (h g al)
def xK  (S:Sta H G H' ((p,r)::cs) ds) (k:∀p H' m us,Grow G H m H'->H p=none->m p=none->H' p=some (.lst us)->zJ m r us->Q (.ref p) H'):Q (.ref p) H':=by
 obtain ⟨m,a,b,c,d,e,f,g⟩:=S;obtain ⟨x,y,us,z,u⟩:=e _ (Qe ..);exact k p H' m us ⟨c,a,b,d⟩ x y z u
def vX  (S:Sta H G H' cs ds) (k:∀H',zP H H'->Q r H'):Q r H':=k H' S.base
def YF  (h:zJ G [x] vs):∃v,vs=[v]/\YK G [(x,v)]:=by
 simp only [zJ] at h;obtain ⟨v,_,rfl,g,rfl⟩:=h;exact ⟨v,rfl,λp hp=>by simp at hp;subst hp;exact g⟩
def xG  (h:zJ G [x,y] vs):∃v w,vs=[v,w]/\YK G [(x,v),(y,w)]:=by
 simp only [zJ] at h;obtain ⟨v,_,rfl,m,w,_,rfl,g,rfl⟩:=h;exact ⟨v,w,rfl,λp hp=>by simp at hp;rcases hp with rfl|rfl<;>assumption⟩
def Ye  (h:zJ G [x,y,z] vs):∃v w u,vs=[v,w,u]/\YK G [(x,v),(y,w),(z,u)]:=by
 simp only [zJ] at h;obtain ⟨v,_,rfl,q,w,_,rfl,m,u,_,rfl,g,rfl⟩:=h;exact ⟨v,w,u,rfl,λp hp=>by simp at hp;rcases hp with rfl|rfl|rfl<;>assumption⟩
def Is.int_of  (h:Is G (.int i) v):v= .int i:=by rw [Is] at h;exact h
end
end
def wN {M:Model} {A:Around} {E:Value->Shared->Prop} {s:Shared} {scope:Scope} {globals:Addr} {closure:List (Str×Addr)} {qual y:Str} {func:Option Addr} {code:Value} {env:Env} {builtins:Addr} {Q:Env->Shared->Prop}
 (one:∀n acc,cellsFrom n scope.names acc=(y,n)::acc) (push:∀h,pushCells h scope.names=h.push {cls:= .type "cell",data:= .cell none})
 (g:Q (newEnv scope s.heap.objs.size globals ((y,s.heap.objs.size+1)::closure) qual func code (some env) builtins) {s with heap:=(s.heap.push {cls:= .type "dict",data:= .dict #[]}).push {cls:= .type "cell",data:= .cell none}}):
 wpAny M A (newFunctionEnv scope globals closure [] qual func code (some env) builtins) Q E s:=by
 simp only [newFunctionEnv,Option.isSome_some,if_true];refine Qg (wpAny_alloc ?_);refine Qg (wpAny_layCells _ (λname kind cells=>by cases hkc:kind==NameKind.cell<;>simp [hkc]) _ _ _ _ ?_);rw [one,push,show ({s with heap:=s.heap.push {cls:= .type "dict",data:= .dict #[]}}:Shared).heap.objs.size=s.heap.objs.size+1 from QV ..];refine Qg ?_;rw [List.forIn_nil];exact Qo (Qo g)
noncomputable def Xn (X:Cx) (N:List Str) (scope:Scope) (y:Str) (C:Addr) (ex:List Addr) (s:Shared) (H:Hp):Cx where
 prog:=X.prog
 w:=X.w
 K:=X.K
 mg:=X.mg
 base:=X.base
 A:=X.A
 N:=N
 s₀:=s
 H₀:=H
 env:=compEnvC scope ((y,C+1)::yY X.env.cells scope.names []) C X.env
 outer:=X.stack
 stack:=X.stack
 ex:=ex
 fn:=λx=>x==y
 calm:=X.calm
 pn:=[]
 xe:=λ_ _=>False
structure CompOk1 (X:Cx) (N:List Str) (n:Nat) (fr:List Nat) (scope:Scope) (y:Str):Prop where
 kind:scope.kind= .function
 nd:N.Nodup
 names:(N.drop n)=fr.map (λj=>(X.N[j]?).getD ("":Str))
 own:n<=N.length
 inx:(fr.all λj=>decide (j<X.N.length))=true
 free:((N.drop n).all λx=>decide (scope.names.lookup x=some .free))=true
 one:∀n acc,cellsFrom n scope.names acc=(y,n)::acc
 push:∀h,pushCells h scope.names=h.push {cls:= .type "cell",data:= .cell none}
 oth:(scope.names.all λz=>decide (z.2= .cell->z.1=y))=true
 yfree:(scope.names.all λz=>decide (z.2= .free->z.1≠y))=true
 loc:(scope.names.all λy=>decide (y.2= .local->scope.names.lookup y.1=some .local))=true
 seen:(scope.names.all λy=>decide (y.2= .free->(X.env.kindOf y.1=some .cell\/X.env.kindOf y.1=some .free)))=true
def VU   (h:(relabel scope env).names.lookup x=some k) (p:k= .cell\/k= .free) (s:(scope.names.all λz=>decide (z.2= .cell->z.1=y))=true):x=y\/(x,NameKind.free)∈scope.names:=by
 unfold relabel at h;dsimp only at h
 have key:∀names:List (Str×NameKind),(names.all λz=>decide (z.2= .cell->z.1=y))=true->
  (names.map λ(n,k)=>if (k==NameKind.free && env.scope.kind== .function && env.kindOf n==some .cell)=true then (n,NameKind.cell) else (n,k)).lookup x=some k->x=y\/(x,NameKind.free)∈names:=by
  intro names
  induction names with
  |nil=>intro _ h;simp at h
  |cons z r m=>
   intro ha h;obtain ⟨n,j⟩:=z;rw [List.all_cons,TF] at ha;rw [Qp] at h;have t:∀(b:Bool) (g:NameKind),((if b=true then (n,NameKind.cell) else (n,g)):Str×NameKind)=(n,if b=true then NameKind.cell else g):=by intro b g;cases b<;>rfl
   dsimp only at h;rw [t,jaN] at h
   cases hx:x==n with
   |false=>
    rw [hx] at h;exact (m ha.2 h).imp id (Qf _)
   |true=>
    rw [hx] at h;have e:x=n:=by simpa using hx
    subst e;have h':=QH h;have q:j= .cell->x=y:=Qz ha.1
    cases hb:(j==NameKind.free && env.scope.kind== .function && env.kindOf x==some .cell) with
    |true=>
     rw [TF,TF] at hb;have:j= .free:=by simpa using hb.1.1
     subst this;exact .inr (Qe ..)
    |false=>
     rw [hb] at h';simp only [jbX,if_false] at h';subst h'
     rcases p with z|z
     ·exact .inl (q z)
     ·subst z;exact .inr (Qe ..)
 exact key _ s h
section
variable {X:Cx} {N:List Str} {n:Nat} {fr:List Nat} {scope:Scope} {pins:Pn} {σ:L2.St} {H:Hp} {s:Shared} {y:Str}
def CompOk1.cells (O:CompOk1 X N n fr scope y) (I:Inv X pins σ H s):∀y∈scope.names,y.2= .free->∃c,X.env.cells.lookup y.1=some c:=λy g hf=>I.ok.has y.1 (Qz (TY.mp O.seen y g) hf)
def eE  :((y,a)::l).lookup x=if x=y then some a else l.lookup x:=by
 rw [jaN]
 cases h:x==y with
 |true=>rw [QJ ‹h›]
 |false=>rw [QO ‹h›]
def sY   (O:CompOk1 X N n fr scope y) (I:Inv X pins σ H s) (hf:∀b∈fp,tN X pins H b) (Si:∀b∈fp,b<s.heap.objs.size)
 (NW:h'.Ns s.heap.objs.size m) (G:h'.IsCell (s.heap.objs.size+1) none) (keep:∀b o,s.heap.get? b=some o->h'.get? b=some o):
 Inv (Xn X N scope y s.heap.objs.size fp s H) [] (List.replicate n none++frσ σ fr) H {s with heap:=h',toks:=tk}:=by
 have Oo:=O.cells I;have lk:∀x c,(yY X.env.cells scope.names []).lookup x=some c->X.env.cells.lookup x=some c:=λx c h=>Wr Oo (λc h=>by simp at h) h;have cne:∀x c,(yY X.env.cells scope.names []).lookup x=some c->∃v,s.heap.IsCell c v:=λx c h=>I.cell x c (lk x c h)
 have J:∀x c,(yY X.env.cells scope.names []).lookup x=some c->c<s.heap.objs.size:=λx c h=>by
  obtain ⟨v,o,D,_⟩:=cne x c h;exact Qv D
 have g:∀x c,((y,s.heap.objs.size+1)::yY X.env.cells scope.names []).lookup x=some c->(x=y/\c=s.heap.objs.size+1)\/(yY X.env.cells scope.names []).lookup x=some c:=λx c h=>by
  rw [eE] at h
  by_cases e:x=y
  ·rw [QJ e] at h;exact .inl ⟨e,(QH h).symm⟩
  ·rw [QO e] at h;exact .inr h
 have C:∀x w c,((y,s.heap.objs.size+1)::yY X.env.cells scope.names []).lookup x=some c->((y,s.heap.objs.size+1)::yY X.env.cells scope.names []).lookup w=some c->x=w:=λx w c M r=>by
  rcases g x c M with ⟨a,b⟩|a
  ·rcases g w c r with ⟨L,_⟩|L
   ·rw [a,L]
   ·have:=J w c L;rw [b] at this;exact absurd (Nat.lt_trans (Tn _) this) (jaz _)
  ·rcases g w c r with ⟨_,b⟩|L
   ·have:=J x c a;rw [b] at this;exact absurd (Nat.lt_trans (Tn _) this) (jaz _)
   ·exact I.ok.inj x w c (lk x c a) (lk w c L)
 have K:∀x c,(x==y)=true->((y,s.heap.objs.size+1)::yY X.env.cells scope.names []).lookup x=some c->s.heap.objs.size<=c:=λx c t h=>by
  rcases g x c h with ⟨_,b⟩|a
  ·rw [b];exact jat _
  ·rw [eE,QJ ‹t›] at h;cases h;exact jat _
 refine ⟨⟨I.mod,O.kind,I.ok.glob,I.ok.blt,Qu _,C,λx t=>?_,K,I.ok.hd,I.ok.frames, .inl rfl,λb A=>⟨QQ (Si b A),λx c h=>by
  rcases g x c h with ⟨_,z⟩|z
  ·rw [z];exact λe=>absurd (Si b A) (by rw [<-e];exact Nat.not_lt.mpr (jat _))
  ·exact (hf b A).2.2.2.2.1 x c (lk x c z)⟩,I.bs,QL I.ok.bsz I.sz,λb o e A=>?_,λb A z=>?_,I.stack,I.stkFree⟩,
  rfl,I.bare,Un.kept keep,⟨m,NW,λi x v M r h3=>?_⟩,λx c h=>?_,I.hok.fresh (Qu _),λx c h=>by
   rcases g x c h with ⟨_,z⟩|z
   ·rw [z];exact I.hok.fresh (jat _)
   ·exact I.freeC x c (lk x c z),λp hp=>absurd hp (by simp [Xn]),I.hok.kept keep,?_⟩
 ·have MV:x=y\/(x,NameKind.free)∈scope.names:=by
   rcases t with t|t
   ·exact VU t (.inl rfl) O.oth
   ·exact VU t (.inr rfl) O.oth
  show ∃c,((y,s.heap.objs.size+1)::yY X.env.cells scope.names []).lookup x=some c;rw [eE]
  by_cases e:x=y
  ·exact ⟨_,QJ e⟩
  ·rw [QO e];exact jan.mp (XH (.inl (MV.resolve_left e)))
 ·rcases (hf b A).2.2.2.1 with z|z
  ·exact I.ok.noex b o e z
  ·exact absurd (QZ (Qv (I.ok.bs b o e).1) z) (jaz _)
 ·rcases Ql.mp (I.stkSub b z) with q|q
  ·exact (hf b A).2.1 q
  ·exact (hf b A).2.2.1 q
 ·by_cases U:i<n
  ·rw [jae ‹U›,QU,QJ U] at r;cases r
  ·have Z:(N.drop n)[i - n]? =some x:=by rw [jaj,show n+(i - n)=i by omega];exact M
   rw [TB ‹U›,QD] at r;unfold frσ at r;rw [Qh] at r;rw [O.names,Qh] at Z
   cases ej:fr[i - n]? with
   |none=>rw [ej] at r;cases r
   |some j=>
    rw [ej] at r Z;have T:j<X.N.length:=Qz (TY.mp O.inx j (Qc ej))
    have t:X.N[j]? =some x:=by
     have e:=QH Z;dsimp only at e;rw [Qb T] at e⊢;exact congrArg some e
    have hv:σ[j]? =some (some v):=by
     have e:=QH r;dsimp only at e
     cases es:σ[j]? with
     |none=>rw [es] at e;cases e
     |some o=>rw [es] at e;rw [show o=some v from e]
    have Oe:scope.names.lookup x=some .free:=by
     refine Qz (TY.mp O.free x ?_);exact Qc (i:=i - n) (by rw [jaj,show n+(i - n)=i by omega];exact M)
    have Y:(x,NameKind.free)∈scope.names:=jaG Oe;have Rj:=Qz (TY.mp O.seen _ Y) rfl;obtain ⟨mX,hnX,P⟩:=I.loc;obtain ⟨u,ru,lu⟩:=P j x v t hv (Rj.elim (λz=> .inr (.inl z)) λz=> .inr (.inr z));refine ⟨u,ru, .inr ⟨?_,?_⟩⟩
    ·exact cU Oe
    ·obtain ⟨c,hc⟩:=jan.mp (XH (cells:=X.env.cells) (acc:=[]) (.inl Y))
     refine ⟨c,(by
      show ((y,s.heap.objs.size+1)::yY X.env.cells scope.names []).lookup x=some c;rw [eE,QO (Qz (TY.mp O.yfree _ Y) rfl)]
      exact hc),?_⟩
     rcases lu with ⟨k,_⟩|⟨_,c',ML,z⟩
     ·rcases Rj with q|q
      ·rw [show X.env.kindOf x=_ from k] at q;cases q
      ·rw [show X.env.kindOf x=_ from k] at q;cases q
     ·have:=lk x c hc;rw [ML] at this;cases this;obtain ⟨o,D,hd⟩:=z;exact ⟨o,keep _ _ D,hd⟩
 ·rcases g x c h with ⟨_,z⟩|z
  ·rw [z];exact ⟨_,G⟩
  ·obtain ⟨v,o,D,hd⟩:=cne x c z;exact ⟨v,o,keep _ _ D,hd⟩
 ·rw [QB,QD];unfold frσ;have e:=congrArg List.length O.names;rw [To,Qa] at e;have:=O.own;show _=N.length;rw [Qa];omega
end
section
variable {X:Cx} {N:List Str} {n:Nat} {fr:List Nat} {scope:Scope} {y:Str}
def En {tg iter elt:Expr} {ifs:List Expr} {pos:Pos} {g:Blk TG} {tt:Blk TT} {te:Blk TE} {pins:Pn} {σ:L2.St} {z:Hp} {s2:Shared} {it:Addr} {I:List Addr} {tn:Nat->Heap->Prop} {J:It} {Q:VK}
 {RR:Value->Addr->Result->Shared->Prop} {E:Value->Shared->Prop}
 (hc:X.calm=true) (O:CompOk1 X N n fr scope y)
 (hg:∀C ex s H,PG (Xn X N scope y C ex s H) tg (g C ex s H)) (ht:∀C ex s H,PIf (Xn X N scope y C ex s H) ifs (tt C ex s H)) (he:∀C ex s H,PE (Xn X N scope y C ex s H) elt (te C ex s H))
 (I2:Inv X pins σ z s2) (T:Turn X.prog X.w X.K tg J I it tn) (Nj:tn 0 s2.heap) (f2:∀b∈I,tN X pins z b)
 (hW:∀D,z D=none->∀C ex s0 H0,∃W:Nat->Nat->List V->Hp->Prop,(∃m,W 0 m [] (upd z D (.lst [])))/\∀i m ys z,W i m ys z->z D=some (.lst ys)/\
  ((J.stop i z/\Q (.ref D) z)\/(J.go i z/\∀x H3,J.yld i z x H3->g C ex s0 H0 x (List.replicate n none++frσ σ fr) H3 λσ4 H4=>σ4.drop n=frσ σ fr/\tt C ex s0 H0 σ4 H4 λb U=>
    if b=true then te C ex s0 H0 σ4 U λy H6=>H6 D=some (.lst ys)/\ys.length<sizeLine/\∃M,M<m/\W (i+1) M (ys++[y]) (upd H6 D (.lst (ys++[y])))
    else ∃M,M<m/\W (i+1) M ys U)))
 (hR:∀(D C:Addr) (H':Hp) (s':Shared),Q (.ref D) H'->(∃m,s'.heap.Ns C m)->Side X pins H' C->Inv X pins σ H' s'->RR (.ref D) C (.ok .next) s'):
 wpAny (model X.prog X.w) X.A (newList []) (λacc s₃=>wpAny (model X.prog X.w) X.A (newFunctionEnv scope X.env.globals (yY X.env.cells scope.names []) [] X.env.qual none .none (some X.env)) (λcenv s₄=>
  codeAny (model X.prog X.w) X.A (.compStart (.ListComp elt [⟨tg,iter,ifs,0⟩] scope pos) 0 (.ref it) acc {cenv with scope:=relabel scope X.env}) (RR acc cenv.locals) s₄) E s₃) E s2:=by
 refine Ti (wN O.one O.push ?_);have hDn:z s2.heap.objs.size=none:=I2.fresh;have I3:Inv X pins σ (upd z s2.heap.objs.size (.lst [])) {s2 with heap:=s2.heap.push {cls:= .type "list",data:= .seq ([]:List Value).toArray},toks:=s2.toks}:=I2.lnew (its:=[]) .nil (TR _);generalize hD:s2.heap.objs.size=D at*;dsimp only;generalize PZ:s2.heap.push {cls:= .type "list",dict:=none,data:= .seq ([]:List Value).toArray}=q at*;have k23:∀b o,s2.heap.get? b=some o->q.get? b=some o:=λb o e=>by rw [<-PZ];exact Qi _ e
 have SN:q.objs.size=D+1:=by rw [<-PZ,QV,hD]
 have NW₁:((q.push {cls:= .type "dict",dict:=none,data:= .dict #[],slots:=#[]}).push {cls:= .type "cell",dict:=none,data:= .cell none,slots:=#[]}).Ns q.objs.size (λ_=>none):=(Heap.Ns.new q (.type "dict")).keeps λb o e=>Qi _ e
 have Oo₁:((q.push {cls:= .type "dict",dict:=none,data:= .dict #[],slots:=#[]}).push {cls:= .type "cell",dict:=none,data:= .cell none,slots:=#[]}).IsCell (q.objs.size+1) none:=⟨_,by
  have:=Qx (q.push {cls:= .type "dict",dict:=none,data:= .dict #[],slots:=#[]}) (o:={cls:= .type "cell",dict:=none,data:= .cell none,slots:=#[]}) rfl;rw [QV] at this
  exact this,rfl⟩
 have keep:∀b o,q.get? b=some o->((q.push {cls:= .type "dict",dict:=none,data:= .dict #[],slots:=#[]}).push {cls:= .type "cell",dict:=none,data:= .cell none,slots:=#[]}).get? b=some o:=λb o e=>Qi _ (Qi _ e);generalize (q.push {cls:= .type "dict",dict:=none,data:= .dict #[],slots:=#[]}).push {cls:= .type "cell",dict:=none,data:= .cell none,slots:=#[]}=h₁ at*
 have flt:∀b∈I,b<D:=λb t=>by
  obtain ⟨o,ho,_⟩:=T.obj _ _ Nj b t;rw [<-hD];exact Qv ho
 have f3:∀b∈I,tN X pins (upd z D (.lst [])) b:=λb t=>⟨by rw [ya (QQ (flt b t))];exact (f2 b t).1,(f2 b t).2⟩;have IY:=sY (tk:=s2.toks) O I3 f3 (λb t=>by show b<q.objs.size;rw [SN];exact TH (flt b t)) NW₁ Oo₁ keep;obtain ⟨W,⟨m0,w0⟩,turn⟩:=hW _ hDn q.objs.size I {s2 with heap:=q,toks:=s2.toks} (upd z D (.lst []));have PL:tn 0 h₁:=T.keep _ _ _ Nj λb t o e=>keep b o (k23 b o e);generalize G:Xn X N scope y q.objs.size I {s2 with heap:=q,toks:=s2.toks} (upd z D (.lst []))=Y at*;have P:Y.env=compEnvC scope ((y,q.objs.size+1)::yY X.env.cells scope.names []) q.objs.size X.env:=by rw [<-G];rfl
 have Rp:=hg q.objs.size I {s2 with heap:=q,toks:=s2.toks} (upd z D (.lst []));have PY:=ht q.objs.size I {s2 with heap:=q,toks:=s2.toks} (upd z D (.lst []));have Rr:=he q.objs.size I {s2 with heap:=q,toks:=s2.toks} (upd z D (.lst []));rw [G] at Rp PY Rr;have eP:Y.prog=X.prog:=by rw [<-G];rfl
 have Z:Y.w=X.w:=by rw [<-G];rfl
 have eK:Y.K=X.K:=by rw [<-G];rfl
 have eA:Y.A=X.A:=by rw [<-G];rfl
 have eC:Y.calm=true:=by rw [<-G];exact hc
 have eX:Y.xe=λ_ _=>False:=by rw [<-G];rfl
 have fY:∀{H':Hp},(∀b∈I,H' b=none)->∀b∈I,tN Y [] H' b:=λ{H'} hn b t=>by
  have h1:=IY.ok.exf b (by rw [<-G];exact t);refine ⟨hn b t,h1.1,IY.ok.exfs b (by rw [<-G];exact t), .inl (by rw [<-G];exact t),h1.2,λp hp=>absurd hp (by rw [<-G];simp [Xn])⟩
 have loop:codeAny (model X.prog X.w) X.A (.compLoop (.ListComp elt [⟨tg,iter,ifs,0⟩] scope pos) 0 (.ref it) (.ref D) (compEnvC scope ((y,q.objs.size+1)::yY X.env.cells scope.names []) q.objs.size X.env))
  (RR (.ref D) q.objs.size) {s2 with heap:=h₁,toks:=s2.toks}:=by
  refine codeAny_loop rfl (λk s'=>∃i ys H',Inv Y [] (List.replicate n none++frσ σ fr) H' s'/\tn i s'.heap/\(∀b∈I,H' b=none)/\W i k ys H') (λk s5 hI=>?_) m0 ⟨0,[],_,IY,PL,λb t=>(f3 b t).1,w0⟩;obtain ⟨i,ys,U,I5,Ou,Pj,w5⟩:=hI;show wpAny _ X.A ((compTurn (.ListComp elt [⟨tg,iter,ifs,0⟩] scope pos) 0 (.ref it) (.ref D) _).onRaise (λx=>do noteFrame x _;theTreesLotGoes x)) _ _ s5;refine wpAny_noted ?_;rw [compTurn_list,<-P];refine Qg (wpAny_standAt (Qg ?_));obtain ⟨Sr,step⟩:=turn i k ys U w5
  rcases step with ⟨stop,qn⟩|⟨go,step⟩
  ·have d:=T.done Y eP Z eK eC i [] s5 _ U (λ_ _=>False) I5 (fY Pj) Ou stop;rw [eA] at d;refine yU (thn d λr s6 L=>?_);obtain ⟨hr,I6⟩:=L;subst hr;refine Qo ?_;have hC:U q.objs.size=none:=by have:=I6.free;rw [P] at this;exact this
   have Pb:∃m,s6.heap.Ns q.objs.size m:=by
    have:=I6.loc;rw [P] at this;obtain ⟨m,hm,_⟩:=this;exact ⟨m,hm⟩
   have sd:Side X pins U q.objs.size:=⟨hC,jaZ I3.lt,I3.sz,λx c e=>QQ (let ⟨v,o,ho,_⟩:=I3.cell x c e;Qv ho),λp hp=>QQ (Qv (I3.pin p hp).1)⟩;refine hR D q.objs.size U s6 qn Pb sd ?_;have un:=I6.base;have e0:Y.s₀.heap=q:=by rw [<-G];rfl
   have eH0:Y.H₀=upd z D (.lst []):=by rw [<-G];rfl
   have eF:Y.fs=frs X.stack:=by rw [<-G];rfl
   have eEx:Y.ex=I:=by rw [<-G];rfl
   rw [e0,eH0,eF,eEx] at un;have Oa:HOk X.prog X.w U s6.heap:=by have:=I6.hok;rw [eP,Z] at this;exact this
   have SW:s6.os=s2.os:=I6.os.trans (by rw [<-G];rfl);exact I3.call' (s':=s6) (ch:=I) SW un Oa I6.bare λb t=>⟨(f2 b t).2.2.2.1,(f2 b t).2.1,(f2 b t).2.2.2.2.1,(f2 b t).2.2.2.2.2⟩
  ·have d:=T.item Y eP Z eK eC i [] s5 _ U (λ_ _=>False) I5 (fY Pj) Ou go;rw [eA] at d;refine yU (thn d λr s6 L=>?_);obtain ⟨u,hr,h6⟩:=L;subst hr;refine Qg (yU (thn h6 λ_ s7 L=>?_));obtain ⟨x,H7,I7,r7,y7,OS,fr7⟩:=L;have I7':=I7.pinned (fY fr7) (T.obj _ _ OS);have g7:=Rp _ s7 _ H7 x u _ I7' r7 (step x H7 y7);rw [eA,eP,Z,eX] at g7;refine Qg (yU (thn g7 λ_ s8 L=>?_));obtain ⟨σ8,H8,I8,ed,q8⟩:=L;have t8:=PY _ s8 σ8 H8 _ I8 q8;rw [eA,eP,Z,eX] at t8;refine Qg (yU (thn t8 λb s9 L=>?_));obtain ⟨H9,I9,q9⟩:=L
   have back:∀{s':Shared} {H':Hp} {OR:List V} {M:Nat},Inv Y ([]++kd I s7.heap) σ8 H' s'->M<k->W (i+1) M OR H'->∃m,m<k/\∃i ys H',Inv Y [] (List.replicate n none++frσ σ fr) H' s'/\tn i s'.heap/\(∀b∈I,H' b=none)/\W i m ys H':=λ{s' H' OR M} I' hm w'=>by
    refine ⟨M,hm,i+1,OR,H',?_,T.keep _ _ _ OS λb t o e=>(I'.pin (b,o) (QF _ (QF _ (Yt t e)))).1,λb t=>?_,w'⟩
    ·refine (Inv.unpinned I').weak ?_ λj v hj=>?_
     ·exact IY.len.trans I'.len.symm
     ·by_cases Pd:j<n
      ·rw [jae ‹Pd›,QU,QJ Pd] at hj;cases hj
      ·rw [TB ‹Pd›,QD,<-ed,jaj,show n+(j - n)=j by omega] at hj;exact hj
    ·obtain ⟨o,e,d⟩:=T.obj _ _ OS b t;exact (I'.pin (b,o) (QF _ (QF _ (Yt t e)))).2.1
   cases b with
   |false=>
    obtain ⟨M,hm,w9⟩:=q9;exact Qo ⟨rfl,back I9 hm w9⟩
   |true=>
    have e9:=Rr _ s9 σ8 H9 _ I9 q9;rw [eA,eP,Z,eX] at e9;refine Qg (Qg (yU (thn e9 λv SQ L=>?_)));obtain ⟨y,OD,I10,SU,Ph,hz,M,hm,RK⟩:=L;have RE:=pT _ SQ σ8 OD (.ref D) [y] (.ref D) [v] (λ_ H'=>H'=upd OD D (.lst (ys++[y]))) I10 rfl (.cons SU .nil) ⟨D,ys,y,rfl,rfl,Ph,hz,rfl⟩;rw [eA,eP,Z,eX] at RE;refine Qg (yU (thn RE λ_ s11 L=>?_));obtain ⟨_,PF,I11,_,Pk⟩:=L;subst Pk;exact Qo (Qo ⟨rfl,back I11 hm RK⟩)
 exact codeAny_compStart_list loop (T.self _ _ _ _ _ PL loop)
def Gb {r iter elt:Expr} {ifs:List Expr} {pos:Pos} {t:TI} {g:Blk TG} {tt:Blk TT} {u:Blk TE}
 (P:X.calm=true) (O:CompOk1 X N n fr scope y) (L:PI X r iter t)
 (M:∀C ex s H,PG (Xn X N scope y C ex s H) r (g C ex s H)) (ht:∀C ex s H,PIf (Xn X N scope y C ex s H) ifs (tt C ex s H)) (he:∀C ex s H,PE (Xn X N scope y C ex s H) elt (u C ex s H))
 (K:∀x,foldedSetIterable iter X.env x=pure x:=by intro _;rfl):
 PE X (.ListComp elt [⟨r,iter,ifs,0⟩] scope pos) (vQ n fr t g tt u):=by
 intro pins s σ H Q I h;rw [eval_ListComp];refine jbQ (use:=none) rfl K (Wq (O.cells I)) O.kind (λy G=>Qz (TY.mp O.loc y G)) (thn (L pins s σ H _ I h) λv s1 h1=>thn h1 λz s2 Z=>?_);obtain ⟨it,fp,tn,J,H2,e,I2,T,Nj,f2,Y⟩:=Z;subst e;refine En (RR:=λacc C=>compPost (model X.prog X.w) X.A X.xe none (EP X pins σ Q) acc C) P O M ht he I2 T Nj f2 Y ?_;intro D C H' s' q ⟨m,hm⟩ p inv;exact ⟨m,hm,λh' OJ=>⟨.ref D,H',inv.turned (t':=s'.toks) (it:=C) (λb o U e=>OJ.extBut b o U e) p.nt p.nl (.inr p.ab) p.nc p.np,rfl,q⟩⟩
end
end S
namespace S
def par (c t:List Int):Prop:=c.map (·*t.sum)=t.map (·*c.sum)
instance (c t:List Int):Decidable (par c t):=inferInstanceAs (Decidable (_=_))
open Classical in
noncomputable def yh (a:Rat×List Rat):List (Rat×List Rat)->List (Rat×List Rat)
 |[]=>[]
 |[b]=>[b]
 |b::c::r=>if zR a b c then yh b (c::r) else b::yh b (c::r)
open Classical in
noncomputable def YE (cs:List zg) (i:Nat):Bool:=decide (i=0\/i+1=cs.length\/¬∀(a b c:zg),cs[i - 1]? =some a->cs[i]? =some b->cs[i+1]? =some c->zR a b c)
open Classical in
def Xx  (h:i=0\/i+1=cs.length\/¬∀(a b c:zg),cs[i - 1]? =some a->cs[i]? =some b->cs[i+1]? =some c->zR a b c):YE cs i=true:=by
 unfold YE;exact QW h
open Classical in
def kr  (h:¬(i=0\/i+1=cs.length\/¬∀(a b c:zg),cs[i - 1]? =some a->cs[i]? =some b->cs[i+1]? =some c->zR a b c)):YE cs i=false:=by
 unfold YE;exact Th h
noncomputable def yn:List zg->List zg
 |[]=>[]
 |c::r=>c::yh c r
theorem uJ:∀(r pre:List zg) (a:zg),(List.range' (pre.length+1) r.length).filterMap (λj=>if YE (pre++a::r) j then (pre++a::r)[j]? else none)=yh a r
 |[],pre,a=>by simp [yh]
 |[b],pre,a=>by
  have g:YE (pre++[a,b]) (pre.length+1)=true:=Xx (.inr (.inl (by simp)));simp [yh,g]
 |b::c::r,pre,a=>by
  have p:=uJ (c::r) (pre++[a]) b;rw [QB,TL,jaf,List.singleton_append] at p;rw [Qy,List.range'_succ,jaS,yh]
  have u:(pre++a::b::c::r)[pre.length+1 - 1]? =some a:=by
   rw [Nat.add_sub_cancel,TB (Qu _),Nat.sub_self];rfl
  have g1:(pre++a::b::c::r)[pre.length+1]? =some b:=by
   rw [TB ⋯,show pre.length+1 - pre.length=1 by omega];rfl
  have g2:(pre++a::b::c::r)[pre.length+1+1]? =some c:=by
   rw [TB ⋯,show pre.length+1+1 - pre.length=2 by omega];rfl
  by_cases m:zR a b c
  ·have g:YE (pre++a::b::c::r) (pre.length+1)=false:=by
    refine kr ?_
    rintro (q|q|q)
    ·omega
    ·simp at q;omega
    ·refine q λx y z t s hz=>?_;rw [u] at t;rw [g1] at s;rw [g2] at hz;cases t;cases s;cases hz;exact m
   rw [g,QJ m]
   simpa using p
  ·have g:YE (pre++a::b::c::r) (pre.length+1)=true:=Xx (.inr (.inr λq=>m (q a b c u g1 g2)));rw [g,QO m,QJ rfl,g1];dsimp only;rw [p]
def Ac {β:Type} (cs:List zg) (g:zg->β):(List.range cs.length).filterMap (λj=>if YE cs j then (cs[j]?).map g else none)=(yn cs).map g:=by
 have e:(List.range cs.length).filterMap (λj=>if YE cs j then (cs[j]?).map g else none)=((List.range cs.length).filterMap (λj=>if YE cs j then cs[j]? else none)).map g:=by
  rw [List.map_filterMap]
  congr 1
  funext j
  split<;>rfl
 rw [e]
 congr 1
 cases cs with
 |nil=>rfl
 |cons c r=>
  rw [Qy,List.range_eq_range',List.range'_succ,jaS];have m:YE (c::r) 0=true:=Xx (.inl rfl);rw [m,QJ rfl];have:=uJ r [] c;simp only [List.length_nil,jaK,jbo] at this;simp only [List.getElem?_cons_zero,jbo];rw [this,yn]
end S
namespace S
open PySem PySem.Spec PyProof.Rows L2
section
variable {α:Type} {enc:α->List PyData} {dom:α->Prop} {res:α->V} {B G0 H:Hp} {cs:yq} {ds:Dat} {Q:VK} {E:XK} {vs:List V} {v w:V}
def spP (enc:α->List PyData) (dom:α->Prop) (res:α->V):Sp:=λvs H Q _=>∃(a:α),zJ H (enc a) vs/\dom a/\Q (res a) H
def rd_spP (a:α) (S:Sta B G0 H cs ds) (g:ye ds (enc a) vs) (hd:dom a) (k:Q (res a) H):spP enc dom res vs H Q E:=⟨a,S.hpAll g,hd,k⟩
def SzQ.of_div  (e:q=Rat.divInt a b) (ha:Sz n a) (g:Sz n b) (h0:b≠0):SzQ n q:=by rw [e];exact SzQ.divInt ha g h0
def xw (p q:Rat):(p.den:Int)*(q.den:Int)≠0:=Int.ne_of_gt (Int.mul_pos (den_pos p) (den_pos q))
def EC (p q:Rat):Rat.divInt (p.num*(q.den:Int)+q.num*(p.den:Int)) ((p.den:Int)*(q.den:Int))=p+q:=by
 rw [Rat.add_def',<-Int.natCast_mul,Rat.divInt_ofNat]
def Bn (p q:Rat):Rat.divInt (p.num*(q.den:Int) - q.num*(p.den:Int)) ((p.den:Int)*(q.den:Int))=p - q:=by
 rw [Rat.sub_def',<-Int.natCast_mul,Rat.divInt_ofNat]
def Dj (p q:Rat):Rat.divInt (p.num*q.num) ((p.den:Int)*(q.den:Int))=p*q:=by
 rw [Rat.mul_def',<-Int.natCast_mul,Rat.divInt_ofNat]
def Iv {q:Rat} (h:q≠0):q.num≠0:=λz=>h (Rat.num_eq_zero.mp z)
def Eh (p q:Rat) (h:q≠0):Rat.divInt (p.num*(q.den:Int)) ((p.den:Int)*q.num)=p / q:=by
 rw [<-jbb,jbw,jai,Rat.inv_def]
section
variable {m n:Nat} {p q:Rat}
def SzQ.add (hp:SzQ m p) (g:SzQ n q):SzQ (m+n+1) (p+q):=
 SzQ.of_div (EC p q).symm (((hp.1.mul g.2).add ((g.1.mul hp.2).mono (Nat.le_of_eq (Nat.add_comm n m))))) ((hp.2.mul g.2).mono (jat _)) (xw p q)
def SzQ.sub (hp:SzQ m p) (g:SzQ n q):SzQ (m+n+1) (p - q):=
 SzQ.of_div (Bn p q).symm (((hp.1.mul g.2).sub ((g.1.mul hp.2).mono (Nat.le_of_eq (Nat.add_comm n m))))) ((hp.2.mul g.2).mono (jat _)) (xw p q)
def SzQ.mul (hp:SzQ m p) (g:SzQ n q):SzQ (m+n) (p*q):=
 SzQ.of_div (Dj p q).symm (hp.1.mul g.1) (hp.2.mul g.2) (xw p q)
def SzQ.div (hp:SzQ m p) (g:SzQ n q):SzQ (m+n) (p / q):=by
 by_cases h:q=0
 ·subst h;rw [jai,Rat.inv_zero,Rat.mul_zero]
  have hm:1<=m:=by
   cases m with
   |zero=>
    have r:(p.den:Int).natAbs<2 ^ 0:=hp.2;have s:=den_pos p;simp at r;omega
   |succ m=>omega
  exact ⟨tU (n:=m+n) ⋯ (show (-2:Int)<0 by decide) (show (0:Int)<2 by decide),tU (n:=m+n) ⋯ (show (-2:Int)<1 by decide) (show (1:Int)<2 by decide)⟩
 ·exact SzQ.of_div (Eh p q h).symm (hp.1.mul g.2) (hp.2.mul g.1) (Int.mul_ne_zero (Int.ne_of_gt (den_pos p)) (Iv h))
end
def XW:Sp:=spT (α:=Int×Int) (λa=>[.int a.1, .int a.2]) (λa=>a.2≠0/\Sz 8999 a.2) (λa=>frD (Rat.divInt a.1 a.2))
def Va (S:Sta B G0 H cs ds) (h0:j≠0) (hz:Sz 8999 j) (k:∀r H',zP H H'->Sta B G0 H' cs ((frD (Rat.divInt i j),r)::ds)->Q r H'):XW [.int i, .int j] H Q E:=
 Yd (i,j) S (.cons Has.int (.cons Has.int .nil)) ⟨h0,hz⟩ k
def spQ2 (dom:Rat->Rat->Prop) (g:Rat->Rat->Rat):Sp:=spT (α:=Rat×Rat) (λa=>[frD a.1,frD a.2]) (λa=>(∃m n,SzQ m a.1/\SzQ n a.2/\m+n<=8999)/\dom a.1 a.2) (λa=>frD (g a.1 a.2))
def rR   (S:Sta B G0 H cs ds) (t:Has ds (frD p) v) (s:Has ds (frD q) w) (s1:SzQ m p) (s2:SzQ n q) (u:m+n<=8999) (hd:dm p q)
 (k:∀r H',zP H H'->Sta B G0 H' cs ((frD (g p q),r)::ds)->Q r H'):spQ2 dm g [v,w] H Q E:=
 Yd (p,q) S (.cons t (.cons s .nil)) ⟨⟨m,n,s1,s2,u⟩,hd⟩ k
abbrev domT:Rat->Rat->Prop:=λ_ _=>True
abbrev uc:Sp:=spQ2 domT λp q=>p+q
abbrev aW:Sp:=spQ2 domT λp q=>p - q
abbrev qY:Sp:=spQ2 domT λp q=>p*q
abbrev Ik:Sp:=spQ2 (λ_ q=>q≠0) λp q=>p / q
def dW:Sp:=spP (α:=Rat×Rat) (λa=>[frD a.1,frD a.2]) (λa=>∃m n,SzQ m a.1/\SzQ n a.2/\m+n<=100000000) (λa=> .bl (decide (a.1<a.2)))
def pJ  (S:Sta B G0 H cs ds) (r:Has ds (frD p) v) (g:Has ds (frD q) w) (s1:SzQ m p) (s2:SzQ n q) (s:m+n<=100000000) (k:Q (.bl (decide (p<q))) H):dW [v,w] H Q E:=
 rd_spP (p,q) S (.cons r (.cons g .nil)) ⟨m,n,s1,s2,s⟩ k
noncomputable def ik (ns:List Int) (k:Int):Int:=if k<(ns.length:Int) then ns.getD k.toNat 0 else 0
def ue (K:Frg):Sp:=λvs H Q _=>∃(a:Addr) (ns:List Int) (k:Int),vs=[.ref a, .int k]/\SqL K H a (ns.map V.int)/\0<=k/\Q (.int (ik ns k)) H
def rd_cell {K:Frg} {a:Addr} {ns:List Int} {k:Int} (g:SqL K H a (ns.map V.int)) (h0:0<=k) (h:Q (.int (ik ns k)) H):ue K [.ref a, .int k] H Q E:=⟨a,ns,k,rfl,g,h0,h⟩
def oB:Sp:=λvs H Q _=>∃a b:Int,vs=[.int a, .int b]/\0<=b/\Q (.int (Int.gcd a b:Nat)) H
def rd_div2 (h0:0<=b) (h:Q (.int (Int.gcd a b:Nat)) H):oB [.int a, .int b] H Q E:=⟨a,b,rfl,h0,h⟩
def lJ:Sp:=spT (α:=Int×Int) (λa=>[.int a.1, .int a.2]) (λa=>0<a.2/\Sz 8999 a.2) (λa=>frD (Rat.divInt a.1 a.2))
def ag (S:Sta B G0 H cs ds) (h0:0<j) (hz:Sz 8999 j) (k:∀r H',zP H H'->Sta B G0 H' cs ((frD (Rat.divInt i j),r)::ds)->Q r H'):lJ [.int i, .int j] H Q E:=
 Yd (i,j) S (.cons Has.int (.cons Has.int .nil)) ⟨h0,hz⟩ k
noncomputable def mixV (c p:Int):Int:=(((c % 2147483629*16807+69621*p+11) % 2147483629)*((c % 2147483629*16807+69621*p+11) % 2147483629)+48271*p+7) % 2147483629*69621 % 2147483587
def Jp:Sp:=λvs H Q _=>∃c p:Int,vs=[.int c, .int p]/\Q (.int (mixV c p)) H
def rd_mix (h:Q (.int (mixV c p)) H):Jp [.int c, .int p] H Q E:=⟨c,p,rfl,h⟩
noncomputable def xN (r:List Int):PyData:= .list (r.map PyData.int)
def Sta.put_call   (S:Lg B G0 H cs ds G) (gr:Grow G H G' H') (hp:H p=none) (s:G' p=none) (r:H' p=some (.lst us)) (m:zJ G' xs us):Sta B G0 H' ((p,xs)::cs) ds:=by
 have t:=S.2.2.1.free hp;obtain ⟨_,_,_,_,e0,_,_⟩:=id S;obtain ⟨D,C,A,d',y,u,g'⟩:=S.grow gr;refine ⟨G',D,C,A,d',λq g=>?_,?_,g'⟩
 ·rcases Ql.mp g with rfl|g
  ·exact ⟨t,s,us,r,m⟩
  ·exact y q g
 ·rw [Qp,TZ];refine ⟨λz=>?_,u⟩;obtain ⟨q,g,I⟩:=Qj.mp z;obtain ⟨_,_,ws,z,_⟩:=e0 q g;rw [I,hp] at z;cases z
def rd_true  (h:R true H):tTrue σ H R:=h
noncomputable def Yh (m:Nat):List Int:=List.replicate m 0
def UJ (m:Nat):(Yh m).length=m:=QD
theorem kC {β:Type} [DecidableEq β] {f:β->PyData} (hf:∀a b,PyData.eqv (f a) (f b)=decide (a=b)):∀xs ys:List β,PyData.eqvAll (xs.map f) (ys.map f)=decide (xs=ys)
 |[],[]=>by rw [jav,PyData.eqvAll];rfl
 |[],_::_=>by rw [jav,Qp,PyData.eqvAll,Th (by simp)]
 |_::_,[]=>by rw [jav,Qp,PyData.eqvAll,Th (by simp)]
 |x::xs,y::ys=>by
  rw [Qp,Qp,PyData.eqvAll,hf,kC hf xs ys,<-Bool.decide_and];exact Vo (by simp)
def KS (a b:Int):PyData.eqv (.int a) (.int b)=decide (a=b):=by rw [PyData.eqv];rfl
def Ee (a b:List Int):PyData.eqv (xN a) (xN b)=decide (a=b):=by unfold xN;rw [PyData.eqv];exact kC KS a b
def Ef (p q:Rat):PyData.eqv (frD p) (frD q)=decide (p=q):=eqv_fr p q
def KA (a:Int):(PyData.int a).canLay0=true:=by rw [PyData.canLay0]
def KW (a:Int):(PyData.int a).depth<=1:=by rw [PyData.depth];exact TR _
def Kz (a:List Int):(xN a).canLay0=true:=by unfold xN;rw [PyData.canLay0];exact Dz KA a
def KU (a:List Int):(xN a).depth<=2:=by unfold xN;rw [PyData.depth];exact Nat.succ_le_succ (Ei KW a)
def oE  (h:d.canLay0=true) (g:d.depth<=n) (l:n<=64):SeqAt.shaped d=true:=by
 unfold SeqAt.shaped;rw [h,QW (QL g l)];rfl
def Vz (a:List Int):SeqAt.shaped (xN a)=true:=oE (Kz a) (KU a) nofun
def VA (a:Rat):SeqAt.shaped (frD a)=true:=oE (lay_fr a) (dep_fr a) nofun
noncomputable def tyD:PyData->String
 | .none=>"NoneType"
 | .bool _=>"bool"
 | .int _=>"int"
 | .str _=>"str"
 | .list _=>"list"
 | .tuple _=>"tuple"
 | .dict _=>"dict"
noncomputable def noIns:PyData->Bool
 | .dict _=>false
 |_=>true
def Is.ty {K:Frg} {d:PyData} (h:Is H d v) (nd:noIns d=true):TyOf K H v (.type (tyD d)):=by
 cases d with
 |none=>rw [Is] at h;subst h;exact .non
 |bool b=>rw [Is] at h;subst h;exact .bl b
 |int b=>rw [Is] at h;subst h;exact .int b
 |str b=>rw [Is] at h;subst h;exact .str b
 |list xs=>rw [Is] at h;obtain ⟨p,vs,rfl,e,_⟩:=h;exact .lst e
 |tuple xs=>rw [Is] at h;obtain ⟨p,vs,rfl,e,_⟩:=h;exact .tup e
 |dict _=>cases nd
def rd_isi {K:Frg} {d:PyData} {T:String} {b:Bool} (h:Is H d v) (e:PySem.W.kitOne K (.type (tyD d)) (.type T)=some b) (k:Q (.bl b) H) (nd:noIns d=true):rIsi K [v, .ty T] H Q:=⟨v,T,_,b,rfl,h.ty nd,e,k⟩
section
variable {K:Frg}
def kit_tt:PySem.W.kitOne K (.type "tuple") (.type "tuple")=some true:=by rfl
def kit_ib:PySem.W.kitOne K (.type "int") (.type "bool")=some false:=by rfl
def kit_ii:PySem.W.kitOne K (.type "int") (.type "int")=some true:=by rfl
end
def zK {α β:Type} {f:α->β} {l:List α} {i:Nat} {x:β} (h:(l.map f)[i]? =some x):∃n,l[i]? =some n/\x=f n:=by
 rw [Qh] at h
 cases e:l[i]? with
 |none=>rw [e] at h;cases h
 |some n=>rw [e] at h;exact ⟨n,rfl,(QH h).symm⟩
def zm {α β:Type} (g:α->β) (d:α):∀l:List α,(List.range l.length).map (λi=>g (l.getD i d))=l.map g:=by
 intro l
 apply Tf
 intro i;rw [Qh,Qh]
 by_cases h:i<l.length
 ·rw [List.getElem?_range h,Qb h];simp [h]
 ·rw [QG (by simpa using Nat.le_of_not_lt h),QG ⋯];rfl
def zG {α:Type} {l:List α} {i:Nat} {n d:α} (h:l[i]? =some n):l.getD i d=n:=by rw [Qk,h];rfl
def Sta.int1 (S:Sta B G0 H cs ((.int n,v)::ds)):v= .int n:=S.top.int_of
def rd_gsub   (h:to σ H λo H1=>ti σ H1 λi m=>t o i v m λg=>N σ g):gSub to ti t v σ H N:=h
def vj {α:Type} {xs:List α} {x:α} (h:xs.getLast? =some x):atI xs (-1)=some x:=by
 obtain ⟨ys,rfl⟩:∃ys,xs=ys++[x]:=by
  have g:xs≠[]:=by intro e;subst e;simp at h
  refine ⟨xs.dropLast,?_⟩;rw [Te g] at h;rw [<-QH h,jal]
 exact vk ys x
def Dats.nil:∀p∈([]:Dat),Has ds p.1 p.2:=λp hp=>absurd hp Qm
def Dats.cons  (h:Has ds x v) (g:∀p∈r,Has ds p.1 p.2):∀p∈(x,v)::r,Has ds p.1 p.2:=λp hp=>by
 rcases Ql.mp hp with rfl|hp
 ·exact h
 ·exact g p hp
def FR {A X Y:Prop} (m:(if q=true then X else Y)->A) (r:(p && q)=true->X) (g:(p && q)=false->Y):if p=true then A else (if false=true then X else Y):=by
 cases p with
 |false=>exact g rfl
 |true=>
  refine m ?_
  cases q with
  |false=>exact g rfl
  |true=>exact r rfl
noncomputable def Lw (p q:Rat):PyData:= .tuple [.int (q.num*(p.den:Int) - p.num*(q.den:Int)), .int ((p.den:Int)*(q.den:Int))]
def Jr:Sp:=spT (α:=Rat×Rat) (λa=>[frD a.1,frD a.2]) (λa=>SzQ 2000 a.1/\SzQ 2000 a.2) (λa=>Lw a.1 a.2)
def rd_gap (S:Sta B G0 H cs ds) (m:Has ds (frD p) v) (g:Has ds (frD q) w) (s1:SzQ 2000 p) (s2:SzQ 2000 q) (k:∀r H',zP H H'->Sta B G0 H' cs ((Lw p q,r)::ds)->Q r H'):Jr [v,w] H Q E:=
 Yd (p,q) S (.cons m (.cons g .nil)) ⟨s1,s2⟩ k
def SzC (n:Nat) (c:zg):Prop:=SzQ n c.1/\∀q∈c.2,SzQ n q
def uO (hp:SzQ 2000 p) (g:SzQ 2000 q):Sz 4001 (q.num*(p.den:Int) - p.num*(q.den:Int))/\Sz 4001 ((p.den:Int)*(q.den:Int)):=
 ⟨(g.1.mul hp.2).sub (hp.1.mul g.2),(hp.2.mul g.2).mono nofun⟩
open Classical in
noncomputable def Jn:Sp:=spB (α:=zg×zg×zg) (λa=>[zL a.1,zL a.2.1,zL a.2.2]) (λa=>SzC 2000 a.1/\SzC 2000 a.2.1/\SzC 2000 a.2.2/\a.2.1.2.length=a.1.2.length/\a.2.2.2.length=a.1.2.length/\a.1.2.length<=1000) (λa=> .bl (decide (zR a.1 a.2.1 a.2.2)))
open Classical in
def rd_str  (S:Sta B G0 H cs ds) (s:Has ds (zL a) v) (r:Has ds (zL b) w) (q:Has ds (zL c) u) (sa:SzC 2000 a) (sb:SzC 2000 b) (sc:SzC 2000 c) (p:b.2.length=a.2.length) (m:c.2.length=a.2.length) (g:a.2.length<=1000)
 (k:∀H',Sta B G0 H' cs ds->Q (.bl (decide (zR a b c))) H'):Jn [v,w,u] H Q E:=
 WZ (a,b,c) (S.hpAll (.cons s (.cons r (.cons q .nil)))) ⟨sa,sb,sc,p,m,g⟩ λH' e=>k H' (S.same e)
structure PathOk (m:Nat) (cs:List zg):Prop where
 sz:∀c∈cs,SzC 2000 c
 len:∀c∈cs,c.2.length=m
 m:m<=1000
 few:cs.length<=900
noncomputable def fj:Sp:=spL (α:=List zg) (λa=>[yy a]) (λa=>∃m,PathOk m a) (λa=>(yn a).map zL)
def wa  (S:Sta B G0 H cs ds) (h:Has ds (yy a) v) (ok:PathOk m a) (k:∀p H',zP H H'->Sta B G0 H' ((p,(yn a).map zL)::cs) ds->Q (.ref p) H'):fj [v] H Q E:=
 Zw a S (.cons h .nil) ⟨m,ok⟩ k
def kPart (R:Option Int->Hp->Prop):VK:=λx H1=>∃i,x= .int i/\R (some i) H1
section
variable {σ:L2.St} {R:Option Int->Hp->Prop} {K:Frg}
def rd_sl  (h:te σ H λx H1=>tl σ H1 λl m=>th σ m λu g=>r x l u g Q):tSl r te tl th σ H Q:=h
def rd_noPart (h:R none H):Bi σ H R:=h
def rd_part (h:t σ H (kPart R)):tPart t σ H R:=h
def rd_kPart (h:R (some i) H):kPart R (.int i) H:=⟨i,rfl,h⟩
noncomputable def IK (ns:List Int) (lo g:Option Int):List Int:=(ns.drop (HT.sIx ns.length 0 lo)).take (HT.sIx ns.length ns.length g - HT.sIx ns.length 0 lo)
theorem Yk:∀ns:List Int,zJ G (ns.map PyData.int) (ns.map V.int)
 |[]=>by rw [jav,jav,zJ]
 |n::ns=>by rw [Qp,Qp,zJ];exact ⟨_,_,rfl,by rw [Is],Yk ns⟩
def Io {a:Addr} {ns:List Int} {lo g:Option Int} (S:Sta B G0 H cs ds) (p:SqL K H a (ns.map V.int)) (k:∀l H',zP H H'->Sta B G0 H' ((l,(IK ns lo g).map PyData.int)::cs) ds->Q (.ref l) H'):rSlL K (.ref a) lo g H Q:=by
 refine ⟨a,_,rfl,p,λl m=>k l _ (zP.new m _) ?_⟩
 have e:AV (ns.map V.int) lo g=(IK ns lo g).map V.int:=by
  unfold AV IK;rw [Qa,<-List.map_drop,<-List.map_take]
 rw [e];exact S.newL m λG _=>Yk _
end
end
inductive Rl where
 |shares|evenly|losses|halves
 |other (r:Rl)|ranks (r:Rl)|groups (a b:Rl)|upto (t b:Int) (x y:Rl)
noncomputable def itS (i:Int):Str:=Str.ofString (toString i)
noncomputable def Rl.shape:Rl->PyData
 | .shares=> .tuple [.str "shares"]
 | .evenly=> .tuple [.str "evenly"]
 | .losses=> .tuple [.str "losses"]
 | .halves=> .tuple [.str "halves"]
 | .other r=> .tuple [.str "other",r.shape]
 | .ranks r=> .tuple [.str "ranks",r.shape]
 | .groups a b=> .tuple [.str "groups",a.shape,b.shape]
 | .upto t b x y=> .tuple [.str "upto", .tuple [.int t, .int b],x.shape,y.shape]
noncomputable def Rl.text:Rl->Str
 | .shares=>"shares"
 | .evenly=>"evenly"
 | .losses=>"losses"
 | .halves=>"halves"
 | .other r=>("other(":Str)++r.text++(")":Str)
 | .ranks r=>("ranks(":Str)++r.text++(")":Str)
 | .groups a b=>("groups(":Str)++a.text++(", ":Str)++b.text++(")":Str)
 | .upto t b x y=>("upto(":Str)++itS t++("/":Str)++itS b++(", ":Str)++x.text++(", ":Str)++y.text++(")":Str)
noncomputable def Rl.size:Rl->Nat
 | .other r=>r.size+1
 | .ranks r=>r.size+1
 | .groups a b=>a.size+b.size+1
 | .upto _ _ x y=>x.size+y.size+1
 |_=>1
noncomputable def Rl.deep:Rl->Nat
 | .other r=>r.deep+1
 | .ranks r=>r.deep+1
 | .groups a b=>max a.deep b.deep+1
 | .upto _ _ x y=>max x.deep y.deep+1
 |_=>1
def WE (t b:Int):Prop:=(Sz 210 t/\Sz 210 b)/\0<t/\t<b/\Int.gcd t b=1
def Rl.Ok:Rl->Prop
 | .other r=>r.Ok
 | .ranks r=>r.Ok
 | .groups a b=>a.Ok/\b.Ok
 | .upto t b x y=>WE t b/\x.Ok/\y.Ok
 |_=>True
def xR (a b c:Str):a++b++c=a++(b++c):=by
 show Str.append (Str.append a b) c=Str.append a (Str.append b c);unfold Str.append;rw [Array.append_assoc]
def xY (a b:Str):(a++b).length=a.length+b.length:=by
 show (Str.append a b).length=_;unfold Str.append Str.length;rw [Array.size_append]
def glued1 (g x:Str):Builtin.Str.glued g [x]=x:=rfl
def glued2 (g x y:Str):Builtin.Str.glued g [x,y]=x++g++y:=rfl
def Bk  (h:Sz n x) (l:n<=1919):x.natAbs.log2<1920:=by
 by_cases h0:x.natAbs=0
 ·rw [h0];decide+kernel
 ·have:=(Nat.log2_lt h0).mpr (Sz.mono h l);omega
def ng (h:Sz 210 i):(itS i).length<=1921:=int_text_len_1921 (Bk h nofun)
theorem Rl.text_len:∀r:Rl,r.Ok->r.text.length<=4000*r.size
 | .shares,_=>by decide
 | .evenly,_=>by decide
 | .losses,_=>by decide
 | .halves,_=>by decide
 | .other r,h=>by
   have p:=r.text_len h;simp only [Rl.text,Rl.size,xY];have m:("other(":Str).length=6:=by decide+kernel
   have g:(")":Str).length=1:=by decide+kernel
   omega
 | .ranks r,h=>by
   have p:=r.text_len h;simp only [Rl.text,Rl.size,xY];have m:("ranks(":Str).length=6:=by decide+kernel
   have g:(")":Str).length=1:=by decide+kernel
   omega
 | .groups a b,h=>by
   have p:=a.text_len h.1;have s:=b.text_len h.2;simp only [Rl.text,Rl.size,xY];have m:("groups(":Str).length=7:=by decide+kernel
   have g:(")":Str).length=1:=by decide+kernel
   have q:(", ":Str).length=2:=by decide+kernel
   omega
 | .upto t b x y,h=>by
   have p:=x.text_len h.2.1;have s:=y.text_len h.2.2;have z:=ng h.1.1.1;have w:=ng h.1.1.2;simp only [Rl.text,Rl.size,xY];have m:("upto(":Str).length=5:=by decide+kernel
   have g:(")":Str).length=1:=by decide+kernel
   have q:(", ":Str).length=2:=by decide+kernel
   have u:("/":Str).length=1:=by decide+kernel
   omega
structure RAd where
 (sh ev lo ha ot ra gr up:Addr)
noncomputable def RAd.cls (A:RAd):Rl->Addr
 | .shares=>A.sh
 | .evenly=>A.ev
 | .losses=>A.lo
 | .halves=>A.ha
 | .other _=>A.ot
 | .ranks _=>A.ra
 | .groups _ _=>A.gr
 | .upto _ _ _ _=>A.up
noncomputable def Hj (C:Addr) (form:PyData):PyData:= .dict [(.int ((C:Nat):Int),form)]
noncomputable def Rl.ins (A:RAd) (r:Rl):PyData:=Hj (A.cls r) r.shape
structure ROk (K:Frg) (fS fT Ru C:Addr):Prop where
 cl:Cls K C
 na:Vv K C "form"
 ms:Meth K C "shape" fS
 mt:Meth K C "text" fT
 ha:PySem.W.findIn K (.ref C) "__class__"=some (some (.builtin "object.__class__"))
 hn:PySem.W.specialIn K (.builtin "object.__class__") "__get__"=some (some (.builtin "getset_descriptor.__get__"))
 htk:PySem.W.takesIn K (.builtin "object.__class__")=some true
 hm:PySem.W.mroIn K C (.type "object")=some true
 kit:PySem.W.kitOne K (.ref C) (.ref Ru)=some true
section
variable {B G0 H:Hp} {cs:yq} {ds:Dat} {Q:VK} {E:XK} {v w u:V} {K:Frg} {α:Type} {C:Addr} {x:PyData} {vs:List V}
def is_ins (h:Is G (Hj C x) v):∃p g w,v= .ref p/\G p=some (.ins C g [("form",w)])/\Is G x w:=by
 unfold Hj at h;rw [Is,EU] at h;obtain ⟨p,s,g,w,e,r,q,m⟩:=h;have:C=s:=Int.ofNat.inj (PyData.int.inj e);subst this;exact ⟨p,g,w,r,q,m⟩
def Sta.ins (S:Sta B G0 H cs ds) (h:Has ds (Hj C x) v):∃p m w,v= .ref p/\H p=some (.ins C m [("form",w)])/\Sta B G0 H cs ((x,w)::ds):=by
 obtain ⟨G,a,b,c,d,e,f,g⟩:=S;obtain ⟨p,m,w,s,r,q⟩:=is_ins (h G g);exact ⟨p,m,w,s,b _ _ r,G,a,b,c,d,e,f,g.cons q⟩
def kFld (K:Frg) (f:Str) (Q:VK):VK:=λx H1=>∃a C g fs v,x= .ref a/\H1 a=some (.ins C g fs)/\Cls K C/\Vv K C f/\fs.lookup f=some v/\Q v H1
def rd_fld  (h:ta σ H (kFld K f Q)):tFld K ta f σ H Q:=h
def Cn (S:Sta B G0 H cs ds) (h:Has ds (Hj C x) v) (ok:ROk K fS fT Ru C) (k:∀w,Sta B G0 H cs ((x,w)::ds)->Q w H):kFld K "form" Q v H:=by
 obtain ⟨p,g,w,rfl,hp,m⟩:=S.ins h;exact ⟨p,C,g,_,w,rfl,hp,ok.cl,ok.na,rfl,k w m⟩
def kMA (K:Frg) (m:Str) (f:Addr) (sp:Sp) (E:XK) (Q:VK):VK:=λx H1=>∃a C g fs,x= .ref a/\H1 a=some (.ins C g fs)/\Cls K C/\Meth K C m f/\fs.lookup m=none/\sp [x] H1 Q E
def rd_methA   (h:ta σ H (kMA K m f sp E Q)):Ie K m f sp E ta σ H Q:=h
def jX  (S:Sta B G0 H cs ds) (h:Has ds (Hj C x) v) (ok:ROk K fS fT Ru C) (k:sp [v] H Q E):kMA K "shape" fS sp E Q v H:=by
 obtain ⟨p,g,w,rfl,hp,m⟩:=S.ins h;exact ⟨p,C,g,_,rfl,hp,ok.cl,ok.ms,rfl,k⟩
def yH (C:Addr) (enc:α->List PyData) (form:α->PyData):Sp:=λvs H Q _=>∃(G:Hp) (a:α) (x m:Addr) (us:List V),vs= .ref x::us/\zP G H/\G x=none/\H x=some (.ins C m [])/\zJ G (enc a) us/\
 ∀H' g w,(∀p o,p≠x->H p=some o->H' p=some o)->zP G g->zP g H'->(∀p,H p≠none->g p=G p)->H' x=some (.ins C m [("form",w)])->Is g (form a) w->Q .non H'
def kMake (C:Addr) (sp:Sp) (E:XK) (Q:VK) (vs:List V) (H1:Hp):Prop:=∀x g,H1 x=none->H1 g=none->g≠x->sp (.ref x::(vs++[])) (upd (upd H1 g (.own x)) x (.ins C g [])) (λv m=>v= .non/\Q (.ref x) m) E
def rd_make  (h:t σ H (kMake C sp E Q)):Jl C sp [] E t σ H Q:=h
def Xd (K:Frg) (fS fT Ru:Addr):Sp:=λvs H Q E=>∃C,ROk K fS fT Ru C/\yH C (α:=PyData) (λd=>[d]) (λd=>d) vs H Q E
def YU  (S:Sta H G H1 [] ds) (M:G y=none) (q:H y=some (.ins C dx [])) (ok:ROk K fS fT Ru C) (hd:Has ds d v)
 (k:∀H' g w,(∀p o,p≠y->H p=some o->H' p=some o)->zP G g->zP g H'->(∀p,H p≠none->g p=G p)->H' y=some (.ins C dx [("form",w)])->Is g d w->Q .non H'):Xd K fS fT Ru [.ref y,v] H1 Q E:=by
 obtain ⟨s,a1,N,m,r,_,_,g1⟩:=S;refine ⟨C,ok,s,d,y,dx,[v],rfl,N,by rw [r y (by rw [q];simp)];exact M,m _ _ q,(ye.cons hd ye.nil) s g1,λH' g w L J I D A z=>k H' g w (λp o hp t=>L p o hp (m p o t)) (a1.trans J) I (λp hp=>?_) A z⟩;rw [D p ?_,r p hp]
 cases hb:H p with
 |none=>exact absurd hb hp
 |some o=>rw [m p o hb];simp
def rAddS:R2:=λx y H Q=>FX x y H Q\/∃i j,x= .str i/\y= .str j/\i.length+j.length<=sizeLine/\Q (.str (i++j)) H
def op_addS:OpR X (binaryOp .Add) rAddS:=CF.or wy
def rd_addS (g:i.length+j.length<=1000000) (h:Q (.str (i++j)) H):rAddS (.str i) (.str j) H Q:= .inr ⟨i,j,rfl,rfl,QL g nofun,h⟩
def rd_eqS (h:Q (.bl (decide (i=j))) H):rEqA (.str i) (.str j) H Q:= .inl ⟨rfl,by
 rw [Vo (show V.str i=V.str j↔i=j from ⟨V.str.inj,congrArg _⟩)];exact h⟩
def rd_neS (h:Q (.bl (!decide (i=j))) H):rNeA (.str i) (.str j) H Q:= .inl ⟨rfl,by
 rw [Vo (show V.str i=V.str j↔i=j from ⟨V.str.inj,congrArg _⟩)];exact h⟩
def rStrI:List V->Hp->VK->Prop:=λxs H Q=>∃i:Int,xs=[.int i]/\i.natAbs.log2<1920/\Q (.str (toString i)) H
def call_strI:Wt X (.type "str") rStrI:=qj
def rd_strI (hz:Sz 210 i) (h:Q (.str (itS i)) H):rStrI [.int i] H Q:=⟨i,rfl,Bk hz nofun,h⟩
def Is.str_of {x:Str} (h:Is H (.str x) v):v= .str x:=by rw [Is] at h;exact h
def Im {lo m:Option Int} {xs:List PyData} (S:Sta B G0 H cs ds) (s:Has ds (.tuple xs) v) (hw:¬(HT.sIx xs.length 0 lo=0/\HT.sIx xs.length xs.length m=xs.length)) (k:∀l H',zP H H'->Sta B G0 H' cs ((.tuple (nA xs lo m), .ref l)::ds)->Q (.ref l) H'):rSlT K v lo m H Q:=by
 obtain ⟨p,vs,rfl,hp,r,y,t⟩:=S.tupAll s
 refine ⟨p,vs,rfl,SqT.of hp,by rw [<-r];exact hw,λl hn=>k l _ (zP.new hn _) ((y.newT hn λG a=>?_).dat λq g=> .mem (by
  rcases Ql.mp g with rfl|g
  ·exact Qe ..
  ·exact Qf _ (QF _ g)))⟩
 unfold nA AV;rw [r];exact ((t G a).drop _).take _
def rd_kBMs   (h:t σ H λys g=>r (.str sep) ys g Q):kBM K "str" r t σ Q (.str sep) H:=⟨rfl,h⟩
theorem kv:∀{ns:List Str} {vs:List V},zJ G (ns.map PyData.str) vs->vs=ns.map V.str
 |[],vs,h=>by rw [jav,zJ] at h;exact h
 |n::ns,vs,h=>by
  rw [Qp,zJ] at h;obtain ⟨v,r,rfl,g,m⟩:=h;rw [Is] at g;subst g;rw [kv m,Qp]
def Co  (S:Sta B G0 H cs ds) (h:(L,ys.map PyData.str)∈cs) (hok:JoinOk sep ys=true) (k:Q (.str (Builtin.Str.glued sep ys)) H):rJoin K (.str sep) [.ref L] H Q:=by
 obtain ⟨vs,hp,u⟩:=S.vwC h;obtain ⟨G,g⟩:=id S;rw [kv (u G g)] at hp;exact ⟨sep,L,ys,rfl,rfl,SqL.of hp,hok,k⟩
def rd_ixTS  (S:Sta B G0 H cs ds) (g:Has ds (.tuple xs) v) (m:atI xs i=some (.str n)) (k:Q (.str n) H):rIx K v (.int i) H Q:=
 pH S g m λw p=>by have:=p.top;rw [Is] at this;subst this;exact k
def Hh (h:a.length<=100000):JoinOk ", " [a]=true:=by
 have l:(", ":Str).length=2:=by decide+kernel
 have z:sizeLine=16777216:=by decide
 unfold JoinOk;rw [Bool.not_eq_true',Builtin.Str.tooLong,decide_eq_false_iff_not,<-Array.foldl_toList];show ¬(0+a.length+(", ":Str).length>sizeLine);omega
def Hg (h:a.length<=100000) (g:b.length<=100000):JoinOk ", " [a,b]=true:=by
 have l:(", ":Str).length=2:=by decide+kernel
 have z:sizeLine=16777216:=by decide
 unfold JoinOk;rw [Bool.not_eq_true',Builtin.Str.tooLong,decide_eq_false_iff_not,<-Array.foldl_toList];show ¬(0+a.length+(", ":Str).length+b.length+(", ":Str).length>sizeLine);omega
def aU (A:RAd):Sp:=spT (α:=Rl) (λr=>[r.ins A]) (λ_=>True) (λr=>r.shape)
def VC {A:RAd} {r:Rl} (S:Sta B G0 H cs ds) (h:Has ds (r.ins A) v) (k:∀w H',zP H H'->Sta B G0 H' cs ((r.shape,w)::ds)->Q w H'):aU A [v] H Q E:=Yd (α:=Rl) r S (ye.cons h ye.nil) trivial k
def KH  (h:zJ G [x,y,z,t] vs):∃v w u r,vs=[v,w,u,r]/\YK G [(x,v),(y,w),(z,u),(t,r)]:=by
 simp only [zJ] at h;obtain ⟨v,_,rfl,s,w,_,rfl,q,u,_,rfl,m,r,_,rfl,g,rfl⟩:=h;exact ⟨v,w,u,r,rfl,λp hp=>by simp at hp;rcases hp with rfl|rfl|rfl|rfl<;>assumption⟩
end
def Yq (P:Program) (w:World) (K:Frg) (mg:Str->Option Value) (base:Heap) (x:Str) (C:Addr) (ps:List Str) (sp:Sp):Prop:=∃f fd,Mk K C f/\FnOk P w K mg base CX0 2 f fd ps sp/\yG K fd ps []/\mg x=some (.ref C)
noncomputable def HR (K:Frg) (a:Addr) (n:Nat):It:=
 ⟨λi H=>i<n/\∃xs x,SqL K H a xs/\xs[n - 1 - i]? =some x,λi H x H'=>H'=H/\∀xs,SqL K H a xs->xs[n - 1 - i]? =some x,λi _=>n<=i⟩
def Fv {P:Program} {w:World} {K:Frg} {C:Expr} (a it:Addr) (n:Nat):Turn P w K C (HR K a n) [it] it (λi h=>i<=n/\h.IsRevIter it a ((n:Int) - 1 - (i:Nat))) where
 mem:=by simp
 obj:=λi h st b g=>by
  have e:b=it:=by simpa using g
  subst e;obtain ⟨_,o,e,c,d⟩:=st;exact ⟨o,e,λv z=>by rw [d] at z;cases z⟩
 keep:=λi h h' st k=>⟨st.1,st.2.at λo e=>k it (by simp) o e⟩
 item:=by
  intro X hP hw hK hc i pins s σ H E I hf st hg;subst hP hw hK;obtain ⟨O,xs,x,y,t⟩:=hg;obtain ⟨its,D,p,hz⟩:=I.list y;obtain ⟨u,J,ru⟩:=D.get t;obtain ⟨f0,f1,f2,r,f4,q⟩:=hf it (by simp);have L:(n:Int) - 1 - (i:Nat)=((n - 1 - i:Nat):Int):=⋯
  have m:=st.2;rw [L] at m;refine wpAny_pyNext_rev_item m p.isList (x:=u) ‹J› λh' A sb=>?_;have N:Inv X pins σ H {s with heap:=h'}:=I.turned (t':=s.toks) (λb o g e=>(sb.2 b g).trans e) f0 f1 r f4 q;obtain ⟨o,e,c,d⟩:=id A
  exact ⟨u,rfl,DT (s:={s with heap:=h'}) e c d nofun ⟨x,H,N,ru,⟨rfl,λys G=>by rw [I.list_inj G y];exact t⟩,⟨⋯,by
   rw [show (n:Int) - 1 - ((i+1:Nat):Int)=((n - 1 - i:Nat):Int) - 1 by omega];exact A⟩,λb g=>(hf b g).1⟩⟩
 done:=by
  intro X hP hw hK hc i pins s σ H E I hf st hg;subst hP hw hK;obtain ⟨f0,f1,f2,r,f4,q⟩:=hf it (by simp);have T:n<=i:=hg;have m:=st.2;rw [show (n:Int) - 1 - (i:Nat)= -1 by have:=st.1;omega] at m;exact wpAny_pyNext_rev_end (I.ok.hd hc) m λh' M=>⟨rfl,I.turned (t':=s.toks) (λb o g e=>M b o g e) f0 f1 r f4 q⟩
 self:=λ_ _ _ _ _ st h=>wpAny_pyIter_revIter st.2 h
def iRev (K:Frg) (g:TA):TI:=λσ H R=>g σ H λvs H1=>∃a xs,vs=[.ref a]/\SqL K H1 a xs/\R (HR K a xs.length) H1
section
variable {X:Cx}
def pi_rev {r a:Expr} {m:TA} {p pos:Pos} (G:Gl X "reversed") (hm:X.mg "reversed"=none) (ha:PA X [a] m) (A:starEach [a] X.env=[(false,eval a X.env)]:=by rfl):
 PI X r (.Call (.Name "reversed" p) [a] [] pos) (iRev X.K m):=by
 intro pins s σ H R I h;refine Call_ (ax I G hm td (jap (thn (ha pos pins s σ H _ I h) ?_) A rfl));rintro us s1 ⟨vs,H1,g,w,y⟩;obtain ⟨l,xs,e,C,q⟩:=y;subst e;obtain ⟨u,rfl,ru⟩:=UK w;cases (show u=Value.ref l from ru);obtain ⟨its,t,z,hz⟩:=g.list C;have D:=t.length;refine call_reversed_list z.isList ?_
 have hit:Heap.IsRevIter (s1.heap.push (revObj l ((its.toArray.size:Int) - 1))) s1.heap.objs.size l ((xs.length:Int) - 1 - ((0:Nat):Int)):=⟨_,Qx _ rfl,rfl,by
  show Data.fields #[.ref l,rawInt ((its.toArray.size:Int) - 1)]=_
  rw [QI,<-D];simp⟩
 refine wpAny_pyIter_revIter (s:={s1 with heap:=s1.heap.push (revObj l ((its.toArray.size:Int) - 1))}) hit ?_;have L:Inv X pins σ H1 {s1 with heap:=s1.heap.push (revObj l ((its.toArray.size:Int) - 1))}:=g.kept (t':=s1.toks) λb o e=>Qi _ e;refine ⟨s1.heap.objs.size,[s1.heap.objs.size],_,_,H1,rfl,L,Fv l _ xs.length,⟨TR _,hit⟩,λb J=>?_,q⟩;have e:b=s1.heap.objs.size:=by simpa using J
 subst e;exact g.fpOk (Qu _) (g.hok.fresh (Qu _))
end
def kRv (K:Frg) (R:It->Hp->Prop):List V->Hp->Prop:=λvs H1=>∃a xs,vs=[.ref a]/\SqL K H1 a xs/\R (HR K a xs.length) H1
section
variable {B G0 H:Hp} {cs:yq} {ds:Dat} {K:Frg} {a:Addr} {xs ys:List PyData} {P:yq->Dat->Prop} {v:V} {σ:L2.St} {R:It->Hp->Prop} {ta:TA}
def rd_iRv (h:ta σ H (kRv K R)):iRev K ta σ H R:=h
def wk_rev (s:Src B G0 true K a xs P):Wk B G0 (HR K a xs.length) xs.reverse P where
 go:=λ{H cs ds i} S h g=>by
  rw [Tv] at g;obtain ⟨vs,q,m,_⟩:=s S h;exact ⟨g,vs,vs[xs.length - 1 - i]'⋯,q,Qb _⟩
 stop:=λ{H cs ds i} S h g=>by rw [Tv] at g;exact g
 yld:=λ{H H' cs ds i x v} S h hx y=>by
  obtain ⟨e,y⟩:=y;subst e;obtain ⟨vs,q,m,z⟩:=s S h;have g:i<xs.length:=by have:=(Qd.mp hx).1;rwa [Tv] at this
  rw [List.getElem?_reverse g] at hx;obtain ⟨w,hw,p⟩:=z _ x hx;have:=y vs q;rw [hw] at this;cases this;exact ⟨zP.refl _,p⟩
def JL (S:Sta B G0 H cs ds) (h:Has ds (.list xs) v) (k:∀J,Wk B G0 J xs.reverse (λ_ ds=>Has ds (.list xs) v)->R J H):kRv K R [v] H:=by
 obtain ⟨p,vs,rfl,hp,g,_⟩:=S.lst h;refine ⟨p,vs,rfl,SqL.of hp,?_⟩;rw [<-g];exact k _ (wk_rev Vy)
end
noncomputable def Ug (l c:zg):zg:=(l.1 - c.1,List.zipWith (· - ·) l.2 c.2)
noncomputable def VS (l c:zg):zg:=(l.1+c.1,List.zipWith (·+·) l.2 c.2)
noncomputable def lastC (a:List zg):zg:=a.getLast?.getD (0,[])
noncomputable def yx (a:List zg):List zg:=a.reverse.map (Ug (lastC a))
noncomputable def zS (p:Rat) (a:List zg):List zg:=a.map λc=>(c.1*p,c.2.map (·*p))
noncomputable def yJ (a b:List zg):List zg:=b.tail.map (VS (lastC a))
section
variable {B G0 H:Hp} {cs:yq} {ds:Dat} {Q:VK} {E:XK} {v w:V}
def oA (g:Rat->Rat->Rat):Sp:=spT (α:=List Rat×List Rat) (λa=>[yl a.1,yl a.2]) (λa=>(∀q∈a.1,SzQ 4000 q)/\(∀q∈a.2,SzQ 4000 q)/\a.1.length<=1000) (λa=>yl (List.zipWith g a.1 a.2))
def Cr  (S:Sta B G0 H cs ds) (t:Has ds (yl p) v) (s:Has ds (yl q) w) (s1:∀x∈p,SzQ 4000 x) (s2:∀x∈q,SzQ 4000 x) (m:p.length<=1000)
 (k:∀r H',zP H H'->Sta B G0 H' cs ((yl (List.zipWith g p q),r)::ds)->Q r H'):oA g [v,w] H Q E:=
 Yd (p,q) S (.cons t (.cons s .nil)) ⟨s1,s2,m⟩ k
structure PathIn (a:List zg):Prop where
 ne:a≠[]
 sz:∀c∈a,SzC 4000 c
 len:∀c∈a,c.2.length<=1000
 few:a.length<=450
def PathIn.last (h:PathIn a):a.getLast? =some (lastC a)/\lastC a∈a:=by
 obtain ⟨l,g⟩:∃l,a.getLast? =some l:=⟨_,Te h.ne⟩;have e:lastC a=l:=by unfold lastC;rw [g];rfl
 rw [e];exact ⟨g,jah g⟩
def SzC.mono  (h:SzC m c) (l:m<=n):SzC n c:=⟨h.1.mono l,λq g=>(h.2 q g).mono l⟩
def dU:Sp:=spL (α:=List zg) (λa=>[yy a]) PathIn (λa=>(yx a).map zL)
def ph (S:Sta B G0 H cs ds) (h:Has ds (yy a) v) (ok:PathIn a) (k:∀p H',zP H H'->Sta B G0 H' ((p,(yx a).map zL)::cs) ds->Q (.ref p) H'):dU [v] H Q E:=
 Zw a S (.cons h .nil) ok k
def lD:Sp:=spL (α:=List zg×Rat) (λa=>[yy a.1,frD a.2]) (λa=>PathIn a.1/\SzQ 4000 a.2) (λa=>(zS a.2 a.1).map zL)
def pF  (S:Sta B G0 H cs ds) (h:Has ds (yy a) v) (g:Has ds (frD p) w) (ok:PathIn a) (sp:SzQ 4000 p) (k:∀q H',zP H H'->Sta B G0 H' ((q,(zS p a).map zL)::cs) ds->Q (.ref q) H'):lD [v,w] H Q E:=
 Zw (a,p) S (.cons h (.cons g .nil)) ⟨ok,sp⟩ k
noncomputable def UT:Sp:=spL (α:=List zg×List zg) (λa=>[yy a.1,yy a.2]) (λa=>PathIn a.1/\PathIn a.2/\∃m,PathOk m (a.1++yJ a.1 a.2)) (λa=>(yn (a.1++yJ a.1 a.2)).map zL)
def pI  (S:Sta B G0 H cs ds) (h:Has ds (yy a) v) (g:Has ds (yy b) w) (ok:PathIn a) (r:PathIn b) (q:PathOk m (a++yJ a b))
 (k:∀p H',zP H H'->Sta B G0 H' ((p,(yn (a++yJ a b)).map zL)::cs) ds->Q (.ref p) H'):UT [v,w] H Q E:=
 Zw (a,b) S (.cons h (.cons g .nil)) ⟨ok,r,m,q⟩ k
end
noncomputable def xU (t x y:Rat):Rat:=x+t*(y - x)
noncomputable def XS (c d:zg) (E:Rat):List Rat:=List.zipWith (xU ((E - c.1) / (d.1 - c.1))) c.2 d.2
noncomputable def zh:List zg->Rat->List Rat
 |[],_=>[]
 |[c],_=>c.2
 |c::d::r,E=>if E<d.1 then XS c d E else zh (d::r) E
def yu (a:List zg):Prop:=a.Pairwise λc d=>c.1<d.1
theorem Zp:∀{a:List zg} {i:Nat} {c:zg},yu a->a[i]? =some c->c.1<=E->(i+1=a.length\/∃d,a[i+1]? =some d/\E<d.1)->zh a E=match a[i+1]? with|none=>c.2|some d=>XS c d E
 |[],i,c,_,h,_,_=>by simp at h
 |[b],i,c,_,h,_,_=>by
  cases i with
  |zero=>cases h;rfl
  |succ i=>simp at h
 |b::d::r,i,c,hr,h,hc,g=>by
  cases i with
  |zero=>
   cases h
   rcases g with g|⟨d',m,g⟩
   ·simp at g
   ·cases m;rw [zh,QJ g];rfl
  |succ i=>
   have p:yu (d::r):=(Qn.mp hr).2;have h':(d::r)[i]? =some c:=by simpa using h
   have hd:d.1<=c.1:=by
    cases i with
    |zero=>cases h';exact QR
    |succ i=>exact QE ((Qn.mp p).1 c (Qc ‹h'›))
   have q:¬E<d.1:=Tg.mpr (TN hd hc);rw [zh,QO q]
   have:=Zp (a:=d::r) (i:=i) (c:=c) p h' hc (by
    rcases g with g|⟨d',m,g⟩
    ·left;simpa using g
    ·right;exact ⟨d',by simpa using m,g⟩)
   rw [this]
   simp
def Dk (x y:Rat):xU 0 x y=x:=by unfold xU;grind
def uz (x y:Rat):xU 1 x y=y:=by unfold xU;grind
theorem nY (hf:∀x y,f x y=x):∀{l r:List Rat},l.length=r.length->List.zipWith f l r=l
 |[],[],_=>rfl
 |x::l,y::r,h=>by rw [jaw,hf,nY hf ‹h›]
 |[],_::_,h=>by simp at h
 |_::_,[],h=>by simp at h
theorem jJ (hf:∀x y,f x y=y):∀{l r:List Rat},l.length=r.length->List.zipWith f l r=r
 |[],[],_=>rfl
 |x::l,y::r,h=>by rw [jaw,hf,jJ hf ‹h›]
 |[],_::_,h=>by simp at h
 |_::_,[],h=>by simp at h
def XI (h:c.2.length=d.2.length):XS c d c.1=c.2:=by
 unfold XS;have:(c.1 - c.1) / (d.1 - c.1)=0:=by rw [Rat.sub_self,jai,jbS]
 rw [this];exact nY Dk h
def vh (h:c.2.length=d.2.length) (g:c.1<d.1):XS c d d.1=d.2:=by
 unfold XS
 have m:d.1 - c.1≠0:=λz=>by
  have:d.1=c.1:=by grind
  rw [this] at g;exact jaP g
 have:(d.1 - c.1) / (d.1 - c.1)=1:=by rw [jai];exact jac _ m
 rw [this];exact jJ uz h
section
variable {B G0 H:Hp} {cs:yq} {ds:Dat} {Q:VK} {E:XK} {v w u:V}
def ud:Sp:=λvs H Q _=>∃(qs:List Rat) (e:Rat) (n:Nat),zJ H [.list (qs.map frD),frD e] vs/\(0<qs.length/\qs.length<=1000000/\(∀q∈qs,SzQ n q)/\SzQ n e/\n<=40000000/\∀q,qs[0]? =some q->q<=e)/\
 ∀(i:Nat) (q:Rat),qs[i]? =some q->q<=e->(i+1=qs.length\/∃r,qs[i+1]? =some r/\e<r)->Q (.int (i:Nat)) H
def Ci {qs:List Rat} {e:Rat} {n:Nat} (S:Sta B G0 H cs ds) (m:Is H (.list (qs.map frD)) v) (g:Is H (frD e) w) (hd:0<qs.length/\qs.length<=1000000/\(∀q∈qs,SzQ n q)/\SzQ n e/\n<=40000000/\∀q,qs[0]? =some q->q<=e)
 (k:∀(i:Nat) (q:Rat),qs[i]? =some q->q<=e->(i+1=qs.length\/∃r,qs[i+1]? =some r/\e<r)->Q (.int (i:Nat)) H):ud [v,w] H Q E:=
 ⟨qs,e,n,by simp only [zJ];exact ⟨_,_,rfl,m,_,_,rfl,g,rfl⟩,hd,k⟩
def UR:Sp:=spT (α:=Rat×Rat×Rat) (λa=>[frD a.1,frD a.2.1,frD a.2.2]) (λa=>(∃m n,SzQ n a.1/\SzQ n a.2.1/\SzQ m a.2.2/\m+3*n+2<=8999)/\a.2.1≠a.1) (λa=>frD ((a.2.2 - a.1) / (a.2.1 - a.1)))
def jU  (S:Sta B G0 H cs ds) (t:Has ds (frD s) v) (q:Has ds (frD e) w) (p:Has ds (frD x) u) (z1:SzQ n s) (z2:SzQ n e) (g:SzQ m x) (hz:m+3*n+2<=8999) (y:e≠s)
 (k:∀r H',zP H H'->Sta B G0 H' cs ((frD ((x - s) / (e - s)),r)::ds)->Q r H'):UR [v,w,u] H Q E:=
 Yd (s,e,x) S (.cons t (.cons q (.cons p .nil))) ⟨⟨m,n,z1,z2,g,hz⟩,y⟩ k
def dX:Sp:=spT (α:=Rat×Rat×Rat) (λa=>[frD a.1,frD a.2.1,frD a.2.2]) (λa=>∃m n,SzQ n a.1/\SzQ n a.2.1/\SzQ m a.2.2/\m+3*n+2<=8999) (λa=>frD (xU a.2.2 a.1 a.2.1))
def pK  (S:Sta B G0 H cs ds) (y:Has ds (frD s) v) (q:Has ds (frD e) w) (p:Has ds (frD t) u) (z1:SzQ n s) (z2:SzQ n e) (g:SzQ m t) (hz:m+3*n+2<=8999)
 (k:∀r H',zP H H'->Sta B G0 H' cs ((frD (xU t s e),r)::ds)->Q r H'):dX [v,w,u] H Q E:=
 Yd (s,e,t) S (.cons y (.cons q (.cons p .nil))) ⟨m,n,z1,z2,g,hz⟩ k
def fv:Sp:=spT (α:=zg×zg×Rat) (λa=>[zL a.1,zL a.2.1,frD a.2.2]) (λa=>(∃m n,SzC n a.1/\SzC n a.2.1/\SzQ m a.2.2/\m+6*n+4<=8999)/\a.1.1<a.2.1.1/\a.1.2.length<=1000) (λa=>yl (XS a.1 a.2.1 a.2.2))
def wo  (S:Sta B G0 H cs ds) (t:Has ds (zL c) v) (s:Has ds (zL d) w) (q:Has ds (frD e) u) (z1:SzC n c) (z2:SzC n d) (g:SzQ m e) (hz:m+6*n+4<=8999) (y:c.1<d.1) (p:c.2.length<=1000)
 (k:∀r H',zP H H'->Sta B G0 H' cs ((yl (XS c d e),r)::ds)->Q r H'):fv [v,w,u] H Q E:=
 Yd (c,d,e) S (.cons t (.cons s (.cons q .nil))) ⟨⟨m,n,z1,z2,g,hz⟩,y,p⟩ k
structure PathR (n:Nat) (a:List zg):Prop where
 ne:a≠[]
 sz:∀c∈a,SzC n c
 len:∀c∈a,c.2.length<=1000
 few:a.length<=900
 rise:yu a
 zero:∀c,a[0]? =some c->c.1=0
def US:Sp:=spT (α:=List zg×Rat) (λa=>[yy a.1,frD a.2]) (λa=>∃m n,PathR n a.1/\SzQ m a.2/\m+6*n+4<=8999/\0<=a.2) (λa=>yl (zh a.1 a.2))
def bE  (S:Sta B G0 H cs ds) (p:Has ds (yy a) v) (g:Has ds (frD e) w) (ok:PathR n a) (z:SzQ m e) (hz:m+6*n+4<=8999) (h0:0<=e)
 (k:∀r H',zP H H'->Sta B G0 H' cs ((yl (zh a e),r)::ds)->Q r H'):US [v,w] H Q E:=
 Yd (a,e) S (.cons p (.cons g .nil)) ⟨m,n,ok,z,hz,h0⟩ k
end
def zV {a b:Rat} (h:a*b=0) (g:b≠0):a=0:=by
 have m:=jac b g;have:a=a*b*b⁻¹:=by rw [Rat.mul_assoc,m,Rat.mul_one]
 rw [this,h,jbS]
def xQ {a b:Rat} (h:a<b):b - a≠0:=λz=>by
 have:b=a:=by grind
 rw [this] at h;exact jaP h
def xi {s e x y E:Rat} (h:s<e):(xU ((E - s) / (e - s)) x y - x)*(e - s)=(E - s)*(y - x):=by
 have g:=jac _ (xQ h);unfold xU;rw [jai];generalize (e - s)⁻¹=i at*
 grind
def Ym {c d:zg} {E:Rat} {i:Nat} {z:Rat} (h:(XS c d E)[i]? =some z):∃x y,c.2[i]? =some x/\d.2[i]? =some y/\z=xU ((E - c.1) / (d.1 - c.1)) x y:=by
 unfold XS at h;rw [Qt] at h
 cases hx:c.2[i]? with
 |none=>rw [hx] at h;cases h
 |some x=>
  cases hy:d.2[i]? with
  |none=>rw [hx,hy] at h;cases h
  |some y=>rw [hx,hy] at h;exact ⟨x,y,rfl,rfl,(QH h).symm⟩
structure PathT (m:Nat) (a:List zg):Prop where
 rise:yu a
 len:∀c∈a,c.2.length=m
 thin:∀(i:Nat) (x y z:zg),a[i]? =some x->a[i+1]? =some y->a[i+2]? =some z->¬zR x y z
def PathT.tail  (h:PathT m (c::a)):PathT m a:=
 ⟨(Qn.mp h.rise).2,λx g=>h.len x (Qf _ g),λi x y z g p hz=>h.thin (i+1) x y z ‹g› ‹p› ‹hz›⟩
def zW  (h:d.1<=E):zh (c::d::r) E=zh (d::r) E:=by
 rw [zh,QO (Tg.mpr h)]
def ZL  (h:PathT m (c::r)):zh (c::r) c.1=c.2:=by
 cases r with
 |nil=>rfl
 |cons d r=>
  rw [zh,QJ ((Qn.mp h.rise).1 d (Qe ..)),XI];rw [h.len c (Qe ..),h.len d (Qf _ (Qe ..))]
theorem DA:∀{c:zg} {r:List zg},PathT m (c::r)->c.1<=(lastC (c::r)).1
 |c,[],_=>QR
 |c,d::r,h=>by
  have p:=(Qn.mp h.rise).1 d (Qe ..);have g:=DA h.tail;have e:lastC (c::d::r)=lastC (d::r):=by unfold lastC;rw [TQ]
  rw [e];exact TN (QE p) g
def ZN (c d:zg) (r:List zg):lastC (c::d::r)=lastC (d::r):=by unfold lastC;rw [TQ]
theorem ZK {m:Nat} {u v E:Rat} (K:u<=E) (J:E<=v) (O:u<v):∀{c:zg} {r:List zg},PathT m (c::r)->c.1<=u->(∀x∈r,¬(u<x.1/\x.1<v))->
 ∀(i:Nat) (x y z:Rat),(zh (c::r) u)[i]? =some x->(zh (c::r) v)[i]? =some y->(zh (c::r) E)[i]? =some z->(z - x)*(v - u)=(y - x)*(E - u)
 |c,[],_,_,_,i,x,y,z,g,hy,hz=>by
  have e1:c.2[i]? =some x:=g;have D:c.2[i]? =some y:=hy;have C:c.2[i]? =some z:=hz;rw [e1] at D C;cases D;cases C
  grind
 |c,d::r,h,hc,OM,i,x,y,z,g,hy,hz=>by
  have w:=(Qn.mp h.rise).1 d (Qe ..)
  by_cases hd:d.1<=u
  ·rw [zW hd] at g;rw [zW (TN hd (QE O))] at hy;rw [zW (TN hd K)] at hz;exact ZK K J O h.tail hd (λx g=>OM x (Qf _ g)) i x y z g hy hz
  ·have L:u<d.1:=jaq.mp hd;have s:v<=d.1:=Tg.mp λMF=>OM d (Qe ..) ⟨L,MF⟩
   have key:∀t:Rat,t<=d.1->zh (c::d::r) t=XS c d t:=by
    intro t ht
    by_cases A:t<d.1
    ·rw [zh,QJ A]
    ·have e:t=d.1:=jaL ht (Tg.mp A);rw [e,zW QR,ZL h.tail,vh (by rw [h.len c (Qe ..),h.len d (Qf _ (Qe ..))]) w]
   rw [key u (QE L)] at g;rw [key v s] at hy;rw [key E (TN J s)] at hz;obtain ⟨p,q,hp,Z,ex⟩:=Ym g;obtain ⟨p',q',M,N,ey⟩:=Ym hy;obtain ⟨T,P,G,I,ez⟩:=Ym hz;rw [hp] at M G;rw [Z] at N I;cases M;cases G;cases N;cases I;have Y:=xi (x:=p) (y:=q) (E:=u) w;have X:=xi (x:=p) (y:=q) (E:=v) w;have U:=xi (x:=p) (y:=q) (E:=E) w;rw [<-ex] at Y;rw [<-ey] at X;rw [<-ez] at U;have k:((z - x)*(v - u) - (y - x)*(E - u))*(d.1 - c.1)=0:=by grind
   have:=zV k (xQ w)
   grind
theorem Yr  :∀{c:zg} {r:List zg},(∀x∈c::r,x.2.length=m)->(zh (c::r) E).length=m
 |c,[],h=>h c (Qe ..)
 |c,d::r,h=>by
  rw [zh]
  split
  ·unfold XS;rw [QC,h c (Qe ..),h d (Qf _ (Qe ..)),TM]
  ·exact Yr λx g=>h x (Qf _ g)
noncomputable def yA:List Rat->List Rat->List Rat
 |[],ys=>ys
 |x::xs,[]=>x::xs
 |x::xs,y::ys=>if x<y then x::yA xs (y::ys) else if x=y then y::yA xs ys else y::yA (x::xs) ys
termination_by xs ys=>xs.length+ys.length
theorem gI:∀xs:List Rat,yA xs []=xs
 |[]=>by rw [yA]
 |x::xs=>by rw [yA]
theorem YD:∀{xs ys:List Rat},e∈yA xs ys↔e∈xs\/e∈ys
 |[],ys=>by rw [yA];simp
 |x::xs,[]=>by rw [yA];simp
 |x::xs,y::ys=>by
  rw [yA]
  split
  ·rw [Ql,YD (xs:=xs) (ys:=y::ys),Ql,Ql]
   constructor<;>intro h<;>grind
  ·split
   ·rename_i m g;subst g;rw [Ql,YD (xs:=xs) (ys:=ys),Ql,Ql]
    constructor<;>intro h<;>grind
   ·rw [Ql,YD (xs:=x::xs) (ys:=ys),Ql,Ql]
    constructor<;>intro h<;>grind
termination_by xs ys=>xs.length+ys.length
def xl {a b c:Rat} (h:a<b) (g:b<c):a<c:=by grind
def UH (l:List Rat):Prop:=l.Pairwise (·<·)
theorem VB:∀{xs ys:List Rat},UH xs->UH ys->UH (yA xs ys)
 |[],ys,_,hy=>by rw [yA];exact hy
 |x::xs,[],hx,_=>by rw [yA];exact hx
 |x::xs,y::ys,hx,hy=>by
  obtain ⟨r,t⟩:=Qn.mp hx;obtain ⟨s,p⟩:=Qn.mp hy;rw [yA]
  split
  ·rename_i h;refine Qn.mpr ⟨λe he=>?_,VB t hy⟩
   rcases YD.mp he with g|g
   ·exact r e g
   ·rcases Ql.mp g with rfl|g
    ·exact h
    ·exact xl h (s e g)
  ·split
   ·rename_i g q;subst q;refine Qn.mpr ⟨λe he=>?_,VB t p⟩
    rcases YD.mp he with h|h
    ·exact r e h
    ·exact s e h
   ·rename_i g q
    have m:y<x:=by
     rcases Rat.le_iff_lt_or_eq.mp (Tg.mp g) with h|h
     ·exact h
     ·exact absurd h.symm q
    refine Qn.mpr ⟨λe he=>?_,VB hx p⟩
    rcases YD.mp he with h|h
    ·rcases Ql.mp h with rfl|h
     ·exact m
     ·exact xl m (r e h)
    ·exact s e h
termination_by xs ys=>xs.length+ys.length
theorem ar:∀(xs ys:List Rat),(yA xs ys).length<=xs.length+ys.length
 |[],ys=>by rw [yA];simp
 |x::xs,[]=>by rw [yA];simp
 |x::xs,y::ys=>by
  rw [yA]
  split
  ·have:=ar xs (y::ys);simp only [Qy] at*;omega
  ·split
   ·have:=ar xs ys;simp only [Qy] at*;omega
   ·have:=ar (x::xs) ys;simp only [Qy] at*;omega
termination_by xs ys=>xs.length+ys.length
section
variable {B G0 H:Hp} {cs:yq} {ds:Dat} {Q:VK} {E:XK} {v w u:V}
def lH:Sp:=spL (α:=List Rat×List Rat) (λa=>[.list (a.1.map frD), .list (a.2.map frD)]) (λa=>(∃n,(∀q∈a.1,SzQ n q)/\(∀q∈a.2,SzQ n q)/\n<=40000000)/\a.1.length<=450/\a.2.length<=450) (λa=>(yA a.1 a.2).map frD)
def Cg  (S:Sta B G0 H cs ds) (t:Has ds (.list (p.map frD)) v) (s:Has ds (.list (q.map frD)) w) (z1:∀x∈p,SzQ n x) (z2:∀x∈q,SzQ n x) (hn:n<=40000000) (m:p.length<=450) (g:q.length<=450)
 (k:∀r H',zP H H'->Sta B G0 H' ((r,(yA p q).map frD)::cs) ds->Q (.ref r) H'):lH [v,w] H Q E:=
 Zw (p,q) S (.cons t (.cons s .nil)) ⟨⟨n,z1,z2,hn⟩,m,g⟩ k
noncomputable def zZ (a:List zg):List Rat:=a.map λc=>c.1
end
def nZ (m:Nat):(Yh m).sum=0:=by
 unfold Yh
 induction m with
 |zero=>rfl
 |succ m g=>rw [Tu,QN,g];rfl
def gH (t:UH M)  (r:M[j]? =some u) (q:M[j+1]? =some v) (he:e∈M):¬(u<e/\e<v):=by
 rintro ⟨z,y⟩
 obtain ⟨i,s⟩:=Qw.mp he;obtain ⟨li,g⟩:=Qd.mp s;obtain ⟨p,m⟩:=Qd.mp r;obtain ⟨lv,ev⟩:=Qd.mp q;have pw:=QP.mp t
 by_cases c:i<=j
 ·rcases Nat.lt_or_eq_of_le c with c|c
  ·have:=pw i j li p c;rw [g,m] at this
   grind
  ·subst c;rw [g] at m;subst m
   grind
 ·by_cases w:i=j+1
  ·subst w;rw [g] at ev;subst ev
   grind
  ·have:=pw (j+1) i lv li ⋯;rw [g,ev] at this
   grind
def Wl (h:yu a):UH (zZ a):=by
 unfold UH zZ;rw [Tj];exact h
section
variable {B G0 H:Hp} {cs:yq} {ds:Dat} {Q:VK} {E:XK} {v w u:V}
def fh:Sp:=λvs H Q _=>∃n:Int,vs=[.int n]/\Q (.bl true) H
def uk (k:Q (.bl true) H):fh [.int n] H Q E:=⟨n,rfl,k⟩
def Bw:Sp:=spB (α:=Rat) (λa=>[frD a]) (λ_=>True) (λ_=> .bl true)
def JP (S:Sta B G0 H cs ds) (h:Has ds (frD q) v) (k:∀H',Sta B G0 H' cs ds->Q (.bl true) H'):Bw [v] H Q E:=
 WZ q (S.hpAll (.cons h .nil)) trivial λH' e=>k H' (S.same e)
end
def At (m:Addr) (H:Hp) (a:Addr) (T:Str) (i:Nat):Prop:=∃g,H a=some (.ins m g [("signs", .str T),("at", .int ((i:Nat):Int))])
def Ch (a:Addr) (H H':Hp):Prop:=∀p,p≠a->H' p=H p
def Ch.refl  :Ch a H H:=λ_ _=>rfl
def Ch.trans  (h:Ch a H H') (g:Ch a H' H''):Ch a H H'':=λp hp=>(g p hp).trans (h p hp)
def Ch.upd  :Ch a H (L2.upd H a o):=λp hp=>ya hp
noncomputable def sgn (T:Str) (i:Nat):Str:=Txt.slice T (some ((i:Nat):Int)) (some (((i:Nat):Int)+1))
structure WOk (K:Frg) (fS fE CW:Addr):Prop where
 cl:Cls K CW
 na:Vv K CW "signs"
 nb:Vv K CW "at"
 ms:Meth K CW "sign" fS
 me:Meth K CW "expect" fE
section
variable {B G0 H:Hp} {cs:yq} {ds:Dat} {Q:VK} {E:XK} {v w u:V} {K:Frg} {CW a:Addr} {T:Str} {i:Nat}
def jL (CW:Addr):Sp:=λvs H Q _=>∃(a:Addr) (T:Str) (i:Nat),vs=[.ref a]/\At CW H a T i/\T.length<=100000/\Q (.str (sgn T i)) H
def bD (h:At CW H a T i) (g:T.length<=100000) (k:Q (.str (sgn T i)) H):jL CW [.ref a] H Q E:=⟨a,T,i,rfl,h,g,k⟩
def nW (T wd:Str) (i:Nat):Prop:=∀k c,wd.cps[k]? =some c->sgn T (i+k)=⟨#[c]⟩
def XX (CW:Addr):Sp:=λvs H Q _=>∃(a:Addr) (T wd:Str) (i:Nat),vs=[.ref a, .str wd]/\At CW H a T i/\T.length<=100000/\wd.cps.all (·<128)=true/\nW T wd i/\∀H',Ch a H H'->At CW H' a T (i+wd.length)->Q .non H'
def Zm (h:At CW H a T i) (m:T.length<=100000) (hw:wd.cps.all (·<128)=true) (g:nW T wd i) (k:∀H',Ch a H H'->At CW H' a T (i+wd.length)->Q .non H'):XX CW [.ref a, .str wd] H Q E:=⟨a,T,wd,i,rfl,h,m,hw,g,k⟩
def jW  (h:At CW H a T i) (ok:WOk K fS fE CW) (k:sp [.ref a] H Q E):kMA K "sign" fS sp E Q (.ref a) H:=by
 obtain ⟨g,h⟩:=h;exact ⟨a,CW,g,_,rfl,h,ok.cl,ok.ms,rfl,k⟩
def kMe (C:Addr) (m:Str) (sp:Sp) (E:XK) (t:TA) (σ:L2.St) (Q:VK):VK:=λx H1=>∃a g fs,x= .ref a/\H1 a=some (.ins C g fs)/\fs.lookup m=none/\t σ H1 λvs p=>sp (x::(vs++[])) p Q E
def Wi    (h:ta σ H (kMe C m sp E t σ Q)):tMeth C m sp [] E ta t σ H Q:=h
def ai   (h:At CW H a T i) (hm:([("signs",V.str T),("at", .int ((i:Nat):Int))]:List (Str×V)).lookup m=none) (k:t σ H λvs p=>sp (.ref a::vs) p Q E):kMe CW m sp E t σ Q (.ref a) H:=by
 obtain ⟨g,h⟩:=h;refine ⟨a,g,_,rfl,h,hm,?_⟩
 simpa only [jaI] using k
def Cj (h:At CW H a T i) (ok:WOk K fS fE CW) (k:Q (.str T) H):kFld K "signs" Q (.ref a) H:=by
 obtain ⟨g,h⟩:=h;exact ⟨a,CW,g,_,_,rfl,h,ok.cl,ok.na,rfl,k⟩
def Ir (h:At CW H a T i) (ok:WOk K fS fE CW) (k:Q (.int ((i:Nat):Int)) H):kFld K "at" Q (.ref a) H:=by
 obtain ⟨g,h⟩:=h;exact ⟨a,CW,g,_,_,rfl,h,ok.cl,ok.nb,rfl,k⟩
def Cs   (e:σ[k]? =some (some (.ref a))) (h:At CW H a T i) (ok:WOk K fS fE CW) (p:∀m,Ch a H m->At CW m a T (i+1)->D.nx σ m):BU K (tVar k) (tC (.int 1)) rAdd "at" D σ H:=by
 obtain ⟨g,h⟩:=h;refine ⟨.ref a,e,a,CW,g,_,_,rfl,h,ok.cl,ok.nb,rfl,_,_,rfl,rfl,g,_,h,by show 2<1000;decide,p _ Ch.upd ⟨g,?_⟩⟩;rw [yf];rfl
def kIS (R:It->Hp->Prop):VK:=λx H1=>∃z,x= .str z/\z.cps.all (·<128)=true/\R (Its z) H1
def JO  (h:te σ H (kIS R)):iStr te σ H R:=h
def rd_kIS  (hz:z.cps.all (·<128)=true) (h:R (Its z) H):kIS R (.str z) H:=⟨z,rfl,hz,h⟩
def KN   (W:Nat->L2.St->Hp->Prop) (h0:W 0 σ H)
 (q:∀(n:Nat) (c:Nat) (σ:L2.St) (H:Hp),z.cps[n]? =some c->W n σ H->g (.str ⟨#[c]⟩) σ H λσ2 H2=>tb (mkL D (W (n+1))) σ2 H2)
 (hd:∀(σ:L2.St) (H:Hp),W z.length σ H->D.nx σ H):kFor g tb D σ (Its z) H:=by
 refine ⟨λn m σ H=>m=z.cps.size - n/\n<=z.cps.size/\W n σ H,⟨z.cps.size,by simp,TR _,h0⟩,?_⟩
 rintro n m σ H ⟨rfl,hn,hw⟩
 by_cases p:n<z.cps.size
 ·refine .inr ⟨p,W (n+1),λσ' H' p'=>⟨z.cps.size - (n+1),⋯,rfl,p,p'⟩,λx H' y=>?_⟩;obtain ⟨rfl,c,r,rfl⟩:=y;exact q n c σ H' r hw
 ·exact .inl ⟨Nat.not_lt.mp p,hd σ H (by rw [show z.length=n from Nat.le_antisymm (Nat.not_lt.mp p) hn];exact hw)⟩
def Kp (a:Addr) (H H':Hp):Prop:=∀p o,p≠a->H p=some o->H' p=some o
def Ch.kp  (h:Ch a H H'):Kp a H H':=λp o hp e=>by rw [h p hp];exact e
def Kp.refl  :Kp a H H:=λ_ _ _ e=>e
def Kp.trans  (h:Kp a H H') (g:Kp a H' H''):Kp a H H'':=λp o hp e=>g p o hp (h p o hp e)
def zP.kp  (h:zP H H'):Kp a H H':=λp o _ e=>h p o e
def At.same (h:At CW H a T i) (e:zP H H'):At CW H' a T i:=by
 obtain ⟨g,h⟩:=h;exact ⟨g,e _ _ h⟩
noncomputable def fg (d:Nat):Str:=⟨#[48+d]⟩
noncomputable def qg:List Str:=["0","1","2","3","4","5","6","7","8","9"]
def nr:qg=(List.range 10).map fg:=by decide+kernel
def fg_inj (h:fg c=fg d):c=d:=by
 have:=congrArg (λz:Str=>z.cps[0]?) h;simp [fg] at this
 omega
structure Fg (K:Frg) (cF:Addr):Prop where
 lk:∃its n sl,K.lookup cF=some ⟨.type "tuple",none, .seq its n,sl⟩/\its.size<=sizeLine/\xx (qg.map V.str) its.toList
def Fg.sq (f:Fg K cF):SqT K H cF (qg.map V.str):=by
 obtain ⟨its,n,sl,p,m,g⟩:=f.lk;exact .inr ⟨_,its,n,p,rfl,rfl,m,g⟩
def Fg.ty (f:Fg K cF):tyV K "tuple" (.ref cF) H:=by
 obtain ⟨its,n,sl,g,p,m⟩:=f.lk;exact .inr (.inl ⟨rfl,_,g,rfl,rfl⟩)
def DL (z:Str) (ys:List Str):inV (.str z) (ys.map V.str)=decide (z∈ys):=by
 unfold inV;rw [List.any_map]
 by_cases h:z∈ys
 ·rw [QW h,List.any_eq_true];exact ⟨z,h,by simp [eqV]⟩
 ·rw [Th h,List.any_eq_false];intro y g;simp [eqV]
  intro e;subst e;exact h g
noncomputable def AN (ds:List Nat):Int:=ds.foldl (λ(n:Int) (d:Nat)=>n*10+(d:Int)) 0
def oi (ds:List Nat) (d:Nat):AN (ds++[d])=AN ds*10+(d:Int):=by unfold AN;rw [List.foldl_append];rfl
structure Figs (T:Str) (i:Nat) (ds:List Nat):Prop where
 pos:0<ds.length
 at_:∀k d,ds[k]? =some d->d<10/\sgn T (i+k)=fg d
 first:∀d,ds[0]? =some d->d≠0
 stop:sgn T (i+ds.length)∉qg
def Bu (CW:Addr):Sp:=λvs H Q _=>∃(a:Addr) (T:Str) (i:Nat) (ds:List Nat),vs=[.ref a]/\At CW H a T i/\T.length<=100000/\Figs T i ds/\∀H',Kp a H H'->At CW H' a T (i+ds.length)->Q (.int (AN ds)) H'
def Ce {ds:List Nat} (h:At CW H a T i) (g:T.length<=100000) (hf:Figs T i ds) (k:∀H',Kp a H H'->At CW H' a T (i+ds.length)->Q (.int (AN ds)) H'):Bu CW [.ref a] H Q E:=⟨a,T,i,ds,rfl,h,g,hf,k⟩
structure Mv (a:Addr) (G H G' H':Hp):Prop where
 k:Kp a H H'
 g:zP G G'
 s:zP G' H'
 o:∀p,H p≠none->G' p=G p
def Sw (a:Addr) (B G0 H:Hp) (ds:Dat):Prop:=∃G,Mv a G0 B G H/\G a=none/\H a≠none/\B a≠none/\YK G ds
def Sw.enter (e:zP G H) (ga:G a=none) (h:At CW H a T i) (al:YK G ds):Sw a H G H ds:=by
 obtain ⟨g,h⟩:=h;exact ⟨G,⟨Kp.refl,zP.refl _,e,λ_ _=>rfl⟩,ga,by rw [h];simp,by rw [h];simp,al⟩
def Mv.trans (h:Mv a G0 B G' H') (g:Mv a G' H' G'' H'') (ha:H' a≠none):Mv a G0 B G'' H'':=
 ⟨h.k.trans g.k,h.g.trans g.g,g.s,λp hp=>by
  rw [g.o p ?_,h.o p hp]
  by_cases m:p=a
  ·rw [m];exact ha
  ·cases hb:B p with
   |none=>exact absurd hb hp
   |some o=>rw [h.k p o m hb];simp⟩
def Sw.ch (S:Sw a B G0 H ds) (c:Ch a H H') (h:At CW H' a T i):Sw a B G0 H' ds:=by
 obtain ⟨G,m,ga,ha,q,al⟩:=S;obtain ⟨r,h⟩:=h;refine ⟨G,⟨m.k.trans c.kp,m.g,λp o hp=>?_,m.o⟩,ga,by rw [h];simp,q,al⟩;rw [c p (λz=>by rw [z,ga] at hp;cases hp)];exact m.s p o hp
def Sw.kp (S:Sw a B G0 H ds) (c:Kp a H H') (h:At CW H' a T i):Sw a B G0 H' ds:=by
 obtain ⟨G,m,ga,ha,q,al⟩:=S;obtain ⟨r,h⟩:=h;exact ⟨G,⟨m.k.trans c,m.g,λp o hp=>c p o (λz=>by rw [z,ga] at hp;cases hp) (m.s p o hp),m.o⟩,ga,by rw [h];simp,q,al⟩
def Sw.hp (S:Sw a B G0 H ds) (h:Has ds x v):Is H x v:=by
 obtain ⟨G,m,ga,ha,g,al⟩:=S;exact Is.mono m.s _ _ (h G al)
def Sw.leave (S:Sw a B G0 H ds):∃G,Mv a G0 B G H/\YK G ds:=by
 obtain ⟨G,m,ga,ha,g,al⟩:=S;exact ⟨G,m,al⟩
def Sw.tup  (S:Sw a B G0 H ds) (hp:H p=none) (h:ye ds xs vs):Sw a B G0 (upd H p (.tup vs)) ((.tuple xs, .ref p)::ds):=by
 obtain ⟨G,m,ga,ha,C,al⟩:=S;have D:G p=none:=m.s.free hp;have y:=zP.new D (.tup vs);have A:a≠p:=λz=>ha (by rw [z];exact hp);refine ⟨upd G p (.tup vs),⟨λq o r e=>(zP.new hp _) _ _ (m.k q o r e),m.g.trans y,λq o r=>?_,λq r=>?_⟩,by rw [ya A];exact ga,by rw [ya A];exact ha,C,(al.mono y).cons ?_⟩
 ·by_cases t:q=p
  ·subst t;rw [yf] at r⊢;exact r
  ·rw [ya t] at r⊢;exact m.s _ _ r
 ·have t:q≠p:=λz=>by
   subst z
   cases hbq:B q with
   |none=>exact r hbq
   |some o=>
    have:=m.k q o (λz=>A z.symm) hbq;rw [hp] at this;cases this
  rw [ya t];exact m.o q r
 ·rw [Is];exact ⟨p,vs,rfl,yf,zJ.mono y _ _ (h G al)⟩
def uo  (S:Sw a B G0 H ds) (h:ye ds xs vs) (g:vs.length<=1000) (k:∀p H',zP H H'->Sw a B G0 H' ((.tuple xs, .ref p)::ds)->Q (.ref p) H'):kTup Q vs H:=
 ⟨jbn (Xt g),λp hp=>k p _ (zP.new hp _) (S.tup hp h)⟩
def JC {α:Type} {enc:α->List PyData} {dom:α->Prop} {res:α->PyData} {vs:List V} (x:α) (S:Sw a B G0 H ds) (p:ye ds (enc x) vs) (hd:dom x) (k:∀v H',zP H H'->Sw a B G0 H' ((res x,v)::ds)->Q v H'):spT enc dom res vs H Q E:=by
 obtain ⟨G,m,ga,ha,r,al⟩:=S;refine ⟨G,x,m.s,p G al,hd,λv H' t gr q=>k v H' gr.h ⟨t,m.trans ⟨zP.kp gr.h,gr.g,gr.sub,gr.old⟩ ha,by rw [gr.old a ha];exact ga,?_,r,(al.mono gr.g).cons q⟩⟩
 cases e:H a with
 |none=>exact absurd e ha
 |some o=>rw [gr.h _ _ e];simp
def spW {α:Type} (CW:Addr) (ex:α->List V) (cond:α->Str->Nat->Prop) (len:α->Nat) (res:α->PyData):Sp:=λvs H Q _=>∃(G:Hp) (a:Addr) (T:Str) (i:Nat) (x:α),vs= .ref a::ex x/\zP G H/\G a=none/\At CW H a T i/\T.length<=100000/\cond x T i/\∀v H' g,Mv a G H g H'->At CW H' a T (i+len x)->Is g (res x) v->Q v H'
def Wy {α:Type} {ex:α->List V} {cond:α->Str->Nat->Prop} {len:α->Nat} {res:α->PyData} (x:α) (S:Sw a B G0 H ds) (h:At CW H a T i) (y:T.length<=100000) (r:cond x T i) (k:∀v H',At CW H' a T (i+len x)->Sw a B G0 H' ((res x,v)::ds)->Q v H'):spW CW ex cond len res (.ref a::ex x) H Q E:=by
 obtain ⟨G,m,ga,ha,t,al⟩:=S;refine ⟨G,a,T,i,x,rfl,m.s,ga,h,y,r,λv H' z p h' q=>k v H' h' ⟨z,m.trans p ha,by rw [p.o a ha];exact ga,?_,t,(al.mono p.g).cons q⟩⟩;obtain ⟨A,h'⟩:=h';rw [h'];simp
def bB  (S:Sw a H G H' ds) (k:∀v H' g,Mv a G H g H'->At CW H' a T i->Is g r v->Q v H') (h':At CW H' a T i) (h:Has ds r v):Q v H':=by
 obtain ⟨g,m,al⟩:=S.leave;exact k v H' g m h' (h g al)
def ZU {α:Type} {C:Addr} {enc:α->List PyData} {form:α->PyData} {vs:List V} (y:α) (S:Sw a B G0 H ds) (O:ye ds (enc y) vs) (k:∀x H',zP H H'->Sw a B G0 H' ((Hj C (form y), .ref x)::ds)->Q (.ref x) H'):kMake C (yH C enc form) E Q vs H:=by
 intro x q r Sm MW;obtain ⟨G,m,ga,ha,P,al⟩:=S;have M:G x=none:=m.s.free r;have A:a≠x:=λz=>ha (by rw [z];exact r)
 have old:∀p o,H p=some o->upd (upd H q (.own x)) x (.ins C q []) p=some o:=λp o hp=>by
  rw [ya (yc hp r),ya (yc hp Sm)];exact hp
 refine ⟨G,y,x,q,vs,by rw [jaI],λp o hp=>old p o (m.s p o hp),M,yf,O G al,λH' N w Z L Y D X U=>⟨rfl,?_⟩⟩;have keep:∀p o,H p=some o->H' p=some o:=λp o hp=>Z p o (yc hp r) (old p o hp)
 have g:∀p,H p≠none->upd (upd H q (.own x)) x (.ins C q []) p≠none:=λp hp=>by
  cases e:H p with
  |none=>exact absurd e hp
  |some o=>rw [old p o e];simp
 have I:N x=none:=by rw [D x (by rw [yf];simp)];exact M
 have J:=zP.new I (.ins C q [("form",w)]);refine k x H' keep ⟨upd N x (.ins C q [("form",w)]),m.trans ⟨zP.kp keep,L.trans J,λp o hp=>?_,λp hp=>?_⟩ ha,?_,?_,P,(al.mono (L.trans J)).cons ?_⟩
 ·by_cases t:p=x
  ·subst t;rw [yf] at hp;rw [<-hp];exact X
  ·rw [ya t] at hp;exact Y p o hp
 ·have t:p≠x:=λz=>hp (by rw [z];exact r);rw [ya t,D p (g p hp)]
 ·rw [ya A,D a (g a ha)];exact ga
 ·cases e:H a with
  |none=>exact absurd e ha
  |some o=>rw [keep a o e];simp
 ·unfold Hj;rw [Is,EU];exact ⟨x,C,q,w,rfl,rfl,yf,Is.mono J _ _ U⟩
structure PortAt (T:Str) (i:Nat) (t b:Int) (ds es:List Nat):Prop where
 f1:Figs T i ds
 v1:AN ds=t
 sl:nW T "/" (i+ds.length)
 f2:Figs T (i+ds.length+1) es
 v2:AN es=b
 lt:0<t/\t<b
 co:Int.gcd t b=1
 sz:Sz 210 t/\Sz 210 b
def rh (CW:Addr):Sp:=spW CW (α:=(Int×Int)×List Nat×List Nat) (λ_=>[]) (λx T i=>PortAt T i x.1.1 x.1.2 x.2.1 x.2.2) (λx=>x.2.1.length+1+x.2.2.length) (λx=> .tuple [.int x.1.1, .int x.1.2])
def Bv:Sp:=spT (α:=Int×Int) (λa=>[.int a.1, .int a.2]) (λa=>a.2≠0/\Sz 8999 a.2) (λa=>frD (Rat.divInt a.1 a.2))
noncomputable def WN:List Str:=["shares","evenly","losses","halves","other(","ranks(","groups(","upto("]
structure Wd (K:Frg) (cW:Addr):Prop where
 lk:∃its n sl,K.lookup cW=some ⟨.type "tuple",none, .seq its n,sl⟩/\its.size<=sizeLine/\xx (WN.map V.str) its.toList
def Wd.sq (f:Wd K cW):SqT K H cW (WN.map V.str):=by
 obtain ⟨its,n,sl,p,m,g⟩:=f.lk;exact .inr ⟨_,its,n,p,rfl,rfl,m,g⟩
def DX {b:Addr} {ys:List Str} {g:TG} {r:TS} {D:Ends} {σ:L2.St} (q:∀H,SqT K H b (ys.map V.str)) (W:Nat->L2.St->Hp->Prop) (h0:W 0 σ H)
 (t:∀(n:Nat) (z:Str) (σ:L2.St) (H:Hp),ys[n]? =some z->W n σ H->g (.str z) σ H λσ2 H2=>r (mkL D (W (n+1))) σ2 H2)
 (hd:∀(σ:L2.St) (H:Hp),W ys.length σ H->D.nx σ H):kFor g r D σ (Itt K b) H:=by
 refine ⟨λn m σ H=>m=ys.length - n/\n<=ys.length/\W n σ H,⟨ys.length,by simp,TR _,h0⟩,?_⟩
 rintro n m σ H ⟨rfl,hn,hw⟩
 by_cases p:n<ys.length
 ·refine .inr ⟨⟨_, .str ys[n],q H,by rw [Qh,Qb p];rfl⟩,W (n+1),λσ' H' p'=>⟨ys.length - (n+1),⋯,rfl,p,p'⟩,λx H' y=>?_⟩;obtain ⟨rfl,s⟩:=y;have:=s _ (q H');rw [Qh,Qb p] at this;cases this;exact t n ys[n] σ H' (Qb p) hw
 ·exact .inl ⟨⟨_,q H,by rw [Qa];omega⟩,hd σ H (by rw [show ys.length=n by omega];exact hw)⟩
def ua (CW:Addr):Sp:=λvs H Q _=>∃(a:Addr) (T:Str) (i n:Nat) (wd:Str),vs=[.ref a]/\At CW H a T i/\T.length<=100000/\WN[n]? =some wd/\nW T wd i/\∀H',Ch a H H'->At CW H' a T (i+wd.length)->Q (.str wd) H'
def JA {n:Nat} {wd:Str} (h:At CW H a T i) (m:T.length<=100000) (hn:WN[n]? =some wd) (g:nW T wd i) (k:∀H',Ch a H H'->At CW H' a T (i+wd.length)->Q (.str wd) H'):ua CW [.ref a] H Q E:=⟨a,T,i,n,wd,rfl,h,m,hn,g,k⟩
def FQ  (g:z.length<=1000) (m:z.cps.toList[0]? =some c) (k:Q (.str ⟨#[c]⟩) H):rIx K (.str z) (.int 0) H Q:= .inr (.inr ⟨z,0,c,rfl,rfl,QL g nofun,yt (j:=0) m,k⟩)
def qO:∀(m n:Nat) (x y:Str),WN[m]? =some x->WN[n]? =some y->∃c d,x.cps.toList[0]? =some c/\y.cps.toList[0]? =some d/\(c=d->m=n)/\x.length<=1000/\x.cps.all (·<128)=true:=by
 have key:∀m:Fin 8,∀n:Fin 8,((WN[m.1]?).bind λx=>x.cps.toList[0]?)=((WN[n.1]?).bind λx=>x.cps.toList[0]?)->m=n:=by decide+kernel
 have one:∀m:Fin 8,(((WN[m.1]?).bind λx=>x.cps.toList[0]?).isSome && ((WN[m.1]?).elim false λx=>decide (x.length<=1000) && x.cps.all (·<128)))=true:=by decide+kernel
 intro m n x y r q;have hm:m<8:=(Qd.mp r).1;have hn:n<8:=(Qd.mp q).1;have g:=one ⟨m,hm⟩;have p:=one ⟨n,hn⟩;have k:=key ⟨m,hm⟩ ⟨n,hn⟩;dsimp only at g p k;rw [r] at g;rw [q] at p;rw [r,q] at k;simp only [Option.bind_some,Option.elim_some,TF,decide_eq_true_eq] at g p k;obtain ⟨c,s⟩:=jan.mp g.1;obtain ⟨d,hd⟩:=jan.mp p.1;refine ⟨c,d,s,hd,λe=>?_,g.2.1,g.2.2⟩;have:=k (by rw [s,hd,e]);exact congrArg Fin.val this
end
def Ao (g:0<b) (h:Int.gcd t b=1):(Rat.divInt t b).num=t/\((Rat.divInt t b).den:Int)=b:=by
 have:=UC (a:=t) g;rw [h] at this;refine ⟨?_,?_⟩
 ·rw [<-this.1];simp
 ·rw [<-this.2];simp
def Ap:∀m:Nat,∃ds:List Nat,(Nat.toDigits 10 m).map Char.toNat=ds.map (48+·)/\(∀d∈ds,d<10)/\AN ds=(m:Int)/\0<ds.length/\(0<m->∀d,ds[0]? =some d->d≠0):=by
 intro m
 induction m using Nat.strongRecOn with
 |ind m p=>
  have g:∀d,d<10->(Nat.digitChar d).toNat=48+d:=by decide
  by_cases h:m<10
  ·refine ⟨[m],?_,λd hd=>by cases Qq.mp hd;exact h,by simp [AN],by simp,λh0 d hd=>by simp at hd;omega⟩;rw [Nat.toDigits_of_lt_base h];simp [g m h]
  ·obtain ⟨ds,u,t,s,r,q⟩:=p (m / 10) ⋯;refine ⟨ds++[m % 10],?_,λd hd=>?_,?_,by simp,λ_ d hd=>?_⟩
   ·rw [Nat.toDigits_of_base_le nofun ⋯,QM,QM,u];simp [g (m % 10) ⋯]
   ·rcases QT.mp hd with h|h
    ·exact t d h
    ·cases Qq.mp h;omega
   ·rw [oi,s];omega
   ·rw [jae r] at hd;exact q ⋯ d hd
def Aq (h:0<t):∃ds:List Nat,(itS t).cps.toList=ds.map (48+·)/\(∀d∈ds,d<10)/\AN ds=t/\0<ds.length/\∀d,ds[0]? =some d->d≠0:=by
 obtain ⟨m,rfl⟩:=Int.eq_ofNat_of_zero_le (jbc h);obtain ⟨ds,s,r,q,p,g⟩:=Ap m;refine ⟨ds,?_,r,q,p,g ⋯⟩;unfold itS;rw [Str.ofString_eq_toList,<-s];show ((toString ((m:Nat):Int)).toList.map Char.toNat)=_
 rw [show (toString ((m:Nat):Int)).toList=Nat.toDigits 10 m from by
  show (Nat.repr m).toList=_
  simp [Nat.repr]]
def xM  (h:nW T (u++v) i):nW T u i/\nW T v (i+u.length):=by
 constructor
 ·intro k c g;refine h k c ?_;show (u.cps++v.cps)[k]? =some c;rw [Array.getElem?_append_left (jas.mp g).1];exact g
 ·intro k c g;rw [Nat.add_assoc];refine h (u.length+k) c ?_;show (u.cps++v.cps)[u.cps.size+k]? =some c;rw [Array.getElem?_append_right ⋯,Nat.add_sub_cancel_left];exact g
def Hs (T:Str):nW T T 0:=by
 intro k c g;have m:=(jas.mp g).1;have:=slice_one_closes (x:=T) (n:=(k:Nat)) ⋯ (by show (k:Int)<(T.cps.size:Int);omega);have e:=eq_of_beq this;unfold sgn;rw [jbo,e,Td,Array.getD_eq_getD_getElem?,g];rfl
def Js (T:Str):sgn T T.length=Str.empty:=by
 have e:Builtin.Str.strSliceIndices (some ((T.length:Nat):Int)) (some (((T.length:Nat):Int)+1)) 1 T.length=[]:=by
  unfold Builtin.Str.strSliceIndices sliceRange;simp only [show (1:Int)>0 by decide,if_true];rw [QO (by omega:¬((T.length:Nat):Int)<0),QO (by omega:¬((T.length:Nat):Int)+1<0),QO ⋯];rfl
 unfold sgn Txt.slice;rw [e]
 split
 ·rename_i h
  have h0:T.cps.size=0:=by
   have:(0==T.length)=true:=by simpa using h
   exact (eq_of_beq this).symm
  show T=⟨#[]⟩;obtain ⟨c⟩:=T;exact congrArg Str.mk (Array.eq_empty_of_size_eq_zero h0)
 ·rfl
def Eb {T rest:Str} {t:Int} {i c:Nat} (h0:0<t) (h:nW T (itS t++rest) i) (p:rest.cps[0]? =some c) (hn:(⟨#[c]⟩:Str)∉qg):∃ds,Figs T i ds/\AN ds=t/\ds.length=(itS t).length:=by
 obtain ⟨ds,g,u,s,r,q⟩:=Aq h0;obtain ⟨m,hr⟩:=xM h
 have el:ds.length=(itS t).length:=by
  have:=congrArg List.length g;rw [Qa] at this;rw [<-this];rfl
 refine ⟨ds,⟨r,λk d hd=>⟨u d (Qc hd),?_⟩,q,?_⟩,s,el⟩
 ·refine m k (48+d) ?_;rw [<-Array.getElem?_toList,g,Qh,hd];rfl
 ·rw [el];have:=hr 0 c p;rw [Nat.add_zero] at this;rw [this];exact hn
noncomputable def Rl.word:Rl->Str
 | .shares=>"shares"
 | .evenly=>"evenly"
 | .losses=>"losses"
 | .halves=>"halves"
 | .other _=>"other("
 | .ranks _=>"ranks("
 | .groups _ _=>"groups("
 | .upto _ _ _ _=>"upto("
noncomputable def Rl.inner:Rl->Str
 | .other r=>r.text
 | .ranks r=>r.text
 | .groups a b=>a.text++(", ":Str)++b.text
 | .upto t b x y=>itS t++("/":Str)++itS b++(", ":Str)++x.text++(", ":Str)++y.text
 |_=>Str.empty
noncomputable def Rl.leaf:Rl->Bool
 | .shares=>true
 | .evenly=>true
 | .losses=>true
 | .halves=>true
 |_=>false
theorem Rl.text_in:∀r:Rl,r.leaf=false->r.text=r.word++r.inner++(")":Str)
 | .other r,_=>rfl
 | .ranks r,_=>rfl
 | .groups a b,_=>by simp only [Rl.text,Rl.word,Rl.inner,xR]
 | .upto t b x y,_=>by simp only [Rl.text,Rl.word,Rl.inner,xR]
theorem Rl.word_at:∀r:Rl,∃n:Nat,WN[n]? =some r.word
 | .shares=>⟨0,rfl⟩
 | .evenly=>⟨1,rfl⟩
 | .losses=>⟨2,rfl⟩
 | .halves=>⟨3,rfl⟩
 | .other _=>⟨4,rfl⟩
 | .ranks _=>⟨5,rfl⟩
 | .groups _ _=>⟨6,rfl⟩
 | .upto _ _ _ _=>⟨7,rfl⟩
def ub (g:Addr) (A:RAd) (n:Nat):Sp:=spW g (α:=Rl) (λ_=>[]) (λr T i=>nW T r.text i/\r.Ok/\r.deep<=n) (λr=>r.text.length) (λr=>r.ins A)
def Ij (g:Addr) (A:RAd) (n:Nat):Sp:=spW g (α:=Rl) (λr=>[.str r.word]) (λr T i=>nW T r.inner i/\r.leaf=false/\r.Ok/\r.deep<=n+1) (λr=>r.inner.length) (λr=>r.ins A)
def FC:(⟨#[47]⟩:Str)∉qg:=by decide+kernel
def Hv:(⟨#[44]⟩:Str)∉qg:=by decide+kernel
def JU {T rest:Str} {t b:Int} {i:Nat} (hp:WE t b) (h:nW T (itS t++("/":Str)++itS b++rest) i) (s:rest.cps[0]? =some 44):∃ds es,PortAt T i t b ds es/\ds.length+1+es.length=(itS t++("/":Str)++itS b).length:=by
 rw [xR,xR] at h;have g:("/":Str).length=1:=by decide+kernel
 have p:(("/":Str)++(itS b++rest)).cps[0]? =some 47:=by
  show (("/":Str).cps++(itS b++rest).cps)[0]? =some 47;rw [Array.getElem?_append_left (by decide+kernel)];decide+kernel
 obtain ⟨ds,f1,v1,m⟩:=Eb hp.2.1 h p FC;have q:=(xM h).2;have u:=(xM q).2;obtain ⟨es,f2,v2,r⟩:=Eb (by have:=hp.2;omega) u s Hv;rw [g] at f2;refine ⟨ds,es,⟨f1,v1,by rw [m];exact (xM q).1,by rw [m];exact f2,v2,⟨hp.2.1,hp.2.2.1⟩,hp.2.2.2,hp.1⟩,?_⟩;rw [xY,xY,g,m,r]
section
variable {B G0 H:Hp} {cs:yq} {ds:Dat} {Q:VK} {E:XK} {v w u:V} {K:Frg} {CW:Addr}
def Br (CW:Addr):Sp:=λvs H Q _=>∃(x g:Addr) (T:Str),vs=[.ref x, .str T]/\H x=some (.ins CW g [])/\∀H',Ch x H H'->At CW H' x T 0->Q .non H'
def Bt (A:RAd) (n:Nat):Sp:=spT (α:=Rl) (λr=>[.str r.text]) (λr=>r.Ok/\r.size<=16/\r.deep<=n) (λr=>r.ins A)
def JG {A:RAd} {n:Nat} {r:Rl} (S:Sta B G0 H cs ds) (ok:r.Ok) (g:r.size<=16) (hd:r.deep<=n) (k:∀w H',zP H H'->Sta B G0 H' cs ((r.ins A,w)::ds)->Q w H'):Bt A n [.str r.text] H Q E:=Yd (α:=Rl) r S (ye.cons Has.str ye.nil) ⟨ok,g,hd⟩ k
end
noncomputable def zM:List Rat->Rat
 |[]=>0
 |x::r=>x+zM r
theorem fe:∀x y:List Rat,zM (x++y)=zM x+zM y
 |[],y=>by rw [jaK,zM];grind
 |a::x,y=>by rw [TK,zM,zM,fe x y];grind
def Xr (m:Nat):zM (List.replicate m 0)=0:=by
 induction m with
 |zero=>rfl
 |succ m g=>rw [Tu,zM,g];grind
theorem lr (t:Rat):∀x y:List Rat,x.length=y.length->zM (List.zipWith (xU t) x y)=xU t (zM x) (zM y)
 |[],[],_=>by rw [List.zipWith_nil_left,zM];unfold xU;grind
 |a::x,b::y,h=>by
  rw [jaw,zM,zM,zM,lr t x y ‹h›];unfold xU;grind
 |[],_::_,h=>by simp at h
 |_::_,[],h=>by simp at h
def LeV (x y:List Rat):Prop:=∀(i:Nat) (a b:Rat),x[i]? =some a->y[i]? =some b->a<=b
structure PathM (m:Nat) (a:List zg):Prop where
 t:PathT m a
 sums:∀c∈a,zM c.2=c.1
 mono:a.Pairwise λc d=>LeV c.2 d.2
def PathM.tail  (h:PathM m (c::a)):PathM m a:=
 ⟨h.t.tail,λx g=>h.sums x (Qf _ g),(Qn.mp h.mono).2⟩
def uy (h:s<e) (q:u<=v) (p:x<=y):xU ((u - s) / (e - s)) x y<=xU ((v - s) / (e - s)) x y:=by
 have m:=xi (x:=x) (y:=y) (E:=u) h;have g:=xi (x:=x) (y:=y) (E:=v) h;have hp:0<e - s:=by grind
 have h0:0<=(v - u)*(y - x):=QX (by grind) (by grind);refine Rat.le_of_mul_le_mul_left (c:=e - s) ?_ hp
 grind
theorem ZJ  (w:u<=v):∀{c:zg} {r:List zg},PathM m (c::r)->c.1<=u->LeV (zh (c::r) u) (zh (c::r) v)
 |c,[],_,_=>λi a b ha g=>by
  have s:c.2[i]? =some a:=ha;have G:c.2[i]? =some b:=g;rw [s] at G;cases G;exact QR
 |c,d::r,h,hc=>λi a b ha g=>by
  have z:=(Qn.mp h.t.rise).1 d (Qe ..);have hm:=(Qn.mp h.mono).1 d (Qe ..)
  by_cases hd:d.1<=u
  ·rw [zW hd] at ha;rw [zW (TN hd w)] at g;exact ZJ w h.tail hd i a b ha g
  ·have J:u<d.1:=jaq.mp hd;rw [zh,QJ J] at ha;obtain ⟨x,y,A,p,D⟩:=Ym ha;have K:=hm i x y A p
   by_cases C:v<d.1
   ·rw [zh,QJ C] at g;obtain ⟨T,P,M,L,O⟩:=Ym g;rw [A] at M;cases M;rw [p] at L;cases L;rw [D,O];exact uy z w K
   ·have I:d.1<=v:=Tg.mp C;rw [zW I] at g;have N:=ZJ I h.tail QR i y b (by rw [ZL h.t.tail];exact p) g;have q:=uy (x:=x) (y:=y) z (QE J) K;rw [<-D] at q
    have s:xU ((d.1 - c.1) / (d.1 - c.1)) x y=y:=by
     rw [jai,jac _ (xQ z),uz]
    rw [s] at q;exact TN q N
theorem bI  :∀{c:zg} {r:List zg},PathM m (c::r)->c.1<=e->e<=(lastC (c::r)).1->zM (zh (c::r) e)=e
 |c,[],h,hc,hl=>by
  have p:e=c.1:=jaL hl hc;rw [p];exact h.sums c (Qe ..)
 |c,d::r,h,hc,hl=>by
  have g:=(Qn.mp h.t.rise).1 d (Qe ..)
  by_cases hd:d.1<=e
  ·rw [zW hd];exact bI h.tail hd (by rw [<-ZN c];exact hl)
  ·have q:e<d.1:=jaq.mp hd;rw [zh,QJ q];unfold XS;rw [lr _ _ _ (by rw [h.t.len c (Qe ..),h.t.len d (Qf _ (Qe ..))]),h.sums c (Qe ..),h.sums d (Qf _ (Qe ..))];have s:=xi (x:=c.1) (y:=d.1) (E:=e) g;have:=zV (a:=xU ((e - c.1) / (d.1 - c.1)) c.1 d.1 - e) (b:=d.1 - c.1) (by grind) (xQ g)
   grind
theorem gA:∀{c:zg} {r:List zg},PathT m (c::r)->zh (c::r) (lastC (c::r)).1=(lastC (c::r)).2
 |c,[],h=>rfl
 |c,d::r,h=>by
  rw [ZN,zW (DA h.tail)];exact gA h.tail
noncomputable def xh:List zg->Nat->Rat->Option Rat
 |c::d::r,k,L=>if L<d.2.getD k 0 then some (xU ((L - c.2.getD k 0) / (d.2.getD k 0 - c.2.getD k 0)) c.1 d.1) else xh (d::r) k L
 |_,_,_=>none
theorem Uy  (q:k<m):∀{c:zg} {r:List zg},PathM m (c::r)->c.2.getD k 0<=L->xh (c::r) k L=some e->
 ∃(i:Nat) (a b:zg) (x y:Rat),(c::r)[i]? =some a/\(c::r)[i+1]? =some b/\a.2[k]? =some x/\b.2[k]? =some y/\x<=L/\L<y/\e=xU ((L - x) / (y - x)) a.1 b.1/\a.1<=e/\e<b.1/\(e - a.1) / (b.1 - a.1)=(L - x) / (y - x)/\zh (c::r) e=List.zipWith (xU ((L - x) / (y - x))) a.2 b.2
 |c,[],_,_,h=>by simp [xh] at h
 |c,d::r,h,hc,hr=>by
  have U:=(Qn.mp h.t.rise).1 d (Qe ..);have lc:k<c.2.length:=by rw [h.t.len c (Qe ..)];exact q
  have ld:k<d.2.length:=by rw [h.t.len d (Qf _ (Qe ..))];exact q
  have P:c.2[k]? =some (c.2.getD k 0):=by rw [Qk,Qb lc];rfl
  have O:d.2[k]? =some (d.2.getD k 0):=by rw [Qk,Qb ld];rfl
  rw [xh] at hr
  by_cases g:L<d.2.getD k 0
  ·rw [QJ g] at hr;cases hr;generalize c.2.getD k 0=x at*;generalize d.2.getD k 0=y at*;have T:x<y:=by grind
   have X:=xi (x:=c.1) (y:=d.1) (E:=L) T;have hp:0<y - x:=by grind
   have G:0<d.1 - c.1:=by grind
   have p:0<=(L - x)*(d.1 - c.1):=QX (by grind) (by grind);have C:0<(y - L)*(d.1 - c.1):=jbA (by grind) G;have ge1:c.1<=xU ((L - x) / (y - x)) c.1 d.1:=Rat.le_of_mul_le_mul_left (c:=y - x) (by grind) hp
   have D:xU ((L - x) / (y - x)) c.1 d.1<d.1:=by
    refine jaq.mp λhle=>?_;have A:0<=(xU ((L - x) / (y - x)) c.1 d.1 - d.1)*(y - x):=QX (by grind) (by grind)
    grind
   have et:(xU ((L - x) / (y - x)) c.1 d.1 - c.1) / (d.1 - c.1)=(L - x) / (y - x):=by
    unfold xU;generalize (L - x) / (y - x)=t;have Y:=jac _ (xQ U);rw [jai];generalize (d.1 - c.1)⁻¹=j at*
    grind
   refine ⟨0,c,d,x,y,rfl,rfl,P,O,hc,g,rfl,ge1,D,et,?_⟩;rw [zh,QJ D];unfold XS;rw [et]
  ·rw [QO g] at hr;obtain ⟨i,a,b,x,y,p,C,A,N,M,K,J,z,I,w,u⟩:=Uy q h.tail (Tg.mp g) hr;refine ⟨i+1,a,b,x,y,by simpa using p,by simpa using C,A,N,M,K,J,z,I,w,?_⟩
   have s:d.1<=a.1:=by
    cases i with
    |zero=>cases p;exact QR
    |succ i=>exact QE ((Qn.mp h.t.tail.rise).1 a (Qc ‹p›))
   rw [zW (TN s z)];exact u
theorem fV  (p:k<m):∀{c:zg} {r:List zg},PathM m (c::r)->c.2.getD k 0<=L->xh (c::r) k L=none->(lastC (c::r)).2.getD k 0<=L
 |c,[],_,hc,h=>hc
 |c,d::r,h,hc,hr=>by
  rw [xh] at hr
  by_cases g:L<d.2.getD k 0
  ·rw [QJ g] at hr;cases hr
  ·rw [QO g] at hr;rw [ZN];exact fV p h.tail (Tg.mp g) hr
theorem pf  (g:k<m):∀{c:zg} {r:List zg} {i:Nat} {a b:zg},PathM m (c::r)->(c::r)[i]? =some a->(c::r)[i+1]? =some b->a.2.getD k 0<=L->L<b.2.getD k 0->
 xh (c::r) k L=some (xU ((L - a.2.getD k 0) / (b.2.getD k 0 - a.2.getD k 0)) a.1 b.1)
 |c,[],i,a,b,_,_,hb,_,_=>by simp at hb
 |c,d::r,0,a,b,_,ha,hb,_,hL=>by
  cases ha;cases hb;rw [xh,QJ hL]
 |c,d::r,i+1,a,b,h,ha,hb,hLa,hL=>by
  have q:(d::r)[i]? =some a:=by simpa using ha
  have p:d.2.getD k 0<=a.2.getD k 0:=by
   cases i with
   |zero=>cases q;exact QR
   |succ i=>
    have hm:=(Qn.mp h.tail.mono).1 a (Qc ‹q›);have ld:k<d.2.length:=by rw [h.t.len d (Qf _ (Qe ..))];exact g
    have s:k<a.2.length:=by rw [h.t.len a (Qc ha)];exact g
    exact hm k _ _ (by rw [Qk,Qb ld];rfl) (by rw [Qk,Qb s];rfl)
  rw [xh,QO (Tg.mpr (TN p hLa))];exact pf g h.tail q ‹hb› hLa hL
theorem jT  (p:k<m):∀{c:zg} {r:List zg},PathM m (c::r)->(∀l,(c::r).getLast? =some l->l.2.getD k 0<=L)->xh (c::r) k L=none
 |c,[],_,_=>rfl
 |c,d::r,h,hl=>by
  have hd:d.2.getD k 0<=L:=by
   obtain ⟨l,g⟩:∃l,(c::d::r).getLast? =some l:=⟨_,Te (by simp)⟩;have hle:=hl l g;rw [TQ] at g
   cases r with
   |nil=>cases g;exact hle
   |cons f r=>
    rw [TQ] at g;have hm:=(Qn.mp h.tail.mono).1 l (jah g);have ld:k<d.2.length:=by rw [h.t.len d (Qf _ (Qe ..))];exact p
    have q:k<l.2.length:=by rw [h.t.len l (Qf _ (Qf _ (jah g)))];exact p
    exact TN (hm k _ _ (by rw [Qk,Qb ld];rfl) (by rw [Qk,Qb q];rfl)) hle
  rw [xh,QO (Tg.mpr hd)];exact jT p h.tail λl s=>hl l (by rw [TQ];exact s)
theorem yg  :∀{c:zg} {r:List zg},PathT m (c::r)->a∈c::r->zh (c::r) a.1=a.2
 |c,[],_,ha=>by
  rcases Ql.mp ha with rfl|h
  ·rfl
  ·simp at h
 |c,d::r,h,ha=>by
  rcases Ql.mp ha with rfl|h'
  ·exact ZL h
  ·have:d.1<=a.1:=by
    rcases Ql.mp h' with rfl|g
    ·exact QR
    ·exact QE ((Qn.mp h.tail.rise).1 a g)
   rw [zW this];exact yg h.tail h'
theorem au:∀{c:zg} {r:List zg},PathT m (c::r)->lastC (c::r)∈c::r/\∀x∈c::r,x.1<=(lastC (c::r)).1
 |c,[],_=>⟨Qe ..,λx p=>by
  rcases Ql.mp p with rfl|h
  ·exact QR
  ·simp at h⟩
 |c,d::r,h=>by
  have g:=au h.tail;rw [ZN];refine ⟨Qf _ g.1,λx p=>?_⟩
  rcases Ql.mp p with rfl|h'
  ·exact TN (QE ((Qn.mp h.rise).1 d (Qe ..))) (g.2 d (Qe ..))
  ·exact g.2 x h'
def eI  (h:PathT m (c::r)):∀x∈c::r,c.1<=x.1:=λx g=>by
 rcases Ql.mp g with rfl|h'
 ·exact QR
 ·exact QE ((Qn.mp h.rise).1 x h')
def mL (h:yu a)  (m:a[i]? =some x) (g:a[i+1]? =some y) (hz:z∈a):¬(x.1<z.1/\z.1<y.1):=
 gH (M:=zZ a) (Wl h) (j:=i) (by unfold zZ;rw [Qh,m];rfl) (by unfold zZ;rw [Qh,g];rfl) (by unfold zZ;exact Qj.mpr ⟨z,hz,rfl⟩)
def Ab (x y z:List Rat) (a b:Rat):Prop:=∀(i:Nat) (p q r:Rat),x[i]? =some p->y[i]? =some q->z[i]? =some r->(r - p)*b=(q - p)*a
def gP  :Ab (p::x) (q::y) (r::z) a b↔(r - p)*b=(q - p)*a/\Ab x y z a b:=by
 constructor
 ·intro h;exact ⟨h 0 p q r rfl rfl rfl,λi w u t s m g=>h (i+1) w u t ‹s› ‹m› ‹g›⟩
 ·rintro ⟨h0,h⟩ i w u t s m g
  cases i with
  |zero=>cases s;cases m;cases g;exact h0
  |succ i=>exact h i w u t ‹s› ‹m› ‹g›
theorem uE  :∀{x y z:List Rat},x.length=y.length->x.length=z.length->(Ab (x++x') (y++y') (z++z') a b↔Ab x y z a b/\Ab x' y' z' a b)
 |[],[],[],_,_=>by
  simp only [jaK];exact ⟨λh=>⟨λi p q r g=>by simp at g,h⟩,λh=>h.2⟩
 |p::x,q::y,r::z,g,h2=>by
  rw [TK,TK,TK,gP,gP,uE ‹g› ‹h2›,and_assoc]
 |[],_::_,_,h,_=>by simp at h
 |_::_,[],_,h,_=>by simp at h
 |[],[],_::_,_,h=>by simp at h
 |_::_,_::_,[],_,h=>by simp at h
theorem uD:∀{x y z:List Rat},x.length=y.length->x.length=z.length->Ab x y z a b->(zM z - zM x)*b=(zM y - zM x)*a
 |[],[],[],_,_,_=>by simp only [zM];grind
 |p::x,q::y,r::z,h1,h2,h=>by
  rw [gP] at h;have:=uD ‹h1› ‹h2› h.2;have h0:=h.1;simp only [zM]
  grind
 |[],_::_,_,h,_,_=>by simp at h
 |_::_,[],_,h,_,_=>by simp at h
 |[],[],_::_,_,h,_=>by simp at h
 |_::_,_::_,[],_,h,_=>by simp at h
def vt  :LeV (p::x) (q::y)↔p<=q/\LeV x y:=by
 constructor
 ·intro h;exact ⟨h 0 p q rfl rfl,λi s r m g=>h (i+1) s r ‹m› ‹g›⟩
 ·rintro ⟨h0,h⟩ i s r m g
  cases i with
  |zero=>cases m;cases g;exact h0
  |succ i=>exact h i s r ‹m› ‹g›
theorem EG:∀{x y:List Rat},x.length=y.length->LeV x y->LeV x' y'->LeV (x++x') (y++y')
 |[],[],_,_,h=>h
 |p::x,q::y,hl,h,h'=>by
  rw [vt] at h;rw [TK,TK,vt];exact ⟨h.1,EG ‹hl› h.2 h'⟩
 |[],_::_,h,_,_=>by simp at h
 |_::_,[],h,_,_=>by simp at h
noncomputable def yT (Qs:List (List zg)) (ps:List Rat):List Rat:=(List.zipWith zh Qs ps).flatten
def xv (Q:List zg) (Qs:List (List zg)) (p:Rat) (ps:List Rat):yT (Q::Qs) (p::ps)=zh Q p++yT Qs ps:=by
 unfold yT;rw [jaw,jaa]
def Wid (Q:List zg):Prop:=∃(m:Nat) (c:zg) (r:List zg),Q=c::r/\∀x∈c::r,x.2.length=m
def Wid.len (h:Wid Q) (p q:Rat):(zh Q p).length=(zh Q q).length:=by
 obtain ⟨m,c,r,rfl,h⟩:=h;rw [Yr h,Yr h]
theorem mU:∀{Qs:List (List zg)} {pu pv g:List Rat},pu.length=Qs.length->pv.length=Qs.length->g.length=Qs.length->(∀Q∈Qs,Wid Q)->
 (Ab (yT Qs pu) (yT Qs pv) (yT Qs g) a b↔∀(k:Nat) (Q:List zg) (p q r:Rat),Qs[k]? =some Q->pu[k]? =some p->pv[k]? =some q->g[k]? =some r->Ab (zh Q p) (zh Q q) (zh Q r) a b)
 |[],[],[],[],_,_,_,_=>⟨λ_ k Q p q r h=>by simp at h,λ_ i p q r h=>by simp [yT] at h⟩
 |Q::Qs,p::pu,q::pv,r::g,h1,h2,h3,hw=>by
  have w:=hw Q (Qe ..);rw [xv,xv,xv,uE (w.len _ _) (w.len _ _),mU ‹h1› ‹h2› ‹h3› λQ y=>hw Q (Qf _ y)]
  constructor
  ·rintro ⟨h,h'⟩ k u t s m a1 a2 a3 a4
   cases k with
   |zero=>cases a1;cases a2;cases a3;cases a4;exact h
   |succ k=>exact h' k u t s m ‹a1› ‹a2› ‹a3› ‹a4›
  ·intro h;exact ⟨h 0 Q p q r rfl rfl rfl rfl,λk u t s m a1 a2 a3 a4=>h (k+1) u t s m ‹a1› ‹a2› ‹a3› ‹a4›⟩
 |[],_::_,_,_,h,_,_,_=>by simp at h
 |[],[],_::_,_,_,h,_,_=>by simp at h
 |[],[],[],_::_,_,_,h,_=>by simp at h
 |_::_,[],_,_,h,_,_,_=>by simp at h
 |_::_,_::_,[],_,_,h,_,_=>by simp at h
 |_::_,_::_,_::_,[],_,_,h,_=>by simp at h
theorem Dw:∀{Qs:List (List zg)} {pu pv:List Rat},pu.length=Qs.length->pv.length=Qs.length->(∀Q∈Qs,Wid Q)->
 (∀(k:Nat) (Q:List zg) (p q:Rat),Qs[k]? =some Q->pu[k]? =some p->pv[k]? =some q->LeV (zh Q p) (zh Q q))->LeV (yT Qs pu) (yT Qs pv)
 |[],[],[],_,_,_,_=>λi p q h=>by simp [yT] at h
 |Q::Qs,p::pu,q::pv,h1,h2,hw,h=>by
  rw [xv,xv];exact EG ((hw Q (Qe ..)).len _ _) (h 0 Q p q rfl rfl rfl) (Dw ‹h1› ‹h2› (λQ r=>hw Q (Qf _ r)) λk s m g a1 a2 a3=>h (k+1) s m g ‹a1› ‹a2› ‹a3›)
 |[],_::_,_,h,_,_,_=>by simp at h
 |[],[],_::_,_,h,_,_=>by simp at h
 |_::_,[],_,h,_,_,_=>by simp at h
 |_::_,_::_,[],_,h,_,_=>by simp at h
theorem tX:∀{Qs:List (List zg)} {ps:List Rat},ps.length=Qs.length->(∀(k:Nat) (Q:List zg) (p:Rat),Qs[k]? =some Q->ps[k]? =some p->zM (zh Q p)=p)->zM (yT Qs ps)=zM ps
 |[],[],_,_=>rfl
 |Q::Qs,p::ps,h,g=>by
  rw [xv,fe,g 0 Q p rfl rfl,zM,tX ‹h› λk q m a1 a2=>g (k+1) q m ‹a1› ‹a2›]
 |[],_::_,h,_=>by simp at h
 |_::_,[],h,_=>by simp at h
theorem uH:∀{Qs:List (List zg)} {pu pv:List Rat},pu.length=Qs.length->pv.length=Qs.length->(∀Q∈Qs,Wid Q)->(yT Qs pu).length=(yT Qs pv).length
 |[],[],[],_,_,_=>rfl
 |Q::Qs,p::pu,q::pv,h1,h2,hw=>by
  rw [xv,xv,QB,QB,(hw Q (Qe ..)).len p q,uH ‹h1› ‹h2› λQ g=>hw Q (Qf _ g)]
 |[],_::_,_,h,_,_=>by simp at h
 |[],[],_::_,_,h,_=>by simp at h
 |_::_,[],_,h,_,_=>by simp at h
 |_::_,_::_,[],_,h,_=>by simp at h
theorem uB:∀{Qs:List (List zg)} {ps:List Rat},x∈yT Qs ps->∃(k:Nat) (Q:List zg) (p:Rat),Qs[k]? =some Q/\ps[k]? =some p/\x∈zh Q p
 |[],ps,h=>by simp [yT] at h
 |Q::Qs,[],h=>by simp [yT] at h
 |Q::Qs,p::ps,h=>by
  rw [xv,QT] at h
  rcases h with h|h
  ·exact ⟨0,Q,p,rfl,rfl,h⟩
  ·obtain ⟨k,m,g,a,b,c⟩:=uB h;exact ⟨k+1,m,g,by simpa using a,by simpa using b,c⟩
def bend  (h:PathM m (c::r))  (hy:y∈c::r) (ev:y.1=v) (p:u<v) (M:v<w) (hc:c.1<=u) (hw:w<=(lastC (c::r)).1)
 (n1:∀x∈c::r,¬(u<x.1/\x.1<v)) (n2:∀x∈c::r,¬(v<x.1/\x.1<w)) (hl:Ab (zh (c::r) u) (zh (c::r) w) (zh (c::r) v) (v - u) (w - u)):False:=by
 obtain ⟨j,Z,ej⟩:=QS hy;have G:(c::r)[j]? =some y:=by rw [Qb Z,ej]
 have hj1:j≠0:=λz=>by
  subst z;cases G;rw [<-ev] at p;exact Tg.mpr hc p
 obtain ⟨i,rfl⟩:∃i,j=i+1:=⟨j - 1,⋯⟩;have L:=h.t.rise;unfold yu at L;rw [QP] at L
 have D:i+2<(c::r).length:=by
  refine Nat.lt_of_not_le λhle=>?_
  have e1:lastC (c::r)=y:=by
   unfold lastC;rw [jay,show (c::r).length - 1=i+1 by omega,G];rfl
  rw [e1,ev] at hw;exact Tg.mpr hw M
 have gx:(c::r)[i]? =some (c::r)[i]:=Qb ⋯;have gz:(c::r)[i+2]? =some (c::r)[i+2]:=Qb D;have J:=L i (i+1) ⋯ Z ⋯;have I:=L (i+1) (i+2) Z D ⋯;rw [ej] at J I;generalize (c::r)[i]=x at*;generalize (c::r)[i+2]=z at*;have K:=Qc gx;have mz:=Qc gz;rw [ev] at J I;have U:x.1<=u:=Tg.mp λMF=>n1 x K ⟨MF,J⟩;have X:w<=z.1:=Tg.mp λMF=>n2 z mz ⟨I,MF⟩;have px:=yg h.t K;have py:=yg h.t hy;have pz:=yg h.t mz;rw [ev] at py;have hcx:=eI h.t x K
 have T:∀s∈r,¬(x.1<s.1/\s.1<v):=λs Y=>by
  have:=mL h.t.rise gx G (Qf c Y);rw [ev] at this;exact this
 have P:∀s∈r,¬(v<s.1/\s.1<z.1):=λs Y=>by
  have:=mL h.t.rise G gz (Qf c Y);rw [ev] at this;exact this
 refine h.t.thin i x y z gx G gz λk a b d ha hb hd=>?_;have lk:k<m:=by rw [<-h.t.len x K];exact (Qd.mp ha).1
 have g:∀e,∃q,(zh (c::r) e)[k]? =some q:=λe=>⟨_,Qb (by rw [Yr h.t.len];exact lk)⟩;obtain ⟨pu,C⟩:=g u;obtain ⟨pw,A⟩:=g w;have l1:=ZK U (QE p) J h.t hcx T k a b pu (by rw [px];exact ha) (by rw [py];exact hb) C;have l2:=ZK (QE M) X I h.t (TN hc (QE p)) P k b d pw (by rw [py];exact hb) (by rw [pz];exact hd) A;have l3:=hl k pu pw b C A (by rw [py];exact hb);rw [ev];have O:=xQ p;have N:=xQ M;have nuw:w - u≠0:=xQ (xl p M);have e1:((b - a)*(v - u) - (b - pu)*(v - x.1))*1=0:=by grind
 have e2:(pw - b)*(v - u)=(b - pu)*(w - v):=by grind
 have e3:((d - b)*(w - v) - (pw - b)*(z.1 - v))=0:=by grind
 have e4:((d - b)*(v - u) - (b - pu)*(z.1 - v))*(w - v)=0:=by grind
 have e5:=zV e4 N;have e6:((b - a)*(z.1 - x.1) - (d - a)*(v - x.1))*(v - u)=0:=by grind
 have:=zV e6 O
 grind
noncomputable def YA (P:List zg) (k:Nat) (Q:List zg):List Rat:=(zZ Q).filterMap (xh P k)
noncomputable def wpF (P:List zg):Nat->List (List zg)->List Rat->List Rat
 |_,[],M=>M
 |k,Q::Qs,M=>wpF P (k+1) Qs (yA M (YA P k Q))
theorem tR (P Q:List zg):∀(Qs:List (List zg)) (k:Nat) (M:List Rat),wpF P k (Qs++[Q]) M=yA (wpF P k Qs M) (YA P (k+Qs.length) Q)
 |[],k,M=>by rw [jaK,wpF,wpF,wpF];rfl
 |Q'::Qs,k,M=>by rw [TK,wpF,wpF,tR P Q Qs (k+1),Qy];congr 2;omega
theorem bL  :∀{Qs:List (List zg)} {k:Nat} {M:List Rat},e∈wpF P k Qs M↔e∈M\/∃(j:Nat) (Q:List zg),Qs[j]? =some Q/\e∈YA P (k+j) Q
 |[],k,M=>by
  rw [wpF];exact ⟨.inl,λh=>h.elim id λ⟨j,Q,h,_⟩=>by simp at h⟩
 |Q::Qs,k,M=>by
  rw [wpF,bL,YD]
  constructor
  ·rintro ((h|h)|⟨j,Q',h1,h2⟩)
   ·exact .inl h
   ·exact .inr ⟨0,Q,rfl,h⟩
   ·exact .inr ⟨j+1,Q',by simpa using h1,by rw [show k+(j+1)=k+1+j by omega];exact h2⟩
  ·rintro (h|⟨j,Q',h1,h2⟩)
   ·exact .inl (.inl h)
   ·cases j with
    |zero=>cases h1;exact .inl (.inr h2)
    |succ j=>exact .inr ⟨j,Q',by simpa using h1,by rw [show k+1+j=k+(j+1) by omega];exact h2⟩
theorem uj:∀{Qs:List (List zg)} {k:Nat} {M:List Rat},UH M->(∀(j:Nat) (Q:List zg),Qs[j]? =some Q->UH (YA P (k+j) Q))->UH (wpF P k Qs M)
 |[],_,_,h,_=>by rw [wpF];exact h
 |Q::Qs,k,M,h,g=>by
  rw [wpF];exact uj (VB h (g 0 Q rfl)) λj p m=>by rw [show k+1+j=k+(j+1) by omega];exact g (j+1) p ‹m›
structure Nest (P:List zg) (Qs:List (List zg)):Prop where
 pm:PathM Qs.length P
 p0:∃r,P=(0,List.replicate Qs.length 0)::r
 q:∀(k:Nat) (Q:List zg),Qs[k]? =some Q->∃(m:Nat) (r:List zg),Q=((0:Rat),List.replicate m 0)::r/\PathM m Q/\(lastC P).2[k]? =some (lastC Q).1
section
variable {P:List zg} {Qs:List (List zg)}
def Nest.wid (h:Nest P Qs):∀Q∈Qs,Wid Q:=λQ p=>by
 obtain ⟨k,g⟩:=Qw.mp p;obtain ⟨m,r,rfl,pm,_⟩:=h.q k Q g;exact ⟨m,_,r,rfl,pm.t.len⟩
def Nest.plen (h:Nest P Qs) (e:Rat):(zh P e).length=Qs.length:=by
 obtain ⟨r,rfl⟩:=h.p0;exact Yr h.pm.t.len
def Nest.get (h:Nest P Qs) (e:Rat) {k:Nat} {Q:List zg} (g:Qs[k]? =some Q):∃p,(zh P e)[k]? =some p:=
 ⟨_,Qb (by rw [h.plen];exact (Qd.mp g).1)⟩
def Nest.mono (h:Nest P Qs) (h0:0<=u) (g:u<=v):LeV (zh P u) (zh P v):=by
 obtain ⟨r,rfl⟩:=h.p0;exact ZJ g h.pm h0
def Nest.range (h:Nest P Qs) {e p:Rat} {k:Nat} {Q:List zg} (h0:0<=e) (w:e<=(lastC P).1) (s:Qs[k]? =some Q) (hp:(zh P e)[k]? =some p):0<=p/\p<=(lastC Q).1:=by
 obtain ⟨m,z,C,A,u⟩:=h.q k Q s;have g:=h.mono QR h0;have m2:=h.mono h0 w;obtain ⟨r,y⟩:=h.p0;subst y;have e0:zh ((0,List.replicate Qs.length 0)::r) 0=List.replicate Qs.length 0:=ZL h.pm.t;rw [e0] at g;rw [gA h.pm.t] at m2;refine ⟨g k 0 p ?_ hp,m2 k p _ hp u⟩;rw [QU,QJ (Qd.mp s).1]
def Nest.reach (h:Nest P Qs)  (X:Qs[k]? =some Q) (hL:0<=L) (hr:xh P k L=some e):
 (0<=e/\e<(lastC P).1)/\(zh P e)[k]? =some L/\∀m q,e<m->(zh P m)[k]? =some q->L<q:=by
 have M:k<Qs.length:=(Qd.mp X).1;obtain ⟨r,eP⟩:=h.p0;have pm:=h.pm;have mon:=λ(u v:Rat) (a:0<=u) (b:u<=v)=>h.mono a b;have plen:=h.plen;rw [eP] at hr pm mon plen⊢
 obtain ⟨i,a,b,x,y,g1,g2,g3,A,T,hLy,ee,K,z,et,ep⟩:=Uy M pm (by
  rw [Qk,QU,QJ M];exact hL) hr
 have C:=Qc g1;have w:=Qc g2;have D:(0:Rat)<=a.1:=eI pm.t a C;have Y:=(au pm.t).2 b w;have O:x<y:=by grind
 have eL:xU ((L - x) / (y - x)) x y=L:=by
  have l:=xi (x:=x) (y:=y) (E:=L) O;have:=zV (a:=xU ((L - x) / (y - x)) x y - L) (b:=y - x) (by grind) (xQ O)
  grind
 have G:(zh ((0,List.replicate Qs.length 0)::r) e)[k]? =some L:=by
  rw [ep,Qt,g3,A];show some (xU _ x y)=_;rw [eL]
 refine ⟨⟨TN D K,by grind⟩,G,λm q Rv I=>?_⟩;have N:a.1<b.1:=by grind
 have no:∀s∈r,¬(a.1<s.1/\s.1<b.1):=λs U=>mL pm.t.rise g1 g2 (Qf _ U)
 have key:∀g p,e<g->g<=b.1->(zh ((0,List.replicate Qs.length 0)::r) g)[k]? =some p->L<p:=by
  intro g p h1 J h3;have l1:=ZK (QE (by grind:a.1<g)) J N pm.t D no k x y p (by rw [yg pm.t C];exact g3) (by rw [yg pm.t w];exact A) h3;have l2:=ZK K (QE z) N pm.t D no k x y L (by rw [yg pm.t C];exact g3) (by rw [yg pm.t w];exact A) G;refine jaq.mp λhle=>?_;have p1:0<(y - x)*(g - e):=jbA (by grind) (by grind);have p2:0<=(L - p)*(b.1 - a.1):=QX (by grind) (by grind)
  grind
 by_cases Z:m<=b.1
 ·exact key m q Rv Z I
 ·have h1:=key b.1 y z QR (by rw [yg pm.t w];exact A);have J:=mon b.1 m (by grind) (by grind) k y q (by rw [yg pm.t w];exact A) I
  grind
def Nest.reach_none (h:Nest P Qs)  (p:Qs[k]? =some Q) (t:0<=L) (hr:xh P k L=none):(lastC Q).1<=L:=by
 have s:k<Qs.length:=(Qd.mp p).1;obtain ⟨m,w,z,y,g⟩:=h.q k Q p;obtain ⟨r,u⟩:=h.p0;have pm:=h.pm;rw [u] at hr pm g;have:=fV s pm (by rw [Qk,QU,QJ s];exact t) hr;rw [Qk,g] at this;exact this
def Nest.qpos (h:Nest P Qs) {k:Nat} {Q:List zg} (r:Qs[k]? =some Q):∀c∈Q,0<=c.1/\c.1<=(lastC Q).1:=λc p=>by
 obtain ⟨m,u,s,g,w⟩:=h.q k Q r;subst s;exact ⟨eI g.t c p,(au g.t).2 c p⟩
noncomputable def wpV (P:List zg) (Qs:List (List zg)):List Rat:=wpF P 0 Qs (zZ P)
noncomputable def yw (P:List zg) (Qs:List (List zg)):List zg:=(wpV P Qs).map λe=>(e,yT Qs (zh P e))
def Nest.rise (h:Nest P Qs):UH (wpV P Qs):=by
 refine uj (Wl h.pm.t.rise) λk Q g=>?_;rw [jbo];obtain ⟨m,z,C,s,A⟩:=h.q k Q g;have hr:=Wl s.t.rise;unfold UH YA;rw [List.pairwise_filterMap];unfold UH at hr;refine hr.imp_of_mem λ{L L'} hL hL' MF e he e' Rv=>?_;obtain ⟨c,u,rfl⟩:=Qj.mp hL;obtain ⟨w,y,rfl⟩:=Qj.mp hL';have r:=h.reach g (h.qpos g c u).1 he;have p:=h.reach g (h.qpos g w y).1 Rv;refine jaq.mp λhle=>?_;have:=h.mono p.1.1 hle k _ _ p.2.1 r.2.1
 grind
def Nest.mem (h:Nest P Qs):e∈wpV P Qs↔(∃c∈P,c.1=e)\/∃(k:Nat) (Q:List zg),Qs[k]? =some Q/\∃c∈Q,xh P k c.1=some e:=by
 unfold wpV;rw [bL]
 constructor
 ·rintro (h1|⟨j,Q,h1,h2⟩)
  ·obtain ⟨c,g,rfl⟩:=Qj.mp h1;exact .inl ⟨c,g,rfl⟩
  ·rw [jbo] at h2;unfold YA at h2;obtain ⟨L,m,hr⟩:=jbU.mp h2;obtain ⟨c,g,rfl⟩:=Qj.mp m;exact .inr ⟨j,Q,h1,c,g,hr⟩
 ·rintro (⟨c,g,rfl⟩|⟨k,Q,h1,c,g,hr⟩)
  ·exact .inl (Qj.mpr ⟨c,g,rfl⟩)
  ·refine .inr ⟨k,Q,h1,?_⟩;rw [jbo];exact jbU.mpr ⟨c.1,Qj.mpr ⟨c,g,rfl⟩,hr⟩
def Nest.in_range (h:Nest P Qs) {e:Rat} (he:e∈wpV P Qs):0<=e/\e<=(lastC P).1:=by
 rcases h.mem.mp he with ⟨c,g,rfl⟩|⟨k,Q,m,c,g,hr⟩
 ·have pm:=h.pm;obtain ⟨r,p⟩:=h.p0;subst p;exact ⟨eI pm.t c g,(au pm.t).2 c g⟩
 ·have:=(h.reach m (h.qpos m c g).1 hr).1;exact ⟨this.1,QE this.2⟩
def Nest.no_level (h:Nest P Qs) {j k:Nat} {u v p q:Rat} {Q:List zg} (t:(wpV P Qs)[j]? =some u) (s:(wpV P Qs)[j+1]? =some v) (g:Qs[k]? =some Q) (hp:(zh P u)[k]? =some p) (w:(zh P v)[k]? =some q):
 ∀x∈Q,¬(p<x.1/\x.1<q):=by
 rintro x r ⟨A,z⟩
 have ru:=h.in_range (Qc t);have m:=h.in_range (Qc s);have y:=(h.qpos g x r).1
 cases hr:xh P k x.1 with
 |none=>
  have:=h.reach_none g y hr;have:=(h.range m.1 m.2 g w).2
  grind
 |some e=>
  have re:=h.reach g y hr;have me:e∈wpV P Qs:=h.mem.mpr (.inr ⟨k,Q,g,x,r,hr⟩);refine gH h.rise t s me ⟨jaq.mp λhle=>?_,jaq.mp λhle=>?_⟩
  ·have:=h.mono re.1.1 hle k _ _ re.2.1 hp
   grind
  ·have:=h.mono m.1 hle k _ _ w re.2.1
   grind
def fU (q:UH M)  (p:M[j]? =some u) (m:M[j+1]? =some v):u<v:=by
 obtain ⟨g,r⟩:=Qd.mp p;obtain ⟨lv,ev⟩:=Qd.mp m;have:=QP.mp q j (j+1) g lv ⋯;rw [r,ev] at this;exact this
def Nest.pgap (h:Nest P Qs)  (p:(wpV P Qs)[j]? =some u) (m:(wpV P Qs)[j+1]? =some v):∀x∈P,¬(u<x.1/\x.1<v):=λx g=>
 gH h.rise p m (h.mem.mpr (.inl ⟨x,g,rfl⟩))
def Nest.line (h:Nest P Qs) {j:Nat} {u v E:Rat} (A:(wpV P Qs)[j]? =some u) (w:(wpV P Qs)[j+1]? =some v) (L:u<=E) (M:E<=v):
 Ab (yT Qs (zh P u)) (yT Qs (zh P v)) (yT Qs (zh P E)) (E - u) (v - u):=by
 have MT:=fU h.rise A w;have ru:=h.in_range (Qc A);have rv:=h.in_range (Qc w);rw [mU (h.plen u) (h.plen v) (h.plen E) h.wid];intro k Q p q r K hp C hr
 have lP:(r - p)*(v - u)=(q - p)*(E - u):=by
  have gap:=h.pgap A w;obtain ⟨rP,Z⟩:=h.p0;have pm:=h.pm;rw [Z] at hp C hr pm gap;exact ZK L M MT pm.t ru.1 (λx g=>gap x (Qf _ g)) k p q r hp C hr
 have I:=h.mono ru.1 L k p r hp hr;have G:=h.mono (TN ru.1 L) M k r q hr C;have lev:=h.no_level A w K hp C;have O:=h.range ru.1 ru.2 K hp;obtain ⟨m,rq,Y,T,_⟩:=h.q k Q K;subst Y;intro i x y z g D hz
 by_cases J:p=q
 ·have:r=p:=by grind
  subst this;subst J;rw [g] at D hz;cases D;cases hz
  grind
 ·have N:p<q:=by grind
  have lQ:=ZK I G N T.t O.1 (λs X=>lev s (Qf _ X)) i x y z g D hz;have U:((z - x)*(v - u) - (y - x)*(E - u))*(q - p)=0:=by grind
  have:=zV U (xQ N)
  grind
def Nest.qsum (h:Nest P Qs) {e:Rat} (h0:0<=e) (t:e<=(lastC P).1) {k:Nat} {Q:List zg} {p:Rat} (r:Qs[k]? =some Q) (hp:(zh P e)[k]? =some p):zM (zh Q p)=p:=by
 have g:=h.range h0 t r hp;obtain ⟨m,w,u,s,_⟩:=h.q k Q r;subst u;exact bI s g.1 g.2
def Nest.sum (h:Nest P Qs) {e:Rat} (h0:0<=e) (g:e<=(lastC P).1):zM (yT Qs (zh P e))=e:=by
 rw [tX (h.plen e) λk Q p m hp=>h.qsum h0 g m hp];have pm:=h.pm;obtain ⟨r,q⟩:=h.p0;rw [q] at pm g⊢;exact bI pm h0 g
def Nest.rises (h:Nest P Qs) {u v:Rat} (h0:0<=u) (s:u<=v) (z:v<=(lastC P).1):LeV (yT Qs (zh P u)) (yT Qs (zh P v)):=by
 refine Dw (h.plen u) (h.plen v) h.wid λk Q p q r hp y=>?_;have g:=h.mono h0 s k p q hp y;have t:=h.range h0 (TN s z) r hp;obtain ⟨m,C,A,w,_⟩:=h.q k Q r;subst A;exact ZJ g w t.1
def Nest.thin (h:Nest P Qs) {j:Nat} {u v w:Rat} (D:(wpV P Qs)[j]? =some u) (z:(wpV P Qs)[j+1]? =some v) (hw:(wpV P Qs)[j+2]? =some w)
 (L:Ab (yT Qs (zh P u)) (yT Qs (zh P w)) (yT Qs (zh P v)) (v - u) (w - u)):False:=by
 have N:=fU h.rise D z;have M:=fU h.rise z hw;have ru:=h.in_range (Qc D);have O:=h.in_range (Qc z);have A:=h.in_range (Qc hw);rw [mU (h.plen u) (h.plen w) (h.plen v) h.wid] at L
 have each:∀(k:Nat) (Q:List zg) (p q r:Rat),Qs[k]? =some Q->(zh P u)[k]? =some p->(zh P w)[k]? =some q->(zh P v)[k]? =some r->(r - p)*(w - u)=(q - p)*(v - u):=by
  intro k Q p q r g hp s hr;have wd:=h.wid Q (Qc g);have:=uD (wd.len _ _) (wd.len _ _) (L k Q p q r g hp s hr);rw [h.qsum ru.1 ru.2 g hp,h.qsum A.1 A.2 g s,h.qsum O.1 O.2 g hr] at this;exact this
 rcases h.mem.mp (Qc z) with ⟨y,C,ey⟩|⟨k,Q,g,y,C,hr⟩
 ·have g1:=h.pgap D z;have g2:=h.pgap z hw;have pl:=λe=>h.plen e
  have t:Ab (zh P u) (zh P w) (zh P v) (v - u) (w - u):=λk p q r hp s hr=>by
   have lk:k<Qs.length:=by rw [<-h.plen u];exact (Qd.mp hp).1
   exact each k _ p q r (Qb lk) hp s hr
  obtain ⟨r,eP⟩:=h.p0;have pm:=h.pm;rw [eP] at g1 g2 t pm C A;exact bend pm C ey N M ru.1 A.2 g1 g2 t
 ·have re:=h.reach g (h.qpos g y C).1 hr;obtain ⟨p,hp⟩:=h.get u g;obtain ⟨q,s⟩:=h.get w g;have e1:=each k Q p q y.1 g hp s re.2.1;have Oy:=re.2.2 w q M s;have K:=h.mono ru.1 (QE N) k p y.1 hp re.2.1
  have J:p<y.1:=by
   refine jaq.mp λhle=>?_;have e:p=y.1:=jaL K hle;have p1:0<(q - p)*(v - u):=jbA (by grind) (by grind)
   grind
  have I:=h.no_level D z g hp re.2.1;have G:=h.no_level z hw g re.2.1 s;have t:=L k Q p q y.1 g hp s re.2.1;have U:=h.range ru.1 ru.2 g hp;have T:=h.range A.1 A.2 g s;obtain ⟨m,r,eQ,X,_⟩:=h.q k Q g;subst eQ;refine bend X C rfl J Oy U.1 T.2 I G λi a b c ha hb Z=>?_;have l0:=t i a b c ha hb Z;have Y:((c - a)*(q - p) - (b - a)*(y.1 - p))*(w - u)=0:=by grind
  have:=zV Y (xQ (xl N M))
  grind
end
end S
namespace S
open PySem PySem.Spec PyProof.Rows PyProof L2
section
variable {X:Cx}
def gO (l:Addr) (items:Array Value) (n:Nat) (b:Addr) (p:Obj) (m:Array Value) (t:Nat) (r:p.cls= .type "tuple") (hd2:p.data= .seq m t) (u:¬(!items.isEmpty && Builtin.List.listTooLong (items.size+m.size))=true) (C:items.size<=sizeLine) (D:items.size+m.size<=sizeLine+1):
 Meets (Builtin.«list.extend» ⟨[.ref l, .ref b],[]⟩) (λ_ R s=>s.heap.get? l=some {cls:= .type "list",dict:=none,data:= .seq items n,slots:=#[]}/\s.heap.get? b=some p/\R (.ok (.ret Value.none)) {s with heap:=s.heap.update l (Obj.mapSeq λx=>x++m),toks:=s.toks}):=
 .of_wp λprog w A R s h=>by
  obtain ⟨cls,dict,data,slots⟩:=p;dsimp only at r hd2;subst r;subst hd2;have g1:=AutoSeq1.idx_int;have g2:=AutoSeq1.sub_tuple_tuple;have g3:=AutoSeq1.sub_list_list;have I:=AutoSeq1.sub_tuple_list;have G:=AutoSeq1.sub_list_tuple;obtain ⟨hp,g,d,tk,os⟩:=s;obtain ⟨q,y,z⟩:=h;have fits:(items++m).size<=sizeLine+1:=by simpa using D
  wp_walk using (wpAny_updateSeq q rfl (hz:=C) (_hz':=fits)),AutoSeq1.wpAny_loadPart' q,AutoSeq1.wpAny_loadPart' y
  exact ⟨_,rfl,z⟩
def ur (K:Frg):V->List V->Hp->VK->Prop:=λx vs H Q=>∃l b xs zs,x= .ref l/\vs=[.ref b]/\H l=some (.lst xs)/\H b=some (.tup zs)/\xs.length+zs.length<=sizeLine/\Q .non (upd H l (.lst (xs++zs)))
def Lv:MtM X "list.extend" (ur X.K):=by
 intro pins s σ H x vs v us Q I rx rv h;obtain ⟨l,b,xs,zs,rfl,rfl,t,C,hz,q⟩:=h;cases rx;obtain ⟨u,D,ru⟩:=rv.one;subst D;cases ru;obtain ⟨z,its,n,r,p,e⟩:=I.lstM t;obtain ⟨g,m,ht,A⟩:=I.tuple (SqT.of C);have L:=m.length;obtain ⟨w,G,J,y,hd2⟩:=ht
 have room:its.toArray.size+g.toArray.size<=sizeLine:=by
  rw [QI,QI,<-p,<-L];exact hz
 have ok:¬(!its.toArray.isEmpty && Builtin.List.listTooLong (its.toArray.size+g.toArray.size))=true:=by
  rw [mK room,Bool.and_false];decide
 refine call_meets F.slot_list_extend ⟨_,e,rfl⟩ F.entry_list_extend (F.args_list_extend_2 _ _) (gO l its.toArray n b w g.toArray y J hd2 ok (by rw [QI,<-p];exact z) ⋯) ⟨e,G, .non,_,I.lset (its':=its++g) t e (by simp) (r.append m) ?_,rfl,q⟩
 simpa using hz
end
section
variable {B G0 H:Hp} {cs:yq} {ds:Dat} {Q:VK} {v w:V} {xs zs:List PyData} {K:Frg} {L M:Addr}
def wg (S:Sta B G0 H ((L,xs)::cs) ds) (g:Has ds (.tuple ys) w) (hz:xs.length+ys.length<=1000) (k:∀H',Sta B G0 H' ((L,xs++ys)::cs) ds->Q .non H'):ur K (.ref L) [w] H Q:=by
 obtain ⟨p,us,e,hp,r,t,al⟩:=S.tupAll g;obtain ⟨vs,s,u,put⟩:=t.put;subst e;refine ⟨L,p,vs,us,rfl,rfl,s,hp,?_,k _ ((put (xs++ys) (vs++us) λG a b=>b.app (al G a)).weak (jbl _) λq m=> .mem (QF _ m))⟩;rw [<-r,<-u];exact QL hz (jbd rfl)
end
end S
namespace S
open PySem PySem.Spec PyProof.Rows L2
theorem nq:∀{M:List Rat} {z:Rat},M[0]? =some z->z<=E->∃(i:Nat) (q:Rat),M[i]? =some q/\q<=E/\(i+1=M.length\/∃r,M[i+1]? =some r/\E<r)
 |[],z,h,_=>by simp at h
 |[a],z,h,hz=>by
  cases h;exact ⟨0,a,rfl,hz, .inl rfl⟩
 |a::b::M,z,h,hz=>by
  cases h
  by_cases m:b<=E
  ·obtain ⟨i,q,t,s,g⟩:=nq (M:=b::M) (z:=b) rfl m;refine ⟨i+1,q,by simpa using t,s,?_⟩
   rcases g with g|⟨r,g,p⟩
   ·left;simp only [Qy] at g⊢;omega
   ·right;exact ⟨r,by simpa using g,p⟩
  ·exact ⟨0,a,rfl,hz, .inr ⟨b,rfl,jaq.mp m⟩⟩
def vW (h:UH M) (hz:z∈M) (hle:∀e∈M,z<=e):M[0]? =some z:=by
 cases M with
 |nil=>simp at hz
 |cons a M=>
  have g:=hle a (Qe ..)
  rcases Ql.mp hz with e|e
  ·rw [e];rfl
  ·have:=(Qn.mp h).1 z e
   grind
def oY (h:UH M) (hz:z∈M) (hle:∀e∈M,e<=z)  (g:M[i]? =some q) (s:i+1=M.length):q=z:=by
 obtain ⟨j,r,m⟩:=QS hz;obtain ⟨li,p⟩:=Qd.mp g;have t:=hle q (Qc g)
 by_cases c:j=i
 ·subst c;rw [<-p,<-m]
 ·have:=QP.mp h j i r li ⋯;rw [m,p] at this
  grind
def UE  (q:c.1<d.1) (t:c.2.length=d.2.length) (s:c.2.length=w.length) (h:Ab c.2 d.2 w (E - c.1) (d.1 - c.1)):XS c d E=w:=by
 apply Tf
 intro i
 by_cases r:i<c.2.length
 ·have p:=Qb r;have m:=Qb (l:=d.2) (i:=i) ⋯;have g:=Qb (l:=w) (i:=i) ⋯;have:=h i _ _ _ p m g;unfold XS;rw [Qt,p,m,g];show some (xU _ _ _)=_;have l:=xi (x:=c.2[i]) (y:=d.2[i]) (E:=E) q;have k:=zV (a:=xU ((E - c.1) / (d.1 - c.1)) c.2[i] d.2[i] - w[i]) (b:=d.1 - c.1) (by grind) (xQ q);have:xU ((E - c.1) / (d.1 - c.1)) c.2[i] d.2[i]=w[i]:=by grind
  rw [this]
 ·unfold XS;rw [QG (by rw [QC];omega),QG ⋯]
noncomputable def DN:List zg->Nat
 |[]=>0
 |c::_=>c.2.length
noncomputable def nQ:List (List zg)->Nat
 |[]=>0
 |Q::Qs=>DN Q+nQ Qs
theorem gZ:∀{Qs:List (List zg)},(∀Q∈Qs,∃(m:Nat) (r:List zg),Q=((0:Rat),List.replicate m 0)::r/\PathM m Q)->yT Qs (List.replicate Qs.length 0)=List.replicate (nQ Qs) 0
 |[],_=>rfl
 |Q::Qs,h=>by
  obtain ⟨m,r,e,pm⟩:=h Q (Qe ..);rw [Qy,Tu,xv,gZ λp g=>h p (Qf _ g),nQ,<-List.replicate_append_replicate]
  congr 1
  subst e;have:=ZL pm.t;dsimp only at this;rw [this,DN,QD]
structure PathR0 (n:Nat) (a:List zg):Prop where
 ne:a≠[]
 sz:∀c∈a,SzC n c
 len:∀c∈a,c.2.length<=1000
 few:a.length<=900
 rise:yu a
section
variable {P:List zg} {Qs:List (List zg)}
def Nest.zeroM (h:Nest P Qs):(wpV P Qs)[0]? =some 0:=by
 refine vW h.rise (h.mem.mpr (.inl ?_)) λe he=>(h.in_range he).1;obtain ⟨r,g⟩:=h.p0;rw [g];exact ⟨_,Qe ..,rfl⟩
def Nest.last_mem (h:Nest P Qs):(lastC P).1∈wpV P Qs:=by
 refine h.mem.mpr (.inl ⟨lastC P,?_,rfl⟩);have pm:=h.pm;obtain ⟨r,g⟩:=h.p0;rw [g] at pm⊢;exact (au pm.t).1
def Nest.flen (h:Nest P Qs) (e:Rat):(yT Qs (zh P e)).length=nQ Qs:=by
 rw [uH (h.plen e) (pv:=List.replicate Qs.length 0) QD h.wid,gZ λQ p=>?_,QD];obtain ⟨k,g⟩:=Qw.mp p;obtain ⟨m,r,e,pm,_⟩:=h.q k Q g;exact ⟨m,r,e,pm⟩
def Nest.flat0 (h:Nest P Qs):yT Qs (zh P 0)=List.replicate (nQ Qs) 0:=by
 have e0:zh P 0=List.replicate Qs.length 0:=by
  have pm:=h.pm;obtain ⟨r,s⟩:=h.p0;rw [s] at pm⊢;exact ZL pm.t
 rw [e0,gZ λQ p=>?_];obtain ⟨k,g⟩:=Qw.mp p;obtain ⟨m,r,e,pm,_⟩:=h.q k Q g;exact ⟨m,r,e,pm⟩
def Nest.F_at {i:Nat} {c:zg} (g:(yw P Qs)[i]? =some c):(wpV P Qs)[i]? =some c.1/\c.2=yT Qs (zh P c.1):=by
 unfold yw at g;obtain ⟨e,he,rfl⟩:=zK g;exact ⟨he,rfl⟩
def Nest.F_of {i:Nat} {e:Rat} (he:(wpV P Qs)[i]? =some e):(yw P Qs)[i]? =some (e,yT Qs (zh P e)):=by
 unfold yw;rw [Qh,he];rfl
def Nest.riseF (h:Nest P Qs):yu (yw P Qs):=by
 unfold yu yw;rw [Tj];exact h.rise
def Nest.at (h:Nest P Qs) {E:Rat} (h0:0<=E) (s:E<=(lastC P).1):zh (yw P Qs) E=yT Qs (zh P E):=by
 obtain ⟨i,q,m,g,nx⟩:=nq h.zeroM h0;have hlen:(yw P Qs).length=(wpV P Qs).length:=by unfold yw;rw [Qa]
 have key:=Zp (E:=E) h.riseF (Nest.F_of m) g (by
  rcases nx with nx|⟨r,hr,p⟩
  ·left;rw [hlen];exact nx
  ·right;exact ⟨_,Nest.F_of hr,p⟩)
 rw [key]
 rcases nx with nx|⟨r,hr,p⟩
 ·rw [QG (by rw [hlen];omega)];have t:=oY h.rise h.last_mem (λe he=>(h.in_range he).2) m nx;have:q=E:=by grind
  rw [this]
 ·rw [Nest.F_of hr];exact UE (fU h.rise m hr) (by rw [h.flen,h.flen]) (by rw [h.flen,h.flen]) (h.line m hr g (QE p))
def Nest.getLast (h:Nest P Qs):(yw P Qs).getLast? =some ((lastC P).1,yT Qs (zh P (lastC P).1)):=by
 have ne:0<(wpV P Qs).length:=jaW h.last_mem;have hlen:(yw P Qs).length=(wpV P Qs).length:=by unfold yw;rw [Qa]
 rw [jay,hlen];have g:=Qb (l:=wpV P Qs) (i:=(wpV P Qs).length - 1) ⋯;rw [Nest.F_of g,oY h.rise h.last_mem (λe he=>(h.in_range he).2) g ⋯]
def SzQ.mix  (ht:SzQ m t) (g:SzQ n x) (p:SzQ n y):SzQ (m+3*n+2) (xU t x y):=by
 unfold xU;exact (g.add (ht.mul (p.sub g))).mono ⋯
def SzQ.port  (q:SzQ m L) (g:SzQ n x) (p:SzQ n y):SzQ (m+3*n+2) ((L - x) / (y - x)):=((q.sub g).div (p.sub g)).mono ⋯
theorem pO  (he:SzQ m e):∀{a:List zg},(∀c∈a,SzC n c)->∀x∈zh a e,SzQ (m+6*n+4) x
 |[],_,x,hx=>by simp [zh] at hx
 |[c],h,x,hx=>((h c (Qe ..)).2 x hx).mono ⋯
 |c::d::r,h,x,hx=>by
  rw [zh] at hx
  split at hx
  ·obtain ⟨i,t⟩:=Qw.mp hx;obtain ⟨p,q,hp,s,rfl⟩:=Ym t;have g:=h c (Qe ..);have hd:=h d (Qf _ (Qe ..));exact (SzQ.mix (SzQ.port he g.1 hd.1) (g.2 p (Qc hp)) (hd.2 q (Qc s))).mono ⋯
  ·exact pO he (λc g=>h c (Qf _ g)) x hx
end
def lz  (G:b.1<c.1) (r:b.2.length=m) (lc:c.2.length=m) (w:zR b p c) (u:zR a b c):zR a b p:=λi A B P t g s=>by
 have I:i<m:=by rw [<-r];exact (Qd.mp g).1
 have q:=Qb (l:=c.2) (i:=i) ⋯;have D:=w i B P _ g s q;have J:=u i A B _ t g q;generalize c.2[i]=C at*;have z:(B - A)*(c.1 - b.1)=(C - B)*(b.1 - a.1):=by grind
 have y:((B - A)*(p.1 - a.1) - (P - A)*(b.1 - a.1))*(c.1 - b.1)=0:=by
  have:((B - A)*(p.1 - a.1) - (P - A)*(b.1 - a.1))*(c.1 - b.1)=((B - A)*(c.1 - b.1))*(p.1 - b.1) - ((P - B)*(c.1 - b.1))*(b.1 - a.1):=by grind
  rw [this,z,D];grind
 have:=zV y (xQ G)
 grind
def Thn (F:List zg):Prop:=∀(i:Nat) (x y z:zg),F[i]? =some x->F[i+1]? =some y->F[i+2]? =some z->¬zR x y z
section
variable {C F G D:List zg} {c x y:zg} {m:Nat}
end
end S
namespace S
open PySem
def Ris (xs:Array Nat):Prop:=xs.toList.Pairwise (·<·)
def Ris.lt {xs:Array Nat} (h:Ris xs) {i k a b:Nat} (g:i<k) (ha:xs[i]? =some a) (q:xs[k]? =some b):a<b:=by
 have t:xs.toList[i]? =some a:=by simpa using ha
 have u:xs.toList[k]? =some b:=by simpa using q
 obtain ⟨p,s⟩:=Qd.mp t;obtain ⟨m,r⟩:=Qd.mp u;have:=QP.mp h i k p m g;rw [s,r] at this;exact this
theorem nD {xs:Array Nat} {j:Nat} (h:Ris xs):∀(fuel lo g:Nat),g - lo<=fuel->lo<=g->g<=xs.size->(∀k a,k<lo->xs[k]? =some a->a<j)->(∀k a,g<=k->xs[k]? =some a->j<=a)->
 SetTable.below.go xs j fuel lo g<=xs.size/\(∀k a,k<SetTable.below.go xs j fuel lo g->xs[k]? =some a->a<j)/\(∀k a,SetTable.below.go xs j fuel lo g<=k->xs[k]? =some a->j<=a)
 |0,lo,g,hf,t,m,q,p=>by
  rw [SetTable.below.go];have e:lo=g:=⋯
  subst e;exact ⟨m,q,p⟩
 |fuel+1,lo,g,hf,t,m,q,p=>by
  rw [SetTable.below.go]
  by_cases c:lo<g
  ·rw [QJ c];dsimp only;have hm:(lo+g) / 2<xs.size:=⋯
   have em:xs[(lo+g) / 2]? =some xs[(lo+g) / 2]:=by simp [hm]
   have w:xs.getD ((lo+g) / 2) j=xs[(lo+g) / 2]:=by simp [Array.getD,hm]
   rw [w]
   by_cases s:xs[(lo+g) / 2]<j
   ·rw [QJ s];refine nD h fuel _ g ⋯ ⋯ m (λk a u ha=>?_) p
    by_cases r:k=(lo+g) / 2
    ·subst r;rw [em] at ha;cases ha;exact s
    ·have:=h.lt (show k<(lo+g) / 2 by omega) ha em;omega
   ·rw [QO s];refine nD h fuel lo _ ⋯ ⋯ ⋯ q λk a u ha=>?_
    by_cases r:k=(lo+g) / 2
    ·subst r;rw [em] at ha;cases ha;omega
    ·have:=h.lt (show (lo+g) / 2<k by omega) em ha;omega
  ·rw [QO c];have e:lo=g:=⋯
   subst e;exact ⟨m,q,p⟩
def VO (h:Ris xs) (j:Nat):SetTable.below xs j<=xs.size/\(∀k a,k<SetTable.below xs j->xs[k]? =some a->a<j)/\(∀k a,SetTable.below xs j<=k->xs[k]? =some a->j<=a):=
 nD h _ 0 xs.size ⋯ (TR _) (Qu _) (λk a g=>absurd g (Nat.not_lt_zero _)) λk a g ha=>by
  have:k<xs.size:=by
   have:=jas.mp ha;exact this.1
  omega
def Aj (h:Ris xs) (t:∀a∈xs.toList,a≠j):Ris (SetTable.insertAt xs (SetTable.below xs j) j):=by
 obtain ⟨A,w,u⟩:=VO h j;unfold Ris;rw [SetTable.toList_insertAt]
 have m:∀a∈xs.toList.take (SetTable.below xs j),a<j:=λa ha=>by
  obtain ⟨i,g⟩:=Qw.mp ha;rw [List.getElem?_take] at g
  split at g
  ·rename_i z;exact w i a z ‹g›
  ·cases g
 have y:∀a∈xs.toList.drop (SetTable.below xs j),j<a:=λa ha=>by
  obtain ⟨i,g⟩:=Qw.mp ha;rw [jaj] at g;have:=u _ a (Nat.le_add_right _ i) ‹g›;have ne:=t a (List.mem_of_mem_drop ha);omega
 have h':=h;unfold Ris at h';rw [<-List.take_append_drop (SetTable.below xs j) xs.toList] at h';obtain ⟨s,r,q⟩:=TU.mp h';refine TU.mpr ⟨s,Qn.mpr ⟨y,r⟩,λa ha b p=>?_⟩
 rcases Ql.mp p with rfl|p
 ·exact m a ha
 ·exact q a ha b p
def By {t:SetTable} (h:Ris t.place) {j:Nat} (p:∀i,t.slot j≠ .live i):∀a∈t.place.toList,a≠j:=λa ha e=>by
 subst e;obtain ⟨i,q⟩:=Qw.mp ha;have g:t.place[i]? =some a:=by simpa using q
 obtain ⟨y,s,r⟩:=VO h a
 have e:SetTable.below t.place a=i:=by
  rcases Nat.lt_trichotomy (SetTable.below t.place a) i with c|c|c
  ·have m:t.place[SetTable.below t.place a]? =some (t.place[SetTable.below t.place a]'(by have:=(jas.mp g).1;omega)):=by simp
   have w:=h.lt c m g;have u:=r _ _ (Qu _) m;omega
  ·exact c
  ·have:=s i a c g;omega
 refine p i ?_;unfold SetTable.slot;dsimp only;rw [e,g]
 simp
theorem bH  :∀{fuel:Nat} {p:SetTable.Probe} {j:Nat} {d:Option Nat},(∀x,p.dummy=some x->∀i,t.slot x≠ .live i)->SetTable.probe.go t hashAt h fuel p=some (.empty j d)->(∀i,t.slot j≠ .live i)/\∀x,d=some x->∀i,t.slot x≠ .live i
 |0,p,j,d,_,e=>by rw [SetTable.probe.go] at e;cases e
 |fuel+1,p,j,d,hd,e=>by
  rw [SetTable.probe.go] at e
  cases hs:t.slot p.j with
  |empty=>
   rw [hs] at e;cases e;exact ⟨λi z=>(by rw [hs] at z;cases z),hd⟩
  |dummy=>
   rw [hs] at e;refine bH (fuel:=fuel) (λx g=>?_) e
   have:x=p.j:=by
    unfold SetTable.advance at g;dsimp only at g
    split at g<;>(cases g;rfl)
   subst this;intro i z;rw [hs] at z;cases z
  |live i=>
   rw [hs] at e;dsimp only at e
   split at e
   ·cases e
   ·refine bH (fuel:=fuel) (λx g=>hd x ?_) e;unfold SetTable.advance at g;dsimp only at g
    split at g<;>exact g
def DW {t:SetTable} {h:Int} {j:Nat} {b:Bool} (e:t.freeSlot h=some (j,b)):∀i,t.slot j≠ .live i:=by
 unfold SetTable.freeSlot SetTable.probe at e
 split at e
 ·rename_i p m hp;have:=bH (λx g=>by unfold SetTable.probeStart at g;cases g) hp
  cases m with
  |none=>cases e;exact this.1
  |some d=>cases e;exact this.2 d rfl
 ·cases e
def tG (b:Bool) (t:SetTable):Prop:=Ris t.place/\t.led=b
def Ct (n:Nat):Ris (Array.range n):=by
 unfold Ris;rw [Array.toList_range];exact List.pairwise_lt_range
def YN {b:Bool} {t:SetTable} (h:t.led=b) (n:Nat):tG b (t.standIn n):=⟨Ct n,h⟩
def sE {b:Bool} {t:SetTable} (g:tG b t) (es:Array (Int×Value)) (h:Int) (x:Value):tG b (layNew t es h x).2.1:=by
 unfold layNew
 split
 ·rename_i slot wd hf;dsimp only;unfold SetTable.orStandIn
  split
  ·exact ⟨Aj g.1 (By g.1 (DW hf)),g.2⟩
  ·exact YN g.2 _
 ·exact YN g.2 _
def GY {mask:Nat} {owner:Array (Option Nat)}:(((List.range (mask+1)).filterMap λj=>(owner.getD j none).map (j,·)).map (·.1)).Pairwise (·<·):=by
 rw [Tj,List.pairwise_filterMap];refine List.pairwise_lt_range.imp λ{i k} hik a ha b hb=>?_;obtain ⟨_,_,rfl⟩:=Option.map_eq_some_iff.mp ha;obtain ⟨_,_,rfl⟩:=Option.map_eq_some_iff.mp hb;exact hik
def my  (g:tG b t) (es:Array (Int×Value)) (wanted:Nat):tG b (relayAll t es wanted).2.1:=by
 unfold relayAll
 split
 ·rename_i t' order hr;dsimp only
  split
  ·unfold SetTable.relaid SetTable.laid at hr;obtain ⟨owner,_,hr⟩:=Option.bind_eq_some_iff.mp hr;cases hr;refine ⟨?_,g.2⟩;show (List.toArray _).toList.Pairwise _;exact GY
  ·exact YN g.2 _
 ·exact YN g.2 _
noncomputable def aL:Value->Int
 | .int n _=>n
 |_=>0
def jG (prog:Program) (w:World) (h:Heap) (a:Addr) (b:Bool) (ns:List Int):Prop:=
 ∃(o:Obj) (es:Array (Int×Value)) (ep:Nat) (t:SetTable),(h.get? a=some o/\o.ExactSet/\o.data= .set es ep t)/\ElemsOf (intKind prog w) es.toList/\(t.fits es.size=true/\tG b t)/\ns=es.toList.map (λe=>aL e.2)/\ns.Nodup
section
variable {prog:Program} {w:World} {A:Around} {E:Value->Shared->Prop} {s:Shared}
def Ia  (h:(intKind prog w).is k v=true):aL v=k:=by
 obtain ⟨t,ht⟩:=Value.isInt_shape h;rw [ht];rfl
def jG.kept   (T:jG prog w h a b ns) (k:∀o,h.get? a=some o->h'.get? a=some o):jG prog w h' a b ns:=by
 obtain ⟨o,es,ep,t,⟨g,ex,data⟩,rest⟩:=T;exact ⟨o,es,ep,t,⟨k o g,ex,data⟩,rest⟩
def Ih {h:Heap} {a:Addr} {o:Obj} {es es1:Array (Int×Value)} {ep:Nat} {t t1:SetTable} (g:h.get? a=some o) (data:o.data= .set es ep t):(h.update a (Obj.putSet es1 t1)).get? a=some {o with data:= .set es1 (ep+1) t1}:=by
 have z:=jaJ (Obj.putSet es1 t1) g (by rw [putSet_of es1 t1 data];rfl);rwa [putSet_of es1 t1 data] at z
def add_T {a:Addr} {b:Bool} {ns:List Int} {k:Int} {tk:Tok} {Q:Bool->Shared->Prop} (T:jG prog w s.heap a b ns) (few:ns.length<1000)
 (h:∀(r:Bool) (h':Heap) (m:List Int),Heap.SameBut a s.heap h'->jG prog w h' a b m->(∀x,x∈m↔x∈ns\/x=k)->m.length<=ns.length+1->Q r {s with heap:=h'}):
 wpAny (model prog w) A (setAddHashed a (.int k tk) ((intKind prog w).hash k)) Q E s:=by
 obtain ⟨o,es,ep,t,⟨K,ex,data⟩,elems,⟨fit,good⟩,rfl,nd⟩:=T;have sz:es.size=(es.toList.map λe=>aL e.2).length:=by simp
 have e4:scanBound=4096:=rfl;have bound:es.size<scanBound:=⋯
 have I:=intKind_is prog w k tk;unfold setAddHashed setAddHashedIn;refine jaY (Qg (jbG K data fit ?_));dsimp only;rw [byScan_of (knd:=intKind prog w) (x:= .int k tk) rfl bound elems,QJ rfl];unfold setAddByScan;refine Qg (Qg (jce (Qg (wpAny_setScan_of I K data fit elems ?_))))
 cases found:List.findIdx? (λe=>(intKind prog w).is k e.2) es.toList with
 |some j=>
  dsimp only;obtain ⟨hj,pj,_⟩:=List.findIdx?_eq_some_iff_getElem.mp found;have mem:k∈es.toList.map λe=>aL e.2:=Qj.mpr ⟨es.toList[j],Ta hj,Ia pj⟩;refine Qo (Qo ?_);exact h false s.heap _ (Heap.SameBut.refl a s.heap) ⟨o,es,ep,t,⟨K,ex,data⟩,elems,⟨fit,good⟩,rfl,nd⟩ (λx=>⟨.inl,λz=>z.elim id λe=>e▸mem⟩) (jat _)
 |none=>
  dsimp only
  have new:k∉es.toList.map λe=>aL e.2:=λz=>by
   obtain ⟨e,he,Z⟩:=Qj.mp z;obtain ⟨⟨k',Nv,_⟩,_⟩:=elems e he;have ek:k'=k:=(Ia Nv).symm.trans Z;subst ek;have:=List.findIdx?_eq_none_iff.mp found e he;rw [Nv] at this;cases this
  have perm:=layNew_perm t es ((intKind prog w).hash k) (.int k tk);have fits:=layNew_fits t es ((intKind prog w).hash k) (.int k tk);have N:=sE good es ((intKind prog w).hash k) (.int k tk);generalize layNew t es ((intKind prog w).hash k) (.int k tk)=L at perm fits N⊢;obtain ⟨es1,t1,wasDummy,gave⟩:=L;dsimp only at perm fits N⊢;rw [Array.toList_push] at perm;have p:ElemsOf (intKind prog w) es1.toList:=(elems.push I rfl).perm perm
  have pm:(es1.toList.map λe=>aL e.2).Perm ((es.toList.map λe=>aL e.2)++[k]):=by
   have:=perm.map λe=>aL e.2;rwa [QM] at this
  have SY:(es1.toList.map λe=>aL e.2).Nodup:=by
   refine (pm.nodup_iff).mpr (List.nodup_append.mpr ⟨nd,by simp,λx hx y hy=>?_⟩);rw [Qq.mp hy];exact λe=>new (e▸hx)
  have OV:=pm.length_eq;rw [QB,TL] at OV;have NS:es1.size=(es1.toList.map λe=>aL e.2).length:=by simp
  have D:es1.size<scanBound:=⋯
  have PQ:∀x,x∈(es1.toList.map λe=>aL e.2)↔x∈(es.toList.map λe=>aL e.2)\/x=k:=λx=>by
   rw [pm.mem_iff,QT,Qq]
  have g1:=Ih (es1:=es1) (t1:=t1) K data;have G:=jad s.heap a (Obj.putSet es1 t1);have J:=relayAll_perm t1 es1 (SetTable.grown es1.size);have Oj:=relayAll_fits t1 es1 (SetTable.grown es1.size);have good2:=my N es1 (SetTable.grown es1.size)
  have tail:∀{g:Bool->Sem Unit} {R:Option Bool->Shared->Prop},(∀(b:Bool) (s₁:Shared) (u:Unit->Shared->Prop),u () s₁->wpAny (model prog w) A (g b) u E s₁)->
   (∀(h':Heap) (m:List Int),Heap.SameBut a s.heap h'->jG prog w h' a b m->(∀x,x∈m↔x∈(es.toList.map λe=>aL e.2)\/x=k)->m.length<=(es.toList.map λe=>aL e.2).length+1->R (some true) {s with heap:=h'})->
   wpAny (model prog w) A (do
    storeSet a es1 t1
    if (!wasDummy && t1.tooFull)=true then do
        g (relayAll t1 es1 (SetTable.grown es1.size)).2.2
        storeSet a (relayAll t1 es1 (SetTable.grown es1.size)).1 (relayAll t1 es1 (SetTable.grown es1.size)).2.1
        pure (some true)
     else pure (some true)) R E s:=λ{g R} hg hR=>by
   refine Qg (wpAny_storeSet_of K data ?_ (fits_of_scanBound D))
   split
   ·generalize relayAll t1 es1 (SetTable.grown es1.size)=L2 at J Oj good2⊢;obtain ⟨M,t2,gave2⟩:=L2;dsimp only at J Oj good2⊢;have Y:(M.toList.map λe=>aL e.2).Perm (es1.toList.map λe=>aL e.2):=J.map _;have sz2:M.size=es1.size:=by rw [<-jao,J.length_eq,jao]
    have C:M.size<scanBound:=⋯
    refine Qg (hg _ _ _ (Qg (wpAny_storeSet_of g1 rfl (Qo ?_) (fits_of_scanBound C))));refine hR _ _ (G.trans (jad _ a _)) ⟨_,M,_,t2,⟨Ih g1 rfl,ex,rfl⟩,p.perm J,⟨Oj,good2⟩,rfl,Y.nodup_iff.mpr SY⟩ (λx=>by rw [Y.mem_iff];exact PQ x) (by rw [Y.length_eq,OV];exact Qu _)
   ·exact Qo (hR _ _ G ⟨_,es1,_,t1,⟨g1,ex,rfl⟩,p,⟨fits,N⟩,rfl,SY⟩ PQ (by rw [OV];exact Qu _))
  have fin:∀(h':Heap) (m:List Int),Heap.SameBut a s.heap h'->jG prog w h' a b m->(∀x,x∈m↔x∈(es.toList.map λe=>aL e.2)\/x=k)->m.length<=(es.toList.map λe=>aL e.2).length+1->Q true {s with heap:=h'}:=h true
  have pass:∀(c:Bool) (s₁:Shared) (u:Unit->Shared->Prop),u () s₁->wpAny (model prog w) A (match c with|true=>rule "set.scan.the-table-gave-way"|false=>pure ()) u E s₁:=λc s₁ u q=>by
   cases c
   ·exact Qo q
   ·exact jce q
  refine Qg (pass _ _ _ ?_);have Z:hashByValue 8 (.int k tk)=pure true:=rfl
  split
  ·refine Qg ?_;rw [Z];refine Qo ?_;exact tail (λc s₁ u q=>pass c s₁ u q) λh' m X U P O=>Qo (fin h' m X U P O)
  ·refine Qg (Qo ?_);exact tail (λc s₁ u q=>pass c s₁ u q) λh' m X U P O=>Qo (fin h' m X U P O)
noncomputable def AQ (w:World):Bool:=!(w.params.followText "set-order")
noncomputable def WA (w:World):Obj:={cls:= .type "set",dict:=none,data:= .set #[] 0 (.fresh 0 0 (AQ w))}
def Kq (x:Value) (k:R (.ref s.heap.objs.size) {s with heap:=s.heap.push (WA w)}):
 codeAny (model prog w) A (.call (.builtin "set.__new__") ⟨[.type "set",x],[]⟩) (wants R E) s:=by
 refine codeAny_of_tree (show wpAny _ A.in1 (do checkBuiltinCall "set.__new__" ⟨[.type "set",x],[]⟩;again (.builtin "set.__new__" ⟨[.type "set",x],[]⟩)) _ _ s from ?_)
 refine Qg (wpAny_of_eq (F.newCall_set_1 x) (Qo ⟨plainId_quiet F.plain_set_new _,jbB F.entry_set_new (by
  rw [jbi F.plain_set_new _];unfold Builtin.«set.__new__» Builtin.Frozenset.newClass;have sub:=sub_set_self;obtain ⟨hp,g,d,tk,os⟩:=s;dsimp only
  wp_walk
  refine wpAny_askSetting (Qo ?_);dsimp only;simp only [newObj]
  exact Qg (wpAny_alloc (Qo (Qo k))))⟩))
def jG.fresh  (g:h.get? a=some (WA w)):jG prog w h a (AQ w) []:=
 ⟨_,#[],0,_,⟨g,⟨rfl,rfl,rfl⟩,rfl⟩,λe he=>by simp at he,⟨rfl,by unfold Ris SetTable.fresh;exact List.Pairwise.nil,rfl⟩,rfl,List.nodup_nil⟩
def upd_T
 (W:WalksS prog w A.in1 I fp wr G n P St) (a:Addr) (out:a∉fp) (ns:List Int) (val:∀i v,P i v->∃k t,ns[i]? =some k/\v= .int k t) (few:n<900):
 ∀(m i:Nat) (s:Shared) (T:List Int),n - i=m->i<=n->St i s->jG prog w s.heap a b T->(∀x,x∈T↔x∈ns.take i)->T.length<=i->
  (∀s' D,Moved (a::wr) G s s'->jG prog w s'.heap a b D->(∀x,x∈D↔x∈ns.take n)->D.length<=n->R (.ok (.ret .none)) s')->
  codeAny (model prog w) A (.builtin "set.update.loop" ⟨[.ref a, .ref I],[]⟩) R s:=by
 have g:a∉wr:=λz=>out (W.sub _ z);have more:∀c∈wr,c∈a::wr:=λc C=>Qf _ C;intro m
 induction m with
 |zero=>
  intro i s T hm Y st L J O M;have e:i=n:=⋯
  subst e;refine jbB PyProof.Rows.F.entry_set_update_loop ?_;rw [jbi jaR _];show wpAny _ A.in1 (pyNext (.ref I)>>=_) _ _ s;exact Qg (W.done s _ _ st λs' q=>Qo (M s' T (q.mono more) (L.kept λo=>q.heap a o g) J O))
 |succ m U=>
  intro i s T hm Y st L J O M;have lt:i<n:=⋯
  refine jbB PyProof.Rows.F.entry_set_update_loop ?_;rw [jbi jaR _];show wpAny _ A.in1 (pyNext (.ref I)>>=_) _ _ s;refine Qg (W.item i s _ _ lt st λv s' Z MY q=>?_);obtain ⟨k,tk,X,rfl⟩:=val i v Z;show wpAny _ A.in1 (holding [Value.int k tk] (setAdd a (.int k tk))>>=_) _ _ s';refine Qg (jaY ?_);unfold setAdd;refine jaY (Qg ((intKind prog w).pyHash (k:=k) (intKind_is _ _ _ _) ?_));refine add_T (b:=b) (ns:=T) (s:={s' with toks:=s'.toks+1}) (L.kept λo=>q.heap a o g) ⋯ λr h' D sb K MV Nb=>?_;refine Qo ⟨plainId_quiet jaR _,U (i+1) _ D ⋯ lt (W.frame _ s' _ _ MY (jat _) λc C o e=>?_) K (λx=>?_) ⋯ λPN N p Og u y=>?_⟩
  ·rw [sb.2 c (λz:c=a=>out (by rw [<-z];exact C))];exact e
  ·rw [MV x,J x,jab,X]
   simp
  ·refine M PN N (Moved.trans W.gtrans ((q.mono more).then_heap (jat _) λc o C e=>?_) p) Og u y;rw [sb.2 c (λz:c=a=>C (by rw [z];exact Qe))];exact e
set_option maxHeartbeats 8000000 in
def Aw   (quiet:A.handled=none) (hl:s.heap.IsList l items) (hi:PyProof.Rows.IntsAre items.toList ns) (few:items.size<900)
 (k:∀(h':Heap) (tk:Nat) (T:List Int),jG prog w h' s.heap.objs.size (AQ w) T->(∀x,x∈T↔x∈ns)->T.length<=ns.length->(∀b o,b<s.heap.objs.size->s.heap.get? b=some o->h'.get? b=some o)->Q (.ref s.heap.objs.size) {s with heap:=h',toks:=tk}):
 wpAny (model prog w) A (call (.type "set") [.ref l]) Q E s:=by
 have lenN:items.size=ns.length:=by have:=hi.length;simpa using this
 obtain ⟨c1,tl1,mro1⟩:=jbC.mro;have K:=jbC.made;have Y:=jbC.sub;refine wpAny_call (codeAny_of_tree (show wpAny _ _ (callAny (.type "set") _) _ _ _ from ?_));refine Qo ⟨Code.quiet_builtin _ (by decide+kernel),jbB F.entry_type_call ?_⟩;rw [Around.under_plain (weight_type_call_type "set" [.ref l] []) rfl];have nt1:=jbC.notType;have cc1:=jbC.canCreate;have ct1:=F.typeCall_set_1 (.ref l)
 repeat any_goals (first|wp_step|assumption)
 refine jcd (Kq (.ref l) (E:=E) (R:=λobj s₁=>obj= .ref s.heap.objs.size/\s₁={s with heap:=s.heap.push (WA w)}) ⟨rfl,rfl⟩) λr s₁ hr=>?_
 cases r with
 |error e=>exact hr
 |ok U=>
  cases U with
  |ret obj=>
   obtain ⟨rfl,rfl⟩:=hr;have X:(s.heap.push (WA w)).get? s.heap.objs.size=some (WA w):=Qx _ rfl;have ty:Shared.TypeIs {s with heap:=s.heap.push (WA w)} (.ref s.heap.objs.size) "set":=⟨_,X,rfl⟩;have lk1:=jbC.init.lookup;have bd1:=jbC.init.bind (.ref s.heap.objs.size)
   repeat any_goals (first|wp_step|assumption)
   refine jcd (codeAny_call_builtin (R:=wants (λr s₂=>r= .none/\∃h' tk T,s₂={s with heap:=h',toks:=tk}/\jG prog w h' s.heap.objs.size (AQ w) T/\(∀x,x∈T↔x∈ns)/\T.length<=ns.length/\
    (∀b o,b<s.heap.objs.size->s.heap.get? b=some o->h'.get? b=some o)) E) jbC.init.plain F.entry_set_init (check_set_init_1 ty ?_)) λr₂ s₂ hr₂=>?_
   ·obtain ⟨ol,D,p,nl,m⟩:=hl;obtain ⟨Z,u,I,g⟩:=ol;simp only at p m;subst p;subst m;have RD:(s.heap.push (WA w)).get? l=some {cls:= .type "list",dict:=u,data:= .seq items nl,slots:=g}:=Qi _ D;have sls:=F.sub_list_set;have slf:=F.sub_list_frozenset;have SY:(Value.type "list"==Value.type "dict")=false:=by decide
    have C:(s.heap.push (WA w)).IsList l items:=⟨_,RD,rfl,nl,rfl⟩;have P:=X;unfold WA at P RD;unfold Builtin.«set.__init__» noKeywords Builtin.Frozenset.updateFrom;generalize O:pyIter=PI
    wp_walk
    subst O;refine jaF C (Qg (wpAny_runValue ?_));have y:l<s.heap.objs.size:=Qv D;have q3:A.in1.in1.in1.handled=none:=by simp [quiet]
    have q:(s.heap.push (WA w)).objs.size=s.heap.objs.size+1:=QV ..;have J:l≠(s.heap.push (WA w)).objs.size:=by rw [q];exact QQ (TH y)
    have out:s.heap.objs.size∉[(s.heap.push (WA w)).objs.size,l]:=by
     rw [q];intro z
     rcases Ql.mp z with z|z
     ·exact absurd z (QQ (Tn _))
     ·exact absurd (Qq.mp z) (jaZ y)
    refine upd_T (b:=AQ w) ((Walks.list q3 _ l J items).toS) s.heap.objs.size out ns (λi v hv=>?_) few (items.size - 0) 0 _ [] ⋯ (TR _) ⟨⟨_,Qx _ rfl,rfl,rfl⟩,C.push _⟩ (jG.fresh (Qi _ X)) (λx=>by simp) (TR _) λs' T' G N MV Nb=>?_
    ·have RT:items.toList[i]? =some v:=by rw [Array.getElem?_toList];exact hv
     obtain ⟨t,ht⟩:=PyProof.Rows.IntsAre.int_at hi i v RT
     have lt:i<ns.length:=by
      have:=(Qd.mp RT).1;rw [jao] at this;omega
     refine ⟨ns.getD i 0,t,?_,ht⟩;rw [Qk,Qb lt];rfl
    ·obtain ⟨h',g',d',SM,OT⟩:=s';have eg:g'=s.gens:=G.gens;have ed:d'=s.drawn:=G.drawn;have eo:OT=s.os:=G.os;subst eg;subst ed;subst eo;show wpAny _ _ _ _ _ _;refine Qo (show wpAny _ _ (ret Value.none) _ _ _ from Qo ⟨rfl,h',SM,T',rfl,N,λx=>?_,⋯,λb o M e=>?_⟩)
     ·rw [MV x,Tw ⋯]
     ·refine G.heap b o (λz=>?_) (Qi _ (Qi _ e))
      rcases Ql.mp z with z|z
      ·exact absurd z (QQ M)
      ·rw [Qq.mp z,q] at M;exact absurd M (Nat.not_lt.mpr (jat _))
   ·cases r₂ with
    |error e=>exact hr₂
    |ok U₂=>
     cases U₂ with
     |ret r=>
      obtain ⟨rfl,h',tk,T,rfl,hT,hx,L,keep⟩:=hr₂
      repeat any_goals (first|wp_step|assumption)
      exact k _ _ T hT hx L keep
     |_=>exact hr₂.elim
  |_=>exact hr.elim
end
def CD:Manifest.owners.lookup (String.ofList ['r','o','t','a','r','e','t','i','_','t','e','s'].reverse)=some Manifest.sig_set_iterator:=by kernel_rfl
def Yn (x:Value):argsOk "set_iterator.__next__" ⟨[x],[]⟩:=by
 unfold argsOk;rw [signature?_of (id:="set_iterator.__next__") (n:=['_','_','t','x','e','n','_','_']) (o:=['r','o','t','a','r','e','t','i','_','t','e','s']) (by kernel_rfl) CD]
 kernel_rfl
def yj:Slot "set_iterator" "__next__" "set_iterator.__next__":= .of (owner:="set_iterator") (n:="__next__") (by rw [typeLookup_type,builtinLookup_eq_fast];kernel_rfl) (by decide+kernel) (by decide+kernel) (by decide+kernel) (by first|exact .inl (by decide+kernel)|exact .inr (by decide+kernel)) (by rw [isSubtype_type];kernel_rfl)
def ZR:entryFor table "set_iterator.__next__"=some Builtin.«set_iterator.__next__»:=entryFor_of_tree (by kernel_rfl)
def UU:Slot "set_iterator" "__iter__" "set_iterator.__iter__":= .of (owner:="set_iterator") (n:="__iter__") (by rw [typeLookup_type,builtinLookup_eq_fast];kernel_rfl) (by decide+kernel) (by decide+kernel) (by decide+kernel) (by first|exact .inl (by decide+kernel)|exact .inr (by decide+kernel)) (by rw [isSubtype_type];kernel_rfl)
def nJ (x:Value):argsOk "set_iterator.__iter__" ⟨[x],[]⟩:=by
 unfold argsOk;rw [signature?_of (id:="set_iterator.__iter__") (n:=['_','_','r','e','t','i','_','_']) (o:=['r','o','t','a','r','e','t','i','_','t','e','s']) (by kernel_rfl) CD]
 kernel_rfl
def jw:entryFor table "set_iterator.__iter__"=some Builtin.«dict_keyiterator.__iter__»:=entryFor_alias (id':="dict_keyiterator.__iter__") (by kernel_rfl) rfl (by decide+kernel) (by kernel_rfl)
def jx:entryFor table "set.__iter__"=some Builtin.«frozenset.__iter__»:=entryFor_alias (id':="frozenset.__iter__") (by kernel_rfl) rfl (by decide+kernel) (by kernel_rfl)
theorem bV {α:Type}:∀{xs:List α} {i:Nat} (h:i<xs.length),(xs[i]::xs.eraseIdx i).Perm xs
 |[],i,h=>by simp at h
 |x::xs,0,h=>List.Perm.refl _
 |x::xs,i+1,h=>by
  have g:=bV (xs:=xs) (i:=i) ‹h›;exact (List.Perm.swap _ _ _).trans (g.cons x)
section
variable {prog:Program} {w:World} {A:Around} {E:Value->Shared->Prop} {s:Shared}
def As  (hn:n≠0) (k:∀i d,i<n->Q i {s with drawn:=d}):wpAny (model prog w) A (choose src n) Q E s:=λΓ p hΓ=>by
 show Sem.wp _ _ (Sem.choose src n _) _ _ _ _;rw [Sem.wp_choose];exact ⟨hn,k _ _ (Nat.mod_lt _ ⋯)⟩
theorem IH {α:Type}:∀(n:Nat) (xs:List α) (s:Shared) (Q:List α->Shared->Prop),xs.length=n->(∀d ys,ys.Perm xs->Q ys {s with drawn:=d})->wpAny (model prog w) A (drawOrder n xs) Q E s
 |0,[],s,Q,_,k=>by rw [drawOrder];exact Qo (k s.drawn [] (List.Perm.refl _))
 |n+1,x::xs,s,Q,hl,k=>by
  rw [drawOrder]
  ·refine Qg (As (by simp) λi d g=>?_);have e:(x::xs)[i]? =some (x::xs)[i]:=Qb g;rw [e];dsimp only;refine Qg (IH n _ _ _ (by rw [List.length_eraseIdx,QJ g,hl];rfl) λp ys hp=>Qo (k p _ ?_));have m:=List.Perm.cons (x::xs)[i] hp;refine m.trans ?_;exact bV g
  ·intro z;cases z
 |0,_::_,s,Q,h,_=>by simp at h
 |_+1,[],s,Q,h,_=>by simp at h
structure SetD (prog:Program) (w:World) (oS:Obj) (es:Array (Int×Value)) (ep:Nat) (t:SetTable):Prop where
 ex:oS.ExactSet
 data:oS.data= .set es ep t
 elems:ElemsOf (intKind prog w) es.toList
 fit:t.fits es.size=true
 good:tG (AQ w) t
def Az (h:Ris xs):SetTable.below xs 0=0:=by
 obtain ⟨p,g,m⟩:=VO h 0
 rcases Nat.eq_zero_or_pos (SetTable.below xs 0) with z|z
 ·exact z
 ·have:xs[0]? =some (xs[0]'⋯):=by simp
  exact absurd (g 0 _ z this) (Nat.not_lt_zero _)
def AA (h:Ris xs) (g:xs[i]? =some j):SetTable.below xs (j+1)=i+1:=by
 obtain ⟨t,r,q⟩:=VO h (j+1);have li:i<xs.size:=(jas.mp g).1
 rcases Nat.lt_trichotomy (SetTable.below xs (j+1)) (i+1) with z|z|z
 ·have:=q i j ⋯ g;omega
 ·exact z
 ·have p:i+1<xs.size:=⋯
  have m:xs[i+1]? =some xs[i+1]:=by simp [p]
  have:=r (i+1) _ z m;have:=h.lt (Tn i) g m;omega
noncomputable def byT (w:World):Bool:=w.params.followText "set-order"
noncomputable def nV (w:World) (a:Addr) (ep:Nat) (es:Array (Int×Value)):Array (Int×Value):=if byT w=true then pickOrder (w.params.setOrder a ep) es else es
def stT (w:World) (t:SetTable) (i slot:Nat):Prop:=byT w=true\/SetTable.below t.place slot=i
theorem pM {α:Type} (f:Nat->Nat):∀(n k:Nat) (left:List α) (out:Array α),left.length=n->(pickOrder.go f n k left out).toList.Perm (out.toList++left)
 |0,k,[],out,_=>by rw [pickOrder.go];simp
 |0,k,_::_,out,h=>by simp at h
 |n+1,k,[],out,h=>by simp at h
 |n+1,k,x::left,out,h=>by
  rw [pickOrder.go];have g:f k % (x::left).length<(x::left).length:=Nat.mod_lt _ (by simp);rw [Qb g];dsimp only;have m:=pM f n (k+1) ((x::left).eraseIdx (f k % (x::left).length)) (out.push (x::left)[f k % (x::left).length]) (by rw [List.length_eraseIdx,QJ g,h];rfl);refine m.trans ?_;rw [Array.toList_push,jaf];exact (bV g).append_left _
def ao (w:World) (a:Addr) (ep:Nat) (es:Array (Int×Value)):(nV w a ep es).toList.Perm es.toList:=by
 unfold nV
 split
 ·unfold pickOrder;have:=pM (w.params.setOrder a ep) es.size 0 es.toList #[] (by simp)
  simpa using this
 ·exact List.Perm.refl _
section
variable {a:Addr} {oS:Obj} {es:Array (Int×Value)} {ep:Nat} {t:SetTable} {slot i:Nat}
def sZ (k:Q (byT w) s):wpAny (model prog w) A setsByText Q E s:=by
 unfold setsByText;exact Qg (wpAny_askSetting (Qo k))
def Bd (m:s.heap.get? a=some oS) (D:SetD prog w oS es ep t) (g:byT w=true) (k:Q (pickOrder (w.params.setOrder a ep) es) s):wpAny (model prog w) A (setWalk a) Q E s:=by
 unfold setWalk;refine Qg (jbG m D.data D.fit ?_);dsimp only;refine Qg (sZ ?_);rw [g,QJ rfl];exact Qg (wpAny_askSetting (Qo k))
def Iw (G:s.heap.get? a=some oS) (D:SetD prog w oS es ep t) (pl:byT w=true\/(t.plain=true\/es.size<=1)) (st:stT w t i slot)
 (u:∀e C,(nV w a ep es)[i]? =some e->stT w t (i+1) C->Q (some (e.2,C)) s) (r:es.size<=i->Q none s):wpAny (model prog w) A (setNext a slot i ep) Q E s:=by
 have J:(nV w a ep es).size=es.size:=by
  have:=(ao w a ep es).length_eq
  simpa using this
 unfold setNext;refine Qg (jbG G D.data D.fit ?_);dsimp only;refine Qg (sZ ?_)
 cases hb:byT w with
 |true=>
  rw [QJ rfl,QO (by simp)];refine Qg (Bd G D hb (Qo ?_));have q:nV w a ep es=pickOrder (w.params.setOrder a ep) es:=by unfold nV;rw [QJ hb]
  rw [<-q]
  by_cases c:i<(nV w a ep es).size
  ·have e:(nV w a ep es)[i]? =some (nV w a ep es)[i]:=by simp [c]
   rw [e];exact u _ slot e (.inl hb)
  ·rw [Array.getElem?_eq_none ⋯];exact r ⋯
 |false=>
  have K:SetTable.below t.place slot=i:=st.resolve_left (by rw [hb];exact QA);have m:=pl.resolve_left (by rw [hb];exact QA);rw [QO QA]
  split
  ·rename_i z
   exfalso
   have g:(!t.plain && decide (es.size>1))=true:=z;rw [TF,decide_eq_true_eq] at g
   rcases m with p|p
   ·rw [p] at g;exact QA g.1
   ·omega
  have led:t.led=true:=by
   have:=D.good.2;unfold AQ at this;rw [this,show w.params.followText "set-order"=false from hb];rfl
  refine Qg (show wpAny _ _ (if (!t.led && !es.isEmpty)=true then unsupported "set:maker-not-led" else pure ()) _ _ s from ?_);rw [led,QO (by simp)];refine Qo (Qo ?_);rw [K];have q:nV w a ep es=es:=by unfold nV;rw [QO (by rw [hb];exact QA)]
  have I:t.place.size=es.size:=by
   have:=D.fit;unfold SetTable.fits at this;rw [TF] at this
   simpa using this.1
  by_cases c:i<es.size
  ·have e:es[i]? =some es[i]:=by simp [c]
   have y:t.place[i]? =some (t.place[i]'⋯):=by simp
   rw [e,y];exact u es[i] _ (by rw [q];exact e) (.inr (AA D.good.1 y))
  ·rw [Array.getElem?_eq_none (show es.size<=i by omega)];exact r ⋯
end
end
section
variable {prog:Program} {w:World} {A:Around} {E:Value->Shared->Prop} {s:Shared} {a I:Addr} {oS:Obj} {es:Array (Int×Value)} {ep:Nat} {t:SetTable} {slot i:Nat}
def ItF (h:Heap) (I:Addr) (vs:Array Value):Prop:=∃o,h.get? I=some o/\o.cls= .type "set_iterator"/\o.data= .fields vs
def ItF.ty (x:ItF s.heap I vs):s.TypeIs (.ref I) "set_iterator":=by
 obtain ⟨_,e,c,_⟩:=x;exact ⟨_,e,c⟩
def ItF.set  (x:ItF h I vs) (j:Nat) (v:Value):ItF (h.update I (Obj.mapFields (·.setIfInBounds j v))) I (vs.setIfInBounds j v):=by
 obtain ⟨o,e,c,d⟩:=x;exact ⟨_,jaJ _ e (Obj.isFreed_of_fields (jbY d _)),(Obj.cls_mapFields ..).trans c,jbY d _⟩
def FD {Q:Option Value->Shared->Prop} (x:ItF s.heap I #[.int slot 0, .int i 0, .ref a, .int es.size 0, .int ep 0]) (ne:a≠I) (u:s.heap.get? a=some oS) (D:SetD prog w oS es ep t) (pl:byT w=true\/(t.plain=true\/es.size<=1)) (st:stT w t i slot) (J:i<es.size)
 (G:∀e g h',(nV w a ep es)[i]? =some e->stT w t (i+1) g->ItF h' I #[.int g 0, .int (i+1:Nat) 0, .ref a, .int es.size 0, .int ep 0]->Heap.SameBut I s.heap h'->Q (some e.2) {s with heap:=h'}):wpAny (model prog w) A (pyNext (.ref I)) Q E s:=by
 have C:=x;obtain ⟨o,go,N,r⟩:=C;unfold pyNext;refine Qg (jbF (Tr (name:=Str.ofString "__next__") x.ty yj (TX yj x.ty ZR ?_ (Yn _))));unfold Builtin.«set_iterator.__next__»;refine Qg (Qo ?_);refine Qg (wpAny_fieldsOf go r ?_);dsimp only;refine Qg (jbq u D.data D.fit ?_);rw [QO (by simp)];refine Qg (Iw (slot:=slot) (i:=i) u D pl st (λe g he L=>?_) (λz=>absurd J ⋯));dsimp only;refine Qg (jbg go r (by simp) ?_);have q:=x.set 0 (rawInt (g:Nat));have y:=q.set 1 (rawInt ((i:Int)+1));obtain ⟨M,m,K,p⟩:=q;refine Qg (jbg m p (by simp) ?_);refine Qo ⟨_,rfl,Qo (G e g _ he L ?_ ((jad ..).trans (jad ..)))⟩
 simpa [rawInt] using y
def Ii {j:Nat} {x:Value} {g:Heap} {Q:Option Value->Shared->Prop} (quiet:A.handled=none) (k:∀h',(∀b o,g.get? b=some o->h'.get? b=some o)->Q none {s with heap:=h'}):
 wpAny (model prog w) A.in1 (newExc (.type "StopIteration") []>>=λe=>(raiseNew e:Sem Fin)) (λfin s'=>∃v,fin=Fin.done (Flow.ret v)/\wpAny (model prog w) A (pure (some v)) Q E s')
  (λe s'=>wpAny (model prog w) A (isInstance e (Value.type "StopIteration")>>=λb=>if b=true then pure none else throw e) Q E s') {s with heap:=g}:=by
 refine Qg ?_;simp only [newExc,newTuple];refine Qg (Ti (Qg (m:=firstArgMember _ _) (wpAny_of_eq (a:=Value.none) (by first|rfl|(simp only [firstArgMember];rfl)) (Ti ?_ (by size_fits)))) (by size_fits));simp only [raiseNew];refine Qg (wpAny_handled ?_);rw [show A.in1.handled=none from quiet];refine' Qg (Qo (wpAny_throw ?told))
 case told=>
  refine' Qg (wpAny_isInstance (T:="StopIteration") (b:=true) ⟨_,Qx _ rfl,rfl⟩ isSubtype_stop ?yes)
  case yes=>exact Qo (k _ λb o e=>Qi _ (Qi _ e))
def FE {Q:Option Value->Shared->Prop} (quiet:A.handled=none) (x:ItF s.heap I #[.int slot 0, .int i 0, .ref a, .int es.size 0, .int ep 0]) (p:s.heap.get? a=some oS) (D:SetD prog w oS es ep t) (pl:byT w=true\/(t.plain=true\/es.size<=1)) (st:stT w t i slot) (u:es.size<=i)
 (k:∀h',(∀b o,b≠I->s.heap.get? b=some o->h'.get? b=some o)->Q none {s with heap:=h'}):wpAny (model prog w) A (pyNext (.ref I)) Q E s:=by
 have g:(nV w a ep es).size=es.size:=by
  have:=(ao w a ep es).length_eq
  simpa using this
 have q:=x;obtain ⟨o,go,y,m⟩:=q;unfold pyNext;refine Qg (jbF (Tr (name:=Str.ofString "__next__") x.ty yj (TX yj x.ty ZR ?_ (Yn _))));unfold Builtin.«set_iterator.__next__»;refine Qg (Qo (Qg (wpAny_fieldsOf go m ?_)));dsimp only;refine Qg (jbq p D.data D.fit ?_);rw [QO (by simp)];refine Qg (Iw (slot:=slot) (i:=i) p D pl st (λe G he C=>?_) (λ_=>?_))
 ·have:=(jas.mp he).1
  exact absurd this (by have z:(nV w a ep es).size=es.size:=g
                        show ¬i<(nV w a ep es).size
                        omega)
 dsimp only;refine Qg (jbg go m (by simp) ?_);exact Ii (j:=0) (x:= .none) quiet λh' keep=>k h' λb o r e=>keep b o ((jad s.heap I _).extBut b o r e)
def uf {vs:Array Value} {Q:Value->Shared->Prop} (x:ItF s.heap I vs) (k:Q (.ref I) s):wpAny (model prog w) A (pyIter (.ref I)) Q E s:=by
 refine wpAny_pyIter_slot x.ty UU (TX UU x.ty jw (show wpAny _ _ (ret (.ref I)) _ _ s from ?_) (nJ _));exact Qo ⟨_,rfl,"set_iterator",_,x.ty,yj.lookup,k⟩
def Bz {g:Addr} {pls:List Nat} {q:Obj} {C p:Nat} {e:Int×Value} {Q:Option Value->Shared->Prop} (x:ItF s.heap I #[.ref g, .int i 0, .ref a, .int es.size 0, .int ep 0]) (gt:s.heap.get? g=some q) (m:q.data= .seq (pls.map λ(p:Nat)=>rawInt p).toArray C)
 (u:s.heap.get? a=some oS) (D:SetD prog w oS es ep t) (hp:pls[i]? =some p) (he:es[p]? =some e)
 (G:∀h',ItF h' I #[.ref g, .int (i+1:Nat) 0, .ref a, .int es.size 0, .int ep 0]->Heap.SameBut I s.heap h'->Q (some e.2) {s with heap:=h'}):wpAny (model prog w) A (pyNext (.ref I)) Q E s:=by
 have z:=x;obtain ⟨o,go,K,r⟩:=z;unfold pyNext;refine Qg (jbF (Tr (name:=Str.ofString "__next__") x.ty yj (TX yj x.ty ZR ?_ (Yn _))));unfold Builtin.«set_iterator.__next__»;refine Qg (Qo (Qg (wpAny_fieldsOf go r ?_)));dsimp only;refine Qg (jbq u D.data D.fit ?_);rw [QO (by simp)];refine Qg (show wpAny _ _ (load g>>=_) _ _ s from Qg (wpAny_load gt ?_));rw [m];refine Qo ?_;dsimp only
 have J:(pls.map λ(p:Nat)=>rawInt p).toArray[(i:Int).toNat]? =some (rawInt p):=by
  rw [Td,List.getElem?_toArray,Qh,hp];rfl
 rw [J];show wpAny _ _ (setNextDrawn a (p:Int).toNat (ep:Int).toNat>>=_) _ _ s;refine Qg ?_;unfold setNextDrawn;refine Qg (jbG u D.data D.fit ?_);dsimp only;rw [Td,Td,QO (by simp),he];refine Qg (Qo (Qo ?_));refine Qg (jbg go r (by simp) ?_);have y:=x.set 1 (rawInt ((i:Int)+1));refine Qo ⟨_,rfl,Qo (G _ ?_ (jad ..))⟩
 simpa [rawInt] using y
def BA {g:Addr} {pls:List Nat} {u:Obj} {G:Nat} {Q:Option Value->Shared->Prop} (quiet:A.handled=none) (x:ItF s.heap I #[.ref g, .int i 0, .ref a, .int es.size 0, .int ep 0]) (gt:s.heap.get? g=some u) (m:u.data= .seq (pls.map λ(p:Nat)=>rawInt p).toArray G)
 (M:s.heap.get? a=some oS) (D:SetD prog w oS es ep t) (hp:pls.length<=i)
 (k:∀h',(∀b o,b≠I->s.heap.get? b=some o->h'.get? b=some o)->Q none {s with heap:=h'}):wpAny (model prog w) A (pyNext (.ref I)) Q E s:=by
 have C:=x;obtain ⟨o,go,O,y⟩:=C;unfold pyNext;refine Qg (jbF (Tr (name:=Str.ofString "__next__") x.ty yj (TX yj x.ty ZR ?_ (Yn _))));unfold Builtin.«set_iterator.__next__»;refine Qg (Qo (Qg (wpAny_fieldsOf go y ?_)));dsimp only;refine Qg (jbq M D.data D.fit ?_);rw [QO (by simp)];refine Qg (show wpAny _ _ (load g>>=_) _ _ s from Qg (wpAny_load gt ?_));rw [m];refine Qo ?_;dsimp only
 have L:(pls.map λ(p:Nat)=>rawInt p).toArray[(i:Int).toNat]? =none:=by
  rw [Td,List.getElem?_toArray,Qh,QG hp];rfl
 rw [L];dsimp only;refine Qg (jbg go y (by simp) ?_);have z:=x.set 0 (rawInt 0);obtain ⟨N,q,K,r⟩:=z;refine Qg (jbg q r (by simp) ?_);exact Ii (j:=0) (x:= .none) quiet λh' keep=>k h' λb o J e=>keep b o (((jad s.heap I _).trans (jad _ I _)).extBut b o J e)
end
section
variable {prog:Program} {w:World} {A:Around} {E:Value->Shared->Prop} {s:Shared} {a I:Addr} {oS:Obj} {es:Array (Int×Value)} {ep:Nat} {t:SetTable} {slot i:Nat}
def ItF.at  (x:ItF h I vs) (k:∀o,h.get? I=some o->h'.get? I=some o):ItF h' I vs:=by
 obtain ⟨o,e,r⟩:=x;exact ⟨o,k o e,r⟩
def Bc (quiet:A.handled=none) (ne:a≠I) (D:SetD prog w oS es ep t) (pl:byT w=true\/(t.plain=true\/es.size<=1)):
 Walks prog w A I [I,a] [I] es.size (λi v=>∃e,(nV w a ep es)[i]? =some e/\v=e.2) (λi h=>(∃slot,stT w t i slot/\ItF h I #[.int (slot:Nat) 0, .int (i:Nat) 0, .ref a, .int es.size 0, .int ep 0])/\h.get? a=some oS) where
 sub:=λb p=>by rw [Qq.mp p];exact Qe
 frame:=λi h h' st keep=>⟨let ⟨sl,m,g⟩:=st.1;⟨sl,m,g.at λo e=>keep I Qe o e⟩,keep a (by simp) _ st.2⟩
 item:=λi s Q E r st k=>by
  obtain ⟨⟨sl,m,g⟩,q⟩:=st;refine FD g ne q D pl m r λe y h' he u x sb=>?_;exact k e.2 h' s.toks ⟨e,he,rfl⟩ ⟨⟨y,u,x⟩,sb.extBut a _ ne q⟩ λb o p e=>sb.extBut b o (λz=>p (by rw [z];exact Qq.mpr rfl)) e
 done:=λs Q E st k=>by
  obtain ⟨⟨sl,m,g⟩,q⟩:=st;exact FE quiet g q D pl m (Qu _) λh' keep=>k h' s.toks λb o p e=>keep b o (λz=>p (by rw [z];exact Qq.mpr rfl)) e
 self:=λi s Q E st k=>let ⟨sl,m,g⟩:=st.1;uf g k
def qP {g:Addr} {pls:List Nat} {r:Obj} {G:Nat} (quiet:A.handled=none) (ne:a≠I) (ne2:g≠I) (D:SetD prog w oS es ep t) (q:r.data= .seq (pls.map λ(p:Nat)=>rawInt p).toArray G) (hp:∀p∈pls,p<es.size):
 Walks prog w A I [I,a,g] [I] pls.length (λi v=>∃p e,pls[i]? =some p/\es[p]? =some e/\v=e.2) (λi h=>ItF h I #[.ref g, .int (i:Nat) 0, .ref a, .int es.size 0, .int ep 0]/\h.get? a=some oS/\h.get? g=some r) where
 sub:=λb m=>by rw [Qq.mp m];exact Qe
 frame:=λi h h' st keep=>⟨st.1.at λo e=>keep I Qe o e,keep a (by simp) _ st.2.1,keep g (by simp) _ st.2.2⟩
 item:=λi s Q E u st k=>by
  have C:=Qb u;have lt:=hp _ (Ta u);have y:es[pls[i]]? =some es[pls[i]]:=by simp [lt]
  refine Bz st.1 st.2.2 q st.2.1 D C y λh' x sb=>?_;exact k _ h' s.toks ⟨_,_,C,y,rfl⟩ ⟨x,sb.extBut a _ ne st.2.1,sb.extBut g _ ne2 st.2.2⟩ λb o m e=>sb.extBut b o (λz=>m (by rw [z];exact Qq.mpr rfl)) e
 done:=λs Q E st k=>BA quiet st.1 st.2.2 q st.2.1 D (Qu _) λh' keep=>k h' s.toks λb o m e=>keep b o (λz=>m (by rw [z];exact Qq.mpr rfl)) e
 self:=λi s Q E st k=>uf st.1 k
def WalkOk (prog:Program) (w:World) (h:Heap) (I a:Addr) (lo:Nat) (ns:List Int):Prop:=
 ∃(g:List Addr) (n:Nat) (P:Nat->Value->Prop) (St:Nat->Heap->Prop) (os:List Int),St 0 h/\I∈g/\(∀b∈g,b<h.objs.size/\(b=a\/lo<=b))/\n=os.length/\os.Perm ns/\(∀i v,P i v->∃tk k,os[i]? =some k/\v= .int k tk)/\∀m:Around,m.handled=none->Walks prog w m I g [I] n P St
def uX (D:SetD prog w oS es ep t) (he:e∈es.toList):∃tk,e.2= .int (aL e.2) tk:=by
 obtain ⟨⟨k,g,_⟩,_⟩:=D.elems e he;obtain ⟨tk,h⟩:=Value.isInt_shape g;exact ⟨tk,by rw [h];rfl⟩
def Cu {α β:Type} (g:α->β) (d:α) (l:List α):(List.range l.length).map (λi=>g (l.getD i d))=l.map g:=by
 apply Tt
 ·simp
 ·intro i m p;simp at m;simp [m]
def iter_T {ns:List Int} {Q:Value->Shared->Prop} (T:jG prog w s.heap a (AQ w) ns) (few:ns.length<1000)
 (k:∀(h':Heap) (d) (I:Addr),(∀b o,s.heap.get? b=some o->h'.get? b=some o)->s.heap.objs.size<=I->I<h'.objs.size->h'.objs.size<=s.heap.objs.size+2->WalkOk prog w h' I a s.heap.objs.size ns->Q (.ref I) {s with heap:=h',drawn:=d}):
 wpAny (model prog w) A (pyIter (.ref a)) Q E s:=by
 obtain ⟨o,es,ep,t,⟨u,ex,data⟩,elems,⟨fit,good⟩,rfl,nd⟩:=T;have D:SetD prog w o es ep t:=⟨ex,data,elems,fit,good⟩;have ty:s.TypeIs (.ref a) "set":=⟨_,u,ex.1⟩;have y:a<s.heap.objs.size:=Qv u;refine wpAny_pyIter_slot ty F.slot_set_iter (TX F.slot_set_iter ty jx ?_ (F.args_set_iter_1 _));unfold Builtin.«frozenset.__iter__» Builtin.Frozenset.slot0 Builtin.Frozenset.sizeOf;refine Qg (Qg (Qo (show wpAny _ _ (pure a) _ _ s from Qo ?_)));refine Qg (Qg (jbq u data fit (Qo ?_)));unfold setDrawn;refine Qg (Qg (jbG u data fit ?_));dsimp only;refine Qg (sZ (Qo ?_));have vals:∀l:List (Int×Value),l.Perm es.toList->(l.map λe=>aL e.2).Perm (es.toList.map λe=>aL e.2):=λl p=>p.map _;have O:es.size<1000:=by simpa using few
 split
 ·refine Qg (IH es.size (List.range es.size) _ _ jcc λd ys hp=>?_);have ly:ys.length=es.size:=by rw [hp.length_eq,jcc]
  simp only [newTuple]
  refine Qg (Ti ?_ (by
   show (List.map _ ys).toArray.size<=sizeLine
   rw [sizeLine_eq,QI,Qa];omega))
  dsimp only;have g1:(s.heap.push {cls:= .type "tuple",data:= .seq (ys.map λ(p:Nat)=>rawInt p).toArray}).get? a=some o:=Qi _ u;have gt:(s.heap.push {cls:= .type "tuple",data:= .seq (ys.map λ(p:Nat)=>rawInt p).toArray}).get? s.heap.objs.size=some {cls:= .type "tuple",data:= .seq (ys.map λ(p:Nat)=>rawInt p).toArray}:=Qx _ rfl;have r:(s.heap.push {cls:= .type "tuple",data:= .seq (ys.map λ(p:Nat)=>rawInt p).toArray}).objs.size=s.heap.objs.size+1:=QV ..;generalize X:s.heap.push {cls:= .type "tuple",data:= .seq (ys.map λ(p:Nat)=>rawInt p).toArray}=m at g1 gt r⊢;have P:∀b o,s.heap.get? b=some o->m.get? b=some o:=λb o e=>by rw [<-X];exact Qi _ e
  refine Qg (wpAny_setEpoch_of (s:={s with heap:=m,drawn:=d}) g1 data fit ?_);simp only [newFields];refine Qg (Ti (Qo ⟨_,rfl,"set_iterator",_,⟨_,Qx _ rfl,rfl⟩,yj.lookup,?_⟩));refine k _ d _ (λb o e=>Qi _ (P b o e)) (by show _<=m.objs.size;rw [r];exact jat _) (by rw [QV];exact Tn _) (by rw [QV,r];exact Qu _) ?_;have K:a≠m.objs.size:=by rw [r];exact QQ (TH y)
  have J:s.heap.objs.size≠m.objs.size:=by rw [r];exact QQ (Tn _)
  have Nd:∀p∈ys,p<es.size:=λp Z=>by
   have:=hp.mem_iff.mp Z;exact jbJ.mp this
  refine ⟨[m.objs.size,a,s.heap.objs.size],ys.length,_,_,ys.map λp=>aL (es.toList.getD p (0, .none)).2,⟨⟨_,Qx _ rfl,rfl,rfl⟩,Qi _ g1,Qi _ gt⟩,Qe,λb g=>?_,(Qa ..).symm,?_,λi v L=>?_,λA' q=>qP q K J D rfl Nd⟩
  ·rw [QV]
   rcases Ql.mp g with z|g
   ·rw [z];exact ⟨Tn _, .inr (by rw [r];exact jat _)⟩
   rcases Ql.mp g with z|g
   ·rw [z,r];exact ⟨TH (TH y), .inl rfl⟩
   ·rw [Qq.mp g,r];exact ⟨TH (Tn _), .inr (Qu _)⟩
  ·have M:=hp.map λp=>aL (es.toList.getD p (0, .none)).2;have e:=Cu (λe:Int×Value=>aL e.2) (0, .none) es.toList;rw [jao] at e;rw [e] at M;exact M
  ·obtain ⟨p,e,Y,N,rfl⟩:=L;have me:e∈es.toList:=Qc (i:=p) ‹N›;obtain ⟨tk,ht⟩:=uX D me;refine ⟨tk,aL e.2,?_,ht⟩;have U:es.toList.getD p (0, .none)=e:=by rw [Qk,Array.getElem?_toList,N];rfl
   rw [Qh,Y];show some (aL (es.toList.getD p (0, .none)).2)=_;rw [U]
 ·rename_i z
  have pl:byT w=true\/(t.plain=true\/es.size<=1):=by
   have C:¬(!byT w && (!t.plain && decide (es.size>1)))=true:=z
   cases m:byT w with
   |true=>exact .inl rfl
   |false=>
    cases h2:t.plain with
    |true=>exact .inr (.inl rfl)
    |false=>
     right;right
     rw [m,h2] at C;simp at C;exact C
  refine Qg (Qo (Qg (wpAny_setEpoch_of u data fit ?_)));simp only [newFields];refine Qg (Ti (Qo ⟨_,rfl,"set_iterator",_,⟨_,Qx _ rfl,rfl⟩,yj.lookup,?_⟩));refine k _ s.drawn _ (λb o e=>Qi _ e) (Qu _) (by rw [QV];exact Tn _) (by rw [QV];exact jat _) ?_
  have G:(nV w a ep es).size=es.size:=by
   have:=(ao w a ep es).length_eq
   simpa using this
  refine ⟨[s.heap.objs.size,a],es.size,_,_,(nV w a ep es).toList.map λe=>aL e.2,⟨⟨0,Or.inr (Az good.1),_,Qx _ rfl,rfl,rfl⟩,Qi _ u⟩,Qe,λb g=>?_,by rw [Qa,jao,G],vals _ (ao w a ep es),λi v L=>?_,λA' q=>Bc q (QQ y) D pl⟩
  ·rw [QV]
   rcases Ql.mp g with z|g
   ·rw [z];exact ⟨Tn _, .inr (Qu _)⟩
   ·rw [Qq.mp g];exact ⟨TH y, .inl rfl⟩
  ·obtain ⟨e,he,rfl⟩:=L;have me:e∈es.toList:=(ao w a ep es).mem_iff.mp (Qc (i:=i) ‹he›);obtain ⟨tk,ht⟩:=uX D me;refine ⟨tk,aL e.2,?_,ht⟩;rw [Qh,Array.getElem?_toList,he];rfl
end
section
variable {prog:Program} {w:World} {A:Around} {E:Value->Shared->Prop} {s:Shared} {a I:Addr}
def hint_T {ns:List Int} {Q:Bool->Shared->Prop} (ty:s.TypeIs (.ref a) "set") (k:Q false s):wpAny (model prog w) A (Builtin.List.listLengthHint (.ref a)) Q E s:=by
 unfold Builtin.List.listLengthHint;refine Qg (wpAny_specialOf ty F.slot_set_len.lookup ?_);dsimp only;rw [show splitId "set.__len__"=some ("set","__len__") by decide+kernel];dsimp only;refine Qg (wpAny_isInstance ty sub_set_self ?_);rw [QO (by simp),QJ (by decide+kernel)];exact Qg (wpAny_typeOf ty (Qo k))
theorem DK:∀{vs:List Value} {os:List Int},vs.length=os.length->(∀(j:Nat) (v:Value),vs[j]? =some v->∃tk k,os[j]? =some k/\v=Value.int k tk)->PyProof.Rows.IntsAre vs os
 |[],[],_,_=> .nil
 |v::vs,k::os,hl,h=>by
  obtain ⟨tk,q,g,rfl⟩:=h 0 v rfl;cases g
  exact .cons k tk (DK ‹hl› λj v m=>by
   obtain ⟨tk,k,g,p⟩:=h (j+1) v ‹m›
   exact ⟨tk,k,by simpa using g,p⟩)
 |[],_::_,h,_=>by simp at h
 |_::_,[],h,_=>by simp at h
def Eo {ns:List Int} {Q:List Value->Shared->Prop} (quiet:A.handled=none) (T:jG prog w s.heap a (AQ w) ns) (few:ns.length<1000)
 (k:∀(h':Heap) (d) (tk:Nat) (vs:List Value) (os:List Int),(∀b o,s.heap.get? b=some o->h'.get? b=some o)->s.heap.objs.size<h'.objs.size->PyProof.Rows.IntsAre vs os->os.Perm ns->Q vs {s with heap:=h',drawn:=d,toks:=tk}):wpAny (model prog w) A (collect (.ref a)) Q E s:=by
 have X:a<s.heap.objs.size:=let ⟨_,_,_,_,⟨g,_⟩,_⟩:=T;Qv g
 unfold collect;refine Qg (wpAny_runValue (jbB PySem.F.entry_proto_collect ?_));rw [jbi PySem.F.plain_proto_collect _];show wpAny _ A.in1 (newList []>>=λl=>again (.builtin "list.__iadd__" ⟨[l, .ref a],[]⟩)) _ _ s;refine Qg (Ti (Qo ⟨plainId_quiet PySem.F.plain_list_iadd _,jbB PySem.F.entry_list_iadd ?_⟩));rw [jbi PySem.F.plain_list_iadd _];show wpAny _ A.in1 (Builtin.List.listExtendWith (.ref s.heap.objs.size) (.ref a) (.ref s.heap.objs.size)) _ _ _;unfold Builtin.List.listExtendWith;generalize M:s.heap.push {cls:= .type "list",data:= .seq ([]:List Value).toArray}=p;have g1:p.get? s.heap.objs.size=some {cls:= .type "list",data:= .seq ([]:List Value).toArray}:=by rw [<-M];exact Qx _ rfl
 have U:p.objs.size=s.heap.objs.size+1:=by rw [<-M];exact QV ..
 have N:∀b o,s.heap.get? b=some o->p.get? b=some o:=λb o e=>by rw [<-M];exact Qi _ e
 have L:jG prog w p a (AQ w) ns:=T.kept λo e=>N a o e;have y:Shared.TypeIs {s with heap:=p} (.ref a) "set":=let ⟨_,_,_,_,⟨g,x,_⟩,_⟩:=L;⟨_,g,x.1⟩
 have ne:s.heap.objs.size≠a:=jaZ X;refine Qg (wpAny_typeOf (s:={s with heap:=p}) y ?_);have c1:Builtin.List.listSameRef (.ref s.heap.objs.size) (.ref a)=false:=by unfold Builtin.List.listSameRef;simpa using ne
 rw [c1,show (Value.type "set"==Value.type "list")=false by decide,show (Value.type "set"==Value.type "tuple")=false by decide,QO (by simp)];refine Qg (iter_T (s:={s with heap:=p}) L few λq d I t J hI C W=>?_);dsimp only at t J C;have T2:jG prog w q a (AQ w) ns:=L.kept λo e=>t a o e;have u:Shared.TypeIs {s with heap:=q,drawn:=d} (.ref a) "set":=let ⟨_,_,_,_,⟨g,x,_⟩,_⟩:=T2;⟨_,g,x.1⟩
 refine Qg (jaY (hint_T (ns:=ns) (s:={s with heap:=q,drawn:=d}) u ?_));rw [QJ (by decide+kernel)];refine Qg (jce ?_);have g2:=t _ _ g1;have g3:=jaJ (Obj.mapSeq (·.push Value.none)) g2 rfl;have g4:=jaJ (Obj.mapSeq (·.pop)) g3 rfl;refine Qg (show wpAny _ A.in1 (updateSeq s.heap.objs.size (·.push .none)>>=λ_=>updateSeq s.heap.objs.size (·.pop)) _ _ _ from Qg (wpAny_updateSeq g2 rfl (wpAny_updateSeq g3 rfl ?_)));obtain ⟨fp,n,P,St,os,D,mI,K,hn,perm,val,Wk⟩:=W
 have out:s.heap.objs.size∉fp:=λz=>by
  rcases (K _ z).2 with e|e
  ·exact ne e
  ·dsimp only at e;rw [U] at e;exact absurd e (Nat.not_le.mpr (Tn _))
 have G:n<=sizeLine:=by
  have:=perm.length_eq;rw [sizeLine_eq];omega
 have oth:∀b o,b≠s.heap.objs.size->q.get? b=some o->((q.update s.heap.objs.size (Obj.mapSeq (·.push Value.none))).update s.heap.objs.size (Obj.mapSeq (·.pop))).get? b=some o:=
  λb o m e=>(jbr _ _ (Ne.symm m)).trans ((jbr _ _ (Ne.symm m)).trans e)
 have WS:=(Wk A.in1 (by simp [quiet])).toS;refine Qo ⟨plainId_quiet PySem.F.plain_extend_loop _,codeAny_extend_loopS WS G _ out _ n 0 _ _ _ rfl (TR _) ((Wk A.in1 (by simp [quiet])).frame 0 q _ D λb m o e=>oth b o (λz=>out (z▸m)) e) g4 (ItemsOf.nil P) λs' acc c r O items=>?_⟩;refine (show wpAny _ A (load s.heap.objs.size>>=_) _ _ s' from Qg (wpAny_load O (Qo ?_)));obtain ⟨h',g',d',SM,OT⟩:=s';have eg:g'=s.gens:=r.gens;have ed:d'=d:=r.drawn;have eo:OT=s.os:=r.os;subst eg;subst ed;subst eo;refine k h' d' SM acc.toList os (λb o e=>?_) (Qv O) (DK ?_ λj v Z=>?_) perm
 ·have m:b<s.heap.objs.size:=Qv e;refine r.heap b o (λz=>?_) (oth b o (QQ m) (t b o (N b o e)))
  rcases Ql.mp z with z|z
  ·exact absurd m (by rw [z];exact jaz _)
  ·rw [Qq.mp z] at m;rw [U] at J;exact absurd m (Nat.not_lt.mpr (QL (jat _) J))
 ·rw [jao,items.1,hn]
 ·obtain ⟨tk,Y,Oh,Ss⟩:=val j v (items.2 j v ‹Z›);exact ⟨tk,Y,Oh,Ss⟩
def FA {ns:List Int} {Q:Value->Shared->Prop} (quiet:A.handled=none) (T:jG prog w s.heap a (AQ w) ns) (few:ns.length<64)
 (k:∀(h':Heap) (d) (tk:Nat) (L:Addr) (out:Array Value) (os:List Int) (e:Nat),(∀b o,s.heap.get? b=some o->h'.get? b=some o)->s.heap.objs.size<=L->h'.get? L=some (PyProof.Rows.seqObj "list" out e)->PyProof.Rows.IntsAre out.toList os->os.Perm ns->os.Pairwise (·<=·)->Q (.ref L) {s with heap:=h',drawn:=d,toks:=tk}):
 wpAny (model prog w) A (call (.builtin "sorted") [.ref a]) Q E s:=by
 refine Calls.call_function_entry PyProof.Rows.kind_sorted PyProof.Rows.plain_sorted PyProof.Rows.entry_sorted (PyProof.Rows.args_sorted1 _) ?_;unfold Builtin.«sorted»;refine Qg (m:=checkCount "sorted" 1 1 _) (Qo (Qg (Eo (by simp [quiet]) T ⋯ λq d tk vs os keep lt p perm=>Qg (wpAny_newList ?_ (by rw [sizeLine_eq,p.length,perm.length_eq];omega)))));have r:(q.push (PyProof.Rows.seqObj "list" vs.toArray 0)).get? q.objs.size=some (PyProof.Rows.seqObj "list" vs.toArray 0):=Qx _ rfl
 have lv:vs.length<64:=by
  have z:=p.length;have y:=perm.length_eq;omega
 show wpAny _ _ _ _ _ {s with heap:=q.push (PyProof.Rows.seqObj "list" vs.toArray 0),drawn:=d,toks:=tk};refine Qg (jaY (TX PyProof.Rows.slot_list_sort ⟨_,r,rfl⟩ PyProof.Rows.entry_list_sort (PyProof.Rows.list_sort_tree (s:={s with heap:=q.push (PyProof.Rows.seqObj "list" vs.toArray 0),drawn:=d,toks:=tk}) r p lv λout u a1 a2 a3=>⟨_,rfl,?_⟩) (PyProof.Rows.args_list_sort _)));obtain ⟨e,he⟩:=PyProof.Rows.sortedHeap_at (out:=out) r;refine Qo ⟨_,rfl,k _ d tk _ out u e (λb o g=>?_) (jbn lt) he a1 (a2.trans perm) a3⟩;have t:b<q.objs.size:=Qv (keep b o g);rw [PyProof.Rows.sortedHeap_old (QQ t) (by rw [QV];exact TH t)];exact Qi _ (keep b o g)
end
end S
namespace S
open PySem PySem.Spec PyProof.Rows L2
def jG.nodup    (T:jG prog w h a b ns):ns.Nodup:=by
 obtain ⟨_,_,_,_,_,_,_,_,nd⟩:=T;exact nd
def bt_set:bootBuiltins "set"=some (.type "set"):=by decide+kernel
def Ay:bootBuiltins "sorted"=some (.builtin "sorted"):=by decide+kernel
theorem le_lt:∀{l:List Int},l.Pairwise (·<=·)->l.Nodup->l.Pairwise (·<·)
 |[],_,_=>List.Pairwise.nil
 |x::l,h,nd=>by
  obtain ⟨q,p⟩:=Qn.mp h;obtain ⟨n1,m⟩:=TZ.mp nd;refine Qn.mpr ⟨λy g=>?_,le_lt p m⟩;have:=q y g;have:x≠y:=λe=>n1 (e▸g);omega
section
variable {X:Cx}
def Inv.redrawn   (I:Inv X pins σ H s):Inv X pins σ H {s with drawn:=d}:=⟨I.ok,I.os,I.bare,I.base,I.loc,I.cell,I.free,I.freeC,I.pin,I.hok,I.len⟩
def Cv (K:Frg):V->Hp->VK->Prop:=λx H1 Q=>∃(p:Addr) (ns:List Int),x= .ref p/\SqL K H1 p (ns.map V.int)/\ns.length<60/\∀(os:List Int) (l:Addr),os.Pairwise (·<·)->(∀k,k∈os↔k∈ns)->H1 l=none->Q (.ref l) (upd H1 l (.lst (os.map V.int)))
def Ib (K:Frg) (g:TE):TE:=λσ H Q=>g σ H λx H1=>Cv K x H1 Q
theorem cO:∀{ns:List Int} {us:List Value},IntsAre us ns->xx (ns.map V.int) us
 |[],_, .nil=> .nil
 |n::ns,_, .cons _ t r=> .cons ⟨t,rfl⟩ (cO r)
def Ga  (hc:X.calm=true) (g1:Gl X "sorted") (P:X.mg "sorted"=none) (g2:Gl X "set") (m2:X.mg "set"=none) (he:PE X e te)
 (m:starEach [.Call (.Name "set" p2) [e] [] q2] X.env=[(false,eval (.Call (.Name "set" p2) [e] [] q2) X.env)]:=by rfl) (J:starEach [e] X.env=[(false,eval e X.env)]:=by rfl):
 PE X (.Call (.Name "sorted" p1) [.Call (.Name "set" p2) [e] [] q2] [] q1) (Ib X.K te):=by
 intro pins s σ H Q I h;refine jaM (ax I g1 P Ay ?_ nofun nofun);refine PyProof.Rows.callWith_builtin1 ?_ m (by rfl);rw [m];show wpAny _ _ (spliced ((false,eval (.Call (.Name "set" p2) [e] [] q2) X.env)::backTo q1 (starEach [] X.env))) _ _ s;refine Calls.spliced_cons ?_;refine jaM (ax I g2 m2 bt_set ?_ nofun nofun);refine jap (thn ((Vg he gB J) q2 pins s σ H (λvs H1=>match vs with|[x]=>Cv X.K x H1 Q|_=>False) I h) ?_) J (by rfl);rintro us s1 ⟨vs,H1,C,t,r⟩
 match vs,t,r with
 |[x],t,r=>
  obtain ⟨p,ns,rfl,Y,few,k⟩:=r;obtain ⟨u,rfl,N⟩:=UK t;cases N;obtain ⟨its,O,pl,_⟩:=C.list Y;have D:=Xy O;have hl:=D.length;have quiet:=C.ok.hd hc;refine Aw quiet pl.isList ‹D› (by simpa using (by omega:its.length<900)) λz A T G U Z PU=>?_;refine Calls.spliced_nil ?_;have y:∀b o,s1.heap.get? b=some o->z.get? b=some o:=λb o e=>PU b o (Qv e) e;have M:Inv X pins σ H1 {s1 with heap:=z,toks:=A}:=C.kept (t':=A) y;refine FA (s:={s1 with heap:=z,toks:=A}) quiet G ⋯ λh3 d g L out os e PR le gL q perm sorted=>?_;have I3:=Inv.redrawn (d:=d) M;have nd:os.Nodup:=perm.nodup_iff.mpr G.nodup;have lo:=q.length;have po:=perm.length_eq;have I4:Inv X pins σ (upd H1 L (.lst (os.map V.int))) {s1 with heap:=h3,drawn:=d,toks:=g}:=I3.laid (t':=g) PR le (show Yp X.prog X.w _ _ _ (.lst (os.map V.int)) from ⟨?_,out.toList,e,cO q,?_⟩)
  ·exact ⟨.ref L,_,I4,rfl,k os L (le_lt sorted nd) (λx=>by rw [perm.mem_iff];exact U x) (M.hok.fresh le)⟩
  ·rw [Qa,sizeLine_eq];omega
  ·simpa using gL
end
section
variable {X:Cx}
def rMinT (K:Frg):List V->Hp->VK->Prop:=λxs H Q=>∃(p:Addr) (ns:List Int),xs=[.ref p]/\SqT K H p (ns.map V.int)/\0<ns.length/\∀m,m∈ns->(∀x∈ns,m<=x)->Q (.int m) H
def JQ (K:Frg):List V->Hp->VK->Prop:=λxs H Q=>∃(p:Addr) (ns:List Int),xs=[.ref p]/\SqL K H p (ns.map V.int)/\0<ns.length/\∀m,m∈ns->(∀x∈ns,x<=m)->Q (.int m) H
def VE  (m:IntsAre its ns):∀(i:Nat) (v:Value),its.toArray[i]? =some v->∃t,v= .int ((λi=>ns.getD i 0) i) t:=λi v g=>PyProof.Rows.IntsAre.int_at m i v ‹g›
def Es (N:X.calm=true):Wt X (.builtin "min") (rMinT X.K):=by
 intro pins s σ H xs us Q I r h;obtain ⟨p,ns,rfl,G,U,q⟩:=h;obtain ⟨u,rfl,y⟩:=UK r;cases y;obtain ⟨its,C,ht,hz⟩:=I.tuple G;have m:=Xy C;have J:=m.length;have below:p≠s.heap.objs.size:=let ⟨_,e,_⟩:=ht;QQ (Qv e)
 refine call_min_walk (jau ht ⟨_,_,_,_,_,_,_,rfl,Walks.tuple (A:=X.A.in1) (I.ok.hd N) _ p below its.toArray,⟨⟨_,Qx _ rfl,rfl,rfl⟩,ht.push _⟩,λb O=>?_,by simpa using (by omega:0<its.length),CmpOf.ints_lt (λi=>ns.getD i 0) (VE m),λv h' tk P L=>?_⟩)
 ·rw [QV]
  rcases Ql.mp O with z|z
  ·rw [z];exact Tn _
  ·rw [Qq.mp z];obtain ⟨_,e,_⟩:=ht;exact TH (Qv e)
 ·obtain ⟨t,rfl⟩:=VE m _ v P;obtain ⟨T,w⟩:=argBest_lt (λi=>ns.getD i 0) (its.toArray.size - 1);have g:its.toArray.size=ns.length:=by simpa using J
  rw [g] at T w;rw [g];refine ⟨.int _,H,I.kept (t':=tk) λb o e=>L b o (λz=>?_) (Qi _ e),⟨t,rfl⟩,q _ ?_ λx D=>?_⟩
  ·rw [Qq.mp z] at e;exact absurd (Qv e) (jaz _)
  ·dsimp only;rw [Qk,Qb ⋯];exact Ta _
  ·obtain ⟨j,M,rfl⟩:=QS D;have:=w j ⋯;rwa [show ns.getD j 0=ns[j] by rw [Qk,Qb M];rfl] at this
def call_maxL (N:X.calm=true):Wt X (.builtin "max") (JQ X.K):=by
 intro pins s σ H xs us Q I r h;obtain ⟨p,ns,rfl,G,U,q⟩:=h;obtain ⟨u,rfl,y⟩:=UK r;cases y;obtain ⟨its,C,pl,hz⟩:=I.list G;have ht:=pl.isList;have m:=Xy C;have J:=m.length;have below:p≠s.heap.objs.size:=let ⟨_,e,_⟩:=ht;QQ (Qv e)
 refine call_max_walk (jaF ht ⟨_,_,_,_,_,_,_,rfl,Walks.list (A:=X.A.in1) (I.ok.hd N) _ p below its.toArray,⟨⟨_,Qx _ rfl,rfl,rfl⟩,ht.push _⟩,λb O=>?_,by simpa using (by omega:0<its.length),CmpOf.ints_gt (λi=>ns.getD i 0) (VE m),λv h' tk P L=>?_⟩)
 ·rw [QV]
  rcases Ql.mp O with z|z
  ·rw [z];exact Tn _
  ·rw [Qq.mp z];obtain ⟨_,e,_⟩:=ht;exact TH (Qv e)
 ·obtain ⟨t,rfl⟩:=VE m _ v P;obtain ⟨T,w⟩:=argBest_gt (λi=>ns.getD i 0) (its.toArray.size - 1);have g:its.toArray.size=ns.length:=by simpa using J
  rw [g] at T w;rw [g];refine ⟨.int _,H,I.kept (t':=tk) λb o e=>L b o (λz=>?_) (Qi _ e),⟨t,rfl⟩,q _ ?_ λx D=>?_⟩
  ·rw [Qq.mp z] at e;exact absurd (Qv e) (jaz _)
  ·dsimp only;rw [Qk,Qb ⋯];exact Ta _
  ·obtain ⟨j,M,rfl⟩:=QS D;have:=w j ⋯;rwa [show ns.getD j 0=ns[j] by rw [Qk,Qb M];rfl] at this
end
def cP  (z:a.1<b.1) (lk:k.2.length=m) (D:a.2.length=m) (t:zR k a b) (s:zR a b c):zR k b c:=λi K B C g p r=>by
 have G:i<m:=by rw [<-lk];exact (Qd.mp g).1
 have q:=Qb (l:=a.2) (i:=i) ⋯;have J:=t i K _ B g q p;have I:=s i _ B C q p r;generalize a.2[i]=A at*;have y:(B - K)*(b.1 - a.1)=(B - A)*(b.1 - k.1):=by grind
 have w:(C - K)*(b.1 - a.1)=(B - A)*(c.1 - k.1):=by grind
 have u:((B - K)*(c.1 - k.1) - (C - K)*(b.1 - k.1))*(b.1 - a.1)=0:=by
  have:((B - K)*(c.1 - k.1) - (C - K)*(b.1 - k.1))*(b.1 - a.1)=((B - K)*(b.1 - a.1))*(c.1 - k.1) - ((C - K)*(b.1 - a.1))*(b.1 - k.1):=by grind
  rw [this,y,w];grind
 have:=zV u (xQ z)
 grind
def eJ  (lc:c.2.length=m) (ld:d.2.length=m):(XS c d e).length=m:=by
 unfold XS;rw [QC,lc,ld];exact TM _
def rY   (I:a.1<b.1) (D:b.1<c.1) (t:a.2.length=m) (K:b.2.length=m) (lc:c.2.length=m) (st:zR a b c) (U:a.1<=e):zh (a::b::c::r) e=zh (a::c::r) e:=by
 have u:=xl I D
 by_cases G:e<b.1
 ·rw [zh,QJ G,zh,QJ (xl G D)];refine (UE u (by rw [t,lc]) (by rw [t,eJ t K]) λi p q z hp A hz=>?_).symm;obtain ⟨T,g,L,J,ez⟩:=Ym hz;rw [hp] at L;cases L;have w:=xi (x:=p) (y:=g) (E:=e) I;rw [<-ez] at w;have s:=st i p g q hp J A
  have:((z - p)*(c.1 - a.1) - (q - p)*(e - a.1))*(b.1 - a.1)=0:=by
   have:((z - p)*(c.1 - a.1) - (q - p)*(e - a.1))*(b.1 - a.1)=((z - p)*(b.1 - a.1))*(c.1 - a.1) - ((q - p)*(b.1 - a.1))*(e - a.1):=by grind
   rw [this,w,<-s];grind
  have:=zV this (xQ I)
  grind
 ·rw [zW (Tg.mp G)]
  by_cases C:e<c.1
  ·rw [zh,QJ C,zh,QJ C];refine (UE u (by rw [t,lc]) (by rw [t,eJ K lc]) λi p q z hp A hz=>?_).symm;obtain ⟨g,P,J,M,ez⟩:=Ym hz;rw [A] at M;cases M;have w:=xi (x:=g) (y:=q) (E:=e) D;rw [<-ez] at w;have s:=st i p g q hp J A;have s1:(g - p)*(c.1 - b.1)=(q - g)*(b.1 - a.1):=by grind
   have:((z - p)*(c.1 - a.1) - (q - p)*(e - a.1))*(c.1 - b.1)=0:=by
    have O:(z - p)*(c.1 - b.1)=(e - b.1)*(q - g)+(g - p)*(c.1 - b.1):=by grind
    have N:((z - p)*(c.1 - a.1) - (q - p)*(e - a.1))*(c.1 - b.1)=((z - p)*(c.1 - b.1))*(c.1 - a.1) - (q - p)*(e - a.1)*(c.1 - b.1):=by grind
    rw [N,O,s1]
    grind
   have:=zV this (xQ D)
   grind
  ·rw [zW (Tg.mp C),zW (Tg.mp C)]
theorem bR  :∀(r:List zg) (k a b:zg),yu (k::b::r)->(∀x∈k::b::r,x.2.length=m)->k.1<=e->(a=k\/(k.1<a.1/\a.1<b.1/\a.2.length=m/\zR k a b))->
 zh (k::yh a (b::r)) e=zh (k::b::r) e
 |[],k,a,b,_,_,_,_=>by rw [yh]
 |c::r,k,a,b,hr,hl,hk,ha=>by
  obtain ⟨t,s⟩:=Qn.mp hr;obtain ⟨C,A⟩:=Qn.mp s;have u:=t b (Qe ..);have w:=C c (Qe ..);have lk:=hl k (Qe ..);have q:=hl b (Qf _ (Qe ..));have lc:=hl c (Qf _ (Qf _ (Qe ..)));rw [yh]
  split
  ·rename_i st
   have y:zR k b c:=by
    rcases ha with rfl|⟨_,D,z,s0⟩
    ·exact st
    ·exact cP D lk z s0 st
   have rk:yu (k::c::r):=Qn.mpr ⟨λx g=>t x (Qf _ g),A⟩
   rw [bR r k b c rk (λx g=>hl x (by
    rcases Ql.mp g with rfl|g
    ·exact Qe ..
    ·exact Qf _ (Qf _ g))) hk (.inr ⟨u,w,q,y⟩),rY u w lk q lc y hk]
  ·by_cases p:e<b.1
   ·rw [zh,QJ p,zh,QJ p]
   ·rw [zW (Tg.mp p),zW (Tg.mp p)];exact bR r b b c s (λx g=>hl x (Qf _ g)) (Tg.mp p) (.inl rfl)
def mY   (hr:yu (c::r)) (g:∀x∈c::r,x.2.length=m) (p:c.1<=e):zh (yn (c::r)) e=zh (c::r) e:=by
 rw [yn]
 cases r with
 |nil=>rw [yh]
 |cons b r=>exact bR r c c b hr g p (.inl rfl)
theorem Vf  :∀{c:zg} {r:List zg},c.1<=e->e<(lastC (c::r)).1->zh (c::r++M) e=zh (c::r) e
 |c,[],hc,he=>absurd he (Tg.mpr hc)
 |c,d::r,hc,he=>by
  rw [TK,TK,zh,zh]
  by_cases h:e<d.1
  ·rw [QJ h,QJ h]
  ·rw [QO h,QO h];rw [ZN] at he;exact Vf (c:=d) (r:=r) (Tg.mp h) he
theorem Yb  :∀{c:zg} {r:List zg},yu (c::r)->(lastC (c::r)).1<=e->zh (c::r++M) e=zh (lastC (c::r)::M) e
 |c,[],_,_=>rfl
 |c,d::r,hr,he=>by
  have g:=(Qn.mp hr).2;rw [ZN] at he⊢
  have hd:d.1<=e:=by
   refine TN ?_ he
   have m:lastC (d::r)∈d::r:=by
    unfold lastC;rw [Te (by simp)];exact List.getLast_mem _
   rcases Ql.mp m with z|z
   ·rw [z];exact QR
   ·exact QE ((Qn.mp g).1 _ z)
  rw [TK,TK,zW hd];exact Yb g he
def Ew  (lc:c.2.length=m) (g:q.2.length=m) (ld:d.2.length=m):XS (VS c q) (VS c d) e=List.zipWith (·+·) c.2 (XS q d (e - c.1)):=by
 have et:(e - (VS c q).1) / ((VS c d).1 - (VS c q).1)=(e - c.1 - q.1) / (d.1 - q.1):=by
  show (e - (c.1+q.1)) / ((c.1+d.1) - (c.1+q.1))=_;rw [show e - (c.1+q.1)=e - c.1 - q.1 by grind,show c.1+d.1 - (c.1+q.1)=d.1 - q.1 by grind]
 unfold XS;rw [et];generalize (e - c.1 - q.1) / (d.1 - q.1)=t;show List.zipWith (xU t) (List.zipWith (·+·) c.2 q.2) (List.zipWith (·+·) c.2 d.2)=_
 apply Tt
 ·simp only [QC];omega
 ·intro i r p;simp only [QY];unfold xU
  grind
theorem gu  (lc:c.2.length=m):∀{q:zg} {r:List zg},(∀x∈q::r,x.2.length=m)->zh ((q::r).map (VS c)) e=List.zipWith (·+·) c.2 (zh (q::r) (e - c.1))
 |q,[],_=>rfl
 |q,d::r,h=>by
  rw [Qp,Qp,zh,zh]
  have hd:e<(VS c d).1↔e - c.1<d.1:=by
   show e<c.1+d.1↔_
   constructor<;>intro h<;>grind
  by_cases g:e - c.1<d.1
  ·rw [QJ g,QJ (hd.mpr g)];exact Ew lc (h q (Qe ..)) (h d (Qf _ (Qe ..)))
  ·rw [QO g,QO λz=>g (hd.mp z)];have:=gu (e:=e) lc (q:=d) (r:=r) λx p=>h x (Qf _ p);rw [Qp] at this;exact this
def Eg {a b p:Rat} (hp:0<p):a<b*p↔a / p<b:=by
 have m:p≠0:=λz=>by rw [z] at hp;exact jaP hp
 have g:a=a / p*p:=by rw [jai,Rat.mul_assoc,Rat.inv_mul_cancel _ m,Rat.mul_one]
 constructor
 ·intro h;refine jaq.mp λhle=>?_;have:=Rat.mul_le_mul_of_nonneg_right hle (QE hp);rw [<-g] at this;exact Tg.mpr this h
 ·intro h;have:=Rat.mul_lt_mul_of_pos_right h hp;rwa [<-g] at this
theorem Ve {p e:Rat} (hp:0<p):∀{a:List zg},zh (zS p a) e=(zh a (e / p)).map (·*p)
 |[]=>rfl
 |[c]=>rfl
 |c::d::r=>by
  have g:=Ve (e:=e) hp (a:=d::r);unfold zS at*;rw [Qp,Qp,zh,zh]
  by_cases h:e / p<d.1
  ·rw [QJ h,QJ ((Eg hp).mpr h)];have m:p≠0:=λz=>by rw [z] at hp;exact jaP hp
   have et:(e - c.1*p) / (d.1*p - c.1*p)=(e / p - c.1) / (d.1 - c.1):=by
    have A:=jac p m
    have s:e - c.1*p=(e / p - c.1)*p:=by
     rw [jai];generalize p⁻¹=j at*;grind
    have q:d.1*p - c.1*p=(d.1 - c.1)*p:=by grind
    rw [s,q]
    by_cases z:d.1 - c.1=0
    ·rw [z,jbS,jai,Rat.inv_zero,Rat.mul_zero,jai,Rat.inv_zero,Rat.mul_zero]
    ·have z2:(d.1 - c.1)*p≠0:=λh=>z (zV h m);have y:=jac _ z;have w:=jac _ z2;rw [jai,jai ((e / p - c.1))];generalize (d.1 - c.1)⁻¹=j at*;generalize ((d.1 - c.1)*p)⁻¹=l at*;generalize e / p - c.1=u at*;generalize d.1 - c.1=v at*;have:u*p*l=u*p*l*(v*j):=by rw [y,Rat.mul_one]
     rw [this];have:u*p*l*(v*j)=u*j*(v*p*l):=by grind
     rw [this,w,Rat.mul_one]
   unfold XS;dsimp only;rw [et];generalize (e / p - c.1) / (d.1 - c.1)=t
   apply Tt
   ·simp
   ·intro i D C;simp only [QY,jaD];unfold xU
    grind
  ·rw [QO h,QO λz=>h ((Eg hp).mp z)];rw [Qp] at g;exact g
noncomputable def mn (a l:Rat):Rat:=if a<=l then a else l
def Iy (a l:Int):((min a l:Int):Rat)=mn (a:Rat) (l:Rat):=by
 unfold mn
 by_cases h:a<=l
 ·rw [QJ (Tc.mpr h),Int.min_eq_left h]
 ·rw [QO λz=>h (Tc.mp z),Int.min_eq_right ⋯]
def mn_mix (t0:0<=t) (t1:t<=1) (h:(a<=x/\a<=y)\/(x<=a/\y<=a)):xU t (mn a x) (mn a y)=mn a (xU t x y):=by
 rcases h with ⟨p,g⟩|⟨p,g⟩
 ·have u:mn a x=a:=by unfold mn;rw [QJ p]
  have s:mn a y=a:=by unfold mn;rw [QJ g]
  have r:a<=xU t x y:=by
   have a1:=QX t0 (show 0<=y - a by grind);have a2:=QX (show 0<=1 - t by grind) (show 0<=x - a by grind);unfold xU;grind
  have q:mn a (xU t x y)=a:=by unfold mn;rw [QJ r]
  rw [u,s,q];unfold xU;grind
 ·have m:∀z,z<=a->mn a z=z:=λz hz=>by
   unfold mn
   split
   ·exact jaL (by assumption) hz
   ·rfl
  have r:xU t x y<=a:=by
   have a1:=QX t0 (show 0<=a - y by grind);have a2:=QX (show 0<=1 - t by grind) (show 0<=a - x by grind);unfold xU;grind
  rw [m x p,m y g,m _ r]
def wt {s d e:Rat} (h:s<d) (q:s<=e) (p:e<d):0<=(e - s) / (d - s)/\(e - s) / (d - s)<=1:=by
 have hp:0<d - s:=by grind
 have m:=jac _ (xQ h);have g:0<(d - s)⁻¹:=Rat.inv_pos.mpr hp;rw [jai];have a1:=QX (show 0<=e - s by grind) (QE g);have a2:=QX (show 0<=d - e by grind) (QE g);generalize (d - s)⁻¹=j at*
 constructor
 ·exact a1
 ·grind
def BB {as ls:List Int} {G:Rat->Rat->Rat} {C:Int->zg} (u:∀l,(C l).2=as.map λ(a:Int)=>G (a:Rat) (l:Rat)) (rise:yu (ls.map C)) (nn:∀l∈ls,0<=l)
 (mix:∀(i:Nat) (l l':Int),ls[i]? =some l->ls[i+1]? =some l'->∀a∈as,∀t:Rat,0<=t->t<=1->xU t (G (a:Rat) (l:Rat)) (G (a:Rat) (l':Rat))=G (a:Rat) (xU t (l:Rat) (l':Rat)))
 {e:Rat} {p:Int} (h0:ls[0]? =some p) (he:(C p).1<=e):∃z:Rat,0<=z/\zh (ls.map C) e=as.map λ(a:Int)=>G (a:Rat) z:=by
 obtain ⟨i,q,w,D,nx⟩:=nq (M:=zZ (ls.map C)) (z:=(C p).1) (by unfold zZ;rw [Qr,Qh,h0];rfl) he;unfold zZ at w nx;obtain ⟨c,s,rfl⟩:=zK w;obtain ⟨l,y,rfl⟩:=zK s;have g:(0:Rat)<=(l:Rat):=by exact_mod_cast Rat.intCast_nonneg.mpr (nn l (Qc y))
 have key:=Zp (E:=e) rise s D (by
  rcases nx with h|⟨r,hr,h⟩
  ·left;simpa using h
  ·obtain ⟨d,hd,rfl⟩:=zK hr
   exact .inr ⟨d,hd,h⟩)
 rcases nx with h|⟨r,hr,h⟩
 ·rw [QG (by simp only [Qa] at h⊢;omega)] at key;refine ⟨l,g,?_⟩;rw [key];exact u l
 ·obtain ⟨d,hd,rfl⟩:=zK hr;obtain ⟨l',A,rfl⟩:=zK hd;rw [hd] at key;have m:(0:Rat)<=(l':Rat):=by exact_mod_cast Rat.intCast_nonneg.mpr (nn l' (Qc A))
  have I:(C l).1<(C l').1:=by
   have:=fU (M:=zZ (ls.map C)) (Wl rise) (j:=i) (by unfold zZ;rw [Qh,s];rfl) (by unfold zZ;rw [Qh,hd];rfl);exact this
  obtain ⟨t0,t1⟩:=wt I D h;refine ⟨xU ((e - (C l).1) / ((C l').1 - (C l).1)) l l',?_,?_⟩
  ·have a1:=QX t0 m;have a2:=QX (show 0<=1 - (e - (C l).1) / ((C l').1 - (C l).1) by grind) g;unfold xU;grind
  ·rw [key];show XS (C l) (C l') e=_;unfold XS;generalize (e - (C l).1) / ((C l').1 - (C l).1)=t at*;rw [u,u]
   apply Tt
   ·simp
   ·intro j K J;simp only [QY,jaD];exact mix i l l' y A _ (Ta _) t t0 t1
theorem gq  :∀{c:zg} {r:List zg},yu (c::r)->(∀x∈c::r,x.2.length=m/\zM x.2=x.1)->c.1<=e->e<=(lastC (c::r)).1->zM (zh (c::r) e)=e
 |c,[],_,h,hc,hl=>by
  have t:e=c.1:=jaL hl hc;rw [t];exact (h c (Qe ..)).2
 |c,d::r,hr,h,hc,hl=>by
  have q:=(Qn.mp hr).1 d (Qe ..);have p:=h c (Qe ..);have g:=h d (Qf _ (Qe ..))
  by_cases hd:d.1<=e
  ·rw [zW hd];exact gq (Qn.mp hr).2 (λx s=>h x (Qf _ s)) hd (by rw [<-ZN c];exact hl)
  ·have u:e<d.1:=jaq.mp hd;rw [zh,QJ u];unfold XS;rw [lr _ _ _ (by rw [p.1,g.1]),p.2,g.2];have w:=xi (x:=c.1) (y:=d.1) (E:=e) q;have:=zV (a:=xU ((e - c.1) / (d.1 - c.1)) c.1 d.1 - e) (b:=d.1 - c.1) (by grind) (xQ q)
   grind
def gv  (hr:yu (c::r)) (he:(lastC (c::r)).1<=e):zh (c::r) e=(lastC (c::r)).2:=by
 have:=Yb (M:=[]) hr he;rw [jaI] at this;rw [this];rfl
noncomputable def zY (h:List Int):zg:=((h.sum:Int),h.map λ(x:Int)=>(x:Rat))
theorem UM:∀h:List Int,zM (h.map λ(x:Int)=>(x:Rat))=((h.sum:Int):Rat)
 |[]=>rfl
 |x::h=>by rw [Qp,zM,UM h,QN,Rat.intCast_add]
theorem aQ {f g:Int->Int}:∀{as:List Int},(∀a∈as,f a<=g a)->(as.map f).sum<=(as.map g).sum
 |[],_=>jbP _
 |a::as,h=>by
  have p:=aQ λx m=>h x (Qf _ m);have:=h a (Qe ..);rw [Qp,Qp,QN,QN];omega
theorem aP {f g:Int->Int}:∀{as:List Int} {b:Int},(∀a∈as,f a<=g a)->b∈as->f b<g b->(as.map f).sum<(as.map g).sum
 |[],b,_,m,_=>by simp at m
 |a::as,b,h,m,MF=>by
  rw [Qp,Qp,QN,QN];have ha:=h a (Qe ..)
  rcases Ql.mp m with rfl|m
  ·have:=aQ λx p=>h x (Qf _ p);omega
  ·have:=aP (λx p=>h x (Qf _ p)) m MF;omega
structure LvOk (as ls:List Int):Prop where
 rise:ls.Pairwise (·<·)
 mem:∀k,k∈ls↔k=0\/k∈as
 nn:∀a∈as,0<=a
noncomputable def WM (as:List Int) (l:Int):List Int:=as.map λa=>min a l
noncomputable def aA (as:List Int) (l:Int):List Int:=as.map λa=>a - min a l
noncomputable def evP (as ls:List Int):List zg:=ls.map λl=>zY (WM as l)
noncomputable def loP (as ls:List Int):List zg:=ls.reverse.map λl=>zY (aA as l)
section
variable {as ls:List Int}
def LvOk.nnL (h:LvOk as ls):∀l∈ls,0<=l:=λl g=>by
 rcases (h.mem l).mp g with rfl|z
 ·exact jbP _
 ·exact h.nn l z
def LvOk.zero (h:LvOk as ls):ls[0]? =some 0:=by
 have m0:(0:Int)∈ls:=(h.mem 0).mpr (.inl rfl)
 cases ls with
 |nil=>simp at m0
 |cons a l=>
  have ha:=h.nnL a (Qe ..)
  rcases Ql.mp m0 with e|e
  ·rw [e];rfl
  ·have:=(Qn.mp h.rise).1 0 e;omega
def LvOk.gap (h:LvOk as ls)  (t:ls[i]? =some l) (u:ls[i+1]? =some l') (ha:a∈as):a<=l\/l'<=a:=by
 have m:=(h.mem a).mpr (.inr ha);obtain ⟨j,q,g⟩:=QS m;obtain ⟨li,r⟩:=Qd.mp t;obtain ⟨p,s⟩:=Qd.mp u;have P:=QP.mp h.rise
 rcases Nat.lt_or_ge j (i+1) with c|c
 ·left
  by_cases e:j=i
  ·subst e;rw [<-g,<-r];exact jbP _
  ·have:=P j i q li ⋯;rw [g,r] at this;omega
 ·right
  by_cases e:j=i+1
  ·subst e;rw [<-g,<-s];exact jbP _
  ·have:=P (i+1) j p q ⋯;rw [g,s] at this;omega
def LvOk.sumlt (h:LvOk as ls) {l l':Int} (g:l∈ls) (p:l'∈ls) (lt:l<l'):(WM as l).sum<(WM as l').sum:=by
 have m:l'∈as:=((h.mem l').mp p).resolve_left (by have:=h.nnL l g;omega);exact aP (λa _=>by omega) m ⋯
theorem uI:∀(as:List Int) (l:Int),(aA as l).sum=as.sum - (WM as l).sum
 |[],_=>rfl
 |a::as,l=>by
  have:=uI as l;unfold aA WM at*;rw [Qp,Qp,QN,QN,QN,this];omega
def LvOk.riseE (h:LvOk as ls):yu (evP as ls):=by
 unfold yu evP;rw [Tj];exact h.rise.imp_of_mem λ{a b} ha hb lt=>jbt.mpr (h.sumlt ha hb lt)
def LvOk.top (h:LvOk as ls):∃t,ls.getLast? =some t/\∀a∈as,a<=t:=by
 have ne:ls≠[]:=λe=>by have:=h.zero;rw [e] at this;simp at this
 refine ⟨_,Te ne,λa ha=>?_⟩;have m:=(h.mem a).mpr (.inr ha);rw [<-jal ne] at m;have R:=h.rise;rw [<-jal ne] at R
 rcases QT.mp m with z|z
 ·exact jbc ((TU.mp R).2.2 a z _ (by simp))
 ·rw [Qq.mp z];exact jbP _
def Ks (h:∀a∈as,a<=t):WM as t=as:=by
 unfold WM
 conv=>rhs;rw [<-List.map_id as]
 exact QK λa ha=>by show min a t=a;have:=h a ha;omega
def uA (h:∀a∈as,0<=a):WM as 0=Yh as.length:=by
 unfold WM Yh;rw [<-jaT];exact QK λa ha=>by have:=h a ha;omega
def LvOk.evenly (h:LvOk as ls) {e:Rat} (h0:0<=e):∃z:Rat,0<=z/\zh (evP as ls) e=as.map λ(a:Int)=>mn (a:Rat) z:=by
 refine BB (G:=mn) (C:=λl=>zY (WM as l)) (λl=>?_) h.riseE h.nnL (λi l l' m p a ha t t0 t1=>mn_mix t0 t1 ?_) h.zero ?_
 ·unfold zY WM;rw [Qr];exact QK λa _=>Iy a l
 ·obtain ⟨li,q⟩:=Qd.mp m;obtain ⟨g,r⟩:=Qd.mp p;have lt:=QP.mp h.rise i (i+1) li g ⋯;rw [q,r] at lt
  rcases h.gap m p ha with z|z
  ·exact .inl ⟨Tc.mpr z,Tc.mpr ⋯⟩
  ·exact .inr ⟨Tc.mpr ⋯,Tc.mpr z⟩
 ·show ((WM as 0).sum:Rat)<=e;rw [uA h.nn,nZ];exact h0
end
section
variable {as ls:List Int}
def Ed (h:LvOk as ls):∃r,evP as ls=zY (Yh as.length)::r:=by
 have z:=h.zero
 cases ls with
 |nil=>simp at z
 |cons a l=>
  have:a=0:=by simpa using z
  subst this;exact ⟨_,by unfold evP;rw [Qp,uA h.nn]⟩
def uW (h:LvOk as ls):lastC (evP as ls)=zY as:=by
 obtain ⟨t,ht,top⟩:=h.top;unfold lastC evP;rw [jaH,ht];show zY (WM as t)=_;rw [Ks top]
def vN:∀(as:List Int) (l:Int),Ug (zY as) (zY (WM as l))=zY (aA as l):=λas l=>by
 unfold Ug zY;refine Prod.ext ?_ ?_
 ·show ((as.sum:Int):Rat) - ((WM as l).sum:Int)=((aA as l).sum:Int);rw [uI,jaU]
 ·show List.zipWith (· - ·) (as.map λ(x:Int)=>(x:Rat)) ((WM as l).map λ(x:Int)=>(x:Rat))=(aA as l).map λ(x:Int)=>(x:Rat);unfold WM aA
  apply Tt
  ·simp
  ·intro i m g;simp only [QY,jaD];rw [jaU]
def eY (h:LvOk as ls):yx (evP as ls)=loP as ls:=by
 unfold yx;rw [uW h];unfold evP loP;rw [<-List.map_reverse,Qr];exact QK λl _=>vN as l
def loP_ne (h:LvOk as ls):∃r,loP as ls=zY (Yh as.length)::r:=by
 obtain ⟨t,ht,top⟩:=h.top;have ne:ls≠[]:=λe=>by rw [e] at ht;simp at ht
 obtain ⟨g,m⟩:=List.getLast?_eq_some_iff.mp ht;refine ⟨g.reverse.map λl=>zY (aA as l),?_⟩;unfold loP;rw [m,List.reverse_append,List.reverse_singleton,List.singleton_append,Qp]
 congr 2
 unfold aA Yh;rw [<-jaT];exact QK λa ha=>by have:=top a ha;omega
def XT (h:List Int):(zY h).2.length=h.length/\zM (zY h).2=(zY h).1:=⟨Qa _,UM h⟩
def uV (as ls:List Int):∀c∈evP as ls,c.2.length=as.length/\zM c.2=c.1:=λc g=>by
 obtain ⟨l,_,rfl⟩:=Qj.mp g;have:=XT (WM as l);rwa [show (WM as l).length=as.length by unfold WM;rw [Qa]] at this
def Du (as ls:List Int):∀c∈loP as ls,c.2.length=as.length/\zM c.2=c.1:=λc g=>by
 obtain ⟨l,_,rfl⟩:=Qj.mp g;have:=XT (aA as l);rwa [show (aA as l).length=as.length by unfold aA;rw [Qa]] at this
def Wv (m:Nat):zY (Yh m)=(0,List.replicate m 0):=by
 unfold zY;rw [nZ];unfold Yh;rw [jbx];rfl
def tW  (r:List zg) (p:P=(0,List.replicate m 0)::r) (rise:yu P) (ok:∀c∈P,c.2.length=m/\zM c.2=c.1) (h0:0<=e):zM (zh P e)=mn e (lastC P).1:=by
 subst p;unfold mn
 split
 ·exact gq rise ok h0 (by assumption)
 ·rename_i z;have g:=jaq.mp z;rw [gv rise (QE g)]
  have m:lastC ((0,List.replicate m 0)::r)∈((0:Rat),List.replicate m (0:Rat))::r:=by
   unfold lastC;rw [Te (by simp)];exact List.getLast_mem _
  exact (ok _ m).2
noncomputable def hfA (as ls:List Int):List zg:=zS (1 / 2) (evP as ls)
noncomputable def hfB (as ls:List Int):List zg:=zS (1 / 2) (loP as ls)
def uM:(0:Rat)<1 / 2:=by decide+kernel
def rD  (hp:0<p) (h:yu a):yu (zS p a):=by
 unfold yu zS;rw [Tj];exact h.imp λ{x y} lt=>Rat.mul_lt_mul_of_pos_right lt hp
def hf_len (as ls:List Int):∀x∈hfA as ls++yJ (hfA as ls) (hfB as ls),lastC (hfA as ls)∈hfA as ls->x.2.length=as.length:=λx g hm=>by
 have p:∀x∈hfA as ls,x.2.length=as.length:=λx g=>by
  obtain ⟨c,m,rfl⟩:=Qj.mp g;rw [Qa];exact (uV as ls c m).1
 rcases QT.mp g with z|z
 ·exact p x z
 ·obtain ⟨d,hd,rfl⟩:=Qj.mp z
  have ld:d.2.length=as.length:=by
   have:=TV hd;obtain ⟨c,m,rfl⟩:=Qj.mp this;rw [Qa];exact (Du as ls c m).1
  show (List.zipWith _ _ _).length=_;rw [QC,p _ hm,ld];exact TM _
def sI (h:LvOk as ls):lastC (hfA as ls)∈hfA as ls:=by
 obtain ⟨r,g⟩:=Ed h;have ne:hfA as ls≠[]:=by unfold hfA zS;rw [g];simp
 unfold lastC;rw [Te ne];exact List.getLast_mem _
noncomputable def hvP (as ls:List Int):List zg:=hfA as ls++yJ (hfA as ls) (hfB as ls)
theorem xg (p:Rat):∀l:List Rat,zM (l.map (·*p))=zM l*p
 |[]=>by rw [jav,zM,jbS]
 |x::l=>by rw [Qp,zM,zM,xg p l];grind
theorem dS:∀{x y:List Rat},x.length=y.length->zM (List.zipWith (·+·) x y)=zM x+zM y
 |[],[],_=>by rw [List.zipWith_nil_left,zM];grind
 |a::x,b::y,h=>by rw [jaw,zM,zM,zM,dS ‹h›];grind
 |[],_::_,h=>by simp at h
 |_::_,[],h=>by simp at h
def ID (as ls:List Int):∀c∈hfA as ls,c.2.length=as.length/\zM c.2=c.1:=λc g=>by
 obtain ⟨d,hd,rfl⟩:=Qj.mp g;have:=uV as ls d hd;exact ⟨by rw [Qa];exact this.1,by rw [xg,this.2]⟩
def hfB_ok (as ls:List Int):∀c∈hfB as ls,c.2.length=as.length/\zM c.2=c.1:=λc g=>by
 obtain ⟨d,hd,rfl⟩:=Qj.mp g;have:=Du as ls d hd;exact ⟨by rw [Qa];exact this.1,by rw [xg,this.2]⟩
def hv_ok (h:LvOk as ls):∀c∈hvP as ls,c.2.length=as.length/\zM c.2=c.1:=λc g=>by
 refine ⟨hf_len as ls c g (sI h),?_⟩
 rcases QT.mp g with z|z
 ·exact (ID as ls c z).2
 ·obtain ⟨d,hd,rfl⟩:=Qj.mp z;have a:=ID as ls _ (sI h);have b:=hfB_ok as ls d (TV hd);show zM (List.zipWith (·+·) _ _)=_+_;rw [dS (by rw [a.1,b.1]),a.2,b.2]
noncomputable def shP (as:List Int):List zg:=if as.sum=0 then [zY (Yh as.length)] else [zY (Yh as.length),zY as]
theorem lh:∀n:Nat,(List.replicate n (0:Int)).sum=0
 |0=>rfl
 |n+1=>by rw [Tu,QN,lh n];rfl
def UL (h:∀a∈as,0<=a):0<=as.sum:=by
 have:=aQ (f:=λ_=>0) (g:=id) (as:=as) λa ha=>h a ha;rw [List.map_id,jaT,lh] at this
 simpa using this
def tV (h:∀a∈as,0<=a) (z:as.sum=0):∀a∈as,a=0:=λa ha=>by
 rcases Int.lt_or_eq_of_le (h a ha) with lt|e
 ·have:=aP (f:=λ_=>0) (g:=id) (as:=as) (λa ha=>h a ha) ha lt;rw [List.map_id,jaT,lh,z] at this;simp at this
 ·exact e.symm
def FF (nn:∀a∈as,0<=a) (h0:0<=e):∃z:Rat,(0<=z/\z<=1)/\zh (shP as) e=(as.map λ(a:Int)=>(a:Rat)*z)/\zM (zh (shP as) e)=mn e ((as.sum:Int):Rat):=by
 have s0:=UL nn;unfold shP
 by_cases c:as.sum=0
 ·have w:=tV nn c;rw [QJ c,c]
  have k:zh [zY (Yh as.length)] e=as.map λ(a:Int)=>(a:Rat)*0:=by
   rw [Wv];show List.replicate as.length (0:Rat)=_;rw [<-jaT];exact QK λa ha=>by rw [Rat.mul_zero]
  refine ⟨0,⟨QR,by decide+kernel⟩,k,?_⟩;rw [Wv];show zM (List.replicate as.length 0)=_;rw [Xr];unfold mn
  split
  ·exact jaL h0 (by assumption)
  ·rfl
 ·rw [QO c];have sp:(0:Rat)<((as.sum:Int):Rat):=by exact_mod_cast jbt.mpr (show 0<as.sum by omega)
  have rise:yu [zY (Yh as.length),zY as]:=by
   refine Qn.mpr ⟨λd hd=>?_,jar _ _⟩;rw [Qq.mp hd,Wv];exact sp
  have ok:∀x∈[zY (Yh as.length),zY as],x.2.length=as.length/\zM x.2=x.1:=λx m=>by
   rcases Ql.mp m with rfl|m
   ·have:=XT (Yh as.length);rwa [UJ] at this
   ·rw [Qq.mp m];exact XT as
  have g:=tW (P:=[zY (Yh as.length),zY as]) [zY as] (by rw [Wv]) rise ok h0;have r:(lastC [zY (Yh as.length),zY as]).1=((as.sum:Int):Rat):=rfl;rw [r] at g
  by_cases q:e<((as.sum:Int):Rat)
  ·have s:=jac _ (show ((as.sum:Int):Rat)≠0 from λz=>by rw [z] at sp;exact jaP sp);have p:0<(((as.sum:Int):Rat))⁻¹:=Rat.inv_pos.mpr sp;refine ⟨e*(((as.sum:Int):Rat))⁻¹,⟨QX h0 (QE p),?_⟩,?_,g⟩
   ·have:=QX (show 0<=((as.sum:Int):Rat) - e by grind) (QE p);generalize (((as.sum:Int):Rat))⁻¹=j at*
    grind
   ·rw [zh,QJ (show e<(zY as).1 from q),Wv];unfold XS
    have et:(e - (0:Rat)) / ((zY as).1 - (0:Rat))=e*(((as.sum:Int):Rat))⁻¹:=by
     show (e - 0) / (((as.sum:Int):Rat) - 0)=_;rw [show e - 0=e by grind,show ((as.sum:Int):Rat) - 0=((as.sum:Int):Rat) by grind,jai]
    dsimp only;rw [et];unfold zY
    apply Tt
    ·simp
    ·intro i u t;simp only [QY,jaD,Tx];unfold xU
     grind
  ·refine ⟨1,⟨by decide+kernel,QR⟩,?_,g⟩;rw [zW (show (zY as).1<=e from Tg.mp q)];show (as.map λ(x:Int)=>(x:Rat))=_;exact QK λa _=>by rw [Rat.mul_one]
end
def InB (am tk:List Int):Prop:=tk.length=am.length/\∀(i:Nat) (a p:Int),am[i]? =some a->tk[i]? =some p->0<=p/\p<=a
def qL (am tk:List Int):Prop:=tk.length=am.length/\∀(i:Nat) (a p:Int),am[i]? =some a->tk[i]? =some p->0<=p/\p<=a/\(p<a->∀q∈tk,q<=p)
noncomputable def Zb (am tk:List Int):List Int:=List.zipWith (· - ·) am tk
section
variable {as tk:List Int} {B:Int} {f:Rat->Rat} {z:Rat}
def Vp {a b:Int} (h:(a:Rat)<=(b:Rat)):a<=b:=Tc.mp h
def nB {a b:Int} (h:a<b):(a:Rat)<(b:Rat):=jbt.mpr h
def cf {a:Int} (h:0<=a):(0:Rat)<=(a:Rat):=by have:=Tc.mpr h;exact this
def YZ {a:Int} (h:0<a):(0:Rat)<(a:Rat):=by have:=jbt.mpr h;exact this
def Zq {x y b:Rat} (h:x<=y) (g:0<=b):x*b<=y*b:=by
 have:=QX (show 0<=y - x by grind) g
 grind
def Vj (h:tk.length=am.length):(Zb am tk).length=am.length:=by
 unfold Zb;rw [QC,h,TM]
def mn_nn (a0:0<=a) (g:0<=z):0<=mn a z/\mn a z<=a:=by
 unfold mn
 split<;>grind
noncomputable def KP (as ls:List Int):Nat->List zg
 |0=>shP as
 |1=>evP as ls
 |2=>loP as ls
 |_=>yn (hvP as ls)
def GA {e t b:Rat} (g:0<b):mn e t*b=mn (e*b) (t*b):=by
 unfold mn
 by_cases c:e<=t
 ·rw [QJ c,QJ (Zq c (QE g))]
 ·rw [QO c,QO];intro h;have lt:=jaq.mp c;have:=jbA (show 0<e - t by grind) g
  grind
end
structure Bl3 (mg:Str->Option Value):Prop where
 sorted:mg "sorted"=none
 set:mg "set"=none
section
variable {X:Cx} {e o:Expr} {es:List Expr} {ta:TE} {t:TA}
def Ic (K:Frg) (m:Str) (f:Addr) (sp:Sp) (E:XK) (ta:TE) (t:TA):TE:=λσ H Q=>ta σ H λx H1=>∃a C g fs,x= .ref a/\H1 a=some (.ins C g fs)/\Cls K C/\Meth K C m f/\fs.lookup m=none/\t σ H1 λvs p=>sp (x::vs) p Q E
def pe_methB      (he:PE X o ta) (F:FnOk X.prog X.w X.K X.mg X.base CX k f fd ps sp) (hr:Room k X.A) (J:yG X.K fd ps []) (D:Vu CX X E) (ha:PA X (e::es) t)
 (N:starEach (e::es) X.env=(false,eval e X.env)::starEach es X.env:=by rfl) (M:(backTo pos (starEach es X.env)).any (·.1)=false:=by rfl)
 (ht:eval (.Call (.Attribute o m apos) (e::es) [] pos) X.env=(do
  let ov<-eval o X.env
  standAt apos.atName
  let (f,first)<-holding [ov] (getMethod ov m pl)
  callWith pos f first (backTo pos (starEach (e::es) X.env)) (backToKw pos (keywordEach [] X.env))):=by rfl):
 PE X (.Call (.Attribute o m apos) (e::es) [] pos) (Ic X.K m f sp E ta t):=by
 intro pins s σ H Q I h;refine PySem.W.methodCall_KW (pl:=pl) (thn (he pins s σ H _ I h) λu s1 G=>?_) ht;obtain ⟨x,H1,p,y,a,C,O,fs,ex,L,c,hm,l,q⟩:=G;subst ex;obtain rfl:u=Value.ref a:=y;refine bS p L c hm l ?_;refine jbv (first:=[.ref a]) (h₀:=X.base) I.ok.mod.kin hm.kp (thn (ha pos pins s1 σ H1 _ p q) ?_) N M;rintro us s2 ⟨vs,P,g,r,z⟩;refine ⟨g.kIn,?_⟩;exact oV (us:= .ref a::us) (vs:= .ref a::vs) F hr J .nil D g (.cons rfl r) (by rw [jaI];exact z)
end
section
variable {B G0 H:Hp} {cs:yq} {ds:Dat} {Q:VK} {E:XK} {v w u:V} {K:Frg} {C L:Addr} {x:PyData} {σ:L2.St}
def kMB (K:Frg) (m:Str) (f:Addr) (sp:Sp) (E:XK) (t:TA) (σ:L2.St) (Q:VK):VK:=λx H1=>∃a C g fs,x= .ref a/\H1 a=some (.ins C g fs)/\Cls K C/\Meth K C m f/\fs.lookup m=none/\t σ H1 λvs p=>sp (x::vs) p Q E
def rd_methB   (h:ta σ H (kMB K m f sp E t σ Q)):Ic K m f sp E ta t σ H Q:=h
def Iq   (S:Sta B G0 H cs ds) (h:Has ds (Hj C x) v) (cl:Cls K C) (me:Meth K C m f) (hm:(m==("form":Str))=false) (k:t σ H λvs q=>sp (v::vs) q Q E):kMB K m f sp E t σ Q v H:=by
 obtain ⟨p,g,w,rfl,hp,r⟩:=S.ins h;exact ⟨p,C,g,_,rfl,hp,cl,me,by rw [jaN,hm];rfl,k⟩
def IB (K:Frg) (Q:VK):VK:=λx H1=>Cv K x H1 Q
def rd_sortS (h:te σ H (IB K Q)):Ib K te σ H Q:=h
def Vb {ns:List Int} (S:Sta B G0 H cs ds) (h:(L,ns.map PyData.int)∈cs) (few:ns.length<60) (k:∀(os:List Int) (l:Addr) (H':Hp),os.Pairwise (·<·)->(∀z,z∈os↔z∈ns)->zP H H'->Sta B G0 H' ((l,os.map PyData.int)::cs) ds->Q (.ref l) H'):IB K Q (.ref L) H:=by
 obtain ⟨vs,hp,u⟩:=S.vwC h;obtain ⟨G,q⟩:=id S;rw [yK (u G q)] at hp;exact ⟨L,ns,rfl,SqL.of hp,few,λos l p m g=>k os l _ p m (zP.new g _) (S.newL g λG _=>Yk os)⟩
def JH {ns:List Int} (S:Sta B G0 H cs ds) (h:Has ds (.tuple (ns.map PyData.int)) v) (hn:0<ns.length) (k:∀m,m∈ns->(∀x∈ns,m<=x)->Q (.int m) H):rMinT K [v] H Q:=by
 obtain ⟨p,vs,rfl,hp,r,q,al⟩:=S.tupAll h;obtain ⟨G,g⟩:=id q;rw [yK (al G g.2.2.2.2.2.2)] at hp;exact ⟨p,ns,rfl,SqT.of hp,hn,k⟩
def JJ {ns:List Int} (S:Sta B G0 H cs ds) (h:(L,ns.map PyData.int)∈cs) (hn:0<ns.length) (k:∀m,m∈ns->(∀x∈ns,x<=m)->Q (.int m) H):JQ K [.ref L] H Q:=by
 obtain ⟨vs,hp,u⟩:=S.vwC h;obtain ⟨G,g⟩:=id S;rw [yK (u G g)] at hp;exact ⟨L,ns,rfl,SqL.of hp,hn,k⟩
theorem rO {α:Type} (a:α):∀n:Nat,(List.replicate n [a]).flatten=List.replicate n a
 |0=>rfl
 |n+1=>by rw [Tu,jaa,rO a n];rfl
def JF  (S:Sta B G0 H cs ds) (h:(L,[PyData.int i])∈cs) (hn:n<=1000) (k:∀l H',zP H H'->Sta B G0 H' ((l,(List.replicate n i).map PyData.int)::cs) ds->Q (.ref l) H'):rRep (.ref L) (.int (n:Int)) H Q:=by
 obtain ⟨vs,hp,u⟩:=S.vwC h;obtain ⟨G,m⟩:=id S;have e:=yK (ns:=[i]) (u G m);subst e;refine ⟨L,(n:Int),_,rfl,rfl,hp,⋯,⋯,?_,λp g=>?_⟩
 ·show 1*n<=sizeLine;have:1000<=sizeLine:=by decide
  omega
 ·rw [Td];show Q (.ref p) (upd H p (.lst (List.replicate n [V.int i]).flatten));rw [rO];refine k p _ (zP.new g _) ?_;have:=S.newL (vs:=(List.replicate n i).map V.int) g λG _=>Yk (List.replicate n i);rw [jbx] at this;rw [jbx] at this⊢;exact this
end
abbrev Cl:=Int×Int×Int
noncomputable def zF (c:Cl):PyData:= .tuple [.int c.1, .int c.2.1, .int c.2.2]
noncomputable def zA (l:List Cl):PyData:= .list (l.map zF)
noncomputable def amV (l:List Cl):List Int:=l.map λc=>c.1
structure ClOk (n:Nat) (l:List Cl):Prop where
 pos:0<l.length
 few:l.length<=8
 nn:∀c∈l,0<=c.1/\0<=c.2.1/\0<=c.2.2
 sz:∀c∈l,Sz n c.1
def yi (l:List Cl):(amV l).length=l.length:=Qa _
theorem bQ:∀as:List Int,∃ls:List Int,ls.Pairwise (·<·)/\∀k,k∈ls↔k∈as
 |[]=>⟨[],List.Pairwise.nil,λ_=>Iff.rfl⟩
 |a::as=>by
  obtain ⟨ls,p,r⟩:=bQ as;refine ⟨ls.filter (·<a)++a::ls.filter (a<·),?_,λk=>?_⟩
  ·refine TU.mpr ⟨p.filter _,Qn.mpr ⟨λy g=>?_,p.filter _⟩,λx q y g=>?_⟩
   ·simpa using (Tq.mp g).2
   ·have m:x<a:=by simpa using (Tq.mp q).2
    rcases Ql.mp g with rfl|g
    ·exact m
    ·have:a<y:=by simpa using (Tq.mp g).2
     omega
  ·rw [QT,Ql,Tq,Tq,Ql,r];simp only [decide_eq_true_eq]
   constructor
   ·rintro (⟨h,_⟩|h|⟨h,_⟩)
    ·exact .inr h
    ·exact .inl h
    ·exact .inr h
   ·rintro (h|h)
    ·exact .inr (.inl h)
    ·rcases Int.lt_trichotomy k a with c|c|c
     ·exact .inl ⟨h,c⟩
     ·exact .inr (.inl c)
     ·exact .inr (.inr ⟨h,c⟩)
theorem ZT:∀{x y:List Int},x.Pairwise (·<·)->y.Pairwise (·<·)->(∀k,k∈x↔k∈y)->x=y
 |[],[],_,_,_=>rfl
 |[],b::y,_,_,h=>absurd ((h b).mpr (Qe ..)) Qm
 |a::x,[],_,_,h=>absurd ((h a).mp (Qe ..)) Qm
 |a::x,b::y,h1,h2,h=>by
  obtain ⟨a1,a2⟩:=Qn.mp h1;obtain ⟨q,r⟩:=Qn.mp h2
  have e:a=b:=by
   rcases Ql.mp ((h a).mp (Qe ..)) with e|e
   ·exact e
   ·rcases Ql.mp ((h b).mpr (Qe ..)) with p|p
    ·exact p.symm
    ·have:=q a e;have:=a1 b p;omega
  subst e;rw [ZT a2 r λk=>?_];have g:=h k;rw [Ql,Ql] at g
  constructor
  ·intro m
   rcases g.mp (.inr m) with e|e
   ·subst e;exact absurd (a1 k m) (Int.lt_irrefl _)
   ·exact e
  ·intro m
   rcases g.mpr (.inr m) with e|e
   ·subst e;exact absurd (q k m) (Int.lt_irrefl _)
   ·exact e
noncomputable def lvV (as:List Int):List Int:=(bQ (0::as)).choose
def Vi (nn:∀a∈as,0<=a):LvOk as (lvV as):=
 ⟨(bQ (0::as)).choose_spec.1,λk=>by rw [lvV,(bQ (0::as)).choose_spec.2 k,Ql],nn⟩
def lvV_eq {as os:List Int} (m:os.Pairwise (·<·)) (g:∀z,z∈os↔z∈0::as):os=lvV as:=
 ZT m (bQ (0::as)).choose_spec.1 λk=>by rw [g,lvV,(bQ (0::as)).choose_spec.2 k]
theorem Iz:∀{ls as:List Int},ls.Nodup->(∀k∈ls,k∈as)->ls.length<=as.length
 |[],_,_,_=>TR _
 |a::ls,as,nd,h=>by
  obtain ⟨n1,m⟩:=TZ.mp nd;have:=Iz (ls:=ls) (as:=as.erase a) m λk g=>(List.mem_erase_of_ne (λ(e:k=a)=>n1 (e▸g))).mpr (h k (Qf _ g));have p:=List.length_erase_of_mem (h a (Qe ..));have:=jaW (h a (Qe ..));rw [Qy];omega
def LvOk.few (h:LvOk as ls):ls.length<=as.length+1:=by
 have:=Iz (ls:=ls) (as:=0::as) (h.rise.imp λ{a b} (m:a<b)=>by omega) λk g=>by rw [Ql];exact (h.mem k).mp g
 simpa using this
def om  (h0:0<=x) (h:x<=y) (z:Sz n y):Sz n x:=by unfold Sz at*;omega
theorem fc (m:0<=b):∀{l:List Int},(∀x∈l,0<=x/\x<=b)->0<=l.sum/\l.sum<=l.length*b
 |[],_=>by simp
 |x::l,h=>by
  have q:=h x (Qe ..);have p:=fc m (l:=l) λy g=>h y (Qf _ g);rw [QN,Qy];have e:(((l.length+1:Nat):Int))*b=l.length*b+b:=by rw [Int.natCast_add,Int.add_mul];omega
  omega
def aE (l:List Int):Prop:=l.length<=8/\∀x∈l,0<=x/\Sz 160 x
def aE.sum (h:aE l):0<=l.sum/\Sz 170 l.sum:=by
 have m:=fc (b:=2 ^ 160) nofun (l:=l) λx g=>⟨(h.2 x g).1,by
  have:=(h.2 x g).2;unfold Sz at this;have:=(h.2 x g).1
  omega⟩
 refine ⟨m.1,?_⟩;have p:=h.1;have:(l.length:Int)*2 ^ 160<=8*2 ^ 160:=jbp ⋯ nofun;unfold Sz;have e:(8:Int)*2 ^ 160<2 ^ 170:=by decide+kernel
 omega
def tS (h:aE l):SzC 170 (zY l):=by
 refine ⟨⟨h.sum.2,by show Sz 170 1;unfold Sz;decide⟩,λq m=>?_⟩;obtain ⟨x,g,rfl⟩:=Qj.mp m;exact ⟨Sz.mono (h.2 x g).2 nofun,by show Sz 170 1;unfold Sz;decide⟩
def ClOk.am (h:ClOk 160 l):aE (amV l):=by
 refine ⟨by rw [yi];exact h.few,λx m=>?_⟩;obtain ⟨c,g,rfl⟩:=Qj.mp m;exact ⟨(h.nn c g).1,h.sz c g⟩
def aE.min  (h:aE as) (m:0<=l):aE (WM as l)/\aE (aA as l):=by
 refine ⟨⟨by unfold WM;rw [Qa];exact h.1,λx g=>?_⟩,⟨by unfold aA;rw [Qa];exact h.1,λx g=>?_⟩⟩
 ·obtain ⟨a,ha,rfl⟩:=Qj.mp g;have:=h.2 a ha;exact ⟨⋯,om ⋯ ⋯ this.2⟩
 ·obtain ⟨a,ha,rfl⟩:=Qj.mp g;have:=h.2 a ha;exact ⟨⋯,om ⋯ ⋯ this.2⟩
section
variable {as ls:List Int}
def LvOk.szE (h:LvOk as ls) (i:aE as):∀c∈evP as ls,SzC 170 c:=λc m=>by
 obtain ⟨l,g,rfl⟩:=Qj.mp m;exact tS (i.min (h.nnL l g)).1
def LvOk.szL (h:LvOk as ls) (i:aE as):∀c∈loP as ls,SzC 170 c:=λc m=>by
 obtain ⟨l,g,rfl⟩:=Qj.mp m;exact tS (i.min (h.nnL l (jbL.mp g))).2
def LvOk.inE (h:LvOk as ls) (i:aE as):PathIn (evP as ls):=by
 obtain ⟨r,m⟩:=Ed h;have f:=h.few;have p:=i.1;exact ⟨by rw [m];simp,λc g=>(h.szE i c g).mono nofun,λc g=>by rw [(uV as ls c g).1];omega,by unfold evP;rw [Qa];omega⟩
def LvOk.inL (h:LvOk as ls) (i:aE as):PathIn (loP as ls):=by
 obtain ⟨r,m⟩:=loP_ne h;have f:=h.few;have p:=i.1;exact ⟨by rw [m];simp,λc g=>(h.szL i c g).mono nofun,λc g=>by rw [(Du as ls c g).1];omega,by unfold loP;rw [Qa,Tv];omega⟩
def sJ:SzQ 2 ((1:Rat) / 2):=by unfold SzQ Sz;decide+kernel
def fB (h:∀c∈a,SzC 170 c):∀c∈zS (1 / 2) a,SzC 172 c:=λc p=>by
 obtain ⟨d,hd,rfl⟩:=Qj.mp p;have:=h d hd;refine ⟨(this.1.mul sJ).mono nofun,λq m=>?_⟩;obtain ⟨x,g,rfl⟩:=Qj.mp m;exact ((this.2 x g).mul sJ).mono nofun
def oF (ok:PathIn a) (h:∀c∈a,SzC 170 c):PathIn (zS (1 / 2) a):=by
 refine ⟨λe=>ok.ne (List.map_eq_nil_iff.mp e),λc g=>(fB h c g).mono nofun,λc g=>?_,by unfold zS;rw [Qa];exact ok.few⟩;obtain ⟨d,hd,rfl⟩:=Qj.mp g;rw [Qa];exact ok.len d hd
def LvOk.szH (h:LvOk as ls) (i:aE as):∀c∈hvP as ls,SzC 400 c:=λc r=>by
 have g:=fB (h.szE i);have sB:=fB (h.szL i)
 rcases QT.mp r with z|z
 ·exact (g c z).mono nofun
 ·obtain ⟨d,hd,rfl⟩:=Qj.mp z;have x:=g _ (sI h);have y:=sB d (TV hd);refine ⟨(x.1.add y.1).mono nofun,λq m=>?_⟩;obtain ⟨j,p,e⟩:=QS m;have t:=p;simp only [VS,QC] at t
  have s:q=(lastC (hfA as ls)).2[j]'⋯+d.2[j]'⋯:=by
   rw [<-e];simp only [VS,QY]
  rw [s];exact ((x.2 _ (Ta _)).add (y.2 _ (Ta _))).mono nofun
def LvOk.okH (h:LvOk as ls) (i:aE as):PathOk as.length (hvP as ls):=by
 have f:=h.few;have m:=i.1;refine ⟨λc g=>(h.szH i c g).mono nofun,λc g=>(hv_ok h c g).1,⋯,?_⟩;unfold hvP hfA hfB yJ zS evP loP;simp only [QB,Qa,jaO,Tv];omega
end
theorem Vl:∀(a:zg) (r:List zg),(yh a r).Sublist r
 |a,[]=>by rw [yh];exact jbl _
 |a,[b]=>by rw [yh];exact jbl _
 |a,b::c::r=>by
  rw [yh]
  split
  ·exact List.Sublist.cons _ (Vl b (c::r))
  ·exact List.Sublist.cons₂ _ (Vl b (c::r))
theorem ZO:∀r:List zg,(yn r).Sublist r
 |[]=>jbl _
 |c::r=>List.Sublist.cons₂ _ (Vl c r)
section
variable {as ls:List Int}
end
def iteSY {a b:Str} {X Y:Prop} (g:a=b) (h:X):if decide (a=b)=true then X else Y:=yS (λ_=>h) λn=>absurd g n
def iteSN {a b:Str} {X Y:Prop} (g:¬a=b) (h:Y):if decide (a=b)=true then X else Y:=yS (λy=>absurd y g) λ_=>h
section
variable {B G0 H:Hp} {cs:yq} {ds:Dat} {Q:VK} {E:XK} {v w u:V} {K:Frg}
noncomputable def jv:Nat->Rl
 |0=> .shares
 |1=> .evenly
 |2=> .losses
 |_=> .halves
def rB:Sp:=spB (α:=List Cl) (λl=>[zA l]) (ClOk 160) (λ_=> .non)
def FU (S:Sta B G0 H cs ds) (h:Has ds (zA l) v) (ok:ClOk 160 l) (k:∀H',zP H H'->Sta B G0 H' cs ds->Q .non H'):rB [v] H Q E:=WZ l (S.hpAll (.cons h .nil)) ok λH' e=>k H' e (S.same e)
def spWC:Sp:=spT (α:=List Int) (λl=>[.list (l.map PyData.int)]) (λl=>l.length<=8) (λl=>zL (zY l))
def JB (S:Sta B G0 H cs ds) (h:Has ds (.list (l.map PyData.int)) v) (ok:l.length<=8) (k:∀w H',zP H H'->Sta B G0 H' cs ((zL (zY l),w)::ds)->Q w H'):spWC [v] H Q E:=Yd l S (.cons h .nil) ok k
def WQ:Sp:=spL (α:=Nat) (λn=>[.int (n:Int)]) (λn=>n<=8) (λn=>[zY (Yh n)].map zL)
def bF (S:Sta B G0 H cs ds) (ok:n<=8) (k:∀p H',zP H H'->Sta B G0 H' ((p,[zY (Yh n)].map zL)::cs) ds->Q (.ref p) H'):WQ [.int (n:Int)] H Q E:=Zw n S (.cons Has.int .nil) ok k
noncomputable def flV (k:Nat) (l:List Cl):List zg:=KP (amV l) (lvV (amV l)) k
noncomputable def cR (k:Nat):Sp:=spL (α:=List Cl) (λl=>[zA l]) (ClOk 160) (λl=>(flV k l).map zL)
def bG  (S:Sta B G0 H cs ds) (h:Has ds (zA l) v) (ok:ClOk 160 l) (k:∀p H',zP H H'->Sta B G0 H' ((p,(flV n l).map zL)::cs) ds->Q (.ref p) H'):cR n [v] H Q E:=Zw l S (.cons h .nil) ok k
def ClOk.lv (h:ClOk 160 l):LvOk (amV l) (lvV (amV l)):=Vi λa ha=>(h.am.2 a ha).1
noncomputable def WI (p:Rat) (a b:List zg):List zg:=yn (zS p a++yJ (zS p a) (zS (1 - p) b))
structure UpOk (p:Rat) (a b:List zg):Prop where
 sz:SzQ 1000 p
 pa:PathIn a
 pb:PathIn b
 sa:PathIn (zS p a)
 sb:PathIn (zS (1 - p) b)
 m:∃m,PathOk m (zS p a++yJ (zS p a) (zS (1 - p) b))
noncomputable def Bs:Sp:=spL (α:=Rat×List zg×List zg) (λa=>[frD a.1,yy a.2.1,yy a.2.2]) (λa=>UpOk a.1 a.2.1 a.2.2) (λa=>(WI a.1 a.2.1 a.2.2).map zL)
def BZ  (S:Sta B G0 H cs ds) (r:Has ds (frD p) u) (m:Has ds (yy a) v) (g:Has ds (yy b) w) (ok:UpOk p a b) (k:∀q H',zP H H'->Sta B G0 H' ((q,(WI p a b).map zL)::cs) ds->Q (.ref q) H'):Bs [u,v,w] H Q E:=Zw (p,a,b) S (.cons r (.cons m (.cons g .nil))) ok k
def up_ok (h:ClOk 160 l):UpOk (1 / 2) (flV 1 l) (flV 2 l):=by
 have L:=h.lv;have e:(1:Rat) - 1 / 2=1 / 2:=by decide+kernel
 refine ⟨sJ.mono nofun,L.inE h.am,L.inL h.am,oF (L.inE h.am) (L.szE h.am),?_,(amV l).length,?_⟩
 ·rw [e];exact oF (L.inL h.am) (L.szL h.am)
 ·rw [e];exact L.okH h.am
def Be (l:List Cl):WI (1 / 2) (flV 1 l) (flV 2 l)=flV 3 l:=by
 have e:(1:Rat) - 1 / 2=1 / 2:=by decide+kernel
 unfold WI;rw [e];rfl
end
def InS (n:Nat) (l:List Int):Prop:=l.length<=8/\∀x∈l,0<=x/\Sz n x
def InS.sum  (h:InS n l):0<=l.sum/\Sz (n+4) l.sum:=by
 have p:(0:Int)<2 ^ n:=Int.pow_pos nofun
 have m:=fc (b:=2 ^ n) (jbc p) (l:=l) λx g=>⟨(h.2 x g).1,by
  have z:=(h.2 x g).2;have q:=(h.2 x g).1;unfold Sz at z;have:(x.natAbs:Int)<((2 ^ n:Nat):Int):=Int.ofNat_lt.mpr z;rw [jbD] at this;have e:((2:Nat):Int)=2:=rfl;rw [e] at this
  omega⟩
 refine ⟨m.1,?_⟩;have r:=h.1;have le:(l.length:Int)*2 ^ n<=8*2 ^ n:=jbp ⋯ (jbc p);unfold Sz;have e:(2:Nat) ^ (n+4)=2 ^ n*16:=by rw [Nat.pow_add]
 rw [e];have s:((2 ^ n:Nat):Int)=2 ^ n:=by rw [jbD];rfl
 omega
def InB.inS  (h:InB am tk) (l:am.length<=8) (z:∀x∈am,Sz n x):InS n tk/\InS n am:=by
 refine ⟨⟨by rw [h.1];exact l,λx m=>?_⟩,⟨l,λx m=>?_⟩⟩
 ·obtain ⟨i,g,rfl⟩:=QS m;have p:i<am.length:=by rw [<-h.1];exact g
  have b:=h.2 i _ _ (Qb p) (Qb g);exact ⟨b.1,om b.1 b.2 (z _ (Ta _))⟩
 ·obtain ⟨i,g,rfl⟩:=QS m;have p:i<tk.length:=by rw [h.1];exact g
  have b:=h.2 i _ _ (Qb g) (Qb p);exact ⟨⋯,z _ (Ta _)⟩
section
variable {B G0 H:Hp} {cs:yq} {ds:Dat} {Q:VK} {E:XK} {v w u:V} {K:Frg} {xs ys:List PyData} {R:It->Hp->Prop}
def ah (S:Sta B G0 H cs ds) (h:Has ds (.list xs) v) (m:Has ds (.list ys) w) (k:∀J,Wk B G0 J (HZ xs ys) (λcs ds=>Has ds (.list xs) v/\(∀x u,Has ds (.list ys) w->Has ((x,u)::ds) (.list ys) w)/\Has ds (.list ys) w)->R J H):kZi true true K R [v,w] H:=by
 obtain ⟨p,vs,rfl,hp,_⟩:=S.lst h;obtain ⟨q,ws,rfl,g,_⟩:=S.lst m;exact ⟨p,q,rfl,⟨_,SqL.of hp⟩,⟨_,SqL.of g⟩,k _ (AZ Vy Vy)⟩
def Bx:Sp:=spB (α:=List Int×List Int) (λa=>[xN a.1,xN a.2]) (λa=>a.1.length<=8/\qL a.1 a.2) (λ_=> .bl true)
def Cp (S:Sta B G0 H cs ds) (m:Has ds (xN am) v) (g:Has ds (xN tk) w) (l:am.length<=8) (ok:qL am tk) (k:∀H',zP H H'->Sta B G0 H' cs ds->Q (.bl true) H'):Bx [v,w] H Q E:=WZ (am,tk) (S.hpAll (.cons m (.cons g .nil))) ⟨l,ok⟩ λH' e=>k H' e (S.same e)
def rf:Sp:=λvs H Q _=>∃(G:Hp) (g c:Int),vs=[.int g, .int c]/\zP G H/\(0<=g/\Sz 180 g)/\∀v H' G' (e:Rat),Grow G H G' H'->Is G' (frD e) v->0<=e/\SzQ 300 e->Q v H'
def FL (S:Sta B G0 H cs ds) (m:0<=wh/\Sz 180 wh) (k:∀v H' (e:Rat),0<=e/\SzQ 300 e->zP H H'->Sta B G0 H' cs ((frD e,v)::ds)->Q v H'):rf [.int wh, .int c] H Q E:=by
 obtain ⟨G,S⟩:=S;refine ⟨G,wh,c,rfl,S.2.1,m,λv H' y e gr g good=>k v H' e good gr.h ?_⟩;obtain ⟨t,s,r,d',q,p,g'⟩:=S.grow gr;exact ⟨y,t,s,r,d',q,p,g'.cons g⟩
def oZ  (S:Sta H G H' cs ds) (k:∀v H' g (e:Rat),Grow G H g H'->Is g (frD e) v->0<=e/\SzQ 300 e->Q v H') (h:Has ds (frD e) v) (m:0<=e/\SzQ 300 e):Q v H':=by
 obtain ⟨g,gr,al⟩:=S.leave;exact k v H' g e gr (h g al) m
end
def Hc {b d:Int} (q:0<b) (hd:0<d):0<b.fdiv (Int.gcd b d:Nat)*d/\b∣b.fdiv (Int.gcd b d:Nat)*d/\d∣b.fdiv (Int.gcd b d:Nat)*d:=by
 have r:0<Int.gcd b d:=Int.gcd_pos_of_ne_zero_left d ⋯;have m:(0:Int)<((Int.gcd b d:Nat):Int):=⋯
 rw [Tz _ (jbc m)];obtain ⟨x,g⟩:=Int.gcd_dvd_left b d;obtain ⟨y,p⟩:=Int.gcd_dvd_right b d
 have ex:b / ((Int.gcd b d:Nat):Int)=x:=by
  conv=>lhs;arg 1;rw [g]
  exact Int.mul_ediv_cancel_left x ⋯
 rw [ex]
 have x0:0<x:=by
  rcases Int.lt_or_le 0 x with h|h
  ·exact h
  ·have:=Int.mul_nonpos_of_nonneg_of_nonpos (jbc m) h;omega
 refine ⟨Int.mul_pos x0 hd,⟨y,?_⟩,⟨x,Int.mul_comm ..⟩⟩
 conv=>rhs;rw [g,Int.mul_comm ((Int.gcd b d:Nat):Int) x,Int.mul_assoc,<-p]
def oj  (s:0<B) (hd:(p.den:Int)∣B):((p.num*B.fdiv (p.den:Int):Int):Rat)=p*(B:Rat):=by
 rw [Tz _ (Int.natCast_nonneg _)];obtain ⟨x,rfl⟩:=hd;have m:(p.den:Int)≠0:=by have:=p.den_pos;omega
 rw [Int.mul_ediv_cancel_left _ m,Tb,Tb,<-Rat.mul_assoc]
 congr 1
 have r:p=Rat.divInt p.num (p.den:Int):=(jbw p).symm;have g:∀z:Int,(z:Rat)=Rat.divInt z 1:=λz=>by rw [<-jbw (z:Rat)];rfl
 have q:=g (p.den:Int)
 conv=>rhs;arg 1;rw [r]
 rw [q,jbb,g,jcb];exact ((jbR m nofun).mpr (by rw [jcb])).symm
noncomputable def tkV (B:Int) (v:List Rat):List Int:=v.map λp=>p.num*B.fdiv (p.den:Int)
def pP   (hr:yu P) (p:∀x∈P,x.2.length=m) (g:P[j]? =some c) (hd:P[j+1]? =some d) (r:c.1<=e) (q:e<=d.1):zh P e=XS c d e:=by
 by_cases lt:e<d.1
 ·have:=Zp (E:=e) hr g r (.inr ⟨d,hd,lt⟩);rw [hd] at this;exact this
 ·have s:e=d.1:=jaL q (Tg.mp lt);subst s;have lc:=p c (Qc g);have ld:=p d (Qc hd)
  have u:c.1<d.1:=by
   have:=QP.mp hr j (j+1) (Qd.mp g).1 (Qd.mp hd).1 ⋯;rw [(Qd.mp g).2,(Qd.mp hd).2] at this;exact this
  rw [vh (by rw [lc,ld]) u]
  cases hn:P[j+1+1]? with
  |none=>
   have:=Zp (E:=d.1) hr hd QR (.inl (by
    have r:=(Qd.mp hd).1;have q:=jbh.mp hn
    omega))
   rw [hn] at this;exact this
  |some f=>
   have t:d.1<f.1:=by
    have:=QP.mp hr (j+1) (j+1+1) (Qd.mp hd).1 (Qd.mp hn).1 ⋯;rw [(Qd.mp hd).2,(Qd.mp hn).2] at this;exact this
   have:=Zp (E:=d.1) hr hd QR (.inr ⟨f,hn,t⟩);rw [hn] at this;rw [this];exact XI (by rw [ld,p f (Qc hn)])
noncomputable def qS (x y:List Rat):List Rat:=List.zipWith (· - ·) x y
noncomputable def aM (p:Rat) (x:List Rat):List Rat:=x.map (·*p)
def tZ (h:y.length=x.length):(qS x y).length=x.length:=by unfold qS;rw [QC,h,TM]
def Bp {x y:List Rat} {i:Nat} {z:Rat} (h:(qS x y)[i]? =some z):∃a b,x[i]? =some a/\y[i]? =some b/\z=a - b:=by
 unfold qS at h;rw [Qt] at h
 cases e:x[i]? with
 |none=>rw [e] at h;cases h
 |some a=>
  cases e2:y[i]? with
  |none=>rw [e,e2] at h;cases h
  |some b=>rw [e,e2] at h;exact ⟨a,b,rfl,rfl,(QH h).symm⟩
def UN {x y:List Rat} {i:Nat} {a b:Rat} (m:x[i]? =some a) (g:y[i]? =some b):(qS x y)[i]? =some (a - b):=by
 unfold qS;rw [Qt,m,g]
def Bo {x y:List Rat} (h:y.length=x.length):qS x (qS x y)=y:=by
 apply Tf
 intro i
 by_cases p:i<x.length
 ·have m:=Qb p;have g:=Qb (l:=y) (i:=i) ⋯;rw [UN m (UN m g),g]
  congr 1
  grind
 ·rw [QG (by rw [tZ (by rw [tZ h])];omega),QG ⋯]
structure Std (m:Nat) (T:Rat) (as:List Rat) (P:List zg):Prop where
 rise:yu P
 ok:∀c∈P,c.2.length=m/\zM c.2=c.1
 head:P[0]? =some (0,List.replicate m 0)
 last:P.getLast? =some (T,as)
section
variable {m:Nat} {T:Rat} {as:List Rat} {P:List zg} {e:Rat}
def Std.lastC (h:Std m T as P):lastC P=(T,as):=by unfold S.lastC;rw [h.last];rfl
def Std.ne (h:Std m T as P):P≠[]:=λz=>by have:=h.head;rw [z] at this;cases this
def Std.cons (h:Std m T as P):∃r,P=(0,List.replicate m 0)::r:=by
 cases P with
 |nil=>exact absurd rfl h.ne
 |cons c r=>have:=h.head;cases this;exact ⟨r,rfl⟩
def Std.lenA (h:Std m T as P):as.length=m:=(h.ok _ (jah h.last)).1
def Std.T0 (h:Std m T as P):0<=T:=by
 obtain ⟨r,rfl⟩:=h.cons;have g:=h.last
 cases r with
 |nil=>cases g;exact QR
 |cons d r=>
  have:(T,as)∈d::r:=by
   rw [TQ] at g;exact jah g
  exact QE ((Qn.mp h.rise).1 _ this)
def Std.sum (h:Std m T as P) (h0:0<=e):zM (zh P e)=mn e T:=by
 obtain ⟨r,g⟩:=h.cons;have:=tW r g h.rise h.ok h0;rw [h.lastC] at this;exact this
def Std.len (h:Std m T as P):(zh P e).length=m:=by
 obtain ⟨r,p⟩:=h.cons;have:=h.ok;rw [p] at this⊢;exact Yr λx g=>(this x g).1
def Std.past (h:Std m T as P) (he:T<=e):zh P e=as:=by
 obtain ⟨r,p⟩:=h.cons;have l:=h.lastC;have g:=h.rise;rw [p] at l g⊢;rw [gv g (by rw [l];exact he),l]
def Std.zero (h:Std m T as P):zh P 0=List.replicate m 0:=by
 obtain ⟨r,p⟩:=h.cons
 cases r with
 |nil=>rw [p];rfl
 |cons d r=>
  have g:=h.rise;have ok:=h.ok;rw [p] at g ok⊢;have lt:=(Qn.mp g).1 d (Qe ..);rw [zh,QJ lt];have:=XI (c:=((0:Rat),List.replicate m (0:Rat))) (d:=d) (by rw [QD,(ok d (Qf _ (Qe ..))).1]);exact this
def Std.turned (h:Std m T as P) (h0:0<=e) (h1:e<=T):zh (yx P) e=qS as (zh P (T - e)):=by
 have I:=h.lastC;have w:∀x∈P,x.2.length=m:=λx u=>(h.ok x u).1
 have rise:yu (yx P):=by
  unfold yx yu;rw [Tj,List.pairwise_reverse]
  exact h.rise.imp λ{c d} L=>by
   show (S.lastC P).1 - d.1<(S.lastC P).1 - c.1
   grind
 have g:∀x∈yx P,x.2.length=m:=λx u=>by
  obtain ⟨c,s,rfl⟩:=Qj.mp u;show (List.zipWith _ (S.lastC P).2 c.2).length=m;rw [QC,I,w c (jbL.mp s),h.lenA,TM]
 have lp:0<P.length:=jaV.mpr h.ne;obtain ⟨j,q,U,y,K⟩:=nq (E:=T - e) (M:=P.map λc=>c.1) (z:=0) (by rw [Qh,h.head];rfl) (by grind);rw [Qa] at K;obtain ⟨c,s,rfl⟩:=zK U;have jl:j<P.length:=(Qd.mp s).1
 have p:∀(k:Nat) (x:zg),P[k]? =some x->(yx P)[P.length - 1 - k]? =some (Ug (T,as) x):=λk x u=>by
  have kl:k<P.length:=(Qd.mp u).1;unfold yx;rw [Qh,List.getElem?_reverse ⋯,show P.length - 1 - (P.length - 1 - k)=k by omega,u,I];rfl
 by_cases t:j+1=P.length
 ·
  have J:c=(T,as):=by
   have:=h.last;rw [jay,show P.length - 1=j by omega,s] at this;exact QH this
  have e0:e=0:=by
   rw [J] at y;have:T<=T - e:=y;exact jaL (by grind) h0
  subst e0;rw [show T - (0:Rat)=T by grind,h.past QR];have ht:=p j c s;rw [show P.length - 1 - j=0 by omega,J] at ht
  have hz:Ug (T,as) (T,as)=(0,List.replicate m 0):=by
   unfold Ug;rw [show T - T=(0:Rat) by grind]
   congr 1
   apply Tt
   ·rw [QC,h.lenA,QD,TM]
   ·intro i _ _;rw [QY,Tx]
    grind
  have Y:qS as as=List.replicate m 0:=(congrArg Prod.snd hz);rw [Y];rw [hz] at ht
  cases hT:yx P with
  |nil=>rw [hT] at ht;cases ht
  |cons x r=>
   rw [hT] at ht rise g;cases ht
   cases r with
   |nil=>rfl
   |cons d r=>
    have lt:=(Qn.mp rise).1 d (Qe ..);rw [zh,QJ lt];have:=XI (c:=((0:Rat),List.replicate m (0:Rat))) (d:=d) (by rw [QD,g d (Qf _ (Qe ..))]);exact this
 ·rcases K with z|⟨r,hr,MF⟩
  ·exact absurd z t
  obtain ⟨d,hd,rfl⟩:=zK hr;have lc:=w c (Qc s);have ld:=w d (Qc hd);have L:c.1<d.1:=by grind
  rw [pP h.rise w s hd y (QE MF)];have t1:=p (j+1) d hd;have G:=p j c s;have dl:j+1<P.length:=(Qd.mp hd).1;rw [show P.length - 1 - j=P.length - 1 - (j+1)+1 by omega] at G;rw [pP rise g t1 G (by show T - d.1<=e;grind) (by show e<=T - c.1;grind)];unfold XS qS
  apply Tf
  intro i
  by_cases X:i<m
  ·have O:i<as.length:=by rw [h.lenA];exact X
   have N:i<c.2.length:=⋯
   have id':i<d.2.length:=⋯
   have a1:=Qb O;have c1:=Qb N;have Z:=Qb id';unfold Ug;dsimp only;rw [Qt,Qt,Qt,Qt,Qt,a1,c1,Z]
   congr 1
   generalize as[i]=A;generalize c.2[i]=C;generalize d.2[i]=D;unfold xU;have OO:=jac _ (xQ L);rw [jai,jai,show T - c.1 - (T - d.1)=d.1 - c.1 by grind];generalize (d.1 - c.1)⁻¹=v at*
   grind
  ·rw [QG,QG]
   ·simp only [QC,h.lenA,lc,ld];omega
   ·simp only [Ug,QC,h.lenA,lc,ld];omega
end
structure Row where
 am:Rat
 rank:Int
 group:Int
 part:Rat
noncomputable def qR (L:List Row):Rat:=zM (L.map (·.am))
noncomputable def AO (L:List Row):Rat:=zM (L.map (·.part))
noncomputable def Row.flip (x:Row):Row:={x with part:=x.am - x.part}
noncomputable def Row.first (p:Rat) (x:Row):Row:={x with am:=x.am*p}
noncomputable def Row.rest (p:Rat) (x:Row):Row:={x with am:=x.am*(1 - p),part:=x.part - x.am*p}
noncomputable def Row.scale (c:Rat) (x:Row):Row:={x with am:=x.am*c,part:=x.part*c}
def InQ (L:List Row):Prop:=∀x∈L,0<=x.part/\x.part<=x.am
def Lh (L:List Row):Prop:=∀x∈L,x.part*qR L=x.am*AO L
def qK (L:List Row):Prop:=InQ L/\∀x∈L,x.part<x.am->∀y∈L,y.part<=x.part
noncomputable def Xl (L:List Row):List Int:=(bQ (L.map (·.group))).choose
noncomputable def qN:List Int->Int
 |[]=>0
 |[a]=>a
 |a::l=>min a (qN l)
noncomputable def kZ (L:List Row):List Row:=(Xl L).map λg=>
 ⟨qR (L.filter (·.group=g)),qN ((L.filter (·.group=g)).map (·.rank)),g,AO (L.filter (·.group=g))⟩
def cA (p:Rat) (X Y:List Row->Prop) (L:List Row):Prop:=if AO L<=qR L*p then X (L.map (Row.first p)) else Y (L.map (Row.rest p))
noncomputable def xW:Rl->List Row->Prop
 | .shares,L=>InQ L/\Lh L
 | .evenly,L=>InQ L/\qK L
 | .losses,L=>InQ L/\qK (L.map Row.flip)
 | .halves,L=>InQ L/\cA (1 / 2) (λL=>InQ L/\qK L) (λL=>InQ L/\qK (L.map Row.flip)) L
 | .other r,L=>InQ L/\xW r (L.map Row.flip)
 | .ranks r,L=>InQ L/\(∀k,xW r (L.filter (·.rank=k)))/\∀x∈L,∀y∈L,x.rank<y.rank->0<y.part->x.part=x.am
 | .groups a b,L=>InQ L/\(∀g,xW b (L.filter (·.group=g)))/\xW a (kZ L)
 | .upto t b x y,L=>InQ L/\cA (Rat.divInt t b) (xW x) (xW y) L
theorem xW.inQ:∀{r:Rl} {L:List Row},xW r L->InQ L
 | .shares,_,h=>h.1
 | .evenly,_,h=>h.1
 | .losses,_,h=>h.1
 | .halves,_,h=>h.1
 | .other _,_,h=>h.1
 | .ranks _,_,h=>h.1
 | .groups _ _,_,h=>h.1
 | .upto _ _ _ _,_,h=>h.1
section
variable {c:Rat} {L:List Row}
def aT:qR (L.map (Row.scale c))=qR L*c:=by
 unfold qR;rw [<-xg,Qr,Qr];rfl
def aS:AO (L.map (Row.scale c))=AO L*c:=by
 unfold AO;rw [<-xg,Qr,Qr];rfl
def kq (g:0<c):x*c<=y*c↔x<=y:=by
 constructor
 ·intro h
  by_cases z:x<=y
  ·exact z
  ·have:=jbA (show 0<x - y by grind) g
   grind
 ·intro h;exact Zq h (QE g)
def InQ.scale (g:0<c) (h:InQ L):InQ (L.map (Row.scale c)):=λx p=>by
 obtain ⟨y,m,rfl⟩:=Qj.mp p;have:=h y m;exact ⟨QX this.1 (QE g),Zq this.2 (QE g)⟩
def qK.scale (m:0<c) (h:qK L):qK (L.map (Row.scale c)):=by
 refine ⟨h.1.scale m,λx r lt y q=>?_⟩;obtain ⟨g,t,rfl⟩:=Qj.mp r;obtain ⟨p,s,rfl⟩:=Qj.mp q
 have lt':g.part<g.am:=by
  rcases jaq.mp (λz=>absurd ((kq (c:=c) m).mpr z) (jaq.mpr lt)) with z
  exact z
 exact Zq (h.2 g t lt' p s) (QE m)
def bU:(L.map (Row.scale c)).map Row.flip=(L.map Row.flip).map (Row.scale c):=by
 rw [Qr,Qr];refine QK λx _=>?_;simp only [Function.comp,Row.flip,Row.scale]
 congr 1
 grind
def sO:(L.map (Row.scale c)).map (Row.first p)=(L.map (Row.first p)).map (Row.scale c):=by
 rw [Qr,Qr];refine QK λx _=>?_;simp only [Function.comp,Row.first,Row.scale]
 congr 1
 grind
def vY:(L.map (Row.scale c)).map (Row.rest p)=(L.map (Row.rest p)).map (Row.scale c):=by
 rw [Qr,Qr];refine QK λx _=>?_;simp only [Function.comp,Row.rest,Row.scale]
 congr 1<;>grind
def cA.scale  (g:0<c) (q:∀L,X L->X (L.map (Row.scale c))) (m:∀L,Y L->Y (L.map (Row.scale c))) (h:cA p X Y L):cA p X Y (L.map (Row.scale c)):=by
 unfold cA at h⊢;rw [aS,aT,show qR L*c*p=qR L*p*c by grind]
 by_cases z:AO L<=qR L*p
 ·rw [QJ z] at h;rw [QJ ((kq g).mpr z),sO];exact q _ h
 ·rw [QO z] at h;rw [QO (λw=>z ((kq g).mp w)),vY];exact m _ h
def sQ:(L.map (Row.scale c)).filter (·.rank=k)=(L.filter (·.rank=k)).map (Row.scale c):=by
 rw [List.filter_map];rfl
def cX:(L.map (Row.scale c)).filter (·.group=k)=(L.filter (·.group=k)).map (Row.scale c):=by
 rw [List.filter_map];rfl
def vS:kZ (L.map (Row.scale c))=(kZ L).map (Row.scale c):=by
 have e:Xl (L.map (Row.scale c))=Xl L:=by
  unfold Xl
  congr 2
  rw [Qr];rfl
 unfold kZ;rw [e,Qr];refine QK λg _=>?_;simp only [Function.comp,cX,aT,aS,Row.scale]
 congr 2
 rw [Qr];rfl
theorem xW.scale (m:0<c):∀{r:Rl} {L:List Row},xW r L->xW r (L.map (Row.scale c))
 | .shares,L,h=>⟨h.1.scale m,λx u=>by
  obtain ⟨y,s,rfl⟩:=Qj.mp u;have:=h.2 y s;rw [aT,aS];show y.part*c*(qR L*c)=y.am*c*(AO L*c)
  grind⟩
 | .evenly,L,h=>⟨h.1.scale m,h.2.scale m⟩
 | .losses,L,h=>⟨h.1.scale m,by rw [bU];exact h.2.scale m⟩
 | .halves,L,h=>⟨h.1.scale m,cA.scale m (λL z=>⟨z.1.scale m,z.2.scale m⟩) (λL z=>⟨z.1.scale m,by rw [bU];exact z.2.scale m⟩) h.2⟩
 | .other r,L,h=>⟨h.1.scale m,by rw [bU];exact xW.scale m h.2⟩
 | .ranks r,L,h=>⟨h.1.scale m,λk=>by rw [sQ];exact xW.scale m (h.2.1 k),λx u y s lt pos=>by
  obtain ⟨q,A,rfl⟩:=Qj.mp u;obtain ⟨p,w,rfl⟩:=Qj.mp s
  have py:0<p.part:=by
   rcases jaq.mp (λz:p.part<=0=>absurd (by have:=(kq (c:=c) (y:=0) m).mpr z;rwa [jbS] at this) (jaq.mpr pos)) with z
   exact z
  show q.part*c=q.am*c
  rw [h.2.2 q A p w lt py]⟩
 | .groups a b,L,h=>⟨h.1.scale m,λg=>by rw [cX];exact xW.scale m (h.2.1 g),by rw [vS];exact xW.scale m h.2.2⟩
 | .upto t b x y,L,h=>⟨h.1.scale m,cA.scale m (λL z=>xW.scale m z) (λL z=>xW.scale m z) h.2⟩
end
noncomputable def xO (c:Cl) (p:Rat):Row:=⟨(c.1:Rat),c.2.1,c.2.2,p⟩
noncomputable def zE (l:List Cl) (v:List Rat):List Row:=List.zipWith xO l v
noncomputable def amQ (l:List Cl):List Rat:=l.map λc=>(c.1:Rat)
section
variable {l:List Cl} {v:List Rat}
def Yi (h:x∈zE l v):∃(i:Nat) (c:Cl) (p:Rat),l[i]? =some c/\v[i]? =some p/\x=xO c p:=by
 obtain ⟨i,g,e⟩:=QS h;have m:=g;unfold zE at m;rw [QC] at m;refine ⟨i,l[i]'⋯,v[i]'⋯,Qb _,Qb _,?_⟩;rw [<-e];exact QY (f:=xO) (l:=l) (l':=v) (h:=g)
def Wh {i:Nat} {c:Cl} {p:Rat} (g:l[i]? =some c) (hp:v[i]? =some p):xO c p∈zE l v:=by
 apply Qc (i:=i)
 unfold zE;rw [Qt,g,hp]
theorem Xw:∀{l:List Cl} {v:List Rat},v.length=l.length->qR (zE l v)=zM (amQ l)
 |[],[],_=>rfl
 |[],_::_,h=>by simp at h
 |_::_,[],h=>by simp at h
 |c::l,p::v,h=>by
  have:=Xw (l:=l) (v:=v) ‹h›;unfold qR at this⊢;show zM ((c.1:Rat)::(zE l v).map (·.am))=zM ((c.1:Rat)::amQ l);rw [zM,zM,this]
theorem Yz:∀{l:List Cl} {v:List Rat},v.length=l.length->AO (zE l v)=zM v
 |[],[],_=>rfl
 |[],_::_,h=>by simp at h
 |_::_,[],h=>by simp at h
 |c::l,p::v,h=>by
  have:=Yz (l:=l) (v:=v) ‹h›;unfold AO at this⊢;show zM (p::(zE l v).map (·.part))=zM (p::v);rw [zM,zM,this]
theorem aa:∀{l:List Cl} {v:List Rat},(zE l v).map Row.flip=zE l (qS (amQ l) v)
 |[],_=>rfl
 |_::_,[]=>rfl
 |c::l,p::v=>by
  show _::(zE l v).map Row.flip=_::zE l (qS (amQ l) v);rw [aa];rfl
theorem jR (p:Rat):∀{l:List Cl} {v:List Rat},(zE l (aM p v)).map (Row.first p)=(zE l v).map (Row.scale p)
 |[],_=>rfl
 |_::_,[]=>rfl
 |c::l,q::v=>by
  show _::(zE l (aM p v)).map (Row.first p)=_::(zE l v).map (Row.scale p);rw [jR];rfl
noncomputable def bC (p:Rat) (as v:List Rat):List Rat:=List.zipWith (λa x=>a*p+x*(1 - p)) as v
theorem oW (p:Rat):∀{l:List Cl} {v:List Rat},(zE l (bC p (amQ l) v)).map (Row.rest p)=(zE l v).map (Row.scale (1 - p))
 |[],_=>rfl
 |_::_,[]=>rfl
 |c::l,q::v=>by
  show Row.rest p (xO c ((c.1:Rat)*p+q*(1 - p)))::(zE l (bC p (amQ l) v)).map (Row.rest p)=Row.scale (1 - p) (xO c q)::(zE l v).map (Row.scale (1 - p));rw [oW]
  congr 1
  simp only [Row.rest,Row.scale,xO]
  congr 1
  grind
def Ws (l:List Cl):(amQ l).length=l.length:=Qa _
end
structure Good (r:Rl) (l:List Cl) (P:List zg):Prop where
 std:Std l.length (zM (amQ l)) (amQ l) P
 fit:∀e:Rat,0<=e->xW r (zE l (zh P e))
section
variable {r x y:Rl} {l:List Cl} {P P':List zg}
def Std.clip  (h:Std m T as P):zh P e=zh P (mn e T):=by
 unfold mn
 split
 ·rfl
 ·rename_i c;rw [h.past (QE (jaq.mp c)),h.past QR]
def nk  (h:Std m T as P):Std m T as (yx P):=by
 have p:=h.lastC;have g:=h.lenA;obtain ⟨r,u⟩:=h.cons
 have tz:Ug (T,as) (T,as)=(0,List.replicate m 0):=by
  unfold Ug;rw [show T - T=(0:Rat) by grind]
  congr 1
  apply Tt
  ·rw [QC,g,QD,TM]
  ·intro i _ _;rw [QY,Tx]
   grind
 have t0:Ug (T,as) (0,List.replicate m 0)=(T,as):=by
  unfold Ug;dsimp only;rw [show T - (0:Rat)=T by grind]
  congr 1
  apply Tt
  ·rw [QC,g,QD,TM]
  ·intro i _ _;rw [QY,Tx]
   grind
 have sub:∀{x y:List Rat},x.length=y.length->zM (List.zipWith (· - ·) x y)=zM x - zM y:=by
  intro x
  induction x with
  |nil=>intro y h;cases y with
   |nil=>rw [List.zipWith_nil_left,zM];grind
   |cons _ _=>simp at h
  |cons a x s=>intro y h;cases y with
   |nil=>simp at h
   |cons b y=>rw [jaw,zM,zM,zM,s ‹h›];grind
 have q:zM as=T:=(h.ok _ (jah h.last)).2;refine ⟨?_,λc t=>?_,?_,?_⟩
 ·unfold yx yu;rw [Tj,List.pairwise_reverse]
  exact h.rise.imp λ{c d} MI=>by
   show (S.lastC P).1 - d.1<(S.lastC P).1 - c.1
   grind
 ·obtain ⟨d,hd,rfl⟩:=Qj.mp t;have ok:=h.ok d (jbL.mp hd);rw [p];refine ⟨?_,?_⟩
  ·show (List.zipWith _ as d.2).length=m;rw [QC,g,ok.1,TM]
  ·show zM (List.zipWith _ as d.2)=T - d.1;rw [sub (by rw [g,ok.1]),q,ok.2]
 ·unfold yx;rw [Qh,<-List.head?_eq_getElem?,List.head?_reverse,h.last,p,<-tz];rfl
 ·unfold yx;rw [jaH,List.getLast?_reverse,p,List.head?_eq_getElem?,h.head];show some (Ug (T,as) (0,List.replicate m 0))=_;rw [t0]
def Good.other (h:Good r l P):Good (.other r) l (yx P):=by
 have st:=h.std;refine ⟨nk st,λe h0=>?_⟩;have p:=nk st;rw [p.clip]
 have m0:0<=mn e (zM (amQ l)):=by
  have:=st.T0;unfold mn
  split<;>grind
 have m:mn e (zM (amQ l))<=zM (amQ l):=by unfold mn;split<;>grind
 rw [st.turned m0 m];have f:=h.fit (zM (amQ l) - mn e (zM (amQ l))) (by grind);have ln:=st.len (e:=zM (amQ l) - mn e (zM (amQ l)));generalize zh P (zM (amQ l) - mn e (zM (amQ l)))=w at*;refine ⟨?_,by rw [aa,Bo (by rw [Ws];exact ln)];exact f⟩;intro x g;rw [<-aa] at g;obtain ⟨z,hz,rfl⟩:=Qj.mp g;have:=f.inQ z hz;show 0<=z.am - z.part/\z.am - z.part<=z.am
 grind
def WR   (hp:0<p) (h:Std m T as P):Std m (T*p) (aM p as) (zS p P):=by
 refine ⟨rD hp h.rise,λc g=>?_,?_,?_⟩
 ·obtain ⟨d,hd,rfl⟩:=Qj.mp g;have:=h.ok d hd;exact ⟨by rw [Qa];exact this.1,by rw [xg,this.2]⟩
 ·unfold zS;rw [Qh,h.head];show some ((0:Rat)*p,(List.replicate m (0:Rat)).map (·*p))=_;rw [jbS,jbx,jbS]
 ·unfold zS;rw [jaH,h.last];rfl
def iD  (h:Std m T as P) (h':Std m T' PB P'):Std m (T+T') (List.zipWith (·+·) as PB) (P++yJ P P'):=by
 have s:=h.lastC;obtain ⟨I,p⟩:=h'.cons;have q:=h.lenA;have mem:(T,as)∈P:=jah h.last;have G:=(h.ok _ mem).2;refine ⟨?_,λc u=>?_,?_,?_⟩
 ·refine TU.mpr ⟨h.rise,?_,λc u d hd=>?_⟩
  ·unfold yJ;rw [Tj];refine jbH (λ{a b} Nr=>?_) (jbe (List.tail_sublist P') h'.rise);show (S.lastC P).1+a.1<(S.lastC P).1+b.1
   grind
  ·obtain ⟨d',C,rfl⟩:=Qj.mp hd
   have M:c.1<=T:=by
    obtain ⟨i,J,rfl⟩:=QS u;have D:=h.last;rw [jay] at D;obtain ⟨K,A⟩:=Qd.mp D
    by_cases z:i=P.length - 1
    ·subst z;rw [A];exact QR
    ·have:=QP.mp h.rise i (P.length - 1) J K ⋯;rw [A] at this;exact QE this
   have L:0<d'.1:=by
    have w:=h'.rise;rw [p] at w C;exact (Qn.mp w).1 d' C
   show c.1<(S.lastC P).1+d'.1;rw [s];show c.1<T+d'.1
   grind
 ·rcases QT.mp u with z|z
  ·exact h.ok c z
  ·obtain ⟨d,hd,rfl⟩:=Qj.mp z;have ok:=h'.ok d (TV hd);rw [s];refine ⟨?_,?_⟩
   ·show (List.zipWith _ as d.2).length=m;rw [QC,q,ok.1,TM]
   ·show zM (List.zipWith (·+·) as d.2)=T+d.1;rw [dS (by rw [q,ok.1]),ok.2];rw [show zM as=T from G]
 ·rw [jae (jaV.mpr h.ne),h.head]
 ·unfold yJ
  have hz:List.zipWith (·+·) as (List.replicate m (0:Rat))=as:=by
   apply Tt
   ·rw [QC,q,QD,TM]
   ·intro i _ _;rw [QY,Tx]
    grind
  cases I with
  |nil=>
   have g:=h'.last;rw [p] at g⊢;cases g;rw [List.tail_cons,jav,jaI,h.last,hz,Rat.add_zero]
  |cons d t=>
   have g:=h'.last;rw [p,TQ] at g;rw [p,List.tail_cons,List.getLast?_append,jaH,g,s];rfl
def mW  (h:Std m T as P):Std m T as (yn P)/\∀e:Rat,0<=e->zh (yn P) e=zh P e:=by
 obtain ⟨r,g⟩:=h.cons;have sub:=ZO P
 have s:(yn P).getLast? =P.getLast? :=by
  rw [g];show ((0,List.replicate m 0)::yh (0,List.replicate m 0) r).getLast? =((0,List.replicate m 0)::r).getLast?
  have:∀(r:List zg) (a:zg),(yh a r).getLast? =r.getLast? :=by
   intro r
   induction r with
   |nil=>intro a;rw [yh]
   |cons b r q=>
    intro a
    cases r with
    |nil=>rw [yh]
    |cons c r=>
     rw [yh]
     split
     ·rw [q b,TQ]
     ·rw [jbZ,q b,TQ,jbZ];rfl
  rw [jbZ,this,<-jbZ]
 refine ⟨⟨jbe sub h.rise,λc u=>h.ok c (sub.subset u),by rw [g];rfl,by rw [s];exact h.last⟩,λe h0=>?_⟩;have p:=h.rise;have ok:=h.ok;rw [g] at p ok⊢;exact mY p (λx t=>(ok x t).1) h0
def cY   (h:Std m T as P) (h':Std m T' PB P') (h0:0<=e):zh (yn (P++yJ P P')) e=if e<T then zh P e else List.zipWith (·+·) as (zh P' (e - T)):=by
 have s:=iD h h';obtain ⟨_,A⟩:=mW s;rw [A e h0];obtain ⟨D,g⟩:=h.cons;obtain ⟨w,t⟩:=h'.cons;have p:=h.lastC
 split
 ·rename_i c;have lt:e<(S.lastC P).1:=by rw [p];exact c
  generalize C:yJ P P'=M;rw [g] at lt⊢;exact Vf h0 lt
 ·rename_i c;have ge:T<=e:=Tg.mp c;have le:(S.lastC P).1<=e:=by rw [p];exact ge
  have u:=h.rise
  have ev:zh (P++yJ P P') e=zh (S.lastC P::yJ P P') e:=by
   generalize C:yJ P P'=M;rw [g] at le u⊢;exact Yb u le
  rw [ev,p]
  have em:((T,as):zg)::yJ P P'=P'.map (VS (T,as)):=by
   unfold yJ;rw [p]
   conv=>rhs;rw [t]
   rw [Qp]
   congr 1
   ·unfold VS;dsimp only;rw [Rat.add_zero]
    congr 1
    apply Tt
    ·rw [QC,QD,h.lenA,TM]
    ·intro i _ _;rw [QY,Tx]
     grind
   ·rw [t];rfl
  rw [em];have pp:=gu (m:=m) (c:=(T,as)) (e:=e) h.lenA (q:=(0,List.replicate m 0)) (r:=w) (by rw [<-t];exact λz hz=>(h'.ok z hz).1);rw [<-t] at pp;exact pp
def Good.upto {p:Rat} {t b:Int} (ep:p=Rat.divInt t b) (p0:0<p) (p1:p<1) (nn:∀c∈l,0<=c.1) (A:Good x l P) (K:Good y l P'):Good (.upto t b x y) l (WI p P P'):=by
 have u:0<1 - p:=by grind
 have s1:=WR p0 A.std;have s2:=WR u K.std;have s3:=iD s1 s2;have eT:zM (amQ l)*p+zM (amQ l)*(1 - p)=zM (amQ l):=by grind
 have eA:List.zipWith (·+·) (aM p (amQ l)) (aM (1 - p) (amQ l))=amQ l:=by
  unfold aM
  apply Tt
  ·simp
  ·intro i _ _;simp only [QY,jaD]
   grind
 rw [eT,eA] at s3;obtain ⟨Y,_⟩:=mW s3;refine ⟨Y,λe h0=>?_⟩;unfold WI;rw [cY s1 s2 h0];have I:∀e:Rat,(zh P e).length=l.length:=λe=>A.std.len;have G:∀e:Rat,(zh P' e).length=l.length:=λe=>K.std.len;have T0:=A.std.T0;have J:∀(i:Nat) (c:Cl),l[i]? =some c->(0:Rat)<=(c.1:Rat):=λi c C=>cf (nn c (Qc C));have N:∀v:List Rat,v.length=l.length->qR (zE l v)=zM (amQ l):=λv hv=>Xw hv
 have low:∀w:List Rat,w.length=l.length->xW x (zE l w)->zM w<=zM (amQ l)->xW (.upto t b x y) (zE l (aM p w)):=λw hw D L=>by
  have lw:(aM p w).length=l.length:=by unfold aM;rw [Qa];exact hw
  refine ⟨λz hz=>?_,?_⟩
  ·obtain ⟨i,c,q,C,g,rfl⟩:=Yi hz;unfold aM at g;rw [Qh] at g
   cases s:w[i]? with
   |none=>rw [s] at g;cases g
   |some m=>
    rw [s] at g;cases g;have:=D.inQ _ (Wh C s);have a0:=J i c C;have t1:0<=m/\m<=(c.1:Rat):=this;show 0<=m*p/\m*p<=(c.1:Rat);refine ⟨QX t1.1 (QE p0),?_⟩;have X:=Zq t1.2 (QE p0);have U:=QX a0 (QE u)
    grind
  ·rw [<-ep];unfold cA;rw [N _ lw,Yz lw];have:zM (aM p w)=zM w*p:=xg p w;rw [this,QJ ((kq p0).mpr L),jR];exact xW.scale p0 D
 have high:∀w:List Rat,w.length=l.length->xW y (zE l w)->0<zM w->xW (.upto t b x y) (zE l (bC p (amQ l) w)):=λw hw D L=>by
  have lw:(bC p (amQ l) w).length=l.length:=by unfold bC;rw [QC,Ws,hw,TM]
  have es:zM (bC p (amQ l) w)=zM (amQ l)*p+zM w*(1 - p):=by
   have s:bC p (amQ l) w=List.zipWith (·+·) (aM p (amQ l)) (aM (1 - p) w):=by
    unfold bC aM;rw [jbM]
   rw [s,dS (by unfold aM;rw [Qa,Qa,Ws,hw])];show zM ((amQ l).map (·*p))+zM (w.map (·*(1 - p)))=_;rw [xg,xg]
  refine ⟨λz hz=>?_,?_⟩
  ·obtain ⟨i,c,q,C,g,rfl⟩:=Yi hz;unfold bC at g;rw [Qt] at g;have ea:(amQ l)[i]? =some (c.1:Rat):=by unfold amQ;rw [Qh,C];rfl
   rw [ea] at g
   cases s:w[i]? with
   |none=>rw [s] at g;cases g
   |some m=>
    rw [s] at g;cases g;have:=D.inQ _ (Wh C s);have a0:=J i c C;have t1:0<=m/\m<=(c.1:Rat):=this;show 0<=(c.1:Rat)*p+m*(1 - p)/\(c.1:Rat)*p+m*(1 - p)<=(c.1:Rat);have u0:=QX a0 (QE p0);have X:=Zq t1.2 (QE u);have U:=QX t1.1 (QE u)
    grind
  ·rw [<-ep];unfold cA;rw [N _ lw,Yz lw,es];have pos:=jbA L u;rw [QO (by grind),oW];exact xW.scale u D
 split
 ·rw [Ve p0];have e0:0<=e / p:=by rw [jai];exact QX h0 (QE (Rat.inv_pos.mpr p0))
  refine low _ (I _) (A.fit _ e0) ?_;rw [A.std.sum e0];unfold mn
  split<;>grind
 ·rename_i c;have ge:zM (amQ l)*p<=e:=Tg.mp c
  have k:List.zipWith (·+·) (aM p (amQ l)) (zh (zS (1 - p) P') (e - zM (amQ l)*p))=bC p (amQ l) (zh P' ((e - zM (amQ l)*p) / (1 - p))):=by
   rw [Ve u];unfold bC aM;rw [jbM]
  rw [k];have O:0<=(e - zM (amQ l)*p) / (1 - p):=by rw [jai];exact QX (by grind) (QE (Rat.inv_pos.mpr u))
  have D:=K.fit _ O;have sw:=K.std.sum O;have lw:=G ((e - zM (amQ l)*p) / (1 - p));generalize zh P' ((e - zM (amQ l)*p) / (1 - p))=w at*
  by_cases pos:0<zM w
  ·exact high w lw D pos
  ·
   have T:∀q∈w,q=0:=by
    have M:∀q∈w,0<=q:=λq g=>by
     obtain ⟨i,hi,rfl⟩:=QS g;have:=D.inQ _ (Wh (Qb (l:=l) (i:=i) ⋯) (Qb hi));exact this.1
    have:∀{w:List Rat},(∀q∈w,0<=q)->0<=zM w/\(zM w<=0->∀q∈w,q=0):=by
     intro w
     induction w with
     |nil=>intro _;exact ⟨by rw [zM];exact QR,λ_ q g=>absurd g Qm⟩
     |cons a w Z=>
      intro h;have ha:=h a (Qe ..);obtain ⟨i1,i2⟩:=Z λq g=>h q (Qf _ g);rw [zM];refine ⟨by grind,λL q g=>?_⟩
      rcases Ql.mp g with rfl|g
      ·exact jaL (by grind) ha
      ·exact i2 (by grind) q g
    exact (this M).2 (Tg.mp pos)
   have ew:bC p (amQ l) w=aM p (amQ l):=by
    unfold bC aM
    apply Tt
    ·rw [QC,Qa,Ws,lw,TM]
    ·intro i h1 h2;rw [QY,jaD,T _ (Ta _)]
     grind
   rw [ew];have full:=A.fit _ A.std.T0;rw [A.std.past QR] at full;exact low _ (Ws l) full QR
end
def aC (l:List Cl):amQ l=(amV l).map λ(a:Int)=>(a:Rat):=by unfold amQ amV;rw [Qr];rfl
def xJ (l:List Cl):zM (amQ l)=(((amV l).sum:Int):Rat):=by rw [aC,UM]
def eV (l:List Cl):zY (amV l)=(zM (amQ l),amQ l):=by rw [xJ,aC];rfl
def KC  (ne:P≠[]) (h:lastC P=c):P.getLast? =some c:=by
 rw [<-h];unfold lastC;rw [Te ne];rfl
section
variable {l:List Cl} {ls:List Int}
def Wn (h:LvOk (amV l) ls):Good .evenly l (evP (amV l) ls):=by
 obtain ⟨r,s⟩:=Ed h;refine ⟨⟨h.riseE,λc q=>by rw [<-yi];exact uV _ _ c q,by rw [s,Wv,yi];rfl,KC (by rw [s];simp) (by rw [uW h,eV])⟩,λe h0=>?_⟩;obtain ⟨z,t,hz⟩:=h.evenly h0;rw [hz]
 have row:∀x∈zE l ((amV l).map λ(a:Int)=>mn (a:Rat) z),0<=x.am/\x.part=mn x.am z:=λx m=>by
  obtain ⟨i,c,p,q,hp,rfl⟩:=Yi m;unfold amV at hp;rw [Qr,Qh,q] at hp;cases hp;exact ⟨cf (h.nn _ (Qj.mpr ⟨c,Qc q,rfl⟩)),rfl⟩
 have g:InQ (zE l ((amV l).map λ(a:Int)=>mn (a:Rat) z)):=λx m=>by
  obtain ⟨a0,e⟩:=row x m;rw [e];exact mn_nn a0 t
 refine ⟨g,g,λx m lt y u=>?_⟩;obtain ⟨a0,ex⟩:=row x m;obtain ⟨A,w⟩:=row y u;rw [ex] at lt⊢;rw [w];unfold mn at lt⊢
 split at lt
 ·exact absurd lt jaP
 ·rename_i c;rw [QO c]
  split<;>grind
def gY (h:LvOk (amV l) ls):Good .losses l (loP (amV l) ls):=by
 have g:=(Wn h).other;rw [eY h] at g;exact ⟨g.std,λe h0=>⟨(g.fit e h0).1,(g.fit e h0).2.2⟩⟩
def gX (nn:∀a∈amV l,0<=a):Good .shares l (shP (amV l)):=by
 have s0:=UL nn
 have std:Std l.length (zM (amQ l)) (amQ l) (shP (amV l)):=by
  have t:(amV l).sum=0->amQ l=List.replicate l.length 0:=λc=>by
   have:=tV nn c;rw [aC,<-yi,<-jaT];exact QK λa ha=>by rw [this a ha];rfl
  unfold shP
  by_cases c:(amV l).sum=0
  ·rw [QJ c];refine ⟨jar _ _,λx g=>?_,by rw [Wv,yi];rfl,?_⟩
   ·rw [Qq.mp g];have:=XT (Yh (amV l).length);rw [UJ,yi] at this;rw [yi];exact this
   ·show some _=some _;rw [Wv,yi,t c,Xr];rfl
  ·rw [QO c];refine ⟨?_,λx g=>?_,by rw [Wv,yi];rfl,?_⟩
   ·refine Qn.mpr ⟨λd hd=>?_,jar _ _⟩;rw [Qq.mp hd,Wv];exact YZ (show 0<(amV l).sum by omega)
   ·rcases Ql.mp g with rfl|g
    ·have:=XT (Yh (amV l).length);rw [UJ,yi] at this;rw [yi];exact this
    ·rw [Qq.mp g,<-yi];exact XT _
   ·show some _=some _;rw [eV];rfl
 refine ⟨std,λe h0=>?_⟩;have ln:=std.len (e:=e);obtain ⟨z,⟨s,z1⟩,hz,_⟩:=FF nn h0;have m:=Yz (l:=l) ln;have q:=Xw (l:=l) ln
 have es:zM (zh (shP (amV l)) e)=zM (amQ l)*z:=by
  rw [hz,aC,<-xg,Qr];rfl
 rw [es] at m;rw [hz] at m q⊢
 have row:∀x∈zE l ((amV l).map λ(a:Int)=>(a:Rat)*z),0<=x.am/\x.part=x.am*z:=λx g=>by
  obtain ⟨i,c,p,r,hp,rfl⟩:=Yi g;unfold amV at hp;rw [Qr,Qh,r] at hp;cases hp;exact ⟨cf (nn _ (Qj.mpr ⟨c,Qc r,rfl⟩)),rfl⟩
 refine ⟨λx g=>?_,λx g=>?_⟩
 ·obtain ⟨a0,e⟩:=row x g;rw [e];refine ⟨QX a0 s,?_⟩;have:=QX a0 (show 0<=1 - z by grind)
  grind
 ·rw [q,m,(row x g).2]
  grind
def sM (h:LvOk (amV l) ls):Good .halves l (yn (hvP (amV l) ls)):=by
 have m:Rat.divInt 1 2=(1:Rat) / 2:=by decide+kernel
 have g:=Good.upto (p:=1 / 2) (t:=1) (b:=2) m.symm uM (by decide+kernel) (λc q=>h.nn _ (Qj.mpr ⟨c,q,rfl⟩)) (Wn h) (gY h)
 have r:WI (1 / 2) (evP (amV l) ls) (loP (amV l) ls)=yn (hvP (amV l) ls):=by
  unfold WI;rw [show (1:Rat) - 1 / 2=1 / 2 by decide+kernel];rfl
 rw [r] at g;refine ⟨g.std,λe h0=>?_⟩;have f:=g.fit e h0;refine ⟨f.1,?_⟩;have f2:=f.2;rw [m] at f2;exact f2
end
def yE (m:b≠0):Rat.divInt t b*(b:Rat)=(t:Rat):=by
 have g:∀z:Int,(z:Rat)=Rat.divInt z 1:=λz=>by rw [<-jbw (z:Rat)];rfl
 rw [g b,g t,jbb,jcb];exact (jbR m nofun).mpr (by rw [jcb])
def gh (h:WE t b):0<Rat.divInt t b/\Rat.divInt t b<1:=by
 obtain ⟨_,t0,p,_⟩:=h;have g:(0:Rat)<(b:Rat):=YZ ⋯;have e:=yE (t:=t) (b:=b) ⋯;have r:=YZ t0;have m:=nB p;generalize Rat.divInt t b=q at*
 constructor
 ·by_cases z:0<q
  ·exact z
  ·have:=Zq (Tg.mp z) (QE g)
   grind
 ·by_cases z:q<1
  ·exact z
  ·have:=Zq (Tg.mp z) (QE g)
   grind
def Yo (D:Int) (x:Rat):Prop:=∃k:Int,x*(D:Rat)=(k:Rat)
section
variable {D D':Int} {x y:Rat} {P P':List zg}
def Yo.mul (h:Yo D x) (n:Int):Yo (D*n) x:=by
 obtain ⟨k,g⟩:=h;exact ⟨k*n,by rw [Tb,Tb,<-Rat.mul_assoc,g]⟩
def Yo.mulL (h:Yo D x) (n:Int):Yo (n*D) x:=by rw [Int.mul_comm];exact h.mul n
def Yo.add (h:Yo D x) (g:Yo D y):Yo D (x+y):=by
 obtain ⟨k,m⟩:=h;obtain ⟨j,p⟩:=g;exact ⟨k+j,by rw [Rat.intCast_add,<-m,<-p];grind⟩
def Yo.sub (h:Yo D x) (g:Yo D y):Yo D (x - y):=by
 obtain ⟨k,m⟩:=h;obtain ⟨j,p⟩:=g;exact ⟨k - j,by rw [jaU,<-m,<-p];grind⟩
def Yo.port (m:b≠0) (h:Yo D x):Yo (b*D) (x*Rat.divInt t b):=by
 obtain ⟨k,g⟩:=h;refine ⟨k*t,?_⟩;have e:=yE (t:=t) m;rw [Tb,Tb,<-g,<-e]
 grind
def Yo.int (n:Int) (D:Int):Yo D (n:Rat):=⟨n*D,by rw [Tb]⟩
def Yo.sz  (h:Yo D x) (A:0<D) (g:Sz m D) (x0:0<=x) (s:x<=T) (r:∃k:Int,T=(k:Rat)/\Sz n k):SzQ (n+m) x:=by
 obtain ⟨k,p⟩:=h;obtain ⟨t,rfl,q⟩:=r;have dp:=YZ A
 have e:x=Rat.divInt k D:=by
  have C:=yE (t:=k) (b:=D) ⋯;have:(x - Rat.divInt k D)*(D:Rat)=0:=by grind
  rcases Rat.mul_eq_zero.mp this with z|z
  ·grind
  ·rw [z] at dp;exact absurd dp jaP
 have w:0<=k:=Vp (by rw [<-p];exact QX x0 (QE dp));have u:k<=t*D:=Vp (by rw [<-p,Tb];exact Zq s (QE dp));rw [e];exact SzQ.divInt (om w u (q.mul g)) (g.mono ⋯) ⋯
def eU  (h:z∈List.zipWith f u v):∃a∈u,∃b∈v,z=f a b:=by
 obtain ⟨i,g,e⟩:=QS h;have m:=g;rw [QC] at m;rw [QY] at e;exact ⟨_,Ta ⋯,_,Ta ⋯,e.symm⟩
def pZ (ne:P≠[]):lastC P∈P:=by
 unfold lastC;rw [Te ne];exact List.getLast_mem ne
def JZ (g:b≠0):1 - Rat.divInt t b=Rat.divInt (b - t) b:=by
 have p:=yE (t:=t) g;have m:=yE (t:=b - t) g;have bn:((b:Int):Rat)≠0:=λz=>g (Rat.intCast_inj.mp (by rw [z];rfl))
 have:(1 - Rat.divInt t b - Rat.divInt (b - t) b)*(b:Rat)=0:=by
  rw [jaU] at m
  grind
 rcases Rat.mul_eq_zero.mp this with z|z
 ·grind
 ·exact absurd z bn
end
section
variable {r x y:Rl} {l:List Cl} {P P':List zg}
def Std.at_corner  (h:Std m T as P) (q:c∈P):zh P c.1=c.2:=by
 obtain ⟨i,g,rfl⟩:=QS q;have p:=Qb g
 cases hn:P[i+1]? with
 |none=>
  have:=Zp (E:=P[i].1) h.rise p QR (.inl (by have:=jbh.mp hn;omega));rw [hn] at this;exact this
 |some d=>
  have hd:=Qd.mp hn;have lt:=QP.mp h.rise i (i+1) g hd.1 ⋯;rw [hd.2] at lt;have:=Zp (E:=P[i].1) h.rise p QR (.inr ⟨d,hn,lt⟩);rw [hn] at this;rw [this];exact XI (by rw [(h.ok _ (Ta g)).1,(h.ok d (Qc hn)).1])
def Std.range  (h:Std m T as P) (g:c∈P):0<=c.1/\c.1<=T:=by
 have h0:0<=c.1:=by
  obtain ⟨r,q⟩:=h.cons;have p:=h.rise;rw [q] at p g
  rcases Ql.mp g with rfl|g
  ·exact QR
  ·exact QE ((Qn.mp p).1 c g)
 refine ⟨h0,?_⟩;have s:=h.sum h0;rw [h.at_corner g,(h.ok c g).2] at s;unfold mn at s
 split at s
 ·assumption
 ·rw [s];exact QR
theorem ZM:∀{v:List Rat},(∀q∈v,0<=q)->0<=zM v/\∀q∈v,q<=zM v
 |[],_=>⟨by rw [zM];exact QR,λq g=>absurd g Qm⟩
 |a::v,h=>by
  have ha:=h a (Qe ..);obtain ⟨p,m⟩:=ZM (v:=v) λq g=>h q (Qf _ g);rw [zM];refine ⟨by grind,λq g=>?_⟩
  rcases Ql.mp g with rfl|g
  ·grind
  ·have:=m q g;grind
def Good.parts (h:Good r l P) (h0:0<=e):∀q∈zh P e,0<=q/\q<=zM (amQ l):=by
 have nn:∀q∈zh P e,0<=q:=λq g=>by
  obtain ⟨i,m,rfl⟩:=QS g;have ln:=h.std.len (e:=e);exact ((h.fit e h0).inQ _ (Wh (Qb (l:=l) (i:=i) ⋯) (Qb m))).1
 obtain ⟨_,le⟩:=ZM nn;have s:=h.std.sum h0;have p:mn e (zM (amQ l))<=zM (amQ l):=by unfold mn;split<;>grind
 intro q g;have:=le q g;exact ⟨nn q g,by grind⟩
end
noncomputable def yQ (tk:List Int):List Rat:=tk.map λ(p:Int)=>(p:Rat)
structure FitG (r:Rl) (l:List Cl) (tk:List Int):Prop where
 len:tk.length=l.length
 fit:xW r (zE l (yQ tk))
noncomputable def yd (n:Int) (l:List Cl):List Cl:=l.map λc=>(n*c.1,c.2)
noncomputable def yV (n:Int) (tk:List Int):List Int:=tk.map (n*·)
section
variable {r x y:Rl} {l:List Cl} {tk:List Int}
def Vq (tk:List Int):(yQ tk).length=tk.length:=Qa _
def FitG.row (h:FitG r l tk) {i:Nat} {a p:Int} (ha:(amV l)[i]? =some a) (hp:tk[i]? =some p):∃c:Cl,l[i]? =some c/\c.1=a/\xO c (p:Rat)∈zE l (yQ tk):=by
 unfold amV at ha;rw [Qh] at ha
 cases e:l[i]? with
 |none=>rw [e] at ha;cases ha
 |some c=>
  rw [e] at ha;cases ha;exact ⟨c,rfl,rfl,Wh e (by unfold yQ;rw [Qh,hp];rfl)⟩
def FitG.inB (h:FitG r l tk):InB (amV l) tk:=⟨by rw [yi];exact h.len,λi a p ha hp=>by
 obtain ⟨c,_,rfl,hm⟩:=h.row ha hp;have:=h.fit.inQ _ hm
 exact ⟨Vp this.1,Vp this.2⟩⟩
def Ec  (s:tk.length=l.length) (e:L=zE l (yQ tk)) (h:qK L):qL (amV l) tk:=by
 refine ⟨by rw [yi];exact s,λi a p ha hp=>?_⟩;unfold amV at ha;rw [Qh] at ha
 cases e1:l[i]? with
 |none=>rw [e1] at ha;cases ha
 |some c=>
  rw [e1] at ha;cases ha;have hm:xO c (p:Rat)∈L:=by rw [e];exact Wh e1 (by unfold yQ;rw [Qh,hp];rfl)
  have b:=h.1 _ hm;refine ⟨Vp b.1,Vp b.2,λlt q m=>?_⟩;obtain ⟨j,t,rfl⟩:=QS m
  have g:xO (l[j]'⋯) ((tk[j]:Int):Rat)∈L:=by
   rw [e];exact Wh (Qb _) (by unfold yQ;rw [Qh,Qb t];rfl)
  exact Vp (h.2 _ hm (nB lt) _ g)
def Av:yQ (Zb am tk)=qS (yQ am) (yQ tk):=by
 unfold yQ Zb qS;rw [jbN,jbM]
 congr 1
 funext a b
 rw [jaU]
def Hw (l:List Cl):yQ (amV l)=amQ l:=(aC l).symm
def oX:zE l (yQ (Zb (amV l) tk))=(zE l (yQ tk)).map Row.flip:=by
 rw [Av,Hw,aa]
def uF (h:tk.length=l.length):(Zb (amV l) tk).length=l.length:=by rw [Vj (by rw [yi];exact h),yi]
def FitG.evenly (h:FitG .evenly l tk):qL (amV l) tk:=Ec h.len rfl h.fit.2
def FitG.losses (h:FitG .losses l tk):qL (amV l) (Zb (amV l) tk):=Ec (uF h.len) oX.symm h.fit.2
def FitG.other (h:FitG (.other r) l tk):FitG r l (Zb (amV l) tk):=⟨uF h.len,by rw [oX];exact h.fit.2⟩
def aR (tk:List Int):zM (yQ tk)=((tk.sum:Int):Rat):=UM tk
def FitG.sums (h:FitG r l tk):qR (zE l (yQ tk))=(((amV l).sum:Int):Rat)/\AO (zE l (yQ tk))=((tk.sum:Int):Rat):=
 ⟨by rw [Xw (by rw [Vq];exact h.len),xJ],by rw [Yz (by rw [Vq];exact h.len),aR]⟩
def FitG.shares (h:FitG .shares l tk):tk.map (·*(amV l).sum)=(amV l).map (·*tk.sum):=by
 have s:=h.sums;have f:=h.fit.2
 apply Tt
 ·rw [Qa,Qa,yi,h.len]
 ·intro i m g;rw [Qa] at m g;obtain ⟨c,_,e,hm⟩:=h.row (Qb g) (Qb m);have:=f _ hm;rw [s.1,s.2] at this;rw [jaD,jaD]
  apply Rat.intCast_inj.mp
  rw [Tb,Tb,<-e];exact this
def FitG.halves (h:FitG .halves l tk):FitG (.upto 1 2 .evenly .losses) l tk:=by
 refine ⟨h.len,h.fit.1,?_⟩;have g:Rat.divInt 1 2=(1:Rat) / 2:=by decide+kernel
 rw [g];exact h.fit.2
def Zi (n:Int) (l:List Cl):(yd n l).length=l.length:=Qa _
def Xq (n:Int) (tk:List Int):(yV n tk).length=tk.length:=Qa _
def Vt (n:Int) (l:List Cl):amV (yd n l)=yV n (amV l):=by
 unfold amV yd yV;rw [Qr,Qr];rfl
theorem aO (n:Int):∀tk:List Int,(yV n tk).sum=n*tk.sum
 |[]=>by show (0:Int)=n*0;rw [Int.mul_zero]
 |a::tk=>by
  show (n*a::yV n tk).sum=_;rw [QN,QN,aO n tk,Int.mul_add]
theorem ui (g:b≠0):∀{l:List Cl} {tk:List Int},zE (yd t l) (yQ (yV b tk))=((zE l (yQ tk)).map (Row.first (Rat.divInt t b))).map (Row.scale (b:Rat))
 |[],_=>rfl
 |_::_,[]=>rfl
 |c::l,p::tk=>by
  show xO (t*c.1,c.2) ((b*p:Int):Rat)::zE (yd t l) (yQ (yV b tk))=Row.scale (b:Rat) (Row.first (Rat.divInt t b) (xO c (p:Rat)))::((zE l (yQ tk)).map (Row.first (Rat.divInt t b))).map (Row.scale (b:Rat));rw [ui g];have e:=yE (t:=t) g
  congr 1
  simp only [xO,Row.scale,Row.first,Tb]
  congr 1<;>grind
theorem uh (g:b≠0):∀{l:List Cl} {tk:List Int},zE (yd (b - t) l) (yQ (Zb (yV b tk) (yV t (amV l))))=((zE l (yQ tk)).map (Row.rest (Rat.divInt t b))).map (Row.scale (b:Rat))
 |[],[]=>rfl
 |[],_::_=>rfl
 |_::_,[]=>rfl
 |c::l,p::tk=>by
  show xO ((b - t)*c.1,c.2) ((b*p - t*c.1:Int):Rat)::zE (yd (b - t) l) (yQ (Zb (yV b tk) (yV t (amV l))))=Row.scale (b:Rat) (Row.rest (Rat.divInt t b) (xO c (p:Rat)))::((zE l (yQ tk)).map (Row.rest (Rat.divInt t b))).map (Row.scale (b:Rat));rw [uh g];have e:=yE (t:=t) g
  congr 1
  simp only [xO,Row.scale,Row.rest,Tb,jaU]
  congr 1<;>grind
def FitG.upto (m:0<b) (h:FitG (.upto t b x y) l tk):
 if (yV b tk).sum<=(amV (yd t l)).sum then FitG x (yd t l) (yV b tk) else FitG y (yd (b - t) l) (Zb (yV b tk) (amV (yd t l))):=by
 have s:=h.sums;have f:=h.fit.2;have g:=YZ m;have bn:b≠0:=⋯
 have e:=yE (t:=t) bn;unfold cA at f;rw [s.1,s.2] at f
 have iff:((tk.sum:Int):Rat)<=(((amV l).sum:Int):Rat)*Rat.divInt t b↔(yV b tk).sum<=(amV (yd t l)).sum:=by
  rw [Vt,aO,aO,<-kq g,<-Tc,Tb,Tb,<-e]
  constructor<;>intro z<;>grind
 by_cases c:(yV b tk).sum<=(amV (yd t l)).sum
 ·rw [QJ (iff.mpr c)] at f;rw [QJ c];exact ⟨by rw [Xq,Zi];exact h.len,by rw [ui bn];exact xW.scale g f⟩
 ·rw [QO (λz=>c (iff.mp z))] at f;rw [QO c];refine ⟨?_,by rw [Vt,uh bn];exact xW.scale g f⟩;rw [Vt,Zi,Vj (by rw [Xq,Xq,yi,h.len]),Xq];exact h.len
def Ak  (g:Good r l P) (m:0<B) (e0:0<=e) (w:(e.den:Int)∣B) (hd:∀p∈zh P e,(p.den:Int)∣B):
 (tkV B (zh P e)).sum=min (e.num*B.fdiv (e.den:Int)) (B*(amV l).sum)/\FitG r (yd B l) (tkV B (zh P e)):=by
 have t:=YZ m;have ln:=g.std.len (e:=e)
 have s:yQ (tkV B (zh P e))=aM (B:Rat) (zh P e):=by
  unfold yQ tkV aM;rw [Qr];exact QK λp hp=>oj m (hd p hp)
 have lt:(tkV B (zh P e)).length=l.length:=by unfold tkV;rw [Qa];exact ln
 refine ⟨?_,by rw [Zi];exact lt,?_⟩
 ·apply Rat.intCast_inj.mp
  rw [<-aR,s,Iy,oj m w,Tb,Rat.mul_comm (B:Rat),<-GA t,<-xJ];have:=g.std.sum e0;rw [<-this];exact xg _ _
 ·rw [s]
  have:∀{l:List Cl} {v:List Rat},zE (yd B l) (aM (B:Rat) v)=(zE l v).map (Row.scale (B:Rat)):=by
   intro l
   induction l with
   |nil=>intro v;rfl
   |cons c l u=>
    intro v
    cases v with
    |nil=>rfl
    |cons q v=>
     show xO (B*c.1,c.2) (q*(B:Rat))::zE (yd B l) (aM (B:Rat) v)=Row.scale (B:Rat) (xO c q)::(zE l v).map (Row.scale (B:Rat));rw [u]
     congr 1
     simp only [xO,Row.scale,Tb]
     congr 1
     grind
  rw [this];exact xW.scale t (g.fit e e0)
end
section
variable {r x y:Rl} {t b:Int} {l:List Cl}
def FY (h:WE t b):PyData.tuple [.int t, .int b]=frD (Rat.divInt t b):=by
 have g:0<b:=by have:=h.2.1;have:=h.2.2.1;omega
 have l:=UC (a:=t) g;unfold frD;rw [<-l.1,<-l.2,h.2.2.2];rw [show (((1:Nat):Int))=1 from rfl,Int.fdiv_one,Int.fdiv_one]
def JT (h:WE t b):SzQ 210 (Rat.divInt t b):=SzQ.divInt h.1.1 h.1.2 (by have:=h.2.1;have:=h.2.2.1;omega)
def aY  (h:∀c∈P,SzC n c) (hp:SzQ m p):∀c∈zS p P,SzC (n+m) c:=λc u=>by
 obtain ⟨d,hd,rfl⟩:=Qj.mp u;have:=h d hd;refine ⟨this.1.mul hp,λq s=>?_⟩;obtain ⟨x,g,rfl⟩:=Qj.mp s;exact (this.2 x g).mul hp
end
section
variable {B G0 H:Hp} {cs:yq} {ds:Dat} {Q:VK} {E:XK} {v w u:V} {K:Frg}
end
noncomputable def VT:Rl->Nat
 | .halves=>3
 | .other r=>VT r+1
 | .upto _ _ x y=>max (VT x) (VT y)+1
 | .ranks r=>VT r+1
 | .groups a b=>max (VT a) (VT b)+1
 |_=>1
theorem Hu:∀r:Rl,1<=VT r
 | .shares=>Qu _
 | .evenly=>Qu _
 | .losses=>Qu _
 | .halves=>by decide
 | .other r=>by simp [VT]
 | .ranks r=>by simp [VT]
 | .groups a b=>by simp [VT]
 | .upto _ _ x y=>by simp [VT]
section
variable {B G0 H:Hp} {cs:yq} {ds:Dat} {Q:VK} {E:XK} {v w u:V} {K:Frg} {n:Nat} {r x y:Rl} {l:List Cl} {tk:List Int} {t b:Int}
def port12:WE 1 2:=⟨⟨by unfold Sz;decide,by unfold Sz;decide⟩,nofun,nofun,nofun⟩
def tT  (p:Sz 211 c) (h:∀x∈amV l,Sz m x):∀x∈amV (yd c l),Sz (m+300) x:=λx g=>by
 rw [Vt] at g;obtain ⟨a,ha,rfl⟩:=Qj.mp g;exact (p.mul (h a ha)).mono ⋯
end
section
variable {B G0 H:Hp} {cs:yq} {ds:Dat} {Q:VK} {E:XK} {v w u:V} {K:Frg} {r:Rl} {l:List Cl} {e:Rat}
end
structure Small (t b:Int):Prop where
 port:WE t b
 le:b<=61
section
variable {B G0 H:Hp} {cs:yq} {ds:Dat} {Q:VK} {E:XK} {v w u:V} {K:Frg}
def rj:Sp:=λvs H Q _=>∃(G:Hp) (c:Int),vs=[.int c]/\zP G H/\∀v H' G' (t b:Int),Grow G H G' H'->Is G' (.tuple [.int t, .int b]) v->Small t b->Q v H'
def FN (S:Sta B G0 H cs ds) (k:∀v H' (t b:Int),Small t b->zP H H'->Sta B G0 H' cs ((.tuple [.int t, .int b],v)::ds)->Q v H'):rj [.int c] H Q E:=by
 obtain ⟨G,S⟩:=S;refine ⟨G,c,rfl,S.2.1,λv H' y t b gr g good=>k v H' t b good gr.h ?_⟩;obtain ⟨s,r,q,d',p,m,g'⟩:=S.grow gr;exact ⟨y,s,r,q,d',p,m,g'.cons g⟩
def BX  (S:Sta H G H' cs ds) (k:∀v H' g (t b:Int),Grow G H g H'->Is g (.tuple [.int t, .int b]) v->Small t b->Q v H') (h:Has ds (.tuple [.int t, .int b]) v) (m:Small t b):Q v H':=by
 obtain ⟨g,gr,al⟩:=S.leave;exact k v H' g t b gr (h g al) m
end
def qU  (G:b.1<c.1) (q:b.2.length=m) (lc:c.2.length=m) (u:zR a b c) (t:zR b c y):zR a b y:=λi A B Y s g r=>by
 have I:i<m:=by rw [<-q];exact (Qd.mp g).1
 have p:=Qb (l:=c.2) (i:=i) ⋯;have J:=u i A B _ s g p;have D:=t i B _ Y g p r;generalize c.2[i]=C at*;have z:(B - A)*(c.1 - b.1)=(C - B)*(b.1 - a.1):=by grind
 have w:((B - A)*(y.1 - a.1) - (Y - A)*(b.1 - a.1))*(c.1 - b.1)=0:=by
  have:((B - A)*(y.1 - a.1) - (Y - A)*(b.1 - a.1))*(c.1 - b.1)=((B - A)*(c.1 - b.1))*(y.1 - a.1) - ((Y - B)*(c.1 - b.1))*(b.1 - a.1) - ((B - A)*(c.1 - b.1))*(b.1 - a.1):=by grind
  rw [this,z,<-D];grind
 have:=zV w (xQ G)
 grind
def ou  (D:k.1<b.1) (r:a.2.length=m) (lk:k.2.length=m) (u:zR k a b) (t:zR k b c):zR a b c:=λi A B C q p s=>by
 have G:i<m:=by rw [<-r];exact (Qd.mp q).1
 have g:=Qb (l:=k.2) (i:=i) ⋯;have J:=u i _ A B g q p;have I:=t i _ B C g p s;generalize k.2[i]=K at*;have z:(B - A)*(b.1 - k.1)=(B - K)*(b.1 - a.1):=by grind
 have y:(C - A)*(b.1 - k.1)=(B - K)*(c.1 - a.1):=by grind
 have w:((B - A)*(c.1 - a.1) - (C - A)*(b.1 - a.1))*(b.1 - k.1)=0:=by
  have:((B - A)*(c.1 - a.1) - (C - A)*(b.1 - a.1))*(b.1 - k.1)=((B - A)*(b.1 - k.1))*(c.1 - a.1) - ((C - A)*(b.1 - k.1))*(b.1 - a.1):=by grind
  rw [this,z,y];grind
 have:=zV w (xQ D)
 grind
theorem Thn.cons  (h:Thn F) (h0:∀y z t,F=y::z::t->¬zR k y z):Thn (k::F)
 |0,x,y,z,m,g,hz=>by
  match F,h0,g,hz with
  |[],_,g,_=>simp at g
  |[_],_,_,hz=>simp at hz
  |a::b::t,h0,g,hz=>
   simp at m g hz;subst m;subst g;subst hz;exact h0 _ _ t rfl
 |i+1,x,y,z,m,g,hz=>h i x y z ‹m› ‹g› ‹hz›
theorem gU:∀(r:List zg) (k a b:zg),yu (k::b::r)->(∀x∈k::b::r,x.2.length=m)->(a=k\/(k.1<a.1/\a.1<b.1/\a.2.length=m/\zR k a b))->
 Thn (k::yh a (b::r))/\∃y t,yh a (b::r)=y::t/\(y=b\/(b.1<y.1/\y.2.length=m/\zR a b y))
 |[],k,a,b,_,_,_=>by
  rw [yh];exact ⟨λi x y z _ _ hz=>by simp at hz,b,[],rfl, .inl rfl⟩
 |c::r,k,a,b,hr,hl,ha=>by
  obtain ⟨I,G⟩:=Qn.mp hr;obtain ⟨M,L⟩:=Qn.mp G;have J:=I b (Qe ..);have q:=M c (Qe ..);have lk:=hl k (Qe ..);have w:=hl b (Qf _ (Qe ..));have lc:=hl c (Qf _ (Qf _ (Qe ..)));rw [yh]
  split
  ·rename_i st
   have N:zR k b c:=by
    rcases ha with rfl|⟨_,K,A,s0⟩
    ·exact st
    ·exact cP K lk A s0 st
   have rk:yu (k::c::r):=Qn.mpr ⟨λx g=>I x (Qf _ g),L⟩
   obtain ⟨D,y,t,e,C⟩:=gU r k b c rk (λx g=>hl x (by
    rcases Ql.mp g with rfl|g
    ·exact Qe ..
    ·exact Qf _ (Qf _ g))) (.inr ⟨J,q,w,N⟩)
   refine ⟨D,y,t,e, .inr ?_⟩
   rcases C with rfl|⟨p,u,s⟩
   ·exact ⟨q,lc,st⟩
   ·exact ⟨xl q p,u,qU q w lc st s⟩
  ·rename_i st;obtain ⟨D,y,t,e,C⟩:=gU r b b c G (λx g=>hl x (Qf _ g)) (.inl rfl);refine ⟨D.cons λO z t' ez=>?_,b,_,rfl, .inl rfl⟩;rw [e] at ez;cases ez;intro s
   have s1:zR k b c:=by
    rcases C with rfl|⟨p,u,s2⟩
    ·exact s
    ·exact lz (xl q p) w u s2 s
   rcases ha with rfl|⟨_,K,A,s0⟩
   ·exact st s1
   ·exact st (ou J A lk s0 s1)
def qb  (hr:yu L) (g:∀x∈L,x.2.length=m):Thn (yn L):=by
 match L,hr,g with
 |[],_,_=>exact λi x y z q=>by simp [yn] at q
 |[c],_,_=>exact λi x y z _ p=>by simp [yn,yh] at p
 |c::b::r,hr,g=>exact (gU r c c b hr g (.inl rfl)).1
def Mon (P:List zg):Prop:=P.Pairwise λc d=>LeV c.2 d.2
structure Ful (m:Nat) (T:Rat) (as:List Rat) (P:List zg):Prop where
 std:Std m T as P
 mono:Mon P
 thin:Thn P
section
variable {m:Nat} {T T':Rat} {as PB:List Rat} {P P':List zg}
def Ful.pm (h:Ful m T as P):PathM m P:=⟨⟨h.std.rise,λc g=>(h.std.ok c g).1,h.thin⟩,λc g=>(h.std.ok c g).2,h.mono⟩
def LeV.refl (x:List Rat):LeV x x:=λi a b ha g=>by rw [ha] at g;cases g;exact QR
def Std.le_last (h:Std m T as P) (mo:Mon P):∀c∈P,LeV c.2 as:=λc r=>by
 obtain ⟨i,q,rfl⟩:=QS r;have p:=h.last;rw [jay] at p;obtain ⟨s,g⟩:=Qd.mp p
 by_cases z:i=P.length - 1
 ·subst z;rw [g];exact LeV.refl _
 ·have:=QP.mp mo i (P.length - 1) q s ⋯;rw [g] at this;exact this
def Std.nn (h:Std m T as P) (mo:Mon P):∀c∈P,∀(i:Nat) (a:Rat),c.2[i]? =some a->0<=a:=λc g i a ha=>by
 obtain ⟨r,p⟩:=h.cons;have q:=(h.ok c g).1;rw [p] at g mo
 rcases Ql.mp g with rfl|g
 ·have:=(Qd.mp ha).2;rw [Tx] at this;rw [<-this];exact QR
 ·refine (Qn.mp mo).1 c g i 0 a ?_ ha;have:=(Qd.mp ha).1;rw [QU,QJ ⋯]
def Ful.turned (h:Ful m T as P):Ful m T as (yx P):=by
 have G:=h.std.lastC;have C:=h.std.lenA;refine ⟨nk h.std,?_,λi x y z t s hz st=>?_⟩
 ·unfold Mon yx;rw [Tj,List.pairwise_reverse];refine jbH (λ{c d} MI=>?_) h.mono;intro i a b ha g;obtain ⟨a1,a2,L,K,rfl⟩:=Bp (x:=(lastC P).2) (y:=d.2) ha;obtain ⟨N,M,f1,f2,rfl⟩:=Bp (x:=(lastC P).2) (y:=c.2) g;rw [L] at f1;cases f1;have:=MI i M a2 f2 K
  grind
 ·unfold yx at t s hz;obtain ⟨x,r,rfl⟩:=zK t;obtain ⟨y,u,rfl⟩:=zK s;obtain ⟨z,q,rfl⟩:=zK hz;have D:=(Qd.mp q).1;rw [Tv] at D;rw [List.getElem?_reverse ⋯] at r u q;have w:=(h.std.ok x (Qc r)).1;refine h.thin (P.length - 1 - (i+2)) z y x q (by rw [<-u];congr 1;omega) (by rw [<-r];congr 1;omega) ?_;rw [G] at st;intro j c b a J g ha;have I:j<as.length:=by rw [C,<-w];exact (Qd.mp ha).1
  have p:=Qb I;have:=st j (as[j] - a) (as[j] - b) (as[j] - c) (UN p ha) (UN p g) (UN p J);generalize as[j]=A at*;have e:(A - b - (A - a))*(T - z.1 - (T - x.1))=(A - c - (A - a))*(T - y.1 - (T - x.1)):=this
  grind
def Ful.scaled (hp:0<p) (h:Ful m T as P):Ful m (T*p) (aM p as) (zS p P):=by
 have q:∀{x:List Rat} {i:Nat} {a:Rat},(x.map (·*p))[i]? =some a->∃b,x[i]? =some b/\a=b*p:=λ{x i a} ha=>by
  rw [Qh] at ha
  cases e:x[i]? with
  |none=>rw [e] at ha;cases ha
  |some b=>rw [e] at ha;cases ha;exact ⟨b,rfl,rfl⟩
 refine ⟨WR hp h.std,?_,λi x y z t s hz st=>?_⟩
 ·unfold Mon zS;rw [Tj];refine jbH (λ{c d} MI=>?_) h.mono;intro i a b ha r;obtain ⟨A,C,rfl⟩:=q ha;obtain ⟨w,G,rfl⟩:=q r;exact Zq (MI i A w C G) (QE hp)
 ·unfold zS at t s hz;obtain ⟨x,J,rfl⟩:=zK t;obtain ⟨y,I,rfl⟩:=zK s;obtain ⟨z,D,rfl⟩:=zK hz;refine h.thin i x y z J I D ?_;intro j a b c ha r u;have g:∀{x:List Rat} {a:Rat},x[j]? =some a->(x.map (·*p))[j]? =some (a*p):=λ{x a} h=>by rw [Qh,h];rfl
  have:=st j (a*p) (b*p) (c*p) (g ha) (g r) (g u);have e:(b*p - a*p)*(z.1*p - x.1*p)=(c*p - a*p)*(y.1*p - x.1*p):=this
  have pn:p*p≠0:=λz=>by
   have:=jbA hp hp;rw [z] at this;exact absurd this jaP
  have:=zV (a:=(b - a)*(z.1 - x.1) - (c - a)*(y.1 - x.1)) (b:=p*p) (by grind) pn
  grind
def HQ (h:Std m T as P) (mo:Mon P) (h':Std m T' PB P') (r:Mon P'):Mon (P++yJ P P'):=by
 have s:=h.lastC;refine TU.mpr ⟨mo,?_,λc t d hd=>?_⟩
 ·unfold yJ;rw [Tj];refine jbH (λ{a b} Nr=>?_) (jbe (List.tail_sublist P') r);intro i x y p g;unfold VS at p g;dsimp only at p g;rw [Qt] at p g
  cases e0:(lastC P).2[i]? with
  |none=>rw [e0] at p;cases p
  |some q=>
   cases e1:a.2[i]? with
   |none=>rw [e0,e1] at p;cases p
   |some u=>
    cases e2:b.2[i]? with
    |none=>rw [e0,e2] at g;cases g
    |some v=>
     rw [e0,e1] at p;rw [e0,e2] at g;cases p;cases g;have:=Nr i u v e1 e2
     grind
 ·obtain ⟨d',z,rfl⟩:=Qj.mp hd;have w:=TV z;intro i x y p g;unfold VS at g;dsimp only at g;rw [s,Qt] at g
  cases e0:as[i]? with
  |none=>dsimp only at g;rw [e0] at g;cases g
  |some q=>
   cases e1:d'.2[i]? with
   |none=>dsimp only at g;rw [e0,e1] at g;cases g
   |some u=>
    dsimp only at g;rw [e0,e1] at g;cases g;have C:=h.le_last mo c t i x q p e0;have A:=h'.nn r d' w i u e1
    grind
def kE (h:Std m T as P) (mo:Mon P) (h':Std m T' PB P') (q:Mon P'):Ful m (T+T') (List.zipWith (·+·) as PB) (yn (P++yJ P P')):=by
 have s:=iD h h';obtain ⟨g,_⟩:=mW s;exact ⟨g,jbe (ZO _) (HQ h mo h' q),qb s.rise λx p=>(s.ok x p).1⟩
end
section
variable {l:List Cl} {ls as:List Int}
def KR (as:List Int) (h:ls.Pairwise (·<·)):Mon (evP as ls):=by
 unfold Mon evP;rw [Tj];refine jbH (λ{a b} Nr=>?_) h;intro i x y g m;unfold zY WM at g m;simp only [Qr,Qh] at g m
 cases e:as[i]? with
 |none=>rw [e] at g;cases g
 |some q=>
  rw [e] at g m;cases g;cases m;show ((min q a:Int):Rat)<=((min q b:Int):Rat);exact Tc.mpr ⋯
def KQ (h:LvOk as ls):Thn (evP as ls):=λi x y z r p hz st=>by
 unfold evP at r p hz;obtain ⟨a,ha,rfl⟩:=zK r;obtain ⟨b,m,rfl⟩:=zK p;obtain ⟨c,s,rfl⟩:=zK hz
 have lt:∀{i j:Nat} {a b:Int},ls[i]? =some a->ls[j]? =some b->i<j->a<b:=λ{i j a b} ha m Rm=>by
  obtain ⟨w,rfl⟩:=Qd.mp ha;obtain ⟨u,rfl⟩:=Qd.mp m;exact QP.mp h.rise i j w u Rm
 have ab:=lt ha m ⋯;have C:=lt m s ⋯;have a0:=h.nnL a (Qc ha)
 have bm:b∈as:=by
  rcases (h.mem b).mp (Qc m) with z|z
  ·omega
  ·exact z
 obtain ⟨j,A⟩:=Qw.mp bm
 have g:∀q:Int,(zY (WM as q)).2[j]? =some ((min b q:Int):Rat):=λq=>by
  unfold zY WM;simp only [Qr,Qh,A];rfl
 have e:=st j _ _ _ (g a) (g b) (g c);have s1:=h.sumlt (Qc m) (Qc s) C;rw [show min b a=a by omega,show min b b=b by omega,show min b c=b by omega] at e;have G:((b:Rat) - (a:Rat))*((((WM as c).sum:Int):Rat) - (((WM as a).sum:Int):Rat))=((b:Rat) - (a:Rat))*((((WM as b).sum:Int):Rat) - (((WM as a).sum:Int):Rat)):=e;have D:=nB ab;have t:=nB s1;have:=jbA (show (0:Rat)<(b:Rat) - (a:Rat) by grind) (show (0:Rat)<(((WM as c).sum:Int):Rat) - (((WM as b).sum:Int):Rat) by grind)
 grind
def VG (h:LvOk (amV l) ls):Ful l.length (zM (amQ l)) (amQ l) (evP (amV l) ls):=⟨(Wn h).std,KR _ h.rise,KQ h⟩
def kA (h:LvOk (amV l) ls):Ful l.length (zM (amQ l)) (amQ l) (loP (amV l) ls):=by
 have:=(VG h).turned;rwa [eY h] at this
def Am (nn:∀a∈amV l,0<=a):Ful l.length (zM (amQ l)) (amQ l) (shP (amV l)):=by
 have s:=(gX nn).std;refine ⟨s,?_,λi x y z _ _ hz=>?_⟩
 ·obtain ⟨r,p⟩:=s.cons;have ok:=s.ok;unfold shP at p ok⊢
  split
  ·exact jar _ _
  ·refine Qn.mpr ⟨λd hd=>?_,jar _ _⟩;rw [Qq.mp hd,Wv];intro i a b ha g;have m:=(Qd.mp ha).2;rw [Tx] at m;unfold zY at g;simp only [Qh] at g
   cases e:(amV l)[i]? with
   |none=>rw [e] at g;cases g
   |some q=>
    rw [e] at g;cases g;rw [<-m];exact cf (nn q (Qc e))
 ·unfold shP at hz
  split at hz<;>simp at hz
def uU  (p0:0<p) (s:p<1) (m:Ful l.length (zM (amQ l)) (amQ l) P) (g:Ful l.length (zM (amQ l)) (amQ l) P'):Ful l.length (zM (amQ l)) (amQ l) (WI p P P'):=by
 have s1:=m.scaled p0;have s2:=g.scaled (p:=1 - p) (by grind);have:=kE s1.std s1.mono s2.std s2.mono;have q:zM (amQ l)*p+zM (amQ l)*(1 - p)=zM (amQ l):=by grind
 have r:List.zipWith (·+·) (aM p (amQ l)) (aM (1 - p) (amQ l))=amQ l:=by
  unfold aM
  apply Tt
  ·simp
  ·intro i _ _;simp only [QY,jaD]
   grind
 rw [q,r] at this;exact this
def An (h:LvOk (amV l) ls):Ful l.length (zM (amQ l)) (amQ l) (yn (hvP (amV l) ls)):=by
 have g:=uU (p:=1 / 2) uM (by decide+kernel) (VG h) (kA h)
 have m:WI (1 / 2) (evP (amV l) ls) (loP (amV l) ls)=yn (hvP (amV l) ls):=by
  unfold WI;rw [show (1:Rat) - 1 / 2=1 / 2 by decide+kernel];rfl
 rw [m] at g;exact g
end
noncomputable def xS:List (Rat×Nat)->List Rat->List Rat
 |[],w=>w
 |(p,i)::r,w=>xS r (w.set i p)
noncomputable def yb (pl:List Nat) (n:Nat) (v:List Rat):List Rat:=xS (v.zip pl) (List.replicate n 0)
theorem aX:∀(z:List (Rat×Nat)) (w:List Rat),(xS z w).length=w.length
 |[],w=>rfl
 |(p,i)::r,w=>by rw [xS,aX r,jbW]
theorem Ui:∀(z:List (Rat×Nat)) (w:List Rat),(∀x∈z,x.2≠j)->(xS z w)[j]? =w[j]?
 |[],w,_=>rfl
 |(p,i)::r,w,h=>by
  rw [xS,Ui r _ λx g=>h x (Qf _ g),jbI (h (p,i) (Qe ..))]
theorem jP  :∀(z:List (Rat×Nat)) (w:List Rat),(z.map (·.2)).Nodup->(p,j)∈z->j<w.length->(xS z w)[j]? =some p
 |[],w,_,h,_=>absurd h Qm
 |(q,i)::r,w,nd,h,hj=>by
  rw [Qp,TZ] at nd;rw [xS]
  rcases Ql.mp h with e|h
  ·cases e;rw [Ui r _ λx g e=>nd.1 (Qj.mpr ⟨x,g,e⟩),List.getElem?_set_self hj]
  ·exact jP r _ nd.2 h (by rw [jbW];exact hj)
def AX {v:List Rat} {pl:List Nat} (h:v.length=pl.length):(v.zip pl).map (·.2)=pl:=by
 have:(v.zip pl).map Prod.snd=pl:=List.map_snd_zip ⋯;exact this
structure Pls (n:Nat) (pl:List Nat):Prop where
 nd:pl.Nodup
 lt:∀i∈pl,i<n
section
variable {n m:Nat} {pl:List Nat} {v u:List Rat}
def yM (pl:List Nat) (n:Nat) (v:List Rat):(yb pl n v).length=n:=by unfold yb;rw [aX,QD]
def jK (h:Pls n pl) (g:v.length=pl.length) {p:Rat} {i:Nat} (hm:(p,i)∈v.zip pl):(yb pl n v)[i]? =some p:=
 jP _ _ (by rw [AX g];exact h.nd) hm (by rw [QD];exact h.lt i (jbz hm).2)
def Zj (h:Pls n pl) (g:v.length=pl.length) {i j:Nat} {p:Rat} (q:pl[j]? =some i) (hp:v[j]? =some p):(yb pl n v)[i]? =some p:=
 jK h g (Qc (i:=j) (by rw [Ts];exact ⟨hp,q⟩))
def xZ (p:i<n) (hm:i∉pl):(yb pl n v)[i]? =some 0:=by
 unfold yb;rw [Ui _ _ λx g e=>hm (by rw [<-e];exact (jbz (a:=x.1) (b:=x.2) g).2),QU,QJ p]
def Zg (h:Pls n pl) (q:v.length=pl.length) {i:Nat} {p:Rat} (hp:(yb pl n v)[i]? =some p):(∃j:Nat,pl[j]? =some i/\v[j]? =some p)\/(i∉pl/\p=0):=by
 have r:i<n:=by have:=(Qd.mp hp).1;rwa [yM] at this
 by_cases c:i∈pl
 ·obtain ⟨j,g⟩:=Qw.mp c;have s:=(Qd.mp g).1;have e:=Qb (l:=v) (i:=j) ⋯;have:=Zj h q g e;rw [hp] at this;cases this;exact .inl ⟨j,g,e⟩
 ·rw [xZ r c] at hp;cases hp;exact .inr ⟨c,rfl⟩
theorem tY:∀{w:List Rat} {i:Nat} {q p:Rat},w[i]? =some q->zM (w.set i p)=zM w - q+p
 |[],_,_,_,h=>by simp at h
 |a::w,0,q,p,h=>by
  cases h;rw [List.set_cons_zero,zM,zM];grind
 |a::w,i+1,q,p,h=>by
  rw [List.set_cons_succ,zM,zM,tY (w:=w) (i:=i) (q:=q) (p:=p) ‹h›];grind
theorem jO:∀(z:List (Rat×Nat)) (w:List Rat),(z.map (·.2)).Nodup->(∀x∈z,w[x.2]? =some 0)->zM (xS z w)=zM w+zM (z.map (·.1))
 |[],w,_,_=>by rw [xS,jav,zM];grind
 |(p,i)::r,w,nd,h=>by
  rw [Qp,TZ] at nd;have h0:=h (p,i) (Qe ..)
  rw [xS,jO r _ nd.2 λx g=>by
   rw [jbI (λe=>nd.1 (Qj.mpr ⟨x,g,e.symm⟩))]
   exact h x (Qf _ g),tY h0,Qp,zM]
  grind
def vT (h:Pls n pl) (p:v.length=pl.length):zM (yb pl n v)=zM v:=by
 unfold yb
 rw [jO _ _ (by rw [AX p];exact h.nd) λx g=>by
  rw [QU,QJ (h.lt _ (jbz (a:=x.1) (b:=x.2) g).2)],Xr]
 have:(v.zip pl).map Prod.fst=v:=List.map_fst_zip ⋯;have e:(v.zip pl).map (·.1)=v:=this;rw [e];grind
def qV (h:Pls n pl):yb pl n (List.replicate pl.length 0)=List.replicate n 0:=by
 apply Tf
 intro i
 by_cases g:i<n
 ·rw [QU,QJ g];have e:=Qb (l:=yb pl n (List.replicate pl.length 0)) (i:=i) (by rw [yM];exact g)
  rcases Zg h (by rw [QD]) e with ⟨j,p,hp⟩|⟨_,hp⟩
  ·rw [e];have:=(Qd.mp hp).2;rw [Tx] at this;rw [<-this]
  ·rw [e,hp]
 ·rw [QG (by rw [yM];omega),QG (by rw [QD];omega)]
noncomputable def Xc (pl:List Nat) (n:Nat) (c:zg):zg:=(c.1,yb pl n c.2)
noncomputable def yr (pl:List Nat) (n:Nat) (P:List zg):List zg:=P.map (Xc pl n)
def Kr (t:Rat):xU t 0 0=0:=by unfold xU;grind
def qX {c d:zg} {e:Rat} (h:Pls n pl) (lc:c.2.length=pl.length) (ld:d.2.length=pl.length):XS (Xc pl n c) (Xc pl n d) e=yb pl n (XS c d e):=by
 have s:(XS c d e).length=pl.length:=eJ lc ld
 apply Tf
 intro i
 by_cases g:i<n
 ·have r:=Qb (l:=yb pl n c.2) (i:=i) (by rw [yM];exact g);have q:=Qb (l:=yb pl n d.2) (i:=i) (by rw [yM];exact g);unfold XS Xc;dsimp only;rw [Qt,r,q]
  by_cases hm:i∈pl
  ·obtain ⟨j,p⟩:=Qw.mp hm;have w:=(Qd.mp p).1;have f1:=Qb (l:=c.2) (i:=j) ⋯;have f2:=Qb (l:=d.2) (i:=j) ⋯;have g1:=Zj h lc p f1;have g2:=Zj h ld p f2;rw [r] at g1;rw [q] at g2
   have t:(XS c d e)[j]? =some (xU ((e - c.1) / (d.1 - c.1)) c.2[j] d.2[j]):=by
    unfold XS;rw [Qt,f1,f2]
   have g3:=Zj h s p t;unfold XS at g3;rw [g3,QH g1,QH g2]
  ·have g1:=xZ (v:=c.2) g hm;have g2:=xZ (v:=d.2) g hm;have g3:=xZ (v:=XS c d e) g hm;rw [r] at g1;rw [q] at g2;unfold XS at g3;rw [g3,QH g1,QH g2];show some (xU _ 0 0)=_;rw [Kr]
 ·rw [QG,QG (by rw [yM];omega)];rw [eJ (m:=n) (yM ..) (yM ..)];omega
theorem cQ (h:Pls n pl):∀{c:zg} {r:List zg},(∀x∈c::r,x.2.length=pl.length)->zh (yr pl n (c::r)) e=yb pl n (zh (c::r) e)
 |c,[],_=>rfl
 |c,d::r,hl=>by
  have lc:=hl c (Qe ..);have ld:=hl d (Qf _ (Qe ..));show zh (Xc pl n c::Xc pl n d::yr pl n r) e=_;rw [zh,zh]
  by_cases he:e<d.1
  ·rw [QJ he,QJ (show e<(Xc pl n d).1 from he),qX h lc ld]
  ·rw [QO he,QO (show ¬e<(Xc pl n d).1 from he)];exact cQ h (c:=d) (r:=r) λx g=>hl x (Qf _ g)
def Std.spread  (h:Std m T as P) (hp:Pls n pl) (hm:pl.length=m):Std n T (yb pl n as) (yr pl n P):=by
 subst hm;refine ⟨?_,λc g=>?_,?_,?_⟩
 ·unfold yr yu;rw [Tj];exact h.rise
 ·obtain ⟨d,hd,rfl⟩:=Qj.mp g;have:=h.ok d hd;exact ⟨yM ..,by show zM (yb pl n d.2)=d.1;rw [vT hp this.1,this.2]⟩
 ·unfold yr;rw [Qh,h.head];show some (0,yb pl n _)=_;rw [qV hp]
 ·unfold yr;rw [jaH,h.last];rfl
def Std.spreadE  (h:Std m T as P) (hp:Pls n pl) (hm:pl.length=m) (e:Rat):zh (yr pl n P) e=yb pl n (zh P e):=by
 obtain ⟨r,p⟩:=h.cons;have ok:=h.ok;rw [p] at ok⊢;exact cQ hp λx g=>by rw [(ok x g).1,hm]
def Ful.spread {T:Rat} {as:List Rat} {P:List zg} (h:Ful m T as P) (hp:Pls n pl) (hm:pl.length=m):Ful n T (yb pl n as) (yr pl n P):=by
 have ls:∀c∈P,c.2.length=pl.length:=λc p=>by rw [(h.std.ok c p).1,hm]
 refine ⟨h.std.spread hp hm,?_,λi x y z A w hz st=>?_⟩
 ·unfold yr Mon;rw [Tj];refine List.Pairwise.imp_of_mem (λ{c d} p hd MI=>?_) h.mono;intro i a b ha q
  rcases Zg hp (ls c p) ha with ⟨j,g,K⟩|⟨hn,rfl⟩
  ·rcases Zg hp (ls d hd) q with ⟨t,r,D⟩|⟨hn,rfl⟩
   ·have J:j=t:=(List.getElem?_inj (by exact (Qd.mp g).1) hp.nd).mp (by rw [g,r]);subst J;exact MI j a b K D
   ·exact absurd (Qc g) hn
  ·rcases Zg hp (ls d hd) q with ⟨t,r,D⟩|⟨_,rfl⟩
   ·exact absurd (Qc r) hn
   ·exact QR
 ·unfold yr at A w hz;obtain ⟨x,s,rfl⟩:=zK A;obtain ⟨y,G,rfl⟩:=zK w;obtain ⟨z,C,rfl⟩:=zK hz;refine h.thin i x y z s G C λj a b c ha q p=>?_;have I:j<pl.length:=by rw [<-ls x (Qc s)];exact (Qd.mp ha).1
  have g:=Qb I;exact st (pl[j]) a b c (Zj hp (ls x (Qc s)) g ha) (Zj hp (ls y (Qc G)) g q) (Zj hp (ls z (Qc C)) g p)
end
noncomputable def zN (p:Cl->Bool) (l:List Cl):List Nat:=(List.range l.length).filter λi=>p (l.getD i (0,0,0))
noncomputable def yk {α:Type} (d:α) (pl:List Nat) (v:List α):List α:=pl.map λi=>v.getD i d
section
variable {p:Cl->Bool} {l:List Cl} {v:List Rat}
def YW (p:Cl->Bool) (l:List Cl):Pls l.length (zN p l):=⟨List.Pairwise.filter _ List.nodup_range,λi g=>jbJ.mp (Tq.mp g).1⟩
def YC  (g:l[i]? =some c):i∈zN p l↔p c=true:=by
 unfold zN;rw [Tq,jbJ,Qk,g];exact ⟨λh=>h.2,λh=>⟨(Qd.mp g).1,h⟩⟩
theorem UD {α:Type} (d:α) (p:α->Bool):∀l:List α,l.filter p=((List.range l.length).filter λi=>p (l.getD i d)).map λi=>l.getD i d
 |[]=>rfl
 |a::l=>by
  have g:=UD d p l;have e0:List.range (a::l).length=0::(List.range l.length).map Nat.succ:=by rw [Qy,List.range_succ_eq_map]
  have e:(List.map Nat.succ ((List.range l.length).filter ((λi=>p ((a::l).getD i d))∘Nat.succ))).map (λi=>(a::l).getD i d)=((List.range l.length).filter λi=>p (l.getD i d)).map λi=>l.getD i d:=by
   rw [Qr];rfl
  have z:(a::l).getD 0 d=a:=rfl;rw [e0,jbO (x:=a),jbO (x:=0),List.filter_map,z]
  split
  ·rw [Qp,e,<-g,z]
  ·rw [e,<-g]
def ZV (p:Cl->Bool) (l:List Cl):l.filter p=yk (0,0,0) (zN p l) l:=UD (0,0,0) p l
def Zo (p:Cl->Bool) (l:List Cl):(zN p l).length=(l.filter p).length:=by rw [ZV];unfold yk;rw [Qa]
def YG (q:Row->Bool) (s:∀c x,q (xO c x)=p c) (r:v.length=l.length):(zE l v).filter q=zE (l.filter p) (yk 0 (zN p l) v):=by
 have t:(zE l v).length=l.length:=by unfold zE;rw [QC,r,TM]
 have g:∀i,i<l.length->(zE l v).getD i (xO (0,0,0) 0)=xO (l.getD i (0,0,0)) (v.getD i 0):=λi m=>by
  unfold zE;rw [Qk,Qt,Qk,Qk,Qb m,Qb (show i<v.length by omega)];rfl
 rw [UD (xO (0,0,0) 0) q,t,ZV]
 have w:(List.range l.length).filter (λi=>q ((zE l v).getD i (xO (0,0,0) 0)))=zN p l:=by
  unfold zN;refine List.filter_congr λi m=>?_;rw [g i (jbJ.mp m),s]
 rw [w];unfold yk
 have u:zE (List.map (λi=>l.getD i (0,0,0)) (zN p l)) (List.map (λi=>v.getD i 0) (zN p l))=(zN p l).map λi=>xO (l.getD i (0,0,0)) (v.getD i 0):=by
  unfold zE;rw [jbM,List.zipWith_self]
 rw [u];refine QK λi m=>?_;rw [g i ((YW p l).lt i m)]
def rW {n:Nat} {pl:List Nat} (h:Pls n pl) (g:v.length=pl.length):yk 0 pl (yb pl n v)=v:=by
 unfold yk
 apply Tf
 intro j;rw [Qh]
 cases e:pl[j]? with
 |none=>
  have:=jbh.mp e;rw [QG ⋯];rfl
 |some i=>
  have m:=(Qd.mp e).1;have f:=Qb (l:=v) (i:=j) ⋯;have:=Zj h g e f;show some ((yb pl n v).getD i 0)=_;rw [Qk,this,f];rfl
def kh  (h:∀i∈pl,v[i]? =u[i]?):yk 0 pl v=yk 0 pl u:=by
 unfold yk;refine QK λi g=>?_;rw [Qk,Qk,h i g]
def Vd {α:Type} (d:α) (pl:List Nat) (v:List α):(yk d pl v).length=pl.length:=Qa _
end
def sL:Xl []=[]:=by
 unfold Xl;have:=(bQ (([]:List Row).map (·.group))).choose_spec
 exact List.eq_nil_iff_forall_not_mem.mpr λk g=>by
  have:=(this.2 k).mp g;simp at this
theorem YX:∀r:Rl,xW r []
 | .shares=>⟨λx m=>absurd m Qm,λx m=>absurd m Qm⟩
 | .evenly=>⟨λx m=>absurd m Qm,λx m=>absurd m Qm,λx m=>absurd m Qm⟩
 | .losses=>⟨λx m=>absurd m Qm,λx m=>absurd m Qm,λx m=>absurd m Qm⟩
 | .halves=>⟨λx m=>absurd m Qm,by
  unfold cA
  split
  ·exact ⟨λx m=>absurd m Qm,λx m=>absurd m Qm,λx m=>absurd m Qm⟩
  ·exact ⟨λx m=>absurd m Qm,λx m=>absurd m Qm,λx m=>absurd m Qm⟩⟩
 | .other r=>⟨λx m=>absurd m Qm,YX r⟩
 | .ranks r=>⟨λx m=>absurd m Qm,λk=>YX r,λx m=>absurd m Qm⟩
 | .groups a b=>⟨λx m=>absurd m Qm,λg=>YX b,by unfold kZ;rw [sL];exact YX a⟩
 | .upto t b x y=>⟨λx m=>absurd m Qm,by
  unfold cA
  split
  ·exact YX x
  ·exact YX y⟩
structure GF (r:Rl) (l:List Cl) (P:List zg):Prop where
 good:Good r l P
 ful:Ful l.length (zM (amQ l)) (amQ l) P
section
variable {n:Nat} {pl:List Nat} {p:Cl->Bool} {l:List Cl} {v:List Rat}
def qW (h:Pls n pl) (m:i<n) (q:v.length=n):(yb pl n (yk 0 pl v))[i]? =if i∈pl then v[i]? else some 0:=by
 split
 ·rename_i c;obtain ⟨j,g⟩:=Qw.mp c;have e:=Qb (l:=v) (i:=i) ⋯;refine (Zj h (Vd ..) g (p:=v[i]) ?_).trans e.symm;unfold yk;rw [Qh,g];show some (v.getD i 0)=_;rw [Qk,e];rfl
 ·exact xZ m (by assumption)
def kH (p:Cl->Bool) (l:List Cl):amQ (l.filter p)=yk 0 (zN p l) (amQ l):=by
 rw [ZV];unfold amQ yk;rw [Qr];refine QK λi m=>?_;have g:=(YW p l).lt i m;show (((l.getD i (0,0,0)).1:Int):Rat)=(l.map λc=>((c.1:Int):Rat)).getD i 0;rw [Qk,Qk,Qh,Qb g];rfl
end
noncomputable def zH (k:Int):Cl->Bool:=λc=>decide (c.2.1=k)
noncomputable def zo (k:Int):Cl->Bool:=λc=>decide (c.2.2=k)
noncomputable def zQ (l:List Cl):List Int:=(bQ (l.map (·.2.1))).choose
noncomputable def zu (l:List Cl):List Int:=(bQ (l.map (·.2.2))).choose
def yI (l:List Cl):(zQ l).Pairwise (·<·)/\∀k,k∈zQ l↔k∈l.map (·.2.1):=(bQ (l.map λc:Cl=>c.2.1)).choose_spec
def zX (l:List Cl):(zu l).Pairwise (·<·)/\∀k,k∈zu l↔k∈l.map (·.2.2):=(bQ (l.map λc:Cl=>c.2.2)).choose_spec
noncomputable def kW (n:Nat):List zg:=[(0,List.replicate n 0)]
noncomputable def Zv (f:List Cl->List zg) (l:List Cl) (P:List zg) (k:Int):List zg:=
 yn (P++yJ P (yr (zN (zH k) l) l.length (f (l.filter (zH k)))))
noncomputable def VV (f:List Cl->List zg) (l:List Cl):List zg:=(zQ l).foldl (Zv f l) (kW l.length)
open Classical in
noncomputable def asD (done:List Int) (l:List Cl):List Rat:=l.map λc=>if c.2.1∈done then (c.1:Rat) else 0
section
variable {r:Rl} {l:List Cl} {done:List Int} {P:List zg} {f:List Cl->List zg} {k:Int}
def EA (done:List Int) (l:List Cl):(asD done l).length=l.length:=Qa _
def qA {i:Nat} {c:Cl} (g:l[i]? =some c) (h:c.2.1∈done):(asD done l)[i]? =some (c.1:Rat):=by
 unfold asD;rw [Qh,g,Option.map_some,QJ h]
def iC {i:Nat} {c:Cl} (g:l[i]? =some c) (h:c.2.1∉done):(asD done l)[i]? =some 0:=by
 unfold asD;rw [Qh,g,Option.map_some,QO h]
structure RkI (r:Rl) (l:List Cl) (done:List Int) (P:List zg):Prop where
 ful:Ful l.length (zM (asD done l)) (asD done l) P
 fit:∀e:Rat,0<=e->∀k∈done,xW r ((zE l (zh P e)).filter (·.rank=k))
 zero:∀e:Rat,0<=e->∀(i:Nat) (c:Cl) (q:Rat),l[i]? =some c->(zh P e)[i]? =some q->c.2.1∉done->q=0
 ord:∀e:Rat,0<=e->∀x∈zE l (zh P e),∀y∈zE l (zh P e),x.rank∈done->x.rank<y.rank->0<y.part->x.part=x.am
def Fh (n:Nat):Ful n 0 (List.replicate n 0) (kW n):=by
 refine ⟨⟨jar _ _,λc m=>?_,rfl,rfl⟩,jar _ _,λi x y z _ g=>by simp [kW] at g⟩;rw [Qq.mp m];exact ⟨QD,Xr n⟩
def RkI.nil:RkI r l [] (kW l.length):=by
 have e:asD [] l=List.replicate l.length 0:=by
  unfold asD;rw [<-jaT];exact QK λc _=>QO Qm
 refine ⟨?_,λe _ k p=>absurd p Qm,λe _ i c q s m _=>?_,λe _ x _ y _ g=>absurd g Qm⟩
 ·rw [e,Xr];exact Fh l.length
 ·have:(List.replicate l.length (0:Rat))[i]? =some q:=m;have:=(Qd.mp this).2;rw [Tx] at this;exact this.symm
def RkI.step (h:RkI r l done P) (O:∀w∈done,w<k) (hf:GF r (l.filter (zH k)) (f (l.filter (zH k)))):RkI r l (done++[k]) (Zv f l P k):=by
 have I:=YW (zH k) l;have lk:=Zo (zH k) l;have M:=hf.ful.spread I lk;have st:=h.ful.std;have kn:k∉done:=λz=>absurd (O k z) ⋯;have G:=kE st h.ful.mono M.std M.mono;have inl:∀{i:Nat},i<l.length->∃c,l[i]? =some c:=λ{i} m=>⟨_,Qb m⟩
 have T:List.zipWith (·+·) (asD done l) (yb (zN (zH k) l) l.length (amQ (l.filter (zH k))))=asD (done++[k]) l:=by
  apply Tf
  intro i
  by_cases m:i<l.length
  ·obtain ⟨c,g⟩:=inl m;rw [Qt,kH,qW I m (Ws l)]
   by_cases s:c.2.1∈done
   ·have n1:i∉zN (zH k) l:=λz=>by
     have:=Qz ((YC g).mp z);rw [this] at s;exact kn s
    rw [qA g s,QO n1,qA g (jag _ s)];show some ((c.1:Rat)+0)=_;rw [Rat.add_zero]
   ·by_cases J:c.2.1=k
    ·have n1:i∈zN (zH k) l:=(YC g).mpr (QW J);rw [iC g s,QJ n1,qA g (QF _ (by rw [J];exact jaQ _))];unfold amQ;rw [Qh,g];show some ((0:Rat)+(c.1:Rat))=_;rw [Rat.zero_add]
    ·have n1:i∉zN (zH k) l:=λz=>J (Qz ((YC g).mp z))
     rw [iC g s,QO n1,iC g (λz=>by
      rcases QT.mp z with z|z
      ·exact s z
      ·exact J (Qq.mp z))]
     show some ((0:Rat)+0)=_;rw [Rat.zero_add]
  ·rw [QG (by rw [QC,EA];omega),QG (by rw [EA];omega)]
 have eT:zM (asD done l)+zM (amQ (l.filter (zH k)))=zM (asD (done++[k]) l):=by
  rw [<-T];exact (G.std.ok _ (jah G.std.last)).2.symm
 rw [T,eT] at G
 have parts:∀e:Rat,0<=e->zh (Zv f l P k) e=if e<zM (asD done l) then zh P e else List.zipWith (·+·) (asD done l) (yb (zN (zH k) l) l.length (zh (f (l.filter (zH k))) (e - zM (asD done l)))):=λe h0=>by
  unfold Zv;rw [cY st M.std h0,hf.ful.std.spreadE I lk]
 have MZ:∀e:Rat,(zh (Zv f l P k) e).length=l.length:=λe=>G.std.len;have D:∀x:Rat,(zh (f (l.filter (zH k))) x).length=(zN (zH k) l).length:=λx=>by rw [hf.ful.std.len,lk]
 have here:∀e:Rat,0<=e->¬e<zM (asD done l)->∀(i:Nat) (c:Cl),l[i]? =some c->(c.2.1∈done->(zh (Zv f l P k) e)[i]? =some (c.1:Rat))/\(c.2.1∉done++[k]->(zh (Zv f l P k) e)[i]? =some 0)/\(c.2.1=k->(zh (Zv f l P k) e)[i]? =(yb (zN (zH k) l) l.length (zh (f (l.filter (zH k))) (e - zM (asD done l))))[i]?):=λe h0 t i c g=>by
  have m:=(Qd.mp g).1;rw [parts e h0,QO t,Qt];refine ⟨λs=>?_,λs=>?_,λs=>?_⟩
  ·rw [qA g s,xZ m λz=>by
    have:=Qz ((YC g).mp z);rw [this] at s
    exact kn s]
   show some ((c.1:Rat)+0)=_;rw [Rat.add_zero]
  ·rw [iC g λz=>s (jag _ z),xZ m λz=>by
    have:=Qz ((YC g).mp z)
    exact s (QF _ (by rw [this];exact jaQ _))]
   show some ((0:Rat)+0)=_;rw [Rat.zero_add]
  ·rw [iC g (by rw [s];exact kn)];have A:=Qb (l:=yb (zN (zH k) l) l.length (zh (f (l.filter (zH k))) (e - zM (asD done l)))) (i:=i) (by rw [yM];exact m);rw [A];show some ((0:Rat)+_)=_;rw [Rat.zero_add]
 have zero:∀e:Rat,0<=e->∀(i:Nat) (c:Cl) (q:Rat),l[i]? =some c->(zh (Zv f l P k) e)[i]? =some q->c.2.1∉done++[k]->q=0:=λe h0 i c q g C hn=>by
  by_cases t:e<zM (asD done l)
  ·rw [parts e h0,QJ t] at C;exact h.zero e h0 i c q g C λz=>hn (jag _ z)
  ·rw [(here e h0 t i c g).2.1 hn] at C;cases C;rfl
 have rk:∀{w:Int} {i:Nat},i∈zN (zH w) l->∃c,l[i]? =some c/\c.2.1=w:=λ{w i} m=>by
  obtain ⟨c,g⟩:=inl ((YW (zH w) l).lt i m);exact ⟨c,g,Qz ((YC g).mp m)⟩
 refine ⟨G,λe h0 w X=>?_,zero,λe h0 x L y K Ov Z Y=>?_⟩
 ·rw [YG (p:=zH w) _ (λc x=>rfl) (MZ e)]
  by_cases t:e<zM (asD done l)
  ·rcases QT.mp X with z|z
   ·have:=h.fit e h0 w z;rw [YG (p:=zH w) _ (λc x=>rfl) st.len] at this;rw [parts e h0,QJ t];exact this
   ·rw [Qq.mp z]
    have e0:yk 0 (zN (zH k) l) (zh (Zv f l P k) e)=zh (f (l.filter (zH k))) 0:=by
     rw [hf.ful.std.zero,<-lk,<-jaT];unfold yk;refine QK λi m=>?_;obtain ⟨c,g,A⟩:=rk m;have il:=(Qd.mp g).1;have U:=Qb (l:=zh P e) (i:=i) (by rw [st.len];exact il);rw [parts e h0,QJ t,Qk,U];exact h.zero e h0 i c _ g U (by rw [A];exact kn)
    rw [e0];exact hf.good.fit 0 QR
  ·rcases QT.mp X with z|z
   ·have T0:=st.T0;have:=h.fit _ T0 w z;rw [YG (p:=zH w) _ (λc x=>rfl) st.len,st.past QR] at this;rw [kh (u:=asD done l) λi m=>?_]
    ·exact this
    ·obtain ⟨c,g,A⟩:=rk m;rw [(here e h0 t i c g).1 (by rw [A];exact z),qA g (by rw [A];exact z)]
   ·rw [Qq.mp z];rw [kh (u:=yb (zN (zH k) l) l.length (zh (f (l.filter (zH k))) (e - zM (asD done l)))) λi m=>?_,rW I (D _)]
    ·exact hf.good.fit _ (by have:=Tg.mp t;grind)
    ·obtain ⟨c,g,A⟩:=rk m;exact (here e h0 t i c g).2.2 A
 ·obtain ⟨j,d,N,hd,NG,rfl⟩:=Yi K
  have big:x.rank=k->False:=λA=>by
   have:=zero e h0 j d N hd NG λz=>by
    have lt':x.rank<d.2.1:=Z
    rcases QT.mp z with z|z
    ·have:=O _ z;omega
    ·have:=Qq.mp z;omega
   have pos:0<N:=Y;rw [this] at pos;exact absurd pos jaP
  rcases QT.mp Ov with z|z
  ·by_cases t:e<zM (asD done l)
   ·rw [parts e h0,QJ t] at L K;exact h.ord e h0 x L _ K z Z Y
   ·obtain ⟨i,c,q,g,C,rfl⟩:=Yi L;rw [(here e h0 t i c g).1 z] at C;cases C;rfl
  ·exact (big (Qq.mp z)).elim
theorem rN:∀(g done:List Int) (P:List zg),RkI r l done P->(done++g).Pairwise (·<·)->(∀k∈g,GF r (l.filter (zH k)) (f (l.filter (zH k))))->RkI r l (done++g) (g.foldl (Zv f l) P)
 |[],done,P,h,_,_=>by rw [jaI];exact h
 |k::g,done,P,h,hp,hf=>by
  have e:done++k::g=done++[k]++g:=by rw [jaf];rfl
  rw [e] at hp⊢;rw [List.foldl_cons];refine rN g (done++[k]) _ (h.step (λm p=>?_) (hf k (Qe ..))) hp λm p=>hf m (Qf _ p);exact (TU.mp (TU.mp hp).1).2.2 m p k (jaQ _)
def FV (hf:∀k∈zQ l,GF r (l.filter (zH k)) (f (l.filter (zH k)))):RkI r l (zQ l) (VV f l):=by
 have:=rN (zQ l) [] _ RkI.nil (by rw [jaK];exact (yI l).1) hf;rw [jaK] at this;exact this
def Al (hf:∀k∈zQ l,GF r (l.filter (zH k)) (f (l.filter (zH k)))):GF (.ranks r) l (VV f l):=by
 have h:=FV hf;have mem:∀{i:Nat} {c:Cl},l[i]? =some c->c.2.1∈zQ l:=λ{i c} g=>((yI l).2 _).mpr (Qj.mpr ⟨c,Qc g,rfl⟩)
 have t:asD (zQ l) l=amQ l:=by
  unfold asD amQ;refine QK λc g=>?_;obtain ⟨i,s⟩:=Qw.mp g;rw [QJ (mem s)]
 have ful:=h.ful;rw [t] at ful
 have fits:∀(e:Rat),0<=e->∀k,xW r ((zE l (zh (VV f l) e)).filter (·.rank=k)):=λe h0 k=>by
  by_cases z:k∈zQ l
  ·exact h.fit e h0 k z
  ·rw [List.filter_eq_nil_iff.mpr λx m hd=>?_]
   ·exact YX r
   ·obtain ⟨i,c,q,g,_,rfl⟩:=Yi m;have u:c.2.1=k:=Qz hd;exact z (by rw [<-u];exact mem g)
 refine ⟨⟨ful.std,λe h0=>⟨λx m=>?_,fits e h0,λx m y p A w=>?_⟩⟩,ful⟩
 ·exact (fits e h0 x.rank).inQ x (Tq.mpr ⟨m,QW rfl⟩)
 ·refine h.ord e h0 x m y p ?_ A w;obtain ⟨i,c,q,g,_,rfl⟩:=Yi m;exact mem g
end
def mM   (h:Nest P Qs) (st:Std Qs.length T as P):Ful (nQ Qs) T (yT Qs as) (yw P Qs):=by
 have J:=st.lastC;have past:zh P T=as:=st.past QR;refine ⟨⟨h.riseF,λc L=>?_,?_,?_⟩,?_,λi x y z G D hz s=>?_⟩
 ·obtain ⟨i,K⟩:=Qw.mp L;obtain ⟨N,M⟩:=Nest.F_at K;have g:=h.in_range (Qc N);rw [M];exact ⟨h.flen _,h.sum g.1 g.2⟩
 ·rw [Nest.F_of h.zeroM,h.flat0]
 ·rw [h.getLast,J,past]
 ·unfold Mon yw;rw [Tj];refine List.Pairwise.imp_of_mem (λ{u v} hu hv MT=>?_) h.rise;have ru:=h.in_range hu;have C:=h.in_range hv;exact h.rises ru.1 (QE MT) C.2
 ·obtain ⟨A,w⟩:=Nest.F_at G;obtain ⟨t,m⟩:=Nest.F_at D;obtain ⟨z1,z2⟩:=Nest.F_at hz;refine h.thin A t z1 λj p q r hp I hr=>?_;exact s j p r q (by rw [w];exact hp) (by rw [m];exact hr) (by rw [z2];exact I)
def VF (L:List Row):(Xl L).Pairwise (·<·)/\∀k,k∈Xl L↔k∈L.map (·.group):=(bQ (L.map λc:Row=>c.group)).choose_spec
noncomputable def AR (g:Int) (l:List Cl):Cl:=((amV l).sum,qN (l.map (·.2.1)),g)
noncomputable def zC (l:List Cl):List Cl:=(zu l).map λg=>AR g (l.filter (zo g))
noncomputable def zU (f:List Cl->List zg) (l:List Cl):List (List zg):=(zu l).map λg=>f (l.filter (zo g))
noncomputable def nU (l:List Cl):List (List Nat):=(zu l).map λg=>zN (zo g) l
noncomputable def wu (l:List Cl):List Nat:=(nU l).flatten
noncomputable def xt (fa fb:List Cl->List zg) (l:List Cl):List zg:=yr (wu l) l.length (yw (fa (zC l)) (zU fb l))
theorem cN  :∀{g:List (List Rat)} {m:List (List Nat)},g.map List.length=m.map List.length->∀{k:Nat} {V:List Rat} {L:List Nat},g[k]? =some V->m[k]? =some L->(q,i)∈V.zip L->(q,i)∈g.flatten.zip m.flatten
 |[],m,_,k,V,L,h,_,_=>by simp at h
 |V'::g,[],h,_,_,_,_,_,_=>by simp at h
 |V'::g,L'::m,h,k,V,L,h1,h2,h3=>by
  rw [Qp,Qp] at h;have p:V'.length=L'.length:=by injection h
  have ht:g.map List.length=m.map List.length:=by injection h
  rw [jaa,jaa,List.zip_append p]
  cases k with
  |zero=>
   cases h1;cases h2;exact jag _ h3
  |succ k=>exact QF _ (cN ht (k:=k) ‹h1› ‹h2› h3)
def JV {pl:List Nat} {V v:List Rat} (m:V.length=pl.length) (h:∀(q:Rat) (i:Nat),(q,i)∈V.zip pl->v[i]? =some q):yk 0 pl v=V:=by
 apply Tf
 intro j;unfold yk;rw [Qh]
 cases e:pl[j]? with
 |none=>
  have:=jbh.mp e;rw [QG ⋯];rfl
 |some i=>
  have g:=(Qd.mp e).1;have f:=Qb (l:=V) (i:=j) ⋯;have:=h V[j] i (Qc (i:=j) (by rw [Ts];exact ⟨f,e⟩));show some (v.getD i 0)=_;rw [Qk,this,f];rfl
section
variable {a b:Rl} {l:List Cl} {fa fb:List Cl->List zg}
theorem kB (l:List Cl):∀m:List Int,m.Pairwise (·<·)->(m.map λg=>zN (zo g) l).flatten.Nodup
 |[],_=>List.nodup_nil
 |g::m,h=>by
  obtain ⟨u,t⟩:=Qn.mp h;rw [Qp,jaa,List.nodup_append];refine ⟨(YW _ l).nd,kB l m t,λi p j r e=>?_⟩;subst e;obtain ⟨L,s,y⟩:=List.mem_flatten.mp r;obtain ⟨g',w,rfl⟩:=Qj.mp s;have lt:=(YW _ l).lt i p;have q:=Qb lt;have A:=Qz ((YC q).mp p);have z:=Qz ((YC q).mp y);have:=u g' w;omega
def mE (l:List Cl):Pls l.length (wu l):=⟨kB l _ (zX l).1,λi g=>by
 obtain ⟨L,m,p⟩:=List.mem_flatten.mp g;obtain ⟨g',q,rfl⟩:=Qj.mp m
 exact (YW _ l).lt i p⟩
def xI (l:List Cl):(zC l).length=(zu l).length:=Qa _
def Ys (f:List Cl->List zg) (l:List Cl):(zU f l).length=(zu l).length:=Qa _
def vm {k:Nat} {g:Int} (m:(zu l)[k]? =some g):(amQ (zC l))[k]? =some (zM (amQ (l.filter (zo g)))):=by
 unfold amQ zC;rw [Qr,Qh,m];show some (((amV (l.filter (zo g))).sum:Int):Rat)=_;rw [<-xJ];rfl
def Uz (ha:Ful (zC l).length (zM (amQ (zC l))) (amQ (zC l)) (fa (zC l))) (q:∀g∈zu l,Ful (l.filter (zo g)).length (zM (amQ (l.filter (zo g)))) (amQ (l.filter (zo g))) (fb (l.filter (zo g)))):Nest (fa (zC l)) (zU fb l):=by
 have e:(zU fb l).length=(zC l).length:=by rw [xI,Ys]
 refine ⟨by rw [e];exact ha.pm,by rw [e];exact ha.std.cons,λk Q m=>?_⟩;unfold zU at m;obtain ⟨g,p,rfl⟩:=zK m;have h:=q g (Qc p);obtain ⟨r,s⟩:=h.std.cons;refine ⟨_,r,s,h.pm,?_⟩;rw [ha.std.lastC,h.std.lastC];exact vm p
def gG (m:∀g∈zu l,Ful (l.filter (zo g)).length (zM (amQ (l.filter (zo g)))) (amQ (l.filter (zo g))) (fb (l.filter (zo g)))):(wu l).length=nQ (zU fb l):=by
 unfold wu nU zU;generalize zu l=p at*
 induction p with
 |nil=>rfl
 |cons g p q=>
  rw [Qp,jaa,QB,q λg' t=>m g' (Qf _ t),Qp,nQ,Zo];obtain ⟨r,s⟩:=(m g (Qe ..)).std.cons;rw [s]
  congr 1
  show _=(List.replicate _ (0:Rat)).length;rw [QD]
def kg (r:∀g∈zu l,Ful (l.filter (zo g)).length (zM (amQ (l.filter (zo g)))) (amQ (l.filter (zo g))) (fb (l.filter (zo g)))) {ps:List Rat} (w:ps.length=(zu l).length) {k:Nat} {g:Int} {p:Rat} (m:(zu l)[k]? =some g) (hp:ps[k]? =some p):
 yk 0 (zN (zo g) l) (yb (wu l) l.length (yT (zU fb l) ps))=zh (fb (l.filter (zo g))) p:=by
 have s:(List.zipWith zh (zU fb l) ps).map List.length=(nU l).map List.length:=by
  apply Tf
  intro j;unfold zU nU;rw [Qh,Qh,Qh,Qt,Qh]
  cases e:(zu l)[j]? with
  |none=>rfl
  |some g'=>
   have u:=(Qd.mp e).1;rw [Qb (l:=ps) (i:=j) ⋯];show some (zh (fb (l.filter (zo g'))) ps[j]).length=some (zN (zo g') l).length;rw [(r g' (Qc e)).std.len,Zo]
 have t:(yT (zU fb l) ps).length=(wu l).length:=by
  unfold yT wu;rw [List.length_flatten,List.length_flatten,s]
 refine JV ?_ λq i hm=>?_
 ·rw [(r g (Qc m)).std.len,Zo]
 ·refine jK (mE l) t ?_;refine cN s (k:=k) (V:=zh (fb (l.filter (zo g))) p) (L:=zN (zo g) l) ?_ ?_ hm
  ·unfold zU;rw [Qt,Qh,m,hp];rfl
  ·unfold nU;rw [Qh,m];rfl
def sN (ha:GF a (zC l) (fa (zC l))) (Z:∀g∈zu l,GF b (l.filter (zo g)) (fb (l.filter (zo g)))):GF (.groups a b) l (xt fa fb l):=by
 have A:=λg C=>(Z g C).ful;have nest:=Uz (fa:=fa) (fb:=fb) ha.ful A;have J:(zU fb l).length=(zC l).length:=by rw [xI,Ys]
 have u:=ha.ful.std;have G:Std (zU fb l).length (zM (amQ (zC l))) (amQ (zC l)) (fa (zC l)):=by rw [J];exact u
 have W:=mM nest G;have lk:=gG (fb:=fb) A;have X:=mE l;have R:=W.spread X lk;have w:∀e:Rat,(zh (fa (zC l)) e).length=(zu l).length:=λe=>by rw [u.len,xI]
 have t:∀{i:Nat} {c:Cl},l[i]? =some c->c.2.2∈zu l:=λ{i c} D=>((zX l).2 _).mpr (Qj.mpr ⟨c,Qc D,rfl⟩)
 have eA:yb (wu l) l.length (yT (zU fb l) (amQ (zC l)))=amQ l:=by
  apply Tf
  intro i
  by_cases N:i<l.length
  ·have D:=Qb N;obtain ⟨k,r⟩:=Qw.mp (t D);have s:=kg (fb:=fb) A (ps:=amQ (zC l)) (by rw [Ws,xI]) r (vm r);rw [(A _ (Qc r)).std.past QR,kH] at s;unfold yk at s;have O:=List.map_inj_left.mp s i ((YC D).mpr (QW rfl));rw [Qk,Qk] at O;have f1:=Qb (l:=yb (wu l) l.length (yT (zU fb l) (amQ (zC l)))) (i:=i) (by rw [yM];exact N);have f2:=Qb (l:=amQ l) (i:=i) (by rw [Ws];exact N);rw [f1,f2] at O;rw [f1,f2];exact congrArg some O
  ·rw [QG (by rw [yM];omega),QG (by rw [Ws];omega)]
 have eT:zM (amQ (zC l))=zM (amQ l):=by
  rw [<-eA];exact (R.std.ok _ (jah R.std.last)).2.symm
 have K:=R;rw [eA,eT] at K;refine ⟨⟨K.std,λe h0=>?_⟩,K⟩;rw [show zh (xt fa fb l) e=zh (xt fa fb l) (mn e (zM (amQ l))) from K.std.clip]
 have m0:0<=mn e (zM (amQ l)):=by
  have:=K.std.T0;unfold mn
  split<;>grind
 have m1:mn e (zM (amQ l))<=zM (amQ l):=by unfold mn;split<;>grind
 generalize mn e (zM (amQ l))=x at*;have Y:x<=(lastC (fa (zC l))).1:=by rw [u.lastC];show x<=zM (amQ (zC l));rw [eT];exact m1
 have ev:zh (xt fa fb l) x=yb (wu l) l.length (yT (zU fb l) (zh (fa (zC l)) x)):=by
  unfold xt;rw [W.std.spreadE X lk,nest.at m0 Y]
 have MZ:(zh (xt fa fb l) x).length=l.length:=by rw [ev,yM]
 have pick:∀{k:Nat} {g:Int} {p:Rat},(zu l)[k]? =some g->(zh (fa (zC l)) x)[k]? =some p->(zE l (zh (xt fa fb l) x)).filter (·.group=g)=zE (l.filter (zo g)) (zh (fb (l.filter (zo g))) p):=λ{k g p} C hp=>by
  rw [YG (p:=zo g) _ (λc x=>rfl) MZ,ev,kg A (w x) C hp]
 have m:∀{k:Nat} {g:Int} {p:Rat},(zu l)[k]? =some g->(zh (fa (zC l)) x)[k]? =some p->0<=p/\p<=zM (amQ (l.filter (zo g))):=λ{k g p} C hp=>by
  have hQ:(zU fb l)[k]? =some (fb (l.filter (zo g))):=by unfold zU;rw [Qh,C];rfl
  have:=nest.range m0 Y hQ hp;rw [(A g (Qc C)).std.lastC] at this;exact this
 have fits:∀g,xW b ((zE l (zh (xt fa fb l) x)).filter (·.group=g)):=λg=>by
  by_cases z:g∈zu l
  ·obtain ⟨k,r⟩:=Qw.mp z;have hp:=Qb (l:=zh (fa (zC l)) x) (i:=k) (by rw [w];exact (Qd.mp r).1);rw [pick r hp];exact (Z g z).good.fit _ (m r hp).1
  ·rw [List.filter_eq_nil_iff.mpr λy M hd=>?_]
   ·exact YX b
   ·obtain ⟨i,c,q,D,_,rfl⟩:=Yi M;have s:c.2.2=g:=Qz hd;exact z (by rw [<-s];exact t D)
 refine ⟨λy M=>(fits y.group).inQ y (Tq.mpr ⟨M,QW rfl⟩),fits,?_⟩
 have eg:Xl (zE l (zh (xt fa fb l) x))=zu l:=by
  have:(zE l (zh (xt fa fb l) x)).map (·.group)=l.map (·.2.2):=by
   unfold zE;rw [jbN]
   apply Tf
   intro i;rw [Qt,Qh]
   cases s:l[i]? with
   |none=>rfl
   |some c=>
    have L:=(Qd.mp s).1;rw [Qb (l:=zh (xt fa fb l) x) (i:=i) (by rw [MZ];exact L)];rfl
  exact ZT (VF _).1 (zX l).1 λk=>by rw [(VF _).2,this,(zX l).2]
 have es:kZ (zE l (zh (xt fa fb l) x))=zE (zC l) (zh (fa (zC l)) x):=by
  unfold kZ;rw [eg]
  apply Tf
  intro k;unfold zE zC;rw [Qh,Qt,Qh]
  cases r:(zu l)[k]? with
  |none=>rfl
  |some g=>
   obtain ⟨p,hp⟩:∃p,(zh (fa (zC l)) x)[k]? =some p:=⟨_,Qb (by rw [w];exact (Qd.mp r).1)⟩;have Nu:=hp;unfold zC at Nu;rw [Nu];have I:=pick r hp;unfold zE at I;have U:=m r hp;have sb:=(A g (Qc r)).std;have ls:=sb.len (e:=p);have T:=Xw ls;have P:=Yz ls;unfold zE at T P;show some (Row.mk _ _ _ _)=some (xO (AR g (l.filter (zo g))) _);rw [I,T,P,sb.sum U.1]
   congr 1
   have e4:mn p (zM (amQ (l.filter (zo g))))=p:=by unfold mn;rw [QJ U.2]
   have e5:(List.zipWith xO (l.filter (zo g)) (zh (fb (l.filter (zo g))) p)).map (·.rank)=(l.filter (zo g)).map (·.2.1):=by
    rw [jbN]
    apply Tf
    intro i;rw [Qt,Qh]
    cases s:(l.filter (zo g))[i]? with
    |none=>rfl
    |some c=>
     have L:=(Qd.mp s).1;rw [Qb (l:=zh (fb (l.filter (zo g))) p) (i:=i) (by rw [ls];exact L)];rfl
   rw [e4,e5,xJ];rfl
 rw [es];exact ha.good.fit x m0
end
noncomputable def zI:Rl->List Cl->List zg
 | .shares,l=>shP (amV l)
 | .evenly,l=>evP (amV l) (lvV (amV l))
 | .losses,l=>loP (amV l) (lvV (amV l))
 | .halves,l=>yn (hvP (amV l) (lvV (amV l)))
 | .other r,l=>yx (zI r l)
 | .ranks r,l=>VV (λl=>zI r l) l
 | .groups a b,l=>xt (λl=>zI a l) (λl=>zI b l) l
 | .upto t b x y,l=>WI (Rat.divInt t b) (zI x l) (zI y l)
def POk:Rl->Prop
 | .other r=>POk r
 | .upto t b x y=>WE t b/\POk x/\POk y
 | .ranks r=>POk r
 | .groups a b=>POk a/\POk b
 |_=>True
def xj {l:List Cl} (nn:∀c∈l,0<=c.1) (p:Cl->Bool):∀c∈l.filter p,0<=c.1:=λc g=>nn c (Tq.mp g).1
def Wm (nn:∀c∈l,0<=c.1):∀a∈amV l,0<=a:=λa ha=>by
 obtain ⟨c,g,rfl⟩:=Qj.mp ha;exact nn c g
def kY {l:List Cl} (nn:∀c∈l,0<=c.1):∀c∈zC l,0<=c.1:=λc m=>by
 obtain ⟨g,_,rfl⟩:=Qj.mp m;exact UL (Wm (xj nn _))
theorem yX:∀{r:Rl} {l:List Cl},POk r->(∀c∈l,0<=c.1)->GF r l (zI r l)
 | .shares,l,_,nn=>⟨gX (Wm nn),Am (Wm nn)⟩
 | .evenly,l,_,nn=>⟨Wn (Vi (Wm nn)),VG (Vi (Wm nn))⟩
 | .losses,l,_,nn=>⟨gY (Vi (Wm nn)),kA (Vi (Wm nn))⟩
 | .halves,l,_,nn=>⟨sM (Vi (Wm nn)),An (Vi (Wm nn))⟩
 | .other r,l,h,nn=>⟨(yX (r:=r) h nn).good.other,(yX (r:=r) h nn).ful.turned⟩
 | .ranks r,l,h,nn=>Al λk _=>yX (r:=r) h (xj nn _)
 | .groups a b,l,h,nn=>sN (yX (r:=a) h.1 (kY nn)) λg _=>yX (r:=b) h.2 (xj nn _)
 | .upto t b x y,l,h,nn=>⟨Good.upto rfl (gh h.1).1 (gh h.1).2 nn (yX h.2.1 nn).good (yX h.2.2 nn).good,uU (gh h.1).1 (gh h.1).2 (yX h.2.1 nn).ful (yX h.2.2 nn).ful⟩
def DQ (d:Nat) (x:Rat):Prop:=∃D:Int,(0<D/\D<=2 ^ d)/\Yo D x
def DC (d:Nat) (c:zg):Prop:=DQ d c.1/\∀x∈c.2,DQ d x
def DP (d:Nat) (P:List zg):Prop:=∀c∈P,DC d c
def ak {a b:Int} {m n:Nat} (ha:0<a/\a<=2 ^ m) (g:0<b/\b<=2 ^ n):0<a*b/\a*b<=2 ^ (m+n):=by
 refine ⟨Int.mul_pos ha.1 g.1,?_⟩;rw [Int.pow_add];exact Int.mul_le_mul ha.2 g.2 (jbc g.1) (jbE (jbc ha.1) ha.2)
def JS {m n:Nat} (h:m<=n):(2:Int) ^ m<=2 ^ n:=by
 have:=Nat.pow_le_pow_right (n:=2) nofun h;have e:∀k:Nat,(2:Int) ^ k=((2 ^ k:Nat):Int):=λk=>by rw [jbD];rfl
 rw [e,e];exact Int.ofNat_le.mpr this
section
variable {d d' t:Nat} {x y:Rat} {T:Int}
def DQ.mono (h:DQ d x) (hd:d<=d'):DQ d' x:=by
 obtain ⟨D,⟨p,m⟩,g⟩:=h;exact ⟨D,⟨p,jbE m (JS hd)⟩,g⟩
def DQ.int (n:Int):DQ 0 (n:Rat):=⟨1,⟨nofun,nofun⟩,Yo.int n 1⟩
def DQ.zero:DQ 0 0:=DQ.int 0
def DQ.add (h:DQ d x) (g:DQ d' y):DQ (d+d') (x+y):=by
 obtain ⟨D,p,q⟩:=h;obtain ⟨E,m,g3⟩:=g;exact ⟨D*E,ak p m,(q.mul E).add (g3.mulL D)⟩
def DQ.sub (h:DQ d x) (g:DQ d' y):DQ (d+d') (x - y):=by
 obtain ⟨D,p,q⟩:=h;obtain ⟨E,m,g3⟩:=g;exact ⟨D*E,ak p m,(q.mul E).sub (g3.mulL D)⟩
def DP.mono {P:List zg} (h:DP d P) (hd:d<=d'):DP d' P:=λc g=>⟨(h c g).1.mono hd,λx m=>((h c g).2 x m).mono hd⟩
def DQ.mix {Y X U M db:Nat} {e a b:Rat} (he:DQ Y e) (K:DQ X x) (J:DQ U y) (ha:DQ M a) (L:DQ db b) (Nr:a<b) (a0:0<=a) (bT:b<=(T:Rat)) (hT:T<=2 ^ t):DQ (Y+X+(U+(t+(M+db)))) (xU ((e - a) / (b - a)) x y):=by
 have line:=xi (x:=x) (y:=y) (E:=e) Nr;generalize xU ((e - a) / (b - a)) x y=m at*;obtain ⟨I,pe,ke,he⟩:=he;obtain ⟨O,Z,P,K⟩:=K;obtain ⟨G,py,ky,J⟩:=J;obtain ⟨Da,pa,g,ha⟩:=ha;obtain ⟨Db,pb,q,L⟩:=L
 have D:(b - a)*((Da*Db:Int):Rat)=((q*Da - g*Db:Int):Rat):=by
  rw [jaU,Tb,Tb,Tb,<-ha,<-L];grind
 have A:=ak pa pb;have p:=YZ A.1
 have T0:0<T:=by
  have:(0:Rat)<(T:Rat):=by grind
  exact Int.not_le.mp λz=>by
   have:=Tc.mpr z
   grind
 have N0:0<q*Da - g*Db:=by
  have:(0:Rat)<((q*Da - g*Db:Int):Rat):=by rw [<-D];exact jbA (by grind) p
  exact Int.not_le.mp λz=>by
   have:=Tc.mpr z
   grind
 have NT:q*Da - g*Db<=T*(Da*Db):=by
  apply Vp
  rw [<-D,Tb T];exact Zq (by grind) (QE p)
 have pN:0<q*Da - g*Db/\q*Da - g*Db<=2 ^ (t+(M+db)):=⟨N0,jbE NT (ak ⟨T0,hT⟩ A).2⟩;generalize q*Da - g*Db=N at*;refine ⟨I*O*(G*N),ak (ak pe Z) (ak py pN),P*(I*G*N)+(ke*Da - g*I)*(ky*O - P*G)*Db,?_⟩;simp only [Tb,jaU,Rat.intCast_add] at D⊢;rw [<-he,<-K,<-J,<-ha,<-D];generalize (I:Rat)=w at*;generalize (O:Rat)=u at*;generalize (G:Rat)=s at*;generalize (Da:Rat)=r at*;generalize (Db:Rat)=C at*;have:m*(w*u*(s*((b - a)*(r*C)))) - (x*u*(w*s*((b - a)*(r*C)))+(e*w*r - a*r*w)*(y*s*u - x*u*s)*C)=w*u*s*r*C*((m - x)*(b - a) - (e - a)*(y - x)):=by grind
 rw [line] at this
 grind
theorem bJ {m u:Nat} {e:Rat} (he:DQ u e) (s:T<=2 ^ t):∀{P:List zg},yu P->(∀c∈P,0<=c.1/\c.1<=(T:Rat))->DP d P->∀x∈zh P e,DQ (u+4*d+t) x
 |[],_,_,_,x,hx=>by simp [zh] at hx
 |[c],_,_,h,x,hx=>((h c (Qe ..)).2 x hx).mono ⋯
 |c::f::r,hr,rg,h,x,hx=>by
  rw [zh] at hx
  split at hx
  ·obtain ⟨i,z⟩:=Qw.mp hx;obtain ⟨p,q,hp,w,rfl⟩:=Ym z;have g:=h c (Qe ..);have hd:=h f (Qf _ (Qe ..));have lt:=(Qn.mp hr).1 f (Qe ..);exact (DQ.mix he (g.2 p (Qc hp)) (hd.2 q (Qc w)) g.1 hd.1 lt (rg c (Qe ..)).1 (rg f (Qf _ (Qe ..))).2 s).mono ⋯
  ·exact bJ (m:=m) he s (Qn.mp hr).2 (λc g=>rg c (Qf _ g)) (λc g=>h c (Qf _ g)) x hx
def Nest.den {P:List zg} {Qs:List (List zg)} {a b:Nat} (h:Nest P Qs) (ha:DP a P) (hb:∀Q∈Qs,DP b Q) (hl:(lastC P).1<=(T:Rat)) (N:T<=2 ^ t) {e:Rat} (he:e∈wpV P Qs):DQ (b+4*a+t) e/\∀p∈zh P e,DQ (b+4*a+t) p:=by
 rcases h.mem.mp he with ⟨c,w,rfl⟩|⟨k,Q,D,c,w,hr⟩
 ·refine ⟨(ha c w).1.mono ⋯,λp hp=>?_⟩;have pm:=h.pm;obtain ⟨r,z⟩:=h.p0;rw [z] at pm hp w;rw [yg pm.t w] at hp;exact ((ha c (by rw [z];exact w)).2 p hp).mono ⋯
 ·have O:=(hb Q (Qc D) c w).1;have h0:=(h.qpos D c w).1;have pm:=h.pm;have X:k<Qs.length:=(Qd.mp D).1
  have le:∀g∈P,∀(i:Nat) (x:Rat),g.2[i]? =some x->0<=x/\x<=(T:Rat):=λg C i x hx=>by
   have s:=pm.sums g C
   have A:zh P g.1=g.2:=by
    obtain ⟨r,z⟩:=h.p0;rw [z] at C pm⊢;exact yg pm.t C
   have mem:g.1∈wpV P Qs:=h.mem.mpr (.inl ⟨g,C,rfl⟩);have M:=h.in_range mem
   have nn:∀q∈g.2,0<=q:=λq hq=>by
    obtain ⟨j,u⟩:=Qw.mp hq;have jl:j<Qs.length:=by rw [<-pm.t.len g C];exact (Qd.mp u).1
    exact (h.range M.1 M.2 (Qb jl) (by rw [A];exact u)).1
   have m:=Qc hx;have:=(ZM nn).2 x m;exact ⟨nn x m,by rw [s] at this;grind⟩
  obtain ⟨r,z⟩:=h.p0;rw [z] at pm hr ha le⊢
  obtain ⟨i,g,G,x,y,g1,g2,g3,U,hxL,hLy,ee,_,_,_,ep⟩:=Uy X pm (by
   rw [Qk,QU,QJ X];exact h0) hr
  have z1:=ha g (Qc g1);have z2:=ha G (Qc g2);have L:=le g (Qc g1) k x g3;have K:=le G (Qc g2) k y U;have J:=z1.2 x (Qc g3);have I:=z2.2 y (Qc U);have Y:x<y:=by grind
  rw [ep];refine ⟨by rw [ee];exact (DQ.mix O z1.1 z2.1 J I Y L.1 K.2 N).mono ⋯,λp hp=>?_⟩;obtain ⟨j,u⟩:=Qw.mp hp;rw [Qt] at u
  cases A:g.2[j]? with
  |none=>rw [A] at u;cases u
  |some p1=>
   cases e2:G.2[j]? with
   |none=>rw [A,e2] at u;cases u
   |some Z=>
    rw [A,e2] at u;cases u;exact (DQ.mix O (z1.2 p1 (Qc A)) (z2.2 Z (Qc e2)) J I Y L.1 K.2 N).mono ⋯
def DP.within {P:List zg} {Qs:List (List zg)} {a b:Nat} (h:Nest P Qs) (ha:DP a P) (u:∀Q∈Qs,DP b Q) (s:∀Q∈Qs,yu Q/\∀c∈Q,0<=c.1/\c.1<=(T:Rat)) (z:(lastC P).1<=(T:Rat)) (w:T<=2 ^ t):DP (5*b+4*a+2*t) (yw P Qs):=λc D=>by
 obtain ⟨i,C⟩:=Qw.mp D;obtain ⟨I,G⟩:=Nest.F_at C;obtain ⟨z1,z2⟩:=h.den ha u z w (Qc I);refine ⟨z1.mono ⋯,λx r=>?_⟩;rw [G] at r;obtain ⟨k,Q,p,A,hp,q⟩:=uB r;have g:=Qc A;exact (bJ (m:=0) (z2 p (Qc hp)) w (s Q g).1 (s Q g).2 (u Q g) x q).mono ⋯
def DP.spread {P:List zg} {pl:List Nat} {n m:Nat} (hp:Pls n pl) (q:∀c∈P,c.2.length=pl.length) (h:DP d P):DP d (yr pl n P):=λc u=>by
 obtain ⟨c,g,rfl⟩:=Qj.mp u;refine ⟨(h c g).1,λx p=>?_⟩;obtain ⟨i,s⟩:=Qw.mp p
 rcases Zg hp (q c g) s with ⟨j,_,r⟩|⟨_,rfl⟩
 ·exact (h c g).2 x (Qc r)
 ·exact DQ.zero.mono ⋯
def DP.keep {P:List zg} (h:DP d P):DP d (yn P):=λc g=>h c ((ZO P).subset g)
def DP.app {P p:List zg} (ne:P≠[]) (h:DP d P) (m:DC 0 (lastC P)) (g:DP d p):DP d (P++yJ P p):=λc r=>by
 rcases QT.mp r with z|z
 ·exact h c z
 ·obtain ⟨f,hf,rfl⟩:=Qj.mp z;have hf:=g f (TV hf);refine ⟨(m.1.add hf.1).mono ⋯,λx q=>?_⟩;obtain ⟨a,ha,b,s,rfl⟩:=eU q;exact ((m.2 a ha).add (hf.2 b s)).mono ⋯
def DP.turned {P:List zg} (g:DC 0 (lastC P)) (h:DP d P):DP d (yx P):=λc p=>by
 obtain ⟨f,hf,rfl⟩:=Qj.mp p;have hf:=h f (jbL.mp hf);refine ⟨(g.1.sub hf.1).mono ⋯,λx m=>?_⟩;obtain ⟨a,ha,b,q,rfl⟩:=eU m;exact ((g.2 a ha).sub (hf.2 b q)).mono ⋯
noncomputable def ay (b:Int):Nat:=b.toNat.log2+1
def Hd {b:Int} (g:0<b):b<=2 ^ ay b:=by
 have:=Nat.lt_log2_self (n:=b.toNat);have e:(2:Int) ^ ay b=((2 ^ (b.toNat.log2+1):Nat):Int):=by unfold ay;rw [jbD];rfl
 rw [e];omega
def DP.upto {P K:List zg} {as:List Rat} {p b:Int} {m:Nat} {U:Rat} (J:0<b) (st:Std m U as P) (G:DC 0 (U,as)) (h:DP d P) (g:DP d K):DP (ay b+d) (WI (Rat.divInt p b) P K):=by
 have bn:b≠0:=⋯
 have I:0<b/\b<=2 ^ ay b:=⟨J,Hd J⟩
 have sc:∀{t:Int} {x:Rat},DQ d x->DQ (ay b+d) (x*Rat.divInt t b):=λ{t x} r=>by
  obtain ⟨D,s,A⟩:=r;exact ⟨b*D,ak I s,A.port bn⟩
 have N:∀{x:Rat},DQ 0 x->Yo 1 x:=λ{x} r=>by
  obtain ⟨D,s,A⟩:=r;have:D=1:=by have:=s.2;have:=s.1;omega
  rwa [this] at A
 have M:lastC (zS (Rat.divInt p b) P)=(U*Rat.divInt p b,aM (Rat.divInt p b) as):=by
  unfold lastC zS;rw [jaH,st.last];rfl
 have both:∀{x y:Rat} {t:Int},DQ 0 x->DQ d y->DQ (ay b+d) (x*Rat.divInt p b+y*Rat.divInt t b):=λ{x y t} r hy=>by
  obtain ⟨D,s,A⟩:=hy;have w:=(N r).port (t:=p) bn;rw [jcb] at w;exact ⟨b*D,ak I s,(w.mul D).add (A.port bn)⟩
 unfold WI;refine DP.keep λc X=>?_
 rcases QT.mp X with z|z
 ·obtain ⟨f,hf,rfl⟩:=Qj.mp z;refine ⟨sc (h f hf).1,λx r=>?_⟩;obtain ⟨a,ha,rfl⟩:=Qj.mp r;exact sc ((h f hf).2 a ha)
 ·obtain ⟨f',C,rfl⟩:=Qj.mp z;have u:=TV C;obtain ⟨f,hf,rfl⟩:=Qj.mp u;rw [M,JZ bn];refine ⟨both G.1 (g f hf).1,λx r=>?_⟩;obtain ⟨a,ha,q,O,rfl⟩:=eU r;obtain ⟨Y,Z,rfl⟩:=Qj.mp ha;obtain ⟨L,NG,rfl⟩:=Qj.mp O;exact both (G.2 Y Z) ((g f hf).2 L NG)
end
noncomputable def WD (t:Nat):Rl->Nat
 | .halves=>2
 | .other r=>WD t r
 | .ranks r=>WD t r
 | .groups a b=>5*WD t b+4*WD t a+2*t
 | .upto _ b x y=>ay b+max (WD t x) (WD t y)
 |_=>0
def YY (h:List Int):DC 0 (zY h):=⟨DQ.int _,λx g=>by
 obtain ⟨a,_,rfl⟩:=Qj.mp g
 exact DQ.int a⟩
def sU (l:List Cl):DC 0 (zM (amQ l),amQ l):=by rw [<-eV];exact YY _
theorem DE {x:Int} {w:Int}:∀{p:List Int},p.Pairwise (·<·)->(p.map λg=>if x=g then w else 0).sum=if x∈p then w else 0
 |[],_=>by simp
 |g::p,h=>by
  obtain ⟨r,q⟩:=Qn.mp h;rw [Qp,QN,DE q]
  by_cases e:x=g
  ·have:x∉p:=λz=>by have:=r x z;omega
   rw [QJ e,QO this,QJ (by rw [e];exact Qe ..)];omega
  ·rw [QO e]
   by_cases z:x∈p
   ·rw [QJ z,QJ (Qf _ z)];omega
   ·rw [QO z,QO (λm=>(Ql.mp m).elim e z)];omega
theorem Bm (f g:Int->Int):∀m:List Int,(m.map λk=>f k+g k).sum=(m.map f).sum+(m.map g).sum
 |[]=>rfl
 |k::m=>by rw [Qp,Qp,Qp,QN,QN,QN,Bm f g m];omega
theorem lj (key w:Cl->Int) {m:List Int} (q:m.Pairwise (·<·)):∀l:List Cl,(∀c∈l,key c∈m)->(m.map λg=>((l.filter λc=>decide (key c=g)).map w).sum).sum=(l.map w).sum
 |[],_=>by
  show (m.map λ_=>(0:Int)).sum=0
  induction m with
  |nil=>rfl
  |cons g m p=>rw [Qp,QN,p (Qn.mp q).2 λc s=>absurd s Qm];rfl
 |c::l,h=>by
  have p:=lj key w q l λx r=>h x (Qf _ r)
  have e:(m.map λg=>(((c::l).filter λc=>decide (key c=g)).map w).sum)=m.map λg=>(if key c=g then w c else 0)+((l.filter λc=>decide (key c=g)).map w).sum:=by
   refine QK λg _=>?_;rw [jbO]
   by_cases z:key c=g
   ·rw [QJ z,QJ (QW z),Qp,QN]
   ·rw [QO z,QO (by rw [Th z];decide)];omega
  rw [e,Bm,DE q,QJ (h c (Qe ..)),p,Qp,QN]
def dR (l:List Cl):(amV (zC l)).sum=(amV l).sum:=by
 have:=lj (·.2.2) (·.1) (zX l).1 l λc m=>((zX l).2 _).mpr (Qj.mpr ⟨c,m,rfl⟩);unfold zC
 have e:amV ((zu l).map λg=>AR g (l.filter (zo g)))=(zu l).map λg=>((l.filter λc=>decide (c.2.2=g)).map (·.1)).sum:=by
  unfold amV;rw [Qr];rfl
 rw [e,this];rfl
def XA {l:List Cl} (nn:∀c∈l,0<=c.1) (p:Cl->Bool):(amV (l.filter p)).sum<=(amV l).sum:=by
 induction l with
 |nil=>exact jbP _
 |cons c l g=>
  have g:=g λx m=>nn x (Qf _ m);have h0:=nn c (Qe ..);have e:(amV (c::l)).sum=c.1+(amV l).sum:=by unfold amV;rw [Qp,QN]
  rw [jbO]
  split
  ·have q:(amV (c::l.filter p)).sum=c.1+(amV (l.filter p)).sum:=by unfold amV;rw [Qp,QN]
   rw [e,q];omega
  ·rw [e];omega
theorem BV {r:Rl} {l:List Cl} {f:List Cl->List zg} {d:Nat}:∀(g done:List Int) (P:List zg),RkI r l done P->(done++g).Pairwise (·<·)->(∀k∈g,GF r (l.filter (zH k)) (f (l.filter (zH k)))/\DP d (f (l.filter (zH k))))->DP d P->DP d (g.foldl (Zv f l) P)
 |[],done,P,h,_,_,hd=>hd
 |k::g,done,P,h,hp,hf,hd=>by
  have e:done++k::g=done++[k]++g:=by rw [jaf];rfl
  rw [e] at hp;rw [List.foldl_cons];have s:=hf k (Qe ..);refine BV g (done++[k]) _ (h.step (λq t=>?_) s.1) hp (λq t=>hf q (Qf _ t)) ?_
  ·exact (TU.mp (TU.mp hp).1).2.2 q t k (jaQ _)
  ·refine DP.keep (DP.app h.ful.std.ne hd ?_ (DP.spread (m:=0) (YW _ l) (λc y=>by rw [(s.1.ful.std.ok c y).1,Zo]) s.2));rw [h.ful.std.lastC]
   have u:∀x∈asD done l,DQ 0 x:=λx p=>by
    unfold asD at p;obtain ⟨c,_,rfl⟩:=Qj.mp p
    split
    ·exact DQ.int _
    ·exact DQ.zero
   refine ⟨?_,u⟩
   have:∀{v:List Rat},(∀x∈v,DQ 0 x)->DQ 0 (zM v):=by
    intro v
    induction v with
    |nil=>intro _;rw [zM];exact DQ.zero
    |cons a v w=>
     intro h;rw [zM];exact (h a (Qe ..)).add (w λx p=>h x (Qf _ p))
   exact this u
theorem YH {t:Nat}:∀{r:Rl} {l:List Cl},POk r->(∀c∈l,0<=c.1)->(amV l).sum<=2 ^ t->DP (WD t r) (zI r l)
 | .shares,l,_,_,_=>λc q=>by
   simp only [zI,shP] at q
   split at q
   ·rw [Qq.mp q];exact YY _
   ·rcases Ql.mp q with rfl|q
    ·exact YY _
    ·rw [Qq.mp q];exact YY _
 | .evenly,l,_,_,_=>λc q=>by
   obtain ⟨z,_,rfl⟩:=Qj.mp q;exact YY _
 | .losses,l,_,_,_=>λc q=>by
   obtain ⟨z,_,rfl⟩:=Qj.mp q;exact YY _
 | .halves,l,_,nn,_=>by
   have ge:DP 0 (evP (amV l) (lvV (amV l))):=λc q=>by
    obtain ⟨z,_,rfl⟩:=Qj.mp q;exact YY _
   have gl:DP 0 (loP (amV l) (lvV (amV l))):=λc q=>by
    obtain ⟨z,_,rfl⟩:=Qj.mp q;exact YY _
   have st:=(VG (Vi (Wm nn))).std;have:=DP.upto (p:=1) (b:=2) nofun st (sU l) ge gl;have I:Rat.divInt 1 2=(1:Rat) / 2:=by decide+kernel
   have G:WI (1 / 2) (evP (amV l) (lvV (amV l))) (loP (amV l) (lvV (amV l)))=yn (hvP (amV l) (lvV (amV l))):=by
    unfold WI;rw [show (1:Rat) - 1 / 2=1 / 2 by decide+kernel];rfl
   rw [I,G] at this;exact this.mono (by show ay 2+0<=2;decide)
 | .other r,l,h,nn,s=>by
   have g:=(yX (r:=r) h nn).ful.std;refine DP.turned ?_ (YH (r:=r) h nn s);rw [g.lastC];exact sU l
 | .ranks r,l,h,nn,s=>by
   refine BV (r:=r) (zQ l) [] _ RkI.nil (by rw [jaK];exact (yI l).1) (λk _=>⟨yX (r:=r) h (xj nn _),YH (r:=r) h (xj nn _) (jbE (XA nn _) s)⟩) λc q=>?_;rw [Qq.mp q];refine ⟨DQ.zero.mono ⋯,λx D=>?_⟩;rw [List.eq_of_mem_replicate D];exact DQ.zero.mono ⋯
 | .groups a b,l,h,nn,s=>by
   have ga:=yX (r:=a) h.1 (kY nn);have A:=λ(g:Int) (_:g∈zu l)=>yX (r:=b) h.2 (xj nn (zo g));have nest:=Uz (fa:=λl=>zI a l) (fb:=λl=>zI b l) ga.ful λg u=>(A g u).ful;have J:=YH (t:=t) (r:=a) h.1 (kY nn) (by rw [dR];exact s);have W:=mM nest (T:=zM (amQ (zC l))) (as:=amQ (zC l)) (by rw [Ys,<-xI];exact ga.ful.std);have lk:=gG (fb:=λl=>zI b l) (l:=l) λg u=>(A g u).ful;refine DP.spread (m:=0) (mE l) (λc q=>by rw [(W.std.ok c q).1,lk]) (DP.within (T:=(amV l).sum) nest J (λQ w=>?_) (λQ w=>?_) ?_ s)
   ·obtain ⟨g,u,rfl⟩:=Qj.mp w;exact YH (r:=b) h.2 (xj nn _) (jbE (XA nn _) s)
   ·obtain ⟨g,u,rfl⟩:=Qj.mp w;have st:=(A g u).ful.std;refine ⟨st.rise,λc q=>?_⟩;have C:=st.range q;have:=Tc.mpr (XA nn (zo g));rw [<-xJ] at this;exact ⟨C.1,TN C.2 this⟩
   ·rw [ga.ful.std.lastC];show zM (amQ (zC l))<=_;rw [xJ,dR];exact QR
 | .upto t' b x y,l,h,nn,s=>by
   have st:=(yX (r:=x) h.2.1 nn).ful.std;exact DP.upto (by have:=h.1.2.1;have:=h.1.2.2.1;omega) st (sU l) ((YH h.2.1 nn s).mono (Nat.le_max_left ..)) ((YH h.2.2 nn s).mono (Nat.le_max_right ..))
noncomputable def Vk:Rl->Nat
 | .halves=>2
 | .other r=>Vk r
 | .ranks r=>Vk r
 | .groups a b=>Vk a+Vk b+1
 | .upto _ _ x y=>Vk x+Vk y
 |_=>1
theorem vg (f:Int->Nat):∀g:List Int,(((g.map f).sum:Nat):Int)=(g.map λk=>(f k:Int)).sum
 |[]=>rfl
 |k::g=>by rw [Qp,QN,Qp,QN,<-vg f g];omega
theorem mG {α:Type}:∀l:List α,(l.map λ_=>(1:Int)).sum=(l.length:Nat)
 |[]=>rfl
 |a::l=>by rw [Qp,QN,mG l,Qy];omega
def eH (key:Cl->Int) {m:List Int} (p:m.Pairwise (·<·)) (l:List Cl) (h:∀c∈l,key c∈m):(m.map λg=>(l.filter λc=>decide (key c=g)).length).sum=l.length:=by
 have:=lj key (λ_=>1) p l h;rw [mG] at this;have e:=vg (λg=>(l.filter λc=>decide (key c=g)).length) m;have q:(m.map λg=>(((l.filter λc=>decide (key c=g)).length:Nat):Int))=m.map λg=>((l.filter λc=>decide (key c=g)).map λ_=>(1:Int)).sum:=QK λg _=>(mG _).symm;rw [q,this] at e;omega
def Hb (f:List Cl->List zg) (l:List Cl) (P:List zg) (k:Int):(Zv f l P k).length<=P.length+((f (l.filter (zH k))).length - 1):=by
 unfold Zv;refine QL (ZO _).length_le ?_;unfold yJ yr;simp only [QB,Qa,jaO];omega
theorem mV  :∀(g:List Int) (P:List zg),(∀k∈g,(f (l.filter (zH k))).length<=c*(l.filter (zH k)).length+1)->(g.foldl (Zv f l) P).length<=P.length+c*(g.map λk=>(l.filter (zH k)).length).sum
 |[],P,_=>by simp
 |k::g,P,h=>by
  have s:=mV (c:=c) g (Zv f l P k) λm p=>h m (Qf _ p);have r:=Hb f l P k;have q:=h k (Qe ..);rw [List.foldl_cons,Qp,QN,Nat.mul_add];omega
theorem Dv:∀{Qs:List (List zg)} {k:Nat} {M:List Rat},(wpF P k Qs M).length<=M.length+(Qs.map List.length).sum
 |[],k,M=>by rw [wpF];simp
 |Q::Qs,k,M=>by
  rw [wpF];have p:=Dv (P:=P) (Qs:=Qs) (k:=k+1) (M:=yA M (YA P k Q));have m:=ar M (YA P k Q)
  have g:(YA P k Q).length<=Q.length:=by
   unfold YA;have:=jbm (xh P k) (zZ Q);unfold zZ at this⊢;rw [Qa] at this;omega
  rw [Qp,QN];omega
theorem uG  :∀m:List Int,(∀k∈m,f k<=c*g k+1)->(m.map f).sum<=c*(m.map g).sum+m.length
 |[],_=>by simp
 |k::m,h=>by
  have s:=uG (c:=c) m λp q=>h p (Qf _ q);have r:=h k (Qe ..);rw [Qp,QN,Qp,QN,Qy,Nat.mul_add];omega
theorem ko:∀m:List Int,(∀k∈m,1<=g k)->m.length<=(m.map g).sum
 |[],_=>by simp
 |k::m,h=>by
  have s:=ko m λp q=>h p (Qf _ q);have r:=h k (Qe ..);rw [Qp,QN,Qy];omega
def Xz  (m:g∈zu l):1<=(l.filter (zo g)).length:=by
 obtain ⟨c,p,rfl⟩:=Qj.mp (((zX l).2 g).mp m);exact jaW (Tq.mpr ⟨p,QW rfl⟩)
def fX  (m:g∈zQ l):1<=(l.filter (zH g)).length:=by
 obtain ⟨c,p,rfl⟩:=Qj.mp (((yI l).2 g).mp m);exact jaW (Tq.mpr ⟨p,QW rfl⟩)
def Yu (l:List Cl):(zu l).length<=l.length:=by
 have r:=eH (·.2.2) (zX l).1 l λc p=>((zX l).2 _).mpr (Qj.mpr ⟨c,p,rfl⟩);have q:=ko (g:=λg=>(l.filter (zo g)).length) (zu l) λk m=>Xz m;rw [<-r];exact q
theorem Xm:∀{r:Rl} {l:List Cl},POk r->(∀c∈l,0<=c.1)->(zI r l).length<=Vk r*l.length+1
 | .shares,l,_,_=>by
   show (shP (amV l)).length<=1*l.length+1;unfold shP
   split
   ·simp
   ·rename_i c;have:l≠[]:=λz=>c (by rw [z];rfl);have:=jaV.mpr this;simp only [Qy,List.length_nil];omega
 | .evenly,l,_,nn=>by
   have f:=(Vi (Wm nn)).few;rw [yi] at f;show (evP _ _).length<=1*l.length+1;unfold evP;rw [Qa];omega
 | .losses,l,_,nn=>by
   have f:=(Vi (Wm nn)).few;rw [yi] at f;show (loP _ _).length<=1*l.length+1;unfold loP;rw [Qa,Tv];omega
 | .halves,l,_,nn=>by
   have f:=(Vi (Wm nn)).few;rw [yi] at f;show (yn _).length<=2*l.length+1;refine QL (ZO _).length_le ?_;unfold hvP hfA hfB yJ zS evP loP;simp only [QB,Qa,jaO,Tv];omega
 | .other r,l,h,nn=>by
   show (yx _).length<=Vk r*l.length+1;unfold yx;rw [Qa,Tv];exact Xm (r:=r) h nn
 | .ranks r,l,h,nn=>by
   have q:=mV (f:=λl=>zI r l) (l:=l) (c:=Vk r) (zQ l) (kW l.length) λk _=>Xm (r:=r) h (xj nn _);have m:=eH (·.2.1) (yI l).1 l λc p=>((yI l).2 _).mpr (Qj.mpr ⟨c,p,rfl⟩);have e:((zQ l).map λk=>(l.filter (zH k)).length).sum=l.length:=m;rw [e] at q;show (VV (λl=>zI r l) l).length<=Vk r*l.length+1;have z:(kW l.length).length=1:=rfl;unfold VV;omega
 | .groups a b,l,h,nn=>by
   have ha:=Xm (r:=a) h.1 (kY nn);rw [xI] at ha;have G:=Yu l;have m:=eH (·.2.2) (zX l).1 l λc p=>((zX l).2 _).mpr (Qj.mpr ⟨c,p,rfl⟩);have e:((zu l).map λk=>(l.filter (zo k)).length).sum=l.length:=m;have s:=uG (f:=λg=>(zI b (l.filter (zo g))).length) (g:=λg=>(l.filter (zo g)).length) (c:=Vk b) (zu l) λk _=>Xm (r:=b) h.2 (xj nn _);rw [e] at s;have w:=Dv (P:=zI a (zC l)) (Qs:=zU (λl=>zI b l) l) (k:=0) (M:=zZ (zI a (zC l)))
   have eq:(zU (λl=>zI b l) l).map List.length=(zu l).map λg=>(zI b (l.filter (zo g))).length:=by
    unfold zU;rw [Qr];rfl
   rw [eq] at w;have pl:(zZ (zI a (zC l))).length=(zI a (zC l)).length:=by unfold zZ;rw [Qa]
   rw [pl] at w;show (xt (λl=>zI a l) (λl=>zI b l) l).length<=(Vk a+Vk b+1)*l.length+1;unfold xt yr yw wpV;rw [Qa,Qa];show (wpF (zI a (zC l)) 0 (zU (λl=>zI b l) l) (zZ (zI a (zC l)))).length<=_;have u:=Nat.mul_le_mul_left (Vk a) G;rw [Nat.add_mul,Nat.add_mul,Nat.one_mul];omega
 | .upto t b x y,l,h,nn=>by
   have q:=Xm (r:=x) h.2.1 nn;have m:=Xm (r:=y) h.2.2 nn;show (WI _ _ _).length<=(Vk x+Vk y)*l.length+1;unfold WI;refine QL (ZO _).length_le ?_;unfold yJ zS;simp only [QB,Qa,jaO];rw [Nat.add_mul];omega
structure ClS (t:Nat) (l:List Cl):Prop where
 pos:0<l.length
 few:l.length<=8
 nn:∀c∈l,0<=c.1/\0<=c.2.1/\0<=c.2.2
 sum:(amV l).sum<=2 ^ t
theorem ki:∀{as:List Int},(∀a∈as,0<=a)->∀a∈as,a<=as.sum
 |[],_,a,h=>absurd h Qm
 |b::as,nn,a,h=>by
  have h0:=nn b (Qe ..);have m:=UL λx g=>nn x (Qf _ g);rw [QN]
  rcases Ql.mp h with rfl|h
  ·omega
  ·have:=ki (λx g=>nn x (Qf _ g)) a h;omega
section
variable {t:Nat} {l:List Cl} {r:Rl}
def Bj (h0:0<=x) (h:x<=2 ^ t):Sz (t+1) x:=by
 unfold Sz;have e:(2:Int) ^ t=((2 ^ t:Nat):Int):=by rw [jbD];rfl
 have p:0<2 ^ t:=Nat.pow_pos nofun;rw [e] at h;rw [Nat.pow_succ];omega
def ClS.n1 (h:ClS t l):∀c∈l,0<=c.1:=λc g=>(h.nn c g).1
def ClS.ok (h:ClS t l) (ht:t<=150):ClOk 160 l:=⟨h.pos,h.few,h.nn,λc g=>(Bj (h.nn c g).1 (jbE (ki (Wm h.n1) c.1 (Qj.mpr ⟨c,g,rfl⟩)) h.sum)).mono ⋯⟩
def ClS.filter (h:ClS t l) (p:Cl->Bool) (pos:1<=(l.filter p).length):ClS t (l.filter p):=⟨pos,QL (jaB _ _) h.few,λc g=>h.nn c (Tq.mp g).1,jbE (XA h.n1 p) h.sum⟩
theorem Dn:∀{l:List Int},(∀x∈l,0<=x)->0<=qN l
 |[],_=>jbP _
 |[a],h=>h a (Qe ..)
 |a::b::l,h=>by
  have p:=h a (Qe ..);have m:=Dn (l:=b::l) λx g=>h x (Qf _ g);rw [qN]
  ·omega
  ·simp
def ClS.sums (h:ClS t l):ClS t (zC l):=by
 refine ⟨?_,by rw [xI];exact QL (Yu l) h.few,λc m=>?_,by rw [dR];exact h.sum⟩
 ·rw [xI];obtain ⟨c,m⟩:=List.exists_mem_of_length_pos h.pos;exact jaW (((zX l).2 _).mpr (Qj.mpr ⟨c,m,rfl⟩))
 ·obtain ⟨g,q,rfl⟩:=Qj.mp m;refine ⟨UL (Wm (xj h.n1 _)),Dn λx p=>?_,?_⟩
  ·obtain ⟨c,m,rfl⟩:=Qj.mp p;exact (h.nn c (Tq.mp m).1).2.1
  ·obtain ⟨c,s,rfl⟩:=Qj.mp (((zX l).2 g).mp q);exact (h.nn c s).2.2
def DQ.sz {d:Nat} {x:Rat} {T:Int} (h:DQ d x) (x0:0<=x) (m:x<=(T:Rat)) (T0:0<=T) (p:T<=2 ^ t):SzQ (t+d+2) x:=by
 obtain ⟨D,g,q⟩:=h;exact (q.sz g.1 (Bj (jbc g.1) g.2) x0 m ⟨T,rfl,Bj T0 p⟩).mono ⋯
def all_sz (h:POk r) (ok:ClS t l):∀c∈zI r l,SzC (t+WD t r+2) c:=λc q=>by
 have g:=yX h ok.n1;have s:=YH h ok.n1 ok.sum c q;have m:=g.good.std.range q;have pr:=g.good.parts m.1;rw [g.good.std.at_corner q] at pr;have T0:=UL (Wm ok.n1);rw [xJ] at m pr;exact ⟨s.1.sz m.1 m.2 T0 ok.sum,λx p=>(s.2 x p).sz (pr x p).1 (pr x p).2 T0 ok.sum⟩
structure RuS (t:Nat) (r:Rl):Prop where
 pok:POk r
 ht:t<=150
 den:t+WD t r+2<=700
 len:Vk r<=50
def RuS.other (h:RuS t (.other r)):RuS t r:=⟨h.pok,h.ht,h.den,h.len⟩
def RuS.ranks (h:RuS t (.ranks r)):RuS t r:=⟨h.pok,h.ht,h.den,h.len⟩
def RuS.groups (h:RuS t (.groups a b)):RuS t a/\RuS t b:=by
 have d:=h.den;have f:=h.len;simp only [WD] at d;simp only [Vk] at f;exact ⟨⟨h.pok.1,h.ht,⋯,⋯⟩,⟨h.pok.2,h.ht,⋯,⋯⟩⟩
def RuS.upto  (h:RuS t (.upto a b x y)):RuS t x/\RuS t y:=by
 have d:=h.den;have f:=h.len;simp only [WD] at d;simp only [Vk] at f;exact ⟨⟨h.pok.2.1,h.ht,⋯,⋯⟩,⟨h.pok.2.2,h.ht,⋯,⋯⟩⟩
def RuS.few (h:RuS t r) (ok:ClS t l):(zI r l).length<=401:=by
 have f:=Xm h.pok ok.n1;have m:=Nat.mul_le_mul h.len ok.few;omega
def RuS.gf (h:RuS t r) (ok:ClS t l):GF r l (zI r l):=yX h.pok ok.n1
def RuS.R (h:RuS t r) (ok:ClS t l):PathR 700 (zI r l):=by
 have g:=(h.gf ok).ful.std;have f:=h.few ok;have p:=ok.few;refine ⟨g.ne,λc m=>(all_sz h.pok ok c m).mono h.den,λc m=>by rw [(g.ok c m).1];omega,⋯,g.rise,λc m=>?_⟩;rw [g.head] at m;cases m;rfl
def RuS.inn (h:RuS t r) (ok:ClS t l):PathIn (zI r l):=by
 have R:=h.R (l:=l) ok;have f:=h.few ok;exact ⟨R.ne,λc g=>(R.sz c g).mono nofun,R.len,⋯⟩
end
section
variable {X:Cx}
def rMinL (K:Frg):List V->Hp->VK->Prop:=λxs H Q=>∃(p:Addr) (ns:List Int),xs=[.ref p]/\SqL K H p (ns.map V.int)/\0<ns.length/\∀m,m∈ns->(∀x∈ns,m<=x)->Q (.int m) H
def call_minL (N:X.calm=true):Wt X (.builtin "min") (rMinL X.K):=by
 intro pins s σ H xs us Q I r h;obtain ⟨p,ns,rfl,G,U,q⟩:=h;obtain ⟨u,rfl,y⟩:=UK r;cases y;obtain ⟨its,C,pl,hz⟩:=I.list G;have ht:=pl.isList;have m:=Xy C;have J:=m.length;have below:p≠s.heap.objs.size:=let ⟨_,e,_⟩:=ht;QQ (Qv e)
 refine call_min_walk (jaF ht ⟨_,_,_,_,_,_,_,rfl,Walks.list (A:=X.A.in1) (I.ok.hd N) _ p below its.toArray,⟨⟨_,Qx _ rfl,rfl,rfl⟩,ht.push _⟩,λb O=>?_,by simpa using (by omega:0<its.length),CmpOf.ints_lt (λi=>ns.getD i 0) (VE m),λv h' tk P L=>?_⟩)
 ·rw [QV]
  rcases Ql.mp O with z|z
  ·rw [z];exact Tn _
  ·rw [Qq.mp z];obtain ⟨_,e,_⟩:=ht;exact TH (Qv e)
 ·obtain ⟨t,rfl⟩:=VE m _ v P;obtain ⟨T,w⟩:=argBest_lt (λi=>ns.getD i 0) (its.toArray.size - 1);have g:its.toArray.size=ns.length:=by simpa using J
  rw [g] at T w;rw [g];refine ⟨.int _,H,I.kept (t':=tk) λb o e=>L b o (λz=>?_) (Qi _ e),⟨t,rfl⟩,q _ ?_ λx D=>?_⟩
  ·rw [Qq.mp z] at e;exact absurd (Qv e) (jaz _)
  ·dsimp only;rw [Qk,Qb ⋯];exact Ta _
  ·obtain ⟨j,M,rfl⟩:=QS D;have:=w j ⋯;rwa [show ns.getD j 0=ns[j] by rw [Qk,Qb M];rfl] at this
end
section
variable {B G0 H:Hp} {cs:yq} {ds:Dat} {Q:VK} {E:XK} {v w u:V} {K:Frg} {L:Addr}
def Cf {ns:List Int} (S:Sta B G0 H cs ds) (h:(L,ns.map PyData.int)∈cs) (hn:0<ns.length) (k:∀m,m∈ns->(∀x∈ns,m<=x)->Q (.int m) H):rMinL K [.ref L] H Q:=by
 obtain ⟨vs,hp,u⟩:=S.vwC h;obtain ⟨G,g⟩:=id S;rw [yK (u G g)] at hp;exact ⟨L,ns,rfl,SqL.of hp,hn,k⟩
def JI {ns:List Int} (S:Sta B G0 H cs ds) (h:Has ds (.list (ns.map PyData.int)) v) (hn:0<ns.length) (k:∀m,m∈ns->(∀x∈ns,x<=m)->Q (.int m) H):JQ K [v] H Q:=by
 obtain ⟨p,vs,rfl,hp,r,q,al⟩:=S.lstAll h;obtain ⟨G,g⟩:=id q;rw [yK (al G g.2.2.2.2.2.2)] at hp;exact ⟨p,ns,rfl,SqL.of hp,hn,k⟩
end
theorem gw  :∀{a:List zg},(∀c∈a,c.2.length<=n)->(zh a e).length<=n
 |[],_=>by simp [zh]
 |[c],h=>h c (Qe ..)
 |c::d::r,h=>by
  rw [zh]
  split
  ·unfold XS;rw [QC];have:=h c (Qe ..);omega
  ·exact gw λx g=>h x (Qf _ g)
theorem Ea:∀{Qs:List (List zg)} {ps:List Rat} (i:Nat),(∀Q∈Qs,∀c∈Q,c.2.length<=n)->((List.zipWith zh Qs ps).take i).flatten.length<=n*Qs.length
 |[],ps,i,_=>by simp
 |Q::Qs,[],i,_=>by simp
 |Q::Qs,p::ps,0,_=>by simp
 |Q::Qs,p::ps,i+1,h=>by
  have q:=Ea (ps:=ps) i λm g=>h m (Qf _ g);have:=gw (e:=p) (h Q (Qe ..));rw [jaw,List.take_succ_cons,jaa,QB,Qy,Nat.mul_succ];omega
def getD_some {l:List Rat} {k:Nat} (h:k<l.length):l[k]? =some (l.getD k 0):=by rw [Qk,Qb h];rfl
def Fo   (h:e∈wpF P 0 (Qs.take i) M):e∈wpF P 0 Qs M:=by
 rcases bL.mp h with h|⟨j,Q,g,m⟩
 ·exact bL.mpr (.inl h)
 ·refine bL.mpr (.inr ⟨j,Q,?_,m⟩);rw [List.getElem?_take] at g
  split at g
  ·exact g
  ·cases g
def HN {α:Type} {G:List α} {x y:α}:atI (G++[x,y]) (-2)=some x:=by
 unfold atI ixN;rw [QO nofun,QJ (by simp;omega)];show (G++[x,y])[_]? =_;rw [show ((-2:Int)+((G++[x,y]).length:Nat)).toNat=G.length by simp;omega]
 simp
section
variable {B G0 H:Hp} {cs:yq} {ds:Dat} {Q:VK} {E:XK} {v w u:V} {K:Frg} {xs ys:List PyData} {vs:List V} {R:It->Hp->Prop}
def um (S:Sta B G0 H cs ds) (h:Has ds (.tuple xs) v) (m:Has ds (.list ys) w) (k:∀J,Wk B G0 J (HZ xs ys) (λcs ds=>Has ds (.tuple xs) v/\(∀x u,Has ds (.list ys) w->Has ((x,u)::ds) (.list ys) w)/\Has ds (.list ys) w)->R J H):kZi false true K R [v,w] H:=by
 obtain ⟨p,vs,rfl,hp,_⟩:=S.tup h;obtain ⟨q,ws,rfl,g,_⟩:=S.lst m;exact ⟨p,q,rfl,⟨_,SqT.of hp⟩,⟨_,SqL.of g⟩,k _ (AZ ff Vy)⟩
structure ReachOk (m k n b:Nat) (P:List zg) (L:List Rat):Prop where
 pm:PathM m P
 pr:PathR0 n P
 kn:k<m
 lev:∀l∈L,SzQ b l/\∀c,P[0]? =some c->c.2.getD k 0<=l
 sz:b+6*n+4<=8999
 few:L.length<=450
def qZ:Sp:=spL (α:=List zg×Nat×List Rat) (λa=>[yy a.1, .int (a.2.1:Nat), .list (a.2.2.map frD)]) (λa=>∃m n b,ReachOk m a.2.1 n b a.1 a.2.2) (λa=>(a.2.2.filterMap (xh a.1 a.2.1)).map frD)
def FK  (S:Sta B G0 H cs ds) (r:Has ds (yy P) v) (g:Has ds (.list (L.map frD)) u) (ok:ReachOk m k n b P L)
 (q:∀p H',zP H H'->Sta B G0 H' ((p,(L.filterMap (xh P k)).map frD)::cs) ds->Q (.ref p) H'):qZ [v, .int (k:Nat),u] H Q E:=
 Zw (P,k,L) S (.cons r (.cons .int (.cons g .nil))) ⟨m,n,b,ok⟩ q
end
section
variable {P:List zg} {Qs:List (List zg)}
def PathR.r0  (h:PathR n a):PathR0 n a:=⟨h.ne,h.sz,h.len,h.few,h.rise⟩
end
theorem eD:∀(xs ys:List Rat),xs.length<=(yA xs ys).length
 |[],ys=>TR _
 |x::xs,[]=>by rw [yA];exact Qu _
 |x::xs,y::ys=>by
  have p:=eD xs (y::ys);have m:=eD xs ys;have g:=eD (x::xs) ys;rw [yA]
  split
  ·simp only [Qy] at*;omega
  ·split
   ·simp only [Qy] at*;omega
   ·simp only [Qy] at*;omega
termination_by xs ys=>xs.length+ys.length
structure PWO (P:List zg) (Qs:List (List zg)) (e:Rat):Prop where
 p:PathR 700 P
 q:∀Q∈Qs,PathR 700 Q/\∀c∈Q,c.2.length<=8
 len:(zh P e).length=Qs.length
 few:Qs.length<=8
 ez:SzQ 700 e
 e0:0<=e
 part:∀p∈zh P e,SzQ 700 p/\0<=p
structure WithO (P:List zg) (Qs:List (List zg)):Prop where
 nest:Nest P Qs
 pr:PathR 700 P
 qr:∀Q∈Qs,PathR 700 Q/\∀c∈Q,c.2.length<=8
 szM:∀e∈wpV P Qs,SzQ 700 e/\∀p∈zh P e,SzQ 700 p
 ql:∀Q∈Qs,Q.length<=401
 pl:P.length<=401
 few:Qs.length<=8
 lenV:(wpV P Qs).length<=401
section
variable {B G0 H:Hp} {cs:yq} {ds:Dat} {Q:VK} {E:XK} {v w u:V} {K:Frg} {xs ys:List PyData} {vs:List V} {P:List zg} {Qs:List (List zg)}
def aV:Sp:=spT (α:=List zg×List (List zg)×Rat) (λa=>[yy a.1, .list (a.2.1.map yy),frD a.2.2]) (λa=>PWO a.1 a.2.1 a.2.2) (λa=>yl (yT a.2.1 (zh a.1 a.2.2)))
def rS (S:Sta B G0 H cs ds) (p:Has ds (yy P) v) (m:Has ds (.list (Qs.map yy)) w) (g:Has ds (frD e) u) (ok:PWO P Qs e)
 (k:∀r H',zP H H'->Sta B G0 H' cs ((yl (yT Qs (zh P e)),r)::ds)->Q r H'):aV [v,w,u] H Q E:=
 Yd (P,Qs,e) S (.cons p (.cons m (.cons g .nil))) ok k
def UP:Sp:=spL (α:=List zg×List (List zg)) (λa=>[yy a.1, .list (a.2.map yy)]) (λa=>WithO a.1 a.2) (λa=>(yw a.1 a.2).map zL)
def vZ (S:Sta B G0 H cs ds) (m:Has ds (yy P) v) (g:Has ds (.list (Qs.map yy)) w) (ok:WithO P Qs)
 (k:∀p H',zP H H'->Sta B G0 H' ((p,(yw P Qs).map zL)::cs) ds->Q (.ref p) H'):UP [v,w] H Q E:=
 Zw (P,Qs) S (.cons m (.cons g .nil)) ok k
def GZ  (i:Nat):(wpF P 0 (Qs.take i) M).length<=(wpF P 0 Qs M).length:=by
 have mono:∀(Qs:List (List zg)) (k:Nat) (M:List Rat),M.length<=(wpF P k Qs M).length:=by
  intro Qs
  induction Qs with
  |nil=>intro k M;rw [wpF];exact Qu _
  |cons Q Qs g=>
   intro k M;rw [wpF];refine QL ?_ (g (k+1) _);exact eD M _
 have:∀(Qs:List (List zg)) (i k:Nat) (M:List Rat),(wpF P k (Qs.take i) M).length<=(wpF P k Qs M).length:=by
  intro Qs
  induction Qs with
  |nil=>intro i k M;rw [List.take_nil];exact Qu _
  |cons Q Qs g=>
   intro i k M
   cases i with
   |zero=>rw [List.take_zero,wpF];exact mono _ k M
   |succ i=>rw [List.take_succ_cons,wpF,wpF];exact g i (k+1) _
 exact this Qs i 0 M
def WithO.len (h:WithO P Qs) (i:Nat):(wpF P 0 (Qs.take i) (zZ P)).length<=401:=QL (GZ i) h.lenV
def WithO.pw (h:WithO P Qs) (he:e∈wpV P Qs):PWO P Qs e:=by
 have r:=h.nest.in_range he;refine ⟨h.pr,h.qr,h.nest.plen e,h.few,(h.szM e he).1,r.1,λp hp=>⟨(h.szM e he).2 p hp,?_⟩⟩;obtain ⟨k,g⟩:=Qw.mp hp;have m:k<Qs.length:=by rw [<-h.nest.plen e];exact (Qd.mp g).1
 exact (h.nest.range r.1 r.2 (Qb m) g).1
def WithO.reach (h:WithO P Qs) {k:Nat} {Q:List zg} (g:Qs[k]? =some Q):ReachOk Qs.length k 700 700 P (zZ Q):=by
 have p:=Qc g;have q:k<Qs.length:=(Qd.mp g).1;refine ⟨h.nest.pm,h.pr.r0,q,λl s=>?_,nofun,by unfold zZ;rw [Qa];have:=h.ql Q p;omega⟩;obtain ⟨c,m,rfl⟩:=Qj.mp s;refine ⟨((h.qr Q p).1.sz c m).1,λd hd=>?_⟩;obtain ⟨r,e⟩:=h.nest.p0;rw [e] at hd;cases hd;rw [Qk,QU,QJ q];exact (h.nest.qpos g c m).1
def wj  (S:Sta B G0 H ((L,xs)::cs) ds) (g:Has ds (.list ys) w) (hz:xs.length+ys.length<=1000) (k:∀H',Sta B G0 H' ((L,xs++ys)::cs) ds->Q .non H'):Cy (.ref L) [w] H Q:=by
 obtain ⟨p,us,e,hp,r,t,al⟩:=S.lstAll g;obtain ⟨vs,s,y,put⟩:=t.put;subst e;refine ⟨L,p,vs,us,rfl,rfl,s,hp,?_,k _ ((put (xs++ys) (vs++us) λG a b=>b.app (al G a)).weak (jbl _) λq m=> .mem (QF _ m))⟩;rw [<-r,<-y];exact QL hz (jbd rfl)
def JE  (S:Sta B G0 H cs ds) (h:(L,[d])∈cs) (hn:n<=1000) (k:∀l H',zP H H'->Sta B G0 H' ((l,List.replicate n d)::cs) ds->Q (.ref l) H'):rRep (.ref L) (.int (n:Int)) H Q:=by
 obtain ⟨vs,hp,t,A,_⟩:=S.cellAll h;obtain ⟨z,rfl⟩:=List.length_eq_one_iff.mp t.symm
 ·refine ⟨L,(n:Int),_,rfl,rfl,hp,⋯,⋯,?_,λp g=>?_⟩
  ·show 1*n<=sizeLine;have:1000<=sizeLine:=by decide
   omega
  ·rw [Td];show Q (.ref p) (upd H p (.lst (List.replicate n [z]).flatten));rw [rO];have y:Sta B G0 H cs ((d,z)::ds):=A;refine k p _ (zP.new g _) ((y.newL (xs:=List.replicate n d) (vs:=List.replicate n z) g λG a=>?_).dat λq s=> .mem (Qf _ s));have r:Is G d z:=a (d,z) (Qe ..);clear hn k
   induction n with
   |zero=>rw [List.replicate_zero,List.replicate_zero,zJ]
   |succ n m=>rw [Tu,Tu,zJ];exact ⟨_,_,rfl,r,m⟩
theorem fA (p:Rat) (i:Nat):∀(z:List (Rat×Nat)) (w:List Rat),xS (z++[(p,i)]) w=(xS z w).set i p
 |[],w=>rfl
 |(q,j)::z,w=>by rw [TK,xS,xS,fA p i z]
def KG (h:j<n):ixN n (j:Int)=some j:=by
 unfold ixN;rw [QJ ⋯,QJ ⋯,Td]
theorem DY {α β:Type} (p:α->Bool) (f:α->β):∀xs:List α,xs.filterMap (λj=>if p j=true then some (f j) else none)=(xs.filter p).map f
 |[]=>rfl
 |x::xs=>by
  rw [jaS,jbO,DY p f xs]
  split
  ·rename_i h
   split at h
   ·cases h
   ·rw [QO (by assumption)]
  ·rename_i h
   split at h
   ·cases h;rw [QJ (by assumption),Qp]
   ·cases h
def gm (p:Cl->Bool) (l:List Cl):(List.range l.length).filterMap (λj=>if p (l.getD j (0,0,0)) then some (PyData.int (j:Int)) else none)=(zN p l).map λ(i:Nat)=>PyData.int (i:Int):=by
 unfold zN;exact DY (λj=>p (l.getD j (0,0,0))) (λ(j:Nat)=>PyData.int (j:Int)) _
def jZ (p:Cl->Bool) (l:List Cl):(List.range l.length).filterMap (λj=>if p (l.getD j (0,0,0)) then some (PyData.int (0+(j:Int))) else none)=(zN p l).map λ(i:Nat)=>PyData.int (i:Int):=by
 rw [<-gm];simp only [Int.zero_add]
theorem sg:∀{l:List Int} {x:Int},x∈l->qN l<=x/\qN l∈l
 |[],x,h=>absurd h Qm
 |[a],x,h=>by rw [Qq.mp h,qN];exact ⟨jbP _,jaQ _⟩
 |a::b::l,x,h=>by
  have e:qN (a::b::l)=min a (qN (b::l)):=by rw [qN];simp
  have g:=sg (l:=b::l) (Qe ..);rw [e];refine ⟨?_,?_⟩
  ·rcases Ql.mp h with rfl|h
   ·omega
   ·have:=(sg (l:=b::l) h).1;omega
  ·rcases Int.le_total a (qN (b::l)) with z|z
   ·rw [Int.min_eq_left z];exact Qe ..
   ·rw [Int.min_eq_right z];exact Qf _ g.2
def Dp  (h:m∈l) (low:∀x∈l,m<=x):m=qN l:=by
 have:=sg h;have:=low _ this.2;omega
noncomputable def plD (pl:List Nat):PyData:= .list (pl.map λ(i:Nat)=>PyData.int (i:Int))
def fi:Sp:=spL (α:=List Cl×List Nat) (λa=>[zA a.1,plD a.2]) (λa=>(∀i∈a.2,i<a.1.length)/\a.2.length<=8) (λa=>(yk (0,0,0) a.2 a.1).map zF)
def mB  (S:Sta B G0 H cs ds) (m:Has ds (zA l) v) (g:Has ds (plD pl) w) (lt:∀i∈pl,i<l.length) (few:pl.length<=8) (k:∀p H',zP H H'->Sta B G0 H' ((p,(yk (0,0,0) pl l).map zF)::cs) ds->Q (.ref p) H'):fi [v,w] H Q E:=
 Zw (l,pl) S (.cons m (.cons g .nil)) ⟨lt,few⟩ k
def XU (p:Int->Cl->Bool):Sp:=spL (α:=List Cl×Int) (λa=>[zA a.1, .int a.2]) (λa=>a.1.length<=8) (λa=>(zN (p a.2) a.1).map λ(i:Nat)=>PyData.int (i:Int))
def pG  (S:Sta B G0 H cs ds) (m:Has ds (zA l) v) (few:l.length<=8) (k:∀q H',zP H H'->Sta B G0 H' ((q,(zN (p g) l).map λ(i:Nat)=>PyData.int (i:Int))::cs) ds->Q (.ref q) H'):XU p [v, .int g] H Q E:=
 Zw (l,g) S (.cons m (.cons Has.int .nil)) few k
def Fy:Sp:=spT (α:=List Cl×Int) (λa=>[zA a.1, .int a.2]) (λa=>0<a.1.length/\a.1.length<=8) (λa=>zF (AR a.2 a.1))
def rd_one  (S:Sta B G0 H cs ds) (m:Has ds (zA l) v) (pos:0<l.length) (few:l.length<=8) (k:∀q H',zP H H'->Sta B G0 H' cs ((zF (AR g l),q)::ds)->Q q H'):Fy [v, .int g] H Q E:=
 Yd (l,g) S (.cons m (.cons Has.int .nil)) ⟨pos,few⟩ k
structure SpO (pl:List Nat) (n:Nat) (v:List Rat):Prop where
 pls:Pls n pl
 len:v.length=pl.length
 few:n<=8
def fm:Sp:=spT (α:=List Rat×List Nat×Nat) (λa=>[yl a.1,plD a.2.1, .int (a.2.2:Int)]) (λa=>SpO a.2.1 a.2.2 a.1) (λa=>yl (yb a.2.1 a.2.2 a.1))
def wb  (S:Sta B G0 H cs ds) (m:Has ds (yl x) v) (g:Has ds (plD pl) w) (ok:SpO pl n x) (k:∀q H',zP H H'->Sta B G0 H' cs ((yl (yb pl n x),q)::ds)->Q q H'):fm [v,w, .int (n:Int)] H Q E:=
 Yd (x,pl,n) S (.cons m (.cons g (.cons Has.int .nil))) ok k
def UQ:Sp:=spL (α:=List zg×List Nat×Nat) (λa=>[yy a.1,plD a.2.1, .int (a.2.2:Int)]) (λa=>(∀c∈a.1,SpO a.2.1 a.2.2 c.2)/\a.1.length<=450) (λa=>(yr a.2.1 a.2.2 a.1).map zL)
def pA  (S:Sta B G0 H cs ds) (m:Has ds (yy x) v) (g:Has ds (plD pl) w) (ok:∀c∈x,SpO pl n c.2) (few:x.length<=450) (k:∀q H',zP H H'->Sta B G0 H' ((q,(yr pl n x).map zL)::cs) ds->Q (.ref q) H'):UQ [v,w, .int (n:Int)] H Q E:=
 Zw (x,pl,n) S (.cons m (.cons g (.cons Has.int .nil))) ⟨ok,few⟩ k
noncomputable def Xs (t n:Nat):Sp:=spL (α:=Rl×List Cl) (λa=>[a.1.shape,zA a.2]) (λa=>(RuS t a.1/\a.1.deep<=n)/\ClS t a.2) (λa=>(zI a.1 a.2).map zL)
def ZI  (S:Sta B G0 H cs ds) (g:Has ds r.shape v) (h:Has ds (zA l) w) (ru:RuS t r) (hn:r.deep<=n) (ok:ClS t l) (k:∀p H',zP H H'->Sta B G0 H' ((p,(zI r l).map zL)::cs) ds->Q (.ref p) H'):Xs t n [v,w] H Q E:=Zw (r,l) S (.cons g (.cons h .nil)) ⟨⟨ru,hn⟩,ok⟩ k
noncomputable def lF (t n:Nat):Sp:=spL (α:=Rl×List Cl) (λa=>[a.1.shape,zA a.2]) (λa=>(RuS t a.1/\a.1.deep<=n)/\ClS t a.2) (λa=>(VV (λl=>zI a.1 l) a.2).map zL)
def Cc  (S:Sta B G0 H cs ds) (g:Has ds r.shape v) (h:Has ds (zA l) w) (ru:RuS t r) (hn:r.deep<=n) (ok:ClS t l) (k:∀p H',zP H H'->Sta B G0 H' ((p,(VV (λl=>zI r l) l).map zL)::cs) ds->Q (.ref p) H'):lF t n [v,w] H Q E:=Zw (r,l) S (.cons g (.cons h .nil)) ⟨⟨ru,hn⟩,ok⟩ k
noncomputable def fq (t n:Nat):Sp:=spL (α:=(Rl×Rl)×List Cl) (λa=>[a.1.1.shape,a.1.2.shape,zA a.2]) (λa=>(RuS t (.groups a.1.1 a.1.2)/\a.1.1.deep<=n/\a.1.2.deep<=n)/\ClS t a.2) (λa=>(xt (λl=>zI a.1.1 l) (λl=>zI a.1.2 l) a.2).map zL)
def we  (S:Sta B G0 H cs ds) (q:Has ds a.shape v) (m:Has ds b.shape u) (h:Has ds (zA l) w) (ru:RuS t (.groups a b)) (ha:a.deep<=n) (g:b.deep<=n) (ok:ClS t l) (k:∀p H',zP H H'->Sta B G0 H' ((p,(xt (λl=>zI a l) (λl=>zI b l) l).map zL)::cs) ds->Q (.ref p) H'):fq t n [v,u,w] H Q E:=Zw ((a,b),l) S (.cons q (.cons m (.cons h .nil))) ⟨⟨ru,ha,g⟩,ok⟩ k
noncomputable def rl (A:RAd) (t n:Nat):Sp:=spL (α:=Rl×List Cl) (λa=>[a.1.ins A,zA a.2]) (λa=>(RuS t a.1/\a.1.deep<=n)/\ClS t a.2) (λa=>(zI a.1 a.2).map zL)
def FO   (S:Sta B G0 H cs ds) (g:Has ds (r.ins A) v) (h:Has ds (zA l) w) (ru:RuS t r) (hn:r.deep<=n) (ok:ClS t l) (k:∀p H',zP H H'->Sta B G0 H' ((p,(zI r l).map zL)::cs) ds->Q (.ref p) H'):rl A t n [v,w] H Q E:=Zw (r,l) S (.cons g (.cons h .nil)) ⟨⟨ru,hn⟩,ok⟩ k
noncomputable def lG (A:RAd) (t n:Nat):Sp:=spT (α:=Rl×List Cl×Rat) (λa=>[a.1.ins A,zA a.2.1,frD a.2.2]) (λa=>((RuS t a.1/\a.1.deep<=n)/\ClS t a.2.1)/\SzQ 300 a.2.2/\0<=a.2.2) (λa=>yl (zh (zI a.1 a.2.1) a.2.2))
def Cd   (S:Sta B G0 H cs ds) (q:Has ds (r.ins A) v) (h:Has ds (zA l) w) (m:Has ds (frD e) u) (ru:RuS t r) (hn:r.deep<=n) (ok:ClS t l) (g:SzQ 300 e) (e0:0<=e) (k:∀p H',zP H H'->Sta B G0 H' cs ((yl (zh (zI r l) e),p)::ds)->Q p H'):lG A t n [v,w,u] H Q E:=Yd (r,l,e) S (.cons q (.cons h (.cons m .nil))) ⟨⟨⟨ru,hn⟩,ok⟩,g,e0⟩ k
end
def Sta.rot3   (S:Sta B G0 H (m::c2::g::cs) ds):Sta B G0 H (g::m::c2::cs) ds:=S.permC ((List.Perm.cons _ (List.Perm.swap _ _ _)).trans (List.Perm.swap _ _ _))
theorem qe:∀{g:List (List Nat)},(∀L∈g,L.length<=8)->g.flatten.length<=8*g.length
 |[],_=>by simp
 |L::g,h=>by
  have r:=h L (Qe ..);have q:=qe λp m=>h p (Qf _ m);rw [jaa,QB,Qy];omega
def ful_sz {m d t:Nat} {T:Rat} {as:List Rat} {P:List zg} {Z:Int} (h:Ful m T as P) (hd:DP d P) (A:T<=(Z:Rat)) (w:0<=Z) (s:Z<=2 ^ t):∀c∈P,SzC (t+d+2) c:=λc g=>by
 have r:=h.std.range g;have u:c.1<=(Z:Rat):=TN r.2 A
 have nn:∀q∈c.2,0<=q:=λq y=>by
  obtain ⟨i,z⟩:=Qw.mp y;exact h.std.nn h.mono c g i q z
 have le:=(ZM nn).2;rw [(h.std.ok c g).2] at le;exact ⟨(hd c g).1.sz r.1 u w s,λx p=>((hd c g).2 x p).sz (nn x p) (TN (le x p) u) w s⟩
theorem IT:∀{l:List Cl},(∀c∈l,0<=c.1)->zM (asD done l)<=zM (amQ l)
 |[],_=>QR
 |c::l,nn=>by
  have q:=IT (done:=done) λx g=>nn x (Qf _ g);have h0:=cf (nn c (Qe ..));have p:asD done (c::l)=(if c.2.1∈done then (c.1:Rat) else 0)::asD done l:=rfl;have m:amQ (c::l)=(c.1:Rat)::amQ l:=rfl;rw [p,m,zM,zM]
  split<;>grind
noncomputable def rkP (r:Rl) (l:List Cl) (i:Nat):List zg:=((zQ l).take i).foldl (Zv (λl=>zI r l) l) (kW l.length)
section
variable {t:Nat} {r a b:Rl} {l:List Cl} {i:Nat} {k:Int}
def FJ (g:(zQ l)[i]? =some k):rkP r l (i+1)=Zv (λl=>zI r l) l (rkP r l i) k:=by
 unfold rkP;rw [jab,g,List.foldl_append];rfl
def Jz (r:Rl) (l:List Cl):rkP r l (zQ l).length=VV (λl=>zI r l) l:=by
 unfold rkP VV;rw [List.take_length]
def rkP_ok (ru:RuS t r) (ok:ClS t l) (i:Nat):RkI r l ((zQ l).take i) (rkP r l i)/\(∀c∈rkP r l i,SzC 700 c)/\(rkP r l i).length<=401:=by
 have pw:([]++(zQ l).take i).Pairwise (·<·):=jbe (List.take_sublist _ _) (yI l).1;have gf:∀k∈(zQ l).take i,GF r (l.filter (zH k)) (zI r (l.filter (zH k)))/\DP (WD t r) (zI r (l.filter (zH k))):=λk _=>⟨yX ru.pok (xj ok.n1 _),YH ru.pok (xj ok.n1 _) (jbE (XA ok.n1 _) ok.sum)⟩;have R:=rN (f:=λl=>zI r l) ((zQ l).take i) [] _ (RkI.nil (r:=r) (l:=l)) pw λk p=>(gf k p).1
 have D:=BV (d:=WD t r) (f:=λl=>zI r l) ((zQ l).take i) [] _ (RkI.nil (r:=r) (l:=l)) pw gf λc g=>by
  rw [Qq.mp g];refine ⟨DQ.zero.mono ⋯,λx m=>?_⟩;rw [List.eq_of_mem_replicate m];exact DQ.zero.mono ⋯
 rw [jaK] at R;refine ⟨R,λc g=>?_,?_⟩
 ·have T0:=UL (Wm ok.n1);have le:=IT (done:=(zQ l).take i) ok.n1;rw [xJ] at le;exact (ful_sz R.ful D le T0 ok.sum c g).mono ru.den
 ·have f:=mV (f:=λl=>zI r l) (l:=l) (c:=Vk r) ((zQ l).take i) (kW l.length) λk _=>Xm ru.pok (xj ok.n1 _);have q:=eH (·.2.1) (yI l).1 l λc g=>((yI l).2 _).mpr (Qj.mpr ⟨c,g,rfl⟩);have e:((zQ l).map λk=>(l.filter (zH k)).length).sum=l.length:=q
  have sub:(((zQ l).take i).map λk=>(l.filter (zH k)).length).sum<=((zQ l).map λk=>(l.filter (zH k)).length).sum:=by
   conv=>rhs;rw [<-List.take_append_drop i (zQ l)]
   rw [QM,List.sum_append];omega
  rw [e] at sub;have s:=Nat.mul_le_mul_left (Vk r) sub;have m2:=Nat.mul_le_mul ru.len ok.few;have z:(kW l.length).length=1:=rfl;unfold rkP;omega
def CC   (st:Std m T as P) (hm:m<=8) (sz:∀c∈P,SzC 700 c) (few:P.length<=401):PathIn P:=
 ⟨st.ne,λc g=>(sz c g).mono nofun,λc g=>by rw [(st.ok c g).1];omega,⋯⟩
def Bq  (hp:Pls n pl) (p:∀c∈P,c.2.length=pl.length) (h:∀c∈P,SzC 700 c):∀c∈yr pl n P,SzC 700 c:=λc u=>by
 obtain ⟨c,g,rfl⟩:=Qj.mp u;refine ⟨(h c g).1,λx m=>?_⟩;obtain ⟨i,s⟩:=Qw.mp m
 rcases Zg hp (p c g) s with ⟨j,_,q⟩|⟨_,rfl⟩
 ·exact (h c g).2 x (Qc q)
 ·unfold SzQ Sz;decide
def BW (ru:RuS t r) (ok:ClS t l) (I:(zQ l)[i]? =some k):
 PathIn (rkP r l i)/\PathIn (yr (zN (zH k) l) l.length (zI r (l.filter (zH k))))/\PathOk l.length (rkP r l i++yJ (rkP r l i) (yr (zN (zH k) l) l.length (zI r (l.filter (zH k))))):=by
 obtain ⟨R,sz,few⟩:=rkP_ok ru ok i;have m:=ok.filter (zH k) (fX (Qc I));have g:=(ru.gf m).ful;have J:=ru.R m;have lk:=Zo (zH k) l;have y:=YW (zH k) l;have A:=g.spread y lk;have p:=Bq y (λc w=>by rw [(g.std.ok c w).1,lk]) J.sz;have s:(yr (zN (zH k) l) l.length (zI r (l.filter (zH k)))).length<=401:=by unfold yr;rw [Qa];exact ru.few m
 have st:=iD R.ful.std A.std;refine ⟨CC R.ful.std ok.few sz few,CC A.std ok.few p s,λc w=>?_,λc w=>(st.ok c w).1,by have:=ok.few;omega,?_⟩
 ·rcases QT.mp w with z|z
  ·exact (sz c z).mono nofun
  ·obtain ⟨d,hd,rfl⟩:=Qj.mp z;have z1:=sz _ (pZ R.ful.std.ne);have z2:=p d (TV hd);refine ⟨(z1.1.add z2.1).mono nofun,λq G=>?_⟩;obtain ⟨u,D,v,C,rfl⟩:=eU G;exact ((z1.2 u D).add (z2.2 v C)).mono nofun
 ·unfold yJ;simp only [QB,Qa,jaO];omega
def DR (ru:RuS t (.groups a b)) (ok:ClS t l):WithO (zI a (zC l)) (zU (λl=>zI b l) l):=by
 obtain ⟨ra,z⟩:=ru.groups;have u:=ok.sums;have s:∀g∈zu l,ClS t (l.filter (zo g)):=λg m=>ok.filter (zo g) (Xz m);have ga:=ra.gf u;have G:=λg m=>z.gf (s g m);have nest:=Uz (fa:=λl=>zI a l) (fb:=λl=>zI b l) ga.ful λg m=>(G g m).ful;have T0:=UL (Wm ok.n1)
 have A:(lastC (zI a (zC l))).1<=(((amV l).sum:Int):Rat):=by
  rw [ga.ful.std.lastC];show zM (amQ (zC l))<=_;rw [xJ,dR];exact QR
 have L:=ru.den;simp only [WD] at L;have O:=Yu l;have N:=ok.few;refine ⟨nest,ra.R u,λQ y=>?_,λe he=>?_,λQ y=>?_,ra.few u,by rw [Ys];omega,?_⟩
 ·obtain ⟨g,m,rfl⟩:=Qj.mp y;refine ⟨z.R (s g m),λc K=>?_⟩;rw [((G g m).ful.std.ok c K).1];exact (s g m).few
 ·have D:=nest.den (YH (t:=t) ra.pok u.n1 u.sum) (b:=WD t b) (λQ y=>by
   obtain ⟨g,m,rfl⟩:=Qj.mp y
   exact YH z.pok (s g m).n1 (s g m).sum) A ok.sum he
  have w:=nest.in_range he;refine ⟨(D.1.sz w.1 (TN w.2 A) T0 ok.sum).mono ⋯,λp hp=>?_⟩
  have nn:∀q∈zh (zI a (zC l)) e,0<=q:=λq J=>by
   obtain ⟨k,C⟩:=Qw.mp J;have M:k<(zU (λl=>zI b l) l).length:=by rw [<-nest.plen e];exact (Qd.mp C).1
   exact (nest.range w.1 w.2 (Qb M) C).1
  have le:=(ZM nn).2 p hp;rw [ga.ful.std.sum w.1] at le;have I:mn e (zM (amQ (zC l)))<=e:=by unfold mn;split<;>grind
  exact ((D.2 p hp).sz (nn p hp) (by have:=w.2;grind) T0 ok.sum).mono ⋯
 ·obtain ⟨g,m,rfl⟩:=Qj.mp y;exact z.few (s g m)
 ·have f:=ru.few ok
  have e:(zI (.groups a b) l).length=(wpV (zI a (zC l)) (zU (λl=>zI b l) l)).length:=by
   show (xt (λl=>zI a l) (λl=>zI b l) l).length=_;unfold xt yr yw;rw [Qa,Qa]
  omega
def DS (ru:RuS t (.groups a b)) (ok:ClS t l):(∀c∈yw (zI a (zC l)) (zU (λl=>zI b l) l),SpO (wu l) l.length c.2)/\(yw (zI a (zC l)) (zU (λl=>zI b l) l)).length<=450:=by
 obtain ⟨ra,q⟩:=ru.groups;have w:=DR ru ok;have m:∀g∈zu l,ClS t (l.filter (zo g)):=λg p=>ok.filter (zo g) (Xz p);have ga:=ra.gf ok.sums;have lk:=gG (fb:=λl=>zI b l) (l:=l) λg p=>(q.gf (m g p)).ful;have W:=mM w.nest (T:=zM (amQ (zC l))) (as:=amQ (zC l)) (by rw [Ys,<-xI];exact ga.ful.std);refine ⟨λc s=>⟨mE l,by rw [(W.std.ok c s).1,lk],ok.few⟩,?_⟩;have:=w.lenV;unfold yw;rw [Qa];omega
def jQ  (ok:PathIn P) (h:∀c∈P,SzC 700 c) (hp:SzQ m p) (hm:m<=1000):PathIn (zS p P):=by
 refine ⟨λe=>ok.ne (List.map_eq_nil_iff.mp e),λc g=>(aY h hp c g).mono ⋯,λc g=>?_,by unfold zS;rw [Qa];exact ok.few⟩;obtain ⟨d,hd,rfl⟩:=Qj.mp g;rw [Qa];exact ok.len d hd
def RuS.up  (h:RuS t (.upto t' b' x y)) (ok:ClS t l):UpOk (Rat.divInt t' b') (zI x l) (zI y l):=by
 obtain ⟨p,m⟩:=h.upto;have g:=JT h.pok.1;have one:SzQ 1 (1:Rat):=by unfold SzQ Sz;decide+kernel
 have A:SzQ 212 (1 - Rat.divInt t' b'):=(one.sub g).mono nofun;have D:=p.R (l:=l) ok;have py:=m.R (l:=l) ok;have O:=(p.gf ok).ful.std;have N:=(m.gf ok).ful.std;have s:=p.inn (l:=l) ok;have G:=m.inn (l:=l) ok;have pi:=gh h.pok.1;have C:=aY D.sz g;have I:=aY py.sz A;have U:=Xm p.pok ok.n1;have T:=Xm m.pok ok.n1;have f:=h.len;simp only [Vk] at f;have P:=ok.few;have J:=Nat.mul_le_mul (show Vk x+Vk y<=50 from f) P;rw [Nat.add_mul] at J;have st:=iD (WR pi.1 O) (WR (show 0<1 - Rat.divInt t' b' by grind) N);refine ⟨g.mono nofun,s,G,jQ s D.sz g nofun,jQ G py.sz A nofun,l.length,⟨λc w=>?_,λc w=>(st.ok c w).1,⋯,?_⟩⟩
 ·rcases QT.mp w with z|z
  ·exact (C c z).mono nofun
  ·obtain ⟨d,hd,rfl⟩:=Qj.mp z;have a:=C _ (pZ (λe=>s.ne (List.map_eq_nil_iff.mp e)));have b:=I d (TV hd);refine ⟨(a.1.add b.1).mono nofun,λq M=>?_⟩;obtain ⟨u,L,v,K,rfl⟩:=eU M;exact ((a.2 u L).add (b.2 v K)).mono nofun
 ·unfold yJ zS;simp only [QB,Qa,jaO];omega
end
noncomputable def aN (m:List Int) (l:List Cl) (tk:List Int):List Int:=m.map λg=>(yk 0 (zN (zo g) l) tk).sum
section
variable {r a b:Rl} {l:List Cl} {tk:List Int} {k:Int}
def Au (h:∀i∈pl,i<tk.length):yQ (yk 0 pl tk)=yk 0 pl (yQ tk):=by
 unfold yQ yk;rw [Qr];refine QK λi g=>?_;show (((tk.getD i 0):Int):Rat)=(tk.map λ(p:Int)=>(p:Rat)).getD i 0;rw [Qk,Qk,Qh,Qb (h i g)];rfl
def gn (p:Cl->Bool) (q:Row->Bool) (m:∀c x,q (xO c x)=p c) (g:tk.length=l.length):(zE l (yQ tk)).filter q=zE (l.filter p) (yQ (yk 0 (zN p l) tk)):=by
 rw [YG (p:=p) q m (by rw [Vq];exact g),Au λi s=>by rw [g];exact (YW p l).lt i s]
def FitG.ranks (h:FitG (.ranks r) l tk) (k:Int):FitG r (l.filter (zH k)) (yk 0 (zN (zH k) l) tk):=by
 refine ⟨by rw [Vd,Zo],?_⟩;have:=h.fit.2.1 k;rwa [gn (zH k) _ (λc x=>rfl) h.len] at this
def FitG.order (h:FitG (.ranks r) l tk) {i j:Nat} {c d:Cl} {p q:Int} (s:l[i]? =some c) (hp:tk[i]? =some p) (hd:l[j]? =some d) (m:tk[j]? =some q) (lt:c.2.1<d.2.1) (pos:0<q):p=c.1:=by
 have g:∀{n:Nat} {x:Int},tk[n]? =some x->(yQ tk)[n]? =some (x:Rat):=λ{n x} hx=>by unfold yQ;rw [Qh,hx];rfl
 have:=h.fit.2.2 _ (Wh s (g hp)) _ (Wh hd (g m)) lt (YZ pos);exact Rat.intCast_inj.mp this
def FitG.group (h:FitG (.groups a b) l tk) (g:Int):FitG b (l.filter (zo g)) (yk 0 (zN (zo g) l) tk):=by
 refine ⟨by rw [Vd,Zo],?_⟩;have:=h.fit.2.1 g;rwa [gn (zo g) _ (λc x=>rfl) h.len] at this
def FitG.outer (h:FitG (.groups a b) l tk):FitG a (zC l) (aN (zu l) l tk):=by
 refine ⟨by unfold aN;rw [Qa,xI],?_⟩;have f:=h.fit.2.2
 have t:Xl (zE l (yQ tk))=zu l:=by
  have:(zE l (yQ tk)).map (·.group)=l.map (·.2.2):=by
   unfold zE;rw [jbN]
   apply Tf
   intro i;rw [Qt,Qh]
   cases e1:l[i]? with
   |none=>rfl
   |some c=>
    have m:=(Qd.mp e1).1;rw [Qb (l:=yQ tk) (i:=i) (by rw [Vq,h.len];exact m)];rfl
  exact ZT (VF _).1 (zX l).1 λk=>by rw [(VF _).2,this,(zX l).2]
 have es:kZ (zE l (yQ tk))=zE (zC l) (yQ (aN (zu l) l tk)):=by
  unfold kZ;rw [t];unfold zE zC yQ aN;rw [Qr,jbM,List.zipWith_self];refine QK λg _=>?_;have s:=gn (l:=l) (tk:=tk) (zo g) (λx=>decide (x.group=g)) (λc x=>rfl) h.len;unfold zE at s;have ln:(yQ (yk 0 (zN (zo g) l) tk)).length=(l.filter (zo g)).length:=by rw [Vq,Vd,Zo]
  have q:=Xw ln;have p:=Yz ln;unfold zE at q p
  have u:(List.zipWith xO (l.filter (zo g)) (yQ (yk 0 (zN (zo g) l) tk))).map (·.rank)=(l.filter (zo g)).map (·.2.1):=by
   rw [jbN]
   apply Tf
   intro i;rw [Qt,Qh]
   cases e1:(l.filter (zo g))[i]? with
   |none=>rfl
   |some c=>
    have m:=(Qd.mp e1).1;rw [Qb (l:=yQ (yk 0 (zN (zo g) l) tk)) (i:=i) (by rw [ln];exact m)];rfl
  show Row.mk (qR ((List.zipWith xO l (yQ tk)).filter λx=>decide (x.group=g))) (qN (((List.zipWith xO l (yQ tk)).filter λx=>decide (x.group=g)).map (·.rank))) g (AO ((List.zipWith xO l (yQ tk)).filter λx=>decide (x.group=g)))=xO (AR g (l.filter (zo g))) (((yk 0 (zN (zo g) l) tk).sum:Int):Rat);rw [s,q,p,u,aR,xJ];rfl
 rw [es] at f;exact f
end
structure FitA (n:Nat) (r:Rl) (l:List Cl) (tk:List Int):Prop where
 pok:POk r
 dep:VT r<=n
 hn:n<=20
 few:l.length<=8
 sz:∀x∈amV l,Sz (100000 - 300*n) x
 fit:FitG r l tk
section
variable {B G0 H:Hp} {cs:yq} {ds:Dat} {Q:VK} {E:XK} {v w u:V} {K:Frg} {n:Nat} {r x y a b':Rl} {l:List Cl} {tk:List Int} {t b:Int} {k g:Int}
def Uh (n:Nat):Sp:=spB (α:=Rl×List Cl×List Int) (λa=>[a.1.shape,zA a.2.1,xN a.2.2]) (λa=>FitA n a.1 a.2.1 a.2.2) (λ_=> .bl true)
def YV (S:Sta B G0 H cs ds) (q:Has ds r.shape u) (p:Has ds (zA l) v) (m:Has ds (xN tk) w) (ok:FitA n r l tk) (k:∀H',zP H H'->Sta B G0 H' cs ds->Q (.bl true) H'):Uh n [u,v,w] H Q E:=WZ (r,l,tk) (S.hpAll (.cons q (.cons p (.cons m .nil)))) ok λH' e=>k H' e (S.same e)
def Jm (n:Nat):Sp:=spB (α:=(Int×Int)×(Rl×Rl)×List Cl×List Int) (λa=>[(Rl.upto a.1.1 a.1.2 a.2.1.1 a.2.1.2).shape,zA a.2.2.1,xN a.2.2.2]) (λa=>FitA n (Rl.upto a.1.1 a.1.2 a.2.1.1 a.2.1.2) a.2.2.1 a.2.2.2) (λ_=> .bl true)
def rd_upA (S:Sta B G0 H cs ds) (q:Has ds (Rl.upto t b x y).shape u) (p:Has ds (zA l) v) (m:Has ds (xN tk) w) (ok:FitA n (.upto t b x y) l tk) (k:∀H',zP H H'->Sta B G0 H' cs ds->Q (.bl true) H'):Jm n [u,v,w] H Q E:=WZ ((t,b),(x,y),l,tk) (S.hpAll (.cons q (.cons p (.cons m .nil)))) ok λH' e=>k H' e (S.same e)
def Jo (n:Nat):Sp:=spB (α:=Rl×List Cl×List Int) (λa=>[a.1.shape,zA a.2.1,xN a.2.2]) (λa=>FitA n (.ranks a.1) a.2.1 a.2.2) (λ_=> .bl true)
def rd_rkF (S:Sta B G0 H cs ds) (q:Has ds r.shape u) (p:Has ds (zA l) v) (m:Has ds (xN tk) w) (ok:FitA n (.ranks r) l tk) (k:∀H',zP H H'->Sta B G0 H' cs ds->Q (.bl true) H'):Jo n [u,v,w] H Q E:=WZ (r,l,tk) (S.hpAll (.cons q (.cons p (.cons m .nil)))) ok λH' e=>k H' e (S.same e)
def Jq (n:Nat):Sp:=spB (α:=(Rl×Rl)×List Cl×List Int) (λa=>[(Rl.groups a.1.1 a.1.2).shape,zA a.2.1,xN a.2.2]) (λa=>FitA n (.groups a.1.1 a.1.2) a.2.1 a.2.2) (λ_=> .bl true)
def rd_grF (S:Sta B G0 H cs ds) (q:Has ds (Rl.groups x y).shape u) (p:Has ds (zA l) v) (m:Has ds (xN tk) w) (ok:FitA n (.groups x y) l tk) (k:∀H',zP H H'->Sta B G0 H' cs ds->Q (.bl true) H'):Jq n [u,v,w] H Q E:=WZ ((x,y),l,tk) (S.hpAll (.cons q (.cons p (.cons m .nil)))) ok λH' e=>k H' e (S.same e)
def FitA.other (h:FitA (n+1) (.other r) l tk):FitA n r l (Zb (amV l) tk):=
 ⟨h.pok,by have:=h.dep;simp only [VT] at this;omega,by have:=h.hn;omega,h.few,λx m=>(h.sz x m).mono ⋯,h.fit.other⟩
def FitA.halves (h:FitA (n+1) .halves l tk):FitA n (.upto 1 2 .evenly .losses) l tk:=
 ⟨⟨port12,trivial,trivial⟩,by have:=h.dep;simp only [VT] at this⊢;omega,by have:=h.hn;omega,h.few,λx m=>(h.sz x m).mono ⋯,h.fit.halves⟩
def FitA.upto (h:FitA (n+1) (.upto t b x y) l tk):if (yV b tk).sum<=(amV (yd t l)).sum then FitA n x (yd t l) (yV b tk) else FitA n y (yd (b - t) l) (Zb (yV b tk) (amV (yd t l))):=by
 have p:=h.pok.1;have q:0<b:=by have:=p.2.1;have:=p.2.2.1;omega
 have f:=h.fit.upto q;have d:=h.dep;simp only [VT] at d;have hn:=h.hn;have e:100000 - 300*(n+1)+300=100000 - 300*n:=⋯
 split
 ·rename_i c;rw [QJ c] at f;exact ⟨h.pok.2.1,⋯,⋯,by rw [Zi];exact h.few,by rw [<-e];exact tT (p.1.1.mono nofun) h.sz,f⟩
 ·rename_i c;rw [QO c] at f;have m:Sz 211 (b - t):=p.1.2.sub p.1.1;exact ⟨h.pok.2.2,⋯,⋯,by rw [Zi];exact h.few,by rw [<-e];exact tT m h.sz,f⟩
def iF (p:Cl->Bool) {x:Int} (h:x∈amV (l.filter p)):x∈amV l:=by
 obtain ⟨c,m,rfl⟩:=Qj.mp h;exact Qj.mpr ⟨c,(Tq.mp m).1,rfl⟩
def FitA.ranks (h:FitA (n+1) (.ranks r) l tk) (k:Int):FitA n r (l.filter (zH k)) (yk 0 (zN (zH k) l) tk):=
 ⟨h.pok,by have:=h.dep;simp only [VT] at this;omega,by have:=h.hn;omega,QL (jaB _ _) h.few,λx m=>(h.sz x (iF _ m)).mono ⋯,h.fit.ranks k⟩
def FitA.group (h:FitA (n+1) (.groups a b') l tk) (g:Int):FitA n b' (l.filter (zo g)) (yk 0 (zN (zo g) l) tk):=
 ⟨h.pok.2,by have:=h.dep;simp only [VT] at this;omega,by have:=h.hn;omega,QL (jaB _ _) h.few,λx m=>(h.sz x (iF _ m)).mono ⋯,h.fit.group g⟩
theorem Ig:∀{as:List Int} (j:Nat),as.length<=j->(∀a∈as,Sz m a)->Sz (m+j+1) as.sum
 |[],j,_,_=>by unfold Sz;exact Nat.pow_pos nofun
 |a::as,0,h,_=>by simp at h
 |a::as,j+1,h,hz=>by
  have s:=Ig (m:=m) (as:=as) j ‹h› λx p=>hz x (Qf _ p);have q:=(hz a (Qe ..)).mono (show m<=m+j+1 by omega);rw [QN];exact (q.add s).mono ⋯
def FitA.outer (h:FitA (n+1) (.groups a b') l tk):FitA n a (zC l) (aN (zu l) l tk):=by
 refine ⟨h.pok.1,by have:=h.dep;simp only [VT] at this;omega,by have:=h.hn;omega,by rw [xI];exact QL (Yu l) h.few,λx p=>?_,h.fit.outer⟩;obtain ⟨c,q,rfl⟩:=Qj.mp p;obtain ⟨g,s,rfl⟩:=Qj.mp q;have hn:=h.hn;refine (Ig (m:=100000 - 300*(n+1)) (as:=amV (l.filter (zo g))) 8 ?_ λa ha=>h.sz a (iF _ ha)).mono ⋯;rw [yi];exact QL (jaB _ _) h.few
def EB (h:i<l.length):(l.getD i (0,0,0)).1=(amV l).getD i 0:=by
 unfold amV;rw [Qk,Qk,Qh,Qb h];rfl
noncomputable def lE (t:Nat):Sp:=spB (α:=Rl×List Cl×Rat) (λa=>[a.1.shape,zA a.2.1,frD a.2.2,yl (zh (zI a.1 a.2.1) a.2.2)]) (λa=>((RuS t a.1/\VT a.1<=12)/\ClS t a.2.1)/\SzQ 700 a.2.2/\0<=a.2.2) (λ_=> .bl true)
def Cb  (S:Sta B G0 H cs ds) (C:Has ds r.shape u) (A:Has ds (zA l) v) (s:Has ds (frD e) w) (q:Has ds (yl (zh (zI r l) e)) z) (ru:RuS m r) (hd:VT r<=12) (ok:ClS m l) (p:SzQ 700 e) (e0:0<=e) (k:∀H',zP H H'->Sta B G0 H' cs ds->Q (.bl true) H'):lE m [u,v,w,z] H Q E:=WZ (r,l,e) (S.hpAll (.cons C (.cons A (.cons s (.cons q .nil))))) ⟨⟨⟨ru,hd⟩,ok⟩,p,e0⟩ λH' e=>k H' e (S.same e)
end
structure ClZ (size:Int) (l:List Cl):Prop where
 pos:0<l.length
 few:l.length<=8
 nn:∀c∈l,0<=c.1/\0<=c.2.1/\0<=c.2.2
 lt:∀c∈l,c.1<size
theorem eZ (h0:0<=size):∀{as:List Int},(∀a∈as,a<size)->as.sum<=(as.length:Int)*size
 |[],_=>by simp
 |a::as,h=>by
  have p:=h a (Qe ..);have m:=eZ h0 (as:=as) λx g=>h x (Qf _ g);rw [QN,Qy,Int.natCast_add,Int.add_mul];omega
def ClZ.S  (h:ClZ size l) (h0:0<=size) (p:size<=2 ^ s):ClS (s+3) l:=by
 refine ⟨h.pos,h.few,h.nn,?_⟩
 have m:=eZ h0 (as:=amV l) λa ha=>by
  obtain ⟨c,g,rfl⟩:=Qj.mp ha;exact h.lt c g
 rw [yi] at m;have q:(l.length:Int)*size<=8*size:=jbp (by have:=h.few;omega) h0;rw [Int.pow_add];have e:(2:Int) ^ 3=8:=by decide
 rw [e];omega
section
variable {B G0 H:Hp} {cs:yq} {ds:Dat} {Q:VK} {E:XK} {v w u:V} {K:Frg}
def ft (K:Frg):Sp:=λvs H Q _=>∃(G:Hp) (a:Addr) (ns:List Int) (at' many size:Int),vs=[.ref a, .int at', .int many, .int size]/\zP G H/\SqL K H a (ns.map V.int)/\(0<=at'/\1<=many/\many<=8/\10<=size/\size<=10 ^ 46)/\
 ∀(l:List Cl) (p:Addr) (H' g:Hp) (us:List V),l.length=many.toNat->ClZ size l->Grow G H g H'->H p=none->g p=none->H' p=some (.lst us)->zJ g (l.map zF) us->Q (.ref p) H'
def wm {a:Addr} {ns:List Int} {at' many size:Int} (S:Sta B G0 H cs ds) (s:SqL K H a (ns.map V.int)) (r:0<=at'/\1<=many/\many<=8/\10<=size/\size<=10 ^ 46)
 (k:∀(l:List Cl) (p:Addr) (H':Hp),l.length=many.toNat->ClZ size l->zP H H'->Sta B G0 H' ((p,l.map zF)::cs) ds->Q (.ref p) H'):ft K [.ref a, .int at', .int many, .int size] H Q E:=by
 obtain ⟨G,S⟩:=S;exact ⟨G,a,ns,at',many,size,rfl,S.2.1,s,r,λl p H' z us y t gr hp q m g=>k l p H' y t gr.h (Sta.put_call S gr hp q m g)⟩
noncomputable def UI (n:Int):List Int:=if n % 5=0 then [7,10,2] else if n % 5=1 then [10 ^ 40+5,9,30] else if n % 5=2 then [2024,10 ^ 20,100] else if n % 5=3 then [6,3,12,0,9,100,5,1] else [0,1,2]
def DB (n:Int):0<(UI n).length/\∀x∈UI n,0<=x:=by
 unfold UI
 split
 ·exact ⟨nofun,nofun⟩
 split
 ·exact ⟨nofun,nofun⟩
 split
 ·exact ⟨nofun,nofun⟩
 split
 ·exact ⟨nofun,nofun⟩
 ·exact ⟨nofun,nofun⟩
def sF (n:Int):((((UI n).map PyData.int).length:Nat):Int)≠0:=by
 have:=(DB n).1;rw [Qa];omega
def DD (n i:Int):∃x,0<=x/\atI ((UI n).map PyData.int) (i.fmod ((((UI n).map PyData.int).length:Nat):Int))=some (.int x):=by
 obtain ⟨q,p⟩:=DB n;have ne:=sF n;have e:=Tp i (show 0<=((((UI n).map PyData.int).length:Nat):Int) by omega);have g:=jaC i ne;have m2:=jak i (show 0<((((UI n).map PyData.int).length:Nat):Int) by omega);rw [<-e] at g m2;generalize i.fmod ((((UI n).map PyData.int).length:Nat):Int)=j at*;rw [Qa] at m2;have m:j.toNat<(UI n).length:=⋯
 refine ⟨(UI n)[j.toNat],p _ (Ta m),?_⟩;have:=yt (xs:=(UI n).map PyData.int) (j:=j.toNat) (v:= .int (UI n)[j.toNat]) (by rw [Qh,Qb m];rfl);rwa [Int.toNat_of_nonneg g] at this
def fo:Sp:=spL (α:=Int) (λn=>[.int n]) (λ_=>True) (λn=>(UI n).map PyData.int)
def jV (S:Sta B G0 H cs ds) (k:∀p H',zP H H'->Sta B G0 H' ((p,(UI n).map PyData.int)::cs) ds->Q (.ref p) H'):fo [.int n] H Q E:=Zw n S (.cons Has.int .nil) trivial k
def D26 (r:Rl):Prop:=(RuS 103 r/\VT r<=12)/\r.deep<=4
end
noncomputable def nd:Rl->Nat
 | .other r=>nd r+1
 | .ranks r=>nd r+1
 | .groups a b=>nd a+nd b+1
 | .upto _ _ x y=>nd x+nd y+1
 |_=>1
theorem gC:∀r:Rl,1<=nd r
 | .shares=>Qu _
 | .evenly=>Qu _
 | .losses=>Qu _
 | .halves=>Qu _
 | .other r=>by simp [nd]
 | .ranks r=>by simp [nd]
 | .groups a b=>by simp [nd]
 | .upto _ _ x y=>by simp [nd]
def PS6:Rl->Prop
 | .other r=>PS6 r
 | .ranks r=>PS6 r
 | .groups a b=>PS6 a/\PS6 b
 | .upto t b x y=>(WE t b/\ay b<=6)/\PS6 x/\PS6 y
 |_=>True
theorem PS6.pok:∀{r:Rl},PS6 r->POk r
 | .shares,_=>trivial
 | .evenly,_=>trivial
 | .losses,_=>trivial
 | .halves,_=>trivial
 | .other r,h=>PS6.pok (r:=r) h
 | .ranks r,h=>PS6.pok (r:=r) h
 | .groups a b,h=>⟨PS6.pok h.1,PS6.pok h.2⟩
 | .upto _ _ x y,h=>⟨h.1.1,PS6.pok h.2.1,PS6.pok h.2.2⟩
theorem gE:∀{r:Rl},PS6 r->(nd r<=2->WD t r<=2)/\(nd r<=4->WD t r<=18+2*t)/\(nd r<=6->WD t r<=98+12*t)
 | .shares,_=>⟨λ_=>by simp only [WD];omega,λ_=>by simp only [WD];omega,λ_=>by simp only [WD];omega⟩
 | .evenly,_=>⟨λ_=>by simp only [WD];omega,λ_=>by simp only [WD];omega,λ_=>by simp only [WD];omega⟩
 | .losses,_=>⟨λ_=>by simp only [WD];omega,λ_=>by simp only [WD];omega,λ_=>by simp only [WD];omega⟩
 | .halves,_=>⟨λ_=>by simp only [WD];omega,λ_=>by simp only [WD];omega,λ_=>by simp only [WD];omega⟩
 | .other r,h=>by
   have g:=gE (t:=t) (r:=r) h;simp only [WD,nd];exact ⟨λz=>g.1 ⋯,λz=>g.2.1 ⋯,λz=>g.2.2 ⋯⟩
 | .ranks r,h=>by
   have g:=gE (t:=t) (r:=r) h;simp only [WD,nd];exact ⟨λz=>g.1 ⋯,λz=>g.2.1 ⋯,λz=>g.2.2 ⋯⟩
 | .groups a b,h=>by
   obtain ⟨a1,a2,a3⟩:=gE (t:=t) (r:=a) h.1;obtain ⟨m,q,s⟩:=gE (t:=t) (r:=b) h.2;have pa:=gC a;have pb:=gC b;simp only [WD,nd];refine ⟨λz=>absurd z ⋯,λz=>?_,λz=>?_⟩
   ·have:=a1 ⋯;have:=m ⋯;omega
   ·by_cases c:nd a<=2
    ·have:=a1 c
     by_cases d:nd b<=2
     ·have:=m d;omega
     ·have:=q ⋯;omega
    ·have:=a2 ⋯;have:=m ⋯;omega
 | .upto p b x y,h=>by
   obtain ⟨a1,a2,a3⟩:=gE (t:=t) (r:=x) h.2.1;obtain ⟨m,q,s⟩:=gE (t:=t) (r:=y) h.2.2;have pa:=gC x;have pb:=gC y;have u:=h.1.2;simp only [WD,nd];refine ⟨λz=>absurd z ⋯,λz=>?_,λz=>?_⟩
   ·have:=a1 ⋯;have:=m ⋯;omega
   ·have:=a2 ⋯;have:=q ⋯;omega
theorem gD:∀r:Rl,Vk r<=2*nd r
 | .shares=>by simp [Vk,nd]
 | .evenly=>by simp [Vk,nd]
 | .losses=>by simp [Vk,nd]
 | .halves=>by simp [Vk,nd]
 | .other r=>by have:=gD r;simp only [Vk,nd];omega
 | .ranks r=>by have:=gD r;simp only [Vk,nd];omega
 | .groups a b=>by have:=gD a;have:=gD b;simp only [Vk,nd];omega
 | .upto _ _ x y=>by have:=gD x;have:=gD y;simp only [Vk,nd];omega
theorem cV:∀r:Rl,VT r<=nd r+2/\r.deep<=nd r
 | .shares=>by simp [VT,nd,Rl.deep]
 | .evenly=>by simp [VT,nd,Rl.deep]
 | .losses=>by simp [VT,nd,Rl.deep]
 | .halves=>by simp [VT,nd,Rl.deep]
 | .other r=>by have:=cV r;simp only [VT,nd,Rl.deep];omega
 | .ranks r=>by have:=cV r;simp only [VT,nd,Rl.deep];omega
 | .groups a b=>by have:=cV a;have:=cV b;simp only [VT,nd,Rl.deep];omega
 | .upto _ _ x y=>by have:=cV x;have:=cV y;simp only [VT,nd,Rl.deep];omega
structure JOk (t k N:Nat) (r:Rl):Prop where
 ps:PS6 r
 pos:1<=N
 den:WD t r<=98+12*t+6*k
 len:Vk r<=2*N
 dep:VT r<=N+2
 deep:r.deep<=N
 size:r.size<=N+k
theorem UA:∀r:Rl,r.size=nd r
 | .shares=>rfl
 | .evenly=>rfl
 | .losses=>rfl
 | .halves=>rfl
 | .other r=>by have:=UA r;simp only [Rl.size,nd];omega
 | .ranks r=>by have:=UA r;simp only [Rl.size,nd];omega
 | .groups a b=>by have:=UA a;have:=UA b;simp only [Rl.size,nd];omega
 | .upto _ _ x y=>by have:=UA x;have:=UA y;simp only [Rl.size,nd];omega
def JOk.of  (h:PS6 r) (hn:nd r<=6):JOk t 0 (nd r) r:=
 ⟨h,gC r,by have:=(gE (t:=t) h).2.2 hn;omega,gD r,(cV r).1,(cV r).2,by have:=UA r;omega⟩
def JOk.join  (hp:WE p b) (q:ay b<=6) (m:JOk t 0 M x) (g:JOk t k N y):JOk t (k+1) (M+N) (.upto p b x y):=by
 have a:=m.den;have c:=g.den;have a2:=m.len;have z:=g.len;have a3:=m.dep;have w:=g.dep;have a4:=m.deep;have u:=g.deep;have a5:=m.pos;have s:=g.pos;have A:=m.size;have r:=g.size;exact ⟨⟨⟨hp,q⟩,m.ps,g.ps⟩,⋯,by simp only [WD];omega,by simp only [Vk];omega,by simp only [VT];omega,by simp only [Rl.deep];omega,by simp only [Rl.size];omega⟩
def JOk.ru  (h:JOk t k N r) (ht:t<=36) (g:k<=6) (m:N<=7):RuS t r/\VT r<=12/\r.deep<=7:=by
 have a:=h.den;have b:=h.len;have c:=h.dep;have d:=h.deep;exact ⟨⟨h.ps.pok,⋯,⋯,⋯⟩,⋯,⋯⟩
def IA (h0:0<b) (h:b<=61):ay b<=6:=by
 unfold ay
 have:b.toNat.log2<=5:=by
  by_cases z:b.toNat=0
  ·rw [z];decide
  ·have:=(Nat.log2_lt z (k:=6)).mpr ⋯;omega
 omega
def Small.ps (h:Small t b):WE t b/\ay b<=6:=⟨h.port,IA (by have:=h.port.2.1;have:=h.port.2.2.1;omega) h.le⟩
def DZ (n:Nat):PS6 (jv n)/\nd (jv n)=1:=by
 match n with
 |0=>exact ⟨trivial,rfl⟩
 |1=>exact ⟨trivial,rfl⟩
 |2=>exact ⟨trivial,rfl⟩
 |n+3=>exact ⟨trivial,rfl⟩
noncomputable def ndS (rs:List Rl):Nat:=(rs.map nd).sum
def Yj (rs:List Rl) (r:Rl):ndS (rs++[r])=ndS rs+nd r:=by unfold ndS;rw [QM,List.sum_append];rfl
theorem Vh:∀rs:List Rl,rs.length<=ndS rs
 |[]=>Qu _
 |r::rs=>by
  have:=Vh rs;have:=gC r;unfold ndS at*;rw [Qp,QN,Qy];omega
def Drn (r:Rl):Prop:=∃k N,(∀t,JOk t k N r)/\k<=6/\N<=7
section
variable {B G0 H:Hp} {cs:yq} {ds:Dat} {Q:VK} {E:XK} {v w u:V} {K:Frg}
def rm:Sp:=λvs H Q _=>∃(G:Hp) (c:Int),vs=[.int c]/\zP G H/\∀v H' G' (n:Nat),Grow G H G' H'->Is G' (jv n).shape v->Q v H'
def FP (S:Sta B G0 H cs ds) (k:∀v H' (n:Nat),zP H H'->Sta B G0 H' cs (((jv n).shape,v)::ds)->Q v H'):rm [.int c] H Q E:=by
 obtain ⟨G,S⟩:=S;refine ⟨G,c,rfl,S.2.1,λv H' t n gr g=>k v H' n gr.h ?_⟩;obtain ⟨s,r,q,d',p,m,g'⟩:=S.grow gr;exact ⟨t,s,r,q,d',p,m,g'.cons g⟩
def BY  (S:Sta H G H' cs ds) (k:∀v H' g (n:Nat),Grow G H g H'->Is g (jv n).shape v->Q v H') (h:Has ds (jv n).shape v):Q v H':=by
 obtain ⟨g,gr,al⟩:=S.leave;exact k v H' g n gr (h g al)
def lC:Sp:=λvs H Q _=>∃(G:Hp) (ns:List Int) (g:Bool) (v:V),vs=[v, .bl g]/\zP G H/\Is G (xN ns) v/\ns.length<=6/\∀w H' G' (r:Rl),Grow G H G' H'->Is G' r.shape w->Drn r->Q w H'
def Ca  (S:Sta B G0 H cs ds) (h:Has ds (xN ns) v) (p:ns.length<=6) (k:∀w H' (r:Rl),Drn r->zP H H'->Sta B G0 H' cs ((r.shape,w)::ds)->Q w H'):lC [v, .bl g] H Q E:=by
 obtain ⟨G,S⟩:=S;refine ⟨G,ns,g,v,rfl,S.2.1,h G S.2.2.2.2.2.2,p,λw H' A r gr m good=>k w H' r good gr.h ?_⟩;obtain ⟨z,y,t,d',s,q,g'⟩:=S.grow gr;exact ⟨A,z,y,t,d',s,q,g'.cons m⟩
def jS  (S:Sta H G H' cs ds) (k:∀w H' g (r:Rl),Grow G H g H'->Is g r.shape w->Drn r->Q w H') (h:Has ds r.shape w) (m:Drn r):Q w H':=by
 obtain ⟨g,gr,al⟩:=S.leave;exact k w H' g r gr (h g al) m
end
def uY (xs:List PyData) (x:PyData):nA (xs++[x]) none (some (-1))=xs:=by
 have e:HT.sIx (xs++[x]).length (xs++[x]).length (some (-1))=xs.length:=by
  rw [QB,TL];unfold HT.sIx
  simp
  try omega
 unfold nA;rw [HT.sIx_none,e,List.drop_zero,Nat.sub_zero];exact List.take_left
def ny (xs:List PyData) (x y:PyData):nA (xs++[x,y]) none (some (-2))=xs:=by
 have e:HT.sIx (xs++[x,y]).length (xs++[x,y]).length (some (-2))=xs.length:=by
  rw [QB];unfold HT.sIx
  simp
  try omega
 unfold nA;rw [HT.sIx_none,e,List.drop_zero,Nat.sub_zero];exact List.take_left
section
variable {B G0 H:Hp} {cs:yq} {ds:Dat} {Q:VK} {E:XK} {v w u:V} {K:Frg}
end
def if2 {A X Y:Prop} (h:(if q=true then X else Y)->A) (m:p=true->q=true->X) (g:(p && q)=false->Y):if p=true then A else Y:=by
 cases p
 ·exact g rfl
 ·cases q
  ·exact h (g rfl)
  ·exact h (m rfl rfl)
def if3 {A m X Y:Prop} (h:(if q=true then m else Y)->A) (h':(if r=true then X else Y)->m) (s:p=true->q=true->r=true->X) (g:(p && (q && r))=false->Y):if p=true then A else Y:=by
 cases p
 ·exact g rfl
 ·cases q
  ·exact h (g rfl)
  ·exact h (h' (by
    cases r
    ·exact g rfl
    ·exact s rfl rfl rfl))
section
variable {B G0 H:Hp} {cs:yq} {ds:Dat} {Q:VK} {E:XK} {v w u:V} {K:Frg}
def lK (n:Nat):Sp:=spB (α:=Rl) (λr=>[r.shape]) (λr=>r.Ok/\r.size<=16/\r.deep<=n) (λr=> .str r.text)
def af {n:Nat} {r:Rl} (S:Sta B G0 H cs ds) (h:Has ds r.shape v) (ok:r.Ok) (g:r.size<=16) (hd:r.deep<=n) (k:∀H',Sta B G0 H' cs ds->Q (.str r.text) H'):lK n [v] H Q E:=WZ (α:=Rl) r (S.hpAll (ye.cons h ye.nil)) ⟨ok,g,hd⟩ λH' e=>k H' (S.same e)
end
theorem Rl.ok_of:∀{r:Rl},POk r->r.Ok
 | .shares,_=>trivial
 | .evenly,_=>trivial
 | .losses,_=>trivial
 | .halves,_=>trivial
 | .other r,h=>Rl.ok_of (r:=r) h
 | .ranks r,h=>Rl.ok_of (r:=r) h
 | .groups a b,h=>⟨Rl.ok_of h.1,Rl.ok_of h.2⟩
 | .upto _ _ x y,h=>⟨h.1,Rl.ok_of h.2.1,Rl.ok_of h.2.2⟩
def Ful.parts   (h:Ful m T as P) (h0:0<=e):∀q∈zh P e,0<=q/\q<=T:=by
 have nn:∀q∈zh P e,0<=q:=λq g=>by
  obtain ⟨i,t,rfl⟩:=QS g;have ln:=h.std.len (e:=e);have z:=h.std.zero;have pm:=h.pm;obtain ⟨r,p⟩:=h.std.cons;rw [p] at pm;have mo:=ZJ h0 pm QR;rw [<-p,z] at mo;exact mo i 0 _ (by rw [QU,QJ ⋯]) (Qb t)
 obtain ⟨_,le⟩:=ZM nn;have s:=h.std.sum h0;have u:mn e T<=T:=by unfold mn;split<;>grind
 intro q g;have:=le q g;exact ⟨nn q g,by grind⟩
section
variable {t de:Nat} {r:Rl} {l:List Cl} {e:Rat}
def RuS.dens (h:RuS t r) (ok:ClS t l) (he:DQ de e):∀q∈zh (zI r l) e,DQ (de+4*WD t r+t) q:=by
 have g:=(h.gf ok).ful;have u:=YH h.pok ok.n1 ok.sum;refine bJ (m:=0) (T:=(amV l).sum) he ok.sum g.std.rise (λc s=>?_) u;have p:=g.std.range s;rw [xJ] at p;exact p
def RuS.part (h:RuS t r) (ok:ClS t l) (he:DQ de e) (h0:0<=e):∀q∈zh (zI r l) e,0<=q/\SzQ (de+4*WD t r+2*t+2) q:=λq g=>by
 have p:=(h.gf ok).ful.parts h0 q g;rw [xJ] at p;exact ⟨p.1,((h.dens ok he q g).sz p.1 p.2 (UL (Wm ok.n1)) ok.sum).mono ⋯⟩
end
def SzQ.dq  (h:SzQ n x):DQ n x:=by
 refine ⟨(x.den:Int),⟨Int.natCast_pos.mpr x.den_pos,?_⟩,x.num,?_⟩
 ·have a:x.den<2 ^ n:=h.2;have e:(2:Int) ^ n=((2 ^ n:Nat):Int):=by rw [jbD];rfl
  rw [e];exact Int.ofNat_le.mpr (jbn a)
 ·have g:((x.den:Int):Rat)≠0:=λz=>x.den_nz (Int.natCast_eq_zero.mp (Rat.intCast_eq_zero_iff.mp z));have e:x=(x.num:Rat) / ((x.den:Int):Rat):=by rw [<-Rat.divInt_eq_div,jbw]
  conv=>lhs;lhs;rw [e]
  exact Rat.div_mul_cancel g
section
variable {B G0 H:Hp} {cs:yq} {ds:Dat} {Q:VK} {E:XK} {v:V}
noncomputable def EL (x:Rat×List Rat):PyData:= .tuple [frD x.1,yl x.2]
noncomputable def qQ (z:List (Rat×List Rat)):PyData:= .list (z.map EL)
def rA:Sp:=spB (α:=List (Rat×List Rat)) (λz=>[qQ z]) (λz=>((∀x∈z,SzQ 9000 x.1/\∀q∈x.2,SzQ 9000 q)/\z.length<=100)/\∀x∈z,x.2.length<=8/\∀y∈z,x.1<=y.1->LeV x.2 y.2) (λ_=> .bl true)
def FT (S:Sta B G0 H cs ds) (h:Has ds (qQ z) v) (sz:(∀x∈z,SzQ 9000 x.1/\∀q∈x.2,SzQ 9000 q)/\z.length<=100) (le:∀x∈z,x.2.length<=8/\∀y∈z,x.1<=y.1->LeV x.2 y.2) (k:∀H',Sta B G0 H' cs ds->Q (.bl true) H'):rA [v] H Q E:=WZ z (S.hpAll (.cons h .nil)) ⟨sz,le⟩ λH' e=>k H' (S.same e)
end
def RuS.mono  (h:RuS t r) (ok:ClS t l) (m:0<=u) (q:u<=v):LeV (zh (zI r l) u) (zh (zI r l) v):=by
 have g:=(h.gf ok).ful;have z:=g.std.zero;have pm:=g.pm;obtain ⟨s,p⟩:=g.std.cons;rw [p] at pm⊢;exact ZJ q pm (by first|exact m|(rw [show (_:zg).1=0 from rfl];exact m))
def all1 {p:List Value->Prop} (h:∀a,p [a]) (us:List Value) (g:us.length=1):p us:=by
 obtain ⟨a,rfl⟩:=List.length_eq_one_iff.mp g;exact h a
def all2 {p:List Value->Prop} (h:∀a b,p [a,b]) (us:List Value) (g:us.length=2):p us:=by
 cases us with
 |nil=>cases g
 |cons a us=>exact all1 (p:=λus=>p (a::us)) (h a) us (Nat.succ.inj g)
def all3 {p:List Value->Prop} (h:∀a b c,p [a,b,c]) (us:List Value) (g:us.length=3):p us:=by
 cases us with
 |nil=>cases g
 |cons a us=>exact all2 (p:=λus=>p (a::us)) (h a) us (Nat.succ.inj g)
def all4 {p:List Value->Prop} (h:∀a b c d,p [a,b,c,d]) (us:List Value) (g:us.length=4):p us:=by
 cases us with
 |nil=>cases g
 |cons a us=>exact all3 (p:=λus=>p (a::us)) (h a) us (Nat.succ.inj g)
def all5 {p:List Value->Prop} (h:∀a b c d e,p [a,b,c,d,e]) (us:List Value) (g:us.length=5):p us:=by
 cases us with
 |nil=>cases g
 |cons a us=>exact all4 (p:=λus=>p (a::us)) (h a) us (Nat.succ.inj g)
structure DkT (K:Frg) (mg:Str->Option Value) (nm:Str) (st:Stmt) (f:Addr) (fd:FuncData) (ps:List Str):Prop where
 F:Fun K nm nm st f fd
 m:mg nm=some (.ref f)
 b:yG K fd ps []
structure FkT (K:Frg) (x q:Str) (st:Stmt) (f:Addr) (fd:FuncData) (ps:List Str):Prop where
 F:Fun K x q st f fd
 b:yG K fd ps []
 k:PySem.W.keepIn K (.ref f)=true
section
variable {K:Frg} {h:Heap} {mg:Str->Option Value} {x q:Str} {st:Stmt} {f:Addr} {oc:Value} {od an:Option Addr} {osl:Array (Option Value)} {kV doc pm MH ct:Value} {ps:List Str}
def fk_mk (l:K.lookup f=some ⟨oc,od, .func (PySem.W.fnOf x q (Yc st) (Zu st) (zk st) .none kV doc pm an MH ct),osl⟩) (c:PySem.W.codeIn K MH q=true) (k:PySem.W.keepIn K (.ref f)=true)
 (b:∀(kV doc pm:Value) (an:Option Addr) (MH ct:Value) (us:List Value),us.length=ps.length->bindArgs (PySem.W.fnOf x q (Yc st) (Zu st) (zk st) .none kV doc pm an MH ct) ⟨us,[]⟩=pure (ps.zip us)):
 FkT K x q st f (PySem.W.fnOf x q (Yc st) (Zu st) (zk st) .none kV doc pm an MH ct) ps:=⟨qc l c k,(qc l c k).binds b,k⟩
def dk_mk (X:K.In h) (G:h.Ns mainGlobals mg) (a:PySem.W.nsIn K mainGlobals x=some (some (.ref f))) (l:K.lookup f=some ⟨oc,od, .func (PySem.W.fnOf x x (Yc st) (Zu st) (zk st) .none kV doc pm an MH ct),osl⟩) (c:PySem.W.codeIn K MH x=true) (k:PySem.W.keepIn K (.ref f)=true)
 (b:∀(kV doc pm:Value) (an:Option Addr) (MH ct:Value) (us:List Value),us.length=ps.length->bindArgs (PySem.W.fnOf x x (Yc st) (Zu st) (zk st) .none kV doc pm an MH ct) ⟨us,[]⟩=pure (ps.zip us)):
 DkT K mg x st f (PySem.W.fnOf x x (Yc st) (Zu st) (zk st) .none kV doc pm an MH ct) ps:=⟨qc l c k,jam X G a,(qc l c k).binds b⟩
end
structure CkT (K:Frg) (c fI Ru fS fT fP fQ:Addr):Prop where
 e:PySem.W.findIn K (.ref c) "__init__"=some (some (.ref fI))
 es:PySem.W.findIn K (.ref c) "shape"=some (some (.ref fS))
 et:PySem.W.findIn K (.ref c) "text"=some (some (.ref fT))
 ep:PySem.W.findIn K (.ref c) "path"=some (some (.ref fP))
 eq:PySem.W.findIn K (.ref c) "parts"=some (some (.ref fQ))
 pg:PySem.W.plainGet K c Str.empty=true
 hd:PySem.W.hasDictIn K c=true
 po:PySem.W.plainOver K c=true
 sa:PySem.W.findIn K (.ref c) "__setattr__"=some (some (.builtin "object.__setattr__"))
 na:PySem.W.findIn K (.ref c) "form"=some none
 ha:PySem.W.findIn K (.ref c) "__class__"=some (some (.builtin "object.__class__"))
 mo:PySem.W.mroIn K c (.type "object")=some true
 kt:PySem.W.kitOne K (.ref c) (.ref Ru)=some true
 mq:PySem.W.makesIn K c=true
 nf:PySem.W.isFn K (.ref fI)=true
 kc:PySem.W.keepIn K (.ref c)=true
section
variable {K:Frg} {c fI Ru fS fT fP fQ:Addr}
def CkT.ok (Q:CkT K c fI Ru fS fT fP fQ) (n1:PySem.W.isFn K (.ref fS)=true) (p:PySem.W.keepIn K (.ref fS)=true) (g:PySem.W.isFn K (.ref fT)=true) (m:PySem.W.keepIn K (.ref fT)=true) (hn:PySem.W.specialIn K (.builtin "object.__class__") "__get__"=some (some (.builtin "getset_descriptor.__get__"))) (ht:PySem.W.takesIn K (.builtin "object.__class__")=some true):ROk K fS fT Ru c:=
 ⟨⟨Q.pg,Q.hd,Q.po,Q.sa⟩,Q.na,⟨Q.es,n1,p⟩,⟨Q.et,g,m⟩,Q.ha,hn,ht,Q.mo,Q.kt⟩
def CkT.MK (Q:CkT K c fI Ru fS fT fP fQ):Mk K c fI:=⟨Q.mq,Q.e,Q.nf,Q.kc⟩
def CkT.mp (Q:CkT K c fI Ru fS fT fP fQ) (n:PySem.W.isFn K (.ref fP)=true) (k:PySem.W.keepIn K (.ref fP)=true) (g:PySem.W.isFn K (.ref fQ)=true) (m:PySem.W.keepIn K (.ref fQ)=true):Meth K c "path" fP/\Meth K c "parts" fQ:=⟨⟨Q.ep,n,k⟩,⟨Q.eq,g,m⟩⟩
end
section
variable {X:Cx}
def ps_a (i:Nat)   (q:X.N.Nodup) (he:PE X e te) (p:X.N[i]? =some x:=by rfl) (g:Loc X.env.scope x:=by walk_at "o") (m:swapsWith e (some (.Name x pos')) pos.line X.env=pure false:=by rfl) (hf:X.fn x=true\/X.env.scope.names.lookup x=some .local:=by walk_at "f"):
 PS X (.Assign [.Name x pos'] e pos) (Lu te (nj i)):=ps_set q p g he m hf
def pg_a (i:Nat)  (p:X.N.Nodup) (m:X.N[i]? =some x:=by rfl) (g:Loc X.env.scope x:=by walk_at "o") (hf:X.fn x=true\/X.env.scope.names.lookup x=some .local:=by walk_at "f"):PG X (.Name x pos) (nj i):=rX p m g hf
def pcl     (C:Cal X.prog X.w X.K X.mg X.base CX0 k x ps sp) (hr:Room j X.A) (ha:PA X (e::es) t) (g:k<=j:=by walk_at "l") (m:Gl X x:=by rfl) (r:(x==("__debug__":Str))=false:=by decide) (he:starEach (e::es) X.env=(false,eval e X.env)::starEach es X.env:=by rfl) (q:(backTo pos (starEach es X.env)).any (·.1)=false:=by rfl):
 PE X (.Call (.Name x p) (e::es) [] pos) (vR sp [] E0 t):=pe_cal C hr g pass0 m ha r he q
def pix (i:Nat)   (p:X.N[i]? =some x:=by rfl) (g:Vis X.env.scope x:=by walk_at "v") (hd:(x==("__debug__":Str))=false:=by decide) (m:(x==("__classdict__":Str))=false:=by decide):PE X (.Subscript (.Name x p1) (.Constant (.int k) j p2) p3) (tOp (rIx X.K) (tVar i) (tC (.int k))):=pe_ix ix_seq (pv i p g hd m) uw (λ_ _=>rfl)
def pg_c (i:Nat)     (p:N.Nodup:=by decide+kernel) (m:(xu X N scope C ex s H).N[i]? =some x:=by rfl) (g:Loc (xu X N scope C ex s H).env.scope x:=by walk_at "o") (hf:(xu X N scope C ex s H).fn x=true\/(xu X N scope C ex s H).env.scope.names.lookup x=some .local:=by walk_at "f"):
 PG (xu X N scope C ex s H) (.Name x pos) (nj i):=rX p m g hf
def pcf (N:List Str) (n:Nat) (fr:List Nat)     (p:PI X tg iter wi) (q:∀{C ex s H},PG (xu X N scope C ex s H) tg (g C ex s H)) (ht:∀{C ex s H},PIf (xu X N scope C ex s H) ifs (tt C ex s H)) (he:∀{C ex s H},PE (xu X N scope C ex s H) elt (te C ex s H))
 (r:X.calm=true:=by rfl) (O:CompOk X N n fr scope:=by exact ⟨rfl,by decide+kernel,rfl,nofun,rfl,rfl,rfl,rfl,rfl⟩) (m:∀x,foldedSetIterable iter X.env x=pure x:=by intro _;rfl):
 PE X (.ListComp elt [⟨tg,iter,ifs,0⟩] scope pos) (vQ n fr wi g tt te):=JX r O p (λ_ _ _ _=>q) (λ_ _ _ _=>ht) (λ_ _ _ _=>he) m
def pscf (i:Nat) (y:X.N.Nodup) (N:List Str) (n:Nat) (fr:List Nat)      (t:PI X tg iter wi) (u:∀{C ex s H},PG (xu X N scope C ex s H) tg (g C ex s H)) (ht:∀{C ex s H},PIf (xu X N scope C ex s H) ifs (tt C ex s H)) (he:∀{C ex s H},PE (xu X N scope C ex s H) elt (te C ex s H))
 (p:X.N[i]? =some x:=by rfl) (r:X.env.scope.names.lookup x=some .local:=by rfl) (w:X.calm=true:=by rfl) (O:CompOk X N n fr scope:=by exact ⟨rfl,by decide+kernel,rfl,nofun,rfl,rfl,rfl,rfl,rfl⟩)
 (m:swapsWith (.ListComp elt [⟨tg,iter,ifs,0⟩] scope pos) (some (.Name x px)) spos.line X.env=pure true:=by rfl) (q:∀x,foldedSetIterable iter X.env x=pure x:=by intro _;rfl):
 PS X (.Assign [.Name x px] (.ListComp elt [⟨tg,iter,ifs,0⟩] scope pos) spos) (Lu (vQ n fr wi g tt te) (nj i)):=wq y p r w O t (λ_ _ _ _=>u) (λ_ _ _ _=>ht) (λ_ _ _ _=>he) m q
def xc  (a:sc.kind= .function:=by rfl) (b:sc.isCoroutine=false:=by rfl) (c:sc.isGenerator=false:=by rfl) (d:N.Nodup:=by decide+kernel) (e:N.take P.length=P:=by rfl) (f:∀x∈P,sc.names.lookup x=some .local\/sc.names.lookup x=some .cell:=by decide+kernel) (g:∀y∈sc.names,y.2≠ .free:=by decide+kernel):FnScope N P sc:=⟨a,b,c,d,e,f,g⟩
def _root_.L2.Fun.oo {P:Program} {w:World} {K:Frg} {mg:Str->Option Value} {base:Heap} {x qual:Str} {st:Stmt} {f:Addr} {fd:FuncData} {N ps:List Str} {k:Nat} {sp:Sp} (F:Fun K x qual st f fd) (s1:FnScope N ps (zk st))
 (m:∀{g:Value} {A:Around} {outer:List Env} {s:Shared} (H:Hp) (vs:List V) (Q:VK) (E:XK),Room k (A.deeper (envOfC qual (zk st) s.heap.objs.size f g))->N.Nodup->sp vs H Q E->
  ∃t,PSs (IJ CX0 P w K mg base N qual (zk st) f g A outer s H E).nox (Zu st) t/\t {nx:=λ_ H'=>Q .non H',rt:=Q} (lB N vs) H) (len:∀vs H Q E,sp vs H Q E->vs.length=ps.length:=by walk_at "n"):FnOk P w K mg base CX0 (k+1) f fd ps sp:=F.ok s1 len λ_ _ _ _ H vs Q E hr h=>m H vs Q E hr s1.nd h
def yo       (w:Wk B G0 J xs P) (f:Nat->PyData) (t:(List.range xs.length).map f=ys) (s1:Sta B G0 H cs ds)
 (u:∀(i:Nat) (x:PyData) (v:V) {m p:Hp} {q:VK} {A:Hp->Prop} {C ex s0 H0},xs[i]? =some x->Turn1 B G0 cs m p->Sta m p m [] ((x,v)::ds)->(∀{y:V} {r:Hp} {cs':yq} {ds':Dat},Sta m p r cs' ds'->Has ds' (f i) y->q y r)->
  g C ex s0 H0 v (List.replicate n none++frσ σ fr) m λσ4 H4=>σ4.drop n=frσ σ fr/\tt C ex s0 H0 σ4 H4 λb s=>if b=true then te C ex s0 H0 σ4 s q else A s)
 (k:∀D H',zP H H'->Sta B G0 H' ((D,ys)::cs) ds->Q (.ref D) H') (z:∀D ys,P ((D,ys)::cs) ds:=by intro _ _;exact .mem (by walk_at "mem")) (hn:xs.length<=1000:=by rw [Qa];omega):Hf n fr g tt te σ Q J H:=
 yp w f t s1 z hn (λi x v _ _ _ _ a b c d _ _ _ _=>u i x v a b c d) k
def kxx {CX:CXT} {P:Program} {w:World} {K:Frg} {mg:Str->Option Value} {base:Heap} {N:List Str} {q:Str} {sc:Scope} {f:Addr} {cd:Value} {A:Around} {o:List Env} {s:Shared} {H:Hp} {E:XK}:(IJ CX P w K mg base N q sc f cd A o s H E).nox.K=K:=rfl
def kyy    :(xu X N sc C ex s H).K=X.K:=rfl
end
def Has.mm  (h:(x,v)∈ds:=by walk_at "mem"):Has ds x v:= .mem h
end S
namespace K
open PySem L2 S
abbrev paa:List Str:=["_law_shape_here","_law_claims_here","_law_parts"]
abbrev pab:List Str:=["one","two"]
abbrev pac:List Str:=["self"]
abbrev pae:List Str:=["self","form"]
abbrev paf:List Str:=["_law_shape_here","_law_claims_here","_law_purse_here","_law_parts"]
abbrev pag:List Str:=["self","portion","first","last"]
abbrev pah:List Str:=["self","inner"]
abbrev pai:List Str:=["claims","group"]
abbrev paj:List Str:=["ones","twos"]
abbrev pak:List Str:=["top","bottom"]
abbrev pal:List Str:=["_law_script","_law_at","_law_many","_law_size"]
abbrev pam:List Str:=["self","word"]
abbrev pan:List Str:=["claims"]
abbrev pao:List Str:=["path","places","count"]
abbrev paq:List Str:=["self","outer","inner"]
abbrev pas:List Str:=["walk"]
abbrev pau:List Str:=["_law_one","_law_two"]
abbrev pav:List Str:=["start","end","portion"]
abbrev paw:List Str:=["self","claims","purse"]
abbrev pax:List Str:=["start","end","amount"]
abbrev pay:List Str:=["shape","claims"]
abbrev paz:List Str:=["_law_script","_law_k"]
abbrev paA:List Str:=["_law_found"]
abbrev paB:List Str:=["claims","places"]
abbrev paC:List Str:=["portion","first","last"]
abbrev paD:List Str:=["outer","inner","claims"]
abbrev paE:List Str:=["_law_whole_here","_law_cell"]
abbrev paF:List Str:=["ahead","corner","following"]
abbrev paG:List Str:=["_law_cell"]
abbrev paH:List Str:=["_law_amounts","_law_parts"]
abbrev paI:List Str:=["_law_shape_here"]
abbrev paJ:List Str:=["_law_cells","_law_groups"]
abbrev paK:List Str:=["parts","places","count"]
abbrev paL:List Str:=["_law_cell","_law_place"]
abbrev paM:List Str:=["_law_top","_law_bottom"]
abbrev paN:List Str:=["path","second"]
abbrev paO:List Str:=["self","claims"]
abbrev paP:List Str:=["claims","rank"]
abbrev paQ:List Str:=["amounts","amount"]
abbrev paR:List Str:=["path","place","levels"]
abbrev paS:List Str:=["path","others","purse"]
abbrev paT:List Str:=["self","signs"]
abbrev paU:List Str:=["start","end","purse"]
abbrev paV:List Str:=["path","portion"]
abbrev paW:List Str:=["walk","word"]
abbrev paX:List Str:=["inner","claims"]
abbrev paY:List Str:=["path","others"]
local macro_rules|`(tactic|assumption)=>`(tactic|first|exact .mm|fail)
local macro_rules|`(tactic|right)=>`(tactic|walk_at "mem")
local macro_rules|`(tactic|left)=>`(tactic|walk_at "walk")
abbrev mtM:=Lean.MacroM (Lean.TSyntax `tactic)
def mwt (s:String):mtM:=`(tactic|walk_at $(Lean.quote s))
def mtU (c:Char):mtM:=match c with
 |'a'=>`(tactic|assumption)
 |'H'=>mwt "has"
 |'M'=>mwt "mem"
 |'A'=>mwt "hasall"
 |'z'=>mwt "szq"
 |'D'=>mwt "dom"
 |'m'=>mwt "mul"
 |'s'=>mwt "sz"
 |'u'=>mwt "sub"
 |'v'=>mwt "dats"
 |'r'=>`(tactic|exact rfl)
 |'o'=>`(tactic|omega)
 |'d'=>`(tactic|decide)
 |'K'=>`(tactic|decide+kernel)
 |'x'=>mwt "x"
 |'y'=>mwt "y"
 |'t'=>mwt "t"
 |'T'=>mwt "T"
 |'N'=>mwt "N"
 |'i'=>`(tactic|(show (0:Int)<_;decide))
 |'j'=>`(tactic|(show (0:Int)<_;omega))
 |'q'=>mwt "q"
 |'L'=>`(tactic|first|assumption|omega|(simp only [xY];omega)|(simp only [xY] at*;omega))
 |_=>Lean.Macro.throwUnsupported
def mtY (n:Lean.Name) (s:List Char):mtM:=do
 match s with
 |'!'::c::_=>mtU c
 |'*'::c::_=>Lean.Macro.throwUnsupported
 |'='::r=>do
  let mut a:Array Lean.Term:=#[]
  for c in r do
   if c=='_' then a:=a.push (<-`(_))
   else
    let u<-mtU c
    a:=a.push (<-`(by $u:tactic))
  `(tactic|exact $(Lean.Syntax.mkApp (Lean.mkIdent n) a))
 |_=>do
  let r:=if s.head? ==some '+' then s.tail else s
  let mut a:Array Lean.Term:=#[]
  let mut cs:Array (Lean.TSyntax `tactic):=#[]
  for c in r do
   if c=='_' then a:=a.push (<-`(_))
   else if c.isDigit then
    for _ in List.range (c.toNat - 48) do cs:=cs.push (<-`(tactic|intro _))
   else
    let h:=Lean.mkIdent (<-Lean.Macro.addMacroScope (Lean.Name.mkSimple (if c=='k' then "k" else s!"x{a.size}")))
    a:=a.push (<-`(?$h))
    if c !='k' then
     let u<-mtU c
     cs:=cs.push (<-`(tactic|case $h:ident=>$u:tactic))
  let e:Lean.Term:=Lean.Syntax.mkApp (Lean.mkIdent n) a
  let t<-`(tactic|refine' $e)
  let t<-if s.head? ==some '+' then pure t else `(tactic|with_reducible $t:tactic)
  `(tactic|($t:tactic;$[$cs:tactic];*))
def mtTK:String:="rk:rd_var k:rd_c k:rd_cons k:rd_nil k:rd_seq k:rd_asg k:zB k:rd_nx k:rd_op k:rd_next k:rd_call k:rd_cb k:rd_tup k:rd_fld k:xB k:yP k:Wj k:rd_if k:rd_test k:rd_tB k:rd_rI0 k:rd_bm k:rd_rt k:rd_ret k:rd_for k:rd_comp k:rd_drop k:rd_lst k:Ip k:rd_make k:rd_sl k:rd_part k:rd_kPart k:rd_un k:rd_and k:rd_or k:rd_not aHrk:rd_ixTS ak:rd_strI k:rd_rev aqkr:rd_isi k:rd_jCons k:rd_fmt k:rd_methA k:rd_kBMs k:rd_addSI k:rd_eqS k:rd_neS Lk:rd_kJ Lk:rd_jNil Lk:rd_kFmtS ak:rd_kFmtI Lk:rd_addS aHHzzdDk4:rR aHHzzdk:pJ aok:rd_cell ok:rd_div2 aqk:rd_isi k:rd_noPart k:rd_iRv k:rd_true k:rd_gsub k:rd_mix aHk:rd_sumL aMk:rd_sumC k:rd_addI aHrk:rd_ixTI aHrk2:pH aHrk:YB aHrk2:xk mk:rd_mulB xk:rd_modL yk:rd_modN tk:rd_fdivL ak:rd_fdivB Tk:rd_pow k:rd_nxL k:rd_rtL aANk4:rd_kTup aANk4:rd_kLst k:rd_isbl k:rd_eqI k:rd_neI k:rd_andV k:rd_orV k:rd_notV k:rd_ifE k:rd_rU k:rd_retN aHk:rd_lenT aHk:rd_lenL aMk:rd_lenC k:rd_abs k:rd_min k:rd_max k:rd_iList k:rd_iTup k:rd_iR1 k:rd_iR2 k:rd_iEn k:rd_iZi aHk3:xA aHk4:rd_kGT3 k:rd_bm0 aMk:rd_kBM aMk:rd_kBM0 aHk4:rd_listL aMk4:rd_listC aHk4:rd_listT aHk4:rd_tupleL aMk4:rd_tupleC k:rd_par k:rd_is2 rk:rd_aug k:rd_ipI k:iteT k:iteF k:iteNF k:iteNT k:rd_nx0 k:rd_ctL k:rd_bkL k:rd_ct k:rd_bk k:rd_eqB k:rd_neB . =_:List.Mem.head +_M:List.Mem.tail . =:Has.int =:Has.bl =:Has.non =:Has.str =:Has.mm . =:ye.nil +HA:ye.cons . !a:- =a:SzQ.num =a:SzQ.den =ss:Sz.mul =ss:Sz.add' =ss:Sz.sub' =d:Sz.lit . !a:- =d:IntMulOk.of_left =d:IntMulOk.of_right =d:mulModOk =ssd:Sz.mulOk . !i:- !j:- !d:- !a:- . =_:List.Sublist.refl =_:List.nil_sublist +_u:List.Sublist.cons₂ +_u:List.Sublist.cons . =:Dats.nil +Hv:Dats.cons . !a:- =zz:SzQ.add =zz:SzQ.sub =zz:SzQ.mul =zz:SzQ.div . =:True.intro !a:- . aHHaak4:rd_gap . rk:iteSY Kk:iteSN k:rd_sortS k:rd_methB . k:uk . k:rd_methB . =:kit_tt =:kit_tl =:kit_lt =:kit_ll =:kit_it =:kit_il =:kit_ib =:kit_ii =:kit_st =:kit_sl =:kit_sb =:kit_si =:kit_ss . =r:jbd . !d:_ !o:_ . !a:_ !o:_ . =dd:And.intro . =dt:And.intro ."
def mtK (k:Nat):String:=(mtTK.splitOn " ").getD k "."
def mtN (c:Char):Nat:=if c.isDigit then c.toNat - 48 else c.toNat - 87
def mtT:String:="`apv %`bVg # #`cgB`duw`euu # #`fgg #`gpix %`hpcl !3 hr #`ips_ret #`jps_a % nd0 #`kDi _`lps_if # # #`mCA`nFq hr`orT # # # #`ppg_c %`qpe_ix ix_seq # # !1`rpe_str`sop_eqA #`tpe_tup #`urV`vpe_op op_mulB # #`wmF #`xpcf $ % & # # # #`ypgs_cons # #`zpe_op CF # #`Apg_a % nd0`Bpe_lst #`CeB qo rfl B.len IM #`Dps_expr #`Epe_op op_mod # #`Fps_for PassesOwn.never rfl # # #`Gpe_bl`Hpg_tup rfl #`Ipgs_nil`Jpe_un un_neg #`Kpo_some #`Lpe_op op_addS # #`Mpt_val #`NPW.pt #`Opscf % nd0 $ % & # # # #`PrT op_gt # # #`Qpe_op op_fdiv # #`Rpt_not #`SeB # rfl B.sum bt_sum #`Tcall_sumA rfl`Upe_op op_sub # #`Vpw_or # #`Wop_neA #`Xpe_slice sl_list # # #`Ypo_none`Zpe_bm PySem.F.plainAttrs_list PySem.F.slot_list_append PySem.F.type_list_append pT # #`0pe_op op_modN # #`1rT op_lt # # #`2gg uv`3pw_and # #`4pe_ccall rfl Yf fR fZ Zd # hr Zc Ze pass0 #`5Zf.mono !2`6pw_and1 #`7pe_op op_fdivB # #`8pe_callTy KY rfl B.tuple bt_tuple #`9pw_or1 #`+pe_op op_pow # #`-ps_while PassesOwn.never # #`*pe_methA # # hr xq pass0`/ZW.mono !2`<eB call_isi rfl B.isinstance Hy #`>pe_methA # # hr xH pass0`=YJ.mono !2`!pe_meth # W_ok.cl W_ok.me # hr yv !8 pass0 #`?yZ.mono !2`@pif_one #`#pi_tup #`$pe_fld # rfl`%pi_zip true true rfl B.zip #`&pi_zip false false rfl B.zip #`^pi_enum true rfl B.enumerate #`~pe_and # #`|pe_one #`:Ga rfl rfl B2.sorted rfl B2.set #`.eB call_absA rfl B.abs bt_abs #`,ps_fld # # rfl`;JW !5 rfl g_FIGURES rfl`_rT op_le # # #`(ps_aug !6 nd0 rfl !7 # ip_add`)eB # rfl B.min IL #`[pe_cmpR # # # #`]pi_range1 rfl B.range #`{pe_bltn !4 rfl B.int bt_int rfl`}pe_not #`αpe_bltn !4 rfl B.bool bt_bool rfl`βps_fldaug # # in_add`γpe_slice sl_tup # # #`δpe_callTy call_strI rfl B.str bt_str #`εpe_op op_rep # #`ζpi_zip false true rfl B.zip #`ηcall_minL rfl`θps_asg # #`ιpe_bltn !4 rfl B.tuple bt_tuple rfl`κeB # rfl B.max bt_max #`μcall_maxL rfl`νpe_cmpR op_lt # # #`ξpi_enum false rfl B.enumerate #`πpi_rev rfl B.reversed #`ρpe_slice sl_str # # #`σpi_str #`τrT Iu # # rfl`υrT op_in_seq # # rfl`φpe_bm PySem.F.plainAttrs_tuple PySem.F.slot_tuple_index PySem.F.type_tuple_index mt_indexT # #`χJW !5 rfl g_WORDS rfl`ψpe_make vq # hr rfl DV HM !8 pass0 #`ωHV.mono !2`Γpe_make vo # hr rfl DU HL !8 pass0 #`ΔHU.mono !2`Θpe_make qG # hr rfl uS ER !8 pass0 #`ΞEY.mono !2`Πpe_make EF # hr rfl IF IQ !8 pass0 #`ΣJa.mono !2`Φpe_make0 qD # hr rfl uP EM !8 pass0`ΨEV.mono !2`Ωpe_make0 qH # hr rfl uT ES !8 pass0`аEZ.mono !2`бpe_make0 qE # hr rfl uQ EN !8 pass0`вEW.mono !2`гpe_make0 qF # hr rfl uR EO !8 pass0`дEX.mono !2`еpe_make EE # hr rfl IE IP !8 pass0 #`жIZ.mono !2`зpe_bm PySem.F.plainAttrs_str PySem.F.slot_str_join PySem.F.type_str_join mt_join # #`иpe_bm PySem.F.plainAttrs_list PySem.F.slot_list_extend PySem.F.type_list_extend Lv # #`йpg_sub # # set_list`кpe_bm PySem.F.plainAttrs_list PySem.F.slot_list_extend PySem.F.type_list_extend mt_extend # #`лpe_methB # # hr iB pass0 #`мiW.mono !2`нps_par !6 !a rfl nd0 rfl rfl !b rfl rfl # rfl`оpe_cmpR op_gt # # #`пEt rfl`рpe_methB # # hr cZ pass0 #`сdk.mono !2`тpe_callTy Lx rfl B.list bt_list #"
def mtZ (w:String):Lean.MacroM Lean.Term:=do
 match w with
 |"_"=>`(_)
 |"!1"=>`(λ_ _=>rfl)
 |"!2"=>`(by walk_at "l")
 |"!5"=>return ⟨<-`(Lean.Parser.Term.namedArgument|(v:= .ref _))⟩
 |"!7"=>`(by walk_at "o")
 |"!8"=>`(.nil)
 |"!9"=>`(⟨_,rfl⟩)
 |"!a"=>return ⟨<-`(Lean.Parser.Term.namedArgument|(j:=1))⟩
 |"!b"=>`(by decide)
 |"!3"=>`(by assumption)
 |_=>return Lean.mkIdent w.toName
def mtG:Nat->List Char->Lean.MacroM (Lean.Term×List Char)
 |0,_=>Lean.Macro.throwUnsupported
 |_,[]=>Lean.Macro.throwUnsupported
 |k+1,c::r=>do
  let mut a:Array Lean.Term:=#[]
  let mut r:=r
  for w in ((((mtT.splitOn ("`"++c.toString)).getD 1 "").splitOn "`").head!).splitOn " " do
   if w=="#" then
    let p<-mtG k r
    a:=a.push p.1
    r:=p.2
   else if w=="%" then
    a:=a.push (Lean.quote (mtN r.head!))
    r:=r.tail!
   else if w=="$" then
    a:=a.push (Lean.quote ((String.ofList (r.takeWhile (·!=';'))).splitOn ","))
    r:=(r.dropWhile (·!=';')).tail!
   else if w=="&" then
    a:=a.push (Lean.quote ((r.takeWhile (·!=';')).map mtN))
    r:=(r.dropWhile (·!=';')).tail!
   else if w=="!4" then
    a:=a.push ⟨<-`(Lean.Parser.Term.namedArgument|(v:= .ty $(Lean.quote (String.ofList (r.takeWhile (·!=';')))):term))⟩
    r:=(r.dropWhile (·!=';')).tail!
   else if w=="!6" then
    a:=a.push ⟨<-`(Lean.Parser.Term.namedArgument|(i:=$(Lean.quote (mtN r.head!))))⟩
    r:=r.tail!
   else a:=a.push (<-mtZ w)
  return (Lean.Syntax.mkApp a[0]! (a.extract 1 a.size),r)
local macro_rules|`(tactic|walk_at $s:str)=>do
 match s.getString.toList with
 |'+'::r=>
  let i:=λs:String=>Lean.mkIdent s.toName
  `(tactic|refine $(i "F.oo") $(i (String.ofList r)) fun $(i "H") $(i "vs") $(i "Q") $(i "E") $(i "hr") $(i "nd0") $(i "h")=>?_)
 |'='::r=>
  let p<-mtG 999 r
  `(tactic|(refine ⟨_,$(p.1),mC ?_⟩;try dsimp only [kxx,kyy]))
 |_=>
  let w:=(" mem 127 has 130 hasall 136 sz 139 mul 147 mod 153 rd 0 sub 158 dats 163 szq 166 dom 172 q 186 N 200 x 202 y 205 t 208 T 210 div 208 ".splitOn (" "++s.getString++" ")).getD 1 ""
  if w=="" then Lean.Macro.throwUnsupported
  else `(tactic|first|fail $(Lean.quote ("&"++(w.splitOn " ").head!))|fail)
local macro_rules|`(tactic|fail $s:str)=>do
 match s.getString.toList with
 |'&'::r=>
  let k:=(String.ofList r).toNat! +1
  if mtK k=="." then Lean.Macro.throwUnsupported
  else `(tactic|fail $(Lean.quote ("&"++toString k)))
 |_=>Lean.Macro.throwUnsupported
local macro_rules|`(tactic|fail $s:str)=>do
 match s.getString.toList with
 |'&'::r=>
  let w:=mtK (String.ofList r).toNat!
  if w=="." then Lean.Macro.throwUnsupported
  else match w.splitOn ":" with
   |[c,n]=>mtY n.toName c.toList
   |_=>Lean.Macro.throwUnsupported
 |_=>Lean.Macro.throwUnsupported
local macro_rules|`(tactic|walk_at "n")=>`(tactic|(intro _ _ _ _ h;first|(obtain ⟨_,_,_,h,_⟩:=h;rw [<-h.len];rfl)|(obtain ⟨_,h,_⟩:=h;rw [<-h.len];rfl)|(obtain ⟨_,_,e,_⟩:=h;subst e;rfl)|(obtain ⟨_,_,_,e,_⟩:=h;subst e;rfl)|(obtain ⟨_,e,_⟩:=h;subst e;rfl)|(obtain ⟨_,_,_,_,e,_⟩:=h;subst e;rfl)|(obtain ⟨_,_,_,_,_,e,_⟩:=h;subst e;rfl)|(obtain ⟨_,_,_,_,_,_,e,_⟩:=h;subst e;rfl)))
local macro_rules|`(tactic|walk_at "walk")=>`(tactic|repeat walk_at "rd")
def Fz (K:Frg):Sp:=λvs H Q _=>∃(a:Addr) (ns:List Int),vs=[.ref a]/\SqL K H a (ns.map V.int)/\ns.length<=63/\Only H/\∀H',Q (.bl true) H'
def Vr {P:Program} {w:World} {K:Frg} {mg:Str->Option Value} {base:Heap} {f:Addr} {fd:FuncData} {k:Nat} {x:Str} {st:Stmt} {ps:List Str} {sp:Sp} (F:Fun K x x st f fd) (G:FnOk P w K mg base CX0 k f fd ps sp) (hm:mg x=some (.ref f)) (b:yG K fd ps []):Cal P w K mg base CX0 k x ps sp:=⟨f,fd,G,hm,F.kp,b⟩
section
variable {P:Program} {w:World} {K:Frg} {mg:Str->Option Value} {base:Heap} {f:Addr} {fd:FuncData}
def top (i:Nat):Stmt:=PySem.Challenge.pw_shortpurse_k41_whole_texts_and_purses.main.body.getD i (.Pass ⟨0,0,0,0⟩)
abbrev Zl:Stmt:=top 15
def Ul:FnScope ["one","two","rest"] pab (zk Zl):=xc
abbrev md:Stmt:=top 14
def BJ:FnScope ["top","bottom","divisor"] pak (zk md):=xc
def spGcd:Sp:=λvs H Q _=>∃a b:Int,vs=[.int a, .int b]/\0<=a/\0<=b/\Q (.int (Int.gcd a b:Nat)) H
def ok_gcd (F:Fun K "greatest_divisor" "greatest_divisor" Zl f fd):FnOk P w K mg base CX0 1 f fd pab spGcd:=by
 walk_at "+Ul";obtain ⟨a,b,rfl,ha,p,q⟩:=h;walk_at "=e-oWna1dkej20a0a1ej0a1fj1a2fia0";refine kX (λm σ H2=>∃(x y:Int) (v:Option V),σ=[some (.int x),some (.int y),v]/\0<=x/\0<=y/\Int.gcd x y=Int.gcd a b/\H2=H/\m=y.toNat) _ ⟨a,b,none,rfl,ha,p,rfl,rfl,rfl⟩ ?_
 rintro m σ H2 ⟨x,y,v,rfl,hx,hy,hg,rfl,rfl⟩
 left;refine rQ (λc=>?_) (λc=>?_)
 ·have c:y≠0:=by simpa using c
  left;have e:x.fmod y=x % y:=Tp x hy;have g:=jaC x c;have r:=jak x (show 0<y by omega);refine ⟨(x.fmod y).toNat,by rw [e];omega,y,x.fmod y,_,rfl,hy,by rw [e];exact g,?_,rfl,rfl⟩;rw [e,uN,hg]
 ·have c:y=0:=by simpa using c
  subst c;left;have e:x=((Int.gcd a b:Nat):Int):=by rw [<-hg,Int.gcd_zero];omega
  show Q (.int x) H2;rw [e];exact q
def CS (B:Bl mg) (t:Cal P w K mg base CX0 1 "greatest_divisor" pab spGcd) (F:Fun K "lowest" "lowest" md f fd):FnOk P w K mg base CX0 2 f fd pak XW:=by
 walk_at "+BJ";obtain ⟨G,⟨a,b⟩,s,r,⟨g,sb⟩,k⟩:=h;cases (yK (ns:=[a,b]) r);have S:Sta H G H [] []:=Sta.enter s λp hp=>absurd hp Qm;dsimp only at g sb k;walk_at "=ej2hb.ba0cb.ba1ccel1a1dkfj2Ja2mfitb7a0a2b7a1a2c";left;refine ⟨_,_,rfl,⋯,⋯,?_⟩;rw [show Int.gcd (a.natAbs:Int) (b.natAbs:Int)=Int.gcd a b by simp;rfl];have u:0<Int.gcd a b:=jby a g
 have m:Sz 8999 (Int.gcd a b:Nat):=by
  refine Sz.le sb ?_;have:=Nat.le_of_dvd ⋯ (jbT a b);omega
 left;refine yS (λc=>?_) (λc=>?_)
 ·have q:CDv a (-((Int.gcd a b:Nat):Int)):=⟨⋯,m.le ⋯⟩;left;refine YL (by assumption) k (.mem ?_);rw [show frD (Rat.divInt a b)= .tuple [.int (a.fdiv (-((Int.gcd a b:Nat):Int))), .int (b.fdiv (-((Int.gcd a b:Nat):Int)))] by unfold frD;rw [<-(Ds c).1,<-(Ds c).2]];walk_at "mem"
 ·have q:CDv a ((Int.gcd a b:Nat):Int):=⟨⋯,m⟩;left;refine YL (by assumption) k (.mem ?_);rw [show frD (Rat.divInt a b)= .tuple [.int (a.fdiv ((Int.gcd a b:Nat):Int)), .int (b.fdiv ((Int.gcd a b:Nat):Int))] by unfold frD;rw [<-(UC (show 0<b by omega)).1,<-(UC (show 0<b by omega)).2]];walk_at "mem"
abbrev BQ:Stmt:=top 8
def Jw:FnScope pab pab (zk BQ):=xc
def Kg (I:Cal P w K mg base CX0 2 "lowest" pak XW) (F:Fun K "plus" "plus" BQ f fd):FnOk P w K mg base CX0 3 f fd pab uc:=by
 walk_at "+Jw";obtain ⟨G,⟨p,q⟩,t,s,⟨⟨m,n,hp,g,u⟩,_⟩,k⟩:=h;obtain ⟨v,y,rfl,al⟩:=xG s;have S:Sta H G H [] _:=Sta.enter t al;dsimp only at hp g k S;have D:IntMulOk p.num (q.den:Int):=hp.1.mulOk g.2 ⋯;have C:IntMulOk q.num (p.den:Int):=g.1.mulOk hp.2 ⋯;have A:IntMulOk (p.den:Int) (q.den:Int):=hp.2.mulOk g.2 ⋯;have z:IntMulOk p.num q.num:=hp.1.mulOk g.1 ⋯;walk_at "=fihbzvg0g1vg1g0bvg0g1c";left;refine Va (by assumption) (xw p q) ((hp.2.mul g.2).mono u) λr H' e S=>?_;rw [EC] at S;exact YL S k .mm
abbrev rM:Stmt:=top 9
def FI:FnScope pab pab (zk rM):=xc
def Gs (I:Cal P w K mg base CX0 2 "lowest" pak XW) (F:Fun K "minus" "minus" rM f fd):FnOk P w K mg base CX0 3 f fd pab aW:=by
 walk_at "+FI";obtain ⟨G,⟨p,q⟩,t,s,⟨⟨m,n,hp,g,u⟩,_⟩,k⟩:=h;obtain ⟨v,y,rfl,al⟩:=xG s;have S:Sta H G H [] _:=Sta.enter t al;dsimp only at hp g k S;have D:IntMulOk p.num (q.den:Int):=hp.1.mulOk g.2 ⋯;have C:IntMulOk q.num (p.den:Int):=g.1.mulOk hp.2 ⋯;have A:IntMulOk (p.den:Int) (q.den:Int):=hp.2.mulOk g.2 ⋯;have z:IntMulOk p.num q.num:=hp.1.mulOk g.1 ⋯;walk_at "=fihbUvg0g1vg1g0bvg0g1c";left;refine Va (by assumption) (xw p q) ((hp.2.mul g.2).mono u) λr H' e S=>?_;rw [Bn] at S;exact YL S k .mm
abbrev rL:Stmt:=top 10
def FG:FnScope pab pab (zk rL):=xc
def Gf (I:Cal P w K mg base CX0 2 "lowest" pak XW) (F:Fun K "times" "times" rL f fd):FnOk P w K mg base CX0 3 f fd pab qY:=by
 walk_at "+FG";obtain ⟨G,⟨p,q⟩,t,s,⟨⟨m,n,hp,g,u⟩,_⟩,k⟩:=h;obtain ⟨v,y,rfl,al⟩:=xG s;have S:Sta H G H [] _:=Sta.enter t al;dsimp only at hp g k S;have D:IntMulOk p.num (q.den:Int):=hp.1.mulOk g.2 ⋯;have C:IntMulOk q.num (p.den:Int):=g.1.mulOk hp.2 ⋯;have A:IntMulOk (p.den:Int) (q.den:Int):=hp.2.mulOk g.2 ⋯;have z:IntMulOk p.num q.num:=hp.1.mulOk g.1 ⋯;walk_at "=fihbvg0g1bvg0g1c";left;refine Va (by assumption) (xw p q) ((hp.2.mul g.2).mono u) λr H' e S=>?_;rw [Dj] at S;exact YL S k .mm
abbrev BS:Stmt:=top 11
def Jx:FnScope pab pab (zk BS):=xc
def Kh (D:Cal P w K mg base CX0 2 "lowest" pak XW) (F:Fun K "over" "over" BS f fd):FnOk P w K mg base CX0 3 f fd pab Ik:=by
 walk_at "+Jx";obtain ⟨G,⟨p,q⟩,u,t,⟨⟨m,n,hp,g,y⟩,h0⟩,k⟩:=h;obtain ⟨v,z,rfl,al⟩:=xG t;have S:Sta H G H [] _:=Sta.enter u al;dsimp only at hp g k S h0;have C:IntMulOk p.num (q.den:Int):=hp.1.mulOk g.2 ⋯;have A:IntMulOk (p.den:Int) q.num:=hp.2.mulOk g.1 ⋯;have s:=Iv h0;walk_at "=elosng1dk2mfihbvg0g1bvg0g1c";left;refine yS (λc=>absurd c s) (λ_=>?_);left;refine Va (by assumption) (Int.mul_ne_zero (Int.ne_of_gt (den_pos p)) s) ((hp.2.mul g.1).mono y) λr H' e S=>?_;rw [Eh p q h0] at S;exact YL S k .mm
abbrev mw:Stmt:=top 12
def BN:FnScope pab pab (zk mw):=xc
def Df (F:Fun K "before" "before" mw f fd):FnOk P w K mg base CX0 1 f fd pab dW:=by
 walk_at "+BN";obtain ⟨⟨p,q⟩,r,⟨m,n,hp,g,y⟩,k⟩:=h;obtain ⟨v,s,rfl,al⟩:=xG r;have S:Sta H H H [] _:=Sta.enter (zP.refl _) al;dsimp only at hp g k S;have u:IntMulOk p.num (q.den:Int):=hp.1.mulOk g.2 ⋯;have t:IntMulOk q.num (p.den:Int):=g.1.mulOk hp.2 ⋯;walk_at "=fiνvg0g1vg1g0k";left;rw [show decide (p<q)=decide (p.num*(q.den:Int)<q.num*(p.den:Int)) from decide_eq_decide.mpr (Rat.lt_iff p q)] at k;exact k
abbrev Xi:Stmt:=top 37
def fJ:FnScope ["amounts","amount","low","high","middle"] paQ (zk Xi):=xc
def Kj (B:Bl mg) (T:Cal P w K mg base CX0 1 "before" pab dW) (F:Fun K "last_reached" "last_reached" Xi f fd):FnOk P w K mg base CX0 2 f fd paQ ud:=by
 walk_at "+fJ";obtain ⟨qs,e,n,M,⟨g,U,I,L,hn,s⟩,k⟩:=h;obtain ⟨G,D,rfl,al⟩:=xG M;have S:Sta H H H [] [(.list (qs.map frD),G),(frD e,D)]:=Sta.enter (zP.refl _) al;have z:n+n<=100000000:=⋯
 walk_at "=ej2dej3Cba0ce-PUa3a2dkej4Qza2a3dflMhba1bqa0a4cfj3a4fj2a4fia2";left
 refine kX (λm σ H2=>∃(low high:Nat) (C:Option V) (q:Rat),σ=[some G,some D,some (.int (low:Nat)),some (.int (high:Nat)),C]/\H2=H/\low<high/\high<=qs.length/\qs[low]? =some q/\q<=e/\(high=qs.length\/∃r,qs[high]? =some r/\e<r)/\m=high - low) (qs.length - 0) ⟨0,qs.length,none,qs[0],by
  rw [Qa];rfl,rfl,g,Qu _,Qb g,s _ (Qb g), .inl rfl,rfl⟩ ?_
 rintro m σ H2 ⟨low,high,C,q,rfl,rfl,hlh,hhn,hq,NF,Se,rfl⟩
 left;refine rQ (λc=>?_) (λc=>?_)
 ·have c:1<(high:Int) - low:=by simpa using c
  have em:((low:Int)+high) / 2=(((low+high) / 2:Nat):Int):=⋯
  have y:low<(low+high) / 2:=⋯
  have u:(low+high) / 2<high:=⋯
  left;rw [em];generalize (low+high) / 2=mid at*;have t:qs[mid]? =some (qs[mid]'⋯):=Qb _;generalize (qs[mid]'⋯)=p at*;refine xk (xs:=qs.map frD) (x:=frD p) S .mm (yt (by rw [Qh,t];rfl)) λwp O=>?_;have J:=I p (Qc t);refine pJ (m:=n) (n:=n) O .mm .mm L J z ?_;left;refine yS (λA=>?_) (λA=>?_)
  ·left;exact ⟨mid - low,⋯,low,mid,_,q,rfl,rfl,y,⋯,hq,NF, .inr ⟨p,t,A⟩,rfl⟩
  ·left;exact ⟨high - mid,⋯,mid,high,_,p,rfl,rfl,u,hhn,t,Tg.mp A,Se,rfl⟩
 ·have c:¬1<(high:Int) - low:=by simpa using c
  have N:high=low+1:=⋯
  subst N;left;exact k low q hq NF Se
abbrev Zz:Stmt:=top 33
def UX:FnScope pax pax (zk Zz):=xc
def wF (N:Cal P w K mg base CX0 3 "minus" pab aW) (O:Cal P w K mg base CX0 3 "over" pab Ik) (F:Fun K "portion_reached" "portion_reached" Zz f fd):FnOk P w K mg base CX0 4 f fd pax UR:=by
 walk_at "+UX";obtain ⟨G,⟨s',M,x⟩,r,q,⟨⟨m,n,z1,z2,g,hz⟩,p⟩,k⟩:=h;obtain ⟨v1,v2,y,rfl,al⟩:=Ye q;have S:Sta H G H [] _:=Sta.enter r al;dsimp only at z1 z2 g p k S;walk_at "=fihbhba2ba0cbhba1ba0cc";left;refine rR S .mm .mm g z1 ⋯ True.intro λD H1 L u=>?_;left;refine rR u .mm .mm z2 z1 ⋯ True.intro λC U J t=>?_;left;refine rR t .mm .mm (g.sub z1) (z2.sub z1) ⋯ (λz=>p (by grind)) λA T I s=>?_;exact YL s k .mm
abbrev Uv:Stmt:=top 34
def oQ:FnScope pav pav (zk Uv):=xc
def Dg (I:Cal P w K mg base CX0 3 "plus" pab uc) (O:Cal P w K mg base CX0 3 "minus" pab aW) (D:Cal P w K mg base CX0 3 "times" pab qY) (F:Fun K "amount_at" "amount_at" Uv f fd):FnOk P w K mg base CX0 4 f fd pav dX:=by
 walk_at "+oQ";obtain ⟨G,⟨s',N,t⟩,q,p,⟨m,n,z1,z2,g,hz⟩,k⟩:=h;obtain ⟨v1,v2,y,rfl,al⟩:=Ye p;have S:Sta H G H [] _:=Sta.enter q al;dsimp only at z1 z2 g k S;walk_at "=fihba0bhba2bhba1ba0ccc";left;refine rR S .mm .mm z2 z1 ⋯ True.intro λC H1 M u=>?_;left;refine rR u .mm .mm g (z2.sub z1) ⋯ True.intro λA U L s=>?_;left;refine rR s .mm .mm z1 (g.mul (z2.sub z1)) ⋯ True.intro λz T J r=>?_;exact YL r k .mm
abbrev Yv:Stmt:=top 32
def dv:FnScope ["start","end","purse","portion"] paU (zk Yv):=xc
def wM (B:Bl mg) (cM:Cal P w K mg base CX0 4 "portion_reached" pax UR) (tQ:Cal P w K mg base CX0 4 "amount_at" pav dX) (F:Fun K "parts_between" "parts_between" Yv f fd):FnOk P w K mg base CX0 5 f fd paU fv:=by
 walk_at "+dv";obtain ⟨G,⟨c,d,e⟩,X,O,⟨⟨m,n,z1,z2,g,hz⟩,p,N⟩,k⟩:=h;obtain ⟨v1,v2,v3,rfl,al⟩:=Ye O;have S:Sta H G H [] _:=Sta.enter X al;dsimp only at z1 z2 g p N k S;walk_at "=ej3hbg0bg1ba2cfi8bxone,two,portion;23;&bg0bg1cHyp0yp1Iuhba0ba1ba2cc";left;rename_i L S1 I Z;refine jU Z .mm .mm .mm z1.1 z2.1 g ⋯ (λz=>by rw [z] at p;exact jaP p) λr3 H3 e3 S3=>?_;have y:SzQ (m+3*n+2) ((e - c.1) / (d.1 - c.1)):=((g.sub z1.1).div (z2.1.sub z1.1)).mono ⋯;left;rename_i w4 S4 w5 r;unfold XS at k;generalize (e - c.1) / (d.1 - c.1)=t at*;refine dZ (xs:=c.2.map frD) (ys:=d.2.map frD) r .mm .mm λJ A=>?_;refine yp A (λj=>frD ((List.zipWith (xU t) c.2 d.2).getD j 0)) (ys:=(List.zipWith (xU t) c.2 d.2).map frD) ?_ r (λ_ _=>⟨.mem (by right),λ_ _ h=>h.tail, .mem (by right)⟩) (by rw [xf,Qa,Qa];omega) (λj x v B' G' Kd Kn M t1 S hd C ex s0 H0=>?_) λD H1 e1 S1=>?_
 ·rw [xf,Qa,Qa,show min c.2.length d.2.length=(List.zipWith (xU t) c.2 d.2).length by rw [QC]];exact zm frD 0 _
 ·obtain ⟨x1,x2,U,T,rfl⟩:=ZX M;obtain ⟨n1,u,rfl⟩:=zK U;obtain ⟨q,s,rfl⟩:=zK T;refine xB (xA S .mm λL I S=>?_);refine yP (zB (yP (zB (Wj ⟨rfl,?_⟩))));left;refine pK S .mm .mm .mm (z1.2 n1 (Qc u)) (z2.2 q (Qc s)) y ⋯ λr6 H6 e6 Y=>?_;refine hd Y ?_;rw [zG (n:=xU t n1 q) (by rw [Qt,u,s])];exact .mem (by right)
 left;exact YL (by assumption) k .mm
abbrev bj:Stmt:=top 25
def rF:FnScope ["path","purse","place"] ["path","purse"] (zk bj):=xc
def wH (B:Bl mg) (jI:Cal P w K mg base CX0 2 "last_reached" paQ ud) (EJ:Cal P w K mg base CX0 5 "parts_between" paU fv) (F:Fun K "parts_at" "parts_at" bj f fd):FnOk P w K mg base CX0 6 f fd ["path","purse"] US:=by
 walk_at "+rF";obtain ⟨G,⟨a,e⟩,X,U,⟨m,n,ok,t,hz,h0⟩,k⟩:=h;obtain ⟨v1,v2,rfl,al⟩:=xG U;have S:Sta H G H [] _:=Sta.enter X al;dsimp only at ok t h0 k S;have few:=ok.few
 have Om:¬e.num<0:=by
  have:=Rat.num_nonneg.mpr h0;omega
 have N:0<a.length:=jaV.mpr ok.ne;walk_at "=el1g1dk2mej2hbxcorner;1;wa0p0ug0ba1celosna2UCba0cdkfiqqa0a2dmfihbqa0a2bqa0za2dba1c";left;refine yS (λc=>absurd c Om) (λ_=>?_);left;refine zO (xs:=a.map zL) S .mm λJ L=>?_;refine yo L (λj=>frD ((λc:zg=>c.1) (a.getD j (0,[])))) (ys:=(a.map λc=>c.1).map frD) (by rw [Qa,Qr];exact zm (λc:zg=>frD c.1) (0,[]) a) S (λj x v=>λO t1 S hd=>?_) λD H1 e1 p=>?_
 ·obtain ⟨c,g,rfl⟩:=zK O;refine zB ⟨rfl,?_⟩;left;refine hd (by assumption) ?_;rw [zG g];exact .mem (by right)
 left;refine Ci (qs:=a.map λc=>c.1) (e:=e) (n:=9000) p (p.hpC (by right)) (p.hp .mm) ⟨by rw [Qa];exact N,by rw [Qa];omega,λq u=>?_,t.mono ⋯,nofun,λq u=>?_⟩ λi q T NF Pa=>?_
 ·obtain ⟨c,g,rfl⟩:=Qj.mp u;exact (ok.sz c g).1.mono ⋯
 ·obtain ⟨c,g,rfl⟩:=zK u;rw [ok.zero c g];exact h0
 obtain ⟨c,g,rfl⟩:=zK T;have z:i<a.length:=(Qd.mp g).1
 have key:=Zp (E:=e) ok.rise g NF (by
  rcases Pa with h|⟨r,s,h⟩
  ·exact Or.inl ‹h›
  ·obtain ⟨d,hd,rfl⟩:=zK s
   exact .inr ⟨d,hd,h⟩)
 left;refine yS (λy=>?_) (λy=>?_)
 ·rw [Qa] at y;rw [QG (show a.length<=i+1 by omega)] at key;left;refine xk (xs:=a.map zL) (x:=zL c) p .mm (yt (by rw [Qh,g];rfl)) λM A=>?_;left;rw [key] at k;exact YL (by assumption) k .mm
 ·rw [Qa] at y;have I:i+1<a.length:=⋯
  have hd:=Qb I;have s:=ok.rise;unfold yu at s;rw [QP] at s;have C:=s i (i+1) z I ⋯;rw [List.getElem_eq_iff z|>.mpr g] at C;generalize a[i+1]=d at*;rw [hd] at key;left;refine xk (xs:=a.map zL) (x:=zL c) p .mm (yt (by rw [Qh,g];rfl)) λM A=>?_;left;refine xk (xs:=a.map zL) (x:=zL d) A .mm (by rw [show ((i:Nat):Int)+1=((i+1:Nat):Int) by omega];exact yt (by rw [Qh,hd];rfl)) λwd Z=>?_;left;refine wo Z .mm .mm .mm (ok.sz c (Qc g)) (ok.sz d (Qc hd)) t hz C (ok.len c (Qc g)) λr4 H4 e4 Y=>?_;rw [key] at k;exact YL Y k .mm
local macro_rules|`(tactic|walk_at "rd")=>`(tactic|first|fail "&175"|fail)
abbrev Jy:Stmt:=top 31
def sc_gap:FnScope pab pab (zk Jy):=xc
abbrev Wf:Stmt:=top 30
def jd:FnScope ["ahead","corner","following","near","far","place","start","rise","whole"] paF (zk Wf):=xc
abbrev fM:Stmt:=top 24
def vU:FnScope ["corners","last"] ["corners"] (zk fM):=xc
def ok_gap (F:Fun K "gap" "gap" Jy f fd):FnOk P w K mg base CX0 1 f fd pab Jr:=by
 walk_at "+sc_gap";obtain ⟨G,⟨p,q⟩,r,m,⟨hp,g⟩,k⟩:=h;obtain ⟨v,s,rfl,al⟩:=xG m;have S:Sta H G H [] _:=Sta.enter r al;dsimp only at hp g k S;have y:IntMulOk q.num (p.den:Int):=g.1.mulOk hp.2 nofun;have u:IntMulOk p.num (q.den:Int):=hp.1.mulOk g.2 nofun;have t:IntMulOk (p.den:Int) (q.den:Int):=hp.2.mulOk g.2 nofun;walk_at "=fitbUvg1g0vg0g1bvg0g1c";left;exact YL (by assumption) k .mm
def rZ (B:Bl mg) (Mf:Cal P w K mg base CX0 1 "gap" pab Jr) (F:Fun K "is_straight" "is_straight" Wf f fd):FnOk P w K mg base CX0 2 f fd paF Jn:=by
 walk_at "+jd";obtain ⟨⟨a,b,c⟩,hA,⟨sa,sb,sc,l1,l2,l3⟩,k⟩:=h;obtain ⟨X,U,T,rfl,al⟩:=Ye hA;have S:Sta H H H [] _:=Sta.enter (zP.refl _) al;dsimp only at sa sb sc l1 l2 l3 k S;have za:=sa.1;have zb:=sb.1;have zc:=sc.1;have zn:=uO za zb;have D:=uO za zc;walk_at "=ej3hbg0bg1cej4hbg0bg2ceFξbg0cHyA5yA6Iej7hba6bqg1a5cej8hba6bqg2a5cfloWnvvvg7g3g8g4vvvg8g4g7g3kfiGmfiG";left;rename_i w1 _ w2 _ N H1 e1 S1 w3 _ w4 _ O H2 e2 S2 w5 S3;refine JM (xs:=a.2.map frD) S3 .mm λJ wk=>?_;have S4:Sta H H H2 [] [(yl a.2,w5),(Lw a.1 b.1,N),(Lw a.1 c.1,O),(zL a,X),(zL b,U),(zL c,T)]:=S3.dat ‹()›
 refine Zs wk (λi σ cs ds=>∃(M L I G:Option V),σ=[some X,some U,some T,some N,some O,M,L,I,G]/\cs=[]/\ds=[(yl a.2,w5),(Lw a.1 b.1,N),(Lw a.1 c.1,O),(zL a,X),(zL b,U),(zL c,T)]/\
  ∀(j:Nat) (x y z:Rat),j<i->a.2[j]? =some x->b.2[j]? =some y->c.2[j]? =some z->(y - x)*(c.1 - a.1)=(z - x)*(b.1 - a.1)) S4 ⟨none,none,none,none,rfl,rfl,rfl,λj x y z hj=>absurd hj (Nat.not_lt_zero _)⟩ (λi σ cs ds h=>?_) ?_ ?_
 ·obtain ⟨_,_,_,_,_,_,rfl,_⟩:=h;exact .mem (by right)
 ·rintro i x u σ H5 cs ds t ⟨M,L,I,G,rfl,rfl,rfl,inv⟩ S5
  obtain ⟨x0,MX,rfl⟩:=VH t;obtain ⟨p,hp,rfl⟩:=zK MX;have hi:i<a.2.length:=(Qd.mp hp).1;have A:b.2[i]? =some (b.2[i]'⋯):=Qb _;have C:c.2[i]? =some (c.2[i]'⋯):=Qb _;generalize (b.2[i]'⋯)=q at*;generalize (c.2[i]'⋯)=r at*;have zp:SzQ 2000 p:=sa.2 p (Qc hp);have zq:SzQ 2000 q:=sb.2 q (Qc A);have zr:SzQ 2000 r:=sc.2 r (Qc C);have m:=uO zp zq;have s:=uO zp zr;have ib:atI (b.2.map frD) ((i:Nat):Int)=some (frD q):=yt (by rw [Qh,A];rfl);have ic:atI (c.2.map frD) ((i:Nat):Int)=some (frD r):=yt (by rw [Qh,C];rfl);refine xB (xA S5 .mm λu1 u2 S6=>?_);cases S6.int1;left;rename_i u3 S7;refine pH (xs:=b.2.map frD) S7 .mm ib λu4 S8=>?_;left;rename_i vr H9 e9 S9 u5 Nn;refine pH (xs:=c.2.map frD) Nn .mm ic λu6 Nw=>?_;have m1:=m.1.mul zn.2;have m2:=m1.mul s.2;have m3:=s.1.mul D.2;have m4:=m3.mul m.2;have o1:=m.1.mulOk zn.2 nofun;have o2:=m1.mulOk s.2 nofun;have o3:=m2.mulOk D.1 nofun;have o4:=s.1.mulOk D.2 nofun;have o5:=m3.mulOk m.2 nofun;have o6:=m4.mulOk zn.1 nofun;left
  have cr:=Em (rn:=q.num*(p.den:Int) - p.num*(q.den:Int)) (rd:=(p.den:Int)*(q.den:Int)) (nn:=b.1.num*(a.1.den:Int) - a.1.num*(b.1.den:Int)) (nd:=(a.1.den:Int)*(b.1.den:Int))
   (wn:=r.num*(p.den:Int) - p.num*(r.den:Int)) (wd:=(p.den:Int)*(r.den:Int)) (fn:=c.1.num*(a.1.den:Int) - a.1.num*(c.1.den:Int)) (fd:=(a.1.den:Int)*(c.1.den:Int)) (xw _ _) (xw _ _) (xw _ _) (xw _ _)
  rw [ni,ni,ni,ni] at cr;refine IC (λz=>?_) (λz=>?_)
  ·left;have MR:¬zR a b c:=λst=>z (cr.mp (st i _ _ _ hp A C));rw [show (@decide (zR a b c) (Classical.propDecidable _))=false from @decide_eq_false _ (Classical.propDecidable _) MR] at k;exact vX (by assumption) k
  ·left;rename_i vw PD SD Ni;refine YM (Ni.dat ‹()›) ⟨_,_,_,_,rfl,rfl,rfl,λj x y z' hj Z NV g=>?_⟩
   by_cases Y:j<i
   ·exact inv j x y z' Y Z NV g
   ·have:j=i:=⋯
    subst this;rw [hp] at Z;rw [A] at NV;rw [C] at g;cases Z;cases NV;cases g;exact cr.mpr z
 ·rintro σ H5 cs ds ⟨M,L,I,G,rfl,rfl,rfl,inv⟩ S5
  left
  have MR:zR a b c:=λi x y z t hy hz=>inv i x y z (by
   have:=(Qd.mp t).1
   rw [xV,Qa];exact this) t hy hz
  rw [show (@decide (zR a b c) (Classical.propDecidable _))=true from @decide_eq_true _ (Classical.propDecidable _) MR] at k;exact vX S5 k
def wA (B:Bl mg) (HY:Cal P w K mg base CX0 2 "is_straight" paF Jn) (F:Fun K "thinned" "thinned" fM f fd):FnOk P w K mg base CX0 3 f fd ["corners"] fj:=by
 walk_at "+vU";obtain ⟨G,a,eG,hA,⟨m,ok⟩,k⟩:=h;obtain ⟨v0,rfl,al⟩:=YF hA;have S:Sta H G H [] _:=Sta.enter eG al;have few:=ok.few;walk_at "=ej1UCba0cdfixplace,corner,corners,last;201;^ba0cHyp0yp1I@NVosna0dkVosna0a3k9RMhbqa2Ua0dba1bqa2za0dca1";left;refine mD (xs:=a.map zL) S .mm λJ wk=>?_;refine cc wk (λj=>if YE a j then (a[j]?).map zL else none) S (λ_ _=> .mem (by right)) (by rw [xV,Qa];omega) (λi x v B' Z Kd Kn t t1 S hd hn C ex s0 H0=>?_) λD H1 e1 Y=>?_
 ·obtain ⟨x0,MX,rfl⟩:=VH t;obtain ⟨c,r,rfl⟩:=zK MX;have hi:i<a.length:=(Qd.mp r).1;refine xB (xA S .mm λu1 T u=>?_);cases u.int1;refine yP (zB (yP (zB (Wj ⟨rfl,?_⟩))));rw [r] at hd hn;have yes:YE a i=true->∀{g:Hp} {cs':yq} {ds':Dat},Sta B' Z g cs' ds'->Has ds' (zL c) T->Kd T g:=λhk {g cs' ds'} p h5=>hd (by rw [hk];rfl) p h5;have no:YE a i=false->∀{g:Hp} {cs':yq} {ds':Dat},Sta B' Z g cs' ds'->Kn g:=λhk {g cs' ds'} p=>hn (by rw [hk];rfl) p;left;refine yS (λc0=>?_) (λc0=>?_)
  ·left;exact yes (Xx (.inl ⋯)) u .mm
  ·left;refine yS (λL=>?_) (λL=>?_)
   ·left;rw [Qa] at L;exact yes (Xx (.inr (.inl ⋯))) u .mm
   ·rw [Qa] at L;have h0:i - 1<a.length:=⋯
    have X:i+1<a.length:=⋯
    have A:=Qb h0;have g2:=Qb X;have s:=Ta h0;have N:=Ta X;generalize a[i - 1]=M at*;generalize a[i+1]=I at*;have O:=Qc r;left;refine xk (xs:=a.map zL) (x:=zL M) u .mm (IS ⋯ (by rw [show ((i:Int) - 1).toNat=i - 1 by omega,Qh,A];rfl)) λu3 S3=>?_;left;refine xk (xs:=a.map zL) (x:=zL I) S3 .mm (IS ⋯ (by rw [show ((i:Int)+1).toNat=i+1 by omega,Qh,g2];rfl)) λu4 S4=>?_;left;refine rd_str S4 .mm .mm .mm (ok.sz _ s) (ok.sz _ O) (ok.sz _ N) (by rw [ok.len _ O,ok.len _ s]) (by rw [ok.len _ N,ok.len _ s]) (by rw [ok.len _ s];exact ok.m) λg p=>?_;left;refine @IC _ _ _ (_) (λz=>?_) (λz=>?_)
    ·left;exact yes (Xx (.inr (.inr λq=>z (q _ _ _ A r g2)))) p .mm
    ·refine no ?_ p;refine kr ?_
     rintro (q|q|q)
     ·omega
     ·omega
     ·refine q λx y z' t U hz=>?_;rw [A] at t;rw [r] at U;rw [g2] at hz;cases t;cases U;cases hz;exact z
 ·left;rw [xV,Qa,Ac] at Y;exact xK Y k
abbrev Uo:Stmt:=top 35
def oH:FnScope paj paj (zk Uo):=xc
def pQ (B:Bl mg) (Y:Cal P w K mg base CX0 3 "plus" pab uc) (F:Fun K "plus_each" "plus_each" Uo f fd):FnOk P w K mg base CX0 4 f fd paj (oA λp q=>p+q):=by
 walk_at "+oH";obtain ⟨G,⟨p,q⟩,L,z,⟨s1,s2,y⟩,k⟩:=h;obtain ⟨v,X,rfl,al⟩:=xG z;have S:Sta H G H [] _:=Sta.enter L al;dsimp only at s1 s2 y k S;walk_at "=fi8bxone,two;2;&ba0ba1cHyp0yp1Iuhba0ba1cc";left;refine dZ (xs:=p.map frD) (ys:=q.map frD) S .mm .mm λJ t=>?_;refine yp t (λj=>frD ((List.zipWith (λp q=>p+q) p q).getD j 0)) (ys:=(List.zipWith (λp q=>p+q) p q).map frD) ?_ S (λ_ _=>⟨.mem (by right),λ_ _ h=>h.tail, .mem (by right)⟩) (by rw [xf,Qa,Qa];omega) (λj x v B' G' Kd Kn u t1 S hd C ex s0 H0=>?_) λD H1 e1 S1=>?_
 ·rw [xf,Qa,Qa,show min p.length q.length=(List.zipWith (λp q=>p+q) p q).length by rw [QC]];exact zm frD 0 _
 ·obtain ⟨O,N,I,A,rfl⟩:=ZX u;obtain ⟨n1,s,rfl⟩:=zK I;obtain ⟨g,m,rfl⟩:=zK A;have z1:=s1 n1 (Qc s);have z2:=s2 g (Qc m);refine xB (xA S .mm λU T S=>?_);refine yP (zB (yP (zB (Wj ⟨rfl,?_⟩))));left;rename_i r H2 Z M;refine hd M ?_;rw [zG (n:=n1+g) (by rw [Qt,s,m])];exact .mem (by right)
 left;exact YL (by assumption) k .mm
abbrev Up:Stmt:=top 36
def oI:FnScope paj paj (zk Up):=xc
def pR (B:Bl mg) (Xp:Cal P w K mg base CX0 3 "minus" pab aW) (F:Fun K "less_each" "less_each" Up f fd):FnOk P w K mg base CX0 4 f fd paj (oA λp q=>p - q):=by
 walk_at "+oI";obtain ⟨G,⟨p,q⟩,L,z,⟨s1,s2,y⟩,k⟩:=h;obtain ⟨v,X,rfl,al⟩:=xG z;have S:Sta H G H [] _:=Sta.enter L al;dsimp only at s1 s2 y k S;walk_at "=fi8bxone,two;2;&ba0ba1cHyp0yp1Iuhba0ba1cc";left;refine dZ (xs:=p.map frD) (ys:=q.map frD) S .mm .mm λJ t=>?_;refine yp t (λj=>frD ((List.zipWith (λp q=>p - q) p q).getD j 0)) (ys:=(List.zipWith (λp q=>p - q) p q).map frD) ?_ S (λ_ _=>⟨.mem (by right),λ_ _ h=>h.tail, .mem (by right)⟩) (by rw [xf,Qa,Qa];omega) (λj x v B' G' Kd Kn u t1 S hd C ex s0 H0=>?_) λD H1 Z S1=>?_
 ·rw [xf,Qa,Qa,show min p.length q.length=(List.zipWith (λp q=>p - q) p q).length by rw [QC]];exact zm frD 0 _
 ·obtain ⟨O,N,I,A,rfl⟩:=ZX u;obtain ⟨n1,s,rfl⟩:=zK I;obtain ⟨g,m,rfl⟩:=zK A;have z1:=s1 n1 (Qc s);have z2:=s2 g (Qc m);refine xB (xA S .mm λU T S=>?_);refine yP (zB (yP (zB (Wj ⟨rfl,?_⟩))));left;rename_i r H2 Y M;refine hd M ?_;rw [zG (n:=n1 - g) (by rw [Qt,s,m])];exact .mem (by right)
 left;exact YL (by assumption) k .mm
abbrev lU:Stmt:=top 26
def BE:FnScope ["path","end"] ["path"] (zk lU):=xc
def CH (B:Bl mg) (Z:Cal P w K mg base CX0 3 "minus" pab aW) (Lm:Cal P w K mg base CX0 4 "less_each" paj (oA λp q=>p - q)) (F:Fun K "turned" "turned" lU f fd):FnOk P w K mg base CX0 5 f fd ["path"] dU:=by
 walk_at "+BE";obtain ⟨G,a,M,L,ok,k⟩:=h;obtain ⟨v0,rfl,al⟩:=YF L;have S:Sta H G H [] _:=Sta.enter M al;have few:=ok.few;obtain ⟨T,y⟩:=ok.last;have g:=ok.sz _ y;have z:=g.1;walk_at "=ej1qa0Jdfixcorner,end;11;πba0cp0utbhbg1bg0cbhbg1bg0cc";left;refine xk (xs:=a.map zL) (x:=zL (lastC a)) S .mm (vj (by rw [jaH,T];rfl)) λU u=>?_;left;refine JL (xs:=a.map zL) u .mm λJ I=>?_;refine yp I (λj=>zL (Ug (lastC a) (a.reverse.getD j (0,[])))) (ys:=(yx a).map zL) ?_ u (λ_ _=> .mem (by right)) (by rw [Tv,Qa];omega) (λj x v B' G' Kd Kn s t1 S hd C ex s0 H0=>?_) λD H2 Y O=>?_
 ·unfold yx;rw [Qr,Tv,Qa,<-Tv];exact zm (λc=>zL (Ug (lastC a) c)) (0,[]) _
 ·rw [<-List.map_reverse] at s;obtain ⟨c,t,rfl⟩:=zK s;have N:c∈a:=jbL.mp (Qc t);have m:=ok.sz c N;have A:=m.1;refine zB ⟨rfl,?_⟩;left;refine Cr (p:=(lastC a).2) (q:=c.2) (by assumption) .mm .mm g.2 m.2 (ok.len _ y) λr H3 X S3=>?_;left;refine hd (by assumption) ?_;rw [zG t];exact .mem (by right)
 exact xK O k
abbrev lX:Stmt:=top 27
def BH:FnScope paV paV (zk lX):=xc
def CL (B:Bl mg) (nR:Cal P w K mg base CX0 3 "times" pab qY) (F:Fun K "scaled" "scaled" lX f fd):FnOk P w K mg base CX0 4 f fd paV lD:=by
 walk_at "+BH";obtain ⟨G,⟨a,p⟩,L,I,⟨ok,t⟩,k⟩:=h;obtain ⟨v0,vp,rfl,al⟩:=xG I;have S:Sta H G H [] _:=Sta.enter L al;dsimp only at ok t k S;have few:=ok.few;walk_at "=fixcorner,portion;11;wa0p0utbhbg0ba1cb8bxpart,portion;11;#g0p0uhba0ba1ccc";left;refine zO (xs:=a.map zL) S .mm λJ z=>?_;refine yo z (λj=>zL ((λc:zg=>(c.1*p,c.2.map (·*p))) (a.getD j (0,[])))) (ys:=(zS p a).map zL) ?_ S (λj x v=>λA t1 S hd=>?_) λD H2 e2 s=>?_
 ·unfold zS;rw [Qr,Qa];exact zm (λc=>zL ((λc:zg=>(c.1*p,c.2.map (·*p))) c)) (0,[]) _
 ·obtain ⟨c,g,rfl⟩:=zK A;have m:=ok.sz c (Qc g);have u:=m.1;have lc:=ok.len c (Qc g);refine zB ⟨rfl,?_⟩;left;rename_i Z S1 r1 H1 e1 s Y r;refine fW (xs:=c.2.map frD) r .mm λJ2 O=>?_;refine yp O (λj=>frD (c.2.getD j 0*p)) (ys:=(c.2.map (·*p)).map frD) (by rw [Qa,Qr];exact zm (λx=>frD (x*p)) 0 c.2) r (λ_ _=> .mem (by right)) (by rw [Qa];exact lc) (λj x v B' G' U T N t2 S hd2 C ex s0 H0=>?_) λD2 H4 e4 S4=>?_
  ·obtain ⟨y,q,rfl⟩:=zK N;have X:=m.2 y (Qc q);refine zB ⟨rfl,?_⟩;left;rename_i r5 H5 e5 M;refine hd2 M ?_;rw [zG q];exact .mem (by right)
  left;refine hd (by assumption) ?_;rw [zG g];exact .mem (by right)
 exact xK s k
abbrev mr:Stmt:=top 28
def BM:FnScope ["path","second","end","moved"] paN (zk mr):=xc
def Dd (B:Bl mg) (kR:Cal P w K mg base CX0 3 "plus" pab uc) (Ll:Cal P w K mg base CX0 4 "plus_each" paj (oA λp q=>p+q)) (qM:Cal P w K mg base CX0 3 "thinned" ["corners"] fj) (F:Fun K "behind" "behind" mr f fd):FnOk P w K mg base CX0 5 f fd paN UT:=by
 walk_at "+BM";obtain ⟨G,⟨a,b⟩,eG,Y,⟨ok,s,m,L⟩,k⟩:=h;obtain ⟨v0,v1,rfl,al⟩:=xG Y;have S:Sta H G H [] _:=Sta.enter eG al;dsimp only at ok s L k S;have few:=ok.few;have A:=s.few;obtain ⟨MU,M⟩:=ok.last;have u:=ok.sz _ M;have N:=u.1;walk_at "=ej2qa0JdeO3corner,end;12;wXa1KdYp0utbhbg1bg0cbhbg1bg0ccfihbza0a3c";left;refine xk (xs:=a.map zL) (x:=zL (lastC a)) S .mm (vj (by rw [jaH,MU];rfl)) λve S1=>?_;left;refine pB (xs:=b.map zL) S1 .mm λl2 H2 e2 t=>?_
 have Z:nA (b.map zL) (some 1) none=b.tail.map zL:=by
  unfold nA;rw [HT.sIx_none,show (some (1:Int))=some ((1:Nat):Int) from rfl,HT.sIx_nat,Qa];have X:1<=b.length:=jaV.mpr s.ne;rw [Nat.min_eq_left X,Tw (by rw [To,Qa];exact Qu _),<-List.map_drop,List.drop_one]
 rw [Z] at t;refine Cm (xs:=b.tail.map zL) t (by right) λJ T=>?_;refine yp T (λj=>zL (VS (lastC a) (b.tail.getD j (0,[])))) (ys:=(yJ a b).map zL) ?_ t (λ_ _=>Qf _ (by right)) (by rw [Qa,jaO];omega) (λj x v B' G' Kd Kn U t1 S hd C ex s0 H0=>?_) λD H3 e3 g=>?_
 ·unfold yJ;rw [Qr,Qa];exact zm (λc=>zL (VS (lastC a) c)) (0,[]) _
 ·obtain ⟨c,z,rfl⟩:=zK U;have cm:c∈b:=TV (Qc z);have y:=s.sz c cm;have O:=y.1;refine zB ⟨rfl,?_⟩;left;refine Cr (p:=(lastC a).2) (q:=c.2) (by assumption) .mm .mm u.2 y.2 (ok.len _ M) λr H3 e3 g=>?_;left;refine hd (by assumption) ?_;rw [zG z];exact .mem (by right)
 left;obtain ⟨pa,rfl⟩:=g.refL (xs:=a.map zL) (v:=v0) .mm
 refine Zn g (g.vwL (xs:=a.map zL) .mm) (g.vwC (by right)) (by
  rw [Qa,Qa];unfold yJ
  rw [Qa,jaO];omega) λp4 H4 e4 I=>?_
 rw [<-QM] at I;have S5:=I.freeze;left;refine wa (a:=a++yJ a b) S5 .mm L λp6 H6 e6 S6=>?_;exact xK (S6.weak (cs':=[_]) (by walk_at "sub") Dats.nil) k
section
variable {fS fT Ru:Addr} {A:RAd}
noncomputable abbrev Yy:Stmt:=xP (top 54) 0
def Wx:FnScope pae pae (zk Yy):=xc
def Gj (F:Fun K "__init__" "Rule.__init__" Yy f fd):FnOk P w K mg base CX0 1 f fd pae (Xd K fS fT Ru):=by
 refine F.ok Wx (λvs H Q E h=>?_) (λy A outer s H vs Q E hr h=>?_)
 ·obtain ⟨C,ok,G,d,x,m,us,rfl,_,_,_,g,_⟩:=h;rw [Qy,<-g.len];rfl
 obtain ⟨C,ok,G,d,x,m,us,rfl,u,t,q,g,k⟩:=h;obtain ⟨v,rfl,al⟩:=YF g;have nd0:=Wx.nd;walk_at "=f,a0a1";refine ⟨v,rfl, .ref x,rfl,x,C,m,[],rfl,q,ok.cl,ok.na,nofun,?_⟩;refine k _ G v (λp o hp r=>by rw [ya hp];exact r) (zP.refl _) (λp o hp=>?_) (λ_ _=>rfl) ?_ (al _ (Qq.mpr rfl))
 ·rw [ya (yc hp t)];exact u p o hp
 ·rw [yf];rfl
noncomputable abbrev WX:Stmt:=xP (top 54) 1
def lR:FnScope pac pac (zk WX):=xc
def Gh (q:∀r:Rl,ROk K fS fT Ru (A.cls r)) (F:Fun K "shape" "Rule.shape" WX f fd):FnOk P w K mg base CX0 1 f fd pac (aU A):=by
 walk_at "+lR";obtain ⟨G,r,m,g,_,k⟩:=h;obtain ⟨v,rfl,al⟩:=YF g;have S:Sta H G H [] _:=Sta.enter m al;walk_at "=fi$a0";refine rd_ret (rd_fld ?_);left;refine Cn S .mm (q r) λw p=>?_;exact YL p k .mm
noncomputable abbrev ZD:Stmt:=xP (top 55) 0
def YO:FnScope pac pac (zk ZD):=xc
def jf (Yf:mg "Rule"=some (.ref Ru)) (fR:PySem.W.specialIn K (.ref Ru) "__getattribute__"=some (some (.builtin "type.__getattribute__"))) (fZ:PySem.W.readsIn K Ru (.type "type")=true) {m:Addr} {q:FuncData} (Zd:PySem.W.findCls K (.ref Ru) (.type "type") "__init__"=some (.val (.ref m))) (Zf:FnOk P w K mg base CX0 1 m q pae (Xd K fS fT Ru)) (Zc:PySem.W.keepIn K (.ref m)=true) (Ze:yG K q pae []) (ok:ROk K fS fT Ru (A.cls .shares)) (F:Fun K "__init__" "Shares.__init__" ZD f fd):FnOk P w K mg base CX0 2 f fd pac (yH (A.cls .shares) (α:=Unit) (λ_=>[]) (λ_=>Rl.shares.shape)):=by
 refine F.ok YO (λvs H Q E h=>?_) (λN A outer s H vs Q E hr h=>?_)
 ·obtain ⟨G,d,x,L,us,rfl,_,_,_,g,_⟩:=h;rw [Qy,<-g.len];rfl
 obtain ⟨G,d,x,L,us,rfl,J,I,r,g,k⟩:=h;rw [zJ] at g;subst g;have S:Sta H G H [] []:=Sta.enter J λp hp=>absurd hp Qm;have nd0:=YO.nd;walk_at "=fD45ba0btbrcc";left;refine YU (d:=Rl.shares.shape) (by assumption) I r ok .mm λH' M w D C z y u t=>?_;exact k H' M w D C z y u t
noncomputable abbrev ZH:Stmt:=xP (top 56) 0
def YT:FnScope pac pac (zk ZH):=xc
def jk (Yf:mg "Rule"=some (.ref Ru)) (fR:PySem.W.specialIn K (.ref Ru) "__getattribute__"=some (some (.builtin "type.__getattribute__"))) (fZ:PySem.W.readsIn K Ru (.type "type")=true) {m:Addr} {q:FuncData} (Zd:PySem.W.findCls K (.ref Ru) (.type "type") "__init__"=some (.val (.ref m))) (Zf:FnOk P w K mg base CX0 1 m q pae (Xd K fS fT Ru)) (Zc:PySem.W.keepIn K (.ref m)=true) (Ze:yG K q pae []) (ok:ROk K fS fT Ru (A.cls .evenly)) (F:Fun K "__init__" "Evenly.__init__" ZH f fd):FnOk P w K mg base CX0 2 f fd pac (yH (A.cls .evenly) (α:=Unit) (λ_=>[]) (λ_=>Rl.evenly.shape)):=by
 refine F.ok YT (λvs H Q E h=>?_) (λN A outer s H vs Q E hr h=>?_)
 ·obtain ⟨G,d,x,L,us,rfl,_,_,_,g,_⟩:=h;rw [Qy,<-g.len];rfl
 obtain ⟨G,d,x,L,us,rfl,J,I,r,g,k⟩:=h;rw [zJ] at g;subst g;have S:Sta H G H [] []:=Sta.enter J λp hp=>absurd hp Qm;have nd0:=YT.nd;walk_at "=fD45ba0btbrcc";left;refine YU (d:=Rl.evenly.shape) (by assumption) I r ok .mm λH' M w D C z y u t=>?_;exact k H' M w D C z y u t
noncomputable abbrev ZE:Stmt:=xP (top 57) 0
def YQ:FnScope pac pac (zk ZE):=xc
def jg (Yf:mg "Rule"=some (.ref Ru)) (fR:PySem.W.specialIn K (.ref Ru) "__getattribute__"=some (some (.builtin "type.__getattribute__"))) (fZ:PySem.W.readsIn K Ru (.type "type")=true) {m:Addr} {q:FuncData} (Zd:PySem.W.findCls K (.ref Ru) (.type "type") "__init__"=some (.val (.ref m))) (Zf:FnOk P w K mg base CX0 1 m q pae (Xd K fS fT Ru)) (Zc:PySem.W.keepIn K (.ref m)=true) (Ze:yG K q pae []) (ok:ROk K fS fT Ru (A.cls .losses)) (F:Fun K "__init__" "Losses.__init__" ZE f fd):FnOk P w K mg base CX0 2 f fd pac (yH (A.cls .losses) (α:=Unit) (λ_=>[]) (λ_=>Rl.losses.shape)):=by
 refine F.ok YQ (λvs H Q E h=>?_) (λN A outer s H vs Q E hr h=>?_)
 ·obtain ⟨G,d,x,L,us,rfl,_,_,_,g,_⟩:=h;rw [Qy,<-g.len];rfl
 obtain ⟨G,d,x,L,us,rfl,J,I,r,g,k⟩:=h;rw [zJ] at g;subst g;have S:Sta H G H [] []:=Sta.enter J λp hp=>absurd hp Qm;have nd0:=YQ.nd;walk_at "=fD45ba0btbrcc";left;refine YU (d:=Rl.losses.shape) (by assumption) I r ok .mm λH' M w D C z y u t=>?_;exact k H' M w D C z y u t
noncomputable abbrev ZF:Stmt:=xP (top 58) 0
def YR:FnScope pac pac (zk ZF):=xc
def jh (Yf:mg "Rule"=some (.ref Ru)) (fR:PySem.W.specialIn K (.ref Ru) "__getattribute__"=some (some (.builtin "type.__getattribute__"))) (fZ:PySem.W.readsIn K Ru (.type "type")=true) {m:Addr} {q:FuncData} (Zd:PySem.W.findCls K (.ref Ru) (.type "type") "__init__"=some (.val (.ref m))) (Zf:FnOk P w K mg base CX0 1 m q pae (Xd K fS fT Ru)) (Zc:PySem.W.keepIn K (.ref m)=true) (Ze:yG K q pae []) (ok:ROk K fS fT Ru (A.cls .halves)) (F:Fun K "__init__" "Halves.__init__" ZF f fd):FnOk P w K mg base CX0 2 f fd pac (yH (A.cls .halves) (α:=Unit) (λ_=>[]) (λ_=>Rl.halves.shape)):=by
 refine F.ok YR (λvs H Q E h=>?_) (λN A outer s H vs Q E hr h=>?_)
 ·obtain ⟨G,d,x,L,us,rfl,_,_,_,g,_⟩:=h;rw [Qy,<-g.len];rfl
 obtain ⟨G,d,x,L,us,rfl,J,I,r,g,k⟩:=h;rw [zJ] at g;subst g;have S:Sta H G H [] []:=Sta.enter J λp hp=>absurd hp Qm;have nd0:=YR.nd;walk_at "=fD45ba0btbrcc";left;refine YU (d:=Rl.halves.shape) (by assumption) I r ok .mm λH' M w D C z y u t=>?_;exact k H' M w D C z y u t
noncomputable abbrev Ya:Stmt:=xP (top 59) 0
def Xv:FnScope pah pah (zk Ya):=xc
def mJ (Yf:mg "Rule"=some (.ref Ru)) (fR:PySem.W.specialIn K (.ref Ru) "__getattribute__"=some (some (.builtin "type.__getattribute__"))) (fZ:PySem.W.readsIn K Ru (.type "type")=true) {p:Addr} {q:FuncData} (Zd:PySem.W.findCls K (.ref Ru) (.type "type") "__init__"=some (.val (.ref p))) (Zf:FnOk P w K mg base CX0 1 p q pae (Xd K fS fT Ru)) (Zc:PySem.W.keepIn K (.ref p)=true) (Ze:yG K q pae []) {g:FuncData} (ZW:FnOk P w K mg base CX0 1 fS g pac (aU A)) (xq:yG K g pac []) (t:∀r:Rl,ROk K fS fT Ru (A.cls r)) (F:Fun K "__init__" "Other.__init__" Ya f fd):FnOk P w K mg base CX0 2 f fd pah (yH (A.cls (.other .shares)) (α:=Rl) (λr=>[r.ins A]) (λr=>(Rl.other r).shape)):=by
 refine F.ok Xv (λvs H Q E h=>?_) (λY Z outer s H vs Q E hr h=>?_)
 ·obtain ⟨G,d,x,N,us,rfl,_,_,_,m,_⟩:=h;rw [Qy,<-m.len];rfl
 obtain ⟨G,r,x,N,us,rfl,M,L,u,m,k⟩:=h;obtain ⟨v,rfl,al⟩:=YF m;have S:Sta H G H [] _:=Sta.enter M al;have nd0:=Xv.nd;walk_at "=fD45ba0btbrb*a1/cc";left;refine jX S .mm (t r) ?_;refine VC S .mm λT H1 U X=>?_;left;refine YU (d:=(Rl.other r).shape) (by assumption) L u (t (.other .shares)) .mm λH' O w J I D C z y=>?_;exact k H' O w J I D C z y
noncomputable abbrev ZZ:Stmt:=xP (top 60) 0
def Xu:FnScope pah pah (zk ZZ):=xc
def mH (Yf:mg "Rule"=some (.ref Ru)) (fR:PySem.W.specialIn K (.ref Ru) "__getattribute__"=some (some (.builtin "type.__getattribute__"))) (fZ:PySem.W.readsIn K Ru (.type "type")=true) {p:Addr} {q:FuncData} (Zd:PySem.W.findCls K (.ref Ru) (.type "type") "__init__"=some (.val (.ref p))) (Zf:FnOk P w K mg base CX0 1 p q pae (Xd K fS fT Ru)) (Zc:PySem.W.keepIn K (.ref p)=true) (Ze:yG K q pae []) {g:FuncData} (ZW:FnOk P w K mg base CX0 1 fS g pac (aU A)) (xq:yG K g pac []) (t:∀r:Rl,ROk K fS fT Ru (A.cls r)) (F:Fun K "__init__" "Ranks.__init__" ZZ f fd):FnOk P w K mg base CX0 2 f fd pah (yH (A.cls (.ranks .shares)) (α:=Rl) (λr=>[r.ins A]) (λr=>(Rl.ranks r).shape)):=by
 refine F.ok Xu (λvs H Q E h=>?_) (λY Z outer s H vs Q E hr h=>?_)
 ·obtain ⟨G,d,x,N,us,rfl,_,_,_,m,_⟩:=h;rw [Qy,<-m.len];rfl
 obtain ⟨G,r,x,N,us,rfl,M,L,u,m,k⟩:=h;obtain ⟨v,rfl,al⟩:=YF m;have S:Sta H G H [] _:=Sta.enter M al;have nd0:=Xu.nd;walk_at "=fD45ba0btbrb*a1/cc";left;refine jX S .mm (t r) ?_;refine VC S .mm λT H1 U X=>?_;left;refine YU (d:=(Rl.ranks r).shape) (by assumption) L u (t (.ranks .shares)) .mm λH' O w J I D C z y=>?_;exact k H' O w J I D C z y
noncomputable abbrev ZG:Stmt:=xP (top 61) 0
def YS:FnScope paq paq (zk ZG):=xc
def ji (Yf:mg "Rule"=some (.ref Ru)) (fR:PySem.W.specialIn K (.ref Ru) "__getattribute__"=some (some (.builtin "type.__getattribute__"))) (fZ:PySem.W.readsIn K Ru (.type "type")=true) {p:Addr} {y:FuncData} (Zd:PySem.W.findCls K (.ref Ru) (.type "type") "__init__"=some (.val (.ref p))) (Zf:FnOk P w K mg base CX0 1 p y pae (Xd K fS fT Ru)) (Zc:PySem.W.keepIn K (.ref p)=true) (Ze:yG K y pae []) {g:FuncData} (ZW:FnOk P w K mg base CX0 1 fS g pac (aU A)) (xq:yG K g pac []) (q:∀r:Rl,ROk K fS fT Ru (A.cls r)) (F:Fun K "__init__" "Groups.__init__" ZG f fd):FnOk P w K mg base CX0 2 f fd paq (yH (A.cls (.groups .shares .shares)) (α:=Rl×Rl) (λr=>[r.1.ins A,r.2.ins A]) (λr=>(Rl.groups r.1 r.2).shape)):=by
 refine F.ok YS (λvs H Q E h=>?_) (λMH A' outer s H vs Q E hr h=>?_)
 ·obtain ⟨G,d,x,T,us,rfl,_,_,_,m,_⟩:=h;rw [Qy,<-m.len];rfl
 obtain ⟨G,⟨r,t⟩,x,T,us,rfl,O,N,z,m,k⟩:=h;obtain ⟨v,v2,rfl,al⟩:=xG m;have S:Sta H G H [] _:=Sta.enter O al;dsimp only at k S;have nd0:=YS.nd;walk_at "=fD45ba0btbrb*a1/b*a2/cc";left;refine jX S .mm (q r) ?_;refine VC S .mm λY H1 e1 u=>?_;left;refine jX u .mm (q t) ?_;refine VC u .mm λX H2 Z S2=>?_;left;refine YU (d:=(Rl.groups r t).shape) (by assumption) N z (q (.groups .shares .shares)) .mm λH' U w M L J I D C=>?_;exact k H' U w M L J I D C
noncomputable abbrev Yx:Stmt:=xP (top 62) 0
def Ww:FnScope pag pag (zk Yx):=xc
def pS (Yf:mg "Rule"=some (.ref Ru)) (fR:PySem.W.specialIn K (.ref Ru) "__getattribute__"=some (some (.builtin "type.__getattribute__"))) (fZ:PySem.W.readsIn K Ru (.type "type")=true) {p:Addr} {z:FuncData} (Zd:PySem.W.findCls K (.ref Ru) (.type "type") "__init__"=some (.val (.ref p))) (Zf:FnOk P w K mg base CX0 1 p z pae (Xd K fS fT Ru)) (Zc:PySem.W.keepIn K (.ref p)=true) (Ze:yG K z pae []) {g:FuncData} (ZW:FnOk P w K mg base CX0 1 fS g pac (aU A)) (xq:yG K g pac []) (q:∀r:Rl,ROk K fS fT Ru (A.cls r)) (F:Fun K "__init__" "Upto.__init__" Yx f fd):FnOk P w K mg base CX0 2 f fd pag (yH (A.cls (.upto 0 0 .shares .shares)) (α:=(Int×Int)×Rl×Rl) (λr=>[.tuple [.int r.1.1, .int r.1.2],r.2.1.ins A,r.2.2.ins A]) (λr=>(Rl.upto r.1.1 r.1.2 r.2.1 r.2.2).shape)):=by
 refine F.ok Ww (λvs H Q E h=>?_) (λMH A' outer s H vs Q E hr h=>?_)
 ·obtain ⟨G,d,x,U,us,rfl,_,_,_,m,_⟩:=h;rw [Qy,<-m.len];rfl
 obtain ⟨G,⟨⟨t,b⟩,r,u⟩,x,U,us,rfl,T,O,C,m,k⟩:=h;obtain ⟨v0,v,v2,rfl,al⟩:=Ye m;have S:Sta H G H [] _:=Sta.enter T al;dsimp only at k S;have nd0:=Ww.nd;walk_at "=fD45ba0btbrba1b*a2/b*a3/cc";left;refine jX S .mm (q r) ?_;refine VC S .mm λZ H1 e1 y=>?_;left;refine jX y .mm (q u) ?_;refine VC y .mm λY H2 e2 S2=>?_;left;refine YU (d:=(Rl.upto t b r u).shape) (by assumption) O C (q (.upto 0 0 .shares .shares)) .mm λH' X w N M L J I D=>?_;exact k H' X w N M L J I D
end
noncomputable abbrev fO:Stmt:=xP (top 54) 2
def Il:FnScope pac pac (zk fO):=xc
abbrev bz:Stmt:=top 13
def rJ:FnScope ["number"] ["number"] (zk bz):=xc
def se (B:Bl mg) (F:Fun K "is_whole" "is_whole" bz f fd):FnOk P w K mg base CX0 1 f fd ["number"] fh:=by
 walk_at "+rJ";obtain ⟨n,rfl,q⟩:=h;have S:Sta H H H [] []:=Sta.enter (zP.refl _) λp hp=>absurd hp Qm;have g:Is H (.int n) (.int n):=S.hp Has.int;walk_at "=fi~<ba0b{int;c|}<ba0bαbool;c";left;exact q
section
variable {fS fE CW:Addr}
noncomputable abbrev Uw:Stmt:=xP (top 68) 1
def oR:FnScope pac pac (zk Uw):=xc
def Kc (W_ok:WOk K fS fE CW) (F:Fun K "sign" "Walk.sign" Uw f fd):FnOk P w K mg base CX0 1 f fd pac (jL CW):=by
 walk_at "+oR";obtain ⟨a,T,i,rfl,h,g,q⟩:=h;walk_at "=fiρ$a0K$a0Kz$a0d";left;refine Cj h W_ok ?_;left;refine Ir h W_ok ?_;left;refine Ir h W_ok ?_;left;exact ⟨T,rfl,QL g nofun,q⟩
noncomputable abbrev Wg:Stmt:=xP (top 68) 2
def je:FnScope ["self","word","wanted"] pam (zk Wg):=xc
def CY (W_ok:WOk K fS fE CW) {g:FuncData} (YJ:FnOk P w K mg base CX0 1 fS g pac (jL CW)) (xH:yG K g pac []) (F:Fun K "expect" "Walk.expect" Wg f fd):FnOk P w K mg base CX0 2 f fd pam (XX CW):=by
 walk_at "+je";obtain ⟨a,T,wd,i,rfl,h,q,hw,p,k⟩:=h;walk_at "=fFσa1A2eloWn>a0=a2k2mfβa0d";left;refine JO ?_;left;refine rd_kIS hw ?_;refine KN (λn σ H2=>∃x,σ=[some (.ref a),some (.str wd),x]/\Ch a H H2/\At CW H2 a T (i+n)) ⟨none,rfl,Ch.refl,h⟩ ?_ ?_
 ·rintro n c σ H2 hc ⟨x,rfl,ch,h2⟩
  left;refine jW h2 W_ok ?_;refine bD h2 q ?_;rw [p n c hc];left;refine Ai rfl ?_;left;refine Cs rfl h2 W_ok λs m r=>?_;left;exact ⟨_,rfl,ch.trans m,r⟩
 ·rintro σ H2 ⟨x,rfl,ch,h2⟩
  exact k H2 ch h2
abbrev Wa:Stmt:=top 74
def iZ:FnScope ["walk","number"] pas (zk Wa):=xc
def Ki (W_ok:WOk K fS fE CW) {t:FuncData} {g:Addr} (g_FIGURES:mg "FIGURES"=some (.ref g)) (u:Fg K g) (YJ:FnOk P w K mg base CX0 1 fS t pac (jL CW)) (xH:yG K t pac []) (F:Fun K "read_number" "read_number" Wa f fd):FnOk P w K mg base CX0 2 f fd pas (Bu CW):=by
 walk_at "+iZ";obtain ⟨a,T,i,ds,rfl,h,z,hf,k⟩:=h;walk_at "=elτ>a0=γ;KdY2mej1de-υ>a0=;ej1zva1dφ;b>a0=cfβa0dfia1";left;refine jW h W_ok ?_;refine bD h z ?_;left;obtain ⟨r,e0⟩:∃d,ds[0]? =some d:=⟨ds[0]'hf.pos,Qb hf.pos⟩;have h0:=hf.at_ 0 r e0;have J:=hf.first r e0;refine ⟨g,qg.map V.str,rfl,u.sq,by decide+kernel,λp hp=>?_⟩;have I:AV (qg.map V.str) (some 1) none=(qg.drop 1).map V.str:=by decide+kernel
 rw [I];have D:=h.same (zP.new hp (.tup ((qg.drop 1).map V.str)));refine ⟨p,(qg.drop 1).map V.str,rfl, .inr (SqT.of yf),rfl,by decide+kernel,?_⟩
 have y:sgn T i∈qg.drop 1:=by
  rw [show sgn T i=fg r from h0.2,nr];have:r<10:=h0.1;rw [<-List.map_drop];exact Qj.mpr ⟨r,by rw [Qw];exact ⟨r - 1,by rw [jaj,show 1+(r - 1)=r by omega,List.getElem?_range ⋯]⟩,rfl⟩
 rw [DL,QW y];left;refine kX (λm σ H2=>∃n:Nat,σ=[some (.ref a),some (.int (AN (ds.take n)))]/\n<=ds.length/\Kp a H H2/\At CW H2 a T (i+n)/\m=ds.length - n) _ ⟨0,rfl,TR _,zP.kp (zP.new hp _),D,rfl⟩ ?_
 rintro m σ H2 ⟨n,rfl,hn,kp,h2,rfl⟩
 left;refine jW h2 W_ok ?_;refine bD h2 z ?_;left;refine ⟨g,qg.map V.str,rfl, .inr u.sq,rfl,by decide+kernel,?_⟩;rw [QO nofun,DL];left;refine rQ (λc=>?_) (λc=>?_)
 ·have c:sgn T (i+n)∈qg:=Qz c
  have s:n<ds.length:=by
   rcases Nat.lt_or_eq_of_le hn with s|e
   ·exact s
   ·rw [e] at c;exact absurd c hf.stop
  have C:=Qb s;have hd:=hf.at_ n _ C;left;refine ⟨u.ty,?_⟩;left;refine jW h2 W_ok ?_;refine bD h2 z ?_;left;rw [hd.2];refine ⟨g,qg,fg ds[n],ds[n],rfl,rfl,u.sq,?_,λq L=>?_,?_⟩
  ·rw [nr,Qh,List.getElem?_range hd.1];rfl
  ·rw [nr,Qh,List.getElem?_range ⋯];intro e;have:=fg_inj (QH e);omega
  left;refine Cs rfl h2 W_ok λM A G=>?_;left;refine ⟨ds.length - (n+1),⋯,n+1,?_,s,kp.trans A.kp,G,rfl⟩;rw [jab,C,show (some ds[n]).toList=[ds[n]] from rfl,oi];rfl
 ·have c:¬sgn T (i+n)∈qg:=of_decide_eq_false c
  have e:n=ds.length:=by
   rcases Nat.lt_or_eq_of_le hn with s|e
   ·exfalso
    have hd:=hf.at_ n _ (Qb s);refine c ?_;rw [hd.2,nr];exact Qj.mpr ⟨_,jbJ.mpr hd.1,rfl⟩
   ·exact e
  subst e;rw [List.take_length];left;exact k H2 kp h2
abbrev bA:Stmt:=top 7
def rK:FnScope pak pak (zk bA):=xc
def Gw (t:Cal P w K mg base CX0 1 "is_whole" ["number"] fh) (u:Cal P w K mg base CX0 2 "lowest" pak XW) (F:Fun K "fraction" "fraction" bA f fd):FnOk P w K mg base CX0 3 f fd pak Bv:=by
 walk_at "+rK";obtain ⟨G,⟨a,b⟩,q,m,⟨g,sb⟩,k⟩:=h;cases (yK (ns:=[a,b]) m);have S:Sta H G H [] []:=Sta.enter q λp hp=>absurd hp Qm;dsimp only at g sb k;walk_at "=elNVRMhba0c9RMhba1c2melosna1dk2mfihba0ba1c";left;refine uk ?_;left;refine uk ?_;left;refine yS (λc=>absurd c g) (λ_=>?_);left;refine Va (by assumption) g sb λr H' e s=>?_;left;exact YL s k .mm
abbrev Xg:Stmt:=top 73
def fF:FnScope ["walk","top","bottom"] pas (zk Xg):=xc
def Gn (W_ok:WOk K fS fE CW) {g:FuncData} (yZ:FnOk P w K mg base CX0 2 fE g pam (XX CW)) (yv:yG K g pam []) (HW:Cal P w K mg base CX0 2 "read_number" pas (Bu CW)) (kU:Cal P w K mg base CX0 3 "fraction" pak Bv) (F:Fun K "read_portion" "read_portion" Xg f fd):FnOk P w K mg base CX0 4 f fd pas (rh CW):=by
 walk_at "+fF";obtain ⟨G,a,T,i,⟨⟨t,b⟩,ds,es⟩,rfl,D,ga,h,m,hp,k⟩:=h;dsimp only at hp k;have S:Sw a H G H []:=Sw.enter D ga h λp hp=>absurd hp Qm;walk_at "=ej1hba0ceD!a0?brcej2hba0celNV_a2a1k9oWnhba1ba2ctba1ba2ck2mfitba1ba2c";left;refine Ce h m hp.f1 λH1 A r=>?_;have Y:=S.kp A r;rw [hp.v1];left;refine Wi ?_;left;refine ai r (by rfl) ?_;left;refine Zm r m (by decide+kernel) hp.sl λH2 M q=>?_;have X:=Y.ch M q;rw [show ("/":Str).length=1 by decide+kernel] at q;left;refine Ce q m hp.f2 λH3 z u=>?_;have U:=X.kp z u;rw [hp.v2];left;have MF:=hp.lt
 have C:frD (Rat.divInt t b)= .tuple [.int t, .int b]:=by
  have:=Ao ⋯ hp.co;unfold frD;rw [this.1,this.2]
 refine yS (λc=>absurd c ⋯) (λ_=>?_);left;refine JC (α:=Int×Int) (t,b) U (ye.cons Has.int (ye.cons Has.int ye.nil)) ⟨by show b≠0;omega,hp.sz.2.mono nofun⟩ λv4 H4 L O=>?_;left;refine uo O (by walk_at "hasall") (jbd rfl) λp5 H5 J s=>?_;refine rd_neD (x:=frD (Rat.divInt t b)) (y:=frD (Rat.divInt t b)) (s.hp .mm) (by rw [C];exact s.hp .mm) (VA _) (VA _) ?_;rw [Ef,QW rfl];left;refine uo s (by walk_at "hasall") (jbd rfl) λZ H6 I N=>?_;left;refine bB N k ?_ .mm;rw [<-Nat.add_assoc,<-Nat.add_assoc];exact ((u.same L).same J).same I
abbrev Um:Stmt:=top 71
def oG:FnScope paW pas (zk Um):=xc
def Ka (W_ok:WOk K fS fE CW) {p q:FuncData} {g:Addr} (g_WORDS:mg "WORDS"=some (.ref g)) (y:Wd K g) (YJ:FnOk P w K mg base CX0 1 fS p pac (jL CW)) (xH:yG K p pac []) (yZ:FnOk P w K mg base CX0 2 fE q pam (XX CW)) (yv:yG K q pam []) (F:Fun K "read_word" "read_word" Um f fd):FnOk P w K mg base CX0 3 f fd pas (ua CW):=by
 walk_at "+oG";obtain ⟨a,T,i,n,wd,rfl,h,D,hn,A,k⟩:=h;walk_at "=eF#χA1flosn>a0=g1keD!a0?ba1cfia1m2";left;refine ⟨g,rfl,⟨_,y.sq⟩,?_⟩;refine DX (λ_=>y.sq) (λm σ H2=>∃x,σ=[some (.ref a),x]/\m<=n/\H2=H) ⟨none,rfl,TR _,rfl⟩ ?_ ?_
 ·rintro m z σ H2 hz ⟨x,rfl,NH,rfl⟩
  obtain ⟨c,d,C,hd,L,G,ha⟩:=qO m n z wd hz hn;have r:sgn T i=⟨#[d]⟩:=A 0 d (by rw [<-Array.getElem?_toList];exact hd);left;refine jW h W_ok ?_;refine bD h D ?_;left;refine FQ G C ?_;rw [r];left;refine yS (λe=>?_) (λe=>?_)
  ·have u:c=d:=by
    have:=congrArg (λz:Str=>z.cps[0]?) e;simp at this;exact this.symm
   have t:=L u;subst t;rw [hz] at hn;cases hn;left;refine Wi ?_;left;refine ai h (by rfl) ?_;left;refine Zm h D ha A λM J I=>?_;left;exact k M J I
  ·left;refine ⟨_,rfl,?_,rfl⟩
   rcases Nat.lt_or_eq_of_le NH with s|s
   ·exact s
   ·subst s;rw [hz] at hn;cases hn;rw [C] at hd;cases hd;exact absurd rfl e
 ·rintro σ H2 ⟨x,rfl,NH,rfl⟩
  have:=(Qd.mp hn).1;omega
end
section
variable {fS fE CW:Addr} {A:RAd}
abbrev yO:Stmt:=top 72
def XY:FnScope ["walk","word","portion","first","outer"] paW (zk yO):=xc
def wC {n:Nat} (W_ok:WOk K fS fE CW) {M:FuncData} (yZ:FnOk P w K mg base CX0 2 fE M pam (XX CW)) (yv:yG K M pam []) (z:Yq P w K mg base "Other" (A.cls (.other .shares)) pah (yH (A.cls (.other .shares)) (α:=Rl) (λr=>[r.ins A]) (λr=>(Rl.other r).shape))) (u:Yq P w K mg base "Ranks" (A.cls (.ranks .shares)) pah (yH (A.cls (.ranks .shares)) (α:=Rl) (λr=>[r.ins A]) (λr=>(Rl.ranks r).shape))) (g:Yq P w K mg base "Groups" (A.cls (.groups .shares .shares)) paq (yH (A.cls (.groups .shares .shares)) (α:=Rl×Rl) (λr=>[r.1.ins A,r.2.ins A]) (λr=>(Rl.groups r.1 r.2).shape))) (C:Yq P w K mg base "Upto" (A.cls (.upto 0 0 .shares .shares)) pag (yH (A.cls (.upto 0 0 .shares .shares)) (α:=(Int×Int)×Rl×Rl) (λr=>[.tuple [.int r.1.1, .int r.1.2],r.2.1.ins A,r.2.2.ins A]) (λr=>(Rl.upto r.1.1 r.1.2 r.2.1 r.2.2).shape))) (Ud:Cal P w K mg base CX0 4 "read_portion" pas (rh CW)) (tO:Cal P w K mg base CX0 (2*n+5) "read_rule" pas (ub CW A n)) (F:Fun K "read_within_brackets" "read_within_brackets" yO f fd):FnOk P w K mg base CX0 (2*n+6) f fd paW (Ij CW A n):=by
 obtain ⟨Mz,Mm,vq,HV,HM,DV⟩:=z;obtain ⟨My,Ml,vo,HU,HL,DU⟩:=u;obtain ⟨Mq,LY,qG,EY,ER,uS⟩:=g;obtain ⟨MD,Mx,EF,Ja,IQ,IF⟩:=C;refine F.oo XY λH vs Q E hr nd0 h=>?_;obtain ⟨G,a,T,i,r,rfl,eG,ga,h,q,⟨m,N,hok,O⟩,k⟩:=h;have S:Sw a H G H []:=Sw.enter eG ga h λp hp=>absurd hp Qm;dsimp only at k;walk_at "=elosna1rkfiψωbhba0ccmelosna1rkfiΓΔbhba0ccmelosna1rkej4hba0ceD!a0?brcfiΘΞba4bhba0ccmej2hba0ceD!a0?brcej3hba0ceD!a0?brcfiΠΣba2ba3bhba0cc"
 cases r with
 |shares=>cases N
 |evenly=>cases N
 |losses=>cases N
 |halves=>cases N
 |other x=>
  simp only [Rl.deep] at O;left;refine yS (λ_=>?_) (λc=>absurd rfl c);left;refine Wy (α:=Rl) x S h q ⟨m,hok,⋯⟩ λv1 H1 s I=>?_;left;refine ZU x I (ye.cons .mm ye.nil) λx2 H2 X D=>?_;exact bB D k (s.same X) .mm
 |ranks x=>
  simp only [Rl.deep] at O;left;refine yS (λc=>absurd c (by show ¬("ranks(":Str)=("other(":Str);decide+kernel)) (λ_=>?_);left;refine yS (λ_=>?_) (λc=>absurd rfl c);left;refine Wy (α:=Rl) x S h q ⟨m,hok,⋯⟩ λv1 H1 s I=>?_;left;refine ZU x I (ye.cons .mm ye.nil) λx2 H2 X D=>?_;exact bB D k (s.same X) .mm
 |groups x y=>
  simp only [Rl.deep] at O;have lc:(", ":Str).length=2:=by decide+kernel
  have m:nW T (x.text++(", ":Str)++y.text) i:=m;rw [xR] at m;have g1:=xM m;have g2:=xM g1.2;rw [lc] at g2;left;refine yS (λc=>absurd c (by show ¬("groups(":Str)=("other(":Str);decide+kernel)) (λ_=>?_);left;refine yS (λc=>absurd c (by show ¬("groups(":Str)=("ranks(":Str);decide+kernel)) (λ_=>?_);left;refine yS (λ_=>?_) (λc=>absurd rfl c);left;refine Wy (α:=Rl) x S h q ⟨g1.1,hok.1,⋯⟩ λv1 H1 s I=>?_;left;refine Wi ?_;left;refine ai s (by rfl) ?_;left;refine Zm s q (by decide+kernel) g2.1 λH2 c2 J=>?_;have D:=I.ch c2 J;rw [lc] at J;left;refine Wy (α:=Rl) y D J q ⟨g2.2,hok.2,⋯⟩ λv3 H3 L Z=>?_;left;refine ZU (x,y) Z (ye.cons .mm (ye.cons .mm ye.nil)) λx4 H4 e4 Y=>?_;refine bB Y k ?_ .mm;rw [show i+(Rl.groups x y).inner.length=i+x.text.length+2+y.text.length by show i+(x.text++(", ":Str)++y.text).length=_;rw [xY,xY,lc];omega];exact L.same e4
 |upto t b x y=>
  simp only [Rl.deep] at O;have lc:(", ":Str).length=2:=by decide+kernel
  obtain ⟨U,ox,oy⟩:=hok;have m:nW T (itS t++("/":Str)++itS b++(", ":Str)++x.text++(", ":Str)++y.text) i:=m;have e0:itS t++("/":Str)++itS b++(", ":Str)++x.text++(", ":Str)++y.text=(itS t++("/":Str)++itS b)++((", ":Str)++(x.text++((", ":Str)++y.text))):=by simp only [xR]
  rw [e0] at m
  obtain ⟨ds,es,OL,Nd⟩:=JU U m (by
   show ((", ":Str).cps++_)[0]? =some 44;rw [Array.getElem?_append_left (by decide+kernel)]
   decide+kernel)
  have g0:=xM m;have g1:=xM g0.2;have g2:=xM g1.2;have g3:=xM g2.2;rw [<-Nd] at g1 g2 g3;rw [lc] at g2 g3;left;refine yS (λc=>absurd c (by show ¬("upto(":Str)=("other(":Str);decide+kernel)) (λ_=>?_);left;refine yS (λc=>absurd c (by show ¬("upto(":Str)=("ranks(":Str);decide+kernel)) (λ_=>?_);left;refine yS (λc=>absurd c (by show ¬("upto(":Str)=("groups(":Str);decide+kernel)) (λ_=>?_);left;refine Wy (α:=(Int×Int)×List Nat×List Nat) ((t,b),ds,es) S h q OL λv0 H0 h0 S0=>?_;left;refine Wi ?_;left;refine ai h0 (by rfl) ?_;left;refine Zm h0 q (by decide+kernel) g1.1 λH1 c1 s=>?_;have I:=S0.ch c1 s;rw [lc] at s;left;refine Wy (α:=Rl) x I s q ⟨g2.1,ox,⋯⟩ λv2 H2 J D=>?_;left;refine Wi ?_;left;refine ai J (by rfl) ?_;left;refine Zm J q (by decide+kernel) g3.1 λH3 c3 L=>?_;have Z:=D.ch c3 L;rw [lc] at L;left;refine Wy (α:=Rl) y Z L q ⟨g3.2,oy,⋯⟩ λv4 H4 h4 Y=>?_;left;refine ZU ((t,b),x,y) Y (ye.cons .mm (ye.cons .mm (ye.cons .mm ye.nil))) λx5 H5 e5 S5=>?_;refine bB S5 k ?_ .mm
  rw [show i+(Rl.upto t b x y).inner.length=i+(ds.length+1+es.length)+2+x.text.length+2+y.text.length by
   show i+(itS t++("/":Str)++itS b++(", ":Str)++x.text++(", ":Str)++y.text).length=_
   rw [e0,xY,<-Nd];simp only [xY,lc];omega]
  exact h4.same e5
abbrev XZ:Stmt:=top 70
def cS:FnScope ["walk","word","rule"] pas (zk XZ):=xc
def Gi {n:Nat} (W_ok:WOk K fS fE CW) {fdE:FuncData} (yZ:FnOk P w K mg base CX0 2 fE fdE pam (XX CW)) (yv:yG K fdE pam []) (s:Yq P w K mg base "Shares" (A.cls .shares) pac (yH (A.cls .shares) (α:=Unit) (λ_=>[]) (λ_=>Rl.shares.shape))) (C:Yq P w K mg base "Evenly" (A.cls .evenly) pac (yH (A.cls .evenly) (α:=Unit) (λ_=>[]) (λ_=>Rl.evenly.shape))) (u:Yq P w K mg base "Losses" (A.cls .losses) pac (yH (A.cls .losses) (α:=Unit) (λ_=>[]) (λ_=>Rl.losses.shape))) (z:Yq P w K mg base "Halves" (A.cls .halves) pac (yH (A.cls .halves) (α:=Unit) (λ_=>[]) (λ_=>Rl.halves.shape))) (iY:Cal P w K mg base CX0 3 "read_word" pas (ua CW)) (nX:Cal P w K mg base CX0 (2*n+6) "read_within_brackets" paW (Ij CW A n)) (F:Fun K "read_rule" "read_rule" XZ f fd):FnOk P w K mg base CX0 (2*n+7) f fd pas (ub CW A (n+1)):=by
 obtain ⟨Mn,LV,qD,EV,EM,uP⟩:=s;obtain ⟨Mr,LZ,qH,EZ,ES,uT⟩:=C;obtain ⟨Mo,LW,qE,EW,EN,uQ⟩:=u;obtain ⟨Mp,LX,qF,EX,EO,uR⟩:=z;refine F.oo cS λH vs Q E hr nd0 h=>?_;obtain ⟨G,a,T,i,r,rfl,eG,ga,h,I,⟨hh,hok,Na⟩,k⟩:=h;have S:Sw a H G H []:=Sw.enter eG ga h λp hp=>absurd hp Qm;dsimp only at k;obtain ⟨q,hq⟩:=r.word_at;have Z:(")":Str).length=1:=by decide+kernel
 have hw:nW T r.word i:=by
  cases OA:r.leaf with
  |true=>cases r<;>first|exact hh|cases OA
  |false=>
   rw [r.text_in OA,xR] at hh;exact (xM hh).1
 walk_at "=ej1hba0celosna1rkfiΦΨmelosna1rkfiΩаmelosna1rkfiбвmelosna1rkfiгдmej2hba0ba1ceD!a0?brcfia2";left;refine JA h I hq hw λH1 c1 J=>?_;have L:=S.ch c1 J
 have more:r.leaf=false->nW T r.inner (i+r.word.length)/\nW T (")":Str) (i+r.word.length+r.inner.length)/\i+r.text.length=i+r.word.length+r.inner.length+1:=λOA=>by
  have e:=r.text_in OA;rw [e,xR] at hh;have g1:=xM hh;have g2:=xM g1.2;refine ⟨g2.1,g2.2,?_⟩;rw [e,xY,xY,Z];omega
 cases r with
 |shares=>
  left;refine yS (λ_=>?_) (λc=>absurd rfl c);left;refine ZU () L ye.nil λx2 Y O m=>?_;exact bB m k (J.same O) .mm
 |evenly=>
  left;refine yS (λc=>absurd c (by decide+kernel)) (λ_=>?_);left;refine yS (λ_=>?_) (λc=>absurd rfl c);left;refine ZU () L ye.nil λx2 Y O m=>?_;exact bB m k (J.same O) .mm
 |losses=>
  left;refine yS (λc=>absurd c (by decide+kernel)) (λ_=>?_);left;refine yS (λc=>absurd c (by decide+kernel)) (λ_=>?_);left;refine yS (λ_=>?_) (λc=>absurd rfl c);left;refine ZU () L ye.nil λx2 Y O m=>?_;exact bB m k (J.same O) .mm
 |halves=>
  left;refine yS (λc=>absurd c (by decide+kernel)) (λ_=>?_);left;refine yS (λc=>absurd c (by decide+kernel)) (λ_=>?_);left;refine yS (λc=>absurd c (by decide+kernel)) (λ_=>?_);left;refine yS (λ_=>?_) (λc=>absurd rfl c);left;refine ZU () L ye.nil λx2 Y O m=>?_;exact bB m k (J.same O) .mm
 |other x=>
  obtain ⟨N,m2,M⟩:=more rfl;left;refine yS (λc=>absurd c (by show ¬("other(":Str)=("shares":Str);decide+kernel)) (λ_=>?_);left;refine yS (λc=>absurd c (by show ¬("other(":Str)=("evenly":Str);decide+kernel)) (λ_=>?_);left;refine yS (λc=>absurd c (by show ¬("other(":Str)=("losses":Str);decide+kernel)) (λ_=>?_);left;refine yS (λc=>absurd c (by show ¬("other(":Str)=("halves":Str);decide+kernel)) (λ_=>?_);left;refine Wy (α:=Rl) (Rl.other x) L J I ⟨N,rfl,hok,Na⟩ λv2 Y D m=>?_;left;refine Wi ?_;left;refine ai D (by rfl) ?_;left;refine Zm D I (by decide+kernel) m2 λH3 U g=>?_;have X:=m.ch U g;left;refine bB X k ?_ .mm;rw [Z] at g;rw [M];exact g
 |ranks x=>
  obtain ⟨N,m2,M⟩:=more rfl;left;refine yS (λc=>absurd c (by show ¬("ranks(":Str)=("shares":Str);decide+kernel)) (λ_=>?_);left;refine yS (λc=>absurd c (by show ¬("ranks(":Str)=("evenly":Str);decide+kernel)) (λ_=>?_);left;refine yS (λc=>absurd c (by show ¬("ranks(":Str)=("losses":Str);decide+kernel)) (λ_=>?_);left;refine yS (λc=>absurd c (by show ¬("ranks(":Str)=("halves":Str);decide+kernel)) (λ_=>?_);left;refine Wy (α:=Rl) (Rl.ranks x) L J I ⟨N,rfl,hok,Na⟩ λv2 Y D m=>?_;left;refine Wi ?_;left;refine ai D (by rfl) ?_;left;refine Zm D I (by decide+kernel) m2 λH3 U g=>?_;have X:=m.ch U g;left;refine bB X k ?_ .mm;rw [Z] at g;rw [M];exact g
 |groups x y=>
  obtain ⟨N,m2,M⟩:=more rfl;left;refine yS (λc=>absurd c (by show ¬("groups(":Str)=("shares":Str);decide+kernel)) (λ_=>?_);left;refine yS (λc=>absurd c (by show ¬("groups(":Str)=("evenly":Str);decide+kernel)) (λ_=>?_);left;refine yS (λc=>absurd c (by show ¬("groups(":Str)=("losses":Str);decide+kernel)) (λ_=>?_);left;refine yS (λc=>absurd c (by show ¬("groups(":Str)=("halves":Str);decide+kernel)) (λ_=>?_);left;refine Wy (α:=Rl) (Rl.groups x y) L J I ⟨N,rfl,hok,Na⟩ λv2 Y D m=>?_;left;refine Wi ?_;left;refine ai D (by rfl) ?_;left;refine Zm D I (by decide+kernel) m2 λH3 U g=>?_;have X:=m.ch U g;left;refine bB X k ?_ .mm;rw [Z] at g;rw [M];exact g
 |upto t b x y=>
  obtain ⟨N,m2,M⟩:=more rfl;left;refine yS (λc=>absurd c (by show ¬("upto(":Str)=("shares":Str);decide+kernel)) (λ_=>?_);left;refine yS (λc=>absurd c (by show ¬("upto(":Str)=("evenly":Str);decide+kernel)) (λ_=>?_);left;refine yS (λc=>absurd c (by show ¬("upto(":Str)=("losses":Str);decide+kernel)) (λ_=>?_);left;refine yS (λc=>absurd c (by show ¬("upto(":Str)=("halves":Str);decide+kernel)) (λ_=>?_);left;refine Wy (α:=Rl) (Rl.upto t b x y) L J I ⟨N,rfl,hok,Na⟩ λv2 Y D m=>?_;left;refine Wi ?_;left;refine ai D (by rfl) ?_;left;refine Zm D I (by decide+kernel) m2 λH3 U g=>?_;have X:=m.ch U g;left;refine bB X k ?_ .mm;rw [Z] at g;rw [M];exact g
def Ke (W_ok:WOk K fS fE CW) {I:FuncData} (yZ:FnOk P w K mg base CX0 2 fE I pam (XX CW)) (yv:yG K I pam []) (g:Yq P w K mg base "Shares" (A.cls .shares) pac (yH (A.cls .shares) (α:=Unit) (λ_=>[]) (λ_=>Rl.shares.shape))) (t:Yq P w K mg base "Evenly" (A.cls .evenly) pac (yH (A.cls .evenly) (α:=Unit) (λ_=>[]) (λ_=>Rl.evenly.shape))) (m:Yq P w K mg base "Losses" (A.cls .losses) pac (yH (A.cls .losses) (α:=Unit) (λ_=>[]) (λ_=>Rl.losses.shape))) (p:Yq P w K mg base "Halves" (A.cls .halves) pac (yH (A.cls .halves) (α:=Unit) (λ_=>[]) (λ_=>Rl.halves.shape))) (y:Yq P w K mg base "Other" (A.cls (.other .shares)) pah (yH (A.cls (.other .shares)) (α:=Rl) (λr=>[r.ins A]) (λr=>(Rl.other r).shape))) (u:Yq P w K mg base "Ranks" (A.cls (.ranks .shares)) pah (yH (A.cls (.ranks .shares)) (α:=Rl) (λr=>[r.ins A]) (λr=>(Rl.ranks r).shape))) (q:Yq P w K mg base "Groups" (A.cls (.groups .shares .shares)) paq (yH (A.cls (.groups .shares .shares)) (α:=Rl×Rl) (λr=>[r.1.ins A,r.2.ins A]) (λr=>(Rl.groups r.1 r.2).shape))) (z:Yq P w K mg base "Upto" (A.cls (.upto 0 0 .shares .shares)) pag (yH (A.cls (.upto 0 0 .shares .shares)) (α:=(Int×Int)×Rl×Rl) (λr=>[.tuple [.int r.1.1, .int r.1.2],r.2.1.ins A,r.2.2.ins A]) (λr=>(Rl.upto r.1.1 r.1.2 r.2.1 r.2.2).shape))) (O:Cal P w K mg base CX0 3 "read_word" pas (ua CW)) (X:Cal P w K mg base CX0 4 "read_portion" pas (rh CW)) {fr L:Addr} {C D:FuncData} (F:Fun K "read_rule" "read_rule" XZ fr C) (hm:mg "read_rule"=some (.ref fr)) (b:yG K C pas []) (M:Fun K "read_within_brackets" "read_within_brackets" yO L D) (J:mg "read_within_brackets"=some (.ref L)) (U:yG K D paW []):∀n,FnOk P w K mg base CX0 (2*n+5) fr C pas (ub CW A n):=by
 intro n
 induction n with
 |zero=>
  refine F.ok cS (λvs H Q E h=>?_) (λMH A' outer s H vs Q E hr h=>?_)
  ·obtain ⟨_,_,_,_,_,rfl,_⟩:=h;rfl
  obtain ⟨G,a,T,i,r,rfl,eG,ga,h,hT,⟨hh,hok,Y⟩,k⟩:=h;exact absurd Y (by cases r<;>simp [Rl.deep])
 |succ n N=>
  have C1:=Vr F N hm b;have Z:=Vr M (wC W_ok yZ yv y u q z X C1 M) J U;exact Gi W_ok yZ yv g t m p O Z F
end
section
variable {fS fE CW:Addr} {A:RAd}
noncomputable abbrev Yw:Stmt:=xP (top 68) 0
def dA:FnScope paT paT (zk Yw):=xc
def Gd (W_ok:WOk K fS fE CW) (F:Fun K "__init__" "Walk.__init__" Yw f fd):FnOk P w K mg base CX0 1 f fd paT (Br CW):=by
 walk_at "+dA";obtain ⟨x,g,T,rfl,m,k⟩:=h;walk_at "=e,a0a1f,a0d";refine rd_seq ?_;refine ⟨.str T,rfl, .ref x,rfl,x,CW,g,[],rfl,m,W_ok.cl,W_ok.na,nofun,?_⟩;refine rd_nx ?_;refine ⟨.ref x,rfl,x,CW,g,_,rfl,yf,W_ok.cl,W_ok.nb,by show 1<1000;decide,?_⟩;refine k _ (Ch.upd.trans Ch.upd) ⟨g,?_⟩;rw [yf];rfl
abbrev BP:Stmt:=top 69
def Jv:FnScope ["text","walk","rule"] ["text"] (zk BP):=xc
def Kf {n:Nat} (W_ok:WOk K fS fE CW) {q t:FuncData} {J:Addr} (YJ:FnOk P w K mg base CX0 1 fS q pac (jL CW)) (xH:yG K q pac []) (IE:mg "Walk"=some (.ref CW)) (EE:Mk K CW J) (IZ:FnOk P w K mg base CX0 1 J t paT (Br CW)) (IP:yG K t paT []) (tO:Cal P w K mg base CX0 (2*n+5) "read_rule" pas (ub CW A n)) (F:Fun K "read" "read" BP f fd):FnOk P w K mg base CX0 (2*n+6) f fd ["text"] (Bt A n):=by
 walk_at "+Jv";obtain ⟨G,r,L,M,⟨hok,Np,X⟩,k⟩:=h;obtain ⟨v,rfl,al⟩:=YF M;cases (Is.str_of (al _ (Qq.mpr rfl)));dsimp only at k;have D:r.text.length<=100000:=QL (r.text_len hok) ⋯;walk_at "=ej1ежba0cej2hba1celoWn>a1=rk2mfia2";left;intro x N u T MW;refine ⟨x,N,r.text,rfl,yf,λC O I=>⟨rfl,?_⟩⟩
 have old:∀p o,H p=some o->C p=some o:=λp o hp=>by
  rw [O p (yc hp u),ya (yc hp u),ya (yc hp T)];exact hp
 have S:Sw x C G C []:=Sw.enter (λp o hp=>old p o (L p o hp)) (L.free u) I λp hp=>absurd hp Qm;left;refine Wy (α:=Rl) r S I D ⟨Hs _,hok,X⟩ λv3 Y y U=>?_;rw [jbo] at y;left;refine jW y W_ok ?_;refine bD y D ?_;rw [Js];left;refine Ai (by decide+kernel) ?_;left;obtain ⟨Z,m,z⟩:=U.leave;refine k _ Y Z ⟨λp o hp=>m.k p o (yc hp u) (old p o hp),m.g,m.s,λp hp=>m.o p ?_⟩ (z _ (Qq.mpr rfl))
 cases e:H p with
 |none=>exact absurd e hp
 |some o=>rw [old p o e];simp
end
abbrev bo:Stmt:=top 87
def Uj:FnScope ["_law_shape_here","_law_portion_here","_law_rules"] paI (zk bo):=xc
def Gu (B:Bl mg) (F:Fun K "_law_text" "_law_text" bo f fd) (hm:mg "_law_text"=some (.ref f)) (b:yG K fd paI []):∀n:Nat,FnOk P w K mg base CX0 (n+1) f fd paI (lK n):=by
 intro n
 induction n with
 |zero=>
  refine F.ok Uj (λvs H Q E h=>?_) (λMH A outer s H vs Q E hr h=>?_)
  ·obtain ⟨r,h,_⟩:=h;rw [<-h.len];rfl
  obtain ⟨r,_,⟨_,_,hd⟩,_⟩:=h;exact absurd hd (by cases r<;>simp [Rl.deep])
 |succ n ih=>
  have AL:Cal P w K mg base CX0 (n+1) "_law_text" paI (lK n):=Vr F ih hm b;refine F.ok Uj (λvs H Q E h=>?_) (λMH A outer s H vs Q E hr h=>?_)
  ·obtain ⟨r,h,_⟩:=h;rw [<-h.len];rfl
  obtain ⟨r,hA,⟨hok,M,N⟩,k⟩:=h;obtain ⟨v,rfl,al⟩:=YF hA;dsimp only at k;have S:Sta H H H [] [(r.shape,v)]:=Sta.enter (zP.refl _) al;have l3:("(":Str).length=1:=by decide+kernel
  have l4:("/":Str).length=1:=by decide+kernel
  have l5:(")":Str).length=1:=by decide+kernel
  have l6:(", ":Str).length=2:=by decide+kernel
  have nd0:=Uj.nd;walk_at "=elosnCba0cdkfig0melosng0rkej1LLδbqg0dcrδbqg0dcej2LLhbg0crhbg0cfiLLLLra1ra2rmfiLLLg0rзrbx_law_part;1;#γa0KdYp0uhba0ccr"
  rcases (show (∃wd:Str,r.shape= .tuple [.str wd]/\r.text=wd)\/(∃(wd:Str) (x:Rl),r.shape= .tuple [.str wd,x.shape]/\wd≠"upto"/\wd.length<=10/\(x.Ok/\x.size<=16/\x.deep<=n)/\r.text=wd++("(":Str)++x.text++(")":Str))\/(∃x y,r= .groups x y)\/∃(t b:Int) (x y:Rl),r= .upto t b x y from by
   cases r with
   |shares=>exact .inl ⟨_,rfl,rfl⟩
   |evenly=>exact .inl ⟨_,rfl,rfl⟩
   |losses=>exact .inl ⟨_,rfl,rfl⟩
   |halves=>exact .inl ⟨_,rfl,rfl⟩
   |other x=>
    simp only [Rl.size,Rl.deep] at M N;refine .inr (.inl ⟨"other",x,rfl,by decide+kernel,by decide+kernel,⟨hok,⋯,⋯⟩,?_⟩);rw [Rl.text,show ("other(":Str)=("other":Str)++("(":Str) by decide+kernel]
   |ranks x=>
    simp only [Rl.size,Rl.deep] at M N;refine .inr (.inl ⟨"ranks",x,rfl,by decide+kernel,by decide+kernel,⟨hok,⋯,⋯⟩,?_⟩);rw [Rl.text,show ("ranks(":Str)=("ranks":Str)++("(":Str) by decide+kernel]
   |groups x y=>exact .inr (.inr (.inl ⟨x,y,rfl⟩))
   |upto t b x y=>exact .inr (.inr (.inr ⟨t,b,x,y,rfl⟩))) with ⟨wd,U,z⟩|⟨wd,x,U,hw,RS,⟨m,p,dx⟩,z⟩|⟨x,y,rfl⟩|⟨t,b,x,y,rfl⟩
  ·rw [U] at S;rw [z] at k;left;refine yS (λ_=>?_) (λc=>absurd rfl c);left;exact vX S k
  ·rw [U] at S;rw [z] at k;have X:x.text.length<=64000:=QL (x.text_len m) ⋯;left;refine yS (λc=>by simp at c) (λ_=>?_);left;refine yS (λc=>absurd c hw) (λ_=>?_);left;refine Im (xs:=[.str wd,x.shape]) S .mm (by show ¬(HT.sIx 2 0 (some 1)=0/\HT.sIx 2 2 none=2);decide) λl2 H2 z I=>?_;refine fW (xs:=[x.shape]) I .mm λJ O=>?_;refine yp O (λ_=> .str x.text) (ys:=[x.text].map PyData.str) rfl I (λ_ _=> .mem (by right)) (by show 1<=1000;decide) (λj u v B' G' Kd Kn g t1 S hd C ex s0 H0=>?_) λD H3 e3 G=>?_
   ·obtain rfl:u=x.shape:=by
     match j,g with
     |0,g=>exact (QH g).symm
    refine zB ⟨rfl,?_⟩;left;refine af S .mm m p dx λY L=>?_;exact hd L Has.str
   left;refine Co (ys:=[x.text]) G (by right) (Hh ⋯) ?_;rw [glued1];left;exact vX G k
  ·simp only [Rl.size,Rl.deep] at M N;have m:=hok.1;have q:=hok.2;have p:x.size<=16:=⋯
   have T:y.size<=16:=⋯
   have X:x.text.length<=64000:=QL (x.text_len m) ⋯;have ly:y.text.length<=64000:=QL (y.text_len q) ⋯;have S:Sta H H H [] [(.tuple [.str "groups",x.shape,y.shape],v)]:=S;rw [Rl.text,show ("groups(":Str)=("groups":Str)++("(":Str) by decide+kernel] at k;have lg:("groups":Str).length=6:=by decide+kernel
   left;refine yS (λc=>by simp at c) (λ_=>?_);left;refine yS (λc=>absurd c (by decide+kernel)) (λ_=>?_);left;refine Im (xs:=[.str "groups",x.shape,y.shape]) S .mm (by show ¬(HT.sIx 3 0 (some 1)=0/\HT.sIx 3 3 none=3);decide) λl2 H2 z I=>?_;refine fW (xs:=[x.shape,y.shape]) I .mm λJ O=>?_;refine yp O (λj=> .str ([x,y].getD j x).text) (ys:=[x.text,y.text].map PyData.str) rfl I (λ_ _=> .mem (by right)) (by show 2<=1000;decide) (λj u v B' G' Kd Kn g t1 S hd C ex s0 H0=>?_) λD H3 e3 G=>?_
   ·have hj:u=([x,y].getD j x).shape/\([x,y].getD j x).Ok/\([x,y].getD j x).size<=16/\([x,y].getD j x).deep<=n:=by
     match j,g with
     |0,g=>exact ⟨(QH g).symm,m,p,by show x.deep<=n;omega⟩
     |1,g=>exact ⟨(QH g).symm,q,T,by show y.deep<=n;omega⟩
    obtain ⟨rfl,o1,o2,Z⟩:=hj;refine zB ⟨rfl,?_⟩;left;refine af S .mm o1 o2 Z λY L=>?_;exact hd L Has.str
   left;refine Co (ys:=[x.text,y.text]) G (by right) (Hg ⋯ ⋯) ?_;rw [glued2];have lg2:(x.text++(", ":Str)++y.text).length<=200000:=by simp only [xY];omega
   left;simp only [xR] at k⊢;exact vX G k
  ·simp only [Rl.size,Rl.deep] at M N;obtain ⟨⟨⟨ht,hb⟩,_⟩,m,q⟩:=hok;have p:x.size<=16:=⋯
   have T:y.size<=16:=⋯
   have X:x.text.length<=64000:=QL (x.text_len m) ⋯;have ly:y.text.length<=64000:=QL (y.text_len q) ⋯;have lt:=ng ht;have lb:=ng hb;have S:Sta H H H [] [(.tuple [.str "upto", .tuple [.int t, .int b],x.shape,y.shape],v)]:=S;rw [Rl.text] at k;have lg:("upto(":Str).length=5:=by decide+kernel
   left;refine yS (λc=>by simp at c) (λ_=>?_);left;refine yS (λ_=>?_) (λc=>absurd rfl c);left;refine af (r:=x) (by assumption) .mm m p ⋯ λY L=>?_;left;refine af (r:=y) (by assumption) .mm q T ⋯ λH5 S5=>?_;left;simp only [xR] at k⊢;exact vX S5 k
local macro_rules|`(tactic|walk_at "rd")=>`(tactic|first|fail "&177"|fail)
section
variable {A:RAd}
abbrev Xj:Stmt:=top 18
def WT:FnScope ["claims","claim"] pan (zk Xj):=xc
def Gz (B:Bl mg) (g:mg "MOST"=some (.int 8 tM)) (F:Fun K "check_claims" "check_claims" Xj f fd):FnOk P w K mg base CX0 1 f fd pan rB:=by
 walk_at "+WT";obtain ⟨l,r,ok,k⟩:=h;obtain ⟨v,rfl,al⟩:=YF r;have S:Sta H H H [] [(zA l,v)]:=Sta.enter (zP.refl _) al;have pos:=ok.pos;have few:=ok.few;refine ⟨_,(uu (ps_if (PW.pt (pw_or (rT (op_eqA (Fq hr)) (eB qo rfl B.len IM (Vg (pv 0) gB)) uw (Di _)) (pw_or1 (rT op_gt (eB qo rfl B.len IM (Vg (pv 0) gB)) (JW (v:= .int 8) rfl g ⟨_,rfl⟩) (Di _))))) (gg uv) CA) (gg (ps_for PassesOwn.never rfl (mF (pv 0)) (pg_a 1 WT.nd) (gg (ps_if (rT op_lt (eB (Es rfl) rfl B.min IL (Vg (pv 1) gB)) uw (Di _)) (gg uv) CA))))),mC ?_⟩;left;refine yS (λc=>absurd c (by rw [Qa];omega)) (λ_=>?_);left;refine yS (λc=>absurd c (by rw [Qa];omega)) (λ_=>?_);left;refine zO (xs:=l.map zF) S .mm λJ p=>?_;refine Zs p (λi σ cs ds=>(∃x,σ=[some v,x])/\cs=[]/\ds=[(zA l,v)]) S ⟨⟨none,rfl⟩,rfl,rfl⟩ (λi σ cs ds h=>?_) ?_ ?_
 ·obtain ⟨_,rfl,rfl⟩:=h;exact .mem (by right)
 ·rintro i x u σ H2 cs ds hx ⟨⟨x1,rfl⟩,rfl,rfl⟩ S2
  obtain ⟨c,q,rfl⟩:=zK hx;have nn:=ok.nn c (Qc q);left;refine JH (ns:=[c.1,c.2.1,c.2.2]) S2 .mm (Nat.zero_lt_succ _) λm hm _=>?_
  have m0:¬m<0:=by
   simp only [Ql,Qm,or_false] at hm
   rcases hm with rfl|rfl|rfl<;>omega
  left;refine yS (λc=>absurd c m0) (λ_=>?_);left;exact YM (S2.dat ‹()›) ⟨⟨_,rfl⟩,rfl,rfl⟩
 ·rintro σ H2 cs ds ⟨⟨x1,rfl⟩,rfl,rfl⟩ S2
  exact k _ S2.base
abbrev Xe:Stmt:=top 50
def fC:FnScope ["parts"] ["parts"] (zk Xe):=xc
def ok_wc (B:Bl mg) (F:Fun K "whole_corner" "whole_corner" Xe f fd):FnOk P w K mg base CX0 1 f fd ["parts"] spWC:=by
 walk_at "+fC";obtain ⟨G,l,s,r,ok,k⟩:=h;obtain ⟨v,rfl,al⟩:=YF r;have S:Sta H G H [] _:=Sta.enter s al;walk_at "=fitbtbSTba0cbdcb8bxpart;1;wa0p0utba0bdccc";left;rename_i t H1 z g;refine zO (xs:=l.map PyData.int) g .mm λJ m=>?_;refine yo m (λj=>frD ((l.getD j 0:Int):Rat)) (ys:=(zY l).2.map frD) (by unfold zY;rw [Qa,Qr];exact zm (λx:Int=>frD ((x:Int):Rat)) 0 l) g (λj x v=>λq t1 S hd=>?_) λD I u C=>?_
 ·obtain ⟨y,p,rfl⟩:=zK q;cases S.int1;refine zB ⟨rfl,?_⟩;left;refine hd (by assumption) ?_;rw [zG p];exact .mem (by right)
 left;exact YL (by assumption) k .mm
abbrev fN:Stmt:=top 49
def vV:FnScope ["count"] ["count"] (zk fN):=xc
def wI (J:Cal P w K mg base CX0 1 "whole_corner" ["parts"] spWC) (F:Fun K "nothing" "nothing" fN f fd):FnOk P w K mg base CX0 2 f fd ["count"] WQ:=by
 walk_at "+vV";obtain ⟨G,n,q,m,ok,k⟩:=h;cases (yK (ns:=[(n:Int)]) m);have S:Sta H G H [] []:=Sta.enter q λp hp=>absurd hp Qm;walk_at "=fiBbhbεBbdca0cc";left;rename_i z H1 I t;refine JF t (by right) ⋯ λg u D s=>?_;have r:Sta H G u [] [(.list ((Yh n).map PyData.int), .ref g)]:=s.freeze.weak (by walk_at "sub") ‹()›;refine JB r .mm (by rw [UJ];exact ok) λy M C L=>?_;left;exact xK (by assumption) k
abbrev lW:Stmt:=top 43
def BG:FnScope ["claims","amounts"] pan (zk lW):=xc
def CJ (B:Bl mg) (XR:Cal P w K mg base CX0 2 "nothing" ["count"] WQ) (Xo:Cal P w K mg base CX0 1 "whole_corner" ["parts"] spWC) (F:Fun K "shares" "shares" lW f fd):FnOk P w K mg base CX0 3 f fd pan (cR 0):=by
 walk_at "+BG";obtain ⟨G,l,I,z,ok,k⟩:=h;obtain ⟨v,rfl,al⟩:=YF z;have S:Sta H G H [] _:=Sta.enter I al;have few:=ok.few;walk_at "=eO1claim;1;wa0p0ug0elosnSTba1cdkfihbCba1ccmfizhbCba1ccBbhba1cc";left;refine zO (xs:=l.map zF) S .mm λJ s=>?_;refine yo s (λj=> .int (l.getD j (0,0,0)).1) (ys:=(amV l).map PyData.int) (by unfold amV;rw [Qa,Qr];exact zm (λc:Cl=>PyData.int c.1) (0,0,0) l) S (λj x v=>λu t1 S hd=>?_) λD H1 e1 r=>?_
 ·obtain ⟨c,y,rfl⟩:=zK u;refine zB ⟨rfl,?_⟩;left;refine hd (by assumption) ?_;rw [zG y];exact Has.int
 have q:Sta H G H1 [] [(.list ((amV l).map PyData.int), .ref D)]:=r.freeze.weak (by walk_at "sub") ‹()›;clear r;have g:(amV l).length<=8:=by rw [yi];omega
 dsimp only at k;unfold flV at k;have C:KP (amV l) (lvV (amV l)) 0=shP (amV l):=rfl;rw [C] at k;generalize amV l=as at*;unfold shP at k;left;refine yS (λc=>?_) (λc=>?_)
 ·rw [QJ c] at k;left;rw [Qa];refine bF q g λt N L p=>?_;exact xK p k
 ·rw [QO c] at k;left;rw [Qa];refine bF q g λt N L p=>?_;left;refine JB p .mm g λO H4 Z S4=>?_;left;rename_i U H5 Y m;refine Zn m (m.vwC (by right)) (m.vwC (by right)) (by show 1+1<=1000;decide) λT H6 X M=>?_;exact xK M k
abbrev mi:Stmt:=top 44
def oP:FnScope ["claims","amounts"] pan (zk mi):=xc
def CZ (B:Bl mg) (B2:Bl3 mg) (Xo:Cal P w K mg base CX0 1 "whole_corner" ["parts"] spWC) (F:Fun K "evenly" "evenly" mi f fd):FnOk P w K mg base CX0 2 f fd pan (cR 1):=by
 walk_at "+oP";obtain ⟨G,l,Z,O,ok,k⟩:=h;obtain ⟨v,rfl,al⟩:=YF O;have S:Sta H G H [] _:=Sta.enter Z al;have few:=ok.few;refine ⟨_,(uu (ps_a 1 oP.nd (pcf ["claim"] 1 [] (mF (pv 0)) (pg_c 0) rV (pix 0))) (gg (ps_ret (Gb (N:=["level","amounts"]) (n:=1) (fr:=[1]) (y:="level") rfl ⟨rfl,by decide+kernel,rfl,nofun,rfl,rfl,λ_ _=>rfl,λ_=>rfl,rfl,rfl,rfl,rfl⟩ (mF (Ga rfl rfl B2.sorted rfl B2.set (pe_op CF (pe_lst (Vg uw gB)) (pv 1)))) (λ_ _ _ _=>(rX (i:=0) (show (["level","amounts"]:List Str).Nodup from by decide+kernel) rfl (by walk_at "o"))) (λ_ _ _ _=>rV) (λ_ _ _ _=>(pcl Xo hr (Vg (pcf ["amount","level"] 1 [0] (mF (pv 1)) (pg_c 0) rV (eB (Et rfl) rfl B.min IL (Vg (pv 0) (Vg (pv 1) gB)))) gB))))))),mC ?_⟩;left;refine zO (xs:=l.map zF) S .mm λJ t=>?_;refine yo t (λj=> .int (l.getD j (0,0,0)).1) (ys:=(amV l).map PyData.int) (by unfold amV;rw [Qa,Qr];exact zm (λc:Cl=>PyData.int c.1) (0,0,0) l) S (λj x v=>λg t1 S hd=>?_) λD H1 e1 s=>?_
 ·obtain ⟨c,M,rfl⟩:=zK g;refine zB ⟨rfl,?_⟩;left;refine hd (by assumption) ?_;rw [zG M];exact Has.int
 have p:Sta H G H1 [] [(.list ((amV l).map PyData.int), .ref D)]:=s.freeze.weak (by walk_at "sub") ‹()›;clear s;have I:(amV l).length<=8:=by rw [yi];omega
 have L:=ok.lv;have Lf:=L.few;dsimp only at k;unfold flV at k;have Y:KP (amV l) (lvV (amV l)) 1=evP (amV l) (lvV (amV l)):=rfl;rw [Y] at k;generalize amV l=as at*;left;rename_i p3 H3 e3 m;refine Zn m (m.vwC (by right)) (m.vwL .mm) (by rw [Qa];show 1+_<=1000;omega) λp4 H4 e4 r=>?_;rw [show [PyData.int 0]++as.map PyData.int=(0::as).map PyData.int from rfl] at r;refine Vb r (by right) (by rw [Qy];omega) λos l5 H5 U T e5 q=>?_;cases lvV_eq U T;generalize lvV as=ls at*;refine Cm (xs:=ls.map PyData.int) q (by right) λJ2 NR=>?_;refine yp NR (λj=>zL (zY (WM as (ls.getD j 0)))) (ys:=(evP as ls).map zL) (by unfold evP;rw [Qa,Qr];exact zm (λz:Int=>zL (zY (WM as z))) 0 ls) q (λ_ _=>Qf _ (by right)) (by rw [Qa];omega) (λj x v B' G' Kd Kn g t1 S hd C ex s0 H0=>?_) λD6 H6 e6 S6=>?_
 ·obtain ⟨z,hz,rfl⟩:=zK g;cases S.int1;refine zB ⟨rfl,?_⟩;left;refine zO (xs:=as.map PyData.int) S .mm λJ3 NN=>?_;refine yp NN (λi=> .int (min (as.getD i 0) z)) (ys:=(WM as z).map PyData.int) (by unfold WM;rw [Qa,Qr];exact zm (λa:Int=>PyData.int (min a z)) 0 as) S (λ_ _=> .mem (by right)) (by rw [Qa];omega) (λi x u B3 G3 Kd2 Kn2 NZ t2 p hd2 C2 X s2 H2=>?_) λD7 H7 e7 S7=>?_
  ·obtain ⟨a,ha,rfl⟩:=zK NZ;cases p.int1;refine zB ⟨rfl,?_⟩;left;refine hd2 p ?_;rw [zG ha];exact Has.int
  left;refine JB S7.freeze .mm (by unfold WM;rw [Qa];exact I) λw8 H8 e8 S8=>?_;refine hd S8 ?_;rw [zG hz];exact .mem (by right)
 exact xK S6 k
abbrev mf:Stmt:=top 45
def BK:FnScope pan pan (zk mf):=xc
def CT (t:Cal P w K mg base CX0 2 "evenly" pan (cR 1)) (u:Cal P w K mg base CX0 5 "turned" ["path"] dU) (F:Fun K "losses" "losses" mf f fd):FnOk P w K mg base CX0 6 f fd pan (cR 2):=by
 walk_at "+BK";obtain ⟨G,l,p,m,ok,k⟩:=h;obtain ⟨v,rfl,al⟩:=YF m;have S:Sta H G H [] _:=Sta.enter p al;walk_at "=fihbhba0cc";left;refine bG S .mm ok λs H1 z q=>?_;left;refine ph (a:=flV 1 l) q.freeze .mm (ok.lv.inE ok.am) λr C y g=>?_;rw [show yx (flV 1 l)=flV 2 l from eY ok.lv] at g;exact xK g k
abbrev BO:Stmt:=top 48
def Ju:FnScope paC paC (zk BO):=xc
def Kb (VQ:Cal P w K mg base CX0 5 "behind" paN UT) (I:Cal P w K mg base CX0 4 "scaled" paV lD) (Z:Cal P w K mg base CX0 3 "minus" pab aW) (F:Fun K "upto" "upto" BO f fd):FnOk P w K mg base CX0 6 f fd paC Bs:=by
 walk_at "+Ju";obtain ⟨G,⟨p,a,b⟩,s,r,ok,k⟩:=h;obtain ⟨v0,v1,v2,rfl,al⟩:=Ye r;have S:Sta H G H [] _:=Sta.enter s al;dsimp only at ok k S;have g:=ok.sz;have one:SzQ 1 (1:Rat):=by unfold SzQ Sz;decide+kernel
 obtain ⟨m,pm⟩:=ok.m;walk_at "=fihbhba1ba0cbhba2bhbtbdbdcba0ccc";left;refine pF (a:=a) (p:=p) S .mm .mm ok.pa (g.mono nofun) λN H1 Y C=>?_;have S2:=C.freeze;left;rename_i M H3 X z;refine rR (p:=(1:Rat)) (q:=p) z .mm .mm one g nofun True.intro λD H4 U y=>?_;left;refine pF (a:=b) (p:=1 - p) y .mm .mm ok.pb ((one.sub g).mono nofun) λL H5 T u=>?_;left;refine pI (a:=zS p a) (b:=zS (1 - p) b) u.freeze .mm .mm ok.sa ok.sb pm λJ H6 O t=>?_;exact xK t k
abbrev mj:Stmt:=top 42
def fK:FnScope ["shape","claims","word"] pay (zk mj):=xc
noncomputable abbrev Ux:Stmt:=xP (top 54) 3
def oU:FnScope paO paO (zk Ux):=xc
noncomputable abbrev WY:Stmt:=xP (top 54) 4
def lS:FnScope paw paw (zk WY):=xc
end
abbrev lZ:Stmt:=top 40
def BI:FnScope ["ones","twos","numbers","one","two"] paj (zk lZ):=xc
def CQ (B:Bl mg) (eS:Cal P w K mg base CX0 1 "before" pab dW) (F:Fun K "merged" "merged" lZ f fd):FnOk P w K mg base CX0 2 f fd paj lH:=by
 walk_at "+BI";obtain ⟨G,⟨p,q⟩,eG,hA,⟨⟨n,z1,z2,hn⟩,l1,l2⟩,k⟩:=h;obtain ⟨v1,v2,rfl,al⟩:=xG hA;have S:Sta H G H [] [(.list (p.map frD),v1),(.list (q.map frD),v2)]:=Sta.enter eG al;dsimp only at z1 z2 l1 l2 k;have I:n+n<=100000000:=⋯
 walk_at "=ej2Bcej3dej4de-N31a3Cba0ck61a4Cba1ckflMhbqa0a3bqa1a4ceDZa2bqa0a3cf(3delosnqa0a3qa1a4kf(3dmeDZa2bqa1a4cf(4dfizza2Xa0Ka3YXa1Ka4Y";left;rename_i pn H1 e1 S1;refine og (λm σ cs ds=>∃(i j:Nat) (ns:List Rat),σ=[some v1,some v2,some (.ref pn),some (.int (i:Nat)),some (.int (j:Nat))]/\cs=[(pn,ns.map frD)]/\ds=[(.list (p.map frD),v1),(.list (q.map frD),v2)]/\i<=p.length/\j<=q.length/\ns.length<=i+j/\ns++yA (p.drop i) (q.drop j)=yA p q/\m=(p.length - i)+(q.length - j)) ((p.length - 0)+(q.length - 0)) S1 ⟨0,0,[],rfl,rfl,rfl,TR _,TR _,TR _,rfl,rfl⟩ ?_
 rintro m σ H2 cs ds ⟨i,j,ns,rfl,rfl,rfl,hi,hj,NW,Nq,rfl⟩ S2
 have cd:∀(l:List Rat) (t:Nat),t<=l.length->nA (l.map frD) (some ((t:Nat):Int)) none=(l.drop t).map frD:=by
  intro l t ht;unfold nA;rw [HT.sIx_none,HT.sIx_nat,Qa,Nat.min_eq_left ht,Tw (by rw [To,Qa];exact Qu _),<-List.map_drop]
 left;refine yS (λN=>?_) (λN=>?_)
 ·rw [Qa] at N;left;refine rQ (λM=>?_) (λM=>?_)
  ·rw [Qa,decide_eq_true_eq] at M;have A:i<p.length:=⋯
   have z:j<q.length:=⋯
   have gi:=Qb A;have gj:=Qb z;have Y:=jbK A;have X:=jbK z;have zi:=z1 _ (Ta A);have zj:=z2 _ (Ta z);generalize p[i]=x at*;generalize q[j]=y at*;have D:atI (p.map frD) ((i:Nat):Int)=some (frD x):=yt (by rw [Qh,gi];rfl);have C:atI (q.map frD) ((j:Nat):Int)=some (frD y):=yt (by rw [Qh,gj];rfl);rw [Y,X,yA] at Nq;left;refine xk (xs:=p.map frD) (x:=frD x) S2 .mm D λw3 s=>?_;left;refine xk (xs:=q.map frD) (x:=frD y) s .mm C λw4 u=>?_;left;refine pJ u .mm .mm zi zj I ?_;left;refine yS (λL=>?_) (λL=>?_)
   ·rw [QJ L] at Nq;left;refine xk (xs:=p.map frD) (x:=frD x) u .mm D λw5 g=>?_;left;refine yW (y:=frD x) g .mm (by rw [Qa];omega) λZ r=>?_;left;refine ⟨_,?_,_,_,r.dat ‹()›,i+1,j,ns++[x],rfl,by rw [QM];rfl,rfl,A,hj,by rw [QB,TL];omega,?_,rfl⟩
    ·omega
    ·rw [<-Nq,X,jaf];rfl
   ·rw [QO L] at Nq;left;refine xk (xs:=p.map frD) (x:=frD x) u .mm D λw5 g=>?_;left;refine xk (xs:=q.map frD) (x:=frD y) g .mm C λw6 r=>?_;refine Cq (x:=frD x) (y:=frD y) (r.hp .mm) (r.hp .mm) (VA _) (VA _) ?_;rw [Ef];left;refine yS (λJ=>?_) (λJ=>?_)
    ·rw [QJ J] at Nq;left;refine xk (xs:=q.map frD) (x:=frD y) r .mm C λw7 T=>?_;left;refine yW (y:=frD y) T .mm (by rw [Qa];omega) λH8 O=>?_;left;refine ⟨_,?_,_,_,O.dat ‹()›,i+1,j+1,ns++[y],rfl,by rw [QM];rfl,rfl,A,z,by rw [QB,TL];omega,?_,rfl⟩
     ·omega
     ·rw [<-Nq,jaf];rfl
    ·rw [QO J] at Nq;left;refine xk (xs:=q.map frD) (x:=frD y) r .mm C λw7 T=>?_;left;refine yW (y:=frD y) T .mm (by rw [Qa];omega) λH8 O=>?_;left;refine ⟨_,?_,_,_,O.dat ‹()›,i,j+1,ns++[y],rfl,by rw [QM];rfl,rfl,hi,z,by rw [QB,TL];omega,?_,rfl⟩
     ·omega
     ·rw [<-Nq,Y,jaf];rfl
  ·rw [Qa,decide_eq_false_iff_not] at M;have U:p.length<=i\/q.length<=j:= .inr ⋯;left;refine pB (xs:=p.map frD) S2 .mm λl3 H3 e3 s=>?_;rw [cd p i hi] at s;refine Zn s (s.vwC (by right)) (s.vwC (by right)) (by rw [Qa,Qa,To];omega) λp4 H4 e4 u=>?_;left;refine pB (xs:=q.map frD) u .mm λl5 H5 e5 g=>?_;rw [cd q j hj] at g;refine Zn g (g.vwC (by right)) (g.vwC (by right)) (by rw [QB,Qa,Qa,Qa,To,To];omega) λp6 Z e6 r=>?_;refine Ip ?_
   have em:(ns.map frD++(p.drop i).map frD)++(q.drop j).map frD=(yA p q).map frD:=by
    rw [<-Nq,QM,jaf]
    congr 1
    rcases U with h|h
    ·rw [jbu h,yA];simp
    ·rw [jbu h,gI];simp
   rw [em] at r;exact xK (r.weak (cs':=[_]) (by walk_at "sub") Dats.nil) k
 ·rw [Qa] at N;have U:p.length<=i\/q.length<=j:= .inl ⋯;refine rQ (λh=>by cases h) (λ_=>?_);left;refine pB (xs:=p.map frD) S2 .mm λl3 H3 e3 s=>?_;rw [cd p i hi] at s;refine Zn s (s.vwC (by right)) (s.vwC (by right)) (by rw [Qa,Qa,To];omega) λp4 H4 e4 u=>?_;left;refine pB (xs:=q.map frD) u .mm λl5 H5 e5 g=>?_;rw [cd q j hj] at g;refine Zn g (g.vwC (by right)) (g.vwC (by right)) (by rw [QB,Qa,Qa,Qa,To,To];omega) λp6 Z e6 r=>?_;refine Ip ?_
  have em:(ns.map frD++(p.drop i).map frD)++(q.drop j).map frD=(yA p q).map frD:=by
   rw [<-Nq,QM,jaf]
   congr 1
   rcases U with h|h
   ·rw [jbu h,yA];simp
   ·rw [jbu h,gI];simp
  rw [em] at r;exact xK (r.weak (cs':=[_]) (by walk_at "sub") Dats.nil) k
abbrev Zy:Stmt:=top 38
def UW:FnScope ["path","place","levels","amounts","purses","level","reached","portion"] paR (zk Zy):=xc
def Gk (B:Bl mg) (jI:Cal P w K mg base CX0 2 "last_reached" paQ ud) (cM:Cal P w K mg base CX0 4 "portion_reached" pax UR) (tQ:Cal P w K mg base CX0 4 "amount_at" pav dX) (F:Fun K "purses_reaching" "purses_reaching" Zy f fd):FnOk P w K mg base CX0 5 f fd paR qZ:=by
 walk_at "+UW";obtain ⟨G,⟨a,g,L⟩,eG,hA,⟨m,n,b,ok⟩,k⟩:=h;obtain ⟨v1,v2,N,rfl,al⟩:=Ye hA;have S:Sta H G H [] [(yy a,v1),(.int (g:Nat),v2),(.list (L.map frD),N)]:=Sta.enter eG al;dsimp only at ok k;cases (S.hp (x:= .int (g:Nat)) (v:=v2) .mm).int_of;have la:0<a.length:=jaV.mpr ok.pr.ne;have fa:=ok.pr.few;have fl:=ok.few;have hz:=ok.sz;walk_at "=eO3corner,place;11;wa0p0uqg0a1ej4BceFwa2A5ej6hba3ba5cfl1a6UCba0cdkej7hbqa3a6bqa3za6dba5cfDZa4bhbqqa0a6dbqqa0za6ddba7ccmfia4";left;refine zO (xs:=a.map zL) S .mm λJ Z=>?_;refine yo Z (λj=>frD ((λc:zg=>c.2.getD g 0) (a.getD j (0,[])))) (ys:=(a.map λc=>c.2.getD g 0).map frD) (by rw [Qa,Qr];exact zm (λc:zg=>frD (c.2.getD g 0)) (0,[]) a) S (λj x v=>λhx t1 S hd=>?_) λD H1 e1 S1=>?_
 ·obtain ⟨c,p,rfl⟩:=zK hx;have gc:=getD_some (l:=c.2) (k:=g) (by rw [ok.pm.t.len c (Qc p)];exact ok.kn);refine zB ⟨rfl,?_⟩;left;rename_i w2 S2;refine pH (xs:=c.2.map frD) (x:=frD (c.2.getD g 0)) S2 .mm (yt (by rw [Qh,gc];rfl)) λw3 S3=>?_;refine hd S3 ?_;rw [zG p];exact .mem (by right)
 have S2:=S1.freeze;clear S1;left;rename_i pp H3 e3 S3;have S4:Sta H G H3 [(pp,[])] [(.list ((a.map λc=>c.2.getD g 0).map frD), .ref D),(yy a,v1),(.list (L.map frD),N)]:=S3.dat ‹()›;refine zO (xs:=L.map frD) S4 .mm λJ Z=>?_;refine Zs Z (λi σ cs ds=>∃(Y X U:Option V),σ=[some v1,some (.int (g:Nat)),some N,some (.ref D),some (.ref pp),Y,X,U]/\cs=[(pp,((L.take i).filterMap (xh a g)).map frD)]/\ds=[(.list ((a.map λc=>c.2.getD g 0).map frD), .ref D),(yy a,v1),(.list (L.map frD),N)]) S4 ⟨none,none,none,rfl,rfl,rfl⟩ (λi σ cs ds h=>?_) ?_ ?_
 ·obtain ⟨_,_,_,_,_,rfl⟩:=h;exact .mem (by right)
 ·rintro i x u σ H5 cs ds hx ⟨Y,X,U,rfl,rfl,rfl⟩ S5
  obtain ⟨l,hl,rfl⟩:=zK hx;obtain ⟨T,l0⟩:=ok.lev l (Qc hl);have Sd:i<L.length:=(Qd.mp hl).1;have O:∀c∈a,SzQ n (c.2.getD g 0):=λc p=>(ok.pr.sz c p).2 _ (Qc (getD_some (l:=c.2) (k:=g) (by rw [ok.pm.t.len c p];exact ok.kn)))
  have s:∀o:Option Rat,xh a g l=o->((L.take (i+1)).filterMap (xh a g)).map frD=((L.take i).filterMap (xh a g)).map frD++(o.toList.map frD):=λo ho=>by
   rw [jab,hl,List.filterMap_append,QM]
   congr 1
   cases o with
   |none=>simp [ho]
   |some y=>simp [ho]
  left;refine Ci (qs:=a.map λc=>c.2.getD g 0) (e:=l) (n:=9000) S5 (S5.hp .mm) (S5.hp .mm) ⟨by rw [Qa];exact la,by rw [Qa];omega,λq hq=>?_,T.mono ⋯,nofun,λq hq=>?_⟩ λr q hi NF Pa=>?_
  ·obtain ⟨c,p,rfl⟩:=Qj.mp hq;exact (O c p).mono ⋯
  ·obtain ⟨c,p,rfl⟩:=zK hq;exact l0 c p
  obtain ⟨c,p,rfl⟩:=zK hi;have M:r<a.length:=(Qd.mp p).1;rw [Qa] at Pa;left;refine yS (λc1=>?_) (λc1=>?_)
  ·rw [Qa] at c1
   obtain ⟨y,hy,C⟩:∃y,(a.map λc=>c.2.getD g 0)[r+1]? =some y/\l<y:=by
    rcases Pa with h|h
    ·omega
    ·exact h
   obtain ⟨d,hd,rfl⟩:=zK hy
   have key:xh a g l=some (xU ((l - c.2.getD g 0) / (d.2.getD g 0 - c.2.getD g 0)) c.1 d.1):=by
    have pm:=ok.pm;have A:=ok.kn
    obtain ⟨c0,r0,e0⟩:∃c r,a=c::r:=by
     cases a with
     |nil=>simp at M
     |cons c r=>exact ⟨c,r,rfl⟩
    rw [e0] at pm p hd⊢;exact pf A pm p hd NF C
   have zc:=O c (Qc p);have zd:=O d (Qc hd);have z1:=(ok.pr.sz c (Qc p)).1;have z2:=(ok.pr.sz d (Qc hd)).1;have er:((r:Nat):Int)+1=((r+1:Nat):Int):=⋯
   have MW:d.2.getD g 0≠c.2.getD g 0:=λz=>by rw [z] at C;exact jaq.mpr C NF
   have zt:=SzQ.port T zc zd;have st:=s _ key;left;refine xk (xs:=(a.map λc=>c.2.getD g 0).map frD) (x:=frD (c.2.getD g 0)) S5 .mm (yt (by rw [Qh,hi];rfl)) λw6 S6=>?_;left;refine xk (xs:=(a.map λc=>c.2.getD g 0).map frD) (x:=frD (d.2.getD g 0)) S6 .mm (by rw [er];exact yt (by rw [Qh,hy];rfl)) λw7 S7=>?_;left;generalize c.2.getD g 0=x0 at*;generalize d.2.getD g 0=y0 at*;refine jU S7 .mm .mm .mm zc zd T ⋯ MW λr8 H8 e8 S8=>?_;generalize (l - x0) / (y0 - x0)=t at*;left;refine xk (xs:=a.map zL) (x:=zL c) S8 .mm (yt (by rw [Qh,p];rfl)) λw9 S9=>?_;left;rename_i RK Nn;refine xk (xs:=a.map zL) (x:=zL d) Nn .mm (by rw [er];exact yt (by rw [Qh,hd];rfl)) λw11 Nw=>?_;left;rename_i w12 Ni;refine pK Ni .mm .mm .mm z1 z2 zt ⋯ λr13 SF SA Nk=>?_;left;refine yW (y:=frD (xU t c.1 d.1)) Nk .mm ?_ λH14 NX=>?_
   ·rw [Qa];have:=jbm (xh a g) (L.take i);rw [TC] at this;omega
   left;exact YM (NX.dat ‹()›) ⟨_,_,_,rfl,by rw [st];rfl,rfl⟩
  ·rw [Qa] at c1;have I:r+1=a.length:=⋯
   have key:xh a g l=none:=by
    have pm:=ok.pm;have A:=ok.kn
    obtain ⟨c0,r0,e0⟩:∃c r,a=c::r:=by
     cases a with
     |nil=>simp at M
     |cons c r=>exact ⟨c,r,rfl⟩
    rw [e0] at pm p I⊢;refine jT A pm λl' Nb=>?_;rw [jay,<-I,Nat.add_sub_cancel,p] at Nb;cases Nb;exact NF
   have st:=s _ key;left;exact YM (S5.dat ‹()›) ⟨_,_,_,rfl,by rw [st];simp,rfl⟩
 ·rintro σ H5 cs ds ⟨Y,X,U,rfl,rfl,rfl⟩ S5
  rw [Qa,List.take_length] at S5;left;exact xK S5 k
abbrev Xh:Stmt:=top 39
def fG:FnScope ["path","others","purse","parts","part","other"] paS (zk Xh):=xc
def wD (B:Bl mg) (AK:Cal P w K mg base CX0 6 "parts_at" ["path","purse"] US) (F:Fun K "parts_within" "parts_within" Xh f fd):FnOk P w K mg base CX0 7 f fd paS aV:=by
 walk_at "+fG";obtain ⟨G,⟨a,Qs,e⟩,T,M,ok,k⟩:=h;obtain ⟨v1,v2,y,rfl,al⟩:=Ye M;have S:Sta H G H [] [(yy a,v1),(.list (Qs.map yy),v2),(frD e,y)]:=Sta.enter T al;dsimp only at ok k;unfold yT at k;have few:=ok.few;have len:=ok.len;have part:=ok.part;walk_at "=ej3BceFζbhba0ba2cba1cHyA4yA5IfDиa3bhba5ba4ccfi8ba3c";left;rename_i pp H1 e1 S1;refine bE (a:=a) (e:=e) (m:=700) (n:=700) S1 .mm .mm ok.p ok.ez nofun ok.e0 λA H2 e2 Z=>?_;left;generalize zh a e=ps at*;have C:Sta H G H2 [(pp,[])] [(yl ps,A),(.list (Qs.map yy),v2)]:=Z.dat ‹()›;refine um (xs:=ps.map frD) (ys:=Qs.map yy) C .mm .mm λJ D=>?_;refine Zs D (λi σ cs ds=>∃(s r:Option V),σ=[some v1,some v2,some y,some (.ref pp),s,r]/\cs=[(pp,(((List.zipWith zh Qs ps).take i).flatten).map frD)]/\ds=[(yl ps,A),(.list (Qs.map yy),v2)]) C ⟨none,none,rfl,rfl,rfl⟩ (λi σ cs ds h=>?_) ?_ ?_
 ·obtain ⟨_,_,_,_,rfl⟩:=h;exact ⟨.mem (by right),λ_ _ h=>h.tail, .mem (by right)⟩
 ·rintro i z u σ H4 cs ds hz ⟨s,r,rfl,rfl,rfl⟩ S4
  obtain ⟨z1,z2,O,N,rfl⟩:=ZX hz;obtain ⟨p,hp,rfl⟩:=zK O;obtain ⟨t,g,rfl⟩:=zK N;have op:=part p (Qc hp);obtain ⟨I,ql⟩:=ok.q t (Qc g);refine xB (xA S4 .mm λw4 w5 Y=>?_);left;refine bE (a:=t) (e:=p) (m:=700) (n:=700) Y .mm .mm I op.1 nofun op.2 λr6 H6 e6 X=>?_;left;refine wg (ys:=(zh t p).map frD) X .mm ?_ λH7 U=>?_
  ·rw [Qa,Qa];have l1:=Ea (ps:=ps) i λQ g c L=>(ok.q Q g).2 c L;have l2:=gw (e:=p) ql;omega
  left;refine YM (U.dat ‹()›) ⟨_,_,rfl,?_,rfl⟩;rw [jab,Qt,g,hp]
  simp
 ·rintro σ H4 cs ds ⟨s,r,rfl,rfl,rfl⟩ S4
  rw [xf,Qa,Qa,Tw (by rw [QC];omega)] at S4;left;exact YL (by assumption) k .mm
abbrev lT:Stmt:=top 29
def BD:FnScope ["path","others","purses","place","other"] paY (zk lT):=xc
def CG (B:Bl mg) (vK:Cal P w K mg base CX0 2 "merged" paj lH) (AJ:Cal P w K mg base CX0 5 "purses_reaching" paR qZ) (Fc:Cal P w K mg base CX0 7 "parts_within" paS aV) (F:Fun K "within" "within" lT f fd):FnOk P w K mg base CX0 8 f fd paY UP:=by
 walk_at "+BD";obtain ⟨G,⟨a,Qs⟩,eG,Z,ok,k⟩:=h;obtain ⟨v1,v2,rfl,al⟩:=xG Z;have S:Sta H G H [] [(yy a,v1),(.list (Qs.map yy),v2)]:=Sta.enter eG al;dsimp only at ok k;have pl:=ok.pl;have few:=ok.few;walk_at "=eO2corner;1;wa0p0ug0eF^ba1cHyA3yA4Ifj2hba2bhba0ba3bxcorner;1;wa4p0ug0ccfixpurse,path,others;101;wa2p0utba0bhba1ba2ba0cc";left;refine zO (xs:=a.map zL) S .mm λJ z=>?_;refine yo z (λj=>frD ((λc:zg=>c.1) (a.getD j (0,[])))) (ys:=(zZ a).map frD) (by unfold zZ;rw [Qa,Qr];exact zm (λc:zg=>frD c.1) (0,[]) a) S (λj x v=>λm t1 S hd=>?_) λD H1 e1 X=>?_
 ·obtain ⟨c,I,rfl⟩:=zK m;refine zB ⟨rfl,?_⟩;left;refine hd (by assumption) ?_;rw [zG I];exact .mem (by right)
 have U:=X.freeze;clear X;left;refine mD (xs:=Qs.map yy) U .mm λJ z=>?_;refine Zs z (λi σ cs ds=>∃(pp:Addr) (y t:Option V),σ=[some v1,some v2,some (.ref pp),y,t]/\cs=[]/\ds=[(.list ((wpF a 0 (Qs.take i) (zZ a)).map frD), .ref pp),(yy a,v1),(.list (Qs.map yy),v2)]) U ⟨D,none,none,rfl,rfl,rfl⟩ (λi σ cs ds h=>?_) ?_ ?_
 ·obtain ⟨_,_,_,_,_,rfl⟩:=h;exact .mem (by right)
 ·rintro i x u σ H3 cs ds m ⟨pp,y,t,rfl,rfl,rfl⟩ S3
  obtain ⟨x0,MX,rfl⟩:=VH m;obtain ⟨g,r,rfl⟩:=zK MX;have Sd:i<Qs.length:=(Qd.mp r).1;have ql:=ok.ql g (Qc r);refine xB (xA S3 .mm λw3 w4 M=>?_);cases M.int1;left;refine zO (xs:=g.map zL) M .mm λJ2 N=>?_;refine yo N (λj=>frD ((λc:zg=>c.1) (g.getD j (0,[])))) (ys:=(zZ g).map frD) (by unfold zZ;rw [Qa,Qr];exact zm (λc:zg=>frD c.1) (0,[]) g) M (λj x v=>λm t1 S hd=>?_) λD5 H5 e5 s=>?_
  ·obtain ⟨c,I,rfl⟩:=zK m;refine zB ⟨rfl,?_⟩;left;refine hd (by assumption) ?_;rw [zG I];exact .mem (by right)
  have T:=s.freeze;clear s;left;refine FK (P:=a) (k:=i) (L:=zZ g) T .mm .mm (ok.reach r) λY H7 e7 O=>?_;have S8:Sta H G H7 [] [(.list ((YA a i g).map frD), .ref Y),(.list ((wpF a 0 (Qs.take i) (zZ a)).map frD), .ref pp),(yy a,v1),(.list (Qs.map yy),v2)]:=O.freeze.dat ‹()›;clear O;left;refine Cg (p:=wpF a 0 (Qs.take i) (zZ a)) (q:=YA a i g) (n:=700) S8 .mm .mm (λq A=>(ok.szM _ (Fo A)).1) (λq A=>(ok.szM _ (bL.mpr (.inr ⟨i,g,r,by rw [jbo];exact A⟩))).1) nofun (by have:=ok.len i;omega) ?_ λpm H9 e9 S9=>?_
  ·unfold YA;have:=jbm (xh a i) (zZ g);have e:(zZ g).length=g.length:=by unfold zZ;rw [Qa]
   omega
  left;have et:Qs.take (i+1)=Qs.take i++[g]:=by rw [jab,r];rfl
  have ew:wpF a 0 (Qs.take (i+1)) (zZ a)=yA (wpF a 0 (Qs.take i) (zZ a)) (YA a i g):=by
   rw [et,tR,jbo,TC,Nat.min_eq_left ⋯]
  refine YM (S9.freeze.dat (ds':=[(.list ((yA (wpF a 0 (Qs.take i) (zZ a)) (YA a i g)).map frD), .ref pm),(yy a,v1),(.list (Qs.map yy),v2)]) ‹()›) ⟨pm,_,_,rfl,rfl,by rw [ew]⟩
 ·rintro σ H3 cs ds ⟨pp,y,t,rfl,rfl,rfl⟩ S3
  rw [xV,Qa,List.take_length] at S3;left;refine zO (xs:=(wpV a Qs).map frD) S3 .mm λJ2 N=>?_;refine yp N (λj=>zL ((λe:Rat=>(e,yT Qs (zh a e))) ((wpV a Qs).getD j 0))) (ys:=(yw a Qs).map zL) (by unfold yw;rw [Qa,Qr];exact zm (λe:Rat=>zL (e,yT Qs (zh a e))) 0 (wpV a Qs)) S3 (λ_ _=> .mem (by right)) (by rw [Qa];have:=ok.lenV;omega) (λj x v B' G' Kd Kn m t1 S hd C ex s0 H0=>?_) λD5 H5 e5 s=>?_
  ·obtain ⟨e,he,rfl⟩:=zK m;refine zB ⟨rfl,?_⟩;left;refine rS (P:=a) (Qs:=Qs) (e:=e) S .mm .mm .mm (ok.pw (Qc he)) λr6 H6 e6 T=>?_;left;refine hd (by assumption) ?_;rw [zG he];exact .mem (by right)
  left;exact xK s k
abbrev bh:Stmt:=top 19
def rE:FnScope paB paB (zk bh):=xc
def Gg (F:Fun K "those_at" "those_at" bh f fd):FnOk P w K mg base CX0 1 f fd paB fi:=by
 walk_at "+rE";obtain ⟨G,⟨l,pl⟩,t,s,⟨lt,few⟩,k⟩:=h;obtain ⟨v0,v1,rfl,al⟩:=xG s;have S:Sta H G H [] [(zA l,v0),(plD pl,v1)]:=Sta.enter t al;dsimp only at lt few k;walk_at "=fixplace,claims;10;wa1p0uqa1a0";left;refine zO (xs:=pl.map λ(i:Nat)=>PyData.int (i:Int)) S .mm λJ p=>?_;refine yo p (λj=>zF (l.getD (pl.getD j 0) (0,0,0))) (ys:=(yk (0,0,0) pl l).map zF) (by unfold yk;rw [Qa,Qr];exact zm (λi:Nat=>zF (l.getD i (0,0,0))) 0 pl) S (λj x v=>λr t1 S hd=>?_) λD H1 A y=>?_
 ·obtain ⟨i,g,rfl⟩:=zK r;cases S.int1;have q:=lt i (Qc g);have m:=Qb q;refine zB ⟨rfl,?_⟩;left;refine xk (xs:=l.map zF) (x:=zF l[i]) S .mm (yt (by rw [Qh,m];rfl)) λz u=>?_;refine hd u ?_;rw [zG g,zG m];exact .mem (by right)
 exact xK y k
abbrev ZY:Stmt:=top 20
def aZ:FnScope paP paP (zk ZY):=xc
def CO (B:Bl mg) (F:Fun K "places_of_rank" "places_of_rank" ZY f fd):FnOk P w K mg base CX0 1 f fd paP (XU zH):=by
 walk_at "+aZ";obtain ⟨G,⟨l,g⟩,A,u,few,k⟩:=h;obtain ⟨v0,v1,rfl,al⟩:=xG u;have q:Sta H G H [] [(.int g,v1),(zA l,v0)]:=(Sta.enter A al).dat ‹()›;cases q.int1;have S:Sta H G H [] [(zA l,v0)]:=q.dat ‹()›;dsimp only at few k;walk_at "=fixplace,claim,rank;21;^ba0cHyp0yp1I@osng1a2ka0";left;refine mD (xs:=l.map zF) S .mm λJ r=>?_;refine cc r (λj=>if zH g (l.getD j (0,0,0)) then some (.int (j:Int)) else none) S (λ_ _=> .mem (by right)) (by rw [xV,Qa];omega) (λi x v Y X T O s t1 S hd hn C ex s0 U=>?_) λD H1 N p=>?_
 ·obtain ⟨x0,I,rfl⟩:=VH s;obtain ⟨c,t,rfl⟩:=zK I;refine xB (xA S .mm λM L m=>?_);cases m.int1;refine yP (zB (yP (zB (Wj ⟨rfl,?_⟩))));rw [zG t] at hd hn;left;refine yS (λz=>?_) (λz=>?_)
  ·left;exact hd (QJ (QW z)) m Has.int
  ·exact hn (QO λy=>z (Qz y)) m
 rw [xV,Qa,gm] at p;exact xK p k
abbrev ZA:Stmt:=top 21
def UY:FnScope pai pai (zk ZA):=xc
def wG (B:Bl mg) (F:Fun K "places_of_group" "places_of_group" ZA f fd):FnOk P w K mg base CX0 1 f fd pai (XU zo):=by
 walk_at "+UY";obtain ⟨G,⟨l,g⟩,A,u,few,k⟩:=h;obtain ⟨v0,v1,rfl,al⟩:=xG u;have q:Sta H G H [] [(.int g,v1),(zA l,v0)]:=(Sta.enter A al).dat ‹()›;cases q.int1;have S:Sta H G H [] [(zA l,v0)]:=q.dat ‹()›;dsimp only at few k;walk_at "=fixplace,claim,group;21;^ba0cHyp0yp1I@osng1a2ka0";left;refine mD (xs:=l.map zF) S .mm λJ r=>?_;refine cc r (λj=>if zo g (l.getD j (0,0,0)) then some (.int (j:Int)) else none) S (λ_ _=> .mem (by right)) (by rw [xV,Qa];omega) (λi x v Y X T O s t1 S hd hn C ex s0 U=>?_) λD H1 N p=>?_
 ·obtain ⟨x0,I,rfl⟩:=VH s;obtain ⟨c,t,rfl⟩:=zK I;refine xB (xA S .mm λM L m=>?_);cases m.int1;refine yP (zB (yP (zB (Wj ⟨rfl,?_⟩))));rw [zG t] at hd hn;left;refine yS (λz=>?_) (λz=>?_)
  ·left;exact hd (QJ (QW z)) m Has.int
  ·exact hn (QO λy=>z (Qz y)) m
 rw [xV,Qa,gm] at p;exact xK p k
abbrev Xk:Stmt:=top 22
def fL:FnScope pai pai (zk Xk):=xc
def ok_one (B:Bl mg) (F:Fun K "as_one_claim" "as_one_claim" Xk f fd):FnOk P w K mg base CX0 1 f fd pai Fy:=by
 walk_at "+fL";obtain ⟨G,⟨l,g⟩,z,y,⟨pos,few⟩,k⟩:=h;obtain ⟨v0,v1,rfl,al⟩:=xG y;have u:Sta H G H [] [(.int g,v1),(zA l,v0)]:=(Sta.enter z al).dat ‹()›;cases u.int1;have S:Sta H G H [] [(zA l,v0)]:=u.dat ‹()›;dsimp only at pos few k;walk_at "=fitbSTbxclaim;1;wa0p0ug0cb)ηbxclaim;1;wa0p0ug0cba1c";left;refine zO (xs:=l.map zF) S .mm λJ p=>?_;refine yo p (λj=> .int (l.getD j (0,0,0)).1) (ys:=(amV l).map PyData.int) (by unfold amV;rw [Qa,Qr];exact zm (λc:Cl=>PyData.int c.1) (0,0,0) l) S (λj x v=>λq t1 S hd=>?_) λD H1 I t=>?_
 ·obtain ⟨c,r,rfl⟩:=zK q;refine zB ⟨rfl,?_⟩;left;refine hd (by assumption) ?_;rw [zG r];exact Has.int
 left;have s:Sta H G H1 [] [(zA l,v0)]:=t.dropC;clear t;refine zO (xs:=l.map zF) s .mm λJ p=>?_;refine yo p (λj=> .int (l.getD j (0,0,0)).2.1) (ys:=(l.map (·.2.1)).map PyData.int) (by rw [Qa,Qr];exact zm (λc:Cl=>PyData.int c.2.1) (0,0,0) l) s (λj x v=>λq t1 S hd=>?_) λM L C A=>?_
 ·obtain ⟨c,r,rfl⟩:=zK q;refine zB ⟨rfl,?_⟩;left;refine hd (by assumption) ?_;rw [zG r];exact Has.int
 left;refine Cf (ns:=l.map (·.2.1)) A (by right) (by rw [Qa];exact pos) λm hm low=>?_;have em:m=qN (l.map (·.2.1)):=Dp hm low;subst em;left;exact YL (by assumption) k .mm
abbrev Xf:Stmt:=top 52
def fD:FnScope ["parts","places","count","wide","part","place"] paK (zk Xf):=xc
def wB (B:Bl mg) (F:Fun K "spread_parts" "spread_parts" Xf f fd):FnOk P w K mg base CX0 1 f fd paK fm:=by
 walk_at "+fD";obtain ⟨G,⟨x,pl,n⟩,Y,T,ok,k⟩:=h;obtain ⟨v0,v1,v2,rfl,al⟩:=Ye T;have I:Sta H G H [] [(.int (n:Int),v2),(yl x,v0),(plD pl,v1)]:=(Sta.enter Y al).dat ‹()›;cases I.int1;have S:Sta H G H [] [(yl x,v0),(plD pl,v1)]:=I.dat ‹()›;dsimp only at ok k;have few:=ok.few;walk_at "=ej3εBbtbdbdcca2eFζba0ba1cHyA4yA5Ifθa4йa3a5fi8ba3c";left;rename_i q1 H1 e1 S1 q2 H2 e2 D;refine JE (n:=n) D (by right) ⋯ λg H3 e3 s=>?_;left
 have ez:List.replicate n (PyData.tuple [.int 0, .int 1])=(xS ((x.zip pl).take 0) (List.replicate n 0)).map frD:=by
  rw [List.take_zero,xS,jbx];rfl
 rw [ez] at s;have C:Sta H G H3 [(g,(xS ((x.zip pl).take 0) (List.replicate n 0)).map frD)] [(yl x,v0),(plD pl,v1)]:=s.weak (by walk_at "sub") ‹()›;clear s D S1;refine um (xs:=x.map frD) (ys:=pl.map λ(i:Nat)=>PyData.int (i:Int)) C .mm .mm λJ L=>?_;refine Zs L (λi σ cs ds=>∃(r q:Option V),σ=[some v0,some v1,some (.int (n:Int)),some (.ref g),r,q]/\cs=[(g,(xS ((x.zip pl).take i) (List.replicate n 0)).map frD)]/\ds=[(yl x,v0),(plD pl,v1)]) C ⟨none,none,rfl,rfl,rfl⟩ (λi σ cs ds h=>?_) ?_ ?_
 ·obtain ⟨_,_,_,_,rfl⟩:=h;exact ⟨.mem (by right),λ_ _ h=>h.tail, .mem (by right)⟩
 ·rintro i z u σ H5 cs ds hz ⟨r,q,rfl,rfl,rfl⟩ S5
  obtain ⟨z1,z2,X,U,rfl⟩:=ZX hz;obtain ⟨p,hp,rfl⟩:=zK X;obtain ⟨j,t,rfl⟩:=zK U;have O:=ok.pls.lt j (Qc t);refine xB (xA S5 .mm λN M S6=>?_);have A:Sta H G H5 [(g,(xS ((x.zip pl).take i) (List.replicate n 0)).map frD)] [(.int (j:Int),M),(frD p,N),(yl x,v0),(plD pl,v1)]:=S6.dat ‹()›;cases A.int1;left;refine JD (j:=j) (y:=frD p) A .mm (KG (by rw [Qa,aX,QD];exact O)) λH8 Z=>?_;left;refine YM (Z.dat ‹()›) ⟨_,_,rfl,?_,rfl⟩;have m:(x.zip pl)[i]? =some (p,j):=by rw [Ts];exact ⟨hp,t⟩
  rw [jab,m];show [(g,_)]=[(g,(xS ((x.zip pl).take i++[(p,j)]) (List.replicate n 0)).map frD)];rw [fA,List.map_set]
 ·rintro σ H5 cs ds ⟨r,q,rfl,rfl,rfl⟩ S5
  rw [xf,Qa,Qa,Tw (by rw [List.length_zip];exact Qu _)] at S5;left;exact YL (by assumption) k .mm
abbrev lV:Stmt:=top 51
def BF:FnScope pao pao (zk lV):=xc
def CI (U:Cal P w K mg base CX0 1 "spread_parts" paK fm) (F:Fun K "spread" "spread" lV f fd):FnOk P w K mg base CX0 2 f fd pao UQ:=by
 walk_at "+BF";obtain ⟨G,⟨x,pl,n⟩,s,r,⟨ok,few⟩,k⟩:=h;obtain ⟨v0,v1,v2,rfl,al⟩:=Ye r;have m:Sta H G H [] [(.int (n:Int),v2),(yy x,v0),(plD pl,v1)]:=(Sta.enter s al).dat ‹()›;cases m.int1;have S:Sta H G H [] [(yy x,v0),(plD pl,v1)]:=m.dat ‹()›;dsimp only at ok few k;walk_at "=fixcorner,places,count;112;wa0p0utbg0bhbg0ba1ba2cc";left;refine zO (xs:=x.map zL) S .mm λJ p=>?_;refine yp p (λj=>zL (Xc pl n (x.getD j (0,[])))) (ys:=(yr pl n x).map zL) (by unfold yr;rw [Qa,Qr];exact zm (λc:zg=>zL (Xc pl n c)) (0,[]) x) S (λ_ _=> .mem (by right)) (by rw [Qa];omega) (λj u v X T M L q t1 S hd C ex s0 O=>?_) λD H1 A t=>?_
 ·obtain ⟨c,g,rfl⟩:=zK q;refine zB ⟨rfl,?_⟩;left;refine wb (x:=c.2) (pl:=pl) (n:=n) (by assumption) .mm .mm (ok c (Qc g)) λy N z I=>?_;left;refine hd (by assumption) ?_;rw [zG g];exact .mem (by right)
 exact xK t k
section
variable {A:RAd} {t:Nat}
abbrev lY:Stmt:=top 46
def FH:FnScope ["inner","claims","path","rank","places","paid"] paX (zk lY):=xc
def CN {n:Nat} (B:Bl mg) (B2:Bl3 mg) (XR:Cal P w K mg base CX0 2 "nothing" ["count"] WQ) (WH:Cal P w K mg base CX0 1 "places_of_rank" paP (XU zH)) (VP:Cal P w K mg base CX0 1 "those_at" paB fi) (Wu:Cal P w K mg base CX0 (2*n+8) "course" pay (Xs t n)) (eO:Cal P w K mg base CX0 2 "spread" pao UQ) (VQ:Cal P w K mg base CX0 5 "behind" paN UT) (F:Fun K "ranks" "ranks" lY f fd):FnOk P w K mg base CX0 (2*n+9) f fd paX (lF t n):=by
 walk_at "+FH";obtain ⟨G,⟨r,l⟩,eG,hA,⟨⟨ru,hd⟩,ok⟩,k⟩:=h;obtain ⟨v0,v1,rfl,al⟩:=xG hA;have S:Sta H G H [] [(r.shape,v0),(zA l,v1)]:=Sta.enter eG al;dsimp only at ru hd ok k;have few:=ok.few;walk_at "=ej2hbCba1cceFw:xclaim;1;wa1p0ug0A3ej4hba1ba3cej5hba0bhba1ba4ccfj2hba2bhba5ba4bCba1cccfia2";left;rw [Qa];refine bF S few λY H1 e1 y=>?_;have ez:[zY (Yh l.length)]=rkP r l 0:=by rw [Wv];rfl
 rw [ez] at y;left;refine zO (xs:=l.map zF) y .mm λJ L=>?_;refine yo L (λj=> .int (l.getD j (0,0,0)).2.1) (ys:=(l.map (·.2.1)).map PyData.int) (by rw [Qa,Qr];exact zm (λc:Cl=>PyData.int c.2.1) (0,0,0) l) y (λj x v=>λN t1 S hd=>?_) λD2 H2 e2 S2=>?_
 ·obtain ⟨c,T,rfl⟩:=zK N;refine zB ⟨rfl,?_⟩;left;refine hd (by assumption) ?_;rw [zG T];exact Has.int
 refine Vb S2 (by right) (by rw [Qa];omega) λos s H3 h1 h2 e3 S3=>?_;have eo:os=zQ l:=ZT h1 (yI l).1 λz=>by rw [h2,(yI l).2]
 subst eo;have S4:Sta H G H3 [(Y,(rkP r l 0).map zL)] [(.list ((zQ l).map PyData.int), .ref s),(r.shape,v0),(zA l,v1)]:=S3.freeze.weak (by walk_at "sub") ‹()›;clear y S2 S3;left;refine zO (xs:=(zQ l).map PyData.int) S4 .mm λJ L=>?_;refine Zs L (λi σ cs ds=>∃(pp:Addr) (I D C:Option V),σ=[some v0,some v1,some (.ref pp),I,D,C]/\cs=[(pp,(rkP r l i).map zL)]/\ds=[(.list ((zQ l).map PyData.int), .ref s),(r.shape,v0),(zA l,v1)]) S4 ⟨Y,none,none,none,rfl,rfl,rfl⟩ (λi σ cs ds h=>?_) ?_ ?_
 ·obtain ⟨_,_,_,_,_,_,rfl⟩:=h;exact .mem (by right)
 ·rintro i x u σ H5 cs ds N ⟨pp,I,D,C,rfl,rfl,rfl⟩ S5
  obtain ⟨m,O,rfl⟩:=zK N;cases S5.int1;have q:=ok.filter (zH m) (fX (Qc O));obtain ⟨b1,b2,b3⟩:=BW ru ok O;have X:=YW (zH m) l;have lk:=Zo (zH m) l;have fk:=q.few;have gk:=(ru.gf q).ful.std;have fw:=ru.few q;left;refine pG (p:=zH) (l:=l) (g:=m) S5 .mm few λp6 H6 e6 S6=>?_;have S7:=S6.freeze;left;refine mB (l:=l) (pl:=zN (zH m) l) S7 .mm .mm X.lt ⋯ λp8 H8 e8 U=>?_;rw [<-ZV] at U;have Z:=U.freeze;left;refine ZI (r:=r) (l:=l.filter (zH m)) Z .mm .mm ru hd q λp10 OD e10 Nn=>?_;have Nw:=Nn.freeze;left;rw [Qa];refine pA (x:=zI r (l.filter (zH m))) (pl:=zN (zH m) l) (n:=l.length) Nw .mm .mm (λc T=>⟨X,by rw [(gk.ok c T).1,lk],few⟩) ⋯ λPl PD SD Ni=>?_;have Nk:Sta H G PD [(pp,(rkP r l i).map zL)] [(yy (yr (zN (zH m) l) l.length (zI r (l.filter (zH m)))), .ref Pl),(.list ((zQ l).map PyData.int), .ref s),(r.shape,v0),(zA l,v1)]:=Ni.freeze.dat ‹()›;have NX:=Nk.freeze;clear S6 S7 U Z Nn Nw Ni Nk;left;refine pI (a:=rkP r l i) (b:=yr (zN (zH m) l) l.length (zI r (l.filter (zH m)))) NX .mm .mm b1 b2 b3 λM H15 e15 Ol=>?_;left;refine YM (Ol.dat (ds':=[(.list ((zQ l).map PyData.int), .ref s),(r.shape,v0),(zA l,v1)]) ‹()›) ⟨M,_,_,_,rfl,?_,rfl⟩;rw [FJ O];rfl
 ·rintro σ H5 cs ds ⟨pp,I,D,C,rfl,rfl,rfl⟩ S5
  rw [Qa,Jz] at S5;left;exact xK S5 k
abbrev dY:Stmt:=top 47
def BL:FnScope ["outer","inner","claims","sums","others","places","group","members"] paD (zk dY):=xc
def wJ {n:Nat} (B:Bl mg) (B2:Bl3 mg) (XQ:Cal P w K mg base CX0 1 "places_of_group" pai (XU zo)) (VP:Cal P w K mg base CX0 1 "those_at" paB fi) (Ue:Cal P w K mg base CX0 1 "as_one_claim" pai Fy) (Wu:Cal P w K mg base CX0 (2*n+8) "course" pay (Xs t n)) (eO:Cal P w K mg base CX0 2 "spread" pao UQ) (eM:Cal P w K mg base CX0 8 "within" paY UP) (F:Fun K "groups" "groups" dY f fd):FnOk P w K mg base CX0 (2*n+9) f fd paD (fq t n):=by
 walk_at "+BL";obtain ⟨G,⟨⟨a,b⟩,l⟩,eG,hA,⟨⟨ru,da,db⟩,ok⟩,k⟩:=h;obtain ⟨v0,v1,v2,rfl,al⟩:=Ye hA;have S:Sta H G H [] [(a.shape,v0),(b.shape,v1),(zA l,v2)]:=Sta.enter eG al;dsimp only at ru da db ok k;obtain ⟨ra,rb⟩:=ru.groups;have few:=ok.few;have gfew:=Yu l;walk_at "=ej3Bcej4Bcej5BceFw:xclaim;1;wa2p0ug0A6ej7hba2ba6ceDZa3bhbhba2ba7cba6cceDZa4bhba1bhba2ba7cccfDкa5ba7cfihbhbhba0ba3cba4cba5bCba2cc";left;rename_i C H1 e1 S1 s H2 e2 S2 q H3 e3 S3;refine zO (xs:=l.map zF) S3 .mm λJ Y=>?_;refine yo Y (λj=> .int (l.getD j (0,0,0)).2.2) (ys:=(l.map (·.2.2)).map PyData.int) (by rw [Qa,Qr];exact zm (λc:Cl=>PyData.int c.2.2) (0,0,0) l) S3 (λj x v=>λhx t1 S hd=>?_) λD4 H4 e4 S4=>?_
 ·obtain ⟨c,hc,rfl⟩:=zK hx;refine zB ⟨rfl,?_⟩;left;refine hd (by assumption) ?_;rw [zG hc];exact Has.int
 refine Vb S4 (by right) (by rw [Qa];omega) λos M H5 h1 h2 e5 S5=>?_;have eo:os=zu l:=ZT h1 (zX l).1 λz=>by rw [h2,(zX l).2]
 subst eo;have S6:Sta H G H5 [(q,((nU l).take 0).flatten.map λ(i:Nat)=>PyData.int (i:Int)),(s,((zU (λl=>zI b l) l).take 0).map yy),(C,((zC l).take 0).map zF)] [(.list ((zu l).map PyData.int), .ref M),(a.shape,v0),(b.shape,v1),(zA l,v2)]:=S5.freeze.weak (by walk_at "sub") ‹()›;clear S1 S2 S3 S4 S5;left;refine zO (xs:=(zu l).map PyData.int) S6 .mm λJ Y=>?_;refine Zs Y (λi σ cs ds=>∃(X U:Option V),σ=[some v0,some v1,some v2,some (.ref C),some (.ref s),some (.ref q),X,U]/\cs=[(q,((nU l).take i).flatten.map λ(i:Nat)=>PyData.int (i:Int)),(s,((zU (λl=>zI b l) l).take i).map yy),(C,((zC l).take i).map zF)]/\ds=[(.list ((zu l).map PyData.int), .ref M),(a.shape,v0),(b.shape,v1),(zA l,v2)]) S6 ⟨none,none,rfl,rfl,rfl⟩ (λi σ cs ds h=>?_) ?_ ?_
 ·obtain ⟨_,_,_,_,rfl⟩:=h;exact .mem (by right)
 ·rintro i x u σ H7 cs ds hx ⟨X,U,rfl,rfl,rfl⟩ S7
  obtain ⟨g,D,rfl⟩:=zK hx;cases S7.int1;have gl:=(Qd.mp D).1;have m:=ok.filter (zo g) (Xz (Qc D));have pk:=YW (zo g) l;have lk:=Zo (zo g) l;have fk:=m.few
  have t1:(zC l).take (i+1)=(zC l).take i++[AR g (l.filter (zo g))]:=by
   rw [jab];unfold zC;rw [Qh,D];rfl
  have t2:(zU (λl=>zI b l) l).take (i+1)=(zU (λl=>zI b l) l).take i++[zI b (l.filter (zo g))]:=by
   rw [jab];unfold zU;rw [Qh,D];rfl
  have t3:((nU l).take (i+1)).flatten=((nU l).take i).flatten++zN (zo g) l:=by
   rw [jab,List.flatten_append];unfold nU;rw [Qh,D];show _++(zN (zo g) l++[])=_;rw [jaI]
  have fl:((nU l).take i).flatten.length<=64:=by
   have:∀L∈(nU l).take i,L.length<=8:=λL hL=>by
    obtain ⟨g',Pr,rfl⟩:=Qj.mp (List.mem_of_mem_take hL);rw [Zo];exact QL (jaB _ _) few
   have h1:=qe this;have h2:((nU l).take i).length<=8:=by rw [TC];unfold nU;rw [Qa];omega
   omega
  left;refine pG (p:=zo) (l:=l) (g:=g) S7 .mm few λp8 H8 e8 O=>?_;have N:=O.freeze;left;refine mB (l:=l) (pl:=zN (zo g) l) N .mm .mm pk.lt ⋯ λp10 OD e10 I=>?_;rw [<-ZV] at I;have T:=I.freeze;left;refine rd_one (l:=l.filter (zo g)) (g:=g) T .mm m.pos fk λZ PD SD Ni=>?_;have Nk:Sta H G PD [(C,((zC l).take i).map zF),(q,((nU l).take i).flatten.map λ(i:Nat)=>PyData.int (i:Int)),(s,((zU (λl=>zI b l) l).take i).map yy)] [(zF (AR g (l.filter (zo g))),Z),(plD (zN (zo g) l), .ref p8),(.list ((zu l).map PyData.int), .ref M),(a.shape,v0),(b.shape,v1),(zA l,v2)]:=(Ni.dat ‹()›).rot3;left;refine yW (y:=zF (AR g (l.filter (zo g)))) Nk .mm (by rw [Qa,TC];unfold zC;rw [Qa];omega) λH14 NX=>?_;left;refine mB (l:=l) (pl:=zN (zo g) l) NX .mm .mm pk.lt ⋯ λp15 H15 e15 Ol=>?_;rw [<-ZV] at Ol;have RI:=Ol.freeze;left;refine ZI (r:=b) (l:=l.filter (zo g)) RI .mm .mm rb db m λp17 H17 e17 RH=>?_;have RG:=RH.freeze.rot3;clear O N I T Ni Nk NX Ol RI RH;left;refine yW (y:=yy (zI b (l.filter (zo g)))) RG .mm (by rw [Qa,TC];unfold zU;rw [Qa];omega) λH19 SE=>?_;have S20:=SE.rot3;left;refine wj (ys:=(zN (zo g) l).map λ(i:Nat)=>PyData.int (i:Int)) S20 .mm (by rw [Qa,Qa];omega) λH21 S21=>?_;left;refine YM (S21.dat (ds':=[(.list ((zu l).map PyData.int), .ref M),(a.shape,v0),(b.shape,v1),(zA l,v2)]) ‹()›) ⟨_,_,rfl,?_,rfl⟩;rw [t1,t2,t3,QM,QM,QM];rfl
 ·rintro σ H7 cs ds ⟨X,U,rfl,rfl,rfl⟩ S7
  have e1:(zC l).take (zu l).length=zC l:=Tw (by rw [xI];exact Qu _);have e2:(zU (λl=>zI b l) l).take (zu l).length=zU (λl=>zI b l) l:=Tw (by rw [Ys];exact Qu _);have e3:(nU l).take (zu l).length=nU l:=Tw (by unfold nU;rw [Qa];exact Qu _);rw [Qa,e1,e2,e3] at S7;have O:Sta H G H7 [] [(zA (zC l), .ref C),(.list ((zU (λl=>zI b l) l).map yy), .ref s),(plD (wu l), .ref q),(a.shape,v0),(zA l,v2)]:=S7.freeze.freeze.freeze.dat ‹()›;clear S7;obtain ⟨g1,g2⟩:=DS ru ok;left;refine ZI (r:=a) (l:=zC l) O .mm .mm ra da ok.sums λp9 H9 e9 N=>?_;left;refine vZ (P:=zI a (zC l)) (Qs:=zU (λl=>zI b l) l) N.freeze .mm .mm (DR ru ok) λp10 OD e10 I=>?_;left;rw [Qa];refine pA (x:=yw (zI a (zC l)) (zU (λl=>zI b l) l)) (pl:=wu l) (n:=l.length) I.freeze .mm .mm g1 g2 λRN PF Pk T=>?_;exact xK T k
def wL (B:Bl mg) (B2:Bl3 mg) (vI:Cal P w K mg base CX0 3 "shares" pan (cR 0)) (eR:Cal P w K mg base CX0 2 "evenly" pan (cR 1)) (vL:Cal P w K mg base CX0 6 "losses" pan (cR 2)) (Jb:Cal P w K mg base CX0 6 "upto" paC Bs) (eN:Cal P w K mg base CX0 5 "turned" ["path"] dU)
 (XR:Cal P w K mg base CX0 2 "nothing" ["count"] WQ) (WH:Cal P w K mg base CX0 1 "places_of_rank" paP (XU zH)) (XQ:Cal P w K mg base CX0 1 "places_of_group" pai (XU zo)) (Y:Cal P w K mg base CX0 1 "those_at" paB fi) (Ue:Cal P w K mg base CX0 1 "as_one_claim" pai Fy) (U:Cal P w K mg base CX0 2 "spread" pao UQ) (VQ:Cal P w K mg base CX0 5 "behind" paN UT) (eM:Cal P w K mg base CX0 8 "within" paY UP)
 {fr fg:Addr} {z C:FuncData} (Fr:Fun K "ranks" "ranks" lY fr z) (M:mg "ranks"=some (.ref fr)) (br:yG K z paX []) (Fg:Fun K "groups" "groups" dY fg C) (Nq:mg "groups"=some (.ref fg)) (bg:yG K C paD [])
 (F:Fun K "course" "course" mj f fd) (hm:mg "course"=some (.ref f)) (b:yG K fd pay []):∀n:Nat,FnOk P w K mg base CX0 (2*n+8) f fd pay (Xs t n):=by
 intro n
 induction n with
 |zero=>
  refine F.ok fK (λvs H Q E h=>?_) (λMH A outer s H vs Q E hr h=>?_)
  ·obtain ⟨G,a,_,h,_⟩:=h;rw [<-h.len];rfl
  obtain ⟨G,⟨r,l⟩,_,_,⟨⟨_,hd⟩,_⟩,_⟩:=h;exact absurd hd (by cases r<;>simp [Rl.deep])
 |succ n ih=>
  have X:Cal P w K mg base CX0 (2*n+8) "course" pay (Xs t n):=Vr F ih hm b;have MC:Cal P w K mg base CX0 (2*n+9) "ranks" paX (lF t n):=Vr Fr (CN B B2 XR WH Y X U VQ Fr) M br;have Ms:Cal P w K mg base CX0 (2*n+9) "groups" paD (fq t n):=Vr Fg (wJ B B2 XQ Y Ue X U eM Fg) Nq bg;refine F.ok fK (λvs H Q E h=>?_) (λMH A outer s H vs Q E hr h=>?_)
  ·obtain ⟨G,a,_,h,_⟩:=h;rw [<-h.len];rfl
  obtain ⟨G,⟨r,l⟩,eG,hA,⟨⟨ru,hd⟩,q⟩,k⟩:=h;obtain ⟨v0,v1,rfl,al⟩:=xG hA;have S:Sta H G H [] _:=Sta.enter eG al;dsimp only at ru hd q k S;have ok:=q.ok ru.ht;have nd0:=fK.nd;walk_at "=ej2g0elosna2rkfihba1cmelosna2rkfihba1cmelosna2rkfihba1cmelosna2rkfihbtbdbdcbhba1cbhba1ccmelosna2rkfihbhbg0ba1ccmelosna2rkfihbg0ba1cmelosna2rkfihbg0bg0ba1cmfihbg0bhbg0ba1cbhbg0ba1cc"
  cases r with
  |shares=>
   simp only [Rl.shape] at S;left;refine bG (n:=0) S .mm ok λL H1 O g=>?_;exact xK g k
  |evenly=>
   simp only [Rl.shape] at S;left;refine bG (n:=1) S .mm ok λL H1 O g=>?_;exact xK g k
  |losses=>
   simp only [Rl.shape] at S;left;refine bG (n:=2) S .mm ok λL H1 O g=>?_;exact xK g k
  |halves=>
   simp only [Rl.shape] at S;left;rename_i p0 H0 e0 S0
   have eh:PyData.tuple [.int 1, .int 2]=frD (1 / 2):=by
    unfold frD;rw [show ((1:Rat) / 2).num=1 by decide+kernel,show ((1:Rat) / 2).den=2 by decide+kernel];rfl
   rw [eh] at S0;refine bG (n:=1) S0 .mm ok λL H1 O g=>?_;have m:=g.freeze;left;refine bG (n:=2) m .mm ok λJ T N u=>?_;have Z:=u.freeze;left;refine BZ (p:=1 / 2) (a:=flV 1 l) (b:=flV 2 l) Z .mm .mm .mm (up_ok ok) λp5 H5 e5 D=>?_;rw [Be] at D;exact xK D k
  |other r=>
   simp only [Rl.shape] at S;left;rename_i I g;refine ZI (r:=r) g .mm .mm ru.other (by simp only [Rl.deep] at hd;omega) q λp2 H2 e2 m=>?_;left;refine ph (a:=zI r l) m.freeze .mm (ru.other.inn q) λJ T N u=>?_;exact xK u k
  |upto t b x y=>
   obtain ⟨px,py⟩:=ru.upto;have dx:x.deep<=n:=by simp only [Rl.deep] at hd;omega
   have dy:y.deep<=n:=by simp only [Rl.deep] at hd;omega
   have hp:PyData.tuple [.int t, .int b]=frD (Rat.divInt t b):=FY ru.pok.1;simp only [Rl.shape] at S;rw [hp] at S;left;rename_i I g w2 m;refine ZI (r:=x) m .mm .mm px dx q λJ T N u=>?_;have Z:=u.freeze;left;rename_i w5 D;refine ZI (r:=y) D .mm .mm py dy q λp6 H6 e6 S6=>?_;have S7:=S6.freeze;left;refine BZ (p:=Rat.divInt t b) (a:=zI x l) (b:=zI y l) S7 .mm .mm .mm (ru.up q) λp8 H8 e8 S8=>?_;exact xK S8 k
  |ranks r=>
   simp only [Rl.shape] at S;left;rename_i I g;refine Cc (r:=r) g .mm .mm ru.ranks (by simp only [Rl.deep] at hd;omega) q λp2 H2 e2 m=>?_;exact xK m k
  |groups a b=>
   simp only [Rl.shape] at S;left;rename_i I g w2 m;refine we (a:=a) (b:=b) m .mm .mm .mm ru (by simp only [Rl.deep] at hd;omega) (by simp only [Rl.deep] at hd;omega) q λJ T N u=>?_;exact xK u k
def Gq {fS fT Ru:Addr} {n:Nat} (y:∀r:Rl,ROk K fS fT Ru (A.cls r)) (M:Cal P w K mg base CX0 1 "check_claims" pan rB) (J:Cal P w K mg base CX0 (2*n+8) "course" pay (Xs t n)) (F:Fun K "path" "Rule.path" Ux f fd):FnOk P w K mg base CX0 (2*n+9) f fd paO (rl A t n):=by
 walk_at "+oU";obtain ⟨G,⟨r,l⟩,p,m,⟨⟨pl,hn⟩,g⟩,k⟩:=h;obtain ⟨v0,v1,rfl,al⟩:=xG m;have S:Sta H G H [] _:=Sta.enter p al;dsimp only at pl hn g k S;have ok:=g.ok pl.ht;walk_at "=eDhba1cfihb$a0ba1c";left;refine FU S .mm ok λH1 I u=>?_;left;refine Cn u .mm (y r) λz s=>?_;left;refine ZI s .mm .mm pl hn g λC L D q=>?_;exact xK q k
def CP {fS fT Ru s:Addr} {g:FuncData} {n:Nat} (J:∀r:Rl,ROk K fS fT Ru (A.cls r)) (I:∀r:Rl,Meth K (A.cls r) "path" s) (iW:FnOk P w K mg base CX0 (2*n+9) s g paO (rl A t n)) (iB:yG K g paO []) (U:Cal P w K mg base CX0 6 "parts_at" ["path","purse"] US) (F:Fun K "parts" "Rule.parts" WY f fd):FnOk P w K mg base CX0 (2*n+10) f fd paw (lG A t n):=by
 walk_at "+lS";obtain ⟨G,⟨r,l,e⟩,y,u,⟨⟨⟨pl,hn⟩,p⟩,q,e0⟩,k⟩:=h;obtain ⟨v0,v1,v2,rfl,al⟩:=Ye u;have S:Sta H G H [] _:=Sta.enter y al;dsimp only at pl hn p q e0 k S;walk_at "=fihbлa0мba1cba2c";left;refine Iq (C:=A.cls r) S .mm (J r).cl (I r) (by decide+kernel) ?_;left;refine FO (r:=r) S .mm .mm pl hn p λM H1 O D=>?_;left;refine bE (a:=zI r l) (e:=e) (m:=300) (n:=700) D.freeze .mm .mm (pl.R p) q nofun e0 λL T N z=>?_;exact YL z k .mm
end
abbrev We:Stmt:=top 76
def jc:FnScope paz paz (zk We):=xc
def Km (B:Bl mg) (F:Fun K "_law_cell_at" "_law_cell_at" We f fd):FnOk P w K mg base CX0 1 f fd paz (ue K):=by
 walk_at "+jc";obtain ⟨a,ns,k,rfl,g,h0,q⟩:=h;walk_at "=el1a1Cba0ckfiqa0a1mfid";left;refine JK g ?_;left;refine yS (λc=>?_) (λc=>?_)
 ·left;refine rd_ixS g h0 c ?_;unfold ik at q;rw [QJ c] at q;exact q
 ·left;unfold ik at q;rw [QO c] at q;exact q
abbrev Uu:Stmt:=top 77
def oO:FnScope ["_law_cell","_law_place","_law_number"] paL (zk Uu):=xc
def Gr (F:Fun K "_law_mixed" "_law_mixed" Uu f fd):FnOk P w K mg base CX0 1 f fd paL Jp:=by
 walk_at "+oO";obtain ⟨c,p,rfl,q⟩:=h;walk_at "=ej2EzzvEa0ddvda1ddej2Ezzva2a2vda1ddfiEva2dd";left;exact q
abbrev Wc:Stmt:=top 78
def jb:FnScope pau pau (zk Wc):=xc
def wK (B:Bl mg) (F:Fun K "_law_divisor" "_law_divisor" Wc f fd):FnOk P w K mg base CX0 1 f fd pau oB:=by
 walk_at "+jb";obtain ⟨a,b,rfl,p,q⟩:=h;walk_at "=e-oWna1dkfн0ba1b0a0a1cfi.ba0c";refine kX (λm σ H2=>∃(x y:Int),σ=[some (.int x),some (.int y)]/\0<=y/\Int.gcd x y=Int.gcd a b/\H2=H/\m=y.toNat) _ ⟨a,b,rfl,p,rfl,rfl,rfl⟩ ?_
 rintro m σ H2 ⟨x,y,rfl,hy,hg,rfl,rfl⟩
 left;refine rQ (λc=>?_) (λc=>?_)
 ·have c:y≠0:=by simpa using c
  left;have e:x.fmod y=x % y:=Tp x hy;have g:=jaC x c;have r:=jak x (show 0<y by omega);refine ⟨(x.fmod y).toNat,by rw [e];omega,y,x.fmod y,rfl,by rw [e];exact g,?_,rfl,rfl⟩;rw [e,uN,hg]
 ·have c:y=0:=by simpa using c
  subst c;left
  have e:(x.natAbs:Int)=((Int.gcd a b:Nat):Int):=by
   rw [<-hg,Int.gcd_zero]
  rw [e];exact q
abbrev WU:Stmt:=top 79
def lM:FnScope ["_law_top","_law_bottom","_law_by"] paM (zk WU):=xc
def CU (t:Cal P w K mg base CX0 1 "_law_divisor" pau oB) (F:Fun K "_law_lowest" "_law_lowest" WU f fd):FnOk P w K mg base CX0 2 f fd paM lJ:=by
 walk_at "+lM";obtain ⟨G,⟨a,b⟩,q,m,⟨g,sb⟩,k⟩:=h;cases (yK (ns:=[a,b]) m);have S:Sta H G H [] []:=Sta.enter q λp hp=>absurd hp Qm;dsimp only at g sb k;have s:0<Int.gcd a b:=jby a ⋯
 have r:CDv a ((Int.gcd a b:Nat):Int):=⟨⋯,by
  refine Sz.le sb ?_;have:=Nat.le_of_dvd ⋯ (jbT a b)
  omega⟩
 walk_at "=ej2hba0ba1cfitb7a0a2b7a1a2c";left;refine YL (by assumption) k (.mem ?_);rw [show frD (Rat.divInt a b)= .tuple [.int (a.fdiv ((Int.gcd a b:Nat):Int)), .int (b.fdiv ((Int.gcd a b:Nat):Int))] by unfold frD;rw [<-(UC g).1,<-(UC g).2]];walk_at "mem"
local macro_rules|`(tactic|walk_at "rd")=>`(tactic|first|fail "&182"|fail)
abbrev Uq:Stmt:=top 80
def oJ:FnScope paA paA (zk Uq):=xc
def Ge (B:Bl mg) (F:Fun K "_law_whole" "_law_whole" Uq f fd):FnOk P w K mg base CX0 1 f fd paA fh:=by
 walk_at "+oJ";obtain ⟨n,rfl,q⟩:=h;have S:Sta H H H [] []:=Sta.enter (zP.refl _) λp hp=>absurd hp Qm;have g:Is H (.int n) (.int n):=S.hp Has.int;walk_at "=fi~<ba0b{int;c|}<ba0bαbool;c";left;exact q
abbrev ZC:Stmt:=top 81
def UZ:FnScope paA paA (zk ZC):=xc
def Kk (B:Bl mg) (r:Cal P w K mg base CX0 1 "_law_whole" paA fh) (q:Cal P w K mg base CX0 1 "_law_divisor" pau oB) (F:Fun K "_law_is_fraction" "_law_is_fraction" ZC f fd):FnOk P w K mg base CX0 2 f fd paA Bw:=by
 walk_at "+UZ";obtain ⟨a,m,_,k⟩:=h;obtain ⟨v,rfl,al⟩:=YF m;have S:Sta H H H [] [(frD a,v)]:=Sta.enter (zP.refl _) al;have p:=S.hp (x:=frD a) (v:=v) .mm;walk_at "=elNVRM<ba0bιtuple;cVoWnCba0cdkVRMhbg0c9RMhbg0cfiGmfi~оg0dk|[snhbg0bg0cdk";left;refine Ai rfl ?_;left;refine yS (λ_=>?_) (λc=>absurd (by have:=a.den_pos;omega) c);left
 have g:((a.num.gcd (a.den:Int):Nat):Int)=1:=by
  have:=a.reduced;unfold Nat.Coprime at this;rw [Int.gcd,Int.natAbs_natCast,this];rfl
 rw [QW g];exact k H (zP.refl _)
section
variable {A:RAd}
abbrev WV:Stmt:=top 82
def lN:FnScope ["_law_number"] ["_law_number"] (zk WV):=xc
def CV (F:Fun K "_law_labels" "_law_labels" WV f fd):FnOk P w K mg base CX0 1 f fd ["_law_number"] fo:=by
 walk_at "+lN";obtain ⟨G,n,m,g,_,k⟩:=h;cases (yK (ns:=[n]) g);have S:Sta H G H [] []:=Sta.enter m λp hp=>absurd hp Qm;dsimp only at k;unfold UI at k;walk_at "=elosnEa0ddkfiBbdbdbdcmelosnEa0ddkfiBbz+dddbdbdcmelosnEa0ddkfiBbdb+ddbdcmelosnEa0ddkfiBbdbdbdbdbdbdbdbdcmfiBbdbdbdc";left;refine yS (λc=>?_) (λc=>?_)
 ·rw [QJ c] at k;left;exact xK (by assumption) k
 rw [QO c] at k;left;refine yS (λc=>?_) (λc=>?_)
 ·rw [QJ c] at k;left;exact xK (by assumption) k
 rw [QO c] at k;left;refine yS (λc=>?_) (λc=>?_)
 ·rw [QJ c] at k;left;exact xK (by assumption) k
 rw [QO c] at k;left;refine yS (λc=>?_) (λc=>?_)
 ·rw [QJ c] at k;left;exact xK (by assumption) k
 rw [QO c] at k;left;exact xK (by assumption) k
abbrev bx:Stmt:=top 88
def rH:FnScope ["_law_amounts","_law_parts","_law_level","_law_amount","_law_part"] paH (zk bx):=xc
def Kl (B:Bl mg) (F:Fun K "_law_even" "_law_even" bx f fd):FnOk P w K mg base CX0 1 f fd paH Bx:=by
 walk_at "+rH";obtain ⟨⟨am,tk⟩,G,⟨D,ok⟩,k⟩:=h;obtain ⟨v0,v1,rfl,al⟩:=xG G;have S:Sta H H H [] [(xN am,v0),(xN tk,v1)]:=Sta.enter (zP.refl _) al;dsimp only at D ok;have lt:=ok.1;walk_at "=ej2κμbzBbdca1ceF%ba0ba1cHyA3yA4IflNV1a4dkVPa4a3k9N31a4a3k6oWna4a2kfiGmfiG";left;rename_i Z H1 e1 r;obtain ⟨a1,rfl⟩:=r.refL (xs:=tk.map PyData.int) (v:=v1) .mm;refine Zn r (r.vwC (by right)) (r.vwL .mm) (by rw [Qa];show 1+_<=1000;omega) λY N e2 t=>?_;left;refine JJ (ns:=0::tk) t (by right) (Nat.zero_lt_succ _) λm hm top=>?_;have y:Sta H H N [] [(xN am,v0),(xN tk, .ref a1)]:=t.weak (by walk_at "sub") ‹()›;clear t r;left;refine ah (xs:=am.map PyData.int) (ys:=tk.map PyData.int) y .mm .mm λJ C=>?_;refine Zs C (λi σ cs ds=>(∃q g,σ=[some v0,some (.ref a1),some (.int m),q,g])/\cs=[]/\ds=[(xN am,v0),(xN tk, .ref a1)]) y ⟨⟨none,none,rfl⟩,rfl,rfl⟩ (λi σ cs ds h=>?_) ?_ ?_
 ·obtain ⟨_,rfl,rfl⟩:=h;exact ⟨.mem (by right),λ_ _ h=>h.tail, .mem (by right)⟩
 ·rintro i x u σ H4 cs ds hx ⟨⟨q,g,rfl⟩,rfl,rfl⟩ S4
  obtain ⟨T,O,L,I,rfl⟩:=ZX hx;obtain ⟨a,ha,rfl⟩:=zK L;obtain ⟨p,hp,rfl⟩:=zK I;obtain ⟨b1,b2,M⟩:=ok.2 i a p ha hp;refine xB (xA S4 .mm λX U s=>?_);cases s.int1;cases s.drop1.int1;left;refine yS (λc=>absurd c ⋯) (λ_=>?_);left;refine yS (λc=>absurd c ⋯) (λ_=>?_);left;have fin:∀σ',(∃q g,σ'=[some v0,some (.ref a1),some (.int m),q,g])->AtP H H (λσ cs ds=>(∃q g,σ=[some v0,some (.ref a1),some (.int m),q,g])/\cs=[]/\ds=[(xN am,v0),(xN tk, .ref a1)]) σ' H4:=λσ' h=>YM (s.dat ‹()›) ⟨h,rfl,rfl⟩;refine yS (λc=>?_) (λc=>?_)
  ·have e:p=m:=by
    have t1:=top p (Qf _ (Qc hp))
    rcases Ql.mp hm with z|z
    ·omega
    ·have:=M c m z;omega
   left;refine Ai e ?_;left;exact fin _ ⟨_,_,rfl⟩
  ·left;exact fin _ ⟨_,_,rfl⟩
 ·rintro σ H4 cs ds ⟨⟨q,g,rfl⟩,rfl,rfl⟩ S4
  left;exact k _ S4.base
end
section
variable {A:RAd}
abbrev WW:Stmt:=top 83
def lO:FnScope ["_law_script","_law_at","_law_many","_law_size","_law_labels_here","_law_ranks","_law_groups","_law_claims_here","_law_k","_law_cell","_law_amount","_law_rank"] pal (zk WW):=xc
def Dc (B:Bl mg) (nS:Cal P w K mg base CX0 1 "_law_cell_at" paz (ue K)) (Lr:Cal P w K mg base CX0 1 "_law_mixed" paL Jp) (Jf:Cal P w K mg base CX0 1 "_law_labels" ["_law_number"] fo) (F:Fun K "_law_claims" "_law_claims" WW f fd):FnOk P w K mg base CX0 2 f fd pal (ft K):=by
 walk_at "+lO";obtain ⟨G,a,ns,at',many,size,rfl,eG,hS,⟨Sq,hm1,hm8,hs0,Ra⟩,k⟩:=h;have S:Sta H G H [] []:=Sta.enter eG λp hp=>absurd hp Qm;walk_at "=ej4hbhba0ba1cbdcej5hba4cej6hbQa4dcej7BceF]ba2cA8ej9hba0bza1a8ceja0Qa9da3elosnEa9ddkfjaEQa9ddmelN3osnEa9ddk6Pa8dkfjaqqa70Qa9da8dmejbqa50hba9bdcCba5cfDZa7btbaababbqa60hba9bdcCba6cccfia7";left;generalize mixV (ik ns at') 3=m at*;refine jV S λN H1 e1 S1=>?_;have S1':=S1.freeze;left;refine jV S1' λM H2 e2 S2=>?_;have S2':=S2.freeze;left;rename_i u H3 e3 S3;refine Ck H G ⋯ ⋯ λJ wk=>?_
 refine Zs wk (λi σ cs ds=>∃(l:List Cl) (T O Z Y:Option V),σ=[some (.ref a),some (.int at'),some (.int many),some (.int size),some (.int m),some (.ref N),some (.ref M),some (.ref u),T,O,Z,Y]/\cs=[(u,l.map zF)]/\ds=[(xN (UI (m / 5)), .ref M),(xN (UI m), .ref N)]/\l.length=i/\∀c∈l,(0<=c.1/\0<=c.2.1/\0<=c.2.2)/\c.1<size) S3
  ⟨[],none,none,none,none,rfl,rfl,rfl,rfl,λc C=>absurd C Qm⟩ (λ_ _ _ _ _=>trivial) ?_ ?_
 ·rintro i x v σ H4 cs ds hx ⟨l,T,O,Z,Y,rfl,rfl,rfl,hlen,hok⟩ s
  obtain ⟨hi,rfl⟩:=aj hx;cases s.int1;have hS4:SqL K H4 a (ns.map V.int):=s.base.seq hS;have s:=s.drop1;left;generalize ik ns (at'+(0+(i:Int)))=c at*
  have fin:∀(am:Int) (y8 y9 SH SG:Option V) (r g:Int) (L:Hp),0<=am->am<size->0<=r->0<=g->Sta H G L [(u,l.map zF++[zF (am,r,g)])] [(xN (UI (m / 5)), .ref M),(xN (UI m), .ref N)]->
   AtP H G (λσ cs ds=>∃(l:List Cl) (T O Z Y:Option V),σ=[some (.ref a),some (.int at'),some (.int many),some (.int size),some (.int m),some (.ref N),some (.ref M),some (.ref u),T,O,Z,Y]/\cs=[(u,l.map zF)]/\ds=[(xN (UI (m / 5)), .ref M),(xN (UI m), .ref N)]/\l.length=i+1/\∀c∈l,(0<=c.1/\0<=c.2.1/\0<=c.2.2)/\c.1<size) [some (.ref a),some (.int at'),some (.int many),some (.int size),some (.int m),some (.ref N),some (.ref M),some (.ref u),y8,y9,SH,SG] L:=by
   intro am y8 y9 SH SG r g L h0 hz hr hg t;refine YM t ⟨l++[(am,r,g)],y8,y9,SH,SG,rfl,by rw [QM];rfl,rfl,by rw [QB,hlen];rfl,λc C=>?_⟩
   rcases QT.mp C with z|z
   ·exact hok c z
   ·rw [Qq.mp z];exact ⟨⟨h0,hr,hg⟩,hz⟩
  have q:(l.map zF).length<=1000:=by rw [Qa];omega
  obtain ⟨r,RW,RV⟩:=DD m (mixV c 1);obtain ⟨g,Sh,Sg⟩:=DD (m / 5) (mixV c 2);have ln1:=sF m;have ln2:=sF (m / 5);have sz0:size≠0:=⋯
  have f0:(c / 9).fmod size=c / 9 % size:=Tp _ ⋯;have m1:=jaC (c / 9) sz0;have m2:=jak (c / 9) (show 0<size by omega);left;refine yS (λc1=>?_) (λc1=>?_)
  ·left;refine yS (λc2=>absurd c2 ⋯) (λ_=>?_);left;refine YB (xs:=(UI m).map PyData.int) s .mm RV ?_;left;refine YB (xs:=(UI (m / 5)).map PyData.int) s .mm Sg ?_;left;rename_i q5 L e5 t;refine yW (y:=zF (c / 9 % 5,r,g)) t .mm q λI D=>?_;left;exact fin (c / 9 % 5) _ _ _ _ r g I ⋯ ⋯ RW Sh (D.dat ‹()›)
  ·have q0:0<=(c / 9).fmod size:=by rw [f0];exact m1
   have qz:(c / 9).fmod size<size:=by rw [f0];exact m2
   left;refine yS (λc2=>?_) (λ_=>?_)
   ·left;refine yS (λc3=>?_) (λ_=>?_)
    ·have i0:0+(i:Int)≠0:=⋯
     have e1:=Tp (c / 9) (show 0<=0+(i:Int) by omega);have n1:=jaC (c / 9) i0;have n2:=jak (c / 9) (show 0<0+(i:Int) by omega);rw [<-e1] at n1 n2;left;have hj:((c / 9).fmod (0+(i:Int))).toNat<l.length:=⋯
     have ML:=Qb hj
     have So:atI (l.map zF) ((c / 9).fmod (0+(i:Int)))=some (zF (l[((c / 9).fmod (0+(i:Int))).toNat])):=by
      have:=yt (xs:=l.map zF) (j:=((c / 9).fmod (0+(i:Int))).toNat) (v:=zF (l[((c / 9).fmod (0+(i:Int))).toNat])) (by rw [Qh,ML];rfl);rwa [Int.toNat_of_nonneg n1] at this
     have U:=hok _ (Ta hj);generalize l[((c / 9).fmod (0+(i:Int))).toNat]=X at*;refine Wz (x:=zF X) s (by right) So λw7 S7=>?_;left;refine YB (xs:=(UI m).map PyData.int) S7 .mm RV ?_;left;refine YB (xs:=(UI (m / 5)).map PyData.int) S7 .mm Sg ?_;left;rename_i q5 L e5 t;refine yW (y:=zF (X.1,r,g)) t .mm q λI D=>?_;left;exact fin (X.1) _ _ _ _ r g I U.1.1 U.2 RW Sh (D.dat ‹()›)
    ·skip
     left;refine YB (xs:=(UI m).map PyData.int) s .mm RV ?_;left;refine YB (xs:=(UI (m / 5)).map PyData.int) s .mm Sg ?_;left;rename_i q5 L e5 t;refine yW (y:=zF ((c / 9).fmod size,r,g)) t .mm q λI D=>?_;left;exact fin ((c / 9).fmod size) _ _ _ _ r g I q0 qz RW Sh (D.dat ‹()›)
   ·skip
    left;refine YB (xs:=(UI m).map PyData.int) s .mm RV ?_;left;refine YB (xs:=(UI (m / 5)).map PyData.int) s .mm Sg ?_;left;rename_i q5 L e5 t;refine yW (y:=zF ((c / 9).fmod size,r,g)) t .mm q λI D=>?_;left;exact fin ((c / 9).fmod size) _ _ _ _ r g I q0 qz RW Sh (D.dat ‹()›)
 ·rintro σ H4 cs ds ⟨l,T,O,Z,Y,rfl,rfl,rfl,hlen,hok⟩ s
  left;rw [Zh] at hlen;obtain ⟨G',a',b',X,d',e',f',g'⟩:=s;obtain ⟨z1,z2,us,z3,z4⟩:=e' _ (Qe ..);exact k l u H4 G' us hlen ⟨⋯,⋯,λc C=>(hok c C).1,λc C=>(hok c C).2⟩ ⟨X,a',b',d'⟩ z1 z2 z3 z4
abbrev Ut:Stmt:=top 94
def oN:FnScope ["_law_whole_here","_law_cell","_law_kind","_law_number"] paE (zk Ut):=xc
def Gm (U:Cal P w K mg base CX0 2 "_law_lowest" paM lJ) (F:Fun K "_law_purse" "_law_purse" Ut f fd):FnOk P w K mg base CX0 3 f fd paE rf:=by
 walk_at "+oN";obtain ⟨G,g,c,rfl,L,⟨y,s⟩,k⟩:=h;have S:Sta H G H [] []:=Sta.enter L λp hp=>absurd hp Qm;have good:∀(i j:Int),0<=i->0<j->Sz 300 i->Sz 300 j->0<=Rat.divInt i j/\SzQ 300 (Rat.divInt i j):=λi j J O z1 z2=>⟨Rat.divInt_nonneg J ⋯,SzQ.divInt z1 z2 ⋯⟩;have D:g+3≠0:=⋯
 have C:2*g+5≠0:=⋯
 have T:g<2 ^ 180:=by unfold Sz at s;omega
 have u:(0:Int)<10 ^ Int.toNat 12:=by decide
 walk_at "=ej2Ea1dej3Qa1delosna2dkfitb0a3za0dbdcmelosna2dkfihba0bdcmelosna2dkfihb0a3zvda0dbdcmelosna2dkfihbva0Ea3dbdcmfihb0a3vza0d+ddb+ddc";left;refine yS (λ_=>?_) (λ_=>?_)
 ·left;rename_i M H1 t m;have e:=Tp (c / 5) (show 0<=g+3 by omega);have q:=jaC (c / 5) D;have m2:=jak (c / 5) (show 0<g+3 by omega);rw [<-e] at q m2;have I:PyData.tuple [.int ((c / 5).fmod (g+3)), .int 1]=frD (((c / 5).fmod (g+3):Int):Rat):=rfl;rw [I] at m;exact oZ m k .mm ⟨cf q,by show Sz 300 ((c / 5).fmod (g+3));unfold Sz;omega,by show Sz 300 1;unfold Sz;decide⟩
 left;refine yS (λ_=>?_) (λ_=>?_)
 ·left;refine ag S nofun (by unfold Sz;decide+kernel) λr H1 t m=>?_;exact oZ m k .mm (good _ _ y nofun (s.mono nofun) (by unfold Sz;decide))
 left;refine yS (λ_=>?_) (λ_=>?_)
 ·left;have e:=Tp (c / 5) (show 0<=2*g+5 by omega);have q:=jaC (c / 5) C;have m2:=jak (c / 5) (show 0<2*g+5 by omega);rw [<-e] at q m2;refine ag S nofun (by unfold Sz;decide+kernel) λr H1 t m=>?_;exact oZ m k .mm (good _ _ q nofun (by unfold Sz;omega) (by unfold Sz;decide))
 left;refine yS (λ_=>?_) (λ_=>?_)
 ·have o:IntMulOk g (c / 5 % 1009):=s.mulOk (n:=10) (by unfold Sz;omega) nofun;left;refine ag S nofun (by unfold Sz;decide+kernel) λr H1 t m=>?_;exact oZ m k .mm (good _ _ (Int.mul_nonneg y ⋯) nofun ((s.mul (n:=10) (by unfold Sz;omega)).mono nofun) (by unfold Sz;decide))
 have z1:Sz 181 (g+1):=by unfold Sz;omega
 have z2:Sz 60 ((10:Int) ^ Int.toNat 12):=by unfold Sz;decide
 have N:IntMulOk (g+1) (10 ^ Int.toNat 12):=z1.mulOk z2 nofun;have zz:=z1.mul z2;have pp:0<(g+1)*(10:Int) ^ Int.toNat 12:=Int.mul_pos ⋯ u;have z:(g+1)*(10:Int) ^ Int.toNat 12≠0:=⋯
 have e:=Tp (c / 5) (show 0<=(g+1)*(10:Int) ^ Int.toNat 12 by omega);have q:=jaC (c / 5) z;have m2:=jak (c / 5) pp;rw [<-e] at q m2;left;refine ag S u (z2.mono nofun) λr H1 t m=>?_;exact oZ m k .mm (good _ _ q u ((om q (jbc m2) zz).mono nofun) (z2.mono nofun))
end
abbrev bt:Stmt:=top 89
def Uk:FnScope ["_law_shape_here","_law_claims_here","_law_parts","_law_amounts","_law_whole_here","_law_purse_here","_law_amount","_law_part"] paa (zk bt):=xc
abbrev ZQ:Stmt:=top 90
def fH:FnScope ["_law_shape_here","_law_claims_here","_law_parts","_law_top","_law_bottom","_law_many","_law_here","_law_there"] paa (zk ZQ):=xc
def ok_upA {n:Nat} (B:Bl mg) (ZP:Cal P w K mg base CX0 (2*n+2) "_law_fits" paa (Uh n)) (F:Fun K "_law_upto_fit" "_law_upto_fit" ZQ f fd):FnOk P w K mg base CX0 (2*n+3) f fd paa (Jm (n+1)):=by
 walk_at "+fH";obtain ⟨⟨⟨t,b⟩,⟨x,y⟩,l,tk⟩,hA,ok,k⟩:=h;obtain ⟨v0,v1,v2,rfl,al⟩:=Ye hA;dsimp only at ok al;have S:Sta H H H [] [((Rl.upto t b x y).shape,v0),(zA l,v1),(xN tk,v2)]:=Sta.enter (zP.refl _) al;have few:=ok.few;have inb:=ok.fit.inB;have l8:(amV l).length<=8:=by rw [yi];exact few
 have step:=ok.upto;obtain ⟨it,ia⟩:=inb.inS l8 ok.sz;have po:=ok.pok.1.1;have lt:=ok.fit.len;have L:∀{i:Nat} {c:Cl},l[i]? =some c->c.1∈amV l:=λm=>Qj.mpr ⟨_,Qc m,rfl⟩;walk_at "=eθg0HyA3yA4IeO5_law_part,_law_bottom;14;wa2p0uva1a0eO6_law_claim,_law_top;13;wa1p0utbva1g0bg0bg0cel_STba5cSTbx_law_claim;1;wa6p0ug0ckfihbg0ba6ba5cmeO7_law_claim,_law_top,_law_bottom;134;wa1p0utbvUa2a1g0bg0bg0cfihbg0ba7bx_law_part,_law_claim;2;%ba5ba6cHyp0yp1IuUa0g1c";simp only [Rl.shape] at S;left;rename_i Y S1;refine xB (xA S1 .mm λU w3 s=>?_);cases s.int1;cases s.drop1.int1;left;refine zO (xs:=tk.map PyData.int) s .mm λJ p=>?_;refine yp p (λj=> .int (b*tk.getD j 0)) (ys:=(yV b tk).map PyData.int) (by unfold yV;rw [Qa,Qr];exact zm (λx:Int=>PyData.int (b*x)) 0 tk) s (λ_ _=> .mem (by right)) (by rw [Qa,inb.1];omega) (λj x v I G A z g t1 S hd C ex s0 D=>?_) λD3 H3 e3 S3=>?_
 ·obtain ⟨y,M,rfl⟩:=zK g;cases S.int1;have o:IntMulOk b y:=po.2.mulOk (it.2 y (Qc M)).2 ⋯;refine zB ⟨rfl,?_⟩;left;refine hd S ?_;rw [zG M];exact Has.int
 have O:=S3.freeze;left;refine zO (xs:=l.map zF) O .mm λJ p=>?_
 refine yp p (λj=>zF ((λc:Cl=>((t*c.1,c.2):Cl)) (l.getD j (0,0,0)))) (ys:=(yd t l).map zF) (by
  unfold yd;rw [Qr,Qa];exact zm (λc:Cl=>zF ((t*c.1,c.2):Cl)) (0,0,0) l) O (λ_ _=> .mem (by right)) (by rw [Qa];omega) (λj x v I G A z g t1 S hd C ex s0 D=>?_) λD5 H5 e5 S5=>?_
 ·obtain ⟨c,m,rfl⟩:=zK g;have o:IntMulOk t c.1:=po.1.mulOk (ok.sz _ (L m)) ⋯;refine zB ⟨rfl,?_⟩;left;refine hd (by assumption) ?_;rw [zG m];exact .mem (by right)
 have N:=S5.freeze;have tl:=Zi t l;left;refine zO (xs:=(yd t l).map zF) N .mm λJ p=>?_;refine yo p (λj=> .int ((yd t l).getD j (0,0,0)).1) (ys:=(amV (yd t l)).map PyData.int) (by unfold amV;rw [Qa,Qr];exact zm (λc:Cl=>PyData.int c.1) (0,0,0) (yd t l)) N (λj x v=>λg t1 S hd=>?_) λD7 H7 e7 S7=>?_
 ·obtain ⟨c,m,rfl⟩:=zK g;refine zB ⟨rfl,?_⟩;left;refine hd (by assumption) ?_;rw [zG m];exact Has.int
 left;refine yS (λc=>?_) (λc=>?_)
 ·rw [QJ c] at step;left;rename_i w8 q;refine YV (r:=x) (l:=yd t l) (tk:=yV b tk) q .mm .mm .mm step λH9 e9 u=>?_;exact k _ u.base
 ·rw [QO c] at step;have q:=S7.freeze;have zs:Sz 211 (b - t):=po.2.sub po.1;left;refine zO (xs:=l.map zF) q .mm λJ p=>?_
  refine yp p (λj=>zF ((λc:Cl=>(((b - t)*c.1,c.2):Cl)) (l.getD j (0,0,0)))) (ys:=(yd (b - t) l).map zF) (by
   unfold yd;rw [Qr,Qa];exact zm (λc:Cl=>zF (((b - t)*c.1,c.2):Cl)) (0,0,0) l) q (λ_ _=> .mem (by right)) (by rw [Qa];omega) (λj x v I G A z g t1 S hd C ex s0 D=>?_) λD9 H9 e9 u=>?_
  ·obtain ⟨c,m,rfl⟩:=zK g;have o:IntMulOk (b - t) c.1:=zs.mulOk (ok.sz _ (L m)) ⋯;refine zB ⟨rfl,?_⟩;left;refine hd (by assumption) ?_;rw [zG m];exact .mem (by right)
  have Nn:=u.freeze;left;rename_i X T;have ld:(yV b tk).length=(amV (yd t l)).length:=by rw [Xq,yi,Zi];exact lt
  have Z:(Zb (yV b tk) (amV (yd t l))).length=(amV (yd t l)).length:=by rw [Vj ld.symm,ld]
  have l9:(amV (yd t l)).length<=8:=by rw [yi,Zi];exact few
  refine ah (xs:=(yV b tk).map PyData.int) (ys:=(yd t l).map zF) T .mm .mm λJ3 NN=>?_;refine yp NN (λj=> .int ((Zb (yV b tk) (amV (yd t l))).getD j 0)) (ys:=(Zb (yV b tk) (amV (yd t l))).map PyData.int) ?_ T (λ_ _=>⟨.mem (by right),λ_ _ h=>h.tail, .mem (by right)⟩) ?_ (λj x v I G A z g t1 S hd C ex s0 D=>?_) λD12 PD SD Ni=>?_
  ·rw [xf,Qa,Qa,ld,yi,TM,<-yi,<-Z];exact zm (λx=>PyData.int x) 0 _
  ·rw [xf,Qa,Qa];omega
  ·obtain ⟨x1,x2,h1,h2,rfl⟩:=ZX g;obtain ⟨n1,NK,rfl⟩:=zK h1;obtain ⟨c2,Px,rfl⟩:=zK h2;refine xB (xA S .mm λY U S=>?_);cases S.int1;refine yP (zB (yP (zB (Wj ⟨rfl,?_⟩))));left;refine hd (by assumption) ?_;rw [zG (show (Zb (yV b tk) (amV (yd t l)))[j]? =some (n1 - c2.1) by unfold Zb amV;rw [Qt,NK,Qh,Px];rfl)];exact Has.int
  left;refine YV (r:=y) (l:=yd (b - t) l) (tk:=Zb (yV b tk) (amV (yd t l))) Ni.freeze .mm .mm .mm step λSF SA Nk=>?_;exact k _ Nk.base
abbrev Zk:Stmt:=top 91
def dw:FnScope ["_law_shape_here","_law_claims_here","_law_parts","_law_full","_law_rank","_law_places","_law_some"] paa (zk Zk):=xc
def ok_rkF {n:Nat} (B:Bl mg) (B2:Bl3 mg) (ZP:Cal P w K mg base CX0 (2*n+2) "_law_fits" paa (Uh n)) (F:Fun K "_law_ranks_fit" "_law_ranks_fit" Zk f fd):FnOk P w K mg base CX0 (2*n+3) f fd paa (Jo (n+1)):=by
 walk_at "+dw";obtain ⟨⟨r,l,tk⟩,hA,ok,k⟩:=h;obtain ⟨v0,v1,v2,rfl,al⟩:=Ye hA;dsimp only at ok al;have S:Sta H H H [] [(r.shape,v0),(zA l,v1),(xN tk,v2)]:=Sta.enter (zP.refl _) al;have few:=ok.few;have tl:=ok.fit.len;walk_at "=ej3GeFw:x_law_claim;1;wa1p0ug0A4eO5_law_k,_law_claims_here,_law_rank;114;]bCba1ccp0@osnqqa1a0da2ka0eO6_law_k,_law_parts;12;wa5p0uqa1a0elN3RMa36Pκμba6cdkfiGmelRMhba0bx_law_k,_law_claims_here;11;wa5p0uqa1a0ba6cfiGmfj3~a3|[sna6x_law_k,_law_claims_here;11;wa5p0uqqa1a0dkfiG";left;refine zO (xs:=l.map zF) S .mm λJ wk=>?_;refine yo wk (λj=> .int (l.getD j (0,0,0)).2.1) (ys:=(l.map (·.2.1)).map PyData.int) (by rw [Qa,Qr];exact zm (λc:Cl=>PyData.int c.2.1) (0,0,0) l) S (λj x v=>λt t1 S hd=>?_) λD2 H2 e2 I=>?_
 ·obtain ⟨c,D,rfl⟩:=zK t;refine zB ⟨rfl,?_⟩;left;refine hd (by assumption) ?_;rw [zG D];exact Has.int
 refine Vb I (by right) (by rw [Qa];omega) λos X H3 h1 h2 e3 S3=>?_;have eo:os=zQ l:=ZT h1 (yI l).1 λz=>by rw [h2,(yI l).2]
 subst eo;have S4:Sta H H H3 [] [(.list ((zQ l).map PyData.int), .ref X),(r.shape,v0),(zA l,v1),(xN tk,v2)]:=S3.freeze.weak (by walk_at "sub") ‹()›;clear I S3;left;refine zO (xs:=(zQ l).map PyData.int) S4 .mm λJ wk=>?_;refine Zs wk (λi σ cs ds=>∃(N:Bool) (x4 x5 x6:Option V),σ=[some v0,some v1,some v2,some (.bl N),x4,x5,x6]/\cs=[]/\ds=[(.list ((zQ l).map PyData.int), .ref X),(r.shape,v0),(zA l,v1),(xN tk,v2)]/\(N=false->∃(j:Nat) (c:Cl) (p:Int),l[j]? =some c/\tk[j]? =some p/\p≠c.1/\∀z∈(zQ l).drop i,c.2.1<z)) S4 ⟨true,none,none,none,rfl,rfl,rfl,λz=>Bool.noConfusion z⟩ (λi σ cs ds h=>?_) ?_ ?_
 ·obtain ⟨_,_,_,_,_,_,rfl,_⟩:=h;exact .mem (by right)
 ·rintro i x u σ H5 cs ds t ⟨N,x4,x5,x6,rfl,rfl,rfl,inv⟩ S5
  obtain ⟨g,Y,rfl⟩:=zK t;cases S5.int1;have M:=YW (zH g) l;have lk:=Zo (zH g) l;have fk:=QL (jaB (zH g) l) few;have pos:=fX (Qc Y);have step:=ok.ranks g;left;refine Ck H H (by rw [Qa];omega) (by rw [Qa];omega) λJ6 SJ=>?_;refine cc SJ (λj=>if zH g (l.getD j (0,0,0)) then some (.int (0+(j:Int))) else none) S5 (λ_ _=>trivial) (by rw [Zh,Td,Qa];omega) (λj x v B' G' Kd Kn t t1 S hd hn C ex s0 H0=>?_) λD6 H6 e6 S6=>?_
  ·obtain ⟨Z,rfl⟩:=aj t;rw [Td,Qa] at Z;cases S.int1;have D:=Qb Z;rw [zG D] at hd hn;refine zB ⟨rfl,?_⟩;left;refine xk (xs:=l.map zF) (x:=zF l[j]) S .mm (by rw [Int.zero_add];exact yt (by rw [Qh,D];rfl)) λw2 I=>?_;left;refine yS (λz=>?_) (λz=>?_)
   ·left;exact hd (QJ (QW z)) I Has.int
   ·exact hn (QO λy=>z (Qz y)) I
  rw [Zh,Td,Qa,jZ] at S6;have S7:Sta H H H6 [] [(plD (zN (zH g) l), .ref D6),(.list ((zQ l).map PyData.int), .ref X),(r.shape,v0),(zA l,v1),(xN tk,v2)]:=S6.freeze.weak (by walk_at "sub") ‹()›;clear S6;left;refine zO (xs:=(zN (zH g) l).map λ(i:Nat)=>PyData.int (i:Int)) S7 .mm λJ8 SI=>?_;refine yo SI (λj=> .int (tk.getD ((zN (zH g) l).getD j 0) 0)) (ys:=(yk 0 (zN (zH g) l) tk).map PyData.int) (by unfold yk;rw [Qa,Qr];exact zm (λi:Nat=>PyData.int (tk.getD i 0)) 0 (zN (zH g) l)) S7 (λj x v=>λt t1 S hd=>?_) λD8 H8 e8 S8=>?_
  ·obtain ⟨s,A,rfl⟩:=zK t;cases S.int1;have G:=M.lt s (Qc A);have D:=Qb (l:=tk) (i:=s) ⋯;refine zB ⟨rfl,?_⟩;left;refine YB (xs:=tk.map PyData.int) S .mm (yt (by rw [Qh,D];rfl)) ?_;refine hd S ?_;rw [zG A,zG D];exact Has.int
  have S9:Sta H H H8 [] [(xN (yk 0 (zN (zH g) l) tk), .ref D8),(plD (zN (zH g) l), .ref D6),(.list ((zQ l).map PyData.int), .ref X),(r.shape,v0),(zA l,v1),(xN tk,v2)]:=S8.freeze.weak (by walk_at "sub") ‹()›;clear S8;have plen:(yk 0 (zN (zH g) l) tk).length=(zN (zH g) l).length:=Vd ..;left;refine FR (q:=(yk 0 (zN (zH g) l) tk).any λx=>decide (0<x)) (λhh=>?_) (λc=>?_) (λc=>?_)
  ·left;refine JI (ns:=yk 0 (zN (zH g) l) tk) S9 .mm (by rw [plen];omega) λm hm top=>?_;left
   have em:decide (0<m)=(yk 0 (zN (zH g) l) tk).any λx=>decide (0<x):=jbV.mpr ⟨λh=>List.any_eq_true.mpr ⟨m,hm,h⟩,λh=>by
    obtain ⟨x,t,NZ⟩:=List.any_eq_true.mp h;have:=top x t;have:=Qz NZ
    exact QW ⋯⟩
   rw [em];exact hh
  ·obtain ⟨c1,c2⟩:=Bool.and_eq_true_iff.mp c;obtain ⟨j,c0,p,L,hp,ne,later⟩:=inv (by cases N<;>simp_all);obtain ⟨x,t,NZ⟩:=List.any_eq_true.mp c2;obtain ⟨s,A,rfl⟩:=Qj.mp t;have G:=M.lt s A;have O:=Qb G;have rk:l[s].2.1=g:=Qz ((YC O).mp A);have ht:=Qb (l:=tk) (i:=s) ⋯;rw [zG ht] at NZ;have lt:=later g (Qc (i:=0) (by rw [jaj,Nat.add_zero];exact Y));exact absurd (ok.fit.order L hp O ht (by rw [rk];exact lt) (Qz NZ)) ne
  ·left;refine zO (xs:=(zN (zH g) l).map λ(i:Nat)=>PyData.int (i:Int)) S9 .mm λJ10 U=>?_;refine yo U (λj=>zF (l.getD ((zN (zH g) l).getD j 0) (0,0,0))) (ys:=(l.filter (zH g)).map zF) (by rw [ZV];unfold yk;rw [Qa,Qr];exact zm (λi:Nat=>zF (l.getD i (0,0,0))) 0 (zN (zH g) l)) S9 (λj x v=>λt t1 S hd=>?_) λD10 OD e10 Nn=>?_
   ·obtain ⟨s,A,rfl⟩:=zK t;cases S.int1;have G:=M.lt s (Qc A);have D:=Qb G;refine zB ⟨rfl,?_⟩;left;refine xk (xs:=l.map zF) (x:=zF l[s]) S .mm (yt (by rw [Qh,D];rfl)) λw2 I=>?_;refine hd I ?_;rw [zG A,zG D];exact .mem (by right)
   left;refine YV (r:=r) (l:=l.filter (zH g)) (tk:=yk 0 (zN (zH g) l) tk) Nn.freeze .mm .mm .mm step λPF Pk Nw=>?_;left;have Ni:Sta H H PF [] [(xN (yk 0 (zN (zH g) l) tk), .ref D8),(plD (zN (zH g) l), .ref D6),(.list ((zQ l).map PyData.int), .ref X),(r.shape,v0),(zA l,v1),(xN tk,v2)]:=Nw.dat ‹()›
   cases N with
   |false=>
    rw [QO QA];left;refine YM (Ni.dat ‹()›) ⟨false,_,_,_,rfl,rfl,rfl,λ_=>?_⟩;obtain ⟨j,c0,p,L,hp,ne,later⟩:=inv rfl;exact ⟨j,c0,p,L,hp,ne,λz hz=>later z (by rw [jbK (Qd.mp Y).1];exact Qf _ hz)⟩
   |true=>
    rw [QJ rfl];left;refine zO (xs:=(zN (zH g) l).map λ(i:Nat)=>PyData.int (i:Int)) Ni .mm λJ13 T=>?_
    refine yp T (λj=> .int (l.getD ((zN (zH g) l).getD j 0) (0,0,0)).1) (ys:=(yk 0 (zN (zH g) l) (amV l)).map PyData.int) (by
     unfold yk;rw [Qa,Qr];refine (zm (λi:Nat=>PyData.int (l.getD i (0,0,0)).1) 0 (zN (zH g) l)).trans (QK λi hi=>?_);show PyData.int _=PyData.int _
     rw [EB (M.lt i hi)]) Ni (λ_ _=> .mem (by right)) (by rw [Qa];omega) (λj x v B' G' Kd Kn t t1 S hd C ex s0 H0=>?_) λD13 SF SA Nk=>?_
    ·obtain ⟨s,A,rfl⟩:=zK t;cases S.int1;have G:=M.lt s (Qc A);have D:=Qb G;refine zB ⟨rfl,?_⟩;left;refine xk (xs:=l.map zF) (x:=zF l[s]) S .mm (yt (by rw [Qh,D];rfl)) λw2 I=>?_;left;refine hd (by assumption) ?_;rw [zG A,zG D];exact Has.int
    refine Cq (x:=xN (yk 0 (zN (zH g) l) tk)) (y:=xN (yk 0 (zN (zH g) l) (amV l))) (Nk.hp .mm) (Nk.hpC (by right)) (Vz _) (Vz _) ?_;rw [Ee];left;refine YM (Nk.dropC.dat ‹()›) ⟨_,_,_,_,rfl,rfl,rfl,λz=>?_⟩;have ne:=of_decide_eq_false z
    obtain ⟨s,A,ne'⟩:∃s∈zN (zH g) l,tk.getD s 0≠(amV l).getD s 0:=by
     refine Classical.byContradiction λno=>ne (QK λi hi=>Classical.byContradiction λh=>no ⟨i,hi,h⟩)
    have G:=M.lt s A;have O:=Qb G;have rk:l[s].2.1=g:=Qz ((YC O).mp A);have ht:=Qb (l:=tk) (i:=s) ⋯;rw [zG ht,<-EB G,zG O] at ne';refine ⟨s,l[s],tk[s],O,ht,ne',λz hz=>?_⟩;rw [rk];have pw:=(yI l).1;obtain ⟨kl,ek⟩:=Qd.mp Y;obtain ⟨j,Z,rfl⟩:=QS hz;rw [List.getElem_drop,<-ek];exact QP.mp pw i (i+1+j) kl (by rw [To] at Z;omega) ⋯
 ·rintro σ H5 cs ds ⟨N,x4,x5,x6,rfl,rfl,rfl,inv⟩ S5
  left;exact k _ S5.base
abbrev xX:Stmt:=top 92
def ba:FnScope ["_law_shape_here","_law_claims_here","_law_parts","_law_sums","_law_told","_law_group","_law_places","_law_some"] paa (zk xX):=xc
def ok_grF {n:Nat} (B:Bl mg) (B2:Bl3 mg) (ZP:Cal P w K mg base CX0 (2*n+2) "_law_fits" paa (Uh n)) (F:Fun K "_law_groups_fit" "_law_groups_fit" xX f fd):FnOk P w K mg base CX0 (2*n+3) f fd paa (Jq (n+1)):=by
 walk_at "+ba";obtain ⟨⟨⟨a,b⟩,l,tk⟩,hA,ok,k⟩:=h;obtain ⟨v0,v1,v2,rfl,al⟩:=Ye hA;dsimp only at ok al;have S:Sta H H H [] [((Rl.groups a b).shape,v0),(zA l,v1),(xN tk,v2)]:=Sta.enter (zP.refl _) al;have few:=ok.few;have tl:=ok.fit.len;have gfew:=Yu l;simp only [Rl.shape] at S;walk_at "=ej3Bcej4BceFw:x_law_claim;1;wa1p0ug0A5eO6_law_k,_law_claims_here,_law_group;115;]bCba1ccp0@osnqqa1a0da2ka0eO7_law_k,_law_claims_here;11;wa6p0uqa1a0eDZa3btbSTbx_law_claim;1;wa7p0ug0cb)ηbx_law_claim;1;wa7p0ug0cba5cceDZa4bSTbx_law_k,_law_parts;12;wa6p0uqa1a0ccflRMhbg0ba7bx_law_k,_law_parts;12;wa6p0uqa1a0cfiGmfihbg0ba3ba4c";left;rename_i U H1 e1 S1 T H2 e2 A;refine zO (xs:=l.map zF) A .mm λJ wk=>?_;refine yo wk (λj=> .int (l.getD j (0,0,0)).2.2) (ys:=(l.map (·.2.2)).map PyData.int) (by rw [Qa,Qr];exact zm (λc:Cl=>PyData.int c.2.2) (0,0,0) l) A (λj x v=>λq t1 S hd=>?_) λD3 H3 e3 S3=>?_
 ·obtain ⟨c,p,rfl⟩:=zK q;refine zB ⟨rfl,?_⟩;left;refine hd (by assumption) ?_;rw [zG p];exact Has.int
 refine Vb S3 (by right) (by rw [Qa];omega) λos X H4 h1 h2 e4 S4=>?_;have eo:os=zu l:=ZT h1 (zX l).1 λz=>by rw [h2,(zX l).2]
 subst eo;have S5:Sta H H H4 [(T,(aN ((zu l).take 0) l tk).map PyData.int),(U,((zC l).take 0).map zF)] [(.list ((zu l).map PyData.int), .ref X),(.tuple [.str "groups",a.shape,b.shape],v0),(zA l,v1),(xN tk,v2)]:=S4.freeze.weak (by walk_at "sub") ‹()›;clear S1 A S3 S4;left;refine zO (xs:=(zu l).map PyData.int) S5 .mm λJ wk=>?_;refine Zs wk (λi σ cs ds=>∃(x5 x6 x7:Option V),σ=[some v0,some v1,some v2,some (.ref U),some (.ref T),x5,x6,x7]/\cs=[(T,(aN ((zu l).take i) l tk).map PyData.int),(U,((zC l).take i).map zF)]/\ds=[(.list ((zu l).map PyData.int), .ref X),(.tuple [.str "groups",a.shape,b.shape],v0),(zA l,v1),(xN tk,v2)]) S5 ⟨none,none,none,rfl,rfl,rfl⟩ (λi σ cs ds h=>?_) ?_ ?_
 ·obtain ⟨_,_,_,_,_,rfl⟩:=h;exact .mem (by right)
 ·rintro i x u σ H6 cs ds q ⟨x5,x6,x7,rfl,rfl,rfl⟩ S6
  obtain ⟨g,Y,rfl⟩:=zK q;cases S6.int1;have gl:=(Qd.mp Y).1;have pk:=YW (zo g) l;have lk:=Zo (zo g) l;have fk:=QL (jaB (zo g) l) few;have pos:=Xz (Qc Y);have step:=ok.group g
  have t1:(zC l).take (i+1)=(zC l).take i++[AR g (l.filter (zo g))]:=by
   rw [jab];unfold zC;rw [Qh,Y];rfl
  have t2:aN ((zu l).take (i+1)) l tk=aN ((zu l).take i) l tk++[(yk 0 (zN (zo g) l) tk).sum]:=by
   rw [jab,Y];unfold aN;rw [QM];rfl
  left;refine Ck H H (by rw [Qa];omega) (by rw [Qa];omega) λJ7 wk7=>?_;refine cc wk7 (λj=>if zo g (l.getD j (0,0,0)) then some (.int (0+(j:Int))) else none) S6 (λ_ _=>trivial) (by rw [Zh,Td,Qa];omega) (λj x v B' G' Kd Kn q t1 S hd hn C ex s0 H0=>?_) λD7 H7 e7 S7=>?_
  ·obtain ⟨hj,rfl⟩:=aj q;rw [Td,Qa] at hj;cases S.int1;have p:=Qb hj;rw [zG p] at hd hn;refine zB ⟨rfl,?_⟩;left;refine xk (xs:=l.map zF) (x:=zF l[j]) S .mm (by rw [Int.zero_add];exact yt (by rw [Qh,p];rfl)) λw2 A=>?_;left;refine yS (λz=>?_) (λz=>?_)
   ·left;exact hd (QJ (QW z)) A Has.int
   ·exact hn (QO λy=>z (Qz y)) A
  rw [Zh,Td,Qa,jZ] at S7;have N:=S7.freeze;clear S7;left;refine zO (xs:=(zN (zo g) l).map λ(i:Nat)=>PyData.int (i:Int)) N .mm λJ9 RJ=>?_;refine yo RJ (λj=>zF (l.getD ((zN (zo g) l).getD j 0) (0,0,0))) (ys:=(l.filter (zo g)).map zF) (by rw [ZV];unfold yk;rw [Qa,Qr];exact zm (λi:Nat=>zF (l.getD i (0,0,0))) 0 (zN (zo g) l)) N (λj x v=>λq t1 S hd=>?_) λD9 H9 e9 Z=>?_
  ·obtain ⟨t,D,rfl⟩:=zK q;cases S.int1;have il:=pk.lt t (Qc D);have p:=Qb il;refine zB ⟨rfl,?_⟩;left;refine xk (xs:=l.map zF) (x:=zF l[t]) S .mm (yt (by rw [Qh,p];rfl)) λw2 A=>?_;refine hd A ?_;rw [zG D,zG p];exact .mem (by right)
  have Nn:=Z.freeze;clear Z;generalize hlg:l.filter (zo g)=s at*;left;refine zO (xs:=s.map zF) Nn .mm λJ11 M=>?_;refine yo M (λj=> .int (s.getD j (0,0,0)).1) (ys:=(amV s).map PyData.int) (by unfold amV;rw [Qa,Qr];exact zm (λc:Cl=>PyData.int c.1) (0,0,0) s) Nn (λj x v=>λq t1 S hd=>?_) λD11 PF Pk Nw=>?_
  ·obtain ⟨c,p,rfl⟩:=zK q;refine zB ⟨rfl,?_⟩;left;refine hd (by assumption) ?_;rw [zG p];exact Has.int
  left;have Ni:=Nw.dropC;clear Nw;refine zO (xs:=s.map zF) Ni .mm λJ13 L=>?_;refine yo L (λj=> .int (s.getD j (0,0,0)).2.1) (ys:=(s.map (·.2.1)).map PyData.int) (by rw [Qa,Qr];exact zm (λc:Cl=>PyData.int c.2.1) (0,0,0) s) Ni (λj x v=>λq t1 S hd=>?_) λD13 SF SA Nk=>?_
  ·obtain ⟨c,p,rfl⟩:=zK q;refine zB ⟨rfl,?_⟩;left;refine hd (by assumption) ?_;rw [zG p];exact Has.int
  left;refine Cf (ns:=s.map (·.2.1)) Nk (by right) (by rw [Qa];exact pos) λm hm low=>?_;have em:m=qN (s.map (·.2.1)):=Dp hm low;subst em;have NX:=Nk.dropC;clear Nk;left;rename_i q15 H15 e15 Ol;have RI:Sta H H H15 [(U,((zC l).take i).map zF),(T,(aN ((zu l).take i) l tk).map PyData.int)] [(zF (AR g s), .ref q15),(zA s, .ref D9),(plD (zN (zo g) l), .ref D7),(.list ((zu l).map PyData.int), .ref X),(.tuple [.str "groups",a.shape,b.shape],v0),(zA l,v1),(xN tk,v2)]:=(Ol.dat ‹()›).swap;clear N Nn Ni NX Ol;refine yW (y:=zF (AR g s)) RI .mm (by rw [Qa,TC];unfold zC;rw [Qa];omega) λH17 RH=>?_;have RG:=RH.swap;clear RI RH;left;refine zO (xs:=(zN (zo g) l).map λ(i:Nat)=>PyData.int (i:Int)) RG .mm λJ19 I=>?_;refine yo I (λj=> .int (tk.getD ((zN (zo g) l).getD j 0) 0)) (ys:=(yk 0 (zN (zo g) l) tk).map PyData.int) (by unfold yk;rw [Qa,Qr];exact zm (λi:Nat=>PyData.int (tk.getD i 0)) 0 (zN (zo g) l)) RG (λj x v=>λq t1 S hd=>?_) λD19 H19 e19 SE=>?_
  ·obtain ⟨t,D,rfl⟩:=zK q;cases S.int1;have il:=pk.lt t (Qc D);have p:=Qb (l:=tk) (i:=t) ⋯;refine zB ⟨rfl,?_⟩;left;refine YB (xs:=tk.map PyData.int) S .mm (yt (by rw [Qh,p];rfl)) ?_;refine hd S ?_;rw [zG D,zG p];exact Has.int
  left;have S20:=SE.dropC;clear RG SE;refine yW (y:= .int (yk 0 (zN (zo g) l) tk).sum) S20 Has.int (by rw [Qa];unfold aN;rw [Qa,TC];omega) λH21 S21=>?_;left;rename_i w22 O;refine zO (xs:=(zN (zo g) l).map λ(i:Nat)=>PyData.int (i:Int)) O .mm λJ23 G=>?_;refine yo G (λj=> .int (tk.getD ((zN (zo g) l).getD j 0) 0)) (ys:=(yk 0 (zN (zo g) l) tk).map PyData.int) (by unfold yk;rw [Qa,Qr];exact zm (λi:Nat=>PyData.int (tk.getD i 0)) 0 (zN (zo g) l)) O (λj x v=>λq t1 S hd=>?_) λD23 H23 e23 S23=>?_
  ·obtain ⟨t,D,rfl⟩:=zK q;cases S.int1;have il:=pk.lt t (Qc D);have p:=Qb (l:=tk) (i:=t) ⋯;refine zB ⟨rfl,?_⟩;left;refine YB (xs:=tk.map PyData.int) S .mm (yt (by rw [Qh,p];rfl)) ?_;refine hd S ?_;rw [zG D,zG p];exact Has.int
  left;refine YV (r:=b) (l:=s) (tk:=yk 0 (zN (zo g) l) tk) S23.freeze .mm .mm .mm step λH24 e24 S24=>?_;left;refine YM (S24.dat (ds':=[(.list ((zu l).map PyData.int), .ref X),(.tuple [.str "groups",a.shape,b.shape],v0),(zA l,v1),(xN tk,v2)]) ‹()›) ⟨_,_,_,rfl,?_,rfl⟩;rw [t1,t2,QM,QM];rfl
 ·rintro σ H6 cs ds ⟨x5,x6,x7,rfl,rfl,rfl⟩ S6
  have e1:(zC l).take (zu l).length=zC l:=Tw (by rw [xI];exact Qu _);rw [Qa,e1,List.take_length] at S6;have S7:=S6.freeze.freeze;clear S6;left;rename_i w8 N;refine YV (r:=a) (l:=zC l) (tk:=aN (zu l) l tk) N .mm .mm .mm ok.outer λH9 e9 Z=>?_;exact k _ Z.base
def Gx (B:Bl mg) (B2:Bl3 mg) (Lz:Cal P w K mg base CX0 1 "_law_even" paH Bx) {fu:Addr} {M:FuncData} (Fu:Fun K "_law_upto_fit" "_law_upto_fit" ZQ fu M) (hmu:mg "_law_upto_fit"=some (.ref fu)) (bu:yG K M paa []) {fr fg:Addr} {N O:FuncData} (Fr:Fun K "_law_ranks_fit" "_law_ranks_fit" Zk fr N) (hmr:mg "_law_ranks_fit"=some (.ref fr)) (br:yG K N paa []) (Fg:Fun K "_law_groups_fit" "_law_groups_fit" xX fg O) (Nq:mg "_law_groups_fit"=some (.ref fg)) (bg:yG K O paa []) (F:Fun K "_law_fits" "_law_fits" bt f fd) (hm:mg "_law_fits"=some (.ref f)) (bf:yG K fd paa []):∀n:Nat,FnOk P w K mg base CX0 (2*n+2) f fd paa (Uh n):=by
 intro n
 induction n with
 |zero=>
  refine F.ok Uk (λvs H Q E h=>?_) (λMH A outer s H vs Q E hr h=>?_)
  ·obtain ⟨a,h,_⟩:=h;rw [<-h.len];rfl
  obtain ⟨⟨r,l,tk⟩,_,ok,_⟩:=h;dsimp only at ok;exact absurd ok.dep (by have:=Hu r;omega)
 |succ n ih=>
  have ZP:Cal P w K mg base CX0 (2*n+2) "_law_fits" paa (Uh n):=Vr F ih hm bf;have Fd:Cal P w K mg base CX0 (2*n+3) "_law_upto_fit" paa (Jm (n+1)):=Vr Fu (ok_upA B ZP Fu) hmu bu;have EK:Cal P w K mg base CX0 (2*n+3) "_law_ranks_fit" paa (Jo (n+1)):=Vr Fr (ok_rkF B B2 ZP Fr) hmr br;have AW:Cal P w K mg base CX0 (2*n+3) "_law_groups_fit" paa (Jq (n+1)):=Vr Fg (ok_grF B B2 ZP Fg) Nq bg;refine F.ok Uk (λvs H Q E h=>?_) (λMH A outer s H vs Q E hr h=>?_)
  ·obtain ⟨a,h,_⟩:=h;rw [<-h.len];rfl
  obtain ⟨⟨r,l,tk⟩,hA,ok,k⟩:=h;obtain ⟨v0,v1,v2,rfl,al⟩:=Ye hA;dsimp only at ok al;have S:Sta H H H [] [(r.shape,v0),(zA l,v1),(xN tk,v2)]:=Sta.enter (zP.refl _) al;have few:=ok.few;have hn20:=ok.hn;have nd0:=Uk.nd;walk_at "=eO3_law_claim;1;wa1p0ug0ej4STba3cej5STba2ceF%ba3ba2cHyA6yA7IflNV1a7dk9Pa7a6kfiGmelosng0rkfi[snx_law_part,_law_whole_here;14;wa2p0uva0a1x_law_amount,_law_purse_here;15;wa3p0uva0a1kmelosng0rkfihba3ba2cmelosng0rkfihba3bx_law_amount,_law_part;2;%ba3ba2cHyp0yp1IuUa0a1cmelosng0rkfihbtbrbtbdbdcbtbrcbtbrccba1ba2cmelosng0rkfihbg0ba1bx_law_amount,_law_part;2;%ba3ba2cHyp0yp1IuUa0a1cmelosng0rkfihbg0ba1ba2cmelosng0rkfihba0ba1ba2cmfihba0ba1ba2c";left;refine zO (xs:=l.map zF) S .mm λJ wk=>?_;refine yo wk (λj=> .int (l.getD j (0,0,0)).1) (ys:=(amV l).map PyData.int) (by unfold amV;rw [Qa,Qr];exact zm (λc:Cl=>PyData.int c.1) (0,0,0) l) S (λj x v=>λq t1 S hd=>?_) λD H1 e1 S1=>?_
  ·obtain ⟨c,hc,rfl⟩:=zK q;refine zB ⟨rfl,?_⟩;left;refine hd (by assumption) ?_;rw [zG hc];exact Has.int
  have S2:Sta H H H1 [] [(xN (amV l), .ref D),(r.shape,v0),(zA l,v1),(xN tk,v2)]:=S1.freeze;clear S1;have l8:(amV l).length<=8:=by rw [yi];exact few
  have Np:=ok.sz;have inb:=ok.fit.inB;left;refine ah (xs:=(amV l).map PyData.int) (ys:=tk.map PyData.int) S2 .mm .mm λJ2 NR=>?_;refine Zs NR (λi σ cs ds=>(∃x6 x7,σ=[some v0,some v1,some v2,some (.ref D),some (.int (amV l).sum),some (.int tk.sum),x6,x7])/\cs=[]/\ds=[(xN (amV l), .ref D),(r.shape,v0),(zA l,v1),(xN tk,v2)]) S2 ⟨⟨none,none,rfl⟩,rfl,rfl⟩ (λi σ cs ds h=>?_) ?_ ?_
  ·obtain ⟨_,rfl,rfl⟩:=h;exact ⟨.mem (by right),λ_ _ h=>h.tail, .mem (by right)⟩
  ·rintro i x u σ H2 cs ds q ⟨⟨x6,x7,rfl⟩,rfl,rfl⟩ m
   obtain ⟨xa,xb,L,I,rfl⟩:=ZX q;obtain ⟨a,ha,rfl⟩:=zK L;obtain ⟨p,hp,rfl⟩:=zK I;have b:=inb.2 i a p ha hp;refine xB (xA m .mm λw1 w2 g=>?_);cases g.int1;cases g.drop1.int1;left;refine yS (λc=>absurd c ⋯) (λ_=>?_);left;refine yS (λc=>absurd c ⋯) (λ_=>?_);left;exact YM (g.dat ‹()›) ⟨⟨_,_,rfl⟩,rfl,rfl⟩
  rintro σ H2 cs ds ⟨⟨x6,x7,rfl⟩,rfl,rfl⟩ m
  clear S2 wk NR
  cases r with
  |shares=>
   simp only [Rl.shape] at m;obtain ⟨it,ia⟩:=inb.inS l8 Np;have st:=it.sum.2;have sa:=ia.sum.2;left;refine zO (xs:=tk.map PyData.int) m .mm λJ3 U=>?_;refine yp U (λj=> .int (tk.getD j 0*(amV l).sum)) (ys:=(tk.map (·*(amV l).sum)).map PyData.int) (by rw [Qa,Qr];exact zm (λx:Int=>PyData.int (x*(amV l).sum)) 0 tk) m (λ_ _=> .mem (by right)) (by rw [Qa,inb.1];omega) (λj x v B' G' Kd Kn q t1 S hd C ex s0 H0=>?_) λD4 Z Y g=>?_
   ·obtain ⟨y,G,rfl⟩:=zK q;cases S.int1;have o:IntMulOk y (amV l).sum:=(it.2 y (Qc G)).2.mulOk sa ⋯;refine zB ⟨rfl,?_⟩;left;refine hd S ?_;rw [zG G];exact Has.int
   left;refine zO (xs:=(amV l).map PyData.int) g .mm λJ5 wk5=>?_;refine yo wk5 (λj=> .int ((amV l).getD j 0*tk.sum)) (ys:=((amV l).map (·*tk.sum)).map PyData.int) (by rw [Qa,Qr];exact zm (λx:Int=>PyData.int (x*tk.sum)) 0 (amV l)) g (λj x v=>λq t1 S hd=>?_) λD6 H6 e6 S6=>?_
   ·obtain ⟨y,G,rfl⟩:=zK q;cases S.int1;have o:IntMulOk y tk.sum:=(ia.2 y (Qc G)).2.mulOk st ⋯;refine zB ⟨rfl,?_⟩;left;refine hd S ?_;rw [zG G];exact Has.int
   refine Cq (x:=xN (tk.map (·*(amV l).sum))) (y:=xN ((amV l).map (·*tk.sum))) (S6.hpC (by right)) (S6.hpC (by right)) (Vz _) (Vz _) ?_;rw [Ee,QW (show tk.map (·*(amV l).sum)=(amV l).map (·*tk.sum) from ok.fit.shares)];exact k _ S6.base
  |evenly=>
   simp only [Rl.shape] at m;left;refine Cp m .mm .mm l8 ok.fit.evenly λZ Y g=>?_;exact k _ g.base
  |losses=>
   simp only [Rl.shape] at m;left;refine ah (xs:=(amV l).map PyData.int) (ys:=tk.map PyData.int) m .mm .mm λJ3 U=>?_;have ll:(Zb (amV l) tk).length=(amV l).length:=Vj inb.1;refine yp U (λj=> .int ((Zb (amV l) tk).getD j 0)) (ys:=(Zb (amV l) tk).map PyData.int) ?_ m (λ_ _=>⟨.mem (by right),λ_ _ h=>h.tail, .mem (by right)⟩) ?_ (λj x v B' G' Kd Kn q t1 S hd C ex s0 H0=>?_) λD4 Z Y g=>?_
   ·rw [xf,Qa,Qa,inb.1,TM,<-ll];exact zm (λx=>PyData.int x) 0 _
   ·rw [xf,Qa,Qa];omega
   ·obtain ⟨x1,x2,L,I,rfl⟩:=ZX q;obtain ⟨n1,NK,rfl⟩:=zK L;obtain ⟨n2,Ny,rfl⟩:=zK I;refine xB (xA S .mm λw1 w2 S=>?_);cases S.int1;cases S.drop1.int1;refine yP (zB (yP (zB (Wj ⟨rfl,?_⟩))));left;refine hd S ?_;rw [zG (show (Zb (amV l) tk)[j]? =some (n1 - n2) by unfold Zb;rw [Qt,NK,Ny])];exact Has.int
   left;refine Cp (am:=amV l) (tk:=Zb (amV l) tk) g.freeze .mm .mm l8 ok.fit.losses λX T z=>?_;exact k _ z.base
  |halves=>
   simp only [Rl.shape] at m;left;rename_i p4 Z Y g;refine YV (r:= .upto 1 2 .evenly .losses) (l:=l) (tk:=tk) g .mm .mm .mm ok.halves λX T z=>?_;exact k _ z.base
  |other r=>
   simp only [Rl.shape] at m;left;rename_i w4 S4';have m:=S4';refine ah (xs:=(amV l).map PyData.int) (ys:=tk.map PyData.int) m .mm .mm λJ3 U=>?_;have ll:(Zb (amV l) tk).length=(amV l).length:=Vj inb.1;refine yp U (λj=> .int ((Zb (amV l) tk).getD j 0)) (ys:=(Zb (amV l) tk).map PyData.int) ?_ m (λ_ _=>⟨.mem (by right),λ_ _ h=>h.tail, .mem (by right)⟩) ?_ (λj x v B' G' Kd Kn q t1 S hd C ex s0 H0=>?_) λD4 Z Y g=>?_
   ·rw [xf,Qa,Qa,inb.1,TM,<-ll];exact zm (λx=>PyData.int x) 0 _
   ·rw [xf,Qa,Qa];omega
   ·obtain ⟨x1,x2,L,I,rfl⟩:=ZX q;obtain ⟨n1,NK,rfl⟩:=zK L;obtain ⟨n2,Ny,rfl⟩:=zK I;refine xB (xA S .mm λw1 w2 S=>?_);cases S.int1;cases S.drop1.int1;refine yP (zB (yP (zB (Wj ⟨rfl,?_⟩))));left;refine hd S ?_;rw [zG (show (Zb (amV l) tk)[j]? =some (n1 - n2) by unfold Zb;rw [Qt,NK,Ny])];exact Has.int
   left;refine YV (r:=r) (l:=l) (tk:=Zb (amV l) tk) g.freeze .mm .mm .mm ok.other λX T z=>?_;exact k _ z.base
  |upto t b x y=>
   have g:=m;simp only [Rl.shape] at m;left;refine rd_upA (t:=t) (b:=b) (x:=x) (y:=y) (l:=l) (tk:=tk) g .mm .mm .mm ok λX T z=>?_;exact k _ z.base
  |ranks r=>
   simp only [Rl.shape] at m;left;rename_i w4 g;refine rd_rkF (r:=r) (l:=l) (tk:=tk) g .mm .mm .mm ok λX T z=>?_;exact k _ z.base
  |groups x y=>
   have g:=m;simp only [Rl.shape] at m;left;refine rd_grF (x:=x) (y:=y) (l:=l) (tk:=tk) g .mm .mm .mm ok λX T z=>?_;exact k _ z.base
abbrev Us:Stmt:=top 93
def oM:FnScope ["_law_shape_here","_law_claims_here","_law_purse_here","_law_parts","_law_by","_law_part","_law_told","_law_due"] paf (zk Us):=xc
def CM {t:Nat} (B:Bl mg) (AM:Cal P w K mg base CX0 2 "_law_is_fraction" paA Bw) (aK:Cal P w K mg base CX0 1 "_law_divisor" pau oB) (ZP:Cal P w K mg base CX0 26 "_law_fits" paa (Uh 12)) (F:Fun K "_law_right" "_law_right" Us f fd):FnOk P w K mg base CX0 27 f fd paf (lE t):=by
 walk_at "+oM";obtain ⟨⟨r,l,e⟩,hA,⟨⟨⟨pl,Na⟩,L⟩,A,e0⟩,k⟩:=h;obtain ⟨v0,v1,v2,G,rfl,al⟩:=KH hA;dsimp only at pl Na L A e0 al;have ok:=L.ok pl.ht;have S:Sta H H H [] [(r.shape,v0),(zA l,v1),(frD e,v2),(yl (zh (zI r l) e),G)]:=Sta.enter (zP.refl _) al;have g:=(pl.gf (l:=l) L).good;have Np:∀p∈zh (zI r l) e,SzQ 4904 p:=pO A (pl.R (l:=l) L).sz;have hlen:(zh (zI r l) e).length=l.length:=g.std.len;have key:=λB (hB:0<B) de hd=>Ak (B:=B) (e:=e) g hB e0 de hd;have few:=ok.few;generalize zh (zI r l) e=ps at*;have hv:=S.hp (x:=yl ps) (v:=G) .mm;walk_at "=elNVRM<ba3bιtuple;c9oWnCba3cCba1ckfiGmej4g2eF#a3A5elRMhba5cfiGmfj4v7a4hba4bg5cg5eO6_law_part,_law_by;14;#a3p0uvg07a1g0ej7)пbvg27a4g2bva4STbx_law_claim;1;wa1p0ug0cceloWnSTba6ca7kfiGmfihba0bx_law_claim,_law_by;14;wa1p0utbva1g0bg0bg0cba6c";left;refine Ai (by rw [Qa,Qa,hlen]) ?_;left;refine fW (xs:=ps.map frD) S .mm λJ wk=>?_
 refine Zs wk (λi σ cs ds=>∃(b:Int) (O N M:Option V),σ=[some v0,some v1,some v2,some G,some (.int b),O,N,M]/\cs=[]/\ds=[(r.shape,v0),(zA l,v1),(frD e,v2),(yl ps,G)]/\0<b/\Sz (700+i*4904) b/\(e.den:Int)∣b/\∀j p,j<i->ps[j]? =some p->(p.den:Int)∣b) S
  ⟨(e.den:Int),none,none,none,rfl,rfl,rfl,den_pos e,A.2.mono ⋯,⟨1,by rw [jcb]⟩,λj p D=>absurd D (Nat.not_lt_zero _)⟩ (λi σ cs ds h=>?_) ?_ ?_
 ·obtain ⟨_,_,_,_,_,_,rfl,_⟩:=h;exact .mem (by right)
 ·rintro i x u σ H2 cs ds s ⟨b,O,N,M,rfl,rfl,rfl,b0,m,de,hd⟩ S2
  obtain ⟨p,hp,rfl⟩:=zK s;have y:=Np p (Qc hp);have I:=den_pos p;have st:=Hc b0 I;left;refine JP S2 .mm λH3 S3=>?_;have gp:0<Int.gcd b (p.den:Int):=jby b ⋯
  have z:CDv b ((Int.gcd b (p.den:Int):Nat):Int):=⟨⋯,by
   refine (Sz.le y.2 ?_).mono nofun;have:=Nat.le_of_dvd ⋯ (jbT b (p.den:Int))
   omega⟩
  have qn:0<=b.fdiv ((Int.gcd b (p.den:Int):Nat):Int):=by
   rw [Tz _ ⋯];exact Int.ediv_nonneg ⋯ ⋯
  have ql:b.fdiv ((Int.gcd b (p.den:Int):Nat):Int)<=b:=by
   rw [Tz _ ⋯];exact Int.ediv_le_self _ ⋯
  have X:=om qn ql m;have hi:i<ps.length:=(Qd.mp hp).1;have o:IntMulOk (b.fdiv ((Int.gcd b (p.den:Int):Nat):Int)) (p.den:Int):=X.mulOk y.2 ⋯;left;refine YM ((by assumption:Sta H H H3 [] _).dat ‹()›) ⟨_,_,_,_,rfl,rfl,rfl,st.1,(X.mul y.2).mono ⋯,Int.dvd_trans de st.2.1,λj q D T=>?_⟩
  by_cases U:j<i
  ·exact Int.dvd_trans (hd j q U T) st.2.1
  ·have:j=i:=⋯
   subst this;rw [hp] at T;cases T;exact st.2.2
 rintro σ H2 cs ds ⟨b,O,N,M,rfl,rfl,rfl,b0,m,de,hd⟩ S2
 rw [Qa,hlen] at m;have m:Sz 40000 b:=m.mono ⋯
 have Sk:∀p∈ps,(p.den:Int)∣b:=λp hp=>by
  obtain ⟨j,D,rfl⟩:=QS hp;exact hd j _ (by rw [Qa];exact D) (Qb D)
 obtain ⟨ks,kf⟩:=key b b0 de Sk
 have dq:∀d:Int,0<d->0<=b.fdiv d/\b.fdiv d<=b:=λd Sm=>by
  rw [Tz _ ⋯];exact ⟨Int.ediv_nonneg ⋯ ⋯,Int.ediv_le_self _ ⋯⟩
 left;refine fW (xs:=ps.map frD) S2 .mm λJ3 NN=>?_;refine yo NN (λj=> .int ((tkV b ps).getD j 0)) (ys:=(tkV b ps).map PyData.int) (by rw [Qa,show ps.length=(tkV b ps).length by unfold tkV;rw [Qa]];exact zm (λx=>PyData.int x) 0 _) S2 (λj x v=>λs t1 S hd=>?_) λD4 H4 e4 S4=>?_
 ·obtain ⟨p,hp,rfl⟩:=zK s;have y:=Np p (Qc hp);have I:=den_pos p;have z:CDv b (p.den:Int):=⟨⋯,y.2.mono nofun⟩;have o:IntMulOk p.num (b.fdiv (p.den:Int)):=y.1.mulOk (om (dq _ I).1 (dq _ I).2 m) nofun;refine zB ⟨rfl,?_⟩;left;refine hd (by assumption) ?_;rw [zG (show (tkV b ps)[j]? =some (p.num*b.fdiv (p.den:Int)) by unfold tkV;rw [Qh,hp];rfl)];exact Has.int
 have S5:=S4.freeze;have Y:=den_pos e;have Pw:CDv b (e.den:Int):=⟨⋯,A.2.mono nofun⟩;have o1:IntMulOk e.num (b.fdiv (e.den:Int)):=A.1.mulOk (om (dq _ Y).1 (dq _ Y).2 m) nofun;have o2:IntMulOk b (amV l).sum:=m.mulOk ok.am.sum.2 nofun;left;refine zO (xs:=l.map zF) (by assumption) .mm λJ6 SJ=>?_;refine yo SJ (λj=> .int (l.getD j (0,0,0)).1) (ys:=(amV l).map PyData.int) (by unfold amV;rw [Qa,Qr];exact zm (λc:Cl=>PyData.int c.1) (0,0,0) l) (by assumption) (λj x v=>λs t1 S hd=>?_) λD6 H6 e6 S6=>?_
 ·obtain ⟨c,z,rfl⟩:=zK s;refine zB ⟨rfl,?_⟩;left;refine hd (by assumption) ?_;rw [zG z];exact Has.int
 left;refine Ai ks ?_;have Z:=S6.freeze;left;refine zO (xs:=l.map zF) Z .mm λJ8 SI=>?_
 refine yp SI (λj=>zF ((λc:Cl=>((b*c.1,c.2):Cl)) (l.getD j (0,0,0)))) (ys:=(yd b l).map zF) (by
  unfold yd;rw [Qr,Qa];exact zm (λc:Cl=>zF ((b*c.1,c.2):Cl)) (0,0,0) l) Z (λ_ _=> .mem (by right)) (by rw [Qa];omega) (λj x v B' G' Kd Kn s t1 S hd C ex s0 H0=>?_) λD8 H8 e8 S8=>?_
 ·obtain ⟨c,z,rfl⟩:=zK s;have o:IntMulOk b c.1:=m.mulOk (ok.sz c (Qc z)) nofun;refine zB ⟨rfl,?_⟩;left;refine hd (by assumption) ?_;rw [zG z];exact .mem (by right)
 left;refine YV (r:=r) (l:=yd b l) (tk:=tkV b ps) S8.freeze .mm .mm .mm (by exact ⟨pl.pok,Na,nofun,by rw [Zi];exact few,λx s=>by rw [Vt] at s;obtain ⟨a,ha,rfl⟩:=Qj.mp s;exact (m.mul (ok.am.2 a ha).2).mono nofun,kf⟩) λH9 e9 S9=>?_;exact k _ S9.base
abbrev Wb:Stmt:=top 84
def ja:FnScope ["_law_cell","_law_number"] paG (zk Wb):=xc
def Gp (F:Fun K "_law_portion" "_law_portion" Wb f fd):FnOk P w K mg base CX0 1 f fd paG rj:=by
 walk_at "+ja";obtain ⟨G,c,rfl,z,k⟩:=h;have S:Sta H G H [] []:=Sta.enter z λp hp=>absurd hp Qm;walk_at "=ej1Ea0+ddelosnEa1ddkfitbdbzdEQa1ddcmelosnEa1ddkfitbzdEQa1ddbdcmfitbzdEQa1ddbzdEQa1ddc";left;generalize c % 10 ^ Int.toNat 9=m at*;have hm:0<=m / 3 % 60/\m / 3 % 60<60:=⋯
 have g:∀t b:Int,0<t->t<b->b<=61->Int.gcd t b=1->Small t b:=λt b y u s r=>⟨⟨⟨by unfold Sz;omega,by unfold Sz;omega⟩,y,u,r⟩,s⟩;refine yS (λ_=>?_) (λ_=>?_)
 ·left;exact BX (by assumption) k .mm (g _ _ nofun ⋯ ⋯ (by rw [Int.gcd_one_left]))
 left;refine yS (λ_=>?_) (λ_=>?_)
 ·left;refine BX (by assumption) k .mm (g _ _ ⋯ ⋯ ⋯ ?_);obtain ⟨i,q,e⟩:∃i:Nat,i<60/\m / 3 % 60=(i:Int):=⟨(m / 3 % 60).toNat,⋯,⋯⟩;rw [e];clear e hm
  revert q
  revert i
  decide+kernel
 left;refine BX (by assumption) k .mm (g _ _ ⋯ ⋯ ⋯ ?_);obtain ⟨i,q,e⟩:∃i:Nat,i<60/\m / 3 % 60=(i:Int):=⟨(m / 3 % 60).toNat,⋯,⋯⟩;rw [e];clear e hm
 revert q
 revert i
 decide+kernel
abbrev bq:Stmt:=top 85
def rG:FnScope paG paG (zk bq):=xc
def Gv (F:Fun K "_law_leaf" "_law_leaf" bq f fd):FnOk P w K mg base CX0 1 f fd paG rm:=by
 walk_at "+rG";obtain ⟨G,c,rfl,g,k⟩:=h;have S:Sta H G H [] []:=Sta.enter g λp hp=>absurd hp Qm;walk_at "=fiqBbtbrcbtbrcbtbrcbtbrccEa0d";left;rename_i z Z J O y Y I N u X D M t U C L s T A q
 obtain ⟨n,hn⟩:∃n,atI [PyData.tuple [.str "shares"], .tuple [.str "evenly"], .tuple [.str "losses"], .tuple [.str "halves"]] (c % 4)=some (jv n).shape:=by
  rcases (by omega:c % 4=0\/c % 4=1\/c % 4=2\/c % 4=3) with h|h|h|h<;>rw [h]
  ·exact ⟨0,rfl⟩
  ·exact ⟨1,rfl⟩
  ·exact ⟨2,rfl⟩
  ·exact ⟨3,rfl⟩
 refine Wz (x:=(jv n).shape) q (by right) hn λr m=>?_;exact BY (n:=n) m k .mm
abbrev Ur:Stmt:=top 86
def oK:FnScope ["_law_cells","_law_groups","_law_pile","_law_cell","_law_more","_law_kind"] paJ (zk Ur):=xc
def CK (B:Bl mg) (HX:Cal P w K mg base CX0 1 "_law_portion" paG rj) (Ly:Cal P w K mg base CX0 1 "_law_leaf" paG rm) (F:Fun K "_law_shape" "_law_shape" Ur f fd):FnOk P w K mg base CX0 2 f fd paJ lC:=by
 walk_at "+oK";obtain ⟨G,ns,g,v,rfl,eG,hv,hl6,k⟩:=h;have S:Sta H G H [] [(xN ns,v)]:=Sta.enter eG λp hp=>by rw [Qq.mp hp];exact hv
 have two:∀rs:List Rl,1<rs.length->∃ls ra s,rs=ls++[ra,s]:=λrs h=>by
  refine ⟨rs.dropLast.dropLast,rs.dropLast.getLast (λz=>?_),rs.getLast (λz=>?_),?_⟩
  ·have:=congrArg List.length z;rw [List.length_dropLast,List.length_nil] at this;omega
  ·rw [z,List.length_nil] at h;omega
  ·rw [show ∀a b:Rl,[a,b]=[a]++[b] from λ_ _=>rfl,<-jaf,jal,jal]
 have one:∀rs:List Rl,0<rs.length->∃ls ra,rs=ls++[ra]:=λrs h=>by
  refine ⟨rs.dropLast,rs.getLast (λz=>?_),?_⟩
  ·rw [z,List.length_nil] at h;omega
  ·rw [jal]
 have U:∀(ls:List Rl) (r:Rl),atI ((ls++[r]).map Rl.shape) (-1)=some r.shape:=λls r=>by
  rw [QM];exact vk _ _
 have at2:∀(ls:List Rl) (r q:Rl),atI ((ls++[r,q]).map Rl.shape) (-2)=some r.shape/\atI ((ls++[r,q]).map Rl.shape) (-1)=some q.shape:=λls r q=>⟨by rw [QM];exact HN,by rw [show ls++[r,q]=ls++[r]++[q] by simp];exact U _ _⟩;walk_at "=ej2BceFwa0A3ej4EQa3d+ddej5Ea3dflN3osna5dk6PCba2cdkfj2LXa2YKJdBbtbrbqa2JdccflN3osna5dk6PCba2cdkfj2LXa2YKJdBbtbrbqa2JdccflN3osna5dk3PCba2cdk6Ma1fj2LXa2YKJdBbtbrbqa2Jdbqa2JdccflN3Pa5dk6PCba2cdkfj2LXa2YKJdBbtbrbhba4cbqa2Jdbqa2JdccfDZa2bhba4ccelosnCba2cdkfitbrcme-PCba2cdkfj2LXa2YKJdBbtbrbtbdbzdCba2ccbqa2Jdbqa2Jdccfig2";left;rename_i p1 H1 e1 S1;refine zO (xs:=ns.map PyData.int) S1 .mm λJ wk=>?_;refine Zs wk (λi σ cs ds=>∃(rs:List Rl) (p:Addr) (Z Y X:Option V),σ=[some v,some (.bl g),some (.ref p),Z,Y,X]/\cs=[(p,rs.map Rl.shape)]/\ds=[(xN ns,v)]/\(∀r∈rs,PS6 r)/\ndS rs<=i) S1 ⟨[],p1,none,none,none,rfl,rfl,rfl,λr hr=>absurd hr Qm,Qu _⟩ (λi σ cs ds h=>?_) ?_ ?_
 ·obtain ⟨_,_,_,_,_,_,_,rfl,_⟩:=h;exact .mem (by right)
 ·rintro i x u σ H2 cs ds hx ⟨rs,p,Z,Y,X,rfl,rfl,rfl,Nt,Rg⟩ M
  obtain ⟨c,hc,rfl⟩:=zK hx;have hi:=(Qd.mp hc).1;cases M.int1;have M:=M.drop1;have ll:=Vh rs
  have fin:∀(q:Addr) (ls:List Rl) (r:Rl) (y3 y4 y5:Option V) (H5:Hp),(∀r∈ls,PS6 r)->PS6 r->ndS ls+nd r<=i+1->Sta H G H5 [(q,ls.map Rl.shape++[r.shape])] [(xN ns,v)]->
   AtP H G (λσ cs ds=>∃(rs:List Rl) (p:Addr) (Z Y X:Option V),σ=[some v,some (.bl g),some (.ref p),Z,Y,X]/\cs=[(p,rs.map Rl.shape)]/\ds=[(xN ns,v)]/\(∀r∈rs,PS6 r)/\ndS rs<=i+1) [some v,some (.bl g),some (.ref q),y3,y4,y5] H5:=by
   intro q ls r y3 y4 y5 H5 h1 h2 h3 T;refine YM T ⟨ls++[r],q,y3,y4,y5,rfl,by rw [QM];rfl,rfl,λz hz=>?_,by rw [Yj];exact h3⟩
   rcases QT.mp hz with z'|z'
   ·exact h1 z z'
   ·rw [Qq.mp z'];exact h2
  left;refine' if2 ?gh1 ?gk1 ?gn1
  case gh1=>
   intro z;left;exact z
  case gk1=>
   intro c1 C;have C:=Qz C;rw [Qa] at C;left;obtain ⟨ls,ra,rfl⟩:=one rs ⋯;have O:=Nt ra (by simp);have nn:=Yj ls ra;refine pC M (by right) λq3 H3 e3 A=>?_;rw [show nA ((ls++[ra]).map Rl.shape) none (some (-1))=ls.map Rl.shape by rw [QM];exact uY _ _] at A;left;refine Wz (x:=ra.shape) A (by right) (U ls ra) λw4 L=>?_;left;rename_i q5 H5 e5 T q6 H6 e6 I;refine .inl (Zn (xs:=ls.map Rl.shape) (zs:=[(Rl.other ra).shape]) I (I.vwC (by right)) (I.vwC (by right)) (by have:=Vh ls;rw [Qa];show _+1<=1000;omega) λq7 H7 e7 D=>?_);left;exact fin q7 ls (Rl.other ra) _ _ _ H7 (λr hr=>Nt r (by simp [hr])) O (by simp only [nd];omega) (D.weak (by walk_at "sub") ‹()›)
  intro _;left;refine' if2 ?gh2 ?gk2 ?gn2
  case gh2=>
   intro z;left;exact z
  case gk2=>
   intro c1 C;have C:=Qz C;rw [Qa] at C;left;obtain ⟨ls,ra,rfl⟩:=one rs ⋯;have O:=Nt ra (by simp);have nn:=Yj ls ra;refine pC M (by right) λq3 H3 e3 A=>?_;rw [show nA ((ls++[ra]).map Rl.shape) none (some (-1))=ls.map Rl.shape by rw [QM];exact uY _ _] at A;left;refine Wz (x:=ra.shape) A (by right) (U ls ra) λw4 L=>?_;left;rename_i q5 H5 e5 T q6 H6 e6 I;refine .inl (Zn (xs:=ls.map Rl.shape) (zs:=[(Rl.ranks ra).shape]) I (I.vwC (by right)) (I.vwC (by right)) (by have:=Vh ls;rw [Qa];show _+1<=1000;omega) λq7 H7 e7 D=>?_);left;exact fin q7 ls (Rl.ranks ra) _ _ _ H7 (λr hr=>Nt r (by simp [hr])) O (by simp only [nd];omega) (D.weak (by walk_at "sub") ‹()›)
  intro _;left;refine' if3 ?gh3 ?gi3 ?gk3 ?gn3
  case gh3=>
   intro z;left;exact z
  case gi3=>
   intro z;left;exact z
  case gk3=>
   intro c1 C _;have C:=Qz C;rw [Qa] at C;left;obtain ⟨ls,ra,s,rfl⟩:=two rs ⋯;have O:=Nt ra (by simp);have ob:=Nt s (by simp);have nn:ndS (ls++[ra,s])=ndS ls+nd ra+nd s:=by rw [show ls++[ra,s]=ls++[ra]++[s] by simp,Yj,Yj]
   refine pC M (by right) λq3 H3 e3 A=>?_;rw [show nA ((ls++[ra,s]).map Rl.shape) none (some (-2))=ls.map Rl.shape by rw [QM];exact ny _ _ _] at A;left;refine Wz (x:=ra.shape) A (by right) (at2 ls ra s).1 λw4 L=>?_;left;refine Wz (x:=s.shape) L (by right) (at2 ls ra s).2 λw5 T=>?_;left;rename_i q6 H6 e6 I q7 H7 e7 D;refine .inl (Zn (xs:=ls.map Rl.shape) (zs:=[(Rl.groups ra s).shape]) D (D.vwC (by right)) (D.vwC (by right)) (by have:=Vh ls;rw [Qa];show _+1<=1000;omega) λq8 H8 e8 S8=>?_);left;exact fin q8 ls (Rl.groups ra s) _ _ _ H8 (λr hr=>Nt r (by simp [hr])) ⟨O,ob⟩ (by simp only [nd];omega) (S8.weak (by walk_at "sub") ‹()›)
  intro _;left;refine' if2 ?gh4 ?gk4 ?gn4
  case gh4=>
   intro z;left;exact z
  case gk4=>
   intro c1 C;have C:=Qz C;rw [Qa] at C;left;obtain ⟨ls,ra,s,rfl⟩:=two rs ⋯;have O:=Nt ra (by simp);have ob:=Nt s (by simp);have nn:ndS (ls++[ra,s])=ndS ls+nd ra+nd s:=by rw [show ls++[ra,s]=ls++[ra]++[s] by simp,Yj,Yj]
   refine pC M (by right) λq3 H3 e3 A=>?_;rw [show nA ((ls++[ra,s]).map Rl.shape) none (some (-2))=ls.map Rl.shape by rw [QM];exact ny _ _ _] at A;left;refine FN A λwp Hp t b sm ep Sp=>?_;left;refine Wz (x:=ra.shape) Sp (by right) (at2 ls ra s).1 λw4 L=>?_;left;refine Wz (x:=s.shape) L (by right) (at2 ls ra s).2 λw5 T=>?_;left;rename_i q6 H6 e6 I q7 H7 e7 D;refine .inl (Zn (xs:=ls.map Rl.shape) (zs:=[(Rl.upto t b ra s).shape]) D (D.vwC (by right)) (D.vwC (by right)) (by have:=Vh ls;rw [Qa];show _+1<=1000;omega) λq8 H8 e8 S8=>?_);left;exact fin q8 ls (Rl.upto t b ra s) _ _ _ H8 (λr hr=>Nt r (by simp [hr])) ⟨sm.ps,O,ob⟩ (by simp only [nd];omega) (S8.weak (by walk_at "sub") ‹()›)
  intro _;left;refine FP M λw3 H3 n e3 A=>?_;left;refine yW (y:=(jv n).shape) A .mm (by rw [Qa];omega) λH4 L=>?_;left;exact fin p rs (jv n) _ _ _ H4 Nt (DZ n).1 (by rw [(DZ n).2];omega) (L.dat ‹()›)
 ·rintro σ H2 cs ds ⟨rs,p,Z,Y,X,rfl,rfl,rfl,Nt,Rg⟩ M
  rw [Qa] at Rg;have ll:=Vh rs;left;rw [Qa];refine yS (λc1=>?_) (λc1=>?_)
  ·left;exact jS (r:= .halves) (by assumption) k .mm ⟨0,1,λt=>JOk.of (r:= .halves) trivial nofun,nofun,nofun⟩
  obtain ⟨ls,y,rfl⟩:=one rs ⋯;have nn:=Yj ls y;left;refine og (λm σ cs ds=>∃(ls:List Rl) (y:Rl) (p:Addr) (j N:Nat),σ=[some v,some (.bl g),some (.ref p),Z,Y,X]/\cs=[(p,(ls++[y]).map Rl.shape)]/\ds=[(xN ns,v)]/\(∀r∈ls,PS6 r)/\(∀t,JOk t j N y)/\j+ls.length<=5/\N+ndS ls<=6/\m=ls.length) _ M ⟨ls,y,p,0,nd y,rfl,rfl,rfl,λr hr=>Nt r (by simp [hr]),λt=>JOk.of (Nt y (by simp)) ⋯,by rw [QB,TL] at ll;omega,⋯,rfl⟩ ?_;clear Nt Rg M ll nn c1
  rintro m σ H3 cs ds ⟨ls,y,p,j,N,rfl,rfl,rfl,Nt,hy,hj,hN,rfl⟩ A
  left;rw [Qa,QB,TL];refine rQ (λc=>?_) (λc=>?_)
  ·have c:0<ls.length:=by
    have:=Qz c;omega
   obtain ⟨ls,ra,rfl⟩:=one ls c;have O:=Nt ra (by simp);have nn:=Yj ls ra;have pa:=gC ra;have ll:=Vh ls;rw [QB,TL] at hj;rw [show ls++[ra]++[y]=ls++[ra,y] by simp] at A;have hb:(((ls++[ra,y]).map Rl.shape).length:Int)=ls.length+2:=by rw [Qa,QB];rfl
   left;refine pC A (by right) λq4 H4 e4 L=>?_;rw [show nA ((ls++[ra,y]).map Rl.shape) none (some (-2))=ls.map Rl.shape by rw [QM];exact ny _ _ _] at L;left;rename_i q5 H5 e5 T;rw [hb] at T;refine Wz (x:=ra.shape) T (by right) (at2 ls ra y).1 λw6 I=>?_;left;refine Wz (x:=y.shape) I (by right) (at2 ls ra y).2 λw7 D=>?_;left;rename_i q8 H8 e8 S8 q9 H9 e9 S9;refine .inl (Zn (xs:=ls.map Rl.shape) (zs:=[(Rl.upto 1 (1+((ls.length:Int)+2)) ra y).shape]) S9 (S9.vwC (by right)) (S9.vwC (by right)) (by rw [Qa];show _+1<=1000;omega) λqa Ha ea Sa=>?_);left;have po:WE 1 (1+((ls.length:Int)+2)):=⟨⟨by unfold Sz;omega,by unfold Sz;omega⟩,⋯,⋯,Int.gcd_one_left _⟩;refine ⟨ls.length,by simp,_,_,Sa.weak (cs':=[(qa,ls.map Rl.shape++[(Rl.upto 1 (1+((ls.length:Int)+2)) ra y).shape])]) (ds':=[(xN ns,v)]) (by walk_at "sub") ‹()›,ls,_,qa,j+1,nd ra+N,rfl,by rw [QM];rfl,rfl,λr hr=>Nt r (by simp [hr]),λt=>JOk.join po (IA ⋯ ⋯) (JOk.of O ⋯) (hy t),⋯,⋯,rfl⟩
  ·have c:ls=[]:=by
    have:=of_decide_eq_false c;exact List.length_eq_zero_iff.mp ⋯
   subst c;left;refine Wz (x:=y.shape) A (by right) rfl λw4 L=>?_;exact jS (r:=y) L k .mm ⟨j,N,hy,⋯,⋯⟩
abbrev Za:Stmt:=top 95
def VR:FnScope ["_law_told","_law_one","_law_two","_law_part","_law_other"] ["_law_told"] (zk Za):=xc
def Gy (B:Bl mg) (F:Fun K "_law_no_part_falls" "_law_no_part_falls" Za f fd):FnOk P w K mg base CX0 1 f fd ["_law_told"] rA:=by
 walk_at "+VR";obtain ⟨z,T,⟨⟨sz,few⟩,le⟩,k⟩:=h;obtain ⟨v,rfl,al⟩:=YF T;have S:Sta H H H [] [(qQ z,v)]:=Sta.enter (zP.refl _) al;dsimp only at sz few le k;walk_at "=eFwa0A1fFwa0A2fl_vqg1dqg2dvqg2dqg1dkfF&bg1bg2cHyA3yA4IflPvg3g4vg4g3kfiGmmfiG";left;refine zO (xs:=z.map EL) S .mm λJ I=>?_;refine Zs I (λi σ cs ds=>(∃s r m g,σ=[some v,s,r,m,g])/\cs=[]/\ds=[(qQ z,v)]) S ⟨⟨_,_,_,_,rfl⟩,rfl,rfl⟩ (λi σ cs ds h=>?_) ?_ ?_
 ·obtain ⟨_,rfl,rfl⟩:=h;exact .mem (by right)
 ·rintro i x u σ H2 cs ds hx ⟨⟨s,r,m,g,rfl⟩,rfl,rfl⟩ S2
  obtain ⟨a,ha,rfl⟩:=zK hx;have am:=Qc ha;left;refine zO (xs:=z.map EL) S2 .mm λJ2 Z=>?_;refine Zs Z (λi σ cs ds=>(∃r m g,σ=[some v,some u,r,m,g])/\cs=[]/\ds=[(EL a,u),(qQ z,v)]) S2 ⟨⟨_,_,_,rfl⟩,rfl,rfl⟩ (λi σ cs ds h=>?_) ?_ ?_
  ·obtain ⟨_,rfl,rfl⟩:=h;exact .mem (by right)
  ·rintro j x u2 σ H3 cs ds hx ⟨⟨r,m,g,rfl⟩,rfl,rfl⟩ S3
   obtain ⟨b,O,rfl⟩:=zK hx;have bm:=Qc O;have o1:IntMulOk a.1.num (b.1.den:Int):=(sz a am).1.1.mulOk (sz b bm).1.2 nofun;have o2:IntMulOk b.1.num (a.1.den:Int):=(sz b bm).1.1.mulOk (sz a am).1.2 nofun;left;refine yS (λc=>?_) (λc=>?_)
   ·have ab:a.1<=b.1:=(Rat.le_iff ..).mpr c;have lv:=(le a am).2 b bm ab;have fa:=(le a am).1;left;rename_i A S5 t G;refine dZ (xs:=a.2.map frD) (ys:=b.2.map frD) G .mm .mm λJ3 NN=>?_;refine Zs NN (λi σ cs ds=>(∃m g,σ=[some v,some u,some u2,m,g])/\cs=[]/\ds=[(yl b.2,t),(yl a.2,A),(EL b,u2),(EL a,u),(qQ z,v)]) (G.dat ‹()›) ⟨⟨_,_,rfl⟩,rfl,rfl⟩ (λi σ cs ds h=>?_) ?_ ?_
    ·obtain ⟨_,rfl,rfl⟩:=h;exact ⟨.mem (by right),λ_ _ h=>h.tail, .mem (by right)⟩
    ·rintro n y u3 σ H7 cs ds hz ⟨⟨m,g,rfl⟩,rfl,rfl⟩ S7
     obtain ⟨z1,z2,X,U,rfl⟩:=ZX hz;obtain ⟨p,hp,rfl⟩:=zK X;obtain ⟨q,C,rfl⟩:=zK U;have N:=lv n p q hp C;have sp:=(sz a am).2 p (Qc hp);have sq:=(sz b bm).2 q (Qc C);have o3:IntMulOk p.num (q.den:Int):=sp.1.mulOk sq.2 nofun;have o4:IntMulOk q.num (p.den:Int):=sq.1.mulOk sp.2 nofun;refine xB (xA S7 .mm λM L D=>?_);have Y:Sta H H H7 [] [(frD q,L),(frD p,M),(yl b.2,t),(yl a.2,A),(EL b,u2),(EL a,u),(qQ z,v)]:=D.dat ‹()›;clear D S7;left;have c0:=(Rat.le_iff ..).mp N;refine yS (λc=>by omega) (λ_=>?_);left;exact YM (Y.dat ‹()›) ⟨⟨_,_,rfl⟩,rfl,rfl⟩
    ·rintro σ H7 cs ds ⟨⟨m,g,rfl⟩,rfl,rfl⟩ S7
     left;exact YM (S7.dat ‹()›) ⟨⟨_,_,_,rfl⟩,rfl,rfl⟩
   ·left;exact YM (S3.dat ‹()›) ⟨⟨_,_,_,rfl⟩,rfl,rfl⟩
  ·rintro σ H3 cs ds ⟨⟨r,m,g,rfl⟩,rfl,rfl⟩ S3
   left;exact YM (S3.dat ‹()›) ⟨⟨_,_,_,_,rfl⟩,rfl,rfl⟩
 ·rintro σ H2 cs ds ⟨⟨s,r,m,g,rfl⟩,rfl,rfl⟩ S2
  left;exact k _ S2.base
local macro_rules|`(tactic|walk_at "rd")=>`(tactic|first|fail "&184"|fail)
section
variable {A:RAd}
abbrev mh:Stmt:=top 96
def sc_law:FnScope ["_law_script","_law_first","_law_many","_law_claims_here","_law_shape_here","_law_rule","_law_whole_here","_law_told","_law_cell","_law_purse_here","_law_parts"] ["_law_script"] (zk mh):=xc
def ok_law {fS fT fQ Yg:Addr} {L:FuncData} (B:Bl mg) (MN:∀r:Rl,ROk K fS fT Yg (A.cls r)) (OU:∀r:Rl,Meth K (A.cls r) "parts" fQ) (dk:FnOk P w K mg base CX0 24 fQ L paw (lG A 33 7)) (cZ:yG K L paw [])
 (nS:Cal P w K mg base CX0 1 "_law_cell_at" paz (ue K)) (Jg:Cal P w K mg base CX0 2 "_law_claims" pal (ft K)) (Lo:Cal P w K mg base CX0 2 "_law_shape" paJ lC) (AL:Cal P w K mg base CX0 8 "_law_text" paI (lK 7)) (Jc:Cal P w K mg base CX0 20 "read" ["text"] (Bt A 7)) (Lq:Cal P w K mg base CX0 3 "_law_purse" paE rf) (Lp:Cal P w K mg base CX0 27 "_law_right" paf (lE 33)) (tP:Cal P w K mg base CX0 1 "_law_no_part_falls" ["_law_told"] rA) (F:Fun K "law" "law" mh f fd):FnOk P w K mg base CX0 28 f fd ["_law_script"] (Fz K):=by
 walk_at "+sc_law";obtain ⟨a,ns,rfl,hS,hlen,_,q⟩:=h;have S:Sta H H H [] []:=Sta.enter (zP.refl _) λp hp=>absurd hp Qm;walk_at "=ej1hba0bdcej2zdEa1dej3hba0bdba2bqBbdbdb+ddcEQa1ddcej4hbXa0KdKdbGcej5hbhba4ccej6STbx_law_claim;1;wa3p0ug0cej7BceFwzBbdcXa0Kzda2Kzda2A8ej9hba6ba8cejaрa5сbтba3cba9celRMhba4ba3ba9baacfiGmfDZa7btba9baaccfihba7c";left;generalize ik ns 0=c at*;rename_i p1 H1 e1 S1
 obtain ⟨size,So,Ra,Ox⟩:∃n:Int,atI [PyData.int 10, .int 1000, .int (10 ^ Int.toNat 9)] (c / 7 % 3)=some (.int n)/\10<=n/\n<=10 ^ 9:=by
  rcases (by omega:c / 7 % 3=0\/c / 7 % 3=1\/c / 7 % 3=2) with h|h|h<;>rw [h]
  ·exact ⟨10,rfl,nofun,nofun⟩
  ·exact ⟨1000,rfl,nofun,nofun⟩
  ·exact ⟨10 ^ Int.toNat 9,rfl,nofun,nofun⟩
 refine JN S1 (by right) So ?_;have S2:Sta H H H1 [] []:=S1.dropC;clear S1;have hS1:SqL K H1 a (ns.map V.int):=S2.base.seq hS;left;have p46:(10:Int) ^ 9<=10 ^ 46:=by decide+kernel
 refine wm S2 hS1 ⟨nofun,⋯,⋯,Ra,⋯⟩ λl t H3 hl SX e3 S3=>?_
 have D:ClS 33 l:=SX.S (s:=30) ⋯ (by
  have:(10:Int) ^ 9<=2 ^ 30:=by decide+kernel
  omega)
 have few:=SX.few;have em:1+c % 7=((l.length:Nat):Int):=⋯
 rw [em];clear hl So SX p46 Ra Ox;have S4:Sta H H H3 [] [(zA l, .ref t)]:=S3.freeze;clear S3 S2;have hS3:SqL K H3 a (ns.map V.int):=S4.base.seq hS
 have Rw:(IK ns (some 1) (some 7)).length<=6:=by
  unfold IK;rw [TC,show HT.sIx ns.length ns.length (some 7)=min 7 ns.length from HT.sIx_nat _ _ 7,show HT.sIx ns.length 0 (some 1)=min 1 ns.length from HT.sIx_nat _ _ 1];omega
 left;refine Io S4 hS3 λp5 H5 e5 S5=>?_;left;refine Ca S5.freeze .mm Rw λG H6 r dr e6 T=>?_;obtain ⟨j,N,hJ,hj,hN⟩:=dr;obtain ⟨ru,OB,Na⟩:=(hJ 33).ru nofun hj hN;have Np:=(hJ 33).size;have S6:Sta H H H6 [] [(r.shape,G),(zA l, .ref t)]:=T.dat ‹()›;clear T S5 S4 Rw hJ;left;refine af (r:=r) S6 .mm (Rl.ok_of ru.pok) ⋯ Na λH7 S7=>?_;left;refine JG (A:=A) (r:=r) S7 (Rl.ok_of ru.pok) ⋯ Na λU H8 e8 S8=>?_;clear S7 S6;left;refine zO (xs:=l.map zF) S8 .mm λJ9 RJ=>?_;refine yo RJ (λj=> .int (l.getD j (0,0,0)).1) (ys:=(amV l).map PyData.int) (by unfold amV;rw [Qa,Qr];exact zm (λc:Cl=>PyData.int c.1) (0,0,0) l) S8 (λj x v=>λg t1 S hd=>?_) λD9 H9 e9 S9=>?_
 ·obtain ⟨c,hc,rfl⟩:=zK g;refine zB ⟨rfl,?_⟩;left;refine hd (by assumption) ?_;rw [zG hc];exact Has.int
 have ok:ClOk 160 l:=D.ok nofun;have sum:=ok.am.sum;have Nn:Sta H H H9 [(D9,(amV l).map PyData.int)] [(r.ins A,U),(r.shape,G),(zA l, .ref t)]:=S9.dat ‹()›;clear S9 S8 RJ J9;left;generalize (amV l).sum=wh at*;rename_i RN PF Pk Nw Pl PD SD Ni;refine Io Ni (Ni.base.seq hS) λp13 SF SA X=>?_;have Oo:(IK ns (some (7+(l.length:Int))) (some (10+(l.length:Int)))).length<=63:=by unfold IK;rw [TC,To];omega
 generalize IK ns (some (7+(l.length:Int))) (some (10+(l.length:Int)))=cells at*;refine Zn X (X.vwC (by right)) (X.vwC (by right)) (by rw [Qa];show 1+_<=1000;omega) λI H14 e14 NX=>?_;rw [show [PyData.int 1]++cells.map PyData.int=(1::cells).map PyData.int from rfl] at NX;have Ol:Sta H H H14 [(RN,[])] [(xN (1::cells), .ref I),(r.ins A,U),(r.shape,G),(zA l, .ref t)]:=NX.freeze.weak (by walk_at "sub") ‹()›;clear NX X Ni Nw Nn;refine zO (xs:=(1::cells).map PyData.int) Ol .mm λJ wk=>?_;refine Zs wk (λi σ cs ds=>∃(z:List (Rat×List Rat)) (Z Y Ot:Option V),σ=[some (.ref a),some (.int c),some (.int (l.length:Nat)),some (.ref t),some G,some U,some (.int wh),some (.ref RN),Z,Y,Ot]/\cs=[(RN,z.map EL)]/\ds=[(xN (1::cells), .ref I),(r.ins A,U),(r.shape,G),(zA l, .ref t)]/\(∀x∈z,(0<=x.1/\SzQ 300 x.1)/\x.2=zh (zI r l) x.1)/\z.length<=i) Ol ⟨[],none,none,none,rfl,rfl,rfl,λx g=>absurd g Qm,Qu _⟩ (λi σ cs ds h=>?_) ?_ ?_
 ·obtain ⟨_,_,_,_,_,_,rfl,_⟩:=h;exact .mem (by right)
 ·rintro i x u σ H20 cs ds g ⟨z,Z,Y,Ot,rfl,rfl,rfl,hz,zl⟩ RF
  obtain ⟨y,hy,rfl⟩:=zK g;have il:=(Qd.mp hy).1;rw [Qy] at il;cases RF.int1;left;refine FL RF ⟨sum.1,sum.2.mono nofun⟩ λw21 H21 e ⟨g0,gz⟩ e21 m=>?_;clear RF;left;refine Iq (C:=A.cls r) m .mm (MN r).cl (OU r) (by decide+kernel) ?_;left;rename_i p22 H22 e22 O;refine Cd (r:=r) (l:=l) (e:=e) O.freeze .mm .mm .mm ru Na D gz g0 λw23 H23 e23 M=>?_;clear O m;left;refine Cb (r:=r) (l:=l) (e:=e) M .mm .mm .mm .mm ru OB D (gz.mono nofun) g0 λH24 e24 U24=>?_;clear M;left;rename_i w25 H25 e25 U25;refine yW (y:=EL (e,zh (zI r l) e)) U25 .mm (by rw [Qa];omega) λH26 U26=>?_;left;refine YM (U26.dat ‹()›) ⟨z++[(e,zh (zI r l) e)],_,_,_,rfl,by rw [QM];rfl,rfl,λx g=>?_,by rw [QB];show _+1<=_;omega⟩
  rcases QT.mp g with h|h
  ·exact hz x h
  ·rw [Qq.mp h];exact ⟨⟨g0,gz⟩,rfl⟩
 ·rintro σ H20 cs ds ⟨z,Z,Y,Ot,rfl,rfl,rfl,hz,zl⟩ RF
  rw [Qa,Qy] at zl;have pl:=(ru.gf D).ful.std;have dd:=ru.den;left;refine FT (z:=z) RF.freeze .mm ⟨λx g=>⟨(hz x g).1.2.mono nofun,λq hq=>?_⟩,⋯⟩ (λx g=>⟨?_,λy hy xy=>?_⟩) λH21 m=>?_
  ·rw [(hz x g).2] at hq;exact (ru.part D (hz x g).1.2.dq (hz x g).1.1 q hq).2.mono ⋯
  ·rw [(hz x g).2,pl.len];exact few
  ·rw [(hz x g).2,(hz y hy).2];exact ru.mono D (hz x g).1.1 xy
  ·left;exact q _
end
end
def all_mk {l:PySem.W.OpenLaw} {w:World} {K:Frg} {h:Heap} {mg:Str->Option Value} {fa:Addr} (X:K.In h) (G:h.Ns mainGlobals mg) (hfa:mg "law"=some (.ref fa))
 {od69 an69:Option Addr} {sl69:Array (Option Value)} {oc69 kV69 dc69 pm69 cd69 ct69:Value}
 (D1:DkT K mg "check_claims" Xj f1 d1 pan)
 (D2:DkT K mg "those_at" bh f2 d2 paB)
 (D3:DkT K mg "places_of_rank" ZY f3 d3 paP)
 (D4:DkT K mg "places_of_group" ZA f4 d4 pai)
 (D5:DkT K mg "as_one_claim" Xk f5 d5 pai)
 (D6:DkT K mg "fraction" bA f6 d6 pak)
 (D7:DkT K mg "plus" BQ f7 d7 pab)
 (D8:DkT K mg "minus" rM f8 d8 pab)
 (D9:DkT K mg "times" rL f9 d9 pab)
 (D10:DkT K mg "over" BS f10 d10 pab)
 (D11:DkT K mg "before" mw f11 d11 pab)
 (D12:DkT K mg "is_whole" bz f12 d12 ["number"])
 (D13:DkT K mg "lowest" md f13 d13 pak)
 (D14:DkT K mg "greatest_divisor" Zl f14 d14 pab)
 (D15:DkT K mg "thinned" fM f15 d15 ["corners"])
 (D16:DkT K mg "parts_at" bj f16 d16 ["path","purse"])
 (D17:DkT K mg "turned" lU f17 d17 ["path"])
 (D18:DkT K mg "scaled" lX f18 d18 paV)
 (D19:DkT K mg "behind" mr f19 d19 paN)
 (D20:DkT K mg "within" lT f20 d20 paY)
 (D21:DkT K mg "is_straight" Wf f21 d21 paF)
 (D22:DkT K mg "gap" Jy f22 d22 pab)
 (D23:DkT K mg "parts_between" Yv f23 d23 paU)
 (D24:DkT K mg "portion_reached" Zz f24 d24 pax)
 (D25:DkT K mg "amount_at" Uv f25 d25 pav)
 (D26:DkT K mg "plus_each" Uo f26 d26 paj)
 (D27:DkT K mg "less_each" Up f27 d27 paj)
 (D28:DkT K mg "last_reached" Xi f28 d28 paQ)
 (D29:DkT K mg "purses_reaching" Zy f29 d29 paR)
 (D30:DkT K mg "parts_within" Xh f30 d30 paS)
 (D31:DkT K mg "merged" lZ f31 d31 paj)
 (D32:DkT K mg "course" mj f32 d32 pay)
 (D33:DkT K mg "shares" lW f33 d33 pan)
 (D34:DkT K mg "evenly" mi f34 d34 pan)
 (D35:DkT K mg "losses" mf f35 d35 pan)
 (D36:DkT K mg "ranks" lY f36 d36 paX)
 (D37:DkT K mg "groups" dY f37 d37 paD)
 (D38:DkT K mg "upto" BO f38 d38 paC)
 (D39:DkT K mg "nothing" fN f39 d39 ["count"])
 (D40:DkT K mg "whole_corner" Xe f40 d40 ["parts"])
 (D41:DkT K mg "spread" lV f41 d41 pao)
 (D42:DkT K mg "spread_parts" Xf f42 d42 paK)
 (D43:DkT K mg "read" BP f43 d43 ["text"])
 (D44:DkT K mg "read_rule" XZ f44 d44 pas)
 (D45:DkT K mg "read_word" Um f45 d45 pas)
 (D46:DkT K mg "read_within_brackets" yO f46 d46 paW)
 (D47:DkT K mg "read_portion" Xg f47 d47 pas)
 (D48:DkT K mg "read_number" Wa f48 d48 pas)
 (D49:DkT K mg "_law_cell_at" We f49 d49 paz)
 (D50:DkT K mg "_law_mixed" Uu f50 d50 paL)
 (D51:DkT K mg "_law_divisor" Wc f51 d51 pau)
 (D52:DkT K mg "_law_lowest" WU f52 d52 paM)
 (D53:DkT K mg "_law_whole" Uq f53 d53 paA)
 (D54:DkT K mg "_law_is_fraction" ZC f54 d54 paA)
 (D55:DkT K mg "_law_labels" WV f55 d55 ["_law_number"])
 (D56:DkT K mg "_law_claims" WW f56 d56 pal)
 (D57:DkT K mg "_law_portion" Wb f57 d57 paG)
 (D58:DkT K mg "_law_leaf" bq f58 d58 paG)
 (D59:DkT K mg "_law_shape" Ur f59 d59 paJ)
 (D60:DkT K mg "_law_text" bo f60 d60 paI)
 (D61:DkT K mg "_law_even" bx f61 d61 paH)
 (D62:DkT K mg "_law_fits" bt f62 d62 paa)
 (D63:DkT K mg "_law_upto_fit" ZQ f63 d63 paa)
 (D64:DkT K mg "_law_ranks_fit" Zk f64 d64 paa)
 (D65:DkT K mg "_law_groups_fit" xX f65 d65 paa)
 (D66:DkT K mg "_law_right" Us f66 d66 paf)
 (D67:DkT K mg "_law_purse" Ut f67 d67 paE)
 (D68:DkT K mg "_law_no_part_falls" Za f68 d68 ["_law_told"])
 (a69:PySem.W.nsIn K mainGlobals "law"=some (some (.ref f69))) (l69:K.lookup f69=some ⟨oc69,od69, .func (PySem.W.fnOf "law" "law" (Yc mh) (Zu mh) (zk mh) .none kV69 dc69 pm69 an69 cd69 ct69),sl69⟩) (c69:PySem.W.codeIn K cd69 "law"=true) (k69:PySem.W.keepIn K (.ref f69)=true)
 {Yg VI VN VJ VL cj cg VM kD Vn ym yL yN yC XC XG XD XE WC WB XF Vm:Addr} {ig qh sW sX qi bW cb bX bY dF dE bZ ie:FuncData} {t_MOST:Tok} (LC:PySem.W.nsIn K mainGlobals "Rule"=some (some (.ref Yg))) (yD:PySem.W.findCls K (.ref Yg) (.type "type") "__init__"=some (.val (.ref Vn)))
 (Fi:PySem.W.nsIn K mainGlobals "Shares"=some (some (.ref VI)))
 (Fn:PySem.W.nsIn K mainGlobals "Evenly"=some (some (.ref VN)))
 (Fj:PySem.W.nsIn K mainGlobals "Losses"=some (some (.ref VJ)))
 (Fl:PySem.W.nsIn K mainGlobals "Halves"=some (some (.ref VL)))
 (Ji:PySem.W.nsIn K mainGlobals "Other"=some (some (.ref cj)))
 (Jh:PySem.W.nsIn K mainGlobals "Ranks"=some (some (.ref cg)))
 (Fm:PySem.W.nsIn K mainGlobals "Groups"=some (some (.ref VM)))
 (LB:PySem.W.nsIn K mainGlobals "Upto"=some (some (.ref kD)))
 (nL:CkT K VI XC Yg ym yL yN yC)
 (nP:CkT K VN XG Yg ym yL yN yC)
 (nM:CkT K VJ XD Yg ym yL yN yC)
 (nN:CkT K VL XE Yg ym yL yN yC)
 (tL:CkT K cj WC Yg ym yL yN yC)
 (tK:CkT K cg WB Yg ym yL yN yC)
 (nO:CkT K VM XF Yg ym yL yN yC)
 (ED:CkT K kD Vm Yg ym yL yN yC)
 (iI:FkT K "__init__" "Rule.__init__" Yy Vn ig pae)
 (qB:FkT K "shape" "Rule.shape" WX ym qh pac)
 (tI:FkT K "text" "Rule.text" fO yL sW pac)
 (tJ:FkT K "path" "Rule.path" Ux yN sX paO)
 (qC:FkT K "parts" "Rule.parts" WY yC qi paw)
 (cB:FkT K "__init__" "Shares.__init__" ZD XC bW pac)
 (cG:FkT K "__init__" "Evenly.__init__" ZH XG cb pac)
 (cC:FkT K "__init__" "Losses.__init__" ZE XD bX pac)
 (cD:FkT K "__init__" "Halves.__init__" ZF XE bY pac)
 (dN:FkT K "__init__" "Other.__init__" Ya WC dF pah)
 (dM:FkT K "__init__" "Ranks.__init__" ZZ WB dE pah)
 (cE:FkT K "__init__" "Groups.__init__" ZG XF bZ paq)
 (iH:FkT K "__init__" "Upto.__init__" Yx Vm ie pag)
 (xm:PySem.W.isFn K (.ref ym)=true) (xC:PySem.W.isFn K (.ref yL)=true) (xD:PySem.W.isFn K (.ref yN)=true) (xn:PySem.W.isFn K (.ref yC)=true) (x_MOST:PySem.W.nsIn K mainGlobals "MOST"=some (some (.int 8 t_MOST)))
 (WO:PySem.W.specialIn K (.ref Yg) "__getattribute__"=some (some (.builtin "type.__getattribute__"))) (Vc:PySem.W.readsIn K Yg (.type "type")=true) (Om:PySem.W.specialIn K (.builtin "object.__class__") "__get__"=some (some (.builtin "getset_descriptor.__get__"))) (OH:PySem.W.takesIn K (.builtin "object.__class__")=some true)
 {Xa y m Zt Wo Yl:Addr} {hV sV nv:FuncData} {tWORDS0 tWORDS1 tWORDS2 tWORDS3 tWORDS4 tWORDS5 tWORDS6 tWORDS7 tFIGURES0 tFIGURES1 tFIGURES2 Z Y U T O N M:Tok} {n_WORDS n_FIGURES:Nat} {sl_WORDS I:Array (Option Value)} (LA:PySem.W.nsIn K mainGlobals "Walk"=some (some (.ref Xa))) (x_WORDS:PySem.W.nsIn K mainGlobals "WORDS"=some (some (.ref y))) (L:PySem.W.nsIn K mainGlobals "FIGURES"=some (some (.ref m)))
 (l_WORDS:K.lookup y=some ⟨.type "tuple",none, .seq #[.str "shares" tWORDS0, .str "evenly" tWORDS1, .str "losses" tWORDS2, .str "halves" tWORDS3, .str "other(" tWORDS4, .str "ranks(" tWORDS5, .str "groups(" tWORDS6, .str "upto(" tWORDS7] n_WORDS,sl_WORDS⟩)
 (l_FIGURES:K.lookup m=some ⟨.type "tuple",none, .seq #[.str "0" tFIGURES0, .str "1" tFIGURES1, .str "2" tFIGURES2, .str "3" Z, .str "4" Y, .str "5" U, .str "6" T, .str "7" O, .str "8" N, .str "9" M] n_FIGURES,I⟩)
 (hU:PySem.W.findIn K (.ref Xa) "__init__"=some (some (.ref Zt))) (sS:PySem.W.findIn K (.ref Xa) "sign"=some (some (.ref Wo))) (nu:PySem.W.findIn K (.ref Xa) "expect"=some (some (.ref Yl)))
 (iG:FkT K "__init__" "Walk.__init__" Yw Zt hV paT) (gF:PySem.W.isFn K (.ref Zt)=true)
 (tH:FkT K "sign" "Walk.sign" Uw Wo sV pac) (sf:PySem.W.isFn K (.ref Wo)=true)
 (nK:FkT K "expect" "Walk.expect" Wg Yl nv pam) (mN:PySem.W.isFn K (.ref Yl)=true)
 (pg_Walk:PySem.W.plainGet K Xa Str.empty=true) (hd_Walk:PySem.W.hasDictIn K Xa=true) (po_Walk:PySem.W.plainOver K Xa=true) (sa_Walk:PySem.W.findIn K (.ref Xa) "__setattr__"=some (some (.builtin "object.__setattr__"))) (na_Walk:PySem.W.findIn K (.ref Xa) "signs"=some none) (nb_Walk:PySem.W.findIn K (.ref Xa) "at"=some none) (mk_Walk:PySem.W.makesIn K Xa=true) (kc_Walk:PySem.W.keepIn K (.ref Xa)=true) (B:Bl mg) (B2:Bl3 mg):
 ∃fd:FuncData,(∀(s:Shared) (v:Value),BindsTo s fd ⟨[v],[]⟩ [("_law_script",v)])/\∀base:Heap,K.In base->base.Ns mainGlobals mg->FnOk l.prog w K mg base CX0 28 fa fd ["_law_script"] (Fz K):=by
 have e:=hfa.symm.trans (jam X G a69);cases e;obtain ⟨Ub,jt,jE⟩:=D1;obtain ⟨kI,wV,AB⟩:=D2;obtain ⟨WG,dC,dG⟩:=D3;obtain ⟨XN,bO,cq⟩:=D4;obtain ⟨Uc,ju,jF⟩:=D5;obtain ⟨kQ,Aa,AH⟩:=D6;obtain ⟨IW,LQ,Mc⟩:=D7;obtain ⟨EI,Kv,Lb⟩:=D8;obtain ⟨EH,Kt,KZ⟩:=D9;obtain ⟨IX,LR,Md⟩:=D10;obtain ⟨vH,GR,HK⟩:=D11;obtain ⟨kP,wZ,AG⟩:=D12;obtain ⟨vC,GL,HF⟩:=D13;obtain ⟨Xb,aw,aB⟩:=D14;obtain ⟨qI,Dq,Ex⟩:=D15;obtain ⟨kK,wW,AD⟩:=D16;obtain ⟨vx,GG,HA⟩:=D17;obtain ⟨vA,GJ,HD⟩:=D18;obtain ⟨vG,GQ,HJ⟩:=D19;obtain ⟨vv,GD,Hz⟩:=D20;obtain ⟨aJ,mT,nI⟩:=D21;obtain ⟨Me,Mw,MA⟩:=D22;obtain ⟨Vx,gK,ir⟩:=D23;obtain ⟨XM,bN,cn⟩:=D24;obtain ⟨iT,sD,tE⟩:=D25;obtain ⟨iL,sj,tj⟩:=D26;obtain ⟨iM,sk,tm⟩:=D27;obtain ⟨Ua,js,jD⟩:=D28;obtain ⟨XJ,bM,ck⟩:=D29;obtain ⟨VZ,jq,jB⟩:=D30;obtain ⟨vB,GK,HE⟩:=D31;obtain ⟨vF,uC,vi⟩:=D32;obtain ⟨vz,GI,HC⟩:=D33;obtain ⟨vE,GP,HI⟩:=D34;obtain ⟨vD,GN,HG⟩:=D35;obtain ⟨Lj,Ku,La⟩:=D36;obtain ⟨HS,GO,HH⟩:=D37;obtain ⟨IU,LO,Ma⟩:=D38;obtain ⟨qJ,Dr,Ey⟩:=D39;obtain ⟨VW,jm,jy⟩:=D40;obtain ⟨vy,GH,HB⟩:=D41;obtain ⟨VX,jn,jz⟩:=D42;obtain ⟨IV,LP,Mb⟩:=D43;obtain ⟨iK,gJ,iq⟩:=D44;obtain ⟨iJ,si,tf⟩:=D45;obtain ⟨WL,WJ,WK⟩:=D46;obtain ⟨VY,jo,jA⟩:=D47;obtain ⟨aF,mO,nE⟩:=D48;obtain ⟨aI,mS,nH⟩:=D49;obtain ⟨iS,sC,tD⟩:=D50;obtain ⟨aH,mR,nG⟩:=D51;obtain ⟨df,pV,qw⟩:=D52;obtain ⟨iN,so,tq⟩:=D53;obtain ⟨XO,bP,cu⟩:=D54;obtain ⟨dg,pW,qx⟩:=D55;obtain ⟨dh,pX,qy⟩:=D56;obtain ⟨aG,mP,nF⟩:=D57;obtain ⟨kM,wX,AE⟩:=D58;obtain ⟨iO,sr,tu⟩:=D59;obtain ⟨kL,kj,kF⟩:=D60;obtain ⟨kO,wY,AF⟩:=D61;obtain ⟨kN,km,kG⟩:=D62;obtain ⟨jH,jr,jC⟩:=D63;obtain ⟨iQ,gM,iu⟩:=D64;obtain ⟨dO,dD,dH⟩:=D65;obtain ⟨iP,su,tw⟩:=D66;obtain ⟨iR,sv,tx⟩:=D67;obtain ⟨YI,UB,UG⟩:=D68;have MB:=qc (st:=mh) l69 c69 k69;refine ⟨PySem.W.fnOf "law" "law" (Yc mh) (Zu mh) (zk mh) .none kV69 dc69 pm69 an69 cd69 ct69,λs v=> .of_eq rfl,λbase XB GB=>?_⟩;obtain ⟨iX,yF,yB⟩:=iI;obtain ⟨ZW,xq,xo⟩:=qB;obtain ⟨Lk,Lc,xE⟩:=tI;obtain ⟨iW,iB,xF⟩:=tJ;obtain ⟨dk,cZ,xp⟩:=qC;obtain ⟨cH,cv,Ad⟩:=cB;obtain ⟨cL,cz,Ah⟩:=cG;obtain ⟨cI,cw,Ae⟩:=cC;obtain ⟨cJ,cx,Af⟩:=cD;obtain ⟨dQ,dJ,AU⟩:=dN;obtain ⟨dP,dI,AS⟩:=dM;obtain ⟨cK,cy,Ag⟩:=cE;obtain ⟨iV,iA,DG⟩:=iH;obtain ⟨iU,iw,DF⟩:=iG;obtain ⟨YJ,xH,sG⟩:=tH;obtain ⟨yZ,yv,mZ⟩:=nK;have IE:=jam XB GB LA;have g_WORDS:=jam XB GB x_WORDS;have g_FIGURES:=jam XB GB L;have W_ok:WOk K Wo Yl Xa:=⟨⟨pg_Walk,hd_Walk,po_Walk,sa_Walk⟩,na_Walk,nb_Walk,⟨sS,sf,sG⟩,⟨nu,mN,mZ⟩⟩;have EE:Mk K Xa Zt:=⟨mk_Walk,hU,gF,kc_Walk⟩;have fk:Fg K m:=⟨⟨_,_,_,l_FIGURES,by show 10<=sizeLine;decide,(.cons ⟨_,rfl⟩ (.cons ⟨_,rfl⟩ (.cons ⟨_,rfl⟩ (.cons ⟨_,rfl⟩ (.cons ⟨_,rfl⟩ (.cons ⟨_,rfl⟩ (.cons ⟨_,rfl⟩ (.cons ⟨_,rfl⟩ (.cons ⟨_,rfl⟩ (.cons ⟨_,rfl⟩ .nil))))))))))⟩⟩;have wk:Wd K y:=⟨⟨_,_,_,l_WORDS,by show 8<=sizeLine;decide,(.cons ⟨_,rfl⟩ (.cons ⟨_,rfl⟩ (.cons ⟨_,rfl⟩ (.cons ⟨_,rfl⟩ (.cons ⟨_,rfl⟩ (.cons ⟨_,rfl⟩ (.cons ⟨_,rfl⟩ (.cons ⟨_,rfl⟩ .nil))))))))⟩⟩;have Yf:=jam XB GB LC;have g_MOST:=jam XB GB x_MOST;have uP:=jam XB GB Fi;have qD:=nL.MK;have LD:=nL.ok xm xo xC xE Om OH;have LJ:=nL.mp xD xF xn xp;have uT:=jam XB GB Fn;have qH:=nP.MK;have LI:=nP.ok xm xo xC xE Om OH;have LN:=nP.mp xD xF xn xp;have uQ:=jam XB GB Fj;have qE:=nM.MK;have LF:=nM.ok xm xo xC xE Om OH;have LK:=nM.mp xD xF xn xp;have uR:=jam XB GB Fl;have qF:=nN.MK;have LG:=nN.ok xm xo xC xE Om OH;have LL:=nN.mp xD xF xn xp;have DV:=jam XB GB Ji;have vq:=tL.MK;have Mh:=tL.ok xm xo xC xE Om OH;have Mj:=tL.mp xD xF xn xp;have DU:=jam XB GB Jh;have vo:=tK.MK;have Mg:=tK.ok xm xo xC xE Om OH;have Mi:=tK.mp xD xF xn xp;have uS:=jam XB GB Fm;have qG:=nO.MK;have LH:=nO.ok xm xo xC xE Om OH;have LM:=nO.mp xD xF xn xp;have IF:=jam XB GB LB;have EF:=ED.MK;have Mt:=ED.ok xm xo xC xE Om OH;have Mu:=ED.mp xD xF xn xp;have MN:∀r:Rl,ROk K ym yL Yg ((⟨VI,VN,VJ,VL,cj,cg,VM,kD⟩:RAd).cls r):=λr=>by cases r<;>assumption
 have OU:∀r:Rl,Meth K ((⟨VI,VN,VJ,VL,cj,cg,VM,kD⟩:RAd).cls r) "path" yN/\Meth K ((⟨VI,VN,VJ,VL,cj,cg,VM,kD⟩:RAd).cls r) "parts" yC:=λr=>by cases r<;>assumption
 generalize OQ:(⟨VI,VN,VJ,VL,cj,cg,VM,kD⟩:RAd)=A at MN OU;have g:=Gj (P:=l.prog) (w:=w) (mg:=mg) (base:=base) (fS:=ym) (fT:=yL) (Ru:=Yg) iX;have p:=Gh (P:=l.prog) (w:=w) (mg:=mg) (base:=base) MN ZW;have Hk:=jf (A:=A) Yf WO Vc yD g yB yF (MN .shares) cH
 have GS:Yq l.prog w K mg base "Shares" (A.cls .shares) pac (yH (A.cls .shares) (α:=Unit) (λ_=>[]) (λ_=>Rl.shares.shape)):=by
  subst OQ;exact ⟨_,_,qD,Hk,cv,uP⟩
 have Ho:=jk (A:=A) Yf WO Vc yD g yB yF (MN .evenly) cL
 have GX:Yq l.prog w K mg base "Evenly" (A.cls .evenly) pac (yH (A.cls .evenly) (α:=Unit) (λ_=>[]) (λ_=>Rl.evenly.shape)):=by
  subst OQ;exact ⟨_,_,qH,Ho,cz,uT⟩
 have Hl:=jg (A:=A) Yf WO Vc yD g yB yF (MN .losses) cI
 have GU:Yq l.prog w K mg base "Losses" (A.cls .losses) pac (yH (A.cls .losses) (α:=Unit) (λ_=>[]) (λ_=>Rl.losses.shape)):=by
  subst OQ;exact ⟨_,_,qE,Hl,cw,uQ⟩
 have Hm:=jh (A:=A) Yf WO Vc yD g yB yF (MN .halves) cJ
 have GV:Yq l.prog w K mg base "Halves" (A.cls .halves) pac (yH (A.cls .halves) (α:=Unit) (λ_=>[]) (λ_=>Rl.halves.shape)):=by
  subst OQ;exact ⟨_,_,qF,Hm,cx,uR⟩
 have KJ:=mJ (A:=A) Yf WO Vc yD g yB yF p xq MN dQ
 have Kx:Yq l.prog w K mg base "Other" (A.cls (.other .shares)) pah (yH (A.cls (.other .shares)) (α:=Rl) (λr=>[r.ins A]) (λr=>(Rl.other r).shape)):=by
  subst OQ;exact ⟨_,_,vq,KJ,dJ,DV⟩
 have KI:=mH (A:=A) Yf WO Vc yD g yB yF p xq MN dP
 have Kw:Yq l.prog w K mg base "Ranks" (A.cls (.ranks .shares)) pah (yH (A.cls (.ranks .shares)) (α:=Rl) (λr=>[r.ins A]) (λr=>(Rl.ranks r).shape)):=by
  subst OQ;exact ⟨_,_,vo,KI,dI,DU⟩
 have Hn:=ji (A:=A) Yf WO Vc yD g yB yF p xq MN cK
 have GW:Yq l.prog w K mg base "Groups" (A.cls (.groups .shares .shares)) paq (yH (A.cls (.groups .shares .shares)) (α:=Rl×Rl) (λr=>[r.1.ins A,r.2.ins A]) (λr=>(Rl.groups r.1 r.2).shape)):=by
  subst OQ;exact ⟨_,_,qG,Hn,cy,uS⟩
 have LU:=pS (A:=A) Yf WO Vc yD g yB yF p xq MN iV
 have LS:Yq l.prog w K mg base "Upto" (A.cls (.upto 0 0 .shares .shares)) pag (yH (A.cls (.upto 0 0 .shares .shares)) (α:=(Int×Int)×Rl×Rl) (λr=>[.tuple [.int r.1.1, .int r.1.2],r.2.1.ins A,r.2.2.ins A]) (λr=>(Rl.upto r.1.1 r.1.2 r.2.1 r.2.2).shape)):=by
  subst OQ;exact ⟨_,_,EF,LU,iA,IF⟩
 have cm {f:Addr} {fd:FuncData} {k:Nat} {x:Str} {st:Stmt} {ps:List Str} {sp:Sp} (F:Fun K x x st f fd) (a:FnOk l.prog w K mg base CX0 k f fd ps sp) (hm:mg x=some (.ref f)) (b:yG K fd ps []):Cal l.prog w K mg base CX0 k x ps sp:=Vr F a hm b;have C_gcd:=cm Xb (ok_gcd Xb) aw aB;have ZS:=cm vC (CS B C_gcd vC) GL HF;have kR:=cm IW (Kg ZS IW) LQ Mc;have Xp:=cm EI (Gs ZS EI) Kv Lb;have nR:=cm EH (Gf ZS EH) Kt KZ;have Jd:=cm IX (Kh ZS IX) LR Md;have eS:=cm vH (Df vH) GR HK;have C_last:=cm Ua (Kj B eS Ua) js jD;have z:=cm XM (wF Xp Jd XM) bN cn;have D:=cm iT (Dg kR Xp nR iT) sD tE;have C_between:=cm Vx (wM B z D Vx) gK ir;have C:=cm kK (wH B C_last C_between kK) wW AD;have Mf:=cm Me (ok_gap Me) Mw MA;have J:=cm aJ (rZ B Mf aJ) mT nI;have qM:=cm qI (wA B J qI) Dq Ex;have C_pe:=cm iL (pQ B kR iL) sj tj;have C_le:=cm iM (pR B Xp iM) sk tm;have eN:=cm vx (CH B Xp C_le vx) GG HA;have vJ:=cm vA (CL B nR vA) GJ HD;have VQ:=cm vG (Dd B kR C_pe qM vG) GQ HJ;have C_check:=cm Ub (Gz B g_MOST Ub) jt jE;have C_wc:=cm VW (ok_wc B VW) jm jy;have XR:=cm qJ (wI C_wc qJ) Dr Ey;have vI:=cm vz (CJ B XR C_wc vz) GI HC;have eR:=cm vE (CZ B B2 C_wc vE) GP HI;have vL:=cm vD (CT eR eN vD) GN HG;have Jb:=cm IU (Kb VQ vJ Xp IU) LO Ma;have C_reach:=cm XJ (Gk B C_last z D XJ) bM ck;have C_pwith:=cm VZ (wD B C VZ) jq jB;have vK:=cm vB (CQ B eS vB) GK HE;have eM:=cm vv (CG B vK C_reach C_pwith vv) GD Hz;have C_those:=cm kI (Gg kI) wV AB;have C_plr:=cm WG (CO B WG) dC dG;have C_plg:=cm XN (wG B XN) bO cq;have C_one:=cm Uc (ok_one B Uc) ju jF;have C_sprv:=cm VX (wB B VX) jn jz;have C_spr:=cm vy (CI C_sprv vy) GH HB;have Wu:=cm vF (wL (t:=33) B B2 vI eR vL Jb eN XR C_plr C_plg C_those C_one C_spr VQ eM Lj Ku La HS GO HH vF uC vi 7) uC vi;have F_path:=Gq (A:=A) (t:=33) (n:=7) MN C_check Wu iW;have F_parts:=CP (A:=A) (t:=33) (n:=7) MN (λr=>(OU r).1) F_path iB C dk;have kS:=cm kP (se B kP) wZ AG;have kU:=cm kQ (Gw kS ZS kQ) Aa AH;have u:=Kc (P:=l.prog) (w:=w) (mg:=mg) (base:=base) W_ok YJ;have q:=CY (P:=l.prog) (w:=w) (mg:=mg) (base:=base) W_ok u xH yZ;have F_winit:=Gd (P:=l.prog) (w:=w) (mg:=mg) (base:=base) W_ok iU;have C_numr:=cm aF (Ki W_ok g_FIGURES fk u xH aF) mO nE;have C_portr:=cm VY (Gn W_ok q yv C_numr kU VY) jo jA;have C_word:=cm iJ (Ka W_ok g_WORDS wk u xH q yv iJ) si tf;have C_rrule:=cm iK (Ke (A:=A) W_ok q yv GS GX GU GV Kx Kw GW LS C_word C_portr iK gJ iq WL WJ WK 7) gJ iq;have Jc:=cm IV (Kf (n:=7) W_ok u xH IE EE F_winit iw C_rrule IV) LP Mb;have C_cell:=cm aI (Km B aI) mS nH;have C_mix:=cm iS (Gr iS) sC tD;have C_div:=cm aH (wK B aH) mR nG;have C_low:=cm df (CU C_div df) pV qw;have C_whole:=cm iN (Ge B iN) so tq;have C_frac:=cm XO (Kk B C_whole C_div XO) bP cu;have C_labels:=cm dg (CV dg) pW qx;have C_claims:=cm dh (Dc B C_cell C_mix C_labels dh) pX qy;have C_even:=cm kO (Kl B kO) wY AF;have C_fits:=cm kN (Gx B B2 C_even jH jr jC iQ gM iu dO dD dH kN km kG 12) km kG;have C_right:=cm iP (CM (t:=33) B C_frac C_div C_fits iP) su tw;have C_por:=cm aG (Gp aG) mP nF;have C_leaf:=cm kM (Gv kM) wX AE;have C_shape:=cm iO (CK B C_por C_leaf iO) sr tu;have C_purse:=cm iR (Gm C_low iR) sv tx;have C_ltext:=cm kL (Gu B kL kj kF 7) kj kF;have C_falls:=cm YI (Gy B YI) UB UG;exact ok_law (A:=A) B MN (λr=>(OU r).2) F_parts cZ C_cell C_claims C_shape C_ltext Jc C_purse C_right C_falls MB
def walk {l:PySem.W.OpenLaw} {q:Program} {loose:List Str} {y:(Str->Option Value)->Heap->Prop} {g:World->Heap->Prop} {d:DefRec} {K:Params->Frg} (hn:l.most=some 63) (A:d.params.defaults=[])
 (p:∀(w:World) (h:Heap),g w h->(K w.params).In h)
 (F:∀(w:World) (mg:Str->Option Value) (fa:Addr) (h:Heap),(K w.params).In h->h.Ns mainGlobals mg->mg d.name=some (.ref fa)->
  ∃fd:FuncData,(∀(s:Shared) (u:Value),BindsTo s fd ⟨[u],[]⟩ [("_law_script",u)])/\∀base:Heap,(K w.params).In base->base.Ns mainGlobals mg->FnOk l.prog w (K w.params) mg base CX0 28 fa fd ["_law_script"] (Fz (K w.params))):
 PySem.W.WalkO q loose y g l.row.toRowW d [] (λf vs=>PySem.call f vs):=
 L2.Jj (n:=63) (k:=28) (x:="_law_script") (CX:=λ_=>CX0) (sp:=λw=>Fz (K w.params)) hn nofun A ⟨rfl,nofun,nofun⟩ p F (λ_ _ a ns m t r=>⟨a,ns,rfl,r,m,t,λ_=>rfl⟩) λ_ _ _ _ _ z=>z
end K
structure PySem.W.Fast:Prop where(tw16230890126796167386 tw11136757175485516299 tw17852641480056184 tw11995536734426279871 tw18121254919148602735 tw11037479037424774022 tw1853194460152082003 tw4239159200924021791 tw4691641693544002723 tw7147877115754663750 tw6775891563066634394 tw4519111721431925309 tw3630115410415934312 tw761910356163769530 tw1531609033865653276 tw2939857517920806271 tw6663158788883312899 tw6042265624941789928 tw10741695227823789718 tw6563111400453367149 tw836006414284499674 tw9910054952144524401 tw17088144130028803667 tw4667872272020665576 tw10625087523489806275 tw6957579983858180633 tw15606899574466580310 tw3862441577203024786 tw2697800225484794134 tw7634708840063510541 tw1559943567684046710 tw13240643069079837519 tw1893954853025133245 tw8837829974122476534 tw6956546624902936331 tw649164688239119923 tw2701973532804380123 tw10051353024930892802 tw9888234793883013289 tw16322055348092531061 tw14665393117079761769 tw16269500393060783254 tw10482887662573284961 tw11286202254461230223 tw289615640650796863 tw12192214709795180545 tw282845583515720835 tw15379687599807072378 tw8694889159175674189 tw9458370300689376576 tw14128364599362378880 tw9487351296313750775 tw11055793128903505040 tw16366984593342869511 tw5761258667139195845 tw12577937657000150630 tw17508783072755436898 tw16091840921924668138 tw7988529831497021010 tw18079701611043703379 tw7846000421930148926 tw10064916966634462135 tw8371507384709880784 tw1567978085180617985 tw16209889487183959845 tw1148034521015774410 tw6978461605157103656 tw5565315516884409378 tw2870658749677997166 tw2715255857958164026 tw2968396144628850789 tw707448323580961929 tw4913794590017019009 tw17868277431251908070 tw1183907002384414339 tw13202869624609115441 tw1234347301311516265 tw18191417514964185973 tw3023567456791577092 tw13881523294306895925 tw15240275472479628752 tw2423342607476829129 tw17493974518898318704 tw5714543568868133444 tw10663921761518139293 tw6228700859878675703 tw10025634389947880361 tw17586409702725570996 tw15768548349610511951 tw17292870671943028375 tw5945323447176831453 tw5152226701257413217 tw11425705492045742787 tw1452054505496374718 tw12203165483045185252 tw16599017587957836302 tw7674279053249318176 tw9723846977369916867 tw8044483914783597050 tw16208952479555734779 tw12655679160033094453 tw12486887055434845753 tw9932958321728847537 tw2162626947778704614 tw15416426424753479263 tw17168328230905533651 tw5426522527452068708 tw17837844772345665871 tw9026464354952838802 tw9602572323077202993 tw7560290231053804444 tw9731049533758277956 tw12425598524311181454 tw18176180258095976609 tw5604980314586743470 tw3160458949743091190 tw6286319073245874312 tw4422125147024760288 tw3719651218898944549 tw7817835588769479267 tw7543952533924522662 tw16631767157606399589 tw16213356393642283449 tw387798837460718005 tw6341016206782464438 tw17688742087295051548 tw63643821176366062 tw10841181462108921801 tw14962360427597122408 tw14022563253020008775 tw10919011832376154874 tw11600138125810198080 tw2433088196160691962 tw9698691462508395378 tw9570025900301330317 tw14313722758298834556 tw13463229584842737164 tw18339976614542501881 tw12084578197021746684 tw18021139511519856338 tw17670142931245629484 tw649480604287380451 tw16065355726908333854 tw16333656865306786440 tw202623963958168718 tw17203025083984728372 tw17156158566365554426 tw10187011143605890286 tw426773417221875426 tw1708958477549229573 tw15847712696442424229 tw5640841005755533292 tw13949251198209803069 tw9794578368940915048 tw8075629355847369012 tw16767645458657811444 tw11244820762536134540 tw14527886269027803109 tw11999434479592510940 tw8032682549336171463 tw5912492639017928802 tw7059180714227899164 tw5581098094645116846 tw14580774287600520744 tw6992869045624346403 tw10712232212561550316 tw17406229185173463558 tw18030623549409206493 tw473641276671597020 tw7201667628161569696 tw4943534641417962903 tw17969061039047681406 tw17378047040149720786 tw16337392506145263661 tw8354871470377564755 tw15444331314988293776 tw9762614309998603825 tw3882979194088716989 tw7301566403843219624 tw1445436337400686779 tw13305205409309847155 tw15504888121686513650 tw9508857758638710095 tw12793375931244166527 tw10110950871689960937 tw10164699203665057383 tw16028502863642558806 tw11924011153130281707 tw16902480349171267550 tw9191773769323289826 tw16101842333161223382 tw17075018193949535061 tw14470177605371727620 tw17007322146849206765 tw7165947954938173319 tw14701078129499619357 tw405893786474642922 tw7975414150649132636 tw4808042670835434175 tw16493021743648531846 tw10432935984194698659 tw15489597747176028858 tw17709111806950132672 tw1094893729860753770 tw472636809113815592 tw14348719105866181484 tw14827065036483160300 tw11925688508498176273 tw15082832318003801111 tw8244578563372880321 tw13114345327496783146 tw2108699338395152307 tw12274104524622387154 tw5932228565542475621 tw1509012766013677371 tw1064899576453128440 tw11141169897293664527 tw10702929217664170257 tw1750105772341497762 tw15578110668713104404 tw2691025484750040693 tw11406008394777184516 tw265318485510139118 tw3436404649369135199 tw6157957409945338070 tw5804385821733876225 tw10988543880155330267 tw14506806503153254257 tw2995652477667890842 tw5165553634740645104 tw5803891647050390313 tw12591336004954863129 tw1605141165117120725 tw3469898664723025256 tw18372700595040284555 tw14906504962057525542 tw989002625831906913 tw5452066283961440590 tw14789797394422632 tw11610479782490294404 tw11922655630499629013 tw11351441725805550592 tw13810493667848071950 tw3057847492999597667 tw8032258332126346982 tw11301258621489588929 tw2908239788798267955 tw11595627110033719117 tw6296647621636230241 tw14005928337179006510 tw7379839556580477718 tw2822696322009757851 tw532887333657053281 tw8451804466208132501 tw16585658051406300145 tw8584494824652097385 tw17627096004132267126 tw4415734708425748771 tw1017860424752624305 tw15920762905127607410 tw5385824370063046313 tw10021878048512565977 tw17985948479581232360 tw414580778912904179 tw10892632561918164599 tw786675386776369350 tw5866089585292313806 tw16079453148205086926 tw10267995131314456256 tw13558307217814187141 tw17726870625265232228 tw7629154612594398193 tw43735152578423158 tw1136049219979722936 tw249769189614356864 tw5699263646552664783 tw8262016721445032879 tw10974104158384369759 tw8295294017489881252 tw10793267179615114380 tw13243746609073419282 tw6234301700595485118 tw8971294984778570779 tw7931536420686818329 tw16574515895235223219 tw12532569509891341902 tw7392640355532510127 tw1775531446072456141 tw2491676212266375221 tw15721955219575372591 tw5582266175125986797 tw3900974757301037998 tw8158958621153981550 tw9486035505524960604 tw4880686014435373182 tw15722709510727766318 tw8935868258673985126 tw9491954095752898801 tw13595485066534223087 tw17567238810781240289 tw1473285600115790553 tw5207806253167317253 tw9035692493314608361 tw7741660349536722937 tw8339533626523071139 tw15982855260475493423 tw12914660336133241963 tw41569109873519096 tw12637854075303869713 tw7164596419643037400 tw14835235938344662966 tw4529975059696173589 tw14158803492683244182 tw3566345551429555069 tw11877960810669674020 tw11345026222390085832 tw12230477688493919919 tw13216212406555668400 tw16433880225656390054 tw12900882676139799111 tw11602642514111927781 tw4557210715590508098 tw10123270832643682811 tw1762556635801901599 tw9297330241963865195 tw8208680489715136291 tw5120434866814579437 tw10422471996057971331 tw6952032935283170634 tw14446945596832144507 tw11892403198709937118 tw7145306455674944516 tw17611802050656378787 tw12063769180689958974 tw16569682147642010479 tw528950658735663338 tw523161566522189485 tw15871365207666804325 tw2707124099371631916 tw12451712825573599448 tw7067373581281180359 tw8512831730694780893 tw16131068182379690496 tw4210178936678147357 tw2089959879525561959 tw16681386566562202507 tw7356898376587293851 tw8042086374496506986 tw3201697736686449122 tw10294035541514164622 tw7496273044461599992 tw4438435142769768634 tw4426285134588962859 tw5695523230581696656 tw15328488725627055327 tw8999946569738753432 tw11515519433005999237 tw2388617248902858499 tw94800252286979287 tw15118459847386625435 tw13563832517881349987 tw17210725505808196618 tw17205088669160685109 tw13679840579216873230 tw8391249742951724686 tw9911349808523053354 tw17860297703492431971 tw10925185785885081560 tw2696514866780292769 tw9565259739584751024 tw17020507161484566436 tw1999337315716152282 tw6082273481756559652 tw17959805503485541565 tw12134930398083750736 tw6054357767401075335 tw10850607637855729463 tw9206884412587658832 tw17344762239337933741 tw1914200296868566985 tw13383280045904446150 tw9293243282136773542 tw9919367611201964942 tw9259340342821616994 tw1341184854518375931 tw5025023570660382220 tw17250187228234693262 tw14343796792871356940 tw3235932853128684141 tw18348978245878107154 tw877053036541602375 tw69291425349521784 tw14990016320169493395 tw11136496445294471954 tw12936337113056494846 tw2179818788394880563 tw3220002941001653355 tw5347980155677584814 tw16206354469362013347 tw9206351068569000189 tw17661631730468049304 tw14470676496700868320 tw4012417321377815169 tw2515358047233423521 tw5759068676259479639 tw5026981785146263428 tw3109008128224091600 tw10141592687215453695 tw11734165411031865155 tw1565528190332028828 tw4048376392393797535 tw11297548466050805235 tw4243266799980657340 tw17560643055126411027 tw4415481736893438548 tw6922792594468994441 tw10032017258675163454 tw6932521237366833061 tw12526929542360218904 tw9235752802524327855 tw13906173081186078745 tw15784110004673602097 tw2438781706669811762 tw9485456570329673967 tw9035159928205401809 tw8112481829930693225 tw797486694181657875 tw2866424800842398746 tw11524464685310051588 tw8434760944846407918 tw4922147686010822815 tw9968803138358910954 tw10455859752115050093 tw13881925130972974312 tw735552801964615729 tw6776970671250308346 tw7201361794456635096 tw6990837338518591996 tw1720770238516898917 tw10527314170327783168 tw12794678475981900794 tw8157277393799247089 tw14157563489116224794 tw14782059071382144244 tw503484573307254642 tw12807542161993006774 tw12404855833103135093 tw4569377867814617828 tw18104210161354843778 tw15951704335015742219 tw17004254521925527475 tw7832648882048704022 tw11168098834189686969 tw6147258992943477007 tw17604322157469354867 tw17096534442611531448 tw11058183270147249170 tw6169659249293034368 tw14282825252595084456 tw2266832529638819600 tw4885756836378375266 tw17307395317858679373 tw15369122467199719716 tw16033385685276532604 tw11354975804532617232 tw16800193318738922007 tw5873472246911832043 tw1103438295171628544 tw9706411936663584692 tw12127593571156982904 tw7309806481185107913 tw8035243345213613521 tw17580981593838717846 tw12029191591703595687 tw7809050427367849371 tw3437605795118407226 tw10409465515288114558 tw4448476168273884521 tw16224437485309359103 tw18107194695868574840 tw7684108697682635853 tw15388367537685286798 tw1166220901193036869 tw5838563293453535659 tw5502142220060266202 tw17265213857223524343 tw15691432656808680892 tw12600303411862339385 tw8617475858510762656 tw13584792377808285797 tw9422683766621798753 tw4120549403420614758 tw15113530675609396956 tw3537731470111639369 tw172892101248079472 tw9260772732844251342 tw8328611716443295264 tw16497420959216716993 tw16958622908697665892 tw335120421888202300 tw11581043783628077178 tw7458986903932506309 tw5830472300509150 tw13249334654636267804 tw18394130911939724545 tw8041572953876485126 tw6324166594960653089 tw14407012826897317368 tw385091151829129229 tw3644563982499463014 tw15792518285525750836 tw14572164380946502340 tw5373676810668658305 tw4423920062857269762 tw3599252772761092797 tw7747714683693559409 tw10334368789689364460 tw10423137662478686933 tw7723417336469227525 tw5391713196056778281 tw13878954639214813510 tw9726551654053770412 tw6349009223638169358 tw13392566404373448963 tw12466814332922193138 tw782172515106887150 tw17606313671253579195 tw6664683301680729438 tw14530397401568169922 tw10326441230517740616 tw4194879006043422301 tw14438665606172050635 tw16034134530216593278 tw16292429249984104919 tw8820580646375372611 tw9758611267761949348 tw3931651314037189747 tw13212738031143608404:True)
open PySem PySem.W PyProof.Rows
set_option maxRecDepth 100000 in
set_option maxHeartbeats 0 in
theorem PySem.Challenge.cw_shortpurse_k41_whole_texts_and_purses_holds : PySem.Challenge.rw_shortpurse_k41_whole_texts_and_purses.Holds := by
 w_on;o_law;k_head;(case hw=>w_witness2)
 k_fill
 refine K.walk (l:=PySem.Challenge.rw_shortpurse_k41_whole_texts_and_purses) rfl rfl (λw h Y=>PySem.W.kIn_of Y) ?F
 case F=>
  intro w mg fa h g G m;refine' K.all_mk g G m ?_ ?_ ?_ ?_ ?_ ?_ ?_ ?_ ?_ ?_ ?_ ?_ ?_ ?_ ?_ ?_ ?_ ?_ ?_ ?_ ?_ ?_ ?_ ?_ ?_ ?_ ?_ ?_ ?_ ?_ ?_ ?_ ?_ ?_ ?_ ?_ ?_ ?_ ?_ ?_ ?_ ?_ ?_ ?_ ?_ ?_ ?_ ?_ ?_ ?_ ?_ ?_ ?_ ?_ ?_ ?_ ?_ ?_ ?_ ?_ ?_ ?_ ?_ ?_ ?_ ?_ ?_ ?_ ?_ ?_ ?_ ?_ ?_ ?_ ?_ ?_ ?_ ?_ ?_ ?_ ?_ ?_ ?_ ?_ ?_ ?_ ?_ ?_ ?_ ?_ ?_ ?_ ?_ ?_ ?_ ?_ ?_ ?_ ?_ ?_ ?_ ?_ ?_ ?_ ?_ ?_ ?_ ?_ ?_ ?_ ?_ ?_ ?_ ?_ ?_ ?_ ?_ ?_ ?_ ?_ ?_ ?_ ?_ ?_ ?_ ?_ ?_ ?_ ?_ ?_ ?_ ?_ ?_ ?_ ?_ ?_
  all_goals try first
   |(refine' S.dk_mk g G ?a ?l ?c ?k ?b;(case a=>k_is);(case l=>k_is);(case c=>k_is);(case k=>k_is);(case b=>first|(exact λ_ _ _ _ _ _=>S.all1 λ_=>rfl)|(exact λ_ _ _ _ _ _=>S.all2 λ_ _=>rfl)|(exact λ_ _ _ _ _ _=>S.all3 λ_ _ _=>rfl)|(exact λ_ _ _ _ _ _=>S.all4 λ_ _ _ _=>rfl)))
   |(refine' S.fk_mk ?l ?c ?k ?b;(case l=>k_is);(case c=>k_is);(case k=>k_is);(case b=>first|(exact λ_ _ _ _ _ _=>S.all1 λ_=>rfl)|(exact λ_ _ _ _ _ _=>S.all2 λ_ _=>rfl)|(exact λ_ _ _ _ _ _=>S.all3 λ_ _ _=>rfl)|(exact λ_ _ _ _ _ _=>S.all4 λ_ _ _ _=>rfl)))
   |(exact S.CkT.mk (by k_is) (by k_is) (by k_is) (by k_is) (by k_is) (by k_is) (by k_is) (by k_is) (by k_is) (by k_is) (by k_is) (by k_is) (by kit_is) (by k_is) (by k_is) (by k_is))
   |(refine' S.Bl.mk ?_ ?_ ?_ ?_ ?_ ?_ ?_ ?_ ?_ ?_ ?_ ?_ ?_ ?_ ?_ ?_;all_goals exact PySem.W.mg_none_of g G (by k_is))
   |(refine' S.Bl3.mk ?_ ?_;all_goals exact PySem.W.mg_none_of g G (by k_is))
   |k_is
