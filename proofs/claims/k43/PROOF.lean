import PyProof.Rows.All
import Wide.All
import OpenK.KLine
import OpenK.KWalk
import OpenK.KOwn
import KE.RegKIsAll
import KE.IntBitsLaws
import KE.KItem
import Wide.FinOn
import Lean
import PyProof.EqAt
import PyProof.EqKinds
import PyProof.TupleCall
import PyProof.Draws
import PyProof.EnumMake
import PyProof.ZipIter
import PyProof.Rows.SumAny
import KE.KRevIter
import PyProof.StrCalls2
import KE.KRevSl
import KE.LcSums
import PyProof.Rows.SetFrom
import PyProof.DictIter
import PyProof.CollectWalk
import PyProof.Rows.SortRev
import PySem.Challenge.RW_shortpurse_k43_whole_two_rules
set_option compiler.extract_closed false
set_option Elab.async false
set_option linter.all false
set_option maxRecDepth 100000
set_option maxHeartbeats 4000000
abbrev Qa:=@List.length_map
abbrev Qb:=@List.mem_cons_self
abbrev Qc:=@List.getElem?_eq_getElem
abbrev Qd:=@List.mem_cons_of_mem
abbrev Qe:=@List.mem_of_getElem?
abbrev Qf:=@List.getElem?_eq_some_iff
abbrev Qg:=@PySem.wpAny_bind
abbrev Qh:=@PySem.Heap.get?_push_of_some
abbrev Qi:=@List.getElem?_map
abbrev Qj:=@List.mem_map
abbrev Qk:=@List.pairwise_cons
abbrev Ql:=@List.mem_cons
abbrev Qm:=@PySem.wpAny_pure
abbrev Qn:=@List.map_cons
abbrev Qo:=@List.getD_eq_getElem?_getD
abbrev Qp:=@Nat.le_refl
abbrev Qq:=@List.mem_singleton
abbrev Qr:=@List.mem_iff_getElem?
abbrev Qt:=@PySem.Heap.lt_size
abbrev Qu:=@PySem.Heap.get?_push_size
abbrev Qv:=@List.not_mem_nil
abbrev Qw:=@List.length_cons
abbrev Qx:=@Bool.false_ne_true
abbrev Qy:=@List.length_append
abbrev Qz:=@Option.some.inj
abbrev QA:=@List.mem_append_right
abbrev QB:=@List.length_replicate
abbrev QC:=@List.getElem?_zipWith
abbrev QD:=@List.size_toArray
abbrev QE:=@List.length_zipWith
abbrev QF:=@List.getElem?_eq_none
abbrev QG:=@of_decide_eq_true
abbrev QH:=@if_pos
abbrev QI:=@Nat.le_trans
abbrev QJ:=@Rat.le_of_lt
abbrev QK:=@List.pairwise_iff_getElem
abbrev QL:=@Rat.le_refl
abbrev QM:=@Nat.ne_of_lt
abbrev QN:=@List.sum_cons
abbrev QO:=@List.map_append
abbrev QP:=@if_neg
abbrev QQ:=@decide_eq_true
abbrev QR:=@List.map_map
abbrev QS:=@List.getElem?_replicate
abbrev QT:=@List.mem_append
abbrev QU:=@PySem.Heap.size_push
abbrev QV:=@Nat.lt_of_lt_of_le
abbrev QW:=@List.getLast?_eq_some_getLast
abbrev QX:=@Rat.not_lt
abbrev QY:=@decide_eq_false
abbrev QZ:=@Rat.mul_inv_cancel
abbrev Ta:=@PySem.wpAny_newObj_type
abbrev Tb:=@List.pairwise_map
abbrev Tc:=@List.take_of_length_le
abbrev Td:=@List.replicate_succ
abbrev Te:=@List.getElem_mem
abbrev Tf:=@PySem.wpAny_callSpecial?_slot
abbrev Tg:=@List.getElem?_zip_eq_some
abbrev Th:=@Nat.lt_succ_self
abbrev Ti:=@List.length_drop
abbrev Tj:=@List.length_reverse
abbrev Tn:=@List.getElem_zipWith
abbrev To:=@Int.fmod_eq_emod_of_nonneg
abbrev Tp:=@List.getElem?_append_right
abbrev Tq:=@List.length_take
abbrev Tr:=@Bool.and_eq_true
abbrev Ts:=@List.cons_append
abbrev Tt:=@List.take_add_one
abbrev Tu:=@List.mem_filter
abbrev Tv:=@List.length_singleton
abbrev Tw:=@Rat.le_trans
abbrev Tx:=@List.pairwise_append
abbrev Tz:=@List.mem_of_mem_tail
abbrev TB:=@PySem.wpAny_call_entry
abbrev TC:=@List.all_eq_true
abbrev TF:=@PyProof.Rows.callWith_type1
abbrev TH:=@Nat.zero_le
abbrev TK:=@List.nodup_cons
abbrev TL:=@List.flatten_cons
abbrev TM:=@Nat.lt_succ_of_lt
abbrev TN:=@PySem.Heap.SameBut.update
abbrev TQ:=@List.getLast?_cons_cons
abbrev TR:=@List.map_congr_left
abbrev TU:=@List.getElem?_append_left
abbrev TV:=@Int.toNat_natCast
abbrev TX:=@List.append_assoc
abbrev TY:=@List.ext_getElem?
abbrev TZ:=@List.mem_append_left
abbrev jaa:=@List.zipWith_cons_cons
abbrev jab:=@List.getElem_replicate
abbrev jac:=@List.dropLast_concat_getLast
abbrev jad:=@PySem.W.mg_of
abbrev jae:=@Option.isSome_iff_exists
abbrev jaf:=@Array.length_toList
abbrev jag:=@Rat.intCast_mul
abbrev jah:=@List.getElem_of_mem
abbrev jai:=@Nat.le_of_ble_eq_true
abbrev jaj:=@List.pairwise_singleton
abbrev jak:=@Array.getElem?_eq_some_iff
abbrev jal:=@Nat.le_succ
abbrev jam:=@List.mem_of_getLast?
abbrev jan:=@PySem.wpAny_pyIter_tuple
abbrev jao:=@List.map_nil
abbrev jap:=@List.getElem?_drop
abbrev jaq:=@Int.emod_lt_of_pos
abbrev jar:=@PySem.W.kia_one
abbrev jas:=@List.getLast?_eq_getElem?
abbrev jat:=@List.ext_getElem
abbrev jau:=@PySem.wpAny_field
abbrev jav:=@List.getLast?_map
abbrev jaw:=@Nat.lt_irrefl
abbrev jax:=@Rat.intCast_le_intCast
abbrev jay:=@beq_eq_false_iff_ne
abbrev jaz:=@PySem.mem_of_lookup
abbrev jaA:=@Rat.not_le
abbrev jaB:=@List.length_pos_iff
abbrev jaC:=@List.append_nil
abbrev jaD:=@PySem.Heap.get?_update_self
abbrev jaE:=@List.nil_append
abbrev jaF:=@Nat.min_self
abbrev jaG:=@Int.emod_nonneg
abbrev jaH:=@Rat.le_antisymm
abbrev jaI:=@PySem.wpAny_Call_Name_kw
abbrev jaJ:=@List.lookup_cons
abbrev jaK:=@List.length_tail
abbrev jaL:=@PyProof.Rows.F.plain_set_update_loop
abbrev jaM:=@PySem.wpAny_pyIter_list
abbrev jaN:=@List.filterMap_cons
abbrev jaO:=@List.length_pos_of_mem
abbrev jaP:=@PySem.F.slot_tuple_iterator_next
abbrev jaQ:=@PySem.wpAny_holding
abbrev jaR:=@Nat.ne_of_gt
abbrev jaS:=@PySem.wpAny_setField_rec
abbrev jaT:=@List.Pairwise.sublist
abbrev jaU:=@PySem.wpAny_seqItems
abbrev jaV:=@PySem.wpAny_setField
abbrev jaW:=@PySem.Around.under_plainId
abbrev jaX:=@PySem.wpAny_passesOwn
abbrev jaY:=@PySem.wpAny_loadPart'
abbrev jaZ:=@List.Sublist.refl
abbrev jba:=@List.length_filterMap_le
abbrev jbb:=@Rat.intCast_sub
abbrev jbc:=@Nat.zero_add
abbrev jbd:=@Rat.div_def
abbrev jbe:=@PySem.wpAny_setEntries_of
abbrev jbf:=@List.mem_singleton_self
abbrev jbg:=@List.mem_range
abbrev jbh:=@PySem.Heap.get?_update_other
abbrev jbi:=@PySem.SeqAt.canLay_of_shaped
abbrev jbj:=@List.drop_eq_nil_of_le
abbrev jbk:=@PySem.W.callWith_K
abbrev jbl:=@List.map_replicate
abbrev jbm:=@Nat.le_of_lt
abbrev jbn:=@List.of_mem_zip
abbrev jbo:=@Rat.divInt_mul_divInt
abbrev jbp:=@PySem.codeAny_builtin
abbrev jbq:=@PySem.F.called_set
abbrev jbr:=@List.map_const'
abbrev jbs:=@Int.le_trans
abbrev jbt:=@PySem.wpAny_attempt
abbrev jbu:=@List.length_range
abbrev jbv:=@PySem.wpAny_setState_of
abbrev jbw:=@List.Pairwise.imp
abbrev jbx:=@Int.fdiv_eq_ediv_of_nonneg
abbrev jby:=@List.getElem?_set_ne
abbrev jbz:=@Rat.mul_nonneg
abbrev jbA:=@List.getElem?_eq_none_iff
abbrev jbB:=@List.mem_reverse
abbrev jbC:=@List.filter_cons
abbrev jbD:=@PySem.wpAny_comprehension_free
abbrev jbE:=@Rat.zero_mul
abbrev jbF:=@List.mem_filterMap
abbrev jbG:=@List.length_set
abbrev jbH:=@Bool.false_eq_true
abbrev jbI:=@PySem.Obj.data_mapFields
abbrev jbJ:=@Rat.num_divInt_den
abbrev jbK:=@List.getLast?_cons
abbrev jbL:=@Rat.intCast_lt_intCast
abbrev jbM:=@PySem.wpAny_truthy_bool
abbrev jbN:=@PySem.codeAny_mono
abbrev jbO:=@Int.le_of_lt
abbrev jbP:=@Rat.lt_irrefl
abbrev jbQ:=@PySem.wpAny_rule
abbrev jbR:=@Bool.eq_iff_iff
abbrev jbS:=@Rat.mul_pos
abbrev jbT:=@Int.le_refl
set_option exponentiation.threshold 2000
local macro_rules|`(tactic|walk_at "f")=>`(tactic|first|exact .inl rfl|exact .inr rfl|assumption)
local macro_rules|`(tactic|walk_at "o")=>`(tactic|first|exact Or.inl rfl|exact Or.inr rfl)
local macro_rules|`(tactic|walk_at "v")=>`(tactic|first|exact Or.inl rfl|exact Or.inr (Or.inl rfl)|exact Or.inr (Or.inr rfl))
local macro_rules|`(tactic|walk_at "l")=>`(tactic|first|decide|exact Qp _|omega)
namespace L2
open PySem PySem.Spec PyProof.Rows
abbrev Key:=Sum Int Str
def keyIs:Key->Value->Bool
 | .inl k,v=>Value.isInt k v
 | .inr x,v=>Value.isStrOf x v
def keyH (w:World):Key->Int
 | .inl k=>hashInt k
 | .inr x=>hashStr w x
theorem xg:∀{k:Key} {v:Value},keyIs k v=true->(∃i t,k=Sum.inl i/\v=Value.int i t)\/(∃x t,k=Sum.inr x/\v=Value.str x t)
 | .inl i,v,h=>by
   obtain ⟨t,e⟩:=Value.isInt_shape (k:=i) (v:=v) h;exact .inl ⟨i,t,rfl,e⟩
 | .inr x,v,h=>by
   obtain ⟨t,e⟩:=Value.isStrOf_shape (x:=x) (v:=v) h;exact .inr ⟨x,t,rfl,e⟩
theorem key_ll (a b:Int):decide ((Sum.inl a:Key)=Sum.inl b)=(a==b):=by
 by_cases e:a=b
 ·subst e;simp
 ·have h:¬(Sum.inl a:Key)=Sum.inl b:=λq=>e (Sum.inl.inj q);rw [QY h];exact (jay.mpr e).symm
theorem key_rr (a b:Str):decide ((Sum.inr a:Key)=Sum.inr b)=decide (a=b):=by
 by_cases e:a=b
 ·subst e;simp
 ·have h:¬(Sum.inr a:Key)=Sum.inr b:=λq=>e (Sum.inr.inj q);rw [QY h,QY e]
theorem key_lr (a:Int) (b:Str):decide ((Sum.inl a:Key)=Sum.inr b)=false:=QY (λq=>nomatch q)
theorem key_rl (a:Str) (b:Int):decide ((Sum.inr a:Key)=Sum.inl b)=false:=QY (λq=>nomatch q)
def CB (prog:Program) (w:World):PySem.KeyKind prog w Key where
 is:=keyIs
 hash:=keyH w
 inj:=λv a b ha hb=>by
  rcases xg ha with ⟨i,t,rfl,rfl⟩|⟨x,t,rfl,rfl⟩
  ·rcases xg hb with ⟨j,u,rfl,e⟩|⟨y,u,rfl,e⟩
   ·injection e with e1 _;rw [e1]
   ·exact nomatch e
  ·rcases xg hb with ⟨j,u,rfl,e⟩|⟨y,u,rfl,e⟩
   ·exact nomatch e
   ·injection e with e1 _;rw [e1]
 byValue:=λk v h=>by
  rcases xg h with ⟨i,t,rfl,rfl⟩|⟨x,t,rfl,rfl⟩<;>rfl
 pyHash:=λhv h=>by
  rcases xg hv with ⟨i,t,rfl,rfl⟩|⟨x,t,rfl,rfl⟩
  ·exact wpAny_pyHash_int h
  ·exact wpAny_pyHash_str h
 eqBool:=λhu hv h=>by
  rcases xg hu with ⟨i,t,rfl,rfl⟩|⟨x,t,rfl,rfl⟩
  ·rcases xg hv with ⟨j,u,rfl,rfl⟩|⟨y,u,rfl,rfl⟩
   ·rw [key_ll] at h;exact wpAny_eqBool_int h
   ·rw [key_lr] at h;exact SeqAt.EqAt.int_str i t y u _ _ _ _ h
  ·rcases xg hv with ⟨j,u,rfl,rfl⟩|⟨y,u,rfl,rfl⟩
   ·rw [key_rl] at h;exact SeqAt.EqAt.str_int x t j u _ _ _ _ h
   ·rw [key_rr] at h;exact wpAny_eqBool_str h
 «strs»:=λk x t v h=>by
  rcases xg h with ⟨i,u,rfl,e⟩|⟨y,u,rfl,e⟩
  ·exact nomatch e
  ·injection e with e1 _
   subst e1;cases v<;>rfl
end L2
namespace L2
open PySem PySem.Spec PyProof.Rows
inductive V where
 |non|bl (b:Bool)|int (i:Int)|str (x:Str)|byt (b:Array UInt8)|flt (b:UInt64)|ref (a:Addr)|ty (n:String)
 deriving DecidableEq
def Ze:V->Value->Prop
 | .non,u=>u=Value.none
 | .bl b,u=>u=Value.bool b
 | .int i,u=>∃t,u=Value.int i t
 | .str x,u=>∃t,u=Value.str x t
 | .byt b,u=>∃t,u=Value.bytes b t
 | .flt b,u=>∃t,u=Value.float b t
 | .ref a,u=>u=Value.ref a
 | .ty n,u=>u=Value.type n
abbrev xn:List V->List Value->Prop:=Paired Ze
theorem xn.length {xs:List V} {us:List Value} (r:xn xs us):xs.length=us.length:=Paired.length r
theorem xn.get:∀{xs:List V} {us:List Value} {i:Nat} {x:V},xn xs us->xs[i]? =some x->∃u,us[i]? =some u/\Ze x u
 |_,_,_,_, .nil,e=>by simp at e
 |_,_,0,_, .cons r _,e=>by simp at e;subst e;exact ⟨_,rfl,r⟩
 |_,_,i+1,x, .cons _ t,e=>by
  obtain ⟨u,h1,h2⟩:=xn.get (i:=i) (x:=x) t (by simpa using e);exact ⟨u,by simpa using h1,h2⟩
theorem xn.set {x:V} {u:Value} (r:Ze x u):∀{xs:List V} {us:List Value} (i:Nat),xn xs us->xn (xs.set i x) (us.set i u)
 |_,_,_, .nil=> .nil
 |_,_,0, .cons _ t=> .cons r t
 |_,_,i+1, .cons q t=> .cons q (xn.set r i t)
theorem xn.append {xs ys:List V} {us ws:List Value} (h:xn xs us) (s:xn ys ws):xn (xs++ys) (us++ws):=by
 induction h with
 |nil=>exact s
 |cons r t ih=>exact .cons r ih
theorem xn.take:∀{xs:List V} {us:List Value} (n:Nat),xn xs us->xn (xs.take n) (us.take n)
 |_,_,0,_=> .nil
 |_,_,_+1, .nil=> .nil
 |_,_,n+1, .cons r t=> .cons r (xn.take n t)
theorem xn.drop:∀{xs:List V} {us:List Value} (n:Nat),xn xs us->xn (xs.drop n) (us.drop n)
 |_,_,0,r=>r
 |_,_,_+1, .nil=> .nil
 |_,_,n+1, .cons _ t=>xn.drop n t
def Eg:Option V->Option Value->Prop
 |some v,some u=>Ze v u
 |none,none=>True
 |_,_=>False
def KV {κ:Type}:List (κ×V)->List (κ×Value)->Prop:=Paired λ(p:κ×V) (q:κ×Value)=>p.1=q.1/\Ze p.2 q.2
def kV:Key->V
 | .inl i=> .int i
 | .inr x=> .str x
inductive HO where
 |lst (xs:List V)
 |tup (xs:List V)
 |dK (kvs:List (Key×V))|dT (kvs:List (List Key×V))
 |set (S:Int->Bool) (n:Nat)
 |ins (C dx:Addr) (fs:List (Str×V))
 |own (x:Addr)
 |xd (fs:List (Str×V))
 |met (f x:Addr)
 |rng (lo hi:Int)
 |frz (o:Obj) (u:HO)
 |tbl (ps:Array Value)
 |ext (φ:Heap->Prop)
abbrev Hp:=Addr->Option HO
def upd (H:Hp) (a:Addr) (o:HO):Hp:=λb=>if b=a then some o else H b
theorem zZ {H:Hp} {a:Addr} {o:HO}:upd H a o a=some o:=by unfold upd;rw [QH rfl]
theorem zR {H:Hp} {a b:Addr} {o:HO} (h:b≠a):upd H a o b=H b:=by unfold upd;rw [QP h]
theorem zW {H:Hp} {a b:Addr} {o:HO} (h:H a=some o) (h':H b=none):a≠b:=by
 intro e;subst e;rw [h] at h';cases h'
section
variable (P:Program) (w:World)
def ZP (H:Hp) (h:Heap) (a:Addr):HO->Prop
 | .lst xs=>xs.length<=sizeLine/\∃(its:List Value) (n:Nat),xn xs its/\h.get? a=some {cls:= .type "list",data:= .seq its.toArray n}
 | .tup xs=>xs.length<=sizeLine/\∃its:List Value,xn xs its/\IsTup h a its.toArray
 | .dK kvs=>kvs.length<=sizeLine/\(a==sysModules)=false/\∃vs,KV kvs vs/\h.DictOf (CB P w) a vs
 | .dT kvs=>kvs.length<=sizeLine/\(a==sysModules)=false/\∃xs:List (List Key×Addr×Value),
  Paired (λ(p:List Key×V) (q:List Key×Addr×Value)=>p.1=q.1/\H q.2.1=some (.tup (p.1.map kV))/\Ze p.2 q.2.2) kvs xs/\
  ∃o es ep,h.get? a=some o/\o.ExactDict/\o.data= .dict es ep/\es.toList=xs.map (entryOfKey (tupleKind (CB P w)))/\(xs.map (·.1)).Nodup
 | .set S n=>h.SetOf (intKind P w) a S n
 | .ins C dx fs=>H dx=some (.own a)/\fs.length<=1000/\dx≠a/\h.get? a=some (PySem.W.instObj C dx)/\
  ∃mA,h.Ns1 dx mA/\(∀f,Eg (fs.lookup f) (mA f))/\PySem.Within mA (fs.map (·.1))
 | .own _=>∃o,h.get? a=some o
 | .xd fs=>∃mA,h.Ns1 a mA/\∀f,Eg (fs.lookup f) (mA f)
 | .rng lo hi=>∃t u v,h.get? a=some {cls:= .type "range",data:= .fields #[.int lo t, .int hi u, .int 1 v]}
 | .frz o u=>h.get? a=some o/\ZP H h a u
 | .tbl ps=>h.get? a=some {cls:= .none,data:= .fields ps}
 | .met f x=>h.get? a=some (PySem.W.methodObj (.ref f) (.ref x))
 | .ext φ=>φ h/\(∃o,h.get? a=some o)/\∀h1 h2:Heap,φ h1->(∀o,h1.get? a=some o->h2.get? a=some o)->φ h2
def HOk (H:Hp) (h:Heap):Prop:=∀a o,H a=some o->ZP P w H h a o
end
section
variable {P:Program} {w:World} {H H':Hp} {h h':Heap} {a:Addr} {o:HO}
theorem ZP.lt (x:ZP P w H h a o):a<h.objs.size:=by
 cases o with
 |lst xs=>obtain ⟨_,_,_,_,e⟩:=x;exact Qt e
 |tup xs=>obtain ⟨_,_,_,p⟩:=x;exact p.lt
 |dK kvs=>obtain ⟨_,_,_,_,o,_,_,e,_⟩:=x;exact Qt e
 |dT kvs=>obtain ⟨_,_,_,_,o,_,_,e,_⟩:=x;exact Qt e
 |set S n=>obtain ⟨o,_,_,_,e,_⟩:=x;exact Qt e
 |ins C dx fs=>obtain ⟨_,_,_,e,_⟩:=x;exact Qt e
 |own y=>obtain ⟨_,e⟩:=x;exact Qt e
 |xd fs=>obtain ⟨_,⟨_,_,_,e,_⟩,_⟩:=x;exact Qt e
 |rng lo hi=>obtain ⟨_,_,_,e⟩:=x;exact Qt e
 |frz ob u=>obtain ⟨e,_⟩:=x;exact Qt e
 |tbl ps=>exact Qt (show h.get? a=some _ from x)
 |met f y=>exact Qt (show h.get? a=some _ from x)
 |ext φ=>obtain ⟨_,⟨_,e⟩,_⟩:=x;exact Qt e
theorem Paired.mapP {α β:Type} {F G:α->β->Prop}:∀{l₁:List α} {l₂:List β},Paired F l₁ l₂->(∀a b,F a b->G a b)->Paired G l₁ l₂
 |_,_, .nil,_=> .nil
 |_,_, .cons r t,f=> .cons (f _ _ r) (Paired.mapP t f)
theorem ZP.stay (x:ZP P w H h a o) (k:∀b u,(b=a\/H b=some (.own a))->h.get? b=some u->h'.get? b=some u)
 (ho:∀b,H b=some (.own a)->H' b=some (.own a)) (ht:∀b xs,H b=some (.tup xs)->H' b=some (.tup xs)):ZP P w H' h' a o:=by
 induction o with
 |lst xs=>obtain ⟨z,its,n,r,e⟩:=x;exact ⟨z,its,n,r,k _ _ (.inl rfl) e⟩
 |tup xs=>obtain ⟨z,its,r,ob,e,c⟩:=x;exact ⟨z,its,r,ob,k _ _ (.inl rfl) e,c⟩
 |dK kvs=>obtain ⟨z,y,vs,r,ob,es,ep,e,c⟩:=x;exact ⟨z,y,vs,r,ob,es,ep,k _ _ (.inl rfl) e,c⟩
 |dT kvs=>
  obtain ⟨z,y,xs,r,ob,es,ep,e,c⟩:=x;exact ⟨z,y,xs,Paired.mapP r λp q z=>⟨z.1,ht _ _ z.2.1,z.2.2⟩,ob,es,ep,k _ _ (.inl rfl) e,c⟩
 |set S n=>obtain ⟨ob,es,ep,t,e,c⟩:=x;exact ⟨ob,es,ep,t,k _ _ (.inl rfl) e,c⟩
 |ins C dx fs=>
  obtain ⟨d,z,ne,e,mA,⟨od,es,ep,e2,c⟩,r⟩:=x;exact ⟨ho _ d,z,ne,k _ _ (.inl rfl) e,mA,⟨od,es,ep,k _ _ (.inr d) e2,c⟩,r⟩
 |own y=>obtain ⟨ob,e⟩:=x;exact ⟨ob,k _ _ (.inl rfl) e⟩
 |xd fs=>obtain ⟨mA,⟨od,es,ep,e,c⟩,r⟩:=x;exact ⟨mA,⟨od,es,ep,k _ _ (.inl rfl) e,c⟩,r⟩
 |rng lo hi=>obtain ⟨t,u,v,e⟩:=x;exact ⟨t,u,v,k _ _ (.inl rfl) e⟩
 |frz ob u ih=>obtain ⟨e,q⟩:=x;exact ⟨k _ _ (.inl rfl) e,ih q⟩
 |tbl ps=>
  have e:h.get? a=some {cls:= .none,data:= .fields ps}:=x;show h'.get? a=some {cls:= .none,data:= .fields ps};exact k a _ (.inl rfl) e
 |met f y=>
  have e:h.get? a=some (PySem.W.methodObj (.ref f) (.ref y)):=x;show h'.get? a=some (PySem.W.methodObj (.ref f) (.ref y));exact k a _ (.inl rfl) e
 |ext φ=>obtain ⟨p,⟨o,e⟩,st⟩:=x;exact ⟨st _ _ p λo q=>k _ _ (.inl rfl) q,⟨o,k _ _ (.inl rfl) e⟩,st⟩
theorem HOk.lt (x:HOk P w H h) (e:H a=some o):a<h.objs.size:=(x a o e).lt
theorem HOk.fresh (x:HOk P w H h) (e:h.objs.size<=a):H a=none:=by
 cases q:H a with
 |none=>rfl
 |some u=>exact absurd (QV (x.lt q) e) (jaw _)
theorem HOk.kept (x:HOk P w H h) (k:∀b u,h.get? b=some u->h'.get? b=some u):HOk P w H h':=λa o e=>
 (x a o e).stay (λb u _ q=>k b u q) (λ_ q=>q) λ_ _ q=>q
theorem HOk.laid (x:HOk P w H h) (k:∀b u,h.get? b=some u->h'.get? b=some u) (hp:h.objs.size<=a) (new:ZP P w (upd H a o) h' a o):HOk P w (upd H a o) h':=λb u e=>by
 have hn:=x.fresh hp
 by_cases hb:b=a
 ·subst hb;rw [zZ] at e;cases e;exact new
 ·rw [zR hb] at e;exact (x b u e).stay (λc v _ q=>k c v q) (λc q=>by rw [zR (zW q hn)];exact q) λc xs q=>by rw [zR (zW q hn)];exact q
end
def Rd (H:Hp) (a:Addr) (u:HO):Prop:=H a=some u\/∃o,H a=some (.frz o u)
theorem Rd.ok {P:Program} {w:World} {H:Hp} {h:Heap} {a:Addr} {u:HO} (r:Rd H a u) (x:HOk P w H h):ZP P w H h a u:=by
 rcases r with r|⟨o,r⟩
 ·exact x a u r
 ·obtain ⟨_,q⟩:=x a _ r;exact q
def Mut:Option HO->Prop
 |some (.lst _)=>True
 |some (.dK _)=>True
 |some (.dT _)=>True
 |some (.set _ _)=>True
 |some (.ins _ _ _)=>True
 |some (.ext _)=>True
 |_=>False
section
variable {P:Program} {w:World} {H:Hp} {h h':Heap} {x e:Addr} {o':HO}
theorem HOk.write (ok:HOk P w H h) (mu:Mut (H x)) (he:e=x\/H e=some (.own x)) (k:∀b u,b≠e->h.get? b=some u->h'.get? b=some u) (OR:∃u,h'.get? e=some u)
 (new:ZP P w (upd H x o') h' x o'):HOk P w (upd H x o') h':=λb u q=>by
 have nown:∀c y,H c=some (.own y)->c≠x:=λc y r z=>by subst z;rw [r] at mu;exact mu
 have ntup:∀c xs,H c=some (.tup xs)->c≠x:=λc xs r z=>by subst z;rw [r] at mu;exact mu
 by_cases hb:b=x
 ·subst hb;rw [zZ] at q;cases q;exact new
 ·rw [zR hb] at q
  by_cases OE:b=e
  ·have q':H b=some (.own x):=by
    rcases he with z|z
    ·exact absurd (OE.trans z) hb
    ·rw [OE];exact z
   rw [q] at q';cases q';obtain ⟨v,hv⟩:=OR;exact ⟨v,by rw [OE];exact hv⟩
  ·refine (ok b u q).stay (λc v hc r=>k c v ?_ r) (λc r=>by rw [zR (nown c b r)];exact r) λc xs r=>by rw [zR (ntup c xs r)];exact r
   rcases hc with rfl|hc
   ·exact OE
   ·rintro rfl
    rcases he with z|z
    ·exact nown c b hc z
    ·rw [hc] at z;cases z;exact hb rfl
end
structure Un (fs ex:List Addr) (H H':Hp) (h h':Heap):Prop where
 keep:∀b o,h.get? b=some o->H b=none->b∉fs->b∉ex->h'.get? b=some o
 slot:∀b o,h.get? b=some o->H b=none->b∈fs->b∉ex->∃sl,h'.get? b=some {o with slots:=sl}
 free:∀b o,h.get? b=some o->H b=none->b∉ex->H' b=none
 there:∀b o,h.get? b=some o->b∉ex->∃o',h'.get? b=some o'
 tups:∀b xs,H b=some (.tup xs)->H' b=some (.tup xs)
 frzs:∀b o u,H b=some (.frz o u)->H' b=some (.frz o u)
 tbls:∀b ps,H b=some (.tbl ps)->∃more,H' b=some (.tbl (ps++more))
section
variable {fs OS ex ex':List Addr} {H H1 H2:Hp} {h h1 h2 h':Heap} {a x e:Addr} {o:HO}
theorem Un.any (u:Un fs ex H H1 h h1) {b:Addr} {ob:Obj} (q:h.get? b=some ob) (n:H b=none) (hx:b∉ex):∃sl,h1.get? b=some {ob with slots:=sl}:=by
 by_cases hb:b∈fs
 ·exact u.slot b ob q n hb hx
 ·exact ⟨ob.slots,u.keep b ob q n hb hx⟩
theorem Un.trans (a:Un fs ex H H1 h h1) (b:Un fs ex H1 H2 h1 h2):Un fs ex H H2 h h2 where
 keep:=λc ob q n hc hx=>b.keep c ob (a.keep c ob q n hc hx) (a.free c ob q n hx) hc hx
 slot:=λc ob q n hc hx=>by
  obtain ⟨sl,e1⟩:=a.slot c ob q n hc hx;obtain ⟨So,e2⟩:=b.slot c _ e1 (a.free c ob q n hx) hc hx;exact ⟨So,e2⟩
 free:=λc ob q n hx=>by
  obtain ⟨o',e1⟩:=a.there c ob q hx;exact b.free c o' e1 (a.free c ob q n hx) hx
 there:=λc ob q hx=>by
  obtain ⟨o',e1⟩:=a.there c ob q hx;exact b.there c o' e1 hx
 tups:=λc xs q=>b.tups c xs (a.tups c xs q)
 frzs:=λc ob xs q=>b.frzs c ob xs (a.frzs c ob xs q)
 tbls:=λc ps q=>by
  obtain ⟨m1,e1⟩:=a.tbls c ps q;obtain ⟨m2,e2⟩:=b.tbls c _ e1;exact ⟨m1++m2,by rw [e2,Array.append_assoc]⟩
theorem Un.kept (k:∀b u,h.get? b=some u->h'.get? b=some u):Un fs ex H H h h':=
 ⟨λb ob q _ _ _=>k b ob q,λb ob q _ _ _=>⟨ob.slots,k b ob q⟩,λ_ _ _ n _=>n,λb ob q _=>⟨ob,k b ob q⟩,λ_ _ q=>q,λ_ _ _ q=>q,λ_ ps q=>⟨#[],by rw [q];simp⟩⟩
theorem Un.refl:Un fs ex H H h h:=Un.kept λ_ _ q=>q
theorem Un.laid (k:∀b u,h.get? b=some u->h'.get? b=some u) (hp:h.objs.size<=a) (hn:H a=none):Un fs ex H (upd H a o) h h' where
 keep:=λb u q _ _ _=>k b u q
 slot:=λb u q _ _ _=>⟨u.slots,k b u q⟩
 free:=λb u q n _=>by rw [zR (QM (QV (Qt q) hp))];exact n
 there:=λb u q _=>⟨u,k b u q⟩
 tups:=λb xs q=>by rw [zR (zW q hn)];exact q
 frzs:=λb u xs q=>by rw [zR (zW q hn)];exact q
 tbls:=λb ps q=>⟨#[],by rw [zR (zW q hn),q];simp⟩
theorem Un.write (mu:Mut (H x)) (he:e=x\/H e=some (.own x)) (k:∀b u,b≠e->h.get? b=some u->h'.get? b=some u) (OR:∃u,h'.get? e=some u):Un fs ex H (upd H x o) h h':=by
 have hx:∀b,H b=none->b≠x:=λb n z=>by subst z;rw [n] at mu;exact mu
 have hb:∀b,H b=none->b≠e:=λb n z=>by
  subst z
  rcases he with r|r
  ·exact hx b n r
  ·rw [n] at r;cases r
 have hm:∀b u,H b=some u->¬Mut (some u)->b≠x:=λb u q nm z=>by subst z;rw [q] at mu;exact nm mu
 refine ⟨λb u q n _ _=>k b u (hb b n) q,λb u q n _ _=>⟨u.slots,k b u (hb b n) q⟩,λb u q n _=>by rw [zR (hx b n)];exact n,λb u q _=>?_,
  λb xs q=>by rw [zR (hm b _ q λz=>z)];exact q,λb u xs q=>by rw [zR (hm b _ q λz=>z)];exact q,λb ps q=>⟨#[],by rw [zR (hm b _ q λz=>z),q];simp⟩⟩
 by_cases OE:b=e
 ·subst OE;exact OR
 ·exact ⟨u,k b u OE q⟩
end
def trk (h:Heap) (H:Hp):List Addr:=(List.range h.objs.size).filter λa=>(H a).isSome
def GG (h:Heap) (H:Hp):Heap:=PySem.W.hideAll h (trk h H)
theorem CY (h:Heap) (H:Hp):(GG h H).objs.size=h.objs.size:=PySem.W.hideAll_size _ _
theorem GD {h:Heap} {H:Hp} {b:Addr} {o:Obj} (e:h.get? b=some o) (n:H b=none):(GG h H).get? b=some o:=
 PySem.W.hideAll_get _ e λhm=>by
  have q:(H b).isSome=true:=(Tu.mp hm).2;rw [n] at q;simp at q
theorem JI {h:Heap} {H:Hp} {b:Addr} {o:Obj} (e:(GG h H).get? b=some o):h.get? b=some o/\H b=none:=by
 have e':h.get? b=some o:=PySem.W.of_hideAll (trk h H) e;refine ⟨e',?_⟩
 cases q:H b with
 |none=>rfl
 |some x=>
  have hm:b∈trk h H:=Tu.mpr ⟨jbg.mpr (Qt e'),by simp [q]⟩;have z:(GG h H).get? b=none:=PySem.W.hideAll_none (trk h H) hm;rw [z] at e;cases e
def Ko (g h:Heap) (L:Addr):List (Addr×Obj):=(List.range h.objs.size).filterMap λa=>if a=L\/(g.get? a).isSome=true then none else (h.get? a).map λo=>(a,o)
def gH (g h:Heap) (L d:Addr):List (Addr×Obj):=(Ko g h L).filter λp=>decide (p.1≠d)
end L2
namespace L2
open PySem PySem.Spec PyProof.Rows
structure Mod (K:PySem.W.Frag) (mg:Str->Option Value) (base:Heap):Prop where
 kin:K.In base
 glob:base.Ns mainGlobals mg
 blt:∃mb,base.Ns builtinsNs mb/\∀x:Str,x≠"__name__"->mb x=bootBuiltins x
 nolimit:base.NoLimit
structure Cx where
 prog:Program
 w:World
 K:PySem.W.Frag
 mg:Str->Option Value
 base:Heap
 A:Around
 N:List Str
 s₀:Shared
 H₀:Hp
 env:Env
 outer:List Env
 stack:List Env
 ex:List Addr
 fn:Str->Bool
 calm:Bool
 pn:List (Addr×Obj)
 xe:Value->Shared->Prop
def frs (l:List Env):List Addr:=l.filterMap (·.frame)
abbrev Cx.fs (X:Cx):List Addr:=frs X.outer
def Vis (sc:Scope) (x:Str):Prop:=sc.names.lookup x=some .local\/sc.names.lookup x=some .cell\/sc.names.lookup x=some .free
def Loc (sc:Scope) (x:Str):Prop:=sc.names.lookup x=some .local\/sc.names.lookup x=some .cell
def Look (env:Env) (h:Heap) (m:Str->Option Value) (x:Str) (u:Value):Prop:=
 (env.kindOf x=some .local/\m x=some u)\/((env.kindOf x=some .cell\/env.kindOf x=some .free)/\∃c,env.cells.lookup x=some c/\h.IsCell c (some u))
structure Cx.Ok (X:Cx):Prop where
 mod:Mod X.K X.mg X.base
 kind:X.env.scope.kind= .function
 glob:X.env.globals=mainGlobals
 blt:X.env.builtins=builtinsNs
 above:X.s₀.heap.objs.size<=X.env.locals
 inj:∀x y c,X.env.cells.lookup x=some c->X.env.cells.lookup y=some c->x=y
 has:∀x,(X.env.kindOf x=some .cell\/X.env.kindOf x=some .free)->∃c,X.env.cells.lookup x=some c
 cab:∀x c,X.fn x=true->X.env.cells.lookup x=some c->X.s₀.heap.objs.size<=c
 hd:X.calm=true->X.A.handled=none
 frames:X.A.frames=some X.stack
 stk:X.stack=X.outer\/(X.stack=X.env::X.outer/\X.env.frame=some X.env.locals)
 exf:∀b∈X.ex,b≠X.env.locals/\∀x c,X.env.cells.lookup x=some c->c≠b
 bs:∀b o,X.base.get? b=some o->X.s₀.heap.get? b=some o/\X.H₀ b=none
 bsz:X.base.objs.size<=X.s₀.heap.objs.size
 noex:∀b o,X.base.get? b=some o->b∉X.ex
 exfs:∀b∈X.ex,b∉X.fs
 funs:X.s₀.heap.FunFrames X.base X.outer
 frf:∀b∈X.fs,X.H₀ b=none
structure Inv (X:Cx) (pins:List (Addr×Obj)) (σ:List (Option V)) (H:Hp) (s:Shared):Prop where
 ok:X.Ok
 os:s.os=X.s₀.os
 bare:AllBare s.gens
 base:Un X.fs X.ex X.H₀ H X.s₀.heap s.heap
 loc:∃m,s.heap.Ns X.env.locals m/\∀(i:Nat) (x:Str) (v:V),X.N[i]? =some x->σ[i]? =some (some v)->Vis X.env.scope x->∃u,Ze v u/\Look X.env s.heap m x u
 cell:∀x c,X.env.cells.lookup x=some c->∃v,s.heap.IsCell c v
 free:H X.env.locals=none
 freeC:∀x c,X.env.cells.lookup x=some c->H c=none
 pin:∀p∈X.pn++pins,s.heap.get? p.1=some p.2/\H p.1=none/\p.1≠X.env.locals/\p.1∉X.fs/\∀v,p.2.data≠ .cell v
 hok:HOk X.prog X.w H s.heap
 len:σ.length=X.N.length
section
variable {X:Cx} {pins:List (Addr×Obj)} {σ:List (Option V)} {H H':Hp} {s:Shared} {h':Heap}
theorem Cx.Ok.nofr (ok:X.Ok) {b:Addr} {o:Obj} (e:X.base.get? b=some o):b∉X.fs:=λhb=>by
 have:=(ok.funs.mem hb).1;rw [e] at this;cases this
theorem Inv.bs (I:Inv X pins σ H s):∀b o,X.base.get? b=some o->s.heap.get? b=some o/\H b=none:=λb o e=>
 ⟨I.base.keep b o (I.ok.bs b o e).1 (I.ok.bs b o e).2 (I.ok.nofr e) (I.ok.noex b o e),I.base.free b o (I.ok.bs b o e).1 (I.ok.bs b o e).2 (I.ok.noex b o e)⟩
theorem Inv.bk (I:Inv X pins σ H s):∀b o,X.base.get? b=some o->s.heap.get? b=some o:=λb o e=>(I.bs b o e).1
theorem Inv.mod (I:Inv X pins σ H s):Mod X.K X.mg X.base:=I.ok.mod
theorem Inv.kIn (I:Inv X pins σ H s):X.K.In s.heap:=I.ok.mod.kin.keeps I.bk
theorem Inv.lt (I:Inv X pins σ H s):X.env.locals<s.heap.objs.size:=by
 obtain ⟨_,hn,_⟩:=I.loc;exact hn.lt
theorem Inv.sz (I:Inv X pins σ H s):X.s₀.heap.objs.size<=s.heap.objs.size:=QI I.ok.above (jbm I.lt)
theorem Inv.nofs (I:Inv X pins σ H s) {a:Addr} (h:s.heap.objs.size<=a):a∉X.fs:=λhb=>by
 obtain ⟨_,o,ho,_⟩:=I.ok.funs.mem hb;exact absurd (QV (Qt ho) (QI I.sz h)) (jaw _)
theorem Inv.cne (I:Inv X pins σ H s):∀x c,X.env.cells.lookup x=some c->c≠X.env.locals:=λx c e z=>by
 obtain ⟨v,o,ho,hd⟩:=I.cell x c e;obtain ⟨m,⟨o',es,ep,Oz,MG,_⟩,_⟩:=I.loc;rw [z,Oz] at ho;cases ho;rw [MG] at hd;cases hd
theorem Inv.funs (I:Inv X pins σ H s):s.heap.FunFrames X.base X.outer:=by
 have all:∀(l:List Env),(∀b∈frs l,b∈X.fs)->X.s₀.heap.FunFrames X.base l->s.heap.FunFrames X.base l:=by
  intro l
  induction l with
  |nil=>intro _ _;trivial
  |cons env r ih=>
   intro hs hl;obtain ⟨hk,⟨L,o,hf,hn,ho,hd⟩,hr⟩:=hl;have hL:L∈X.fs:=hs L (by unfold frs;rw [jaN,hf];exact Qb);obtain ⟨sl,e⟩:=I.base.slot L o ho (I.ok.frf L hL) hL λz=>I.ok.exfs L z hL;exact ⟨hk,⟨L,_,hf,hn,e,hd⟩,ih (λb hb=>hs b (by unfold frs;rw [jaN,hf];exact Qd _ hb)) hr⟩
 exact all X.outer (λ_ hb=>hb) I.ok.funs
theorem Inv.stack (I:Inv X pins σ H s):s.heap.FunFrames X.base X.stack:=by
 rcases I.ok.stk with e|⟨e,hf⟩
 ·rw [e];exact I.funs
 ·rw [e];obtain ⟨m,hn,_⟩:=I.loc;refine .cons (by rw [I.ok.kind];decide) hf hn ?_ I.funs;exact Heap.get?_none_of_le (QI I.ok.bsz I.ok.above)
theorem Inv.stkSub (I:Inv X pins σ H s):∀b∈frs X.stack,b∈X.env.locals::X.fs:=λb hb=>by
 rcases I.ok.stk with e|⟨e,hf⟩
 ·rw [e] at hb;exact Qd _ hb
 ·rw [e] at hb;unfold frs at hb;rw [jaN,hf] at hb;exact hb
theorem Inv.stkFree (I:Inv X pins σ H s):∀b∈frs X.stack,H b=none:=λb hb=>by
 rcases Ql.mp (I.stkSub b hb) with e|hb
 ·rw [e];exact I.free
 ·obtain ⟨_,o,ho,_⟩:=I.ok.funs.mem hb;exact I.base.free b o ho (I.ok.frf b hb) λz=>I.ok.exfs b z hb
theorem Inv.step {g':Array GenState} {t':Nat} {d':Drawn} {ch:List Addr} (I:Inv X pins σ H s)
 (NI:∀b∈ch,(b∈X.ex\/X.s₀.heap.objs.size<=b)/\b≠X.env.locals/\(∀x c,X.env.cells.lookup x=some c->c≠b)/\∀p∈X.pn++pins,p.1≠b)
 (keep:∀b o,b≠X.env.locals->b∉X.fs->b∉ch->s.heap.get? b=some o->H b=none->h'.get? b=some o)
 (slot:∀b o,b≠X.env.locals->b∈X.fs->b∉ch->s.heap.get? b=some o->H b=none->∃sl,h'.get? b=some {o with slots:=sl}) (free:∀b o,b∉ch->s.heap.get? b=some o->H b=none->H' b=none)
 (there:∀b o,b∉ch->s.heap.get? b=some o->∃o',h'.get? b=some o')
 (tups:∀b xs,H b=some (.tup xs)->H' b=some (.tup xs)) (frzs:∀b o u,H b=some (.frz o u)->H' b=some (.frz o u)) (tbls:∀b ps,H b=some (.tbl ps)->∃more,H' b=some (.tbl (ps++more)))
 (ns:∀m,s.heap.Ns X.env.locals m->h'.Ns X.env.locals m) (hok:HOk X.prog X.w H' h') (hg:AllBare g'):
 Inv X pins σ H' {s with heap:=h',gens:=g',drawn:=d',toks:=t'}:=by
 have neL:∀b o,X.s₀.heap.get? b=some o->b≠X.env.locals:=λb o e=>QM (QV (Qt e) I.ok.above)
 have neC:∀b o,X.s₀.heap.get? b=some o->b∉X.ex->b∉ch:=λb o e hx hb=>by
  rcases (NI b hb).1 with z|z
  ·exact hx z
  ·exact absurd (QV (Qt e) z) (jaw _)
 have cellK:∀x c,X.env.cells.lookup x=some c->∀v,s.heap.IsCell c v->h'.IsCell c v:=λx c e v ⟨o,ho,hd⟩=>by
  have nch:c∉ch:=λz=>(NI c z).2.2.1 x c e rfl
  by_cases hc:c∈X.fs
  ·obtain ⟨sl,q⟩:=slot c o (I.cne x c e) hc nch ho (I.freeC x c e);exact ⟨_,q,hd⟩
  ·exact ⟨o,keep c o (I.cne x c e) hc nch ho (I.freeC x c e),hd⟩
 refine ⟨I.ok,I.os,hg,⟨λb o e n hb hx=>?_,λb o e n hb hx=>?_,λb o e n hx=>?_,λb o e hx=>?_,λb xs e=>tups b xs (I.base.tups b xs e),λb o xs e=>frzs b o xs (I.base.frzs b o xs e),λb ps e=>?_⟩,?_,λx c e=>?_,?_,λx c e=>?_,λp hp=>?_,hok,I.len⟩
 ·exact keep b o (neL b o e) hb (neC b o e hx) (I.base.keep b o e n hb hx) (I.base.free b o e n hx)
 ·obtain ⟨sl,e1⟩:=I.base.slot b o e n hb hx;obtain ⟨So,e2⟩:=slot b _ (neL b o e) hb (neC b o e hx) e1 (I.base.free b o e n hx);exact ⟨So,e2⟩
 ·obtain ⟨o',e1⟩:=I.base.there b o e hx;exact free b o' (neC b o e hx) e1 (I.base.free b o e n hx)
 ·obtain ⟨o',e1⟩:=I.base.there b o e hx;exact there b o' (neC b o e hx) e1
 ·obtain ⟨m1,e1⟩:=I.base.tbls b ps e;obtain ⟨m2,e2⟩:=tbls b _ e1;exact ⟨m1++m2,by rw [e2,Array.append_assoc]⟩
 ·obtain ⟨m,hn,hl⟩:=I.loc;refine ⟨m,ns m hn,λi x v e1 e2 e3=>?_⟩;obtain ⟨u,r,l⟩:=hl i x v e1 e2 e3;refine ⟨u,r,?_⟩
  rcases l with l|⟨k,c,e,z⟩
  ·exact .inl l
  ·exact .inr ⟨k,c,e,cellK x c e _ z⟩
 ·obtain ⟨v,z⟩:=I.cell x c e;exact ⟨v,cellK x c e v z⟩
 ·obtain ⟨m,⟨o,_,_,ho,_⟩,_⟩:=I.loc;exact free _ o (λz=>(NI _ z).2.1 rfl) ho I.free
 ·obtain ⟨v,o,ho,hd⟩:=I.cell x c e;exact free c o (λz=>(NI c z).2.2.1 x c e rfl) ho (I.freeC x c e)
 ·obtain ⟨e,n,ne,nf,d⟩:=I.pin p hp;have nch:p.1∉ch:=λz=>(NI p.1 z).2.2.2 p hp rfl;exact ⟨keep p.1 p.2 ne nf nch e n,free p.1 p.2 nch e n,ne,nf,d⟩
theorem Inv.un {t':Nat} (I:Inv X pins σ H s) (u:Un X.fs [] H H' s.heap h') (hok:HOk X.prog X.w H' h'):Inv X pins σ H' {s with heap:=h',toks:=t'}:=by
 obtain ⟨m,⟨o,es,ep,ho,r⟩,_⟩:=id I.loc;obtain ⟨sl,hL⟩:=u.any ho I.free (by simp)
 exact I.step (g':=s.gens) (d':=s.drawn) (ch:=[]) (λ_ z=>nomatch z) (λb o _ hb _ e n=>u.keep b o e n hb (by simp)) (λb o _ hb _ e n=>u.slot b o e n hb (by simp)) (λb o _ e n=>u.free b o e n (by simp)) (λb o _ e=>u.there b o e (by simp)) u.tups u.frzs u.tbls (λm' hm=>by
  obtain ⟨o',es',OT,Oz,r'⟩:=hm;rw [ho] at Oz;cases Oz
  exact ⟨_,es',OT,hL,r'⟩) hok I.bare
theorem Inv.call {g':Array GenState} {t':Nat} {d':Drawn} {ch:List Addr} (I:Inv X pins σ H s) (u:Un (frs X.stack) ch H H' s.heap h') (hok:HOk X.prog X.w H' h') (hg:AllBare g')
 (NI:∀b∈ch,(b∈X.ex\/X.s₀.heap.objs.size<=b)/\b≠X.env.locals/\(∀x c,X.env.cells.lookup x=some c->c≠b)/\∀p∈X.pn++pins,p.1≠b):
 Inv X pins σ H' {s with heap:=h',gens:=g',drawn:=d',toks:=t'}:=by
 obtain ⟨m,⟨o,es,ep,ho,r⟩,_⟩:=id I.loc;obtain ⟨sl,hL⟩:=u.any ho I.free λz=>(NI _ z).2.1 rfl
 exact I.step (ch:=ch) NI (λb o hL hb hc e n=>u.keep b o e n (λz=>(Ql.mp (I.stkSub b z)).elim hL hb) hc) (λb o _ _ hc e n=>u.any e n hc) (λb o hc e n=>u.free b o e n hc) (λb o hc e=>u.there b o e hc) u.tups u.frzs u.tbls (λm' hm=>by
  obtain ⟨o',es',OT,Oz,r'⟩:=hm;rw [ho] at Oz;cases Oz
  exact ⟨_,es',OT,hL,r'⟩) hok hg
theorem Inv.turned {t':Nat} {it:Addr} (I:Inv X pins σ H s) (k:∀b o,b≠it->s.heap.get? b=some o->h'.get? b=some o) (hn:H it=none) (hL:it≠X.env.locals)
 (h1:it∈X.ex\/X.s₀.heap.objs.size<=it) (h2:∀x c,X.env.cells.lookup x=some c->c≠it) (h3:∀p∈X.pn++pins,p.1≠it):Inv X pins σ H {s with heap:=h',toks:=t'}:=by
 have nit:∀b u,H b=some u->b≠it:=λb u e z=>by rw [z,hn] at e;cases e
 refine I.step (g':=s.gens) (d':=s.drawn) (ch:=[it]) (λb hb=>?_) (λb o _ _ hc e _=>k b o (λz=>hc (by simp [z])) e) (λb o _ _ hc e _=>⟨o.slots,k b o (λz=>hc (by simp [z])) e⟩) (λ_ _ _ _ n=>n)
  (λb o hc e=>⟨o,k b o (λz=>hc (by simp [z])) e⟩) (λ_ _ e=>e) (λ_ _ _ e=>e) (λb ps e=>⟨#[],by rw [e];simp⟩) (λm hm=>?_) (λb u e=>?_) I.bare
 ·have e:b=it:=by simpa using hb
  subst e;exact ⟨h1,hL,h2,h3⟩
 ·obtain ⟨o,es,ep,ho,r⟩:=hm;exact ⟨o,es,ep,k _ o (Ne.symm hL) ho,r⟩
 ·refine (I.hok b u e).stay (λc v hc q=>k c v ?_ q) (λ_ q=>q) λ_ _ q=>q
  rcases hc with z|z
  ·rw [z];exact nit b u e
  ·exact nit c _ z
theorem Inv.tok (I:Inv X pins σ H s) (t:Nat):Inv X pins σ H {s with toks:=t}:=I.un (h':=s.heap) (t':=t) Un.refl I.hok
theorem Inv.kept {t':Nat} (I:Inv X pins σ H s) (k:∀b u,s.heap.get? b=some u->h'.get? b=some u):Inv X pins σ H {s with heap:=h',toks:=t'}:=I.un (Un.kept k) (I.hok.kept k)
theorem Inv.laid {a:Addr} {o:HO} {t':Nat} (I:Inv X pins σ H s) (k:∀b u,s.heap.get? b=some u->h'.get? b=some u) (hp:s.heap.objs.size<=a) (new:ZP X.prog X.w (upd H a o) h' a o):
 Inv X pins σ (upd H a o) {s with heap:=h',toks:=t'}:=I.un (Un.laid k hp (I.hok.fresh hp)) (I.hok.laid k hp new)
theorem Inv.write {x e:Addr} {o:HO} {t':Nat} (I:Inv X pins σ H s) (mu:Mut (H x)) (he:e=x\/H e=some (.own x)) (k:∀b u,b≠e->s.heap.get? b=some u->h'.get? b=some u) (OR:∃u,h'.get? e=some u)
 (new:ZP X.prog X.w (upd H x o) h' x o):Inv X pins σ (upd H x o) {s with heap:=h',toks:=t'}:=I.un (Un.write mu he k OR) (I.hok.write mu he k OR new)
theorem Inv.weak {σ':List (Option V)} (I:Inv X pins σ H s) (hl:σ'.length=σ.length) (w:∀(i:Nat) v,σ'[i]? =some (some v)->σ[i]? =some (some v)):Inv X pins σ' H s:=
 ⟨I.ok,I.os,I.bare,I.base,let ⟨m,hn,Ms⟩:=I.loc;⟨m,hn,λi x v e1 e2 e3=>Ms i x v e1 (w i v e2) e3⟩,I.cell,I.free,I.freeC,I.pin,I.hok,hl.trans I.len⟩
theorem Inv.pins_of {NW:List (Addr×Obj)} (I:Inv X pins σ H s) (h:∀p∈NW,s.heap.get? p.1=some p.2/\H p.1=none/\p.1≠X.env.locals/\p.1∉X.fs/\∀v,p.2.data≠ .cell v):Inv X NW σ H s:=
 ⟨I.ok,I.os,I.bare,I.base,I.loc,I.cell,I.free,I.freeC,λp hp=>(QT.mp hp).elim (λz=>I.pin p (TZ _ z)) (h p),I.hok,I.len⟩
theorem tI {N:List Str} (hN:N.Nodup) {i j:Nat} {x:Str} (a:N[i]? =some x) (b:N[j]? =some x):i=j:=by
 obtain ⟨h1,e1⟩:=Qf.mp a;obtain ⟨h2,e2⟩:=Qf.mp b;exact (List.getElem_inj hN).mp (e1.trans e2.symm)
theorem mL {M:Model} {A:Around} {E:Value->Shared->Prop} {i:Nat} {x:Str} {v:V} {u:Value} {Q:Unit->Shared->Prop} (I:Inv X pins σ H s) (hN:X.N.Nodup) (hi:X.N[i]? =some x) (hx:Loc X.env.scope x) (r:Ze v u)
 (h:∀s',Inv X pins (σ.set i (some v)) H s'->(∃a,Heap.SameBut a s.heap s'.heap/\(a=X.env.locals\/X.env.cells.lookup x=some a))->Q () s') (hf:X.fn x=true\/X.env.scope.names.lookup x=some .local:=by walk_at "f"):wpAny M A (storeName X.env x u) Q E s:=by
 obtain ⟨m,hn,hl⟩:=id I.loc;have hcls:(X.env.scope.kind== .class||(X.env.scope.kind== .module && X.env.locals !=X.env.globals))=false:=by rw [I.ok.kind];rfl
 have hiσ:i<σ.length:=by rw [I.len];exact (Qf.mp hi).1
 have cne:=I.cne
 have tracked:∀{a:Addr} {h':Heap},(∃o,s.heap.get? a=some o/\H a=none)->Heap.SameBut a s.heap h'->HOk X.prog X.w H h':=λ{a h'} ha hs b ob e=>by
  obtain ⟨_,_,Oh⟩:=ha;refine (I.hok b ob e).stay (λc w' hc q=>(hs.2 c ?_).trans q) (λ_ q=>q) λ_ _ q=>q
  rintro rfl
  rcases hc with rfl|hc
  ·rw [Oh] at e;cases e
  ·rw [Oh] at hc;cases hc
 rcases hx with hk|hk
 ·refine wpAny_storeName_local hk hn (λh' hn' hs=>?_) hcls;obtain ⟨oL,_,_,hoL,_⟩:=id hn;refine h _ ⟨I.ok,I.os,I.bare,⟨λb o e n hb hx=>?_,λb o e n hb hx=>?_,I.base.free,λb o e hx=>?_,I.base.tups,I.base.frzs,I.base.tbls⟩,⟨_,hn',λj y v' e1 e2 e3=>?_⟩,λy c e=>?_,I.free,I.freeC,λp hp=>?_,tracked ⟨oL,hoL,I.free⟩ hs,by simpa using I.len⟩ ⟨_,hs, .inl rfl⟩
  ·exact (hs.2 b (QM (QV (Qt e) I.ok.above))).trans (I.base.keep b o e n hb hx)
  ·obtain ⟨sl,e1⟩:=I.base.slot b o e n hb hx;exact ⟨sl,(hs.2 b (QM (QV (Qt e) I.ok.above))).trans e1⟩
  ·obtain ⟨o',e1⟩:=I.base.there b o e hx;exact ⟨o',(hs.2 b (QM (QV (Qt e) I.ok.above))).trans e1⟩
  ·by_cases hj:j=i
   ·subst hj;rw [hi] at e1;cases e1;rw [List.getElem?_set_self hiσ] at e2;cases e2;exact ⟨u,r, .inl ⟨hk,by simp⟩⟩
   ·rw [jby (Ne.symm hj)] at e2;obtain ⟨u',r',q⟩:=hl j y v' e1 e2 e3;refine ⟨u',r',?_⟩
    rcases q with ⟨k,e⟩|⟨k,c,e,z⟩
    ·refine .inl ⟨k,?_⟩;have:y≠x:=λe=>hj (tI hN e1 (e▸hi));simp [this,e]
    ·exact .inr ⟨k,c,e,z.sameBut hs (cne y c e)⟩
  ·obtain ⟨w',z⟩:=I.cell y c e;exact ⟨w',z.sameBut hs (cne y c e)⟩
  ·obtain ⟨e,n,ne,nf,d⟩:=I.pin p hp;exact ⟨(hs.2 p.1 ne).trans e,n,ne,nf,d⟩
 ·have hfn:X.fn x=true:=by
   rcases hf with z|z
   ·exact z
   ·rw [z] at hk;cases hk
  obtain ⟨c,hc⟩:=I.ok.has x (.inl hk);obtain ⟨w',z⟩:=I.cell x c hc;refine wpAny_storeName_cell I.ok.kind hk hc z (λh' LX hs=>?_);obtain ⟨oc,hoc,SQ⟩:=id z;refine h {s with heap:=h'} ⟨I.ok,I.os,I.bare,⟨λb o e n hb hx=>?_,λb o e n hb hx=>?_,I.base.free,λb o e hx=>?_,I.base.tups,I.base.frzs,I.base.tbls⟩,⟨m,hn.sameBut hs (Ne.symm (cne x c hc)),λj y v' e1 e2 e3=>?_⟩,λy c' e=>?_,I.free,I.freeC,λp hp=>?_,tracked ⟨oc,hoc,I.freeC x c hc⟩ hs,by simpa using I.len⟩ ⟨c,hs, .inr hc⟩
  ·exact (hs.2 b (QM (QV (Qt e) (I.ok.cab x c hfn hc)))).trans (I.base.keep b o e n hb hx)
  ·obtain ⟨sl,e1⟩:=I.base.slot b o e n hb hx;exact ⟨sl,(hs.2 b (QM (QV (Qt e) (I.ok.cab x c hfn hc)))).trans e1⟩
  ·obtain ⟨o',e1⟩:=I.base.there b o e hx;exact ⟨o',(hs.2 b (QM (QV (Qt e) (I.ok.cab x c hfn hc)))).trans e1⟩
  ·by_cases hj:j=i
   ·subst hj;rw [hi] at e1;cases e1;rw [List.getElem?_set_self hiσ] at e2;cases e2;exact ⟨u,r, .inr ⟨.inl hk,c,hc,LX⟩⟩
   ·rw [jby (Ne.symm hj)] at e2;obtain ⟨u',r',q⟩:=hl j y v' e1 e2 e3;refine ⟨u',r',?_⟩
    rcases q with q|⟨k,c',e,z'⟩
    ·exact .inl q
    ·refine .inr ⟨k,c',e,z'.sameBut hs ?_⟩
     rintro rfl
     exact hj (tI hN e1 (I.ok.inj _ _ _ e hc▸hi))
  ·by_cases RO:c'=c
   ·subst RO;exact ⟨_,LX⟩
   ·obtain ⟨w2,z2⟩:=I.cell y c' e;exact ⟨w2,z2.sameBut hs RO⟩
  ·obtain ⟨e,n,ne,nf,d⟩:=I.pin p hp;refine ⟨(hs.2 p.1 ?_).trans e,n,ne,nf,d⟩;intro q;rw [q,hoc] at e;have q':oc=p.2:=Qz e;exact d w' (by rw [<-q'];exact SQ)
theorem VW {M:Model} {A:Around} {E:Value->Shared->Prop} {i:Nat} {x:Str} {v:V} {u:Value} {Q:Unit->Shared->Prop} (I:Inv X pins σ H s) (hN:X.N.Nodup) (hi:X.N[i]? =some x) (hx:Loc X.env.scope x) (r:Ze v u)
 (h:∀s',Inv X pins (σ.set i (some v)) H s'->Q () s') (hf:X.fn x=true\/X.env.scope.names.lookup x=some .local:=by walk_at "f"):wpAny M A (storeName X.env x u) Q E s:=
 mL I hN hi hx r (λs' I' _=>h s' I') hf
theorem Inv.call' {s':Shared} {ch:List Addr} (I:Inv X pins σ H s) (ho:s'.os=s.os) (u:Un (frs X.stack) ch H H' s.heap s'.heap) (hok:HOk X.prog X.w H' s'.heap) (hg:AllBare s'.gens)
 (NI:∀b∈ch,(b∈X.ex\/X.s₀.heap.objs.size<=b)/\b≠X.env.locals/\(∀x c,X.env.cells.lookup x=some c->c≠b)/\∀p∈X.pn++pins,p.1≠b):Inv X pins σ H' s':=by
 obtain ⟨h',g',d',t',o'⟩:=s';have e:o'=s.os:=ho;subst e;exact I.call (g':=g') (t':=t') (d':=d') u hok hg NI
end
abbrev XK:=Value->Option Addr->Hp->Prop
abbrev St:=List (Option V)
abbrev VK:=V->Hp->Prop
abbrev TE:=St->Hp->VK->Prop
abbrev TT:=St->Hp->(Bool->Hp->Prop)->Prop
abbrev TA:=St->Hp->(List V->Hp->Prop)->Prop
structure Ends where
 nx:St->Hp->Prop
 rt:VK
 bk:St->Hp->Prop:=λ_ _=>False
 ct:St->Hp->Prop:=λ_ _=>False
abbrev TS:=Ends->St->Hp->Prop
def EP (X:Cx) (pins:List (Addr×Obj)) (σ:St) (Q:VK) (u:Value) (s':Shared):Prop:=∃v H',Inv X pins σ H' s'/\Ze v u/\Q v H'
def TP (X:Cx) (pins:List (Addr×Obj)) (σ:St) (Q:Bool->Hp->Prop) (b:Bool) (s':Shared):Prop:=∃H',Inv X pins σ H' s'/\Q b H'
def AP (X:Cx) (pins:List (Addr×Obj)) (σ:St) (Q:List V->Hp->Prop) (us:List Value) (s':Shared):Prop:=∃vs H',Inv X pins σ H' s'/\xn vs us/\Q vs H'
def SP (X:Cx) (pins:List (Addr×Obj)) (D:Ends) (f:Flow) (s':Shared):Prop:=
 match f with
 | .next=>∃σ' H',Inv X pins σ' H' s'/\D.nx σ' H'
 | .brk=>∃σ' H',Inv X pins σ' H' s'/\D.bk σ' H'
 | .cont=>∃σ' H',Inv X pins σ' H' s'/\D.ct σ' H'
 | .ret u=>∃v σ' H',Inv X pins σ' H' s'/\Ze v u/\D.rt v H'
def PE (X:Cx) (e:Expr) (t:TE):Prop:=
 ∀(pins:List (Addr×Obj)) (s:Shared) (σ:St) (H:Hp) (Q:VK),Inv X pins σ H s->t σ H Q->wpAny (model X.prog X.w) X.A (eval e X.env) (EP X pins σ Q) X.xe s
def PT (X:Cx) (e:Expr) (t:TT):Prop:=
 ∀(pins:List (Addr×Obj)) (s:Shared) (σ:St) (H:Hp) (Q:Bool->Hp->Prop),Inv X pins σ H s->t σ H Q->wpAny (model X.prog X.w) X.A (isTrue e X.env (eval e X.env)) (TP X pins σ Q) X.xe s
def PW (X:Cx) (e:Expr) (t:TT):Prop:=
 ∀(whole:Sem Value) (pins:List (Addr×Obj)) (s:Shared) (σ:St) (H:Hp) (Q:Bool->Hp->Prop),Inv X pins σ H s->t σ H Q->wpAny (model X.prog X.w) X.A (isTrue e X.env whole) (TP X pins σ Q) X.xe s
theorem PW.pt {X:Cx} {e:Expr} {t:TT} (h:PW X e t):PT X e t:=h _
def PA (X:Cx) (es:List Expr) (t:TA):Prop:=
 ∀(pos:Pos) (pins:List (Addr×Obj)) (s:Shared) (σ:St) (H:Hp) (Q:List V->Hp->Prop),Inv X pins σ H s->t σ H Q->wpAny (model X.prog X.w) X.A (spliced (backTo pos (starEach es X.env))) (AP X pins σ Q) X.xe s
def PS (X:Cx) (st:Stmt) (t:TS):Prop:=
 ∀(pins:List (Addr×Obj)) (s:Shared) (σ:St) (H:Hp) (D:Ends),Inv X pins σ H s->t D σ H->wpAny (model X.prog X.w) X.A (exec st X.env) (SP X pins D) X.xe s
def PSs (X:Cx) (st:List Stmt) (t:TS):Prop:=
 ∀(pins:List (Addr×Obj)) (s:Shared) (σ:St) (H:Hp) (D:Ends),Inv X pins σ H s->t D σ H->wpAny (model X.prog X.w) X.A (execs st X.env) (SP X pins D) X.xe s
theorem thn {α:Type} {t:Sem α} {Q Q':α->Shared->Prop} {M:Model} {A:Around} {E:Value->Shared->Prop} {s:Shared} (h:wpAny M A t Q E s) (hQ:∀a s,Q a s->Q' a s):wpAny M A t Q' E s:=wpAny_mono h hQ λ_ _ x=>x
end L2
namespace L2
open PySem PySem.Spec PyProof.Rows
section
variable {X:Cx}
def tVar (i:Nat):TE:=λσ H Q=>∃v,σ[i]? =some (some v)/\Q v H
def tC (v:V):TE:=λ_ H Q=>Q v H
theorem pe_var {i:Nat} {x:Str} {pos:Pos} (hN:X.N[i]? =some x) (hv:Vis X.env.scope x) (hd:(x==("__debug__":Str))=false:=by decide) (LW:(x==("__classdict__":Str))=false:=by decide):PE X (.Name x pos) (tVar i):=by
 intro pins s σ H Q I h;obtain ⟨v,e,h⟩:=h;obtain ⟨m,hn,hl⟩:=I.loc;obtain ⟨u,r,l⟩:=hl i x v hN e hv;have fin:EP X pins σ Q u s:=⟨v,H,I,r,h⟩
 rcases l with ⟨hk,hm⟩|⟨hk,c,hc,MY⟩
 ·exact wpAny_Name (wpAny_loadName_local I.ok.kind hk hn hm fin) hd
 ·rcases hk with hk|hk
  ·exact wpAny_Name (wpAny_loadName_cell I.ok.kind hk hc MY fin) hd
  ·exact wpAny_Name (wpAny_loadName_free I.ok.kind hk hc MY fin LW) hd
theorem tH {i j pos}:PE X (.Constant (.int i) j pos) (tC (.int i)):=λ_ _ _ H _ I h=>wpAny_Constant_int ⟨.int i,H,I.tok _,⟨_,rfl⟩,h⟩
theorem pe_bl {b j pos}:PE X (.Constant (.bool b) j pos) (tC (.bl b)):=λ_ _ _ H _ I h=>Constant_bool ⟨.bl b,H,I,rfl,h⟩
theorem pe_non {j pos}:PE X (.Constant .none j pos) (tC .non):=λ_ _ _ H _ I h=>Constant_none ⟨.non,H,I,rfl,h⟩
theorem pe_str {x j pos}:PE X (.Constant (.str x) j pos) (tC (.str x)):=λ_ _ _ H _ I h=>Calls.Constant_str ⟨.str x,H,I.tok _,⟨_,rfl⟩,h⟩
def Gl (X:Cx) (x:Str):Prop:=X.env.kindOf x=some .globalImplicit
theorem fc {E:Value->Shared->Prop} {pins:List (Addr×Obj)} {s:Shared} {σ:St} {H:Hp} {x:Str} {u:Value} {pos:Pos} {Q:Value->Shared->Prop} (I:Inv X pins σ H s) (hg:Gl X x) (hm:X.mg x=some u) (h:Q u s)
 (hd:(x==("__debug__":Str))=false:=by decide):wpAny (model X.prog X.w) X.A (eval (.Name x pos) X.env) Q E s:=
 Calls.Name_function_global I.ok.kind hg (Calls.loadGlobal_global (by rw [I.ok.glob];exact I.mod.glob.keeps I.bk) hm h) hd
theorem Vm {E:Value->Shared->Prop} {pins:List (Addr×Obj)} {s:Shared} {σ:St} {H:Hp} {x:Str} {u:Value} {pos:Pos} {Q:Value->Shared->Prop} (I:Inv X pins σ H s) (hg:Gl X x) (hm:X.mg x=none) (hv:bootBuiltins x=some u) (h:Q u s)
 (hn:x≠"__name__":=by decide) (hd:(x==("__debug__":Str))=false:=by decide):wpAny (model X.prog X.w) X.A (eval (.Name x pos) X.env) Q E s:=by
 obtain ⟨mb,h1,h2⟩:=I.mod.blt;exact Calls.Name_function_global I.ok.kind hg (Calls.loadGlobal_builtin (by rw [I.ok.glob];exact I.mod.glob.keeps I.bk) hm (by rw [I.ok.blt];exact h1.keeps I.bk) ((h2 x hn).trans hv) h) hd
theorem Jr {x:Str} {v:V} {u:Value} {pos:Pos} (hg:Gl X x) (hm:X.mg x=some u) (r:Ze v u) (hd:(x==("__debug__":Str))=false:=by decide):PE X (.Name x pos) (tC v):=
 λ_ _ _ H _ I h=>fc I hg hm ⟨v,H,I,r,h⟩ hd
theorem pe_bltn {x:Str} {v:V} {u:Value} {pos:Pos} (hg:Gl X x) (hm:X.mg x=none) (hv:bootBuiltins x=some u) (r:Ze v u) (hn:x≠"__name__":=by decide) (hd:(x==("__debug__":Str))=false:=by decide):PE X (.Name x pos) (tC v):=
 λ_ _ _ H _ I h=>Vm I hg hm hv ⟨v,H,I,r,h⟩ hn hd
variable {a b:Expr} {ta tb:TE} {pos:Pos}
def tB (t:TE):TT:=λσ H Q=>t σ H λx H1=>∃c,x= .bl c/\Q c H1
theorem pt_val {e:Expr} {t:TE} (h:PE X e t) (he:∀whole,isTrue e X.env whole=(do let v<-whole;standAt e.pos;holding [v] (truthy v)):=by intro _;rfl):PT X e (tB t):=by
 intro pins s σ H Q I hw;refine isTrue_plain (thn (h pins s σ H _ I hw) λv s1 ⟨x,H1,I1,r1,q1⟩=>?_) (he _);obtain ⟨d,rfl,q⟩:=q1;cases r1;exact jbM ⟨H1,I1,q⟩
variable {tA tB':TT} {gH:List Expr}
def tAnd (t u:TT):TT:=λσ H Q=>t σ H λc H1=>if c=true then u σ H1 Q else Q false H1
def tOr (t u:TT):TT:=λσ H Q=>t σ H λc H1=>if c=true then Q true H1 else u σ H1 Q
def tNot (t:TT):TT:=λσ H Q=>t σ H λc H1=>Q (!c) H1
theorem pw_and1 (ha:PT X a tA):PW X (.BoolOp .And [a] pos) tA:=by
 intro wh pins s σ H Q I h;refine isTrue_and (thn (ha pins s σ H Q I h) λc s1 e=>?_)
 cases c with
 |true=>exact isTrue_and_nil e
 |false=>exact e
theorem pw_or1 (ha:PT X a tA):PW X (.BoolOp .Or [a] pos) tA:=by
 intro wh pins s σ H Q I h;refine isTrue_or (thn (ha pins s σ H Q I h) λc s1 e=>?_)
 cases c with
 |false=>exact isTrue_or_nil e
 |true=>exact e
theorem pw_and (ha:PT X a tA) (hb:PW X (.BoolOp .And (b::gH) pos) tB'):PW X (.BoolOp .And (a::b::gH) pos) (tAnd tA tB'):=by
 intro wh pins s σ H Q I h;refine isTrue_and (thn (ha pins s σ H _ I h) λc s1 hh=>?_);obtain ⟨H1,I1,q1⟩:=hh
 cases c with
 |true=>exact hb wh pins s1 σ H1 Q I1 q1
 |false=>exact ⟨H1,I1,q1⟩
theorem pw_or (ha:PT X a tA) (hb:PW X (.BoolOp .Or (b::gH) pos) tB'):PW X (.BoolOp .Or (a::b::gH) pos) (tOr tA tB'):=by
 intro wh pins s σ H Q I h;refine isTrue_or (thn (ha pins s σ H _ I h) λc s1 hh=>?_);obtain ⟨H1,I1,q1⟩:=hh
 cases c with
 |true=>exact ⟨H1,I1,q1⟩
 |false=>exact hb wh pins s1 σ H1 Q I1 q1
theorem pt_not (ha:PT X a tA):PT X (.UnaryOp .Not a pos) (tNot tA):=by
 intro pins s σ H Q I h;exact isTrue_not (ha pins s σ H (λc H1=>Q (!c) H1) I h)
def tAndV (ta tb:TE):TE:=λσ H Q=>ta σ H λx H1=>∃c,x= .bl c/\if c=true then tb σ H1 Q else Q (.bl false) H1
def tNotV (ta:TE):TE:=λσ H Q=>ta σ H λx H1=>∃c,x= .bl c/\Q (.bl (!c)) H1
theorem pe_one {op} {t:TE} (h:PE X a t):PE X (.BoolOp op [a] pos) t:=λpins s σ H Q I hw=>BoolOp_one (h pins s σ H Q I hw)
theorem pe_and (ha:PE X a ta) (hb:PE X (.BoolOp .And (b::gH) pos) tb):PE X (.BoolOp .And (a::b::gH) pos) (tAndV ta tb):=by
 intro pins s σ H Q I h;refine BoolOp_and (thn (ha pins s σ H _ I h) λv s1 hh=>?_);obtain ⟨x,H1,I1,r1,q1⟩:=hh;obtain ⟨c,rfl,q1⟩:=q1;cases r1;refine jbM ?_
 cases c with
 |true=>exact hb pins s1 σ H1 Q I1 q1
 |false=>exact ⟨.bl false,H1,I1,rfl,q1⟩
theorem pe_not (ha:PE X a ta):PE X (.UnaryOp .Not a pos) (tNotV ta):=by
 intro pins s σ H Q I h;refine UnaryOp_ (thn (ha pins s σ H _ I h) λv s1 hh=>?_);obtain ⟨x,H1,I1,r1,q1⟩:=hh;obtain ⟨c,rfl,q1⟩:=q1;cases r1;exact not_of (jbM ⟨.bl (!c),H1,I1,rfl,q1⟩)
end
end L2
namespace L2
open PySem PySem.Spec PyProof.Rows
def SqL (K:PySem.W.Frag) (H:Hp) (a:Addr) (xs:List V):Prop:=
 Rd H a (.lst xs)\/
  ∃(o:Obj) (its:Array Value) (n:Nat),K.lookup a=some o/\o.cls= .type "list"/\o.dict=none/\o.data= .seq its n/\its.size<=sizeLine/\xn xs its.toList
def SqT (K:PySem.W.Frag) (H:Hp) (a:Addr) (xs:List V):Prop:=
 Rd H a (.tup xs)\/
  ∃(o:Obj) (its:Array Value) (n:Nat),K.lookup a=some o/\o.cls= .type "tuple"/\o.data= .seq its n/\its.size<=sizeLine/\xn xs its.toList
def absV:Value->Option V
 | .none=>some .non
 | .bool b=>some (.bl b)
 | .int i _=>some (.int i)
 | .str x _=>some (.str x)
 | .bytes b _=>some (.byt b)
 | .float b _=>some (.flt b)
 | .ref a=>some (.ref a)
 | .type n=>some (.ty n)
 |_=>none
theorem Ze.abs {x:V} {u:Value} (r:Ze x u):absV u=some x:=by
 cases x with
 |non=>cases r;rfl
 |bl _=>cases r;rfl
 |int _=>obtain ⟨t,rfl⟩:=r;rfl
 |str _=>obtain ⟨t,rfl⟩:=r;rfl
 |byt _=>obtain ⟨t,rfl⟩:=r;rfl
 |flt _=>obtain ⟨t,rfl⟩:=r;rfl
 |ref _=>cases r;rfl
 |ty _=>cases r;rfl
theorem Ze.inj {x y:V} {u:Value} (r:Ze x u) (q:Ze y u):x=y:=Qz (r.abs.symm.trans q.abs)
theorem xn.inj {xs ys:List V} {us:List Value} (h:xn xs us) (g:xn ys us):xs=ys:=by
 induction h generalizing ys with
 |nil=>cases g;rfl
 |cons r t ih=>
  cases g with
  |cons r' t'=>rw [r.inj r',ih t']
section
variable {X:Cx} {pins:List (Addr×Obj)} {σ:St} {H:Hp} {s:Shared} {a:Addr} {xs ys:List V}
theorem SqL.of {K:PySem.W.Frag} (h:H a=some (.lst xs)):SqL K H a xs:= .inl (.inl h)
theorem SqT.of {K:PySem.W.Frag} (h:H a=some (.tup xs)):SqT K H a xs:= .inl (.inl h)
theorem Inv.list (I:Inv X pins σ H s) (h:SqL X.K H a xs):∃its:List Value,xn xs its/\PlainL s.heap a its.toArray/\xs.length<=sizeLine:=by
 rcases h with h|⟨o,its,n,hk,hc,hd,hs,hz,r⟩
 ·obtain ⟨z,its,n,r,e⟩:=h.ok I.hok;exact ⟨its,r,⟨_,n,e,rfl,rfl,rfl⟩,z⟩
 ·refine ⟨its.toList,r,⟨o,n,I.kIn a o hk,hc,hd,by simpa using hs⟩,?_⟩;have e:=r.length;simp only [jaf] at e;omega
theorem Inv.tuple (I:Inv X pins σ H s) (h:SqT X.K H a xs):∃its:List Value,xn xs its/\IsTup s.heap a its.toArray/\xs.length<=sizeLine:=by
 rcases h with h|⟨o,its,n,hk,hc,hs,hz,r⟩
 ·obtain ⟨z,its,r,p⟩:=h.ok I.hok;exact ⟨its,r,p,z⟩
 ·refine ⟨its.toList,r,⟨o,I.kIn a o hk,hc,n,by simpa using hs⟩,?_⟩;have e:=r.length;simp only [jaf] at e;omega
theorem Inv.list_inj (I:Inv X pins σ H s) (h:SqL X.K H a xs) (h':SqL X.K H a ys):xs=ys:=by
 obtain ⟨its,r,⟨o,n,e,_,_,d⟩,_⟩:=I.list h;obtain ⟨its',r',⟨o',n',e',_,_,d'⟩,_⟩:=I.list h';rw [e] at e';cases e';rw [d] at d'
 injection d' with d1 _
 have:its=its':=by simpa using congrArg Array.toList d1
 subst this;exact r.inj r'
theorem Inv.tuple_inj (I:Inv X pins σ H s) (h:SqT X.K H a xs) (h':SqT X.K H a ys):xs=ys:=by
 obtain ⟨its,r,⟨o,e,_,n,d⟩,_⟩:=I.tuple h;obtain ⟨its',r',⟨o',e',_,n',d'⟩,_⟩:=I.tuple h';rw [e] at e';cases e';rw [d] at d'
 injection d' with d1 _
 have:its=its':=by simpa using congrArg Array.toList d1
 subst this;exact r.inj r'
end
abbrev Cx.wish (X:Cx) (E:Value->Shared->Prop):Cx:={X with xe:=E}
abbrev Cx.nox (X:Cx):Cx:=X.wish λ_ _=>False
theorem Cx.Ok.wish {X:Cx} (ok:X.Ok) (E:Value->Shared->Prop):(X.wish E).Ok:=
 ⟨ok.mod,ok.kind,ok.glob,ok.blt,ok.above,ok.inj,ok.has,ok.cab,ok.hd,ok.frames,ok.stk,ok.exf,ok.bs,ok.bsz,ok.noex,ok.exfs,ok.funs,ok.frf⟩
theorem Cx.Ok.unwish {X:Cx} {E:Value->Shared->Prop} (ok:(X.wish E).Ok):X.Ok:=
 ⟨ok.mod,ok.kind,ok.glob,ok.blt,ok.above,ok.inj,ok.has,ok.cab,ok.hd,ok.frames,ok.stk,ok.exf,ok.bs,ok.bsz,ok.noex,ok.exfs,ok.funs,ok.frf⟩
section
variable {X:Cx} {pins:List (Addr×Obj)} {σ:St} {H:Hp} {s:Shared} {E:Value->Shared->Prop}
theorem Inv.wish (I:Inv X pins σ H s) (E:Value->Shared->Prop):Inv (X.wish E) pins σ H s:=⟨I.ok.wish E,I.os,I.bare,I.base,I.loc,I.cell,I.free,I.freeC,I.pin,I.hok,I.len⟩
theorem Inv.unwish (I:Inv (X.wish E) pins σ H s):Inv X pins σ H s:=⟨I.ok.unwish,I.os,I.bare,I.base,I.loc,I.cell,I.free,I.freeC,I.pin,I.hok,I.len⟩
theorem SP.unwish {D:Ends} {f:Flow} {s':Shared} (h:SP (X.wish E) pins D f s'):SP X pins D f s':=by
 cases f with
 |next=>obtain ⟨σ',H',I,q⟩:=h;exact ⟨σ',H',I.unwish,q⟩
 |brk=>obtain ⟨σ',H',I,q⟩:=h;exact ⟨σ',H',I.unwish,q⟩
 |cont=>obtain ⟨σ',H',I,q⟩:=h;exact ⟨σ',H',I.unwish,q⟩
 |ret u=>obtain ⟨v,σ',H',I,r,q⟩:=h;exact ⟨v,σ',H',I.unwish,r,q⟩
theorem PSs.nox {st:List Stmt} {t:TS} (h:PSs X.nox st t):PSs X st t:=λpins s σ H D I hw=>
 wpAny_mono (h pins s σ H D (I.wish _) hw) (λ_ _ q=>q.unwish) λ_ _ z=>False.elim z
end
section
variable {X:Cx} {st:Stmt} {gH:List Stmt} {t u:TS} {e:Expr} {te:TE} {pos:Pos}
def tNext:TS:=λD σ H=>D.nx σ H
def tSeq (t u:TS):TS:=λD σ H=>t {D with nx:=u D} σ H
theorem BO:PSs X [] tNext:=λ_ _ σ H _ I h=>wpAny_execs_nil ⟨σ,H,I,h⟩
theorem tF (h1:PS X st t) (h2:PSs X gH u):PSs X (st::gH) (tSeq t u):=by
 intro pins s σ H D I h;refine wpAny_execs_cons (thn (h1 pins s σ H {D with nx:=u D} I h) λf s1 q=>?_)
 cases f with
 |next=>
  obtain ⟨σ',H',I',q⟩:=q;exact h2 pins s1 σ' H' D I' q
 |ret v=>exact q
 |brk=>exact q
 |cont=>exact q
theorem dR (h1:PS X st t):PSs X [st] t:=by
 intro pins s σ H D I h;refine wpAny_execs_cons (thn (h1 pins s σ H D I h) λf s1 q=>?_)
 cases f with
 |next=>exact wpAny_execs_nil q
 |ret v=>exact q
 |brk=>exact q
 |cont=>exact q
theorem Inv.quiet {pins:List (Addr×Obj)} {σ:St} {H:Hp} {s:Shared} (I:Inv X pins σ H s):interactive X.env=false:=by simp [interactive,I.ok.kind]
def tDrop (te:TE):TS:=λD σ H=>te σ H λ_ H1=>D.nx σ H1
theorem ps_expr (he:PE X e te) (hs:swapsWith e none pos.line X.env=pure false:=by rfl):PS X (.Expr e pos) (tDrop te):=by
 intro pins s σ H D I h;exact wpAny_Expr_any (thn (he pins s σ H _ I h) λv s1 ⟨x,H1,I1,r1,q1⟩=>⟨σ,H1,I1,q1⟩) I.quiet hs
def tRet (te:TE):TS:=λD σ H=>te σ H D.rt
theorem ps_ret (he:PE X e te):PS X (.Return (some e) pos) (tRet te):=by
 intro pins s σ H D I h;exact wpAny_Return_some (thn (he pins s σ H _ I h) λv s1 ⟨x,H1,I1,r1,q1⟩=>⟨x,σ,H1,I1,r1,q1⟩)
def tIfS (c:TT) (t u:TS):TS:=λD σ H=>c σ H λb H1=>if b=true then t D σ H1 else u D σ H1
theorem ps_if {c:Expr} {a b:List Stmt} {tc:TT} (hc:PT X c tc) (ha:PSs X a t) (hb:PSs X b u):PS X (.If c a b pos) (tIfS tc t u):=by
 intro pins s σ H D I h;refine wpAny_If (thn (hc pins s σ H _ I h) λd s1 hh=>?_);obtain ⟨H1,I1,q1⟩:=hh
 cases d with
 |true=>exact ha pins s1 σ H1 D I1 q1
 |false=>exact hb pins s1 σ H1 D I1 q1
def tNever:TS:=λ_ _ _=>False
theorem tG:PS X st tNever:=λ_ _ _ _ _ _ h=>h.elim
end
abbrev TG:=V->St->Hp->(St->Hp->Prop)->Prop
abbrev TGs:=List V->St->Hp->(St->Hp->Prop)->Prop
def PG (X:Cx) (target:Expr) (t:TG):Prop:=
 ∀(pins:List (Addr×Obj)) (s:Shared) (σ:St) (H:Hp) (v:V) (u:Value) (Q:St->Hp->Prop),Inv X pins σ H s->Ze v u->t v σ H Q->
  wpAny (model X.prog X.w) X.A (assign target X.env u) (λ_ s'=>∃σ' H',Inv X pins σ' H' s'/\Q σ' H') X.xe s
def PGs (X:Cx) (ts:List Expr) (t:TGs):Prop:=
 ∀(pins:List (Addr×Obj)) (s:Shared) (σ:St) (H:Hp) (vs:List V) (us:List Value) (Q:St->Hp->Prop),Inv X pins σ H s->xn vs us->t vs σ H Q->
  wpAny (model X.prog X.w) X.A (assignInOrder ((assignEach ts X.env).map (·.2)) us) (λ_ s'=>∃σ' H',Inv X pins σ' H' s'/\Q σ' H') X.xe s
abbrev TSet:=V->V->V->Hp->(Hp->Prop)->Prop
def PSet (X:Cx) (t:TSet):Prop:=
 ∀(pins:List (Addr×Obj)) (s:Shared) (σ:St) (H:Hp) (o i v:V) (ov iv u:Value) (Q:Hp->Prop),Inv X pins σ H s->Ze o ov->Ze i iv->Ze v u->t o i v H Q->
  wpAny (model X.prog X.w) X.A (setItem ov iv u) (λ_ s'=>∃H',Inv X pins σ H' s'/\Q H') X.xe s
abbrev TIp:=V->V->Hp->VK->Prop
def PIp (X:Cx) (op:Operator) (t:TIp):Prop:=
 ∀(pins:List (Addr×Obj)) (s:Shared) (σ:St) (H:Hp) (x y:V) (v u:Value) (Q:VK),Inv X pins σ H s->Ze x v->Ze y u->t x y H Q->
  wpAny (model X.prog X.w) X.A (inplaceOp op v u) (EP X pins σ Q) X.xe s
section
variable {X:Cx} {pos:Pos}
def lB (i:Nat):TG:=λv σ H Q=>Q (σ.set i (some v)) H
theorem qJ {i:Nat} {x:Str} (hN:X.N.Nodup) (hi:X.N[i]? =some x) (hx:Loc X.env.scope x) (hf:X.fn x=true\/X.env.scope.names.lookup x=some .local:=by walk_at "f"):PG X (.Name x pos) (lB i):=by
 intro pins s σ H v u Q I r h;exact wpAny_assign_Name (VW I hN hi hx r (λs' I'=>⟨_,H,I',h⟩) hf)
def gNil:TGs:=λvs σ H Q=>vs=[]/\Q σ H
def gCons (t:TG) (u:TGs):TGs:=λvs σ H Q=>∃v r,vs=v::r/\t v σ H λσ' H'=>u r σ' H' Q
theorem pgs_nil:PGs X [] gNil:=by
 intro pins s σ H vs us Q I r h;obtain ⟨e,h⟩:=h;subst e;cases r;exact assignInOrder_nil ⟨σ,H,I,h⟩
theorem pgs_cons {e:Expr} {es:List Expr} {t:TG} {u:TGs} (h1:PG X e t) (h2:PGs X es u)
 (hs:(assignEach (e::es) X.env).map (·.2)=assign e X.env::(assignEach es X.env).map (·.2):=by rfl):PGs X (e::es) (gCons t u):=by
 intro pins s σ H vs us Q I r h;obtain ⟨v,vr,e1,h⟩:=h;subst e1
 cases r with
 |cons r rr=>
  rw [hs];refine assignInOrder_cons (thn (h1 pins s σ H _ _ _ I r h) λ_ s1 hh=>?_);obtain ⟨σ1,H1,I1,q1⟩:=hh;exact h2 pins s1 σ1 H1 _ _ Q I1 rr q1
def gTup (K:PySem.W.Frag) (n:Nat) (t:TGs):TG:=λv σ H Q=>∃a xs,v= .ref a/\SqT K H a xs/\xs.length=n/\t xs σ H Q
theorem pg_tup {es:List Expr} {k:Nat} {t:TGs} {n:Nat} (hc:X.calm=true) (h:PGs X es t)
 (hn:(assignEach es X.env).length=n:=by rfl) (Mh:(assignEach es X.env).findIdx? (·.1)=none:=by rfl):PG X (.Tuple es k pos) (gTup X.K n t):=by
 intro pins s σ H v u Q I r hw;obtain ⟨a,xs,e1,hq,hl,hw⟩:=hw;subst e1;cases r;obtain ⟨its,rv,ht,hz⟩:=I.tuple hq;refine assign_Tuple_tuple (I.ok.hd hc) ht (by simp [hn,<-hl,rv.length]) Mh λh' hx=>?_;have I1:Inv X pins σ H {s with heap:=h'}:=I.kept (t':=s.toks) λb o e=>hx b o (QM (Qt e)) e;exact h pins _ σ H xs _ Q I1 (by simpa using rv) hw
def gSub (to ti:TE) (t:TSet):TG:=λv σ H Q=>to σ H λo H1=>ti σ H1 λi H2=>t o i v H2 λH3=>Q σ H3
theorem pg_sub {o i:Expr} {to ti:TE} {t:TSet} (ho:PE X o to) (hi:PE X i ti) (hs:PSet X t)
 (ha:∀v,assign (.Subscript o i pos) X.env v=(do
  let ov<-holding [v] (eval o X.env)
  let iv<-holding [v,ov] (eval i X.env)
  standAt pos
  holding [v,ov,iv] (setItem ov iv v)
  release [v,ov,iv] []):=by intro _;rfl):PG X (.Subscript o i pos) (gSub to ti t):=by
 intro pins s σ H v u Q I r h;rw [ha];refine Qg (jaQ (thn (ho pins s σ H _ I h) λov s1 hh=>?_));obtain ⟨x,H1,I1,r1,q1⟩:=hh;refine Qg (jaQ (thn (hi pins s1 σ H1 _ I1 q1) λiv s2 hh=>?_));obtain ⟨y,H2,I2,r2,q2⟩:=hh;refine Qg (wpAny_standAt (Qg (jaQ (thn (hs pins s2 σ H2 x y v ov iv u _ I2 r1 r2 r q2) λ_ s3 hh=>?_))));obtain ⟨H3,I3,q3⟩:=hh;exact wpAny_release ⟨σ,H3,I3,q3⟩
def Ky (te:TE) (g:TG):TS:=λD σ H=>te σ H λx H1=>g x σ H1 D.nx
theorem ps_asg {tg e:Expr} {te:TE} {g:TG} (he:PE X e te) (hg:PG X tg g) (hs:swapsWithSole [tg] e pos.line X.env=pure false:=by rfl) (hw:swappedStores [tg] e X.env=pure none:=by rfl)
 (h1:(assignEach [tg] X.env).map (·.2)=[assign tg X.env]:=by rfl):PS X (.Assign [tg] e pos) (Ky te g):=by
 intro pins s σ H D I h;refine wpAny_Assign_stores (thn (he pins s σ H _ I h) λv s1 ⟨x,H1,I1,r1,q1⟩=>?_) hs hw;rw [h1];exact thn (hg pins s1 σ H1 x v _ I1 r1 q1) λ_ s2 q=>q
theorem ps_set {i:Nat} {x:Str} {e:Expr} {te:TE} {pos':Pos} (hN:X.N.Nodup) (hi:X.N[i]? =some x) (hx:Loc X.env.scope x) (he:PE X e te) (hs:swapsWith e (some (.Name x pos')) pos.line X.env=pure false:=by rfl) (hf:X.fn x=true\/X.env.scope.names.lookup x=some .local:=by walk_at "f"):
 PS X (.Assign [.Name x pos'] e pos) (Ky te (lB i)):=by
 intro pins s σ H D I h;refine wpAny_Assign_Name (thn (he pins s σ H _ I h) λv s1 ⟨y,H1,I1,r1,q1⟩=>?_) hs;exact VW I1 hN hi hx r1 (λs2 I2=>⟨_,H1,I2,q1⟩) hf
def tPar (i j:Nat) (ta:TA):TS:=λD σ H=>ta σ H λvs H1=>∃v w,vs=[v,w]/\D.nx ((σ.set i (some v)).set j (some w)) H1
theorem ps_par {i j:Nat} {x y:Str} {a b:Expr} {ta:TA} {px py pt:Pos} {kt k2 Sv} (hc:X.calm=true) (hN:X.N.Nodup) (hi:X.N[i]? =some x) (hj:X.N[j]? =some y) (PF:i≠j)
 (hx:X.env.scope.names.lookup x=some .local) (hy:X.env.scope.names.lookup y=some .local) (ha:PA X [a,b] ta)
 (hw:swappedStores [.Tuple [.Name x px, .Name y py] kt pt] (.Tuple [a,b] k2 Sv) X.env=pure (some [x,y]))
 (hs:swapsWithSole [.Tuple [.Name x px, .Name y py] kt pt] (.Tuple [a,b] k2 Sv) pos.line X.env=pure false:=by rfl):
 PS X (.Assign [.Tuple [.Name x px, .Name y py] kt pt] (.Tuple [a,b] k2 Sv) pos) (tPar i j ta):=by
 intro pins s σ H D I h;rw [exec_Assign_arm];refine Qg (wpAny_standAt ?_);rw [hs];refine Qg (Qm ?_);rw [QP (by decide)];refine Qg (Tuple_ (thn (ha _ pins s σ H _ I h) λus s1 hh=>?_));obtain ⟨vs,H1,I1,r1,q1⟩:=hh;obtain ⟨v,w,e1,q1⟩:=q1;subst e1
 obtain ⟨u1,u2,rfl,rv,Nj⟩:∃u1 u2,us=[u1,u2]/\Ze v u1/\Ze w u2:=by
  cases r1 with
  |cons p q=>
   cases q with
   |cons p' q'=>
    cases q';exact ⟨_,_,rfl,p,p'⟩
 refine Ta ?_ (by show 2<=sizeLine;decide);have I2:Inv X pins σ H1 {s1 with heap:=s1.heap.push {cls:= .type "tuple",data:= .seq [u1,u2].toArray}}:=I1.kept (t':=s1.toks) λb o e=>Qh _ e;rw [hw];refine Qg (Qm ?_);show wpAny (model X.prog X.w) X.A (do rule "assign.swapped-stores";let items<-unpackItems (.ref s1.heap.objs.size) 2 none;assignInOrder [λv=>bindName X.env y v,λv=>bindName X.env x v] items.reverse;pure Flow.next) _ _ _;refine Qg (jbQ (Qg (unpackItems_tuple (items:=#[u1,u2]) (I.ok.hd hc) (IsTup.new s1.heap _) λh' Mj=>?_)));have I3:=I2.kept (h':=h') (t':=s1.toks) λb o e=>Mj b o (QM (Qt e)) e;show wpAny _ _ (assignInOrder [λv=>bindName X.env y v,λv=>bindName X.env x v] [u2,u1]>>=λ_=>pure Flow.next) _ _ _;refine Qg (assignInOrder_cons (wpAny_bindName (VW I3 hN hj (.inl hy) Nj (λs2 I4=>?_) (.inr hy))));refine assignInOrder_cons (wpAny_bindName (VW I4 hN hi (.inl hx) rv (λs3 I5=>assignInOrder_nil (Qm ?_)) (.inr hx)));rw [List.set_comm _ _ (Ne.symm PF)] at I5;exact ⟨_,H1,I5,q1⟩
def tAug (i:Nat) (te:TE) (ti:TIp):TS:=λD σ H=>∃x,σ[i]? =some (some x)/\te σ H λy H1=>ti x y H1 λz H2=>D.nx (σ.set i (some z)) H2
theorem ps_aug {i:Nat} {x:Str} {e:Expr} {te:TE} {op:Operator} {ti:TIp} {pos':Pos} (hN:X.N.Nodup) (hi:X.N[i]? =some x) (hx:Loc X.env.scope x) (he:PE X e te) (ho:PIp X op ti) (hf:X.fn x=true\/X.env.scope.names.lookup x=some .local:=by walk_at "f"):
 PS X (.AugAssign (.Name x pos') op e pos) (tAug i te ti):=by
 intro pins s σ H D I h;obtain ⟨v,e1,h⟩:=h;obtain ⟨m,hn,hl⟩:=I.loc
 have vis:Vis X.env.scope x:=by rcases hx with k|k;exact .inl k;exact .inr (.inl k)
 obtain ⟨u,r,l⟩:=hl i x v hi e1 vis;refine wpAny_AugAssign_Name ?_
 have go:wpAny (model X.prog X.w) X.A (eval e X.env) (λw s₂=>wpAny (model X.prog X.w) X.A (inplaceOp op u w) (λr s₃=>wpAny (model X.prog X.w) X.A (storeName X.env x r) (λ_=>SP X pins D .next) X.xe s₃) X.xe s₂) X.xe s:=by
  refine thn (he pins s σ H _ I h) λw s1 hh=>?_;obtain ⟨y,H1,I1,r1,q1⟩:=hh;refine thn (ho pins s1 σ H1 v y u w _ I1 r r1 q1) λz s2 hh=>?_;obtain ⟨zv,H2,I2,r2,q2⟩:=hh;exact VW I2 hN hi hx r2 (λs3 I3=>⟨_,H2,I3,q2⟩) hf
 rcases l with ⟨hk,hm⟩|⟨hk,c,hc,MY⟩
 ·exact wpAny_loadName_local I.ok.kind hk hn hm go
 ·rcases hk with hk|hk
  ·exact wpAny_loadName_cell I.ok.kind hk hc MY go
  ·rcases hx with k|k
   ·have:X.env.scope.names.lookup x=some .free:=hk;rw [k] at this;cases this
   ·have:X.env.scope.names.lookup x=some .free:=hk;rw [k] at this;cases this
def ipI (f:Int->Int->Int):TIp:=λx y H Q=>∃i j,x= .int i/\y= .int j/\Q (.int (f i j)) H
theorem ip_add:PIp X .Add (ipI λi j=>i+j):=by
 intro pins s σ H x y v u Q I r1 r2 h;obtain ⟨i,j,e1,e2,q⟩:=h;subst e1;subst e2;obtain ⟨t,rfl⟩:=r1;obtain ⟨t',rfl⟩:=r2;exact iadd_int ⟨.int _,H,I.tok _,⟨_,rfl⟩,q⟩
end
section
variable {X:Cx} {pos:Pos}
def Ao (c:TT) (tb:TS):TS:=λD σ H=>∃W:Nat->St->Hp->Prop,(∃m,W m σ H)/\∀m σ H,W m σ H->
 c σ H λb H1=>if b=true then ∃N:St->Hp->Prop,(∀σ' H',N σ' H'->∃m',m'<m/\W m' σ' H')/\tb {D with nx:=N,ct:=N,bk:=D.nx} σ H1 else D.nx σ H1
theorem ps_while {c:Expr} {body:List Stmt} {tc:TT} {tb:TS} (hp:PassesOwn (model X.prog X.w) X.A X.env X.xe) (hc:PT X c tc) (hb:PSs X body tb):PS X (.While c body [] pos) (Ao tc tb):=by
 intro pins s σ H D I h;obtain ⟨W,⟨m0,w0⟩,turn⟩:=h;refine wpAny_While (codeAny_whileLoop (λn s'=>∃σ' H',Inv X pins σ' H' s'/\W n σ' H') ?_ m0 ⟨σ,H,I,w0⟩)
 rintro n s1 ⟨σ1,H1,I1,w1⟩
 refine jaX hp (thn (hc pins s1 σ1 H1 _ I1 (turn n σ1 H1 w1)) λb s2 hh=>?_);obtain ⟨H2,I2,q2⟩:=hh
 cases b with
 |true=>
  obtain ⟨N,hN,q2⟩:=q2;rw [QH rfl];refine jaX hp (thn (hb pins s2 σ1 H2 _ I2 q2) λf s3 q3=>?_)
  cases f with
  |next=>
   obtain ⟨σ3,H3,I3,n3⟩:=q3;obtain ⟨m',hm,w3⟩:=hN σ3 H3 n3;exact ⟨m',hm,σ3,H3,I3,w3⟩
  |cont=>
   obtain ⟨σ3,H3,I3,n3⟩:=q3;obtain ⟨m',hm,w3⟩:=hN σ3 H3 n3;exact ⟨m',hm,σ3,H3,I3,w3⟩
  |brk=>exact q3
  |ret v=>exact q3
 |false=>
  rw [QP Qx];exact wpAny_execs_nil ⟨σ1,H2,I2,q2⟩
end
structure It where
 go:Nat->Hp->Prop
 yld:Nat->Hp->V->Hp->Prop
 stop:Nat->Hp->Prop
def sG (X:Cx) (pins:List (Addr×Obj)) (H:Hp) (b:Addr):Prop:=
 H b=none/\b≠X.env.locals/\b∉X.fs/\(b∈X.ex\/X.s₀.heap.objs.size<=b)/\(∀x c,X.env.cells.lookup x=some c->c≠b)/\∀p∈X.pn++pins,p.1≠b
theorem Inv.fpOk {X:Cx} {pins:List (Addr×Obj)} {σ:St} {H H':Hp} {s:Shared} {b:Addr} (I:Inv X pins σ H s) (hb:s.heap.objs.size<=b) (hn:H' b=none):sG X pins H' b:=by
 refine ⟨hn,jaR (QV I.lt hb),I.nofs hb, .inr (QI I.sz hb),λx c e z=>?_,λp hp z=>?_⟩
 ·obtain ⟨v,q⟩:=I.cell x c e;exact absurd (QV q.lt (by rw [z];exact hb)) (jaw _)
 ·exact absurd (QV (Qt (I.pin p hp).1) (by rw [z];exact hb)) (jaw _)
structure Turn (P:Program) (w:World) (K:PySem.W.Frag) (tg:Expr) (J:It) (fp:List Addr) (it:Addr) (tn:Nat->Heap->Prop):Prop where
 mem:it∈fp
 obj:∀i h,tn i h->∀b∈fp,∃o,h.get? b=some o/\∀v,o.data≠ .cell v
 keep:∀i h h',tn i h->(∀b∈fp,∀o,h.get? b=some o->h'.get? b=some o)->tn i h'
 item:∀(X:Cx),X.prog=P->X.w=w->X.K=K->X.calm=true->∀(i:Nat) (pins:List (Addr×Obj)) (s:Shared) (σ:St) (H:Hp) (E:Value->Shared->Prop),Inv X pins σ H s->(∀b∈fp,sG X pins H b)->tn i s.heap->J.go i H->
  wpAny (model P w) X.A (pyNext (.ref it)) (λr s1=>∃u,r=some u/\
   wpAny (model P w) X.A (letOwnedTupleGo tg (.ref it) u) (λ_ s2=>∃x H',Inv X pins σ H' s2/\Ze x u/\J.yld i H x H'/\tn (i+1) s2.heap/\∀b∈fp,H' b=none) E s1) E s
 done:∀(X:Cx),X.prog=P->X.w=w->X.K=K->X.calm=true->∀(i:Nat) (pins:List (Addr×Obj)) (s:Shared) (σ:St) (H:Hp) (E:Value->Shared->Prop),Inv X pins σ H s->(∀b∈fp,sG X pins H b)->tn i s.heap->J.stop i H->
  wpAny (model P w) X.A (pyNext (.ref it)) (λr s1=>r=none/\Inv X pins σ H s1) E s
 self:∀(A:Around) (i:Nat) (s:Shared) (Q:Value->Shared->Prop) (E:Value->Shared->Prop),tn i s.heap->Q (.ref it) s->wpAny (model P w) A (pyIter (.ref it)) Q E s
abbrev TI:=St->Hp->(It->Hp->Prop)->Prop
def PIE (X:Cx) (pins:List (Addr×Obj)) (σ:St) (tg:Expr) (R:It->Hp->Prop) (itv:Value) (s2:Shared):Prop:=
 ∃(it:Addr) (fp:List Addr) (tn:Nat->Heap->Prop) (J:It) (H':Hp),itv= .ref it/\Inv X pins σ H' s2/\Turn X.prog X.w X.K tg J fp it tn/\tn 0 s2.heap/\(∀b∈fp,sG X pins H' b)/\R J H'
def PI (X:Cx) (tg iter:Expr) (wi:TI):Prop:=
 ∀(pins:List (Addr×Obj)) (s:Shared) (σ:St) (H:Hp) (R:It->Hp->Prop),Inv X pins σ H s->wi σ H R->
  wpAny (model X.prog X.w) X.A (eval iter X.env) (λv s1=>wpAny (model X.prog X.w) X.A (pyIter v) (PIE X pins σ tg R) X.xe s1) X.xe s
theorem Dg {M:Model} {A:Around} {E:Value->Shared->Prop} {s:Shared} {tg:Expr} {it:Addr} {u:Value} {o:Obj} {n:String} {vs:Array Value} {Q:Unit->Shared->Prop} (ho:s.heap.get? it=some o) (hc:o.cls= .type n) (hd:o.data= .fields vs)
 (hn:["enumerate","zip","dict_itemiterator","dict_reverseitemiterator","odict_iterator","itertools.zip_longest","itertools.pairwise"].contains n=false) (hQ:Q () s):wpAny M A (letOwnedTupleGo tg (.ref it) u) Q E s:=by
 unfold letOwnedTupleGo
 cases tg<;>first
  |exact Qm hQ
  |(cases u<;>first
   |exact Qm hQ
   |(refine Qg (wpAny_load ho ?_)
     rw [hc,hd];show wpAny M A (if (["enumerate","zip","dict_itemiterator","dict_reverseitemiterator","odict_iterator","itertools.zip_longest","itertools.pairwise"].contains n && vs[0]? ==some (rawInt _))=true then _ else _) Q E s;rw [QP (by intro h;rw [hn,Bool.false_and] at h;cases h)]
     exact Qm hQ))
def Itl (K:PySem.W.Frag) (a:Addr):It:=
 ⟨λi H=>∃xs x,SqL K H a xs/\xs[i]? =some x,λi H x H'=>H'=H/\∀xs,SqL K H a xs->xs[i]? =some x,λi H=>∃xs,SqL K H a xs/\xs.length<=i⟩
def Itt (K:PySem.W.Frag) (a:Addr):It:=
 ⟨λi H=>∃xs x,SqT K H a xs/\xs[i]? =some x,λi H x H'=>H'=H/\∀xs,SqT K H a xs->xs[i]? =some x,λi H=>∃xs,SqT K H a xs/\xs.length<=i⟩
def Itr (lo:Int) (n:Nat):It:=⟨λi _=>i<n,λi H x H'=>H'=H/\x= .int (lo+i),λi _=>n<=i⟩
theorem Am {P:Program} {w:World} {K:PySem.W.Frag} {tg:Expr} (a it:Addr):Turn P w K tg (Itl K a) [it] it (λi h=>h.IsListIter it a i) where
 mem:=by simp
 obj:=λi h st b hb=>by
  have e:b=it:=by simpa using hb
  subst e;obtain ⟨o,e,c,d⟩:=st;exact ⟨o,e,λv z=>by rw [d] at z;cases z⟩
 keep:=λi h h' st k=>st.at λo e=>k it (by simp) o e
 item:=by
  intro X hP hw hK hc i pins s σ H E I hf st hg;subst hP hw hK;obtain ⟨xs,x,hq,hx⟩:=hg;obtain ⟨its,rv,p,hz⟩:=I.list hq;obtain ⟨u,hu,ru⟩:=rv.get hx;obtain ⟨f0,f1,f2,f3,f4,f5⟩:=hf it (by simp);refine wpAny_pyNext_list_item st p.isList (x:=u) (by simpa using hu) λh' Ml sb=>?_;have I1:Inv X pins σ H {s with heap:=h'}:=I.turned (t':=s.toks) (λb o hb e=>(sb.2 b hb).trans e) f0 f1 f3 f4 f5;obtain ⟨o,e,c,d⟩:=id Ml;exact ⟨u,rfl,Dg (s:={s with heap:=h'}) e c d (by decide) ⟨x,H,I1,ru,⟨rfl,λys hy=>by rw [I.list_inj hy hq];exact hx⟩,Ml,λb hb=>(hf b hb).1⟩⟩
 done:=by
  intro X hP hw hK hc i pins s σ H E I hf st hg;subst hP hw hK;obtain ⟨xs,hq,hx⟩:=hg;obtain ⟨its,rv,p,hz⟩:=I.list hq;obtain ⟨f0,f1,f2,f3,f4,f5⟩:=hf it (by simp);have hl:=rv.length;exact wpAny_pyNext_list_end (I.ok.hd hc) st p.isList (by simp;omega) λh' eb=>⟨rfl,I.turned (t':=s.toks) (λb o hb e=>eb b o hb e) f0 f1 f3 f4 f5⟩
 self:=λ_ _ _ _ _ st h=>wpAny_pyIter_listiter st h
theorem uU {P:Program} {w:World} {K:PySem.W.Frag} {tg:Expr} (a it:Addr):Turn P w K tg (Itt K a) [it] it (λi h=>h.IsTupleIter it a i) where
 mem:=by simp
 obj:=λi h st b hb=>by
  have e:b=it:=by simpa using hb
  subst e;obtain ⟨o,e,c,d⟩:=st;exact ⟨o,e,λv z=>by rw [d] at z;cases z⟩
 keep:=λi h h' st k=>st.at λo e=>k it (by simp) o e
 item:=by
  intro X hP hw hK hc i pins s σ H E I hf st hg;subst hP hw hK;obtain ⟨xs,x,hq,hx⟩:=hg;obtain ⟨its,rv,p,hz⟩:=I.tuple hq;obtain ⟨u,hu,ru⟩:=rv.get hx;obtain ⟨f0,f1,f2,f3,f4,f5⟩:=hf it (by simp);refine wpAny_pyNext_tuple_item st (show s.heap.IsTuple a its.toArray from p) (x:=u) (by simpa using hu) λh' Ml sb=>?_;have I1:Inv X pins σ H {s with heap:=h'}:=I.turned (t':=s.toks) (λb o hb e=>(sb.2 b hb).trans e) f0 f1 f3 f4 f5;obtain ⟨o,e,c,d⟩:=id Ml;exact ⟨u,rfl,Dg (s:={s with heap:=h'}) e c d (by decide) ⟨x,H,I1,ru,⟨rfl,λys hy=>by rw [I.tuple_inj hy hq];exact hx⟩,Ml,λb hb=>(hf b hb).1⟩⟩
 done:=by
  intro X hP hw hK hc i pins s σ H E I hf st hg;subst hP hw hK;obtain ⟨xs,hq,hx⟩:=hg;obtain ⟨its,rv,p,hz⟩:=I.tuple hq;obtain ⟨f0,f1,f2,f3,f4,f5⟩:=hf it (by simp);have hl:=rv.length;exact wpAny_pyNext_tuple_end (I.ok.hd hc) st (show s.heap.IsTuple a its.toArray from p) (by simp;omega) λh' eb=>⟨rfl,I.turned (t':=s.toks) (λb o hb e=>eb b o hb e) f0 f1 f3 f4 f5⟩
 self:=λ_ _ _ _ _ st h=>wpAny_pyIter_tupleiter st h
theorem uV {P:Program} {w:World} {K:PySem.W.Frag} {tg:Expr} (it:Addr) (lo:Int) (n:Nat):Turn P w K tg (Itr lo n) [it] it (λi h=>IsRangeIter h it (lo+(i:Nat)*1) ((n:Int) - (i:Nat)) 1) where
 mem:=by simp
 obj:=λi h st b hb=>by
  have e:b=it:=by simpa using hb
  subst e
  exact ⟨_,st,λv z=>by
   have z':Data.fields _=Data.cell v:=z
   cases z'⟩
 keep:=λi h h' st k=>k it (by simp) _ st
 item:=by
  intro X hP hw hK hc i pins s σ H E I hf st hg;subst hP hw hK;obtain ⟨f0,f1,f2,f3,f4,f5⟩:=hf it (by simp);have W:=Walks.range (prog:=X.prog) (w:=X.w) (I.ok.hd hc) it lo 1 n;refine W.item i s _ _ hg st λv h' tk hv Ml kk=>?_;obtain ⟨t,rfl⟩:=hv;have I1:Inv X pins σ H {s with heap:=h',toks:=tk}:=I.turned (λb o hb e=>kk b o (by simpa using hb) e) f0 f1 f3 f4 f5;refine ⟨_,rfl,Dg (s:={s with heap:=h',toks:=tk}) (n:="range_iterator") Ml rfl rfl (by decide) ⟨.int (lo+i),H,I1,⟨t,?_⟩,⟨rfl,rfl⟩,Ml,λb hb=>(hf b hb).1⟩⟩;rw [Int.mul_one]
 done:=by
  intro X hP hw hK hc i pins s σ H E I hf st hg;subst hP hw hK;obtain ⟨f0,f1,f2,f3,f4,f5⟩:=hf it (by simp);exact wpAny_pyNext_range_end (I.ok.hd hc) st (by have:n<=i:=hg;omega) λh' eb=>⟨rfl,I.turned (t':=s.toks) (λb o hb e=>eb b o hb e) f0 f1 f3 f4 f5⟩
 self:=λ_ _ _ _ _ st h=>wpAny_pyIter_rangeiter st h
end L2
namespace L2
open PySem PySem.Spec PyProof.Rows
section
variable {X:Cx} {tg:Expr}
def iList (K:PySem.W.Frag) (tl:TE):TI:=λσ H R=>tl σ H λx H1=>∃a,x= .ref a/\(∃xs,SqL K H1 a xs)/\R (Itl K a) H1
def iTup (K:PySem.W.Frag) (tl:TE):TI:=λσ H R=>tl σ H λx H1=>∃a,x= .ref a/\(∃xs,SqT K H1 a xs)/\R (Itt K a) H1
theorem kH {l:Expr} {tl:TE} (hl:PE X l tl):PI X tg l (iList X.K tl):=by
 intro pins s σ H R I h;refine thn (hl pins s σ H _ I h) λv s1 hh=>?_;obtain ⟨x,H1,I1,r1,q1⟩:=hh;obtain ⟨a,e,⟨xs,hq⟩,q⟩:=q1;subst e;cases r1;obtain ⟨its,rv,p,hz⟩:=I1.list hq;refine jaM p.isList ?_;refine ⟨s1.heap.objs.size,[s1.heap.objs.size],_,_,H1,rfl,I1.kept (t':=s1.toks) λb o e=>Qh _ e,Am a _,⟨_,Qu _ rfl,rfl,rfl⟩,λb hb=>?_,q⟩;have e:b=s1.heap.objs.size:=by simpa using hb
 subst e;exact I1.fpOk (Qp _) (I1.hok.fresh (Qp _))
theorem pi_tup {l:Expr} {tl:TE} (hl:PE X l tl):PI X tg l (iTup X.K tl):=by
 intro pins s σ H R I h;refine thn (hl pins s σ H _ I h) λv s1 hh=>?_;obtain ⟨x,H1,I1,r1,q1⟩:=hh;obtain ⟨a,e,⟨xs,hq⟩,q⟩:=q1;subst e;cases r1;obtain ⟨its,rv,p,hz⟩:=I1.tuple hq;refine jan (show s1.heap.IsTuple a its.toArray from p) ?_;refine ⟨s1.heap.objs.size,[s1.heap.objs.size],_,_,H1,rfl,I1.kept (t':=s1.toks) λb o e=>Qh _ e,uU a _,⟨_,Qu _ rfl,rfl,rfl⟩,λb hb=>?_,q⟩;have e:b=s1.heap.objs.size:=by simpa using hb
 subst e;exact I1.fpOk (Qp _) (I1.hok.fresh (Qp _))
theorem tx {pins:List (Addr×Obj)} {σ:St} {H:Hp} {s:Shared} {R:It->Hp->Prop} {E:Value->Shared->Prop} {lo hi:Int} {t u v:Tok} {tk:Nat} (I:Inv X pins σ H s) (h1: -(2 ^ 62)<=lo) (h2:lo<2 ^ 62) (h3: -(2 ^ 62)<=hi) (h4:hi<2 ^ 62)
 (q:R (Itr lo (hi - lo).toNat) H):wpAny (model X.prog X.w) X.A (pyIter (.ref s.heap.objs.size)) (PIE X pins σ tg R) E {s with heap:=s.heap.push {cls:= .type "range",data:= .fields #[.int lo t, .int hi u, .int 1 v]},toks:=tk}:=by
 refine wpAny_pyIter_range (IsRange.new ..) (small_one h1 h2 h3 h4) ?_;have I1:Inv X pins σ H {s with heap:=s.heap.push {cls:= .type "range",data:= .fields #[.int lo t, .int hi u, .int 1 v]},toks:=tk}:=I.kept λb o e=>Qh _ e
 refine ⟨(s.heap.push {cls:= .type "range",data:= .fields #[.int lo t, .int hi u, .int 1 v]}).objs.size,[(s.heap.push {cls:= .type "range",data:= .fields #[.int lo t, .int hi u, .int 1 v]}).objs.size],_,_,H,rfl,
  I1.kept (t':=tk) λb o e=>Qh _ e,uV _ lo (hi - lo).toNat,?_,λb hb=>?_,q⟩
 ·have e1:lo+((0:Nat):Int)*1=lo:=by simp
  have e2:(((hi - lo).toNat:Nat):Int) - ((0:Nat):Int)=Builtin.Range.rangeSize lo hi 1:=by rw [rangeSize_one];split<;>omega
  show IsRangeIter _ _ (lo+((0:Nat):Int)*1) ((((hi - lo).toNat:Nat):Int) - ((0:Nat):Int)) 1;rw [e1,e2];exact Qu _ rfl
 ·have e:b=(s.heap.push {cls:= .type "range",data:= .fields #[.int lo t, .int hi u, .int 1 v]}).objs.size:=by simpa using hb
  subst e;exact I1.fpOk (Qp _) (I1.hok.fresh (Qp _))
def iRng1 (ta:TA):TI:=λσ H R=>ta σ H λvs H1=>∃j:Int,vs=[.int j]/\ -(2 ^ 62)<=j/\j<2 ^ 62/\R (Itr 0 j.toNat) H1
def iRng2 (ta:TA):TI:=λσ H R=>ta σ H λvs H1=>∃i j:Int,vs=[.int i, .int j]/\(-(2 ^ 62)<=i/\i<2 ^ 62/\ -(2 ^ 62)<=j/\j<2 ^ 62)/\R (Itr i (j - i).toNat) H1
theorem pi_range1 {a:Expr} {ta:TA} {p pos:Pos} (hg:Gl X "range") (hm:X.mg "range"=none) (ha:PA X [a] ta) (hs:starEach [a] X.env=[(false,eval a X.env)]:=by rfl):PI X tg (.Call (.Name "range" p) [a] [] pos) (iRng1 ta):=by
 intro pins s σ H R I h;refine Call_ (Vm I hg hm boot_range (TF (thn (ha pos pins s σ H _ I h) λus s1 ⟨vs,H1,I1,r1,q1⟩=>?_) hs rfl));obtain ⟨j,e,q1,q2,q⟩:=q1;subst e
 cases r1 with
 |cons r rr=>
  cases rr;obtain ⟨t,rfl⟩:=r;exact call_range_1 (tx I1 (by omega) (by omega) q1 q2 (by simpa using q))
theorem pi_range2 {a b:Expr} {ta:TA} {p pos:Pos} (hg:Gl X "range") (hm:X.mg "range"=none) (ha:PA X [a,b] ta) (hs:starEach [a,b] X.env=[(false,eval a X.env),(false,eval b X.env)]:=by rfl) (Nl:starEach [b] X.env=[(false,eval b X.env)]:=by rfl):
 PI X tg (.Call (.Name "range" p) [a,b] [] pos) (iRng2 ta):=by
 intro pins s σ H R I h;refine Call_ (Vm I hg hm boot_range (TF (thn (ha pos pins s σ H _ I h) λus s1 ⟨vs,H1,I1,r1,q1⟩=>?_) (by rw [hs,Nl]) (by rw [Nl];rfl)));obtain ⟨i,j,e,⟨q1,q2,q3,q4⟩,q⟩:=q1;subst e
 cases r1 with
 |cons r rr=>
  cases rr with
  |cons r' rr=>
   cases rr;obtain ⟨t,rfl⟩:=r;obtain ⟨t',rfl⟩:=r';exact call_range_2 (tx I1 q1 q2 q3 q4 q)
def tFor (wi:TI) (g:TG) (tb:TS):TS:=λD σ H=>wi σ H λJ H1=>∃W:Nat->Nat->St->Hp->Prop,(∃m,W 0 m σ H1)/\∀i m σ H,W i m σ H->
 (J.stop i H/\D.nx σ H)\/(J.go i H/\∃N:St->Hp->Prop,(∀σ' H',N σ' H'->∃m',m'<m/\W (i+1) m' σ' H')/\∀x H',J.yld i H x H'->g x σ H' λσ2 H2=>tb {D with nx:=N,ct:=N,bk:=D.nx} σ2 H2)
def iQ (fp:List Addr) (h:Heap):List (Addr×Obj):=fp.filterMap λb=>(h.get? b).map λo=>(b,o)
theorem ZS {fp:List Addr} {h:Heap} {b:Addr} {o:Obj} (hb:b∈fp) (e:h.get? b=some o):(b,o)∈iQ fp h:=jbF.mpr ⟨b,hb,by rw [e];rfl⟩
theorem Cv {fp:List Addr} {h:Heap} {p:Addr×Obj} (hp:p∈iQ fp h):p.1∈fp/\h.get? p.1=some p.2:=by
 obtain ⟨b,hb,e⟩:=jbF.mp hp
 cases q:h.get? b with
 |none=>rw [q] at e;cases e
 |some o=>
  rw [q] at e;have e':(b,o)=p:=Qz e;subst e';exact ⟨hb,q⟩
theorem Inv.pinned {pins:List (Addr×Obj)} {σ:St} {H:Hp} {s:Shared} {fp:List Addr} (I:Inv X pins σ H s) (hf:∀b∈fp,sG X pins H b) (ho:∀b∈fp,∃o,s.heap.get? b=some o/\∀v,o.data≠ .cell v):Inv X (pins++iQ fp s.heap) σ H s:=
 I.pins_of λp hp=>(QT.mp hp).elim (λz=>I.pin p (QA _ z)) λz=>by
  obtain ⟨hb,e⟩:=Cv z;obtain ⟨f0,f1,f2,_⟩:=hf p.1 hb;obtain ⟨o,e',d⟩:=ho p.1 hb;rw [e] at e';cases e';exact ⟨e,f0,f1,f2,d⟩
theorem Inv.unpinned {pins pl:List (Addr×Obj)} {σ:St} {H:Hp} {s:Shared} (I:Inv X (pins++pl) σ H s):Inv X pins σ H s:=I.pins_of λp hp=>I.pin p (QA _ (TZ _ hp))
theorem ps_for {iter:Expr} {body:List Stmt} {wi:TI} {g:TG} {tb:TS} {pos:Pos} (hp:PassesOwn (model X.prog X.w) X.A X.env X.xe) (hc:X.calm=true) (hi:PI X tg iter wi) (hg:PG X tg g) (hb:PSs X body tb)
 (hs:∀x,foldedSetIterable iter X.env x=pure x:=by intro _;rfl):PS X (.For tg iter body [] pos) (tFor wi g tb):=by
 intro pins s σ H D I h;refine wpAny_For (thn (hi pins s σ H _ I h) λv s1 h1=>thn h1 λitv s2 h2=>?_) hs;obtain ⟨it,fp,tn,J,H2,e,I2,T,Mp,f2,W,⟨m0,w0⟩,turn⟩:=h2;subst e;have stat:∀{H':Hp},(∀b∈fp,H' b=none)->∀b∈fp,sG X pins H' b:=λhn b hb=>⟨hn b hb,(f2 b hb).2⟩;refine codeAny_forLoop_any (λn s'=>∃i σ' H',Inv X pins σ' H' s'/\tn i s'.heap/\(∀b∈fp,H' b=none)/\W i n σ' H') ?_ m0 ⟨0,σ,H2,I2,Mp,λb hb=>(f2 b hb).1,w0⟩
 rintro n s3 ⟨i,σ3,H3,I3,st3,fr3,w3⟩
 rcases turn i n σ3 H3 w3 with ⟨stop,qn⟩|⟨go,N,hN,step⟩
 ·refine jaX hp (thn (T.done X rfl rfl rfl hc i pins s3 σ3 H3 X.xe I3 (stat fr3) st3 stop) λr s4 hh=>?_);obtain ⟨hr,I4⟩:=hh;subst hr;exact wpAny_execs_nil ⟨σ3,H3,I4,qn⟩
 ·refine jaX hp (thn (T.item X rfl rfl rfl hc i pins s3 σ3 H3 X.xe I3 (stat fr3) st3 go) λr s4 hh=>?_);obtain ⟨u,hr,h4⟩:=hh;subst hr;refine jaX hp (thn h4 λ_ s5 hh=>?_);obtain ⟨x,H5,I5,r5,y5,NL,OJ⟩:=hh;have I5':=I5.pinned (stat OJ) (T.obj _ _ NL);refine jaX hp (thn (hg _ s5 σ3 H5 x u _ I5' r5 (step x H5 y5)) λ_ s6 hh=>?_);obtain ⟨σ6,H6,I6,q6⟩:=hh;refine jaX hp (thn (hb _ s6 σ6 H6 _ I6 q6) λf s7 q7=>?_)
  have again:∀{σ7:St} {H7:Hp},Inv X (pins++iQ fp s5.heap) σ7 H7 s7->N σ7 H7->∃m,m<n/\∃i σ' H',Inv X pins σ' H' s7/\tn i s7.heap/\(∀b∈fp,H' b=none)/\W i m σ' H':=λ{σ7 H7} I7 n7=>by
   obtain ⟨m',hm,w7⟩:=hN σ7 H7 n7;refine ⟨m',hm,i+1,σ7,H7,I7.unpinned,T.keep _ _ _ NL λb hb o e=>(I7.pin (b,o) (QA _ (QA _ (ZS hb e)))).1,λb hb=>?_,w7⟩;obtain ⟨o,e,d⟩:=T.obj _ _ NL b hb;exact (I7.pin (b,o) (QA _ (QA _ (ZS hb e)))).2.1
  cases f with
  |next=>obtain ⟨σ7,H7,I7,n7⟩:=q7;exact again I7 n7
  |cont=>obtain ⟨σ7,H7,I7,n7⟩:=q7;exact again I7 n7
  |brk=>obtain ⟨σ7,H7,I7,q7⟩:=q7;exact ⟨σ7,H7,I7.unpinned,q7⟩
  |ret v=>obtain ⟨x7,σ7,H7,I7,r7,q7⟩:=q7;exact ⟨x7,σ7,H7,I7.unpinned,r7,q7⟩
end
end L2
namespace L2
open PySem PySem.Spec PyProof.Rows
abbrev R2:=V->V->Hp->VK->Prop
def OpR (X:Cx) (f:Value->Value->Sem Value) (r:R2):Prop:=
 ∀(pins:List (Addr×Obj)) (s:Shared) (σ:St) (H:Hp) (x y:V) (v u:Value) (Q:VK),Inv X pins σ H s->Ze x v->Ze y u->r x y H Q->
  wpAny (model X.prog X.w) X.A (f v u) (EP X pins σ Q) X.xe s
def UnR (X:Cx) (f:Value->Sem Value) (r:V->Hp->VK->Prop):Prop:=
 ∀(pins:List (Addr×Obj)) (s:Shared) (σ:St) (H:Hp) (x:V) (v:Value) (Q:VK),Inv X pins σ H s->Ze x v->r x H Q->
  wpAny (model X.prog X.w) X.A (f v) (EP X pins σ Q) X.xe s
def Wb (X:Cx) (f:Value) (r:List V->Hp->VK->Prop):Prop:=
 ∀(pins:List (Addr×Obj)) (s:Shared) (σ:St) (H:Hp) (xs:List V) (us:List Value) (Q:VK),Inv X pins σ H s->xn xs us->r xs H Q->
  wpAny (model X.prog X.w) X.A (call f us) (EP X pins σ Q) X.xe s
def tOp (r:R2) (ta tb:TE):TE:=λσ H Q=>ta σ H λx H1=>tb σ H1 λy H2=>r x y H2 Q
def tUn (r:V->Hp->VK->Prop) (ta:TE):TE:=λσ H Q=>ta σ H λx H1=>r x H1 Q
def rI (C:Int->Int->Prop) (g:Int->Int->V):R2:=λx y H Q=>∃i j,x= .int i/\y= .int j/\C i j/\Q (g i j) H
def rI0 (g:Int->Int->V):R2:=λx y H Q=>∃i j,x= .int i/\y= .int j/\Q (g i j) H
def rU (g:Int->V):V->Hp->VK->Prop:=λx H Q=>∃i,x= .int i/\Q (g i) H
section
variable {X:Cx} {a b c:Expr} {ta tb tc:TE} {pos:Pos}
theorem binT (ha:PE X a ta) (hb:PE X b tb) {pins:List (Addr×Obj)} {s:Shared} {σ:St} {H:Hp} {R:V->V->Hp->Prop} (I:Inv X pins σ H s)
 (h:ta σ H λx H1=>tb σ H1 λy H2=>R x y H2) {Q:Value->Shared->Prop} {f:Value->Value->Sem Value}
 (hf:∀v u s2 x y H2,Inv X pins σ H2 s2->Ze x v->Ze y u->R x y H2->wpAny (model X.prog X.w) X.A (f v u) Q X.xe s2):
 wpAny (model X.prog X.w) X.A (eval a X.env) (λv s₁=>wpAny (model X.prog X.w) X.A (eval b X.env) (λu s₂=>wpAny (model X.prog X.w) X.A (f v u) Q X.xe s₂) X.xe s₁) X.xe s:=by
 refine thn (ha pins s σ H _ I h) λv s1 hh=>?_;obtain ⟨x,H1,I1,r1,q1⟩:=hh;refine thn (hb pins s1 σ H1 _ I1 q1) λu s2 hh=>?_;obtain ⟨y,H2,I2,r2,q2⟩:=hh;exact hf v u s2 x y H2 I2 r1 r2 q2
theorem pe_op {op:Operator} {r:R2} (ho:OpR X (binaryOp op) r) (ha:PE X a ta) (hb:PE X b tb):PE X (.BinOp a op b pos) (tOp r ta tb):=by
 intro pins s σ H Q I h;exact wpAny_BinOp (binT ha hb I h λv u s2 x y H2 I2 rx ry q=>ho pins s2 σ H2 x y v u Q I2 rx ry q)
theorem pe_un {op:UnaryOp} {r:V->Hp->VK->Prop} (ho:UnR X (unaryOp op) r) (ha:PE X a ta):PE X (.UnaryOp op a pos) (tUn r ta):=by
 intro pins s σ H Q I h;exact UnaryOp_ (thn (ha pins s σ H _ I h) λv s1 ⟨x,H1,I1,r1,q1⟩=>ho pins s1 σ H1 x v Q I1 r1 q1)
theorem opI {f:Value->Value->Sem Value} {C:Int->Int->Prop} {g:Int->Int->Int}
 (rule:∀(i j:Int) (t u:Tok) (s:Shared) (Q:Value->Shared->Prop) (E:Value->Shared->Prop),C i j->Q (.int (g i j) s.toks) {s with toks:=s.toks+1}->wpAny (model X.prog X.w) X.A (f (.int i t) (.int j u)) Q E s):
 OpR X f (rI C λi j=> .int (g i j)):=by
 intro pins s σ H x y v u Q I rx ry h;obtain ⟨i,j,rfl,rfl,hc,q⟩:=h;obtain ⟨t,rfl⟩:=rx;obtain ⟨t',rfl⟩:=ry;exact rule i j t t' s _ _ hc ⟨.int (g i j),H,I.tok _,⟨_,rfl⟩,q⟩
theorem opI0 {f:Value->Value->Sem Value} {g:Int->Int->Int}
 (rule:∀(i j:Int) (t u:Tok) (s:Shared) (Q:Value->Shared->Prop) (E:Value->Shared->Prop),Q (.int (g i j) s.toks) {s with toks:=s.toks+1}->wpAny (model X.prog X.w) X.A (f (.int i t) (.int j u)) Q E s):
 OpR X f (rI0 λi j=> .int (g i j)):=by
 intro pins s σ H x y v u Q I rx ry h;obtain ⟨i,j,rfl,rfl,q⟩:=h;obtain ⟨t,rfl⟩:=rx;obtain ⟨t',rfl⟩:=ry;exact rule i j t t' s _ _ ⟨.int (g i j),H,I.tok _,⟨_,rfl⟩,q⟩
theorem opB0 {f:Value->Value->Sem Value} {g:Int->Int->Bool}
 (rule:∀(i j:Int) (t u:Tok) (s:Shared) (Q:Value->Shared->Prop) (E:Value->Shared->Prop),Q (.bool (g i j)) s->wpAny (model X.prog X.w) X.A (f (.int i t) (.int j u)) Q E s):
 OpR X f (rI0 λi j=> .bl (g i j)):=by
 intro pins s σ H x y v u Q I rx ry h;obtain ⟨i,j,rfl,rfl,q⟩:=h;obtain ⟨t,rfl⟩:=rx;obtain ⟨t',rfl⟩:=ry;exact rule i j t t' s _ _ ⟨.bl (g i j),H,I,rfl,q⟩
def CDiv (i j:Int):Prop:=0<j/\j<1073741824
def CPow (i j:Int):Prop:=0<=j/\j<=1000000/\i.natAbs<2 ^ 64
def CMul (i j:Int):Prop:=(-(2 ^ 64)<i/\i<2 ^ 64)\/(-(2 ^ 64)<j/\j<2 ^ 64)
theorem CMul.ok {i j:Int} (h:CMul i j):IntMulOk i j:=by
 rcases h with ⟨h1,h2⟩|⟨h1,h2⟩
 ·exact .of_left (intBits_le_64 h1 h2)
 ·exact .of_right (intBits_le_64 h1 h2)
theorem op_add:OpR X (binaryOp .Add) (rI0 λi j=> .int (i+j)):=opI0 λ_ _ _ _ _ _ _ q=>add_int q
theorem op_sub:OpR X (binaryOp .Sub) (rI0 λi j=> .int (i - j)):=opI0 λ_ _ _ _ _ _ _ q=>sub_int q
theorem op_fdiv:OpR X (binaryOp .FloorDiv) (rI CDiv λi j=> .int (i / j)):=opI λi j _ _ _ _ _ hc q=>by
 have h1:(0:Int)<j:=hc.1;have h2:j<1073741824:=hc.2;exact floordiv_int (by omega) (by rw [jbx i (by omega)];exact q) (.inl (PyProof.noPylong_small (by omega)))
theorem op_mod:OpR X (binaryOp .Mod) (rI (λ_ j=>0<j) λi j=> .int (i % j)):=opI λi j _ _ _ _ _ hc q=>by
 have h1:(0:Int)<j:=hc;exact mod_int' (by omega) (by rw [To i (by omega)];exact q)
theorem op_modN:OpR X (binaryOp .Mod) (rI (λ_ j=>j≠0) λi j=> .int (i.fmod j)):=opI λ_ _ _ _ _ _ _ hc q=>mod_int' hc q
theorem op_pow:OpR X (binaryOp .Pow) (rI CPow λi j=> .int (i ^ j.toNat)):=opI λ_ _ _ _ _ _ _ hc q=>pow_int_small hc.1 hc.2.1 hc.2.2 q
theorem unI {f:Value->Sem Value} {g:Int->Int}
 (rule:∀(i:Int) (t:Tok) (s:Shared) (Q:Value->Shared->Prop) (E:Value->Shared->Prop),Q (.int (g i) s.toks) {s with toks:=s.toks+1}->wpAny (model X.prog X.w) X.A (f (.int i t)) Q E s):
 UnR X f (rU λi=> .int (g i)):=by
 intro pins s σ H x v Q I rx h;obtain ⟨i,rfl,q⟩:=h;obtain ⟨t,rfl⟩:=rx;exact rule i t s _ _ ⟨.int (g i),H,I.tok _,⟨_,rfl⟩,q⟩
theorem un_neg:UnR X (unaryOp .USub) (rU λi=> .int (-i)):=unI λ_ _ _ _ _ q=>neg_int q
end
def scal:V->V->Bool
 | .non, .non=>true| .non, .int _=>true| .int _, .non=>true| .non, .bl _=>true| .bl _, .non=>true| .non, .str _=>true| .str _, .non=>true
 | .int _, .int _=>true| .bl _, .bl _=>true| .str _, .str _=>true| .byt _, .byt _=>true
 | .int _, .str _=>true| .str _, .int _=>true| .bl _, .str _=>true| .str _, .bl _=>true
 |_,_=>false
def rEq:R2:=λx y H Q=>scal x y=true/\Q (.bl (decide (x=y))) H
def rNe:R2:=λx y H Q=>scal x y=true/\Q (.bl (!decide (x=y))) H
theorem Dz {i j:Int}:decide (V.int i=V.int j)=(i==j):=by
 rw [jbR]
 simp
theorem Ie {i j:Bool}:decide (V.bl i=V.bl j)=(i==j):=by
 rw [jbR]
 simp
theorem Dw {i j:Str}:decide (V.str i=V.str j)=(i==j):=by
 rw [jbR]
 simp
theorem DA {i j:Array UInt8}:decide (V.byt i=V.byt j)=(i.toList==j.toList):=by
 rw [jbR];cases i;cases j
 simp
section
variable {X:Cx} {a b c:Expr} {ta tb tc:TE} {pos:Pos}
theorem yE {pins:List (Addr×Obj)} {σ:St} {H:Hp} {s:Shared} {Q:VK} {k k':Bool} (I:Inv X pins σ H s) (q:Q (.bl k) H) (e:k=k'):EP X pins σ Q (.bool k') s:=by
 subst e;exact ⟨.bl k,H,I,rfl,q⟩
theorem op_eq:OpR X (compareOp .Eq) rEq:=by
 intro pins s σ H x y v u Q I rx ry h;obtain ⟨hs,q⟩:=h
 cases x with
 |non=>
  cases rx
  cases y with
  |non=>cases ry;exact PySem.EqNone.eq_none_none (yE I q (by simp))
  |bl j=>cases ry;exact PySem.EqNone.eq_none_bool (yE I q (by simp))
  |int j=>obtain ⟨t',rfl⟩:=ry;exact PySem.EqNone.eq_none_int (yE I q (by simp))
  |str j=>obtain ⟨t',rfl⟩:=ry;exact PySem.EqNone.eq_none_str (yE I q (by simp))
  |_=>exact absurd (show false=true from hs) Qx
 |bl i=>
  cases rx
  cases y with
  |non=>cases ry;exact PySem.EqNone.eq_bool_none (yE I q (by simp))
  |bl j=>cases ry;exact eq_bool (yE I q Ie)
  |str j=>obtain ⟨t',rfl⟩:=ry;exact PySem.EqMixed.eq_bool_str (yE I q (by simp))
  |_=>exact absurd (show false=true from hs) Qx
 |int i=>
  obtain ⟨t,rfl⟩:=rx
  cases y with
  |non=>cases ry;exact PySem.EqNone.eq_int_none (yE I q (by simp))
  |int j=>obtain ⟨t',rfl⟩:=ry;exact eq_int (yE I q Dz)
  |str j=>obtain ⟨t',rfl⟩:=ry;exact PySem.EqMixed.eq_int_str (yE I q (by simp))
  |_=>exact absurd (show false=true from hs) Qx
 |str i=>
  obtain ⟨t,rfl⟩:=rx
  cases y with
  |non=>cases ry;exact PySem.EqNone.eq_str_none (yE I q (by simp))
  |bl j=>cases ry;exact PySem.EqMixed.eq_str_bool (yE I q (by simp))
  |int j=>obtain ⟨t',rfl⟩:=ry;exact PySem.EqMixed.eq_str_int (yE I q (by simp))
  |str j=>obtain ⟨t',rfl⟩:=ry;exact eq_str (yE I q Dw)
  |_=>exact absurd (show false=true from hs) Qx
 |byt i=>
  obtain ⟨t,rfl⟩:=rx
  cases y with
  |byt j=>obtain ⟨t',rfl⟩:=ry;exact PySem.W.eq_bytes (yE I q DA)
  |_=>exact absurd (show false=true from hs) Qx
 |_=>cases y<;>exact absurd (show false=true from hs) Qx
theorem op_ne:OpR X (compareOp .NotEq) rNe:=by
 intro pins s σ H x y v u Q I rx ry h;obtain ⟨hs,q⟩:=h
 cases x with
 |non=>
  cases rx
  cases y with
  |non=>cases ry;exact PySem.EqNone.ne_none_none (yE I q (by simp))
  |bl j=>cases ry;exact PySem.EqNone.ne_none_bool (yE I q (by simp))
  |int j=>obtain ⟨t',rfl⟩:=ry;exact PySem.EqNone.ne_none_int (yE I q (by simp))
  |str j=>obtain ⟨t',rfl⟩:=ry;exact PySem.EqNone.ne_none_str (yE I q (by simp))
  |_=>exact absurd (show false=true from hs) Qx
 |bl i=>
  cases rx
  cases y with
  |non=>cases ry;exact PySem.EqNone.ne_bool_none (yE I q (by simp))
  |bl j=>cases ry;exact ne_bool (yE I q (congrArg not Ie))
  |str j=>obtain ⟨t',rfl⟩:=ry;exact PySem.EqMixed.ne_bool_str (yE I q (by simp))
  |_=>exact absurd (show false=true from hs) Qx
 |int i=>
  obtain ⟨t,rfl⟩:=rx
  cases y with
  |non=>cases ry;exact PySem.EqNone.ne_int_none (yE I q (by simp))
  |int j=>obtain ⟨t',rfl⟩:=ry;exact ne_int (yE I q (congrArg not Dz))
  |str j=>obtain ⟨t',rfl⟩:=ry;exact PySem.EqMixed.ne_int_str (yE I q (by simp))
  |_=>exact absurd (show false=true from hs) Qx
 |str i=>
  obtain ⟨t,rfl⟩:=rx
  cases y with
  |non=>cases ry;exact PySem.EqNone.ne_str_none (yE I q (by simp))
  |bl j=>cases ry;exact PySem.EqMixed.ne_str_bool (yE I q (by simp))
  |int j=>obtain ⟨t',rfl⟩:=ry;exact PySem.EqMixed.ne_str_int (yE I q (by simp))
  |str j=>obtain ⟨t',rfl⟩:=ry;exact ne_str (yE I q (congrArg not Dw))
  |_=>exact absurd (show false=true from hs) Qx
 |byt i=>
  obtain ⟨t,rfl⟩:=rx
  cases y with
  |byt j=>obtain ⟨t',rfl⟩:=ry;exact PySem.W.ne_bytes (yE I q (congrArg not DA))
  |_=>exact absurd (show false=true from hs) Qx
 |_=>cases y<;>exact absurd (show false=true from hs) Qx
theorem op_lt:OpR X (compareOp .Lt) (rI0 λi j=> .bl (decide (i<j))):=opB0 λ_ _ _ _ _ _ _ q=>lt_int q
theorem op_le:OpR X (compareOp .LtE) (rI0 λi j=> .bl (decide (i<=j))):=opB0 λ_ _ _ _ _ _ _ q=>le_int q
theorem op_gt:OpR X (compareOp .Gt) (rI0 λi j=> .bl (decide (j<i))):=opB0 λ_ _ _ _ _ _ _ q=>gt_int q
theorem op_ge:OpR X (compareOp .GtE) (rI0 λi j=> .bl (decide (j<=i))):=opB0 λ_ _ _ _ _ _ _ q=>ge_int q
theorem op_isN:OpR X (compareOp .Is) (λx y H Q=>y= .non/\Q (.bl (decide (x= .non))) H):=by
 intro pins s σ H x y v u Q I rx ry h;obtain ⟨rfl,q⟩:=h;cases ry;refine is_none_gen (yE I q ?_)
 cases x<;>first
  |(cases rx;rfl)
  |(obtain ⟨t,rfl⟩:=rx;rfl)
theorem op_notN:OpR X (compareOp .IsNot) (λx y H Q=>y= .non/\Q (.bl (!decide (x= .non))) H):=by
 intro pins s σ H x y v u Q I rx ry h;obtain ⟨rfl,q⟩:=h;cases ry;refine isnot_none_gen (yE I q ?_)
 cases x<;>first
  |(cases rx;rfl)
  |(obtain ⟨t,rfl⟩:=rx;rfl)
theorem OpR.or {f:Value->Value->Sem Value} {r r':R2} (h:OpR X f r) (h':OpR X f r'):OpR X f (λx y H Q=>r x y H Q\/r' x y H Q):=by
 intro pins s σ H x y v u Q I rx ry q
 rcases q with q|q
 ·exact h pins s σ H x y v u Q I rx ry q
 ·exact h' pins s σ H x y v u Q I rx ry q
theorem Cw (b:Expr) {op:CmpOp} (h:op≠ .In:=by decide) (h2:op≠ .NotIn:=by decide):behindInMarks op b=false:=by
 have e1:(op==CmpOp.In)=false:=by cases op<;>first|rfl|exact absurd rfl h
 have e2:(op==CmpOp.NotIn)=false:=by cases op<;>first|rfl|exact absurd rfl h2
 cases b<;>simp [behindInMarks,e1,e2]
theorem pe_cmpR {op:CmpOp} {r:R2} (ho:OpR X (compareOp op) r) (ha:PE X a ta) (hb:PE X b tb) (hm:behindInMarks op b=false):PE X (.Compare a [op] [b] pos) (tOp r ta tb):=by
 intro pins s σ H Q I h;exact wpAny_Compare1 (binT ha hb I h λv u s2 x y H2 I2 rx ry q=>ho pins s2 σ H2 x y v u Q I2 rx ry q) hm
def tTest (t:TE):TT:=λσ H Q=>t σ H λx H'=>∃k,x= .bl k/\Q k H'
theorem qH {op:CmpOp} {r:R2} (ho:OpR X (compareOp op) r) (ha:PE X a ta) (hb:PE X b tb) (hm:behindInMarks op b=false):PT X (.Compare a [op] [b] pos) (tTest (tOp r ta tb)):=by
 intro pins s σ H Q I h
 refine wpAny_isTrue_Compare1 (thn (ha pins s σ H _ I h) λv s1 ⟨x,H1,I1,r1,q1⟩=>thn (hb pins s1 σ H1 _ I1 q1) λu s2 ⟨y,H2,I2,r2,q2⟩=>
  thn (ho pins s2 σ H2 x y v u _ I2 r1 r2 q2) λc s3 ⟨z,H3,I3,r3,k,e,q3⟩=>?_) hm
 subst e;cases r3;exact jbM ⟨H3,I3,q3⟩
theorem ou:(sizeLine:Nat)<2 ^ 63:=by rw [sizeLine_eq];decide
theorem vz:OpR X (binaryOp .Add) (λx y H Q=>∃i j,x= .str i/\y= .str j/\i.length+j.length<=sizeLine/\Q (.str (i++j)) H):=by
 intro pins s σ H x y v u Q I rx ry h;obtain ⟨i,j,rfl,rfl,hz,q⟩:=h;obtain ⟨t,rfl⟩:=rx;obtain ⟨t',rfl⟩:=ry;exact add_str (λt' tk=>⟨.str (i++j),H,I.tok _,⟨_,rfl⟩,q⟩) hz
theorem UI {x:V} {us:List Value} (r:xn [x] us):∃u,us=[u]/\Ze x u:=by
 cases r with
 |cons r1 r2=>cases r2;exact ⟨_,rfl,r1⟩
theorem IH {x y:V} {us:List Value} (r:xn [x,y] us):∃u w',us=[u,w']/\Ze x u/\Ze y w':=by
 cases r with
 |cons r1 r2=>
  cases r2 with
  |cons r3 r4=>cases r4;exact ⟨_,_,rfl,r1,r3⟩
theorem GP:Wb X (.builtin "abs") (λxs H Q=>∃i,xs=[.int i]/\Q (.int (if i<0 then -i else i)) H):=by
 intro pins s σ H xs us Q I r h;obtain ⟨i,rfl,q⟩:=h;obtain ⟨u,rfl,t,rfl⟩:=UI r;exact call_abs_int λu tk=>⟨.int (if i<0 then -i else i),H,I.tok _,⟨_,rfl⟩,q⟩
theorem DJ (hc:X.calm=true):Wb X (.builtin "min") (λxs H Q=>∃i j,xs=[.int i, .int j]/\Q (.int (if j<i then j else i)) H):=by
 intro pins s σ H xs us Q I r h;obtain ⟨i,j,rfl,q⟩:=h;obtain ⟨u,w',rfl,⟨t,rfl⟩,⟨t',rfl⟩⟩:=IH r;refine min_two_ints (I.ok.hd hc) λh' tk k=>⟨_,H,I.kept k,?_,q⟩
 by_cases hj:j<i
 ·rw [QH hj,QH hj];exact ⟨_,rfl⟩
 ·rw [QP hj,QP hj];exact ⟨_,rfl⟩
theorem oN:Wb X (.type "str") (λxs H Q=>∃i,xs=[.int i]/\i.natAbs.log2<1920/\Q (.str (toString i)) H):=by
 intro pins s σ H xs us Q I r h;obtain ⟨i,rfl,hz,q⟩:=h;obtain ⟨u,rfl,t,rfl⟩:=UI r;exact PySem.P.str_of_int hz ⟨.str _,H,I.tok _,⟨_,rfl⟩,q⟩
end
end L2
namespace L2
open PySem PySem.Spec PyProof.Rows
structure ObjM (h:Heap) (x dx C:Addr) (mA:Str->Option Value):Prop where
 obj:h.get? x=some (PySem.W.instObj C dx)
 ns:h.Ns1 dx mA
 ne:dx≠x
theorem CH {h:Heap} {dx:Addr} {mA:Str->Option Value} (n:h.Ns1 dx mA):∃od,h.get? dx=some od/\∀name,PySem.W.lookIn name od=some (mA name):=by
 obtain ⟨o,es,ep,ho,hd,hk,_,hm⟩:=n;refine ⟨o,ho,λname=>?_⟩;have e:=hm name;unfold nsFind findBy at e;rw [<-Array.find?_toList] at e;unfold PySem.W.lookIn;rw [hd];dsimp only
 split
 ·rename_i y q;rw [q] at e;exact congrArg some e
 ·rename_i q;rw [q] at e
  have a:es.toList.any (·.refKey)=false:=by
   rw [List.any_eq_false];intro y hy;obtain ⟨z,t,SY⟩:=hk y (Array.mem_toList_iff.mp hy);simp [DictEntry.refKey,SY]
  have a':¬es.toList.any (·.refKey)=true:=by rw [a];exact Qx
  rw [QP a'];exact congrArg some e
theorem ObjM.look {h:Heap} {x dx C:Addr} {mA:Str->Option Value} (I:ObjM h x dx C mA):∃od,PySem.W.InstAt h x (PySem.W.instObj C dx) C (some od)/\∀name,PySem.W.lookIn name od=some (mA name):=
 let ⟨od,ho,hl⟩:=CH I.ns
 ⟨od,⟨I.obj,rfl,rfl,ho⟩,hl⟩
section
variable {prog:Program} {w:World} {A:Around} {E:Value->Shared->Prop} {s:Shared} {K:PySem.W.Frag} {x dx C f:Addr} {mA:Str->Option Value} {name:Str} {v:Value}
theorem JZ {expr:Bool} {Q:Value->Shared->Prop} (X:K.In s.heap) (I:ObjM s.heap x dx C mA) (hg:PySem.W.plainGet K C name=true) (hh:PySem.W.hasDictIn K C=true)
 (ha:PySem.W.findIn K (.ref C) name=some none) (hv:mA name=some v) (Ry:PySem.W.handedIn v=true) (h:Q v {s with toks:=s.toks+1}):
 wpAny (model prog w) A (getAttr (.ref x) name expr) Q E s:=by
 obtain ⟨od,J,hl⟩:=I.look;exact PySem.W.get_value X J (PySem.W.plainGet_of hg).1 (PySem.W.findObj_own hh ha rfl (by rw [hl,hv])) Ry h
theorem GI {pl:Sem Bool} {Q:Value×List Value->Shared->Prop} (X:K.In s.heap) (I:ObjM s.heap x dx C mA) (hg:PySem.W.plainGet K C name=true)
 (hf:PySem.W.findIn K (.ref C) name=some (some (.ref f))) (ht:PySem.W.isFn K (.ref f)=true) (hv:mA name=none) (h:Q (.ref f,[.ref x]) s):
 wpAny (model prog w) A (getMethod (.ref x) name pl) Q E s:=by
 obtain ⟨od,J,hl⟩:=I.look;exact PySem.W.method_fn X J (PySem.W.plainGet_of hg).1 (PySem.W.plainGet_of hg).2 hf (beq_iff_eq.mp ht) (by show (PySem.W.lookIn name od).map (·.isSome)=some false;rw [hl,hv];rfl) h
theorem IQ {ns:List Str} {Q:Unit->Shared->Prop} (X:K.In s.heap) (I:ObjM s.heap x dx C mA)
 (hs:PySem.W.findIn K (.ref C) "__setattr__"=some (some (.builtin "object.__setattr__"))) (hp:PySem.W.plainOver K C=true) (ht:PySem.W.takerIn K C name=some none) (hh:PySem.W.hasDictIn K C=true)
 (hw:PySem.Within mA ns) (MW:ns.length<=sizeLine)
 (h:∀h',ObjM h' x dx C (λy=>if y=name then some v else mA y)->Heap.SameBut dx s.heap h'->Q () {s with heap:=h',toks:=s.toks+2}):
 wpAny (model prog w) A (setAttr (.ref x) name v) Q E s:=by
 obtain ⟨od,J,hl⟩:=I.look;refine PySem.W.set_plain X J hs (PySem.W.osa_open (s:={s with toks:=s.toks+1}) (r:=none) X J hp ht λb=>?_);obtain ⟨cd,hc,MG⟩:=PySem.W.any_some hh;have hx:s.heap.get? x=some ⟨.ref C,some dx, .plain,#[]⟩:=I.obj;refine Qg (Qm (Qg (Qg (wpAny_loadPart hx (Qg (PySem.W.Looks.here (s:={s with toks:=s.toks+1}) (PySem.W.looks_clsIn X hc) ?_))))));rw [MG];refine Qm (a:=some dx) (Qg (Qm (Qg ?_)));refine wpAny_nsSet1 (s:={s with toks:=s.toks+1}) I.ns λh' Nd Nl=>?_;obtain ⟨oD,esD,epD,hoD,hdD,hcD⟩:=Nd.count (PySem.Within.cons name v hw);refine Qg (wpAny_lookBehind hoD (by rw [hdD];exact pastItsLine_dict (QI hcD (by rw [Qw];omega))) ?_);exact Qm (h _ ⟨(Nl.2 _ (Ne.symm I.ne)).trans I.obj,Nd,I.ne⟩ Nl)
theorem FK {R:Result->Shared->Prop} {vs:List Value} {kw:List (Str×Value)} (X:K.In s.heap) (hm:PySem.W.makesIn K C=true)
 (hi:PySem.W.findIn K (.ref C) "__init__"=some (some (.ref f))) (hf:PySem.W.typeIn K (.ref f)=some (.type "function"))
 (h:codeAny (model prog w) (A.under (.builtin "type.__call__" ⟨.ref C::vs,kw⟩)) (.call (.ref f) ⟨.ref (s.heap.objs.size+1)::vs,kw⟩) (PySem.W.InitBack (s.heap.objs.size+1) R)
  {s with heap:=(s.heap.push PySem.W.emptyDict).push (PySem.W.instObj C s.heap.objs.size)}):
 codeAny (model prog w) A (.call (.ref C) ⟨vs,kw⟩) R s:=by
 obtain ⟨hh,g,d,t,os⟩:=s;exact PySem.W.make_core (PySem.W.makes_of X hm) (PySem.W.looks_findIn X hi) (λself=>PySem.W.bind_fn X self hf) (.inl rfl) h
end
def nR (f:Str) (v:V):List (Str×V)->List (Str×V)
 |[]=>[(f,v)]
 |(g,x)::r=>if g=f then (g,v)::r else (g,x)::nR f v r
theorem eU (f g:Str) (v:V):∀fs:List (Str×V),(nR f v fs).lookup g=if g=f then some v else fs.lookup g
 |[]=>by
  show List.lookup g [(f,v)]=_
  by_cases h:g=f
  ·have hb:(g==f)=true:=beq_iff_eq.mpr h;simp only [List.lookup,hb,QH h]
  ·have hb:(g==f)=false:=jay.mpr h;simp only [List.lookup,hb,QP h]
 |(k,x)::r=>by
  have ih:=eU f g v r;rw [show nR f v ((k,x)::r)=(if k=f then (k,v)::r else (k,x)::nR f v r) from rfl]
  by_cases hk:k=f
  ·rw [QH hk]
   by_cases h:g=k
   ·have hb:(g==k)=true:=beq_iff_eq.mpr h;simp only [List.lookup,hb,QH (h.trans hk)]
   ·have hb:(g==k)=false:=jay.mpr h;simp only [List.lookup,hb,QP (λe:g=f=>h (e.trans hk.symm))]
  ·rw [QP hk]
   by_cases h:g=k
   ·have hb:(g==k)=true:=beq_iff_eq.mpr h;simp only [List.lookup,hb,QP (λe:g=f=>hk (h.symm.trans e))]
   ·have hb:(g==k)=false:=jay.mpr h;simp only [List.lookup,hb];exact ih
theorem fh (f:Str) (v:V):∀fs:List (Str×V),f∈(nR f v fs).map (·.1)/\∀g,g∈fs.map (·.1)->g∈(nR f v fs).map (·.1)
 |[]=>⟨by simp [nR],λg h=>by simp at h⟩
 |(k,x)::r=>by
  obtain ⟨i1,i2⟩:=fh f v r;rw [show nR f v ((k,x)::r)=(if k=f then (k,v)::r else (k,x)::nR f v r) from rfl]
  by_cases hk:k=f
  ·rw [QH hk];subst hk;exact ⟨by simp,λg h=>by simpa using h⟩
  ·rw [QP hk];refine ⟨?_,λg h=>?_⟩
   ·rw [Qn];exact Qd _ i1
   ·rw [Qn] at h⊢
    rcases Ql.mp h with e|e
    ·exact Ql.mpr (.inl e)
    ·exact Qd _ (i2 g e)
theorem eZ (f:Str) (v:V):∀fs:List (Str×V),(nR f v fs).length<=fs.length+1
 |[]=>by simp [nR]
 |(k,x)::r=>by
  have ih:=eZ f v r;rw [show nR f v ((k,x)::r)=(if k=f then (k,v)::r else (k,x)::nR f v r) from rfl]
  by_cases hk:k=f
  ·rw [QH hk,Qw,Qw];omega
  ·rw [QP hk,Qw,Qw];omega
theorem Eg.some_of {v:V} {o:Option Value} (r:Eg (some v) o):∃u,o=some u/\Ze v u:=by
 cases o with
 |none=>exact (show False from r).elim
 |some u=>exact ⟨u,rfl,r⟩
theorem Eg.none_of {o:Option Value} (r:Eg none o):o=none:=by
 cases o with
 |none=>rfl
 |some u=>exact (show False from r).elim
theorem Dc {v:V} {u:Value} (r:Ze v u):PySem.W.handedIn u=true:=by
 cases v with
 |non=>cases (show u=Value.none from r);rfl
 |bl b=>cases (show u=Value.bool b from r);rfl
 |int i=>obtain ⟨t,e⟩:=(show ∃t,u=Value.int i t from r);cases e;rfl
 |str x=>obtain ⟨t,e⟩:=(show ∃t,u=Value.str x t from r);cases e;rfl
 |byt b=>obtain ⟨t,e⟩:=(show ∃t,u=Value.bytes b t from r);cases e;rfl
 |flt b=>obtain ⟨t,e⟩:=(show ∃t,u=Value.float b t from r);cases e;rfl
 |ref a=>cases (show u=Value.ref a from r);rfl
 |ty n=>cases (show u=Value.type n from r);rfl
section
variable {P:Program} {w:World} {H H':Hp} {h h':Heap} {a C dx:Addr} {fs OS:List (Str×V)}
theorem lz (hok:HOk P w H h) (e:H a=some (.ins C dx fs)):∃mA,ObjM h a dx C mA/\(∀f,Eg (fs.lookup f) (mA f))/\PySem.Within mA (fs.map (·.1))/\fs.length<=1000/\H dx=some (.own a):=by
 obtain ⟨d,z,ne,ob,mA,n,r,q⟩:=(show ZP P w H h a (.ins C dx fs) from hok a _ e);exact ⟨mA,⟨ob,n,ne⟩,r,q,z,d⟩
end
structure Cls (K:PySem.W.Frag) (C:Addr):Prop where
 pg:PySem.W.plainGet K C Str.empty=true
 hd:PySem.W.hasDictIn K C=true
 po:PySem.W.plainOver K C=true
 sa:PySem.W.findIn K (.ref C) "__setattr__"=some (some (.builtin "object.__setattr__"))
theorem Cls.get {K:PySem.W.Frag} {C:Addr} (c:Cls K C) (f:Str):PySem.W.plainGet K C f=true:=c.pg
def WL (K:PySem.W.Frag) (C:Addr) (f:Str):Prop:=PySem.W.findIn K (.ref C) f=some none
theorem WL.taker {K:PySem.W.Frag} {C:Addr} {f:Str} (n:WL K C f):PySem.W.takerIn K C f=some none:=by
 unfold PySem.W.takerIn;rw [show PySem.W.findIn K (.ref C) f=some none from n];rfl
structure Meth (K:PySem.W.Frag) (C:Addr) (m:Str) (f:Addr):Prop where
 at_:PySem.W.findIn K (.ref C) m=some (some (.ref f))
 fn:PySem.W.isFn K (.ref f)=true
 kp:PySem.W.keepIn K (.ref f)=true
section
variable {X:Cx} {pins:List (Addr×Obj)} {σ:St} {H:Hp} {s:Shared} {a C dx:Addr} {fs:List (Str×V)} {f:Str} {v:V} {A:Around} {E:Value->Shared->Prop}
theorem iZ {b:Bool} {Q:Value->Shared->Prop} (I:Inv X pins σ H s) (e:H a=some (.ins C dx fs)) (c:Cls X.K C) (n:WL X.K C f) (l:fs.lookup f=some v)
 (h:∀u s',Inv X pins σ H s'->Ze v u->Q u s'):wpAny (model X.prog X.w) A (getAttr (.ref a) f b) Q E s:=by
 obtain ⟨mA,O,r,_,_,_⟩:=lz I.hok e;obtain ⟨u,hu,ru⟩:=Eg.some_of (v:=v) (o:=mA f) (by rw [<-l];exact r f);exact JZ I.kIn O (c.get f) c.hd n hu (Dc ru) (h u _ (I.tok _) ru)
theorem aA {m:Str} {g:Addr} {pl:Sem Bool} {Q:Value×List Value->Shared->Prop} (I:Inv X pins σ H s) (e:H a=some (.ins C dx fs)) (c:Cls X.K C) (k:Meth X.K C m g) (l:fs.lookup m=none)
 (h:Q (.ref g,[.ref a]) s):wpAny (model X.prog X.w) A (getMethod (.ref a) m pl) Q E s:=by
 obtain ⟨mA,O,r,_,_,_⟩:=lz I.hok e;have hn:mA m=none:=Eg.none_of (by rw [<-l];exact r m);exact GI I.kIn O (c.get m) k.at_ k.fn hn h
theorem iH {y:V} {u:Value} {Q:Unit->Shared->Prop} (I:Inv X pins σ H s) (e:H a=some (.ins C dx fs)) (c:Cls X.K C) (n:WL X.K C f) (hl:fs.length<1000) (ry:Ze y u)
 (h:∀s',Inv X pins σ (upd H a (.ins C dx (nR f y fs))) s'->Q () s'):wpAny (model X.prog X.w) A (setAttr (.ref a) f u) Q E s:=by
 obtain ⟨mA,O,r,wi,_,ho⟩:=lz I.hok e;have hz:(fs.map (·.1)).length<=sizeLine:=by rw [Qa,sizeLine_eq];omega
 refine IQ I.kIn O c.sa c.po n.taker c.hd wi hz λh' O' sb=>h _ ?_;have hd:∃o,h'.get? dx=some o:=let ⟨o,_,_,e',_⟩:=O'.ns;⟨o,e'⟩
 refine I.write (x:=a) (e:=dx) (by rw [e];exact True.intro) (.inr ho) (λb q hb z=>(sb.2 b hb).trans z) hd ?_;refine ⟨by rw [zR O.ne];exact ho,?_,O.ne,O'.obj,_,O'.ns,λg=>?_,λg hg=>?_⟩
 ·have:=eZ f y fs;omega
 ·show Eg ((nR f y fs).lookup g) (if g=f then some u else mA g);rw [eU]
  by_cases q:g=f
  ·rw [QH q,QH q];exact ry
  ·rw [QP q,QP q];exact r g
 ·by_cases q:g=f
  ·rw [q];exact (fh f y fs).1
  ·refine (fh f y fs).2 g (wi g λz=>hg ?_);show (if g=f then some u else mA g)=none;rw [QP q];exact z
theorem Inv.made (I:Inv X pins σ H s):Inv X pins σ (upd (upd H s.heap.objs.size (.own (s.heap.objs.size+1))) (s.heap.objs.size+1) (.ins C s.heap.objs.size []))
 {s with heap:=(s.heap.push PySem.W.emptyDict).push (PySem.W.instObj C s.heap.objs.size)}:=by
 have e1:(s.heap.push PySem.W.emptyDict).get? s.heap.objs.size=some PySem.W.emptyDict:=Qu s.heap rfl
 have e2:((s.heap.push PySem.W.emptyDict).push (PySem.W.instObj C s.heap.objs.size)).get? (s.heap.objs.size+1)=some (PySem.W.instObj C s.heap.objs.size):=by
  have:=Qu (s.heap.push PySem.W.emptyDict) (o:=PySem.W.instObj C s.heap.objs.size) rfl;rwa [QU] at this
 have e3:(s.heap.push PySem.W.emptyDict).Ns s.heap.objs.size (λ_=>none):=⟨PySem.W.emptyDict,#[],_,e1,rfl,(λe he=>absurd he (by simp)),λ_=>rfl⟩;have I1:=I.laid (a:=s.heap.objs.size) (o:= .own (s.heap.objs.size+1)) (h':=s.heap.push PySem.W.emptyDict) (t':=s.toks) (λb u q=>Qh _ q) (Qp _) ⟨_,e1⟩;refine I1.laid (a:=s.heap.objs.size+1) (o:= .ins C s.heap.objs.size []) (t':=s.toks) (λb u q=>Qh _ q) (Nat.le_of_eq (QU _ _)) ?_;have ne:s.heap.objs.size≠s.heap.objs.size+1:=QM (Th _);refine ⟨by rw [zR ne,zZ],TH _,ne,e2,λ_=>none,(Heap.Ns1.of_empty e3).at λo q=>Qh _ q,λ_=>True.intro,λy hy=>absurd rfl hy⟩
theorem Km {prog:Program} {w:World} {env:Env} {e:Expr} {f:Str} {pos:Pos} {s:Shared} {Q:Value->Shared->Prop} (hb:attributeBase e f env (eval e env)=eval e env)
 (h:wpAny (model prog w) A (eval e env) (λo s₁=>wpAny (model prog w) A (getAttr o f true) Q E s₁) E s):wpAny (model prog w) A (eval (.Attribute e f pos) env) Q E s:=
 Attribute_any_ h (by rw [arm_eval_Attribute,hb])
end
def tFld (K:PySem.W.Frag) (ta:TE) (f:Str):TE:=λσ H Q=>ta σ H λx H1=>∃a C dx fs v,x= .ref a/\H1 a=some (.ins C dx fs)/\Cls K C/\WL K C f/\fs.lookup f=some v/\Q v H1
def sFld (K:PySem.W.Frag) (ta tv:TE) (f:Str):TS:=λD σ H=>tv σ H λy H1=>ta σ H1 λx H2=>∃a C dx fs,x= .ref a/\H2 a=some (.ins C dx fs)/\Cls K C/\WL K C f/\fs.length<1000/\
 D.nx σ (upd H2 a (.ins C dx (nR f y fs)))
def InOp (X:Cx) (op:Operator) (rd:V->V->Hp->VK->Prop):Prop:=
 ∀(pins:List (Addr×Obj)) (s:Shared) (σ:St) (H:Hp) (x y:V) (u v:Value) (Q:VK),Inv X pins σ H s->Ze x u->Ze y v->rd x y H Q->wpAny (model X.prog X.w) X.A (inplaceOp op u v) (EP X pins σ Q) X.xe s
def Be (K:PySem.W.Frag) (ta tv:TE) (rd:V->V->Hp->VK->Prop) (f:Str):TS:=λD σ H=>ta σ H λx H1=>∃a C dx fs v,x= .ref a/\H1 a=some (.ins C dx fs)/\Cls K C/\WL K C f/\fs.lookup f=some v/\
 tv σ H1 λy H2=>rd v y H2 λz H3=>∃dx' OS,H3 a=some (.ins C dx' OS)/\OS.length<1000/\D.nx σ (upd H3 a (.ins C dx' (nR f z OS)))
section
variable {X:Cx} {o e value:Expr} {f:Str} {pos pos' tpos:Pos} {ta tv:TE}
theorem pe_fld (he:PE X e ta) (hb:attributeBase e f X.env (eval e X.env)=eval e X.env):PE X (.Attribute e f pos) (tFld X.K ta f):=by
 intro pins s σ H Q I h;refine Km hb (thn (he pins s σ H _ I h) λu s1 hh=>?_);obtain ⟨x,H1,I1,rx,a,C,dx,fs,v,ex,ea,c,n,l,q⟩:=hh;subst ex;obtain rfl:u=Value.ref a:=rx;exact iZ I1 ea c n l λu' s2 I2 ru=>⟨v,H1,I2,ru,q⟩
theorem ps_fld (ha:PE X o ta) (hv:PE X value tv) (hs:swapsWith value (some (.Attribute o f pos')) pos.line X.env=pure false):PS X (.Assign [.Attribute o f pos'] value pos) (sFld X.K ta tv f):=by
 intro pins s σ H D I h;refine plainObj_wpAny_Assign_Attribute (thn (hv pins s σ H _ I h) λu s1 ⟨y,H1,I1,ry,q⟩=>thn (ha pins s1 σ H1 _ I1 q) λov s2 hh=>?_) hs;obtain ⟨x,H2,I2,rx,a,C,dx,fs,ex,ea,c,n,l,q2⟩:=hh;subst ex;obtain rfl:ov=Value.ref a:=rx;exact iH I2 ea c n l ry λs3 I3=>⟨σ,_,I3,q2⟩
theorem ps_fldaug {op:Operator} {rd:V->V->Hp->VK->Prop} (ha:PE X o ta) (hv:PE X value tv) (hop:InOp X op rd):PS X (.AugAssign (.Attribute o f tpos) op value pos) (Be X.K ta tv rd f):=by
 intro pins s σ H D I h;refine wpAny_AugAssign_AttributeAny (thn (ha pins s σ H _ I h) λov s1 hh=>?_);obtain ⟨x,H1,I1,rx,a,C,dx,fs,v,ex,ea,c,n,l,q⟩:=hh;subst ex;obtain rfl:ov=Value.ref a:=rx;refine iZ I1 ea c n l λu s2 I2 ru=>thn (hv pins s2 σ H1 _ I2 q) λw3 s3 ⟨y,H2,I3,ry,q3⟩=>thn (hop pins s3 σ H2 v y u w3 _ I3 ru ry q3) λw4 s4 hh=>?_;obtain ⟨z,H3,I4,rz,dx',OS,ea',l',q4⟩:=hh;exact iH I4 ea' c n l' rz λs5 I5=>⟨σ,_,I5,q4⟩
def rAdd:V->V->Hp->VK->Prop:=λx y H Q=>∃i j,x= .int i/\y= .int j/\Q (.int (i+j)) H
theorem in_add:InOp X .Add rAdd:=by
 rintro pins s σ H x y u v Q I rx ry ⟨i,j,rfl,rfl,q⟩
 obtain ⟨t,rfl⟩:=(show ∃t,u=Value.int i t from rx);obtain ⟨t',rfl⟩:=(show ∃t',v=Value.int j t' from ry);exact PyProof.Rows.iadd_int ⟨.int (i+j),H,I.tok _,⟨_,rfl⟩,q⟩
end
section
variable {X:Cx} {pins:List (Addr×Obj)} {σ:St} {H:Hp} {s:Shared} {A:Around} {E:Value->Shared->Prop} {Q:Value->Shared->Prop} {c:Value} {b:Bool}
inductive TyOf (K:PySem.W.Frag) (H:Hp):V->Value->Prop where
 |non:TyOf K H .non (.type "NoneType")
 |bl (x:Bool):TyOf K H (.bl x) (.type "bool")
 |int (i:Int):TyOf K H (.int i) (.type "int")
 |str (x:Str):TyOf K H (.str x) (.type "str")
 |flt (x:UInt64):TyOf K H (.flt x) (.type "float")
 |lst {a:Addr} {xs:List V} (e:H a=some (.lst xs)):TyOf K H (.ref a) (.type "list")
 |frz {a:Addr} {o:Obj} {xs:List V} (e:H a=some (.frz o (.lst xs))):TyOf K H (.ref a) (.type "list")
 |tup {a:Addr} {xs:List V} (e:H a=some (.tup xs)):TyOf K H (.ref a) (.type "tuple")
 |dK {a:Addr} {kvs:List (Key×V)} (e:H a=some (.dK kvs)):TyOf K H (.ref a) (.type "dict")
 |dT {a:Addr} {kvs:List (List Key×V)} (e:H a=some (.dT kvs)):TyOf K H (.ref a) (.type "dict")
 |ins {a C dx:Addr} {fs:List (Str×V)} (e:H a=some (.ins C dx fs)) (cl:Cls K C) (ha:PySem.W.findIn K (.ref C) "__class__"=some (some (.builtin "object.__class__")))
  (hn:PySem.W.specialIn K (.builtin "object.__class__") "__get__"=some (some (.builtin "getset_descriptor.__get__"))) (htk:PySem.W.takesIn K (.builtin "object.__class__")=some true)
  (hm:PySem.W.mroIn K C (.type "object")=some true):TyOf K H (.ref a) (.ref C)
theorem CS {x:V} {u t:Value} (I:Inv X pins σ H s) (rx:Ze x u) (ty:TyOf X.K H x t) (e:PySem.W.kitOne X.K t c=some b) (h:∀tk,Q (.bool b) {s with toks:=tk}):
 wpAny (model X.prog X.w) A (call (.builtin "isinstance") [u,c]) Q E s:=by
 cases ty with
 |non=>cases (show u=Value.none from rx);exact jar PySem.W.kitx_none I.kIn True.intro e (λz=>nomatch z) h
 |bl y=>cases (show u=Value.bool y from rx);exact jar PySem.W.kitx_bool I.kIn True.intro e (λz=>nomatch z) h
 |int i=>obtain ⟨t,q⟩:=(show ∃t,u=Value.int i t from rx);cases q;exact jar PySem.W.kitx_int I.kIn True.intro e (λz=>nomatch z) h
 |str y=>obtain ⟨t,q⟩:=(show ∃t,u=Value.str y t from rx);cases q;exact jar PySem.W.kitx_str I.kIn True.intro e (λz=>nomatch z) h
 |flt y=>obtain ⟨t,q⟩:=(show ∃t,u=Value.float y t from rx);cases q;exact jar PySem.W.kitx_float I.kIn True.intro e (λz=>nomatch z) h
 |@lst a xs ea=>
  cases (show u=Value.ref a from rx);obtain ⟨_,_,n,_,h1⟩:=(show ZP X.prog X.w H s.heap a (.lst xs) from I.hok a _ ea);exact jar PySem.W.kitx_list I.kIn ⟨_,h1,rfl⟩ e (λz=>nomatch z) h
 |@frz a ob xs ea=>
  cases (show u=Value.ref a from rx);obtain ⟨_,_,_,n,_,h1⟩:=(show ZP X.prog X.w H s.heap a (.frz ob (.lst xs)) from I.hok a _ ea);exact jar PySem.W.kitx_list I.kIn ⟨_,h1,rfl⟩ e (λz=>nomatch z) h
 |@tup a xs ea=>
  cases (show u=Value.ref a from rx);obtain ⟨_,_,_,p⟩:=(show ZP X.prog X.w H s.heap a (.tup xs) from I.hok a _ ea);obtain ⟨o,h1,h2,_⟩:=p;exact jar PySem.W.kitx_tuple I.kIn ⟨o,h1,h2⟩ e (λz=>nomatch z) h
 |@dK a kvs ea=>
  cases (show u=Value.ref a from rx);obtain ⟨_,_,vs,_,p⟩:=(show ZP X.prog X.w H s.heap a (.dK kvs) from I.hok a _ ea);obtain ⟨o,es,ep,h1,h2,_⟩:=p;exact jar PySem.W.kitx_dict I.kIn ⟨o,h1,h2.1⟩ e (λz=>nomatch z) h
 |@dT a kvs ea=>
  cases (show u=Value.ref a from rx);obtain ⟨_,_,xs,_,o,es,ep,h1,h2,_⟩:=(show ZP X.prog X.w H s.heap a (.dT kvs) from I.hok a _ ea);exact jar PySem.W.kitx_dict I.kIn ⟨o,h1,h2.1⟩ e (λz=>nomatch z) h
 |@ins a C dx fs ea cl ha hn htk hm=>
  cases (show u=Value.ref a from rx);obtain ⟨mA,O,_⟩:=lz I.hok ea;obtain ⟨od,J,_⟩:=O.look;exact jar (PySem.W.kitx_own (cl.get _) cl.hd ha hn htk hm) I.kIn J e (λz=>nomatch z) h
end
end L2
namespace L2
open PySem PySem.Spec PyProof.Rows
structure Room (k:Nat) (A:Around):Prop where
 hd:A.handled=none
 dp:A.depth+3*k+5<recursionLimit
 un:A.units+16*k+200<cLine
theorem Room.mono {j k:Nat} {A:Around} (r:Room k A) (h:j<=k):Room j A:=⟨r.hd,by have:=r.dp;omega,by have:=r.un;omega⟩
theorem Room.deeper {k:Nat} {A:Around} (r:Room (k+1) A) (env:Env):Room k (A.deeper env):=
 ⟨r.hd,by have:=r.dp;show A.depth+1+3*k+5<_;omega,by have:=r.un;show A.units+3+16*k+200<_;omega⟩
theorem vS {A:Around} {C:Addr} {us:List Value} {kw:List (Str×Value)}:(A.under (.builtin "type.__call__" ⟨.ref C::us,kw⟩)).depth=A.depth+1:=by
 first|rfl|simp [Around.under,Code.weight,Code.isCreation,Code.isGuard,Code.isCaller,Code.frames,Code.isFrame,guardIds]
theorem vR {A:Around} {C:Addr} {us:List Value} {kw:List (Str×Value)}:(A.under (.builtin "type.__call__" ⟨.ref C::us,kw⟩)).units=A.units+1:=by
 first|rfl|simp [Around.under,Code.cUnits,Code.frames,Code.isFrame]
theorem Room.make {k:Nat} {A:Around} (r:Room (k+1) A) (C:Addr) (us:List Value) (kw:List (Str×Value)):Room k (A.under (.builtin "type.__call__" ⟨.ref C::us,kw⟩)):=
 ⟨r.hd,by have:=r.dp;rw [vS];omega,by have:=r.un;rw [vR];omega⟩
theorem Room.depth {k:Nat} {A:Around} (r:Room k A):A.depth<recursionLimit:=by have:=r.dp;omega
theorem Room.units {k:Nat} {A:Around} (r:Room k A):A.units+64<cLine:=by have:=r.un;omega
def tNil:TA:=λ_ H Q=>Q [] H
def tCons (ta:TE) (tr:TA):TA:=λσ H Q=>ta σ H λx H1=>tr σ H1 λxs H2=>Q (x::xs) H2
section
variable {X:Cx} {e:Expr} {es:List Expr} {te:TE} {t:TA} {pos:Pos}
theorem eD:PA X [] tNil:=λ_ _ _ _ H Q I h=>Calls.spliced_nil ⟨[],H,I, .nil,h⟩
theorem Wz (ha:PE X e te) (hr:PA X es t) (hs:starEach (e::es) X.env=(false,eval e X.env)::starEach es X.env:=by rfl):PA X (e::es) (tCons te t):=by
 intro pos pins s σ H Q I h;rw [hs];show wpAny _ _ (spliced ((false,eval e X.env)::backTo pos (starEach es X.env))) _ _ s;refine Calls.spliced_cons (thn (ha pins s σ H _ I h) λu s1 hh=>?_);obtain ⟨x,H1,I1,r1,q1⟩:=hh;exact thn (hr pos pins s1 σ H1 _ I1 q1) λus s2 ⟨xs,H2,I2,r2,q2⟩=>⟨x::xs,H2,I2, .cons r1 r2,q2⟩
def tTup (t:TA):TE:=λσ H Q=>t σ H λxs H1=>xs.length<=sizeLine/\∀p,H1 p=none->Q (.ref p) (upd H1 p (.tup xs))
def tLst (t:TA):TE:=λσ H Q=>t σ H λxs H1=>xs.length<=sizeLine/\∀p,H1 p=none->Q (.ref p) (upd H1 p (.lst xs))
theorem pe_tup {x1} (h:PA X es t):PE X (.Tuple es x1 pos) (tTup t):=by
 intro pins s σ H Q I hq;refine wpAny_Tuple_spliced (thn (h pos pins s σ H _ I hq) λus s1 ⟨xs,H1,I1,r,z,q⟩=>⟨by rw [<-r.length];exact z,?_⟩);have hf:H1 s1.heap.objs.size=none:=I1.hok.fresh (Qp _);refine ⟨.ref s1.heap.objs.size,upd H1 s1.heap.objs.size (.tup xs),I1.laid (t':=s1.toks) (λb u e=>Qh _ e) (Qp _) ?_,rfl,q _ hf⟩;exact ⟨z,us,r,⟨_,Qu _ rfl,rfl,_,rfl⟩⟩
theorem pe_lst (h:PA X es t):PE X (.List es pos) (tLst t):=by
 intro pins s σ H Q I hq;refine wpAny_List_spliced (thn (h pos pins s σ H _ I hq) λus s1 ⟨xs,H1,I1,r,z,q⟩=>⟨by rw [<-r.length];exact z,?_⟩);have hf:H1 s1.heap.objs.size=none:=I1.hok.fresh (Qp _);refine ⟨.ref s1.heap.objs.size,upd H1 s1.heap.objs.size (.lst xs),I1.laid (t':=s1.toks) (λb u e=>Qh _ e) (Qp _) ?_,rfl,q _ hf⟩;exact ⟨z,us,0,r,Qu _ rfl⟩
end
abbrev Sp:=List V->Hp->VK->XK->Prop
abbrev CXT:=List Env->Hp->Shared->XK->Value->Shared->Prop
structure Env0 (P:Program) (w:World) (K:PySem.W.Frag) (mg:Str->Option Value) (base:Heap) (A:Around) (outer:List Env) (s:Shared) (H:Hp):Prop where
 frames:A.frames=some outer
 mod:Mod K mg base
 bs:∀b o,base.get? b=some o->s.heap.get? b=some o/\H b=none
 bsz:base.objs.size<=s.heap.objs.size
 funs:s.heap.FunFrames base outer
 frf:∀b∈frs outer,H b=none
 hok:HOk P w H s.heap
 bare:AllBare s.gens
def CE (outer:List Env) (P:Program) (w:World) (H:Hp) (s:Shared) (Q:VK) (u:Value) (s':Shared):Prop:=
 ∃v H',s'.os=s.os/\AllBare s'.gens/\Un (frs outer) [] H H' s.heap s'.heap/\HOk P w H' s'.heap/\Ze v u/\Q v H'
def CR (CX:CXT) (outer:List Env) (P:Program) (w:World) (H:Hp) (s:Shared) (Q:VK) (E:XK) (r:Result) (s':Shared):Prop:=
 match r with
 | .ok (.ret u)=>CE outer P w H s Q u s'
 | .ok _=>False
 | .error e=>CX outer H s E e s'
structure FnOk (P:Program) (w:World) (K:PySem.W.Frag) (mg:Str->Option Value) (base:Heap) (CX:CXT) (k:Nat) (f:Addr) (fd:FuncData) (ps:List Str) (sp:Sp):Prop where
 len:∀vs H Q E,sp vs H Q E->vs.length=ps.length
 run:∀(A:Around) (outer:List Env) (s:Shared) (H:Hp) (args:Args) (us:List Value) (vs:List V) (Q:VK) (E:XK),Room k A->Env0 P w K mg base A outer s H->BindsTo s fd args (ps.zip us)->xn vs us->sp vs H Q E->
  codeAny (model P w) A (.call (.ref f) args) (CR CX outer P w H s Q E) s
theorem FnOk.mono {P:Program} {w:World} {K:PySem.W.Frag} {mg:Str->Option Value} {base:Heap} {CX:CXT} {j k:Nat} {f:Addr} {fd:FuncData} {ps:List Str} {sp:Sp} (F:FnOk P w K mg base CX j f fd ps sp) (h:j<=k):
 FnOk P w K mg base CX k f fd ps sp:=⟨F.len,λA outer s H args us vs Q E hr=>F.run A outer s H args us vs Q E (hr.mono h)⟩
theorem Env0.make {P:Program} {w:World} {K:PySem.W.Frag} {mg:Str->Option Value} {base:Heap} {A:Around} {outer:List Env} {s:Shared} {H:Hp} (e:Env0 P w K mg base A outer s H) (C:Addr) (us:List Value) (kw:List (Str×Value)):
 Env0 P w K mg base (A.under (.builtin "type.__call__" ⟨.ref C::us,kw⟩)) outer s H:=⟨by first|exact e.frames|(simpa [Around.under,Code.envs,Code.isFrame,pushEnvs] using e.frames),e.mod,e.bs,e.bsz,e.funs,e.frf,e.hok,e.bare⟩
section
variable {X:Cx} {pins:List (Addr×Obj)} {σ:St} {H:Hp} {s s':Shared}
theorem Inv.env0 (I:Inv X pins σ H s):Env0 X.prog X.w X.K X.mg X.base X.A X.stack s H:=
 ⟨I.ok.frames,I.ok.mod,I.bs,QI I.ok.bsz I.sz,I.stack,I.stkFree,I.hok,I.bare⟩
theorem Inv.after {Q:VK} {u:Value} (I:Inv X pins σ H s) (h:CE X.stack X.prog X.w H s Q u s'):EP X pins σ Q u s':=by
 obtain ⟨v,H',os,bare,un,hok,r,q⟩:=h;obtain ⟨hh,g,d,t,Oq⟩:=s';obtain rfl:Oq=s.os:=os;exact ⟨v,H',I.call (h':=hh) (g':=g) (d':=d) (t':=t) (ch:=[]) un hok bare (λb z=>absurd z (by simp)),r,q⟩
end
def uX (sp:Sp) (dvs:List V) (E:XK) (t:TA):TE:=λσ H Q=>t σ H λvs H1=>sp (vs++dvs) H1 Q E
def tMeth (C:Addr) (m:Str) (sp:Sp) (dvs:List V) (E:XK) (ta:TE) (t:TA):TE:=λσ H Q=>ta σ H λx H1=>∃a dx fs,x= .ref a/\H1 a=some (.ins C dx fs)/\fs.lookup m=none/\
 t σ H1 λvs H2=>sp (x::(vs++dvs)) H2 Q E
def IJ (C:Addr) (sp:Sp) (dvs:List V) (E:XK) (t:TA):TE:=λσ H Q=>t σ H λvs H1=>∀x dx,H1 x=none->H1 dx=none->dx≠x->
 sp (.ref x::(vs++dvs)) (upd (upd H1 dx (.own x)) x (.ins C dx [])) (λv H2=>v= .non/\Q (.ref x) H2) E
def yD (K:PySem.W.Frag) (fd:FuncData) (ps:List Str) (ds:List Value):Prop:=
 ∀(s:Shared) (us:List Value),K.In s.heap->(us++ds).length=ps.length->BindsTo s fd ⟨us,[]⟩ (ps.zip (us++ds))
theorem yD.all {K:PySem.W.Frag} {fd:FuncData} {ps:List Str} (h:∀us:List Value,us.length=ps.length->bindArgs fd ⟨us,[]⟩=pure (ps.zip us)):yD K fd ps []:=λs us _ hl=>by
 rw [jaC] at hl⊢;exact .of_eq (h us hl)
def WK (CX:CXT) (X:Cx) (E:XK):Prop:=∀(pins:List (Addr×Obj)) (σ:St) (H:Hp) (s:Shared) (e:Value) (s':Shared),Inv X pins σ H s->CX X.stack H s E e s'->X.xe e s'
section
variable {X:Cx} {CX:CXT} {k:Nat} {f C:Addr} {fd:FuncData} {ps:List Str} {sp:Sp} {dvs:List V} {ds:List Value} {E:XK} {x m:Str} {p pos apos:Pos} {e o:Expr} {es:List Expr} {ta:TE} {t:TA}
theorem nr {pins:List (Addr×Obj)} {σ:St} {H:Hp} {s:Shared} {Q:VK} {us:List Value} {vs:List V} (F:FnOk X.prog X.w X.K X.mg X.base CX k f fd ps sp) (hr:Room k X.A) (hb:yD X.K fd ps ds) (hd:xn dvs ds) (hx:WK CX X E)
 (I:Inv X pins σ H s) (r:xn vs us) (h:sp (vs++dvs) H Q E):wpAny (model X.prog X.w) X.A (call (.ref f) us) (EP X pins σ Q) X.xe s:=by
 have r2:xn (vs++dvs) (us++ds):=r.append hd;have hl:(us++ds).length=ps.length:=by rw [<-r2.length];exact F.len _ _ _ _ h
 refine wpAny_call (jbN (F.run X.A X.stack s H ⟨us,[]⟩ (us++ds) (vs++dvs) Q E hr I.env0 (hb s us I.kIn hl) r2 h) λr s' hq=>?_)
 cases r with
 |error e=>exact hx pins σ H s e s' I hq
 |ok fl=>
  cases fl with
  |ret u=>exact I.after hq
  |next=>exact False.elim hq
  |brk=>exact False.elim hq
  |cont=>exact False.elim hq
theorem Jt (F:FnOk X.prog X.w X.K X.mg X.base CX k f fd ps sp) (hr:Room k X.A) (hg:Gl X x) (hm:X.mg x=some (.ref f)) (hk:PySem.W.keepIn X.K (.ref f)=true) (hb:yD X.K fd ps ds) (hd:xn dvs ds) (hx:WK CX X E)
 (ha:PA X (e::es) t) (Nf:(x==("__debug__":Str))=false:=by decide) (he:starEach (e::es) X.env=(false,eval e X.env)::starEach es X.env:=by rfl) (Mm:(backTo pos (starEach es X.env)).any (·.1)=false:=by rfl):
 PE X (.Call (.Name x p) (e::es) [] pos) (uX sp dvs E t):=by
 intro pins s σ H Q I h;refine jaI (fc I hg hm ?_ Nf);refine jbk (h₀:=X.base) I.ok.mod.kin hk (thn (ha pos pins s σ H _ I h) λus s1 ⟨vs,H1,I1,r,q⟩=>⟨I1.kIn,?_⟩) he Mm;exact nr F hr hb hd hx I1 r q
theorem pe_meth {pl:Sem Bool} (he:PE X o ta) (c:Cls X.K C) (hm:Meth X.K C m f) (F:FnOk X.prog X.w X.K X.mg X.base CX k f fd ps sp) (hr:Room k X.A) (hb:yD X.K fd ps ds) (hd:xn dvs ds) (hx:WK CX X E) (ha:PA X (e::es) t)
 (Mh:starEach (e::es) X.env=(false,eval e X.env)::starEach es X.env:=by rfl) (Mm:(backTo pos (starEach es X.env)).any (·.1)=false:=by rfl)
 (ht:eval (.Call (.Attribute o m apos) (e::es) [] pos) X.env=(do
  let ov<-eval o X.env
  standAt apos.atName
  let (f,first)<-holding [ov] (getMethod ov m pl)
  callWith pos f first (backTo pos (starEach (e::es) X.env)) (backToKw pos (keywordEach [] X.env))):=by rfl):
 PE X (.Call (.Attribute o m apos) (e::es) [] pos) (tMeth C m sp dvs E ta t):=by
 intro pins s σ H Q I h;refine PySem.W.methodCall_KW (pl:=pl) (thn (he pins s σ H _ I h) λu s1 ⟨x,H1,I1,rx,a,dx,fs,ex,ea,l,q⟩=>?_) ht;subst ex;obtain rfl:u=Value.ref a:=rx;refine aA I1 ea c hm l ?_;refine jbk (first:=[.ref a]) (h₀:=X.base) I.ok.mod.kin hm.kp (thn (ha pos pins s1 σ H1 _ I1 q) λus s2 ⟨vs,H2,I2,r,q2⟩=>⟨I2.kIn,?_⟩) Mh Mm;exact nr (us:= .ref a::us) (vs:= .ref a::vs) F hr hb hd hx I2 (.cons rfl r) q2
structure Mk (K:PySem.W.Frag) (C f:Addr):Prop where
 makes:PySem.W.makesIn K C=true
 init:PySem.W.findIn K (.ref C) "__init__"=some (some (.ref f))
 fn:PySem.W.isFn K (.ref f)=true
 kp:PySem.W.keepIn K (.ref C)=true
theorem tj {pins:List (Addr×Obj)} {σ:St} {H:Hp} {s:Shared} {Q:VK} {us:List Value} {vs:List V} (M:Mk X.K C f) (F:FnOk X.prog X.w X.K X.mg X.base CX k f fd ps sp) (hr:Room (k+1) X.A) (hb:yD X.K fd ps ds) (hd:xn dvs ds)
 (hx:WK CX X E) (I:Inv X pins σ H s) (r:xn vs us)
 (h:∀x dx,H x=none->H dx=none->dx≠x->sp (.ref x::(vs++dvs)) (upd (upd H dx (.own x)) x (.ins C dx [])) (λv H2=>v= .non/\Q (.ref x) H2) E):
 wpAny (model X.prog X.w) X.A (call (.ref C) us) (EP X pins σ Q) X.xe s:=by
 have hq:=h (s.heap.objs.size+1) s.heap.objs.size (I.hok.fresh (jal _)) (I.hok.fresh (Qp _)) (QM (Th _));have I2:=Inv.made (C:=C) I;have r2:xn (V.ref (s.heap.objs.size+1)::(vs++dvs)) (Value.ref (s.heap.objs.size+1)::(us++ds)):= .cons rfl (r.append hd)
 have hl:(Value.ref (s.heap.objs.size+1)::us++ds).length=ps.length:=by
  have e:=r2.length;rw [F.len _ _ _ _ hq] at e;exact e.symm
 refine wpAny_call (FK (f:=f) I.kIn M.makes M.init (beq_iff_eq.mp M.fn) (jbN (F.run _ X.stack _ _ ⟨Value.ref (s.heap.objs.size+1)::us,[]⟩ (Value.ref (s.heap.objs.size+1)::(us++ds)) _ _ E (hr.make C us [])
  (I2.env0.make C us []) (hb _ (Value.ref (s.heap.objs.size+1)::us) I2.kIn hl) r2 hq) λr s' Nc=>?_))
 cases r with
 |error e=>exact hx pins σ _ _ e s' I2 Nc
 |ok fl=>
  cases fl with
  |ret u=>
   obtain ⟨v,H',I3,rv,ev,q3⟩:=I2.after Nc;subst ev;exact ⟨rv,⟨V.ref (s.heap.objs.size+1),H',I3,rfl,q3⟩⟩
  |next=>exact False.elim Nc
  |brk=>exact False.elim Nc
  |cont=>exact False.elim Nc
theorem pe_make (M:Mk X.K C f) (F:FnOk X.prog X.w X.K X.mg X.base CX k f fd ps sp) (hr:Room (k+1) X.A) (hg:Gl X x) (hm:X.mg x=some (.ref C)) (hb:yD X.K fd ps ds) (hd:xn dvs ds) (hx:WK CX X E)
 (ha:PA X (e::es) t) (Nf:(x==("__debug__":Str))=false:=by decide) (he:starEach (e::es) X.env=(false,eval e X.env)::starEach es X.env:=by rfl) (Mm:(backTo pos (starEach es X.env)).any (·.1)=false:=by rfl):
 PE X (.Call (.Name x p) (e::es) [] pos) (IJ C sp dvs E t):=by
 intro pins s σ H Q I h;refine jaI (fc I hg hm ?_ Nf);refine jbk (h₀:=X.base) I.ok.mod.kin M.kp (thn (ha pos pins s σ H _ I h) λus s1 ⟨vs,H1,I1,r,q⟩=>⟨I1.kIn,?_⟩) he Mm;exact tj M F hr hb hd hx I1 r q
theorem pe_make0 (M:Mk X.K C f) (F:FnOk X.prog X.w X.K X.mg X.base CX k f fd ps sp) (hr:Room (k+1) X.A) (hg:Gl X x) (hm:X.mg x=some (.ref C)) (hb:yD X.K fd ps ds) (hd:xn dvs ds) (hx:WK CX X E)
 (Nf:(x==("__debug__":Str))=false:=by decide):PE X (.Call (.Name x p) [] [] pos) (IJ C sp dvs E tNil):=by
 intro pins s σ H Q I h;refine jaI (fc I hg hm ?_ Nf);exact PySem.W.callWith_K0 I.kIn M.kp (tj (us:=[]) M F hr hb hd hx I .nil h)
end
section
variable {X:Cx} {CX:CXT} {k:Nat} {f C:Addr} {fd:FuncData} {ps ks:List Str} {sp:Sp} {E:XK} {x m:Str} {p pos apos kpos:Pos} {e o:Expr} {es:List Expr} {kws:List Keyword} {te ta:TE} {t tk:TA} {nm:Option Str}
variable {g:List Value->List Value->List Value} {gV:List V->List V->List V}
end
structure FnScope (N P:List Str) (sc:Scope):Prop where
 kind:sc.kind= .function
 co:sc.isCoroutine=false
 gen:sc.isGenerator=false
 nd:N.Nodup
 pre:N.take P.length=P
 par:∀x∈P,sc.names.lookup x=some .local\/sc.names.lookup x=some .cell
 nofree:∀y∈sc.names,y.2≠ .free
theorem oU {kindOf:Str->Option NameKind} {x:Str}:∀{binds:List (Str×Value)} {m:Str->Option Value},(∀v,(x,v)∉binds)->bindL kindOf binds m x=m x
 |[],_,_=>rfl
 |(n,v)::r,m,h=>by
  unfold bindL;rw [oU λw hw=>h w (Qd _ hw)]
  split
  ·have:x≠n:=by rintro rfl;exact h v Qb
   simp [this]
  ·rfl
theorem oW {kindOf:Str->Option NameKind} {x:Str}:∀{binds:List (Str×Value)} {m:Str->Option Value},(∀v,(x,v)∉binds)->bindC kindOf binds m x=m x
 |[],_,_=>rfl
 |(n,v)::r,m,h=>by
  unfold bindC;rw [oW λw hw=>h w (Qd _ hw)]
  split
  ·rfl
  ·have:x≠n:=by rintro rfl;exact h v Qb
   simp [this]
theorem oV {kindOf:Str->Option NameKind} {x:Str} {v:Value}:∀{P:List Str} {vs:List Value} {i:Nat} {m:Str->Option Value},P.Nodup->P[i]? =some x->vs[i]? =some v->kindOf x=some .local->
 bindL kindOf (P.zip vs) m x=some v
 |[],_,_,_,_,h,_,_=>by simp at h
 |_::_,[],_,_,_,_,h,_=>by simp at h
 |p::P,w::vs,0,m,nd,h1,h2,hk=>by
  simp at h1 h2;subst h1;subst h2;show bindL kindOf ((p,w)::P.zip vs) m p=_;unfold bindL;rw [oU λv hv=>(TK.mp nd).1 (jbn hv).1,QH hk]
  simp
 |p::P,w::vs,i+1,m,nd,h1,h2,hk=>by
  show bindL kindOf ((p,w)::P.zip vs) m x=_;unfold bindL;exact oV (i:=i) (TK.mp nd).2 (by simpa using h1) (by simpa using h2) hk
theorem oX {kindOf:Str->Option NameKind} {x:Str} {v:Value}:∀{P:List Str} {vs:List Value} {i:Nat} {m:Str->Option Value},P.Nodup->P[i]? =some x->vs[i]? =some v->kindOf x≠some .local->
 bindC kindOf (P.zip vs) m x=some v
 |[],_,_,_,_,h,_,_=>by simp at h
 |_::_,[],_,_,_,_,h,_=>by simp at h
 |p::P,w::vs,0,m,nd,h1,h2,hk=>by
  simp at h1 h2;subst h1;subst h2;show bindC kindOf ((p,w)::P.zip vs) m p=_;unfold bindC;rw [oW λv hv=>(TK.mp nd).1 (jbn hv).1,QP hk]
  simp
 |p::P,w::vs,i+1,m,nd,h1,h2,hk=>by
  show bindC kindOf ((p,w)::P.zip vs) m x=_;unfold bindC;exact oX (i:=i) (TK.mp nd).2 (by simpa using h1) (by simpa using h2) hk
def jG (N:List Str) (vs:List V):St:=vs.map some++List.replicate (N.length - vs.length) none
def Ig (CX:CXT) (P:Program) (w:World) (K:PySem.W.Frag) (mg:Str->Option Value) (base:Heap) (N:List Str) (qual:Str) (scope:Scope) (f:Addr) (cd:Value) (A:Around) (outer:List Env) (s:Shared) (H:Hp) (E:XK):Cx where
 prog:=P
 w:=w
 K:=K
 mg:=mg
 base:=base
 A:=A.deeper (envOfC qual scope s.heap.objs.size f cd)
 N:=N
 s₀:=s
 H₀:=H
 env:=envOfC qual scope s.heap.objs.size f cd
 outer:=outer
 stack:=envOfC qual scope s.heap.objs.size f cd::outer
 ex:=[]
 calm:=true
 fn:=λ_=>true
 pn:=[]
 xe:=λe s'=>wpAny (model P w) (A.deeper (envOfC qual scope s.heap.objs.size f cd)) (leaving (envOfC qual scope s.heap.objs.size f cd) e) (λ_ Pd=>CX outer H s E e Pd) (λe' Pd=>CX outer H s E e' Pd) s'
theorem uq {sc:Scope} {n:Nat} {x:Str} (h:sc.names.lookup x=some .cell):∃c,(cellsFrom n sc.names []).lookup x=some c:=by
 have q:=PySem.W.cellsFrom_some sc.names n [] (.inl h);exact jae.mp q
theorem CT {CX:CXT} {P:Program} {w:World} {K:PySem.W.Frag} {mg:Str->Option Value} {base:Heap} {N ps:List Str} {qual:Str} {scope:Scope} {f:Addr} {cd:Value} {A:Around} {outer:List Env} {s s1:Shared} {H:Hp} {E:XK} {us:List Value} {vs:List V}
 (S:FnScope N ps scope) (hd:A.handled=none) (e0:Env0 P w K mg base A outer s H) (hl:vs.length=ps.length) (r:xn vs us)
 (x:InCallC s s.heap.objs.size (bindL (envOfC qual scope s.heap.objs.size f cd).kindOf (ps.zip us) λ_=>none) (cellsFrom (s.heap.objs.size+1) scope.names []) (bindC (envOfC qual scope s.heap.objs.size f cd).kindOf (ps.zip us) λ_=>none) s1):
 Inv (Ig CX P w K mg base N qual scope f cd A outer s H E) [] (jG N vs) H s1:=by
 have Mm:ps.length<=N.length:=by have:=congrArg List.length S.pre;rw [Tq] at this;omega
 obtain ⟨h1,tk,rfl,hk⟩:=x.done;have noA:∀b:Addr,b∉(Ig CX P w K mg base N qual scope f cd A outer s H E).ex:=λb z=>absurd (show b∈([]:List Addr) from z) (by simp)
 refine ⟨⟨e0.mod,S.kind,rfl,rfl,Qp _,λy z c h1 h2=>?_,λy hy=>?_,λy c _ h=>?_,λ_=>hd,Around.frames_deeper e0.frames, .inr ⟨rfl,rfl⟩,λb z=>absurd z (noA b),e0.bs,e0.bsz,λb _ _=>noA b,λb z=>absurd z (noA b),e0.funs,e0.frf⟩,
  rfl,e0.bare,Un.kept hk,⟨_,x.toInCall.ns,λi y v h1 h2 h3=>?_⟩,λy c h=>⟨_,x.cell y c h⟩,e0.hok.fresh (Qp _),λy c h=>?_,λp hp=>absurd (show p∈([]:List (Addr×Obj)) from hp) (by simp),e0.hok.kept hk,?_⟩
 ·exact name_of_addr x.apart (jaz h1) (jaz h2)
 ·have hy:scope.names.lookup y=some .cell\/scope.names.lookup y=some .free:=hy
  rcases hy with hy|hy
  ·exact uq hy
  ·exact absurd rfl (S.nofree _ (jaz hy))
 ·exact jbm (x.above y c (jaz h))
 ·have hi:i<vs.length:=by
   unfold jG at h2
   by_cases hi:i<vs.length
   ·exact hi
   ·rw [Tp (by simpa using hi)] at h2;rw [QS] at h2
    split at h2<;>cases h2
  have ha:vs[i]? =some v:=by
   unfold jG at h2;rw [TU (by simpa using hi),Qi] at h2
   cases e:vs[i]? with
   |none=>rw [e] at h2;cases h2
   |some a=>rw [e] at h2;cases h2;rfl
  obtain ⟨u,hu,rv⟩:=r.get ha
  have hp:ps[i]? =some y:=by
   rw [<-S.pre,List.getElem?_take_of_lt (by omega)];exact h1
  have ndP:ps.Nodup:=by rw [<-S.pre];exact S.nd.sublist (List.take_sublist _ _)
  refine ⟨u,rv,?_⟩
  rcases S.par y (Qe hp) with k|k
  ·exact .inl ⟨k,oV ndP hp hu k⟩
  ·obtain ⟨c,e⟩:=uq (n:=s.heap.objs.size+1) k;refine .inr ⟨.inl k,c,e,?_⟩;have q:=x.cell y c e;rw [oX ndP hp hu (by show scope.names.lookup y≠_;rw [k];decide)] at q;exact q
 ·exact e0.hok.fresh (jbm (x.above y c (jaz h)))
 ·unfold jG;show _=N.length;rw [Qy,Qa,QB];omega
theorem fn_of {CX:CXT} {P:Program} {w:World} {K:PySem.W.Frag} {mg:Str->Option Value} {base:Heap} {k:Nat} {f:Addr} {name qual:Str} {params:Arguments} {body:List Stmt} {scope:Scope} {dV kV doc pm LV ct oc:Value} {an od:Option Addr}
 {osl:Array (Option Value)} {N ps:List Str} {sp:Sp} (lk:K.lookup f=some ⟨oc,od, .func (PySem.W.fnOf name qual params body scope dV kV doc pm an LV ct),osl⟩) (LW:PySem.W.codeIn K LV qual=true) (S:FnScope N ps scope)
 (len:∀vs H Q E,sp vs H Q E->vs.length=ps.length)
 (MH:∀(A:Around) (outer:List Env) (s:Shared) (H:Hp) (vs:List V) (Q:VK) (E:XK),Room k (A.deeper (envOfC qual scope s.heap.objs.size f LV))->sp vs H Q E->
  ∃t,PSs (Ig CX P w K mg base N qual scope f LV A outer s H E) body t/\t {nx:=λ_ H'=>Q .non H',rt:=Q} (jG N vs) H):
 FnOk P w K mg base CX (k+1) f (PySem.W.fnOf name qual params body scope dV kV doc pm an LV ct) ps sp:=by
 refine ⟨len,λA outer s H args us vs Q E hr e0 hb r Oa=>?_⟩;have hl:=len _ _ _ _ Oa;have KX:K.In s.heap:=e0.mod.kin.keeps λb o e=>(e0.bs b o e).1;have lim:s.heap.NoLimit:=e0.mod.nolimit.keeps λb o e=>(e0.bs b o e).1
 have Pz:∀y∈ps.zip us,scope.names.lookup y.1=some .local\/(scope.names.lookup y.1=some .cell/\((cellsFrom (s.heap.objs.size+1) scope.names []).lookup y.1).isSome=true):=λ⟨n,v⟩ hy=>by
  rcases S.par n (jbn hy).1 with q|q
  ·exact .inl q
  ·exact .inr ⟨q,PySem.W.cellsFrom_some _ _ _ (.inl q)⟩
 refine codeAny_call_function hr.depth (KX _ _ lk) rfl S.co S.gen rfl (PySem.W.codeRec_of KX LW) (hb _ _ _ _ ?_);refine wpAny_newFunctionEnv_cells S.kind Pz λenv he s1 x=>?_;subst he;refine ⟨lim.keeps x.toInCall.keep,codeAny_func ?_⟩;obtain ⟨t,ht,hq⟩:=MH A outer s H vs Q E (hr.deeper _) Oa;have I:Inv (Ig CX P w K mg base N qual scope f LV A outer s H E) [] (jG N vs) H s1:=CT S hr.hd e0 hl r x;refine wpAny_mono (ht [] s1 (jG N vs) H _ I hq) (λfl s' hs=>?_) λe s' hs=>hs
 have fin:∀{σ':St} {H':Hp} {v:V} {u:Value},Inv (Ig CX P w K mg base N qual scope f LV A outer s H E) [] σ' H' s'->Ze v u->Q v H'->CE outer P w H s Q u s':=
  λ{σ' H' v u} J rv q=>⟨v,H',J.os,J.bare,J.base,J.hok,rv,q⟩
 cases fl with
 |ret u=>
  obtain ⟨v,σ',H',J,rv,q⟩:=hs;exact fin J rv q
 |next=>
  obtain ⟨σ',H',J,q⟩:=hs;exact fin (v:=V.non) (u:=Value.none) J rfl q
 |brk=>
  obtain ⟨_,_,_,q⟩:=hs;exact False.elim q
 |cont=>
  obtain ⟨_,_,_,q⟩:=hs;exact False.elim q
end L2
namespace L2
open PySem PySem.Spec PyProof.Rows
section
variable {X:Cx} {x:Str} {p pos:Pos} {e:Expr} {es:List Expr} {t:TA} {id T:String} {r:List V->Hp->VK->Prop}
def tCB (r:List V->Hp->VK->Prop) (t:TA):TE:=λσ H Q=>t σ H λvs H1=>r vs H1 Q
theorem cx (hc:Wb X (.builtin id) r) (hg:Gl X x) (hm:X.mg x=none) (hv:bootBuiltins x=some (.builtin id)) (ha:PA X (e::es) t) (hn:x≠"__name__":=by decide) (Nf:(x==("__debug__":Str))=false:=by decide)
 (he:starEach (e::es) X.env=(false,eval e X.env)::starEach es X.env:=by rfl) (Mm:(backTo pos (starEach es X.env)).any (·.1)=false:=by rfl):PE X (.Call (.Name x p) (e::es) [] pos) (tCB r t):=by
 intro pins s σ H Q I h;refine jaI (Vm I hg hm hv ?_ hn Nf);exact PyProof.Rows.callWith_builtin1 (thn (ha pos pins s σ H _ I h) λus s1 ⟨vs,H1,I1,r1,q1⟩=>hc pins s1 σ H1 vs us Q I1 r1 q1) he Mm
theorem pe_callTy (hc:Wb X (.type T) r) (hg:Gl X x) (hm:X.mg x=none) (hv:bootBuiltins x=some (.type T)) (ha:PA X (e::es) t) (hn:x≠"__name__":=by decide) (Nf:(x==("__debug__":Str))=false:=by decide)
 (he:starEach (e::es) X.env=(false,eval e X.env)::starEach es X.env:=by rfl) (Mm:(backTo pos (starEach es X.env)).any (·.1)=false:=by rfl):PE X (.Call (.Name x p) (e::es) [] pos) (tCB r t):=by
 intro pins s σ H Q I h;refine jaI (Vm I hg hm hv ?_ hn Nf);exact TF (thn (ha pos pins s σ H _ I h) λus s1 ⟨vs,H1,I1,r1,q1⟩=>hc pins s1 σ H1 vs us Q I1 r1 q1) he Mm
end
end L2
namespace HT
open PySem PyProof.Rows
section
open PySem.SeqAt
open PySem.AutoSeq1 (wpAny_loadPart')
open PySem.MeetsSeq PySem.MeetsSeq2 PySem.MeetsSeq3
end
section
variable {prog:Program} {w:World} {A:Around} {E:Value->Shared->Prop} {s:Shared}
def sIx (n d:Nat):Option Int->Nat
 |none=>d
 |some v=>if v<0 then (v+(n:Int)).toNat else min v.toNat n
theorem sIx_none (n d:Nat):sIx n d none=d:=rfl
theorem sIx_nat (n d k:Nat):sIx n d (some (k:Int))=min k n:=by
 show (if (k:Int)<0 then ((k:Int)+(n:Int)).toNat else min (k:Int).toNat n)=min k n;rw [QP (by omega),TV]
theorem sIx_le (n d:Nat) (hd:d<=n) (o:Option Int):sIx n d o<=n:=by
 cases o with
 |none=>exact hd
 |some v=>
  show (if v<0 then (v+(n:Int)).toNat else min v.toNat n)<=n
  by_cases hv:v<0
  ·rw [QH hv];omega
  ·rw [QP hv];exact Nat.min_le_right _ _
theorem DF (v:Int) (n d:Nat):(if v<0 then max (v+(n:Int)) 0 else min v (n:Int))=((sIx n d (some v):Nat):Int):=by
 show (if v<0 then max (v+(n:Int)) 0 else min v (n:Int))=(((if v<0 then (v+(n:Int)).toNat else min v.toNat n):Nat):Int)
 by_cases hv:v<0
 ·simp only [QH hv];omega
 ·simp only [QP hv];omega
theorem wR (lo hi:Option Int) (n:Nat):Builtin.Slice.sliceAdjust lo hi 1 (n:Int)=(((sIx n 0 lo:Nat):Int),((sIx n n hi:Nat):Int)):=by
 have h1:¬((1:Int)<0):=by omega
 unfold Builtin.Slice.sliceAdjust;simp only [h1,if_false];refine Prod.ext ?_ ?_
 ·cases lo with
  |none=>rfl
  |some v=>exact DF v n 0
 ·cases hi with
  |none=>rfl
  |some v=>exact DF v n n
theorem vx (i j:Nat):Builtin.Slice.slicePlaces (i:Int) (j:Int) 1=j - i:=by
 unfold Builtin.Slice.slicePlaces;have h1:(1:Int)>0:=by omega
 simp only [h1,if_true,Int.ediv_one]
 split<;>omega
theorem iG {v:Value} {o:Option Int} {Q:Option Int->Shared->Prop} (p:IsPart v o) (h:Q o s):wpAny (model prog w) A (Builtin.Slice.slicePartIndex v) Q E s:=by
 cases p with
 |none=>exact slicePart_none h
 |int i t=>exact slicePart_int h
theorem bL {sl:Addr} {vl vu:Value} {lo hi:Option Int} {n:Nat} {Q:Int×Int×Nat->Shared->Prop} (hs:s.heap.IsSliceOf sl vl vu .none) (pl:IsPart vl lo) (pu:IsPart vu hi)
 (h:Q (((sIx n 0 lo:Nat):Int),1,sIx n n hi - sIx n 0 lo) s):wpAny (model prog w) A (Builtin.Slice.sliceApplied (.ref sl) (pure (n:Int))) Q E s:=by
 obtain ⟨os,Pw,hcs,RM⟩:=id hs;unfold Builtin.Slice.sliceApplied Builtin.Slice.sliceFields;refine Qg (Qg (jau Pw RM (x:=vl) rfl (Qg (jau Pw RM (x:=vu) rfl (Qg (jau Pw RM (x:= .none) rfl (Qm ?_)))))));refine Qg (slicePart_none ?_);show wpAny _ _ (if ((1:Int)==0)=true then _ else _) _ _ s;rw [QP (by decide)];refine Qg (iG pl (Qg (iG pu (Qg (Qm ?_)))));show wpAny _ _ (match Builtin.Slice.sliceAdjust lo hi 1 (n:Int) with|(lo,hi)=>pure (lo,(1:Int),Builtin.Slice.slicePlaces lo hi 1)) _ _ s;rw [wR lo hi n];show wpAny _ _ (pure (((sIx n 0 lo:Nat):Int),(1:Int),Builtin.Slice.slicePlaces ((sIx n 0 lo:Nat):Int) ((sIx n n hi:Nat):Int) 1)) _ _ s;rw [vx];exact Qm h
theorem Fh (xs:Array Value) (i k:Nat):((List.range k).filterMap λ(m:Nat)=>xs[((i:Int)+(m:Int)*1).toNat]?).toArray=((xs.toList.drop i).take k).toArray:=by
 have e:(λ(m:Nat)=>xs[((i:Int)+(m:Int)*1).toNat]?)=λm=>xs[i+m]? :=by
  funext m
  have:((i:Int)+(m:Int)*1).toNat=i+m:=by omega
  rw [this]
 rw [e];have:=pick_run xs i k;rw [List.filterMap_map] at this;have e2:((λx=>xs[x]?)∘λx=>i+x)=λm=>xs[i+m]? :=rfl;rw [e2] at this;rw [this]
theorem getItem_tuple_cut {t sl:Addr} {items:Array Value} {vl vu:Value} {lo hi:Option Int} {Q:Value->Shared->Prop} (ht:IsTup s.heap t items) (hs:s.heap.IsSliceOf sl vl vu .none) (pl:IsPart vl lo) (pu:IsPart vu hi)
 (hw:¬(sIx items.size 0 lo=0/\sIx items.size items.size hi=items.size))
 (h:Q (.ref s.heap.objs.size) {s with heap:=s.heap.push {cls:= .type "tuple",data:= .seq ((items.toList.drop (sIx items.size 0 lo)).take (sIx items.size items.size hi - sIx items.size 0 lo)).toArray}})
 (MW:items.size<=sizeLine):wpAny (model prog w) A (getItem (.ref t) (.ref sl)) Q E s:=by
 have MV:sizeOk (.seq ((items.toList.drop (sIx items.size 0 lo)).take (sIx items.size items.size hi - sIx items.size 0 lo)).toArray):=by
  show ((items.toList.drop (sIx items.size 0 lo)).take (sIx items.size items.size hi - sIx items.size 0 lo)).toArray.size<=sizeLine;rw [QD,Tq,Ti,jaf];omega
 have hj:sIx items.size items.size hi<=items.size:=sIx_le _ _ (Qp _) hi;obtain ⟨os,Pw,hcs,RM⟩:=id hs;have hTs:s.TypeIs (.ref sl) "slice":=⟨os,Pw,hcs⟩;unfold getItem
 try with_reducible refine jaQ ?_
 first|refine Qg (Qm ?_)|skip
 refine Qg (wpAny_sequenceKey ht.typeIs (by decide) ?_)
 refine Qg (Tf (name:=Str.ofString "__getitem__") ht.typeIs PyProof.Rows.slot_tuple_getitem
  (TB PyProof.Rows.slot_tuple_getitem ht.typeIs entry_tuple_getitem ?_ (args_tuple_getitem _ _)))
 show wpAny _ _ (Builtin.Tuple.tupleItemsOf (.ref t)>>=_) _ _ s;refine Qg (tupleItemsOf_ ht ?_);refine Qg (wpAny_typeOf hTs ?_);rw [QH (by decide)];refine Qg (bL hs pl pu ?_)
 have Od:¬((((sIx items.size 0 lo:Nat):Int)==0 && (1:Int)==1 && (sIx items.size items.size hi - sIx items.size 0 lo)==items.size)=true):=by
  intro q;rw [Tr,Tr] at q;have q1:((sIx items.size 0 lo:Nat):Int)=0:=eq_of_beq q.1.1;have q2:sIx items.size items.size hi - sIx items.size 0 lo=items.size:=eq_of_beq q.2;exact hw ⟨by omega,by omega⟩
 show wpAny _ _ (if (((sIx items.size 0 lo:Nat):Int)==0 && (1:Int)==1 && (sIx items.size items.size hi - sIx items.size 0 lo)==items.size)=true then _ else _) _ _ s;rw [QP Od,Fh]
 first
  |exact Qg (m:=Builtin.Tuple.tupleExact _) (Ta (Qm ⟨_,rfl,Qm h⟩) MV)
  |exact Qg (m:=Builtin.Tuple.tupleExact _) (Ta (Qg (Qm (Qm ⟨_,rfl,Qm h⟩))) MV)
  |exact Qg (Qg (m:=Builtin.Tuple.tupleExact _) (Ta (Qm (Qm ⟨_,rfl,Qm h⟩)) MV))
  |exact Qg (Qg (m:=Builtin.Tuple.tupleExact _) (Ta (Qm ⟨_,rfl,Qm h⟩) MV))
end
end HT
namespace L2
open PySem PySem.Spec PyProof.Rows
abbrev TO:=St->Hp->(Option Int->Hp->Prop)->Prop
def PO (X:Cx) (e:Option Expr) (t:TO):Prop:=
 ∀(pins:List (Addr×Obj)) (s:Shared) (σ:St) (H:Hp) (Q:Option Int->Hp->Prop),Inv X pins σ H s->t σ H Q->
  wpAny (model X.prog X.w) X.A (evalPart e X.env) (λu s'=>∃o H',Inv X pins σ H' s'/\IsPart u o/\Q o H') X.xe s
def Ap:TO:=λ_ H Q=>Q none H
def tPart (t:TE):TO:=λσ H Q=>t σ H λx H1=>∃i,x= .int i/\Q (some i) H1
theorem WV {ns:List Int}:∀{us:List Value},xn (ns.map V.int) us->IntsAre us ns:=by
 induction ns with
 |nil=>intro us r;rw [jao] at r;cases r;exact .nil
 |cons n ns ih=>
  intro us r;rw [Qn] at r
  cases r with
  |cons r1 r2=>
   obtain ⟨t,e⟩:=r1;subst e;exact .cons n t (ih r2)
section
variable {X:Cx} {e:Expr} {te:TE} {lo hi:Option Expr} {tl th:TO} {pos p2:Pos}
theorem po_none:PO X none Ap:=by
 intro pins s σ H Q I h;rw [evalPart_none];exact Qm ⟨none,H,I, .none,h⟩
theorem po_some (h:PE X e te):PO X (some e) (tPart te):=by
 intro pins s σ H Q I hw;rw [evalPart_some];refine thn (h pins s σ H _ I hw) λu s1 hh=>?_;obtain ⟨x,H1,I1,r1,q1⟩:=hh;obtain ⟨i,rfl,q⟩:=q1;obtain ⟨t,rfl⟩:=r1;exact ⟨some i,H1,I1, .int i t,q⟩
def SlR (X:Cx) (r:V->Option Int->Option Int->Hp->VK->Prop):Prop:=
 ∀(pins:List (Addr×Obj)) (s:Shared) (σ:St) (H:Hp) (x:V) (v vl vu:Value) (lo hi:Option Int) (sl:Addr) (Q:VK),Inv X pins σ H s->Ze x v->s.heap.IsSliceOf sl vl vu .none->IsPart vl lo->IsPart vu hi->r x lo hi H Q->
  ∃T id,typeLookup (.type T) "__getitem__"=pure (some (.builtin id))/\s.TypeIs v T/\wpAny (model X.prog X.w) X.A (getItem v (.ref sl)) (EP X pins σ Q) X.xe s
def tSl (r:V->Option Int->Option Int->Hp->VK->Prop) (te:TE) (tl th:TO):TE:=λσ H Q=>te σ H λx H1=>tl σ H1 λl H2=>th σ H2 λu H3=>r x l u H3 Q
theorem pe_slice {r:V->Option Int->Option Int->Hp->VK->Prop} (hr:SlR X r) (he:PE X e te) (hl:PO X lo tl) (hu:PO X hi th):PE X (.Subscript e (.Slice lo hi none p2) pos) (tSl r te tl th):=by
 intro pins s σ H Q I h;refine Subscript_ (thn (he pins s σ H _ I h) λv s1 hh=>?_);obtain ⟨x,H1,I1,r1,q1⟩:=hh;refine wpAny_Slice (thn (hl pins s1 σ H1 _ I1 q1) λvl s2 ⟨l,H2,I2,pl,q2⟩=>thn (hu pins s2 σ H2 _ I2 q2) λvu s3 hh=>?_);obtain ⟨u,H3,I3,pu,q3⟩:=hh;rw [evalPart_none];refine Qm ?_;have I4:Inv X pins σ H3 {s3 with heap:=s3.heap.push {cls:= .type "slice",data:= .fields #[vl,vu, .none]}}:=I3.kept (t':=s3.toks) λb ob q=>Qh _ q;obtain ⟨T,id,hT,ht,hg⟩:=hr pins {s3 with heap:=s3.heap.push {cls:= .type "slice",data:= .fields #[vl,vu, .none]}} σ H3 x v vl vu l u s3.heap.objs.size Q I4 r1 (Heap.IsSliceOf.new ..) pl pu q3;show wpAny (model X.prog X.w) X.A (subscriptTail e (.Slice lo hi none p2) v (.ref s3.heap.objs.size)) (EP X pins σ Q) X.xe {s3 with heap:=s3.heap.push {cls:= .type "slice",data:= .fields #[vl,vu, .none]}};exact tail_any (ops:=[.ref s3.heap.objs.size,v]) ht hT hg (by with_unfolding_all rfl)
def Ad (xs:List V) (lo hi:Option Int):List V:=(xs.drop (HT.sIx xs.length 0 lo)).take (HT.sIx xs.length xs.length hi - HT.sIx xs.length 0 lo)
theorem fC (xs:List V) (lo hi:Option Int):(Ad xs lo hi).length<=xs.length:=by
 unfold Ad;rw [Tq,Ti];omega
def rSlT (K:PySem.W.Frag):V->Option Int->Option Int->Hp->VK->Prop:=λx lo hi H Q=>∃a xs,x= .ref a/\SqT K H a xs/\
 ¬(HT.sIx xs.length 0 lo=0/\HT.sIx xs.length xs.length hi=xs.length)/\∀p,H p=none->Q (.ref p) (upd H p (.tup (Ad xs lo hi)))
theorem sl_tup:SlR X (rSlT X.K):=by
 intro pins s σ H x v vl vu lo hi sl Q I rx hs pl pu h;obtain ⟨a,xs,rfl,hx,hw,q⟩:=h;cases rx;obtain ⟨its,r,ht,hz⟩:=I.tuple hx;have hlen:its.toArray.size=xs.length:=by rw [QD];exact r.length.symm
 refine ⟨"tuple",_,PyProof.Rows.slot_tuple_getitem.lookup,ht.typeIs,?_⟩;refine HT.getItem_tuple_cut ht hs pl pu (by rw [hlen];exact hw) ?_ (by rw [hlen];exact hz);rw [hlen];refine ⟨.ref s.heap.objs.size,_,I.laid (t':=s.toks) (o:= .tup (Ad xs lo hi)) (λb ob q=>Qh _ q) (Qp _) ?_,rfl,q _ (I.hok.fresh (Qp _))⟩;exact ⟨QI (fC xs lo hi) hz,_,(r.drop (HT.sIx xs.length 0 lo)).take (HT.sIx xs.length xs.length hi - HT.sIx xs.length 0 lo),IsTup.new _ _⟩
end
end L2
namespace L2
open PySem PySem.Spec PyProof.Rows
def ixN (n:Nat) (i:Int):Option Nat:=if 0<=i then (if i<n then some i.toNat else none) else if -(n:Int)<=i then some (i+n).toNat else none
def atI {α:Type} (xs:List α) (i:Int):Option α:=(ixN xs.length i).bind λj=>xs[j]?
theorem CQ {n:Nat} {i:Int} {j:Nat} (h:ixN n i=some j):seqIndex? i n=some j/\j<n/\ -(n:Int)<=i/\i<n:=by
 unfold ixN at h
 by_cases h0:0<=i
 ·rw [QH h0] at h
  by_cases h1:i<n
  ·rw [QH h1] at h;have e:i.toNat=j:=Qz h;exact ⟨by rw [seqIndex_of h0 h1,e],by omega,by omega,h1⟩
  ·rw [QP h1] at h;cases h
 ·rw [QP h0] at h
  by_cases h1: -(n:Int)<=i
  ·rw [QH h1] at h;have e:(i+n).toNat=j:=Qz h;exact ⟨by rw [seqIndex_neg (by omega) h1,e],by omega,h1,by omega⟩
  ·rw [QP h1] at h;cases h
theorem so {α:Type} {xs:List α} {i:Int} {v:α} (h:atI xs i=some v):∃j,seqIndex? i xs.length=some j/\xs[j]? =some v/\j<xs.length/\ -(xs.length:Int)<=i/\i<xs.length:=by
 unfold atI at h
 cases e:ixN xs.length i with
 |none=>rw [e] at h;cases h
 |some j=>
  rw [e] at h;obtain ⟨h1,h2,h3,h4⟩:=CQ e;exact ⟨j,h1,h,h2,h3,h4⟩
theorem yC {α:Type} {xs:List α} {j:Nat} {v:α} (h:xs[j]? =some v):atI xs (j:Int)=some v:=by
 have hj:j<xs.length:=(Qf.mp h).1
 have e:ixN xs.length (j:Int)=some j:=by
  unfold ixN;rw [QH (by omega),QH (by omega)];simp
 unfold atI;rw [e];exact h
theorem uv {α:Type} (xs:List α) (v:α):atI (xs++[v]) (-1)=some v:=by
 have hl:(xs++[v]).length=xs.length+1:=by simp
 have e:ixN (xs++[v]).length (-1)=some xs.length:=by
  unfold ixN;rw [hl,QP (by decide),QH (by omega)]
  congr 1
  omega
 unfold atI;rw [e];show (xs++[v])[xs.length]? =some v
 simp
def Kr (b:Expr):Prop:=∀o i,subscripted b false o i=operate [o,i] (getItem o i)
def IxR (X:Cx) (r:R2):Prop:=
 ∀(value slice:Expr) (pins:List (Addr×Obj)) (s:Shared) (σ:St) (H:Hp) (x y:V) (v u:Value) (Q:VK),Inv X pins σ H s->Ze x v->Ze y u->r x y H Q->
  subscripted slice false v u=operate [v,u] (getItem v u)->wpAny (model X.prog X.w) X.A (subscriptTail value slice v u) (EP X pins σ Q) X.xe s
def MtR (X:Cx) (id:String) (r:V->List V->Hp->VK->Prop):Prop:=
 ∀(pins:List (Addr×Obj)) (s:Shared) (σ:St) (H:Hp) (x:V) (xs:List V) (v:Value) (us:List Value) (Q:VK),Inv X pins σ H s->Ze x v->xn xs us->r x xs H Q->
  wpAny (model X.prog X.w) X.A (call (.builtin id) (v::us)) (EP X pins σ Q) X.xe s
section
variable {X:Cx} {a b:Expr} {ta tb:TE} {pos:Pos}
theorem IxR.or {r r':R2} (h:IxR X r) (h':IxR X r'):IxR X (λx y H Q=>r x y H Q\/r' x y H Q):=by
 intro value slice pins s σ H x y v u Q I rx ry q hs
 rcases q with q|q
 ·exact h value slice pins s σ H x y v u Q I rx ry q hs
 ·exact h' value slice pins s σ H x y v u Q I rx ry q hs
theorem pe_ix {r:R2} (hr:IxR X r) (ha:PE X a ta) (hb:PE X b tb) (hs:Kr b):PE X (.Subscript a b pos) (tOp r ta tb):=by
 intro pins s σ H Q I h;exact Subscript_ (binT ha hb I h λv u s2 x y H2 I2 rx ry q=>hr a b pins s2 σ H2 x y v u Q I2 rx ry q (hs _ _))
def rIxL (K:PySem.W.Frag):R2:=λx y H Q=>∃p xs i v,x= .ref p/\y= .int i/\SqL K H p xs/\atI xs i=some v/\Q v H
def rIxT (K:PySem.W.Frag):R2:=λx y H Q=>∃p xs i v,x= .ref p/\y= .int i/\SqT K H p xs/\atI xs i=some v/\Q v H
def rIxS:R2:=λx y H Q=>∃z i c,x= .str z/\y= .int i/\z.length<=sizeLine/\atI z.cps.toList i=some c/\Q (.str ⟨#[c]⟩) H
theorem JV:IxR X (rIxL X.K):=by
 intro value slice pins s σ H x y v u Q I rx ry h hs;obtain ⟨p,xs,i,z,rfl,rfl,hq,he,q⟩:=h;cases rx;obtain ⟨t,rfl⟩:=ry;obtain ⟨its,r,pl,hz⟩:=I.list hq;obtain ⟨j,h1,h2,h3,h4,h5⟩:=so he;obtain ⟨w,ew,Nj⟩:=r.get h2;have hl:=r.length;have hn:=ou;have fin:EP X pins σ Q w s:=⟨z,H,I,Nj,q⟩
 by_cases h0:0<=i
 ·have hj:i.toNat=j:=by
   rw [seqIndex_of h0 h5] at h1;exact Qz h1
  exact item_listR pl.isList h0 (by omega) (by rw [hj];simpa using ew) fin hs
 ·have hj:(i+(its.toArray.size:Int)).toNat=j:=by
   rw [seqIndex_neg (by omega) h4] at h1;rw [QD,<-hl];exact Qz h1
  exact subscriptTail_builtinR (x:=w) pl.isList.typeIs slot_list_getitem.lookup
   (wpAny_getItem_list_neg (Q:=λr s'=>r=w/\EP X pins σ Q r s') pl.isList (by omega) (by rw [QD]<;>omega) (by omega) (by rw [hj];simpa using ew) ⟨rfl,fin⟩) hs
theorem ix_tup:IxR X (rIxT X.K):=by
 intro value slice pins s σ H x y v u Q I rx ry h hs;obtain ⟨p,xs,i,z,rfl,rfl,hq,he,q⟩:=h;cases rx;obtain ⟨t,rfl⟩:=ry;obtain ⟨its,r,pl,hz⟩:=I.tuple hq;obtain ⟨j,h1,h2,h3,h4,h5⟩:=so he;obtain ⟨w,ew,Nj⟩:=r.get h2;have hl:=r.length;have hn:=ou;have fin:EP X pins σ Q w s:=⟨z,H,I,Nj,q⟩
 exact subscriptTail_builtinR (x:=w) pl.typeIs slot_tuple_getitem.lookup
  (getItem_tuple (j:=j) (Q:=λr s'=>r=w/\EP X pins σ Q r s') pl (by omega) (by omega) (by rw [QD,<-hl];exact h1) (by simpa using ew) ⟨rfl,fin⟩) hs
theorem ix_str:IxR X rIxS:=by
 intro value slice pins s σ H x y v u Q I rx ry h hs;obtain ⟨z,i,c,rfl,rfl,hz,he,q⟩:=h;obtain ⟨t,rfl⟩:=rx;obtain ⟨t',rfl⟩:=ry;obtain ⟨j,h1,h2,h3,h4,h5⟩:=so he;have hl:z.cps.toList.length=z.length:=by simp [Str.length]
 rw [hl] at h1 h4 h5;have hn:=ou
 exact tail_any (typeIs_str s z t) slot_str_getitem.lookup (getItem_str (c:=c) (by
  have e1:decide (i< -(2 ^ 63:Int))=false:=QY (by omega);have e2:decide (i≥2 ^ 63)=false:=QY (by omega)
  rw [e1,e2,Bool.or_false]) (by rw [h1];simpa using h2) ⟨.str ⟨#[c]⟩,H,I.tok _,⟨_,rfl⟩,q⟩) hs
def rIx (K:PySem.W.Frag):R2:=λx y H Q=>rIxL K x y H Q\/rIxT K x y H Q\/rIxS x y H Q
theorem ix_seq:IxR X (rIx X.K):=JV.or (ix_tup.or ix_str)
theorem vQ (its:List Value) (n j:Nat) (u:Value):Obj.mapSeq (·.setIfInBounds j u) {cls:= .type "list",data:= .seq its.toArray n}={cls:= .type "list",data:= .seq (its.set j u).toArray n}:=by
 simp [Obj.mapSeq]
theorem Inv.lst {pins:List (Addr×Obj)} {σ:St} {H:Hp} {s:Shared} {p:Addr} {xs:List V} (I:Inv X pins σ H s) (h:H p=some (.lst xs)):
 ∃(its:List Value) (n:Nat),xn xs its/\s.heap.get? p=some {cls:= .type "list",data:= .seq its.toArray n}/\xs.length<=sizeLine:=by
 obtain ⟨z,its,n,r,e⟩:=I.hok p _ h;exact ⟨its,n,r,e,z⟩
theorem Inv.lstUpd {pins:List (Addr×Obj)} {σ:St} {H:Hp} {s:Shared} {p:Addr} {xs ys:List V} {its its':List Value} {n n':Nat} {f:Obj->Obj} (I:Inv X pins σ H s) (h:H p=some (.lst xs))
 (ho:s.heap.get? p=some {cls:= .type "list",data:= .seq its.toArray n}) (hf:f {cls:= .type "list",data:= .seq its.toArray n}={cls:= .type "list",data:= .seq its'.toArray n'}) (r:xn ys its') (hz:ys.length<=sizeLine) (t:Nat):
 Inv X pins σ (upd H p (.lst ys)) {s with heap:=s.heap.update p f,toks:=t}:=by
 have e:(s.heap.update p f).get? p=some {cls:= .type "list",data:= .seq its'.toArray n'}:=by
  rw [jaD f ho (by rw [hf]<;>rfl),hf]
 refine I.write (x:=p) (e:=p) (by rw [h];trivial) (.inl rfl) (λb u hb q=>(jbh _ _ (Ne.symm hb)).trans q) ⟨_,e⟩ ?_;exact ⟨hz,its',n',r,e⟩
def rSetL:V->V->V->Hp->(Hp->Prop)->Prop:=λo i v H Q=>∃p xs k j,o= .ref p/\i= .int k/\H p=some (.lst xs)/\ixN xs.length k=some j/\Q (upd H p (.lst (xs.set j v)))
theorem set_list:PSet X rSetL:=by
 intro pins s σ H o i v ov iv u Q I ro ri rv h;obtain ⟨p,xs,k,j,rfl,rfl,hp,hj,q⟩:=h;cases ro;obtain ⟨t,rfl⟩:=ri;obtain ⟨its,n,r,ho,hz⟩:=I.lst hp;obtain ⟨h1,h2,h3,h4⟩:=CQ hj;have hl:=r.length;have hn:=ou
 have I':Inv X pins σ (upd H p (.lst (xs.set j v))) {s with heap:=s.heap.update p (Obj.mapSeq (·.setIfInBounds j u))}:=
  I.lstUpd hp ho (vQ its n j u) (r.set rv j) (by rw [jbG];exact hz) s.toks
 by_cases h0:0<=k
 ·have hk:k.toNat=j:=by
   rw [seqIndex_of h0 h4] at h1;exact Qz h1
  exact PySem.W.ki_setAt ho h0 (by omega) (by rw [QD,<-hl];exact h4) (by rw [hk];exact ⟨_,I',q⟩)
 ·have hk:(k+(its.toArray.size:Int)).toNat=j:=by
   rw [seqIndex_neg (by omega) h3] at h1;rw [QD,<-hl];exact Qz h1
  exact PySem.W.ki_setBack ho (by omega) (by rw [QD,<-hl];exact h3) (by omega) (by rw [hk];exact ⟨_,I',q⟩)
theorem mP (lo hi:Option Int) (n:Nat):(sliceBounds lo hi none n).1=((HT.sIx n 0 lo:Nat):Int)/\(sliceBounds lo hi none n).2.1=((HT.sIx n n hi:Nat):Int)/\(sliceBounds lo hi none n).2.2=1:=by
 refine ⟨?_,?_,rfl⟩
 ·cases lo with
  |none=>simp [sliceBounds,HT.sIx]
  |some i=>
   simp only [sliceBounds,HT.sIx,Option.getD_none,show (1:Int)>0 by decide,if_true]
   by_cases h:i<0
   ·simp only [h,if_true]<;>omega
   ·simp only [h,if_false]<;>omega
 ·cases hi with
  |none=>simp [sliceBounds,HT.sIx]
  |some i=>
   simp only [sliceBounds,HT.sIx,Option.getD_none,show (1:Int)>0 by decide,if_true]
   by_cases h:i<0
   ·simp only [h,if_true]<;>omega
   ·simp only [h,if_false]<;>omega
theorem jR (its:List Value) (lo hi:Option Int):slicePick its.toArray lo hi none=((its.drop (HT.sIx its.length 0 lo)).take (HT.sIx its.length its.length hi - HT.sIx its.length 0 lo)).toArray:=by
 obtain ⟨h1,h2,h3⟩:=mP lo hi its.toArray.size;unfold slicePick;rw [h1,h2,h3];simp only [sliceRange_one,pick_run,QD]<;>rfl
def rSlL (K:PySem.W.Frag):V->Option Int->Option Int->Hp->VK->Prop:=λx lo hi H Q=>∃a xs,x= .ref a/\SqL K H a xs/\∀p,H p=none->Q (.ref p) (upd H p (.lst (Ad xs lo hi)))
theorem sl_list:SlR X (rSlL X.K):=by
 intro pins s σ H x v vl vu lo hi sl Q I rx hs pl pu h;obtain ⟨a,xs,rfl,hx,q⟩:=h;cases rx;obtain ⟨its,r,ht,hz⟩:=I.list hx;have hlen:=r.length;refine ⟨"list",_,slot_list_getitem.lookup,ht.isList.typeIs,?_⟩;refine wpAny_getItem_list_slice ht.isList hs pl pu .none (by simp) ?_ (by rw [QD]<;>omega);rw [jR,<-hlen];refine ⟨.ref s.heap.objs.size,_,I.laid (t':=s.toks) (o:= .lst (Ad xs lo hi)) (λb ob q=>Qh _ q) (Qp _) ?_,rfl,q _ (I.hok.fresh (Qp _))⟩;exact ⟨QI (fC xs lo hi) hz,_,0,(r.drop (HT.sIx xs.length 0 lo)).take (HT.sIx xs.length xs.length hi - HT.sIx xs.length 0 lo),Qu _ rfl⟩
def oG:V->Bool
 | .non=>true
 | .bl _=>true
 | .int _=>true
 | .str _=>true
 |_=>false
def eqV:V->V->Bool
 | .non, .non=>true
 | .bl a, .bl b=>a==b
 | .bl a, .int b=>(if a then 1 else 0)==b
 | .int a, .bl b=>a==(if b then 1 else 0)
 | .int a, .int b=>a==b
 | .str a, .str b=>a==b
 |_,_=>false
theorem eqAt_V {A:Around} {s:Shared} {y x:V} {u v:Value} (ry:Ze y u) (rx:Ze x v) (fy:oG y=true) (fx:oG x=true):SeqAt.EqAt A s u v (eqV y x):=by
 cases y with
 |non=>
  cases ry
  cases x with
  |non=>cases rx;exact SeqAt.EqAt.same _
  |bl b=>cases rx;exact SeqAt.EqAt.none_bool b
  |int b=>obtain ⟨t,rfl⟩:=rx;exact SeqAt.EqAt.none_int b t
  |str b=>obtain ⟨t,rfl⟩:=rx;exact SeqAt.EqAt.none_str b t
  |_=>exact absurd (show false=true from fx) Qx
 |bl a=>
  cases ry
  cases x with
  |non=>cases rx;exact SeqAt.EqAt.bool_none a
  |bl b=>cases rx;exact SeqAt.EqAt.bool_bool a b
  |int b=>obtain ⟨t,rfl⟩:=rx;exact SeqAt.EqAt.bool_int a b t
  |str b=>obtain ⟨t,rfl⟩:=rx;exact SeqAt.EqAt.bool_str a b t
  |_=>exact absurd (show false=true from fx) Qx
 |int a=>
  obtain ⟨t',rfl⟩:=ry
  cases x with
  |non=>cases rx;exact SeqAt.EqAt.int_none a t'
  |bl b=>cases rx;exact SeqAt.EqAt.int_bool a t' b
  |int b=>obtain ⟨t,rfl⟩:=rx;exact SeqAt.EqAt.int_int a t' b t
  |str b=>obtain ⟨t,rfl⟩:=rx;exact SeqAt.EqAt.int_str a t' b t
  |_=>exact absurd (show false=true from fx) Qx
 |str a=>
  obtain ⟨t',rfl⟩:=ry
  cases x with
  |non=>cases rx;exact SeqAt.EqAt.str_none a t'
  |bl b=>cases rx;exact SeqAt.EqAt.str_bool a t' b
  |int b=>obtain ⟨t,rfl⟩:=rx;exact SeqAt.EqAt.str_int a t' b t
  |str b=>obtain ⟨t,rfl⟩:=rx;exact SeqAt.EqAt.str_str a t' b t
  |_=>exact absurd (show false=true from fx) Qx
 |_=>exact absurd (show false=true from fy) Qx
def eqU (x:V) (u:Value):Bool:=match u with
 | .none=>eqV .non x
 | .bool b=>eqV (.bl b) x
 | .int i _=>eqV (.int i) x
 | .str z _=>eqV (.str z) x
 |_=>false
theorem Ib {x y:V} {u:Value} (r:Ze y u) (f:oG y=true):eqU x u=eqV y x:=by
 cases y with
 |non=>cases r;rfl
 |bl b=>cases r;rfl
 |int i=>obtain ⟨t,rfl⟩:=r;rfl
 |str z=>obtain ⟨t,rfl⟩:=r;rfl
 |_=>exact absurd (show false=true from f) Qx
theorem fN {x:V}:∀{xs:List V} {us:List Value},xn xs us->xs.all oG=true->us.any (eqU x)=xs.any λy=>eqV y x
 |_,_, .nil,_=>rfl
 |y::xs,u::us, .cons r t,f=>by
  rw [List.all_cons,Tr] at f;rw [List.any_cons,List.any_cons,Ib r f.1,fN t f.2]
theorem Ut {A:Around} {s:Shared} {x:V} {v:Value} (rx:Ze x v) (fx:oG x=true):∀{xs:List V} {us:List Value},xn xs us->xs.all oG=true->∀u∈us,SeqAt.EqAt A s u v (eqU x u)
 |_,_, .nil,_=>λu hu=>by cases hu
 |y::xs,u::us, .cons r t,f=>λu' hu=>by
  rw [List.all_cons,Tr] at f
  rcases Ql.mp hu with rfl|hu
  ·rw [Ib r f.1];exact eqAt_V r rx f.1 fx
  ·exact Ut rx fx t f.2 u' hu
def inV (x:V) (xs:List V):Bool:=xs.any λy=>eqV y x
def rIn (K:PySem.W.Frag) (neg:Bool):R2:=λx y H Q=>∃p xs,y= .ref p/\(SqL K H p xs\/SqT K H p xs)/\oG x=true/\xs.all oG=true/\Q (.bl (if neg then !inV x xs else inV x xs)) H
theorem op_in_seq:OpR X (compareOp .In) (rIn X.K false):=by
 intro pins s σ H x y v u Q I rx ry h;obtain ⟨p,xs,rfl,hq,fx,fs,q⟩:=h;cases ry
 rcases hq with hq|hq
 ·obtain ⟨its,r,pl,hz⟩:=I.list hq;refine SeqAt.in_listAt (eqU x) pl.isList (λw hw=>Ut rx fx r fs w (by simpa using hw)) ⟨.bl _,H,I,rfl,?_⟩;rw [show its.toArray.any (eqU x)=its.any (eqU x) by simp,fN r fs];exact q
 ·obtain ⟨its,r,pl,hz⟩:=I.tuple hq;refine SeqAt.in_tupleAt (eqU x) pl (λw hw=>Ut rx fx r fs w (by simpa using hw)) ⟨.bl _,H,I,rfl,?_⟩;rw [show its.toArray.any (eqU x)=its.any (eqU x) by simp,fN r fs];exact q
theorem HP:OpR X (compareOp .NotIn) (rIn X.K true):=by
 intro pins s σ H x y v u Q I rx ry h;obtain ⟨p,xs,rfl,hq,fx,fs,q⟩:=h;cases ry
 rcases hq with hq|hq
 ·obtain ⟨its,r,pl,hz⟩:=I.list hq;refine SeqAt.notIn_listAt (eqU x) pl.isList (λw hw=>Ut rx fx r fs w (by simpa using hw)) ⟨.bl _,H,I,rfl,?_⟩;rw [show its.toArray.any (eqU x)=its.any (eqU x) by simp,fN r fs];exact q
 ·obtain ⟨its,r,pl,hz⟩:=I.tuple hq;refine SeqAt.notIn_tupleAt (eqU x) pl (λw hw=>Ut rx fx r fs w (by simpa using hw)) ⟨.bl _,H,I,rfl,?_⟩;rw [show its.toArray.any (eqU x)=its.any (eqU x) by simp,fN r fs];exact q
theorem oP:Wb X (.builtin "len") (λxs H Q=>∃p ys,xs=[.ref p]/\(SqL X.K H p ys\/SqT X.K H p ys)/\Q (.int ys.length) H):=by
 intro pins s σ H xs us Q I r h;obtain ⟨p,ys,rfl,hq,q⟩:=h;obtain ⟨u,rfl,rx⟩:=UI r;cases rx;have hn:=ou
 rcases hq with hq|hq
 ·obtain ⟨its,r',pl,hz⟩:=I.list hq;have hlen:=r'.length;exact Calls.call_len_list pl.isList (by simp only [QD]<;>omega) ⟨.int ys.length,H,I.tok _,⟨s.toks+1,by rw [QD,hlen]⟩,q⟩
 ·obtain ⟨its,r',pl,hz⟩:=I.tuple hq;have hlen:=r'.length;exact len_tuple pl (by simp only [QD]<;>omega) ⟨.int ys.length,H,I.tok _,⟨s.toks+1,by rw [QD,hlen]⟩,q⟩
theorem oO:Wb X (.type "list") (λxs H Q=>∃p ys,xs=[.ref p]/\(SqL X.K H p ys\/SqT X.K H p ys)/\∀l,H l=none->Q (.ref l) (upd H l (.lst ys))):=by
 intro pins s σ H xs us Q I r h;obtain ⟨p,ys,rfl,hq,q⟩:=h;obtain ⟨u,rfl,rx⟩:=UI r;cases rx
 have fin:∀(its:List Value),xn ys its->ys.length<=sizeLine->∀(h':Heap) (c':Nat),(∀b o',s.heap.get? b=some o'->h'.get? b=some o')->
  h'.get? s.heap.objs.size=some {cls:= .type "list",dict:=none,data:= .seq its.toArray c',slots:=#[]}->EP X pins σ Q (.ref s.heap.objs.size) {s with heap:=h'}:=λits r' hz h' c' kp e=>
  ⟨.ref s.heap.objs.size,_,I.laid (t':=s.toks) kp (Qp _) (show ZP X.prog X.w _ h' _ (.lst ys) from ⟨hz,its,c',r',e⟩),rfl,q _ (I.hok.fresh (Qp _))⟩
 rcases hq with hq|hq
 ·obtain ⟨its,r',pl,hz⟩:=I.list hq;have hlen:=r'.length;obtain ⟨o,ho,hc,n,hd⟩:=pl.isList;exact call_list_seq p (.inl rfl) ho hc hd (λh' c' kp e=>fin its r' hz h' c' kp e) (by simp only [QD]<;>omega)
 ·obtain ⟨its,r',pl,hz⟩:=I.tuple hq;have hlen:=r'.length;obtain ⟨o,ho,hc,n,hd⟩:=pl;exact call_list_seq p (.inr rfl) ho hc hd (λh' c' kp e=>fin its r' hz h' c' kp e) (by simp only [QD]<;>omega)
theorem lJ:Wb X (.type "tuple") (λxs H Q=>∃p ys,xs=[.ref p]/\((SqL X.K H p ys/\∀l,H l=none->Q (.ref l) (upd H l (.tup ys)))\/(SqT X.K H p ys/\Q (.ref p) H))):=by
 intro pins s σ H xs us Q I r h;obtain ⟨p,ys,rfl,h⟩:=h;obtain ⟨u,rfl,rx⟩:=UI r;cases rx
 rcases h with ⟨hq,q⟩|⟨hq,q⟩
 ·obtain ⟨its,r',pl,hz⟩:=I.list hq;have hlen:=r'.length;refine call_tuple_list pl.isList (λh' kp=>?_) (by simp only [QD]<;>omega);have I1:Inv X pins σ H {s with heap:=h'}:=I.kept (t':=s.toks) kp
  have I2:Inv X pins σ (upd H h'.objs.size (.tup ys)) {s with heap:=h'.push {cls:= .type "tuple",data:= .seq its.toArray}}:=
   I1.laid (t':=s.toks) (λb o e=>Qh _ e) (Qp _) (show ZP X.prog X.w _ _ _ (.tup ys) from ⟨hz,its,r',IsTup.new _ _⟩)
  exact ⟨.ref h'.objs.size,_,I2,rfl,q _ (I1.hok.fresh (Qp _))⟩
 ·obtain ⟨its,r',pl,hz⟩:=I.tuple hq;exact call_tuple_same pl ⟨.ref p,H,I,rfl,q⟩
def tyV (K:PySem.W.Frag) (T:String) (x:V) (H:Hp):Prop:=match x with
 | .str _=>T="str"
 | .int _=>T="int"
 | .ref p=>(T="list"/\∃xs,SqL K H p xs)\/(T="tuple"/\∃o,K.lookup p=some o/\o.cls= .type "tuple"/\o.dict=none)\/
  (T="dict"/\((∃kvs,H p=some (.dK kvs))\/∃kvs,H p=some (.dT kvs)))\/(T="set"/\∃S n,H p=some (.set S n))
 |_=>False
theorem tyV_is {pins:List (Addr×Obj)} {σ:St} {H:Hp} {s:Shared} {T:String} {x:V} {v:Value} (I:Inv X pins σ H s) (r:Ze x v) (ty:tyV X.K T x H):
 s.TypeIs v T/\∀a,v= .ref a->∃ob,s.heap.get? a=some ob/\ob.dict=none:=by
 cases x with
 |str z=>
  obtain ⟨t,rfl⟩:=r;cases (show T="str" from ty);exact ⟨typeIs_str s z t,λ_ e=>nomatch e⟩
 |int i=>
  obtain ⟨t,rfl⟩:=r;cases (show T="int" from ty);exact ⟨typeIs_int s i t,λ_ e=>nomatch e⟩
 |ref p=>
  cases r
  rcases ty with ⟨rfl,xs,hq⟩|⟨rfl,o,hk,hc,hd⟩|⟨rfl,hk⟩|⟨rfl,S,n,hk⟩
  ·obtain ⟨its,_,pl,_⟩:=I.list hq;refine ⟨pl.isList.typeIs,λa e=>?_⟩;cases e;obtain ⟨o,n,e,c,hd,_⟩:=pl;exact ⟨o,e,hd⟩
  ·refine ⟨⟨o,I.kIn p o hk,hc⟩,λa e=>?_⟩;cases e;exact ⟨o,I.kIn _ o hk,hd⟩
  ·have z:∃o,s.heap.get? p=some o/\o.ExactDict:=by
    rcases hk with ⟨kvs,hk⟩|⟨kvs,hk⟩
    ·obtain ⟨_,_,_,_,o,_,_,e,ex,_⟩:=I.hok p _ hk;exact ⟨o,e,ex⟩
    ·obtain ⟨_,_,_,_,o,_,_,e,ex,_⟩:=I.hok p _ hk;exact ⟨o,e,ex⟩
   obtain ⟨o,e,ex⟩:=z;refine ⟨⟨o,e,ex.1⟩,λa e2=>?_⟩;cases e2;exact ⟨o,e,ex.2.1⟩
  ·obtain ⟨o,_,_,_,e,ex,_⟩:=I.hok p _ hk;refine ⟨⟨o,e,ex.1⟩,λa e2=>?_⟩;cases e2;exact ⟨o,e,ex.2.1⟩
 |_=>exact False.elim ty
def tBM (K:PySem.W.Frag) (T:String) (r:V->List V->Hp->VK->Prop) (to:TE) (t:TA):TE:=λσ H Q=>to σ H λx H1=>tyV K T x H1/\t σ H1 λxs H2=>r x xs H2 Q
variable {o e:Expr} {es:List Expr} {to:TE} {t:TA} {name:Str} {apos cpos:Pos} {T id:String} {r:V->List V->Hp->VK->Prop}
theorem pe_bm (pa:PlainAttrs T) (slot:Slot T name id) (hty:typeOf (.builtin id)=pure (.type "method_descriptor")) (hm:MtR X id r) (ho:PE X o to) (ha:PA X (e::es) t)
 (PY:attributeBase o name X.env (eval o X.env)=eval o X.env:=by rfl)
 (hfew:((backTo cpos (starEach (e::es) X.env)).all (λx=>!x.1) && (backToKw cpos (keywordEach [] X.env)).all (λx=>x.1.isSome)
  && decide ((e::es).length+([]:List Keyword).length+(if ([]:List Keyword).isEmpty then 0 else 1)<30))=true:=by rfl)
 (Py:(apos.endLine==cpos.line)=true:=by rfl) (hs:starEach (e::es) X.env=(false,eval e X.env)::starEach es X.env:=by rfl) (Ow:(backTo cpos (starEach es X.env)).any (·.1)=false:=by rfl):
 PE X (.Call (.Attribute o name apos) (e::es) [] cpos) (tBM X.K T r to t):=by
 intro pins s σ H Q I h;refine wpAny_Call_method_late PY hfew Py rfl (thn (ho pins s σ H _ I h) λv s1 hh=>?_);obtain ⟨x,H1,I1,r1,ty,q1⟩:=hh;obtain ⟨h1,h2⟩:=tyV_is I1 r1 ty;refine ⟨T,id,pa,slot,hty,h1,h2,?_⟩;have hA:=ha cpos pins s1 σ H1 _ I1 q1;rw [hs] at hA⊢;refine Calls.callWith_builtin (by show (false||(backTo cpos (starEach es X.env)).any (·.1))=false;rw [Ow]<;>rfl) (Calls.evalArgs_plain ?_);exact thn hA λus s2 ⟨vs,H2,I2,r2,q2⟩=>hm pins s2 σ H2 x vs v us Q I2 r1 r2 q2
end
end L2
namespace L2
open PySem PySem.Spec PyProof.Rows
def MtM (X:Cx) (id:String) (r:V->List V->Hp->VK->Prop):Prop:=
 ∀(pins:List (Addr×Obj)) (s:Shared) (σ:St) (H:Hp) (x:V) (xs:List V) (v:Value) (us:List Value) (Q:VK),Inv X pins σ H s->Ze x v->xn xs us->r x xs H Q->
  wpAny (model X.prog X.w) X.A (call (.builtin id) (v::us)) (EP X pins σ Q) X.xe s
theorem xn.one {x:V} {us:List Value} (h:xn [x] us):∃u,us=[u]/\Ze x u:=by
 cases h with
 |cons r t=>
  cases t;exact ⟨_,rfl,r⟩
theorem xn.zero:∀{us:List Value},xn [] us->us=[]
 |_, .nil=>rfl
theorem xn.rep {xs:List V} {us:List Value} (h:xn xs us):∀k:Nat,xn (List.replicate k xs).flatten (List.replicate k us).flatten
 |0=> .nil
 |k+1=>by
  rw [Td,Td,TL,TL];exact xn.append h (xn.rep h k)
theorem oE (its:List Value):∀(k:Nat) (acc:List Value),
 List.foldl (λx1 x2=>x1++x2) acc.toArray (List.replicate k its.toArray)=(acc++(List.replicate k its).flatten).toArray
 |0,acc=>by simp
 |k+1,acc=>by
  have e:acc.toArray++its.toArray=(acc++its).toArray:=by simp
  have e2:(acc++its)++(List.replicate k its).flatten=acc++(List.replicate (k+1) its).flatten:=by
   rw [Td,TL,TX]
  rw [<-e2,<-oE its k (acc++its),<-e,Td,List.foldl_cons]
section
variable {X:Cx} {pins:List (Addr×Obj)} {σ:St} {H:Hp} {s:Shared} {l b:Addr} {xs ys zs:List V}
theorem Inv.lset {its its':List Value} {n:Nat} {f:Array Value->Array Value} {t':Nat} (I:Inv X pins σ H s) (hH:H l=some (.lst xs))
 (e:s.heap.get? l=some {cls:= .type "list",data:= .seq its.toArray n}) (hf:f its.toArray=its'.toArray) (hv:xn ys its') (hz:ys.length<=sizeLine):
 Inv X pins σ (upd H l (.lst ys)) {s with heap:=s.heap.update l (Obj.mapSeq f),toks:=t'}:=by
 have q:=PySem.IsL.update e f;rw [hf] at q;refine I.write (x:=l) (e:=l) (by rw [hH];exact trivial) (.inl rfl) (λb' u hb hu=>(jbh s.heap (Obj.mapSeq f) (Ne.symm hb)).trans hu) ⟨_,q⟩ ?_;exact ⟨hz,its',_,hv,q⟩
theorem Inv.lnew {its:List Value} {t':Nat} (I:Inv X pins σ H s) (hv:xn ys its) (hz:ys.length<=sizeLine):
 Inv X pins σ (upd H s.heap.objs.size (.lst ys)) {s with heap:=s.heap.push {cls:= .type "list",data:= .seq its.toArray},toks:=t'}:=
 I.laid (λ_ _ q=>Qh _ q) (Qp _) ⟨hz,its,0,hv,Qu _ rfl⟩
theorem Inv.fresh (I:Inv X pins σ H s):H s.heap.objs.size=none:=I.hok.fresh (Qp _)
theorem Inv.lstM (I:Inv X pins σ H s) (hH:H l=some (.lst xs)):xs.length<=sizeLine/\∃(its:List Value) (n:Nat),xn xs its/\xs.length=its.length/\s.heap.get? l=some {cls:= .type "list",data:= .seq its.toArray n}:=by
 obtain ⟨z,its,n,r,e⟩:=I.hok l _ hH;exact ⟨z,its,n,r,r.length,e⟩
theorem kM {n:Nat} (h:n<=sizeLine):Builtin.List.listTooLong n=false:=by
 unfold Builtin.List.listTooLong;exact QY (by omega)
end
section
variable {X:Cx}
def BN:V->List V->Hp->VK->Prop:=λx vs H Q=>∃l xs y,x= .ref l/\vs=[y]/\H l=some (.lst xs)/\xs.length<sizeLine/\Q .non (upd H l (.lst (xs++[y])))
theorem nZ:MtM X "list.append" BN:=by
 intro pins s σ H x vs v us Q I rx rv h;obtain ⟨l,xs,y,rfl,rfl,hH,hz,q⟩:=h;cases rx;obtain ⟨u,rfl,ru⟩:=rv.one;obtain ⟨z,its,n,r,hl,e⟩:=I.lstM hH;refine call_meets F.slot_list_append ⟨_,e,rfl⟩ F.entry_list_append (F.args_list_append_2 _ _) (PySem.list_append l its.toArray n u (by rw [QD];omega)) ⟨e,?_⟩;refine ⟨.non,_,I.lset (its':=its++[u]) hH e (by simp) (r.append (.cons ru .nil)) ?_,rfl,q⟩;rw [Qy,Tv];omega
def BM:V->List V->Hp->VK->Prop:=λx vs H Q=>∃l b xs zs,x= .ref l/\vs=[.ref b]/\H l=some (.lst xs)/\H b=some (.lst zs)/\xs.length+zs.length<=sizeLine/\Q .non (upd H l (.lst (xs++zs)))
theorem mt_extend:MtM X "list.extend" BM:=by
 intro pins s σ H x vs v us Q I rx rv h;obtain ⟨l,b,xs,zs,rfl,rfl,hH,hB,hz,q⟩:=h;cases rx;obtain ⟨u,rfl,ru⟩:=rv.one;cases ru;obtain ⟨z,its,n,r,hl,e⟩:=I.lstM hH;obtain ⟨z2,Mg,n2,r2,Mq,e2⟩:=I.lstM hB;have MW:its.toArray.size+Mg.toArray.size<=sizeLine:=by rw [QD,QD];omega
 have MF:¬(!its.toArray.isEmpty && Builtin.List.listTooLong (its.toArray.size+Mg.toArray.size))=true:=by
  rw [kM MW,Bool.and_false];exact Qx
 refine call_meets F.slot_list_extend ⟨_,e,rfl⟩ F.entry_list_extend (F.args_list_extend_2 _ _)
  (AutoSeq1.list_extend_list_list_0 l its.toArray n b Mg.toArray n2 MF (by rw [QD];omega) (by omega)) ⟨e,e2,?_⟩
 refine ⟨.non,_,I.lset (its':=its++Mg) hH e (by simp) (r.append r2) ?_,rfl,q⟩;rw [Qy];omega
def rCat:R2:=λx y H Q=>∃l b xs zs,x= .ref l/\y= .ref b/\H l=some (.lst xs)/\H b=some (.lst zs)/\xs.length+zs.length<=sizeLine/\∀p,H p=none->Q (.ref p) (upd H p (.lst (xs++zs)))
theorem op_cat:OpR X (binaryOp .Add) rCat:=by
 intro pins s σ H x y v u Q I rx ry h;obtain ⟨l,b,xs,zs,rfl,rfl,hH,hB,hz,q⟩:=h;cases rx;cases ry;obtain ⟨z,its,n,r,hl,e⟩:=I.lstM hH;obtain ⟨z2,Mg,n2,r2,Mq,e2⟩:=I.lstM hB;refine PySem.P.add_list e e2 ?_ (by rw [QD,QD];omega);have ea:its.toArray++Mg.toArray=(its++Mg).toArray:=by simp
 rw [ea];exact ⟨.ref _,_,I.lnew (t':=s.toks) (r.append r2) (by rw [Qy];omega),rfl,q _ I.fresh⟩
def rRep:R2:=λx y H Q=>∃l k xs,x= .ref l/\y= .int k/\H l=some (.lst xs)/\ -(2 ^ 63)<=k/\k<2 ^ 63/\xs.length*k.toNat<=sizeLine/\
 ∀p,H p=none->Q (.ref p) (upd H p (.lst (List.replicate k.toNat xs).flatten))
theorem JS {α:Type} (xs:List α) (k:Nat):(List.replicate k xs).flatten.length=k*xs.length:=by
 induction k with
 |zero=>simp
 |succ k ih=>rw [Td,TL,Qy,ih,Nat.succ_mul,Nat.add_comm]
theorem op_rep:OpR X (binaryOp .Mult) rRep:=by
 intro pins s σ H x y v u Q I rx ry h;obtain ⟨l,k,xs,rfl,rfl,hH,h1,h2,hz,q⟩:=h;cases rx;obtain ⟨t,rfl⟩:=ry;obtain ⟨z,its,n,r,hl,e⟩:=I.lstM hH;have hlen:its.toArray.size*k.toNat<=sizeLine:=by rw [QD,<-hl];exact hz
 have hcap:¬its.toArray.size*k.toNat>(2 ^ 63 - 1) / 8:=by
  have:(sizeLine:Nat)<=(2 ^ 63 - 1) / 8:=by decide
  omega
 have hfit:¬(!Builtin.List.listFitsIndex k)=true:=by
  rw [fitsIndex_both h1 h2];exact Qx
 have MF:¬Builtin.List.listTooLong (its.toArray.size*k.toNat)=true:=by
  rw [kM hlen];exact Qx
 have SR:List.foldl (λx1 x2=>x1++x2) #[] (List.replicate (if its.toArray.isEmpty=true then 0 else k.toNat) its.toArray)=(List.replicate k.toNat its).flatten.toArray:=by
  have f0:∀m:Nat,List.foldl (λx1 x2=>x1++x2) #[] (List.replicate m its.toArray)=(List.replicate m its).flatten.toArray:=λm=>by
   have:=oE its m [];rw [jaE] at this;exact this
  rw [f0]
  cases its with
  |nil=>simp
  |cons a r'=>rw [QP (by simp)]
 refine wpAny_binaryOp_repeat_ref (T:="list") (U:="int") (by decide) ⟨_,e,rfl⟩ (λs'=>typeIs_int s' k t) noFill_list_mul F.fills_int_mul F.slot_int_rmul repeat_list F.slot_int_index.lookup
  (call_meets F.slot_int_rmul (typeIs_int s k t) F.entry_int_rmul (F.args_int_rmul_2 _ _) (int___rmul___int_list k t l its.toArray n)
   ⟨e,rfl,⟨_,e,rfl⟩,call_meets F.slot_list_mul ⟨_,e,rfl⟩ F.entry_list_mul (F.args_list_mul_2 _ _) (AutoListH.list___mul___list_int_3 l its.toArray n k t hfit hcap MF) ⟨e,?_⟩⟩)
 rw [SR];exact ⟨.ref _,_,I.lnew (t':=s.toks) (r.rep k.toNat) (by rw [JS,Nat.mul_comm];exact hz),rfl,q _ I.fresh⟩
end
section
variable {prog:Program} {w:World} {A:Around} {E:Value->Shared->Prop} {s:Shared}
set_option maxRecDepth 100000 in
end
section
variable {X:Cx}
end
end L2
namespace Att
open PySem PySem.W PySem.Calls PyProof.Rows
theorem fj {P:Params} {h:Heap}:∀(ns:List Int) (vs:List Value),WellAll P h vs (ns.map WData.int)->IntsAre vs ns:=by
 intro ns
 induction ns with
 |nil=>
  intro vs w;rw [jao] at w;cases w;exact .nil
 |cons n ns ih=>
  intro vs w;rw [Qn] at w
  cases w with
  |cons a b=>
   cases a;exact .cons _ _ (ih _ b)
theorem AK {l:OpenLaw} {n:Nat} (hn:l.most=some n) {P:Params} {h:Heap} {args:List WData} {vals:List Value}
 (NP:l.row.toRowW.claim.pre args=true) (Rw:WellAll P h vals args):
 ∃a vs ns,vals=[Value.ref a]/\args=[WData.list (ns.map WData.int)]/\h.get? a=some {cls:= .type "list",data:= .seq vs.toArray}/\IntsAre vs ns/\ns.length<=n:=by
 have hsh:WShape.hasAll [] args [.list .int]=true:=(pre_splitW NP).1;have hc:l.pre.holds [] {args:=args}=true:=(pre_splitW NP).2;obtain ⟨d,r,rfl,h1,h2⟩:=hasAllW_cons hsh;obtain rfl:=hasAllW_nil h2;obtain ⟨xs,rfl,h3⟩:=hasW_list h1;obtain ⟨ns,rfl⟩:=items_int h3
 have hlen:ns.length<=n:=by
  unfold OpenLaw.pre at hc
  have h4:(WTm.not (.lt (.lit (.int (n:Int))) (.len (.arg 0)))).holds [] {args:=[.list (ns.map .int)]}=true:=by
   have h4:=(holds_andW hc).1;rw [hn] at h4;exact h4
  have h5:=condW_of h4 (w_not (w_lt w_lit (w_len_list (w_arg rfl))));rw [Qa] at h5;refine Nat.le_of_not_lt λq=>?_;have q':(n:Int)<((ns.length:Nat):Int):=by omega
  first
   |(rw [QQ q'] at h5;exact absurd h5 (by decide))
   |(simp at h5;omega)
 cases Rw with
 |cons w1 w2=>
  cases w2
  cases w1 with
  |list ho OF=>exact ⟨_,_,ns,rfl,rfl,ho,fj ns _ OF,hlen⟩
theorem BP (l:OpenLaw) (args:List WData):l.row.toRowW.claim.post args (.bool true) args=true:=
 postW_of (r:=l.row.toRowW) (X:=(true==true))
  (show WShape.has [] (.bool true) .bool=true by first|rfl|decide|simp [WShape.has,WShape.arms,WShape.armsAll])
  (show (WTm.eq .res (.lit (.bool true))).value [] {args:=args,res:=some (.bool true),after:=args}=some (.bool (true==true)) from w_eq_bool (w_res rfl) w_lit) rfl
theorem attach_call {l:OpenLaw} {n:Nat} {q:Program} {loose:List Str} {XP:(Str->Option Value)->Heap->Prop} {YP:World->Heap->Prop} {d:DefRec}
 (hn:l.most=some n) (MX:d.params.defaults=[])
 (call:∀(w:World) (s₀ s₁:Shared) (mg mb:Str->Option Value) (fa:Addr) (o:Obj) (pm cd doc:Value) (a:Addr) (vs:List Value) (ns:List Int),
  Ground q loose [] XP w s₀ mg mb s₁.heap->YP w s₁.heap->
  s₁.heap.get? fa=some o->o.data= .func (docDef d.name d.params d.body d.scope pm cd doc)->s₁.heap.CodeRec cd d.name->mg d.name=some (.ref fa)->
  s₁.heap.get? a=some {cls:= .type "list",data:= .seq vs.toArray}->IntsAre vs ns->ns.length<=n->s₁.gens=#[]->
  codeAny (model l.prog w) callerA (.call (.ref fa) ⟨[.ref a],[]⟩) (λr s'=>r= .ok (.ret (.bool true))/\OldK s₁.heap s'.heap/\s'.os=s₁.os/\AllBare s'.gens) s₁):
 WalkO q loose XP YP l.row.toRowW d [] (λf vs=>PySem.call f vs):=by
 intro w s₀ s₁ mg mb G Y fa o pm cd doc dV kV ho hd LW hD MA hg args vals as NP hlay hrd Rw hlo;obtain rfl:dV= .none:=Dflts.none hD MX;obtain rfl:kV= .none:=Dflts.noKw hD;obtain ⟨a,vs,ns,rfl,rfl,Oy,hints,hlen⟩:=AK hn NP Rw;refine enter_call (jbN (call w s₀ s₁ mg mb fa o pm cd doc a vs ns G Y ho (fd_plain hd) LW MA Oy hints hlen hg) λr s' hq=>?_);obtain ⟨rfl,h2,h3,h4⟩:=hq;exact ⟨.inl ⟨.bool true, .bool true,[],rfl,λ_=>rfl, .bool true,BP l _,λ_=>⟨List.Pairwise.nil,λ_ hm=>(nomatch hm)⟩⟩,h2,h3,h4⟩
section
variable {prog:Program} {w:World} {A:Around} {E:Value->Shared->Prop} {s:Shared} {K:Frag}
def ledger (h:Heap) (L d:Addr):List (Addr×Obj):=(List.range h.objs.size).filterMap λa=>if a=L\/a=d then none else (h.get? a).map λo=>(a,o)
end
end Att
namespace L2
open PySem PySem.Spec PyProof.Rows
theorem mF:∀{vs:List Value} {ns:List Int},IntsAre vs ns->xn (ns.map V.int) vs
 |_,_, .nil=> .nil
 |_,_, .cons n t h=> .cons ⟨t,rfl⟩ (mF h)
def Only (H:Hp):Prop:=∀b,H b=none\/∃o xs,H b=some (.frz o (.lst xs))
theorem Gp {P:Program} {w:World} {K:PySem.W.Frag} {mg mb:Str->Option Value} {CX:CXT} {k:Nat} {fa a:Addr} {fd:FuncData} {x:Str} {sp:Sp} {s₁:Shared} {vs:List Value} {ns:List Int}
 (KX:K.In s₁.heap) (Nn:s₁.heap.Ns mainGlobals mg) (hb:s₁.heap.Ns builtinsNs mb) (hbb:∀x:Str,x≠"__name__"->mb x=bootBuiltins x) (SV:s₁.heap.NoLimit) (hg:s₁.gens=#[])
 (ha:s₁.heap.get? a=some {cls:= .type "list",data:= .seq vs.toArray}) (hi:IntsAre vs ns) (hl:ns.length<=sizeLine) (hr:Room k callerA)
 (F:∀base:Heap,K.In base->base.Ns mainGlobals mg->FnOk P w K mg base CX k fa fd [x] sp) (PX:∀(s:Shared) (u:Value),BindsTo s fd ⟨[u],[]⟩ [(x,u)])
 (Oa:∀H:Hp,Only H->SqL K H a (ns.map V.int)->sp [.ref a] H (λv _=>v= .bl true) λ_ _ _=>False)
 (hCX:∀H e s',CX [] H s₁ (λ_ _ _=>False) e s'->False):
 codeAny (model P w) callerA (.call (.ref fa) ⟨[.ref a],[]⟩) (λr s'=>r= .ok (.ret (.bool true))/\OldK s₁.heap s'.heap/\s'.os=s₁.os/\AllBare s'.gens) s₁:=by
 have rv:=mF hi;have lenV:=hi.length
 have core:∀H:Hp,Only H->SqL K H a (ns.map V.int)->HOk P w H s₁.heap->(∀b,H b≠none->b=a)->(H a≠none->K.lookup a=none)->
  codeAny (model P w) callerA (.call (.ref fa) ⟨[.ref a],[]⟩) (λr s'=>r= .ok (.ret (.bool true))/\OldK s₁.heap s'.heap/\s'.os=s₁.os/\AllBare s'.gens) s₁:=by
  intro H hO hS hok hA hK;have base_of:∀{b:Addr} {o:Obj},s₁.heap.get? b=some o->H b=none->(GG s₁.heap H).get? b=some o:=λe n=>GD e n
  have noA:∀{b:Addr} {o:Obj} {es:Array DictEntry} {ep:Nat},s₁.heap.get? b=some o->o.data= .dict es ep->H b=none:=λ{b o es ep} e d=>by
   cases q:H b with
   |none=>rfl
   |some u=>
    have e':b=a:=hA b (by rw [q];simp);subst e';rw [ha] at e;cases e;have d':Data.seq vs.toArray _=Data.dict es ep:=d;cases d'
  have nsK:∀{b:Addr} {m:Str->Option Value},s₁.heap.Ns b m->(GG s₁.heap H).Ns b m:=λ{b m} ⟨o,es,ep,e,d,r⟩=>⟨o,es,ep,base_of e (noA e d),d,r⟩
  have hKb:K.In (GG s₁.heap H):=λb o e=>base_of (KX b o e) (by
   cases q:H b with
   |none=>rfl
   |some u=>
    have e':b=a:=hA b (by rw [q];simp);subst e'
    rw [hK (by rw [q];simp)] at e;cases e)
  have hM:Mod K mg (GG s₁.heap H):=⟨hKb,nsK Nn,⟨mb,nsK hb,hbb⟩,let ⟨mc,h1,h2⟩:=SV;⟨mc,nsK h1,h2⟩⟩;have e0:Env0 P w K mg (GG s₁.heap H) callerA [] s₁ H:=⟨rfl,hM,λb o e=>JI e,Nat.le_of_eq (CY _ _),trivial,λb hb=>absurd (show b∈([]:List Addr) from hb) (by simp),hok, .of_eq hg⟩;refine jbN ((F _ hKb (nsK Nn)).run callerA [] s₁ H ⟨[.ref a],[]⟩ [.ref a] [.ref a] _ _ hr e0 (PX s₁ (.ref a)) (.cons rfl .nil) (Oa H hO hS)) λr s' h=>?_
  cases r with
  |error e=>exact (hCX H e s' h).elim
  |ok fl=>
   cases fl with
   |next=>exact False.elim h
   |brk=>exact False.elim h
   |cont=>exact False.elim h
   |ret u=>
    obtain ⟨v,H',os,bare,un,Nv,r',q⟩:=h;have q':v= .bl true:=q;subst q';obtain rfl:u=Value.bool true:=r';refine ⟨rfl,OldK.of_keep λb o e=>?_,os,bare⟩
    cases q:H b with
    |none=>exact un.keep b o e q (by intro z;exact absurd (show b∈([]:List Addr) from z) (by simp)) (by simp)
    |some u=>
     rcases hO b with z|⟨ob,xs,z⟩
     ·rw [q] at z;cases z
     ·have z2:=un.frzs b ob _ z;obtain ⟨e1,_⟩:=hok b _ z;obtain ⟨e2,_⟩:=Nv b _ z2;rw [e] at e1;cases e1;exact e2
 cases hk:K.lookup a with
 |some o=>
  have e:=KX a o hk;rw [ha] at e;cases e;refine core (λ_=>none) (λ_=> .inl rfl) (.inr ⟨_,vs.toArray,_,hk,rfl,rfl,rfl,by rw [QD,lenV];exact hl,by simpa using rv⟩) (λb u z=>by have z':(none:Option HO)=some u:=z;cases z') (λb z=>absurd rfl z) λz=>absurd rfl z
 |none=>
  refine core (λb=>if b=a then some (.frz {cls:= .type "list",data:= .seq vs.toArray} (.lst (ns.map V.int))) else none) (λb=>?_) (.inl (.inr ⟨{cls:= .type "list",data:= .seq vs.toArray},QH rfl⟩)) (λb u z=>?_) (λb z=>?_) λ_=>hk
  ·by_cases hb:b=a
   ·exact .inr ⟨_,_,QH hb⟩
   ·exact .inl (QP hb)
  ·by_cases hb:b=a
   ·have z':=(QH hb).symm.trans z;cases z';subst hb;exact ⟨ha,by rw [Qa];exact hl,vs,_,rv,ha⟩
   ·have z':=(QP hb).symm.trans z;cases z'
  ·by_cases hb:b=a
   ·exact hb
   ·exact absurd (QP hb) z
end L2
namespace L2
open PySem PySem.Spec PyProof.Rows
theorem IG {l:PySem.W.OpenLaw} {n k:Nat} {q:Program} {loose:List Str} {XP:(Str->Option Value)->Heap->Prop} {YP:World->Heap->Prop} {d:DefRec} {K:Params->PySem.W.Frag} {CX:World->CXT} {sp:World->Sp} {x:Str}
 (hn:l.most=some n) (Nd:n<=sizeLine) (MX:d.params.defaults=[]) (hr:Room k callerA)
 (hY:∀(w:World) (h:Heap),YP w h->(K w.params).In h)
 (F:∀(w:World) (mg:Str->Option Value) (fa:Addr) (h:Heap),(K w.params).In h->h.Ns mainGlobals mg->mg d.name=some (.ref fa)->
  ∃fd:FuncData,(∀(s:Shared) (u:Value),BindsTo s fd ⟨[u],[]⟩ [(x,u)])/\
   ∀base:Heap,(K w.params).In base->base.Ns mainGlobals mg->FnOk l.prog w (K w.params) mg base (CX w) k fa fd [x] (sp w))
 (Oa:∀(w:World) (H:Hp) (a:Addr) (ns:List Int),ns.length<=n->Only H->SqL (K w.params) H a (ns.map V.int)->sp w [.ref a] H (λv _=>v= .bl true) λ_ _ _=>False)
 (hCX:∀(w:World) (H:Hp) (s:Shared) (e:Value) (s':Shared),CX w [] H s (λ_ _ _=>False) e s'->False):
 PySem.W.WalkO q loose XP YP l.row.toRowW d [] (λf vs=>PySem.call f vs):=by
 refine Att.attach_call hn MX λw s₀ s₁ mg mb fa o pm cd doc a vs ns G Y ho hd LW MA Oy hints hlen hg=>?_;have KX:=hY w _ Y;obtain ⟨fd,hb,hF⟩:=F w mg fa _ KX G.T.g MA;exact Gp KX G.T.g G.T.b G.T.builtins G.T.nolimit hg Oy hints (QI hlen Nd) hr hF hb (λH hO hS=>Oa w H a ns hlen hO hS) λH e s'=>hCX w H s₁ e s'
end L2
namespace L2
open PySem PySem.Spec PyProof.Rows
def xE (s:Stmt) (j:Nat):Stmt:=match s with
 | .ClassDef _ _ _ body _ _ _ _ _ _ _=>body.getD j (.Pass ⟨0,0,0,0⟩)
 |_=> .Pass ⟨0,0,0,0⟩
def ZE (s:Stmt):Arguments:=match s with
 | .FunctionDef _ a _ _ _ _ _ _ _ _=>a
 |_=>{posonlyargs:=[],args:=[],vararg:=none,kwonlyargs:=[],kw_defaults:=[],kwarg:=none,defaults:=[]}
def Zb (s:Stmt):List Stmt:=match s with
 | .FunctionDef _ _ b _ _ _ _ _ _ _=>b
 |_=>[]
def zk (s:Stmt):Scope:=match s with
 | .FunctionDef _ _ _ _ _ _ sc _ _ _=>sc
 |_=>{kind:= .function,names:=[],isGenerator:=false,isCoroutine:=false}
abbrev CX0:CXT:=λ_ _ _ _ _ _=>False
abbrev E0:XK:=λ_ _ _=>False
theorem pass0 {X:Cx}:WK CX0 X E0:=λ_ _ _ _ _ _ _ h=>h.elim
structure Fun (K:PySem.W.Frag) (x qual:Str) (st:Stmt) (f:Addr) (fd:FuncData):Prop where
 ex:∃(oc:Value) (od:Option Addr) (kV doc pm:Value) (an:Option Addr) (LV ct:Value) (osl:Array (Option Value)),
  fd=PySem.W.fnOf x qual (ZE st) (Zb st) (zk st) .none kV doc pm an LV ct/\K.lookup f=some ⟨oc,od, .func fd,osl⟩/\PySem.W.codeIn K LV qual=true
 kp:PySem.W.keepIn K (.ref f)=true
section
variable {P:Program} {w:World} {K:PySem.W.Frag} {mg:Str->Option Value} {base:Heap}
theorem Fun.ok {x qual:Str} {st:Stmt} {f:Addr} {fd:FuncData} {N ps:List Str} {k:Nat} {sp:Sp} (F:Fun K x qual st f fd) (S:FnScope N ps (zk st)) (len:∀vs H Q E,sp vs H Q E->vs.length=ps.length)
 (MH:∀(LV:Value) (A:Around) (outer:List Env) (s:Shared) (H:Hp) (vs:List V) (Q:VK) (E:XK),Room k (A.deeper (envOfC qual (zk st) s.heap.objs.size f LV))->sp vs H Q E->
  ∃t,PSs (Ig CX0 P w K mg base N qual (zk st) f LV A outer s H E).nox (Zb st) t/\t {nx:=λ_ H'=>Q .non H',rt:=Q} (jG N vs) H):FnOk P w K mg base CX0 (k+1) f fd ps sp:=by
 obtain ⟨oc,od,kV,doc,pm,an,LV,ct,osl,rfl,lk,LW⟩:=F.ex;refine fn_of lk LW S len λA outer s H vs Q E hr Oa=>?_;obtain ⟨t,h,q⟩:=MH LV A outer s H vs Q E hr Oa;exact ⟨t,h.nox,q⟩
theorem Fun.binds {x qual:Str} {st:Stmt} {f:Addr} {fd:FuncData} {ps:List Str} (F:Fun K x qual st f fd)
 (h:∀(kV doc pm:Value) (an:Option Addr) (LV ct:Value) (us:List Value),us.length=ps.length->bindArgs (PySem.W.fnOf x qual (ZE st) (Zb st) (zk st) .none kV doc pm an LV ct) ⟨us,[]⟩=pure (ps.zip us)):yD K fd ps []:=by
 obtain ⟨oc,od,kV,doc,pm,an,LV,ct,osl,rfl,lk,LW⟩:=F.ex;exact .all (h kV doc pm an LV ct)
theorem oC {x qual:Str} {st:Stmt} {f:Addr} {oc:Value} {od an:Option Addr} {osl:Array (Option Value)} {kV doc pm LV ct:Value} (l:K.lookup f=some ⟨oc,od, .func (PySem.W.fnOf x qual (ZE st) (Zb st) (zk st) .none kV doc pm an LV ct),osl⟩)
 (c:PySem.W.codeIn K LV qual=true) (k:PySem.W.keepIn K (.ref f)=true):Fun K x qual st f (PySem.W.fnOf x qual (ZE st) (Zb st) (zk st) .none kV doc pm an LV ct):=⟨⟨oc,od,kV,doc,pm,an,LV,ct,osl,rfl,l,c⟩,k⟩
end
theorem YL {n:Nat} (h:n<=1000):n<sizeLine:=Nat.lt_of_le_of_lt h (by decide)
section
variable {X:Cx}
theorem pv (i:Nat) {x:Str} {pos:Pos} (hN:X.N[i]? =some x:=by rfl) (hv:Vis X.env.scope x:=by walk_at "v") (hd:(x==("__debug__":Str))=false:=by decide)
 (LW:(x==("__classdict__":Str))=false:=by decide):PE X (.Name x pos) (tVar i):=pe_var hN hv hd LW
end
theorem iteF {A B:Prop} (h:B):if false=true then A else B:=by
 rw [QP Qx];exact h
theorem iteT {A B:Prop} (h:A):if true=true then A else B:=by
 rw [QH rfl];exact h
theorem rB {c A B:Prop} [Decidable c] (hc:c) (h:B):if (!decide c)=true then A else B:=by
 rw [QQ hc];exact iteF h
def zL (H H':Hp):Prop:=∀b o,H b=some o->H' b=some o
theorem zL.refl (H:Hp):zL H H:=λ_ _ h=>h
theorem zL.trans {H H1 H2:Hp} (a:zL H H1) (b:zL H1 H2):zL H H2:=λc o h=>b c o (a c o h)
theorem zL.free {H H':Hp} (e:zL H H') {l:Addr} (h:H' l=Option.none):H l=Option.none:=by
 cases q:H l with
 |none=>rfl
 |some o=>
  rw [e l o q] at h;cases h
theorem zL.seq {K:PySem.W.Frag} {H H':Hp} {a:Addr} {xs:List V} (e:zL H H') (h:SqL K H a xs):SqL K H' a xs:=by
 rcases h with (h|⟨o,h⟩)|h
 ·exact .inl (.inl (e _ _ h))
 ·exact .inl (.inr ⟨o,e _ _ h⟩)
 ·exact .inr h
end L2
namespace L2
open PySem PySem.W PySem.Spec PySem.Calls PyProof.Rows
section
variable {X:Cx} {e v1 v2:Expr} {es gH:List Expr} {te:TE} {pos p2:Pos}
theorem pS:∀{ys:List Str} {us:List Value},xn (ys.map V.str) us->∃l,us=strValues l/\l.map (·.1)=ys
 |[],us,r=>by
  rw [jao] at r;cases r;exact ⟨[],rfl,rfl⟩
 |y::ys,us,r=>by
  rw [Qn] at r
  cases r with
  |cons r1 r2=>
   obtain ⟨t,rfl⟩:=r1;obtain ⟨l,rfl,h⟩:=pS r2;exact ⟨(y,t)::l,rfl,by rw [Qn,h]⟩
def rJoin (K:PySem.W.Frag):V->List V->Hp->VK->Prop:=λx xs H Q=>∃sep p ys,x= .str sep/\xs=[.ref p]/\SqL K H p (ys.map V.str)/\JoinOk sep ys=true/\Q (.str (Txt.join sep ys)) H
theorem mt_join:MtR X "str.join" (rJoin X.K):=by
 intro pins s σ H x xs v us Q I rx r h;obtain ⟨sep,p,ys,rfl,rfl,hq,hok,q⟩:=h;obtain ⟨t,rfl⟩:=(show ∃t,v=Value.str sep t from rx);obtain ⟨u,rfl,r1⟩:=UI r;cases (show u=Value.ref p from r1);obtain ⟨its,rv,pl,_⟩:=I.list hq;obtain ⟨l,rfl,hl⟩:=pS rv;exact SC.join pl.isList hl hok λt' k=>⟨.str (Txt.join sep ys),H,I.tok k,⟨_,rfl⟩,q⟩
theorem pe_ccall {CX:CXT} {k:Nat} {f C:Addr} {fd:FuncData} {ps:List Str} {sp:Sp} {E:XK} {c m:Str} {p apos:Pos} {t:TA} {pl:Sem Bool} (hg:Gl X c) (hm:X.mg c=some (.ref C))
 (hs:specialIn X.K (.ref C) "__getattribute__"=some (some (.builtin "type.__getattribute__"))) (hrd:readsIn X.K C (.type "type")=true) (hf:findCls X.K (.ref C) (.type "type") m=some (.val (.ref f)))
 (F:FnOk X.prog X.w X.K X.mg X.base CX k f fd ps sp) (hr:Room k X.A) (hk:PySem.W.keepIn X.K (.ref f)=true) (hb:yD X.K fd ps []) (hx:WK CX X E) (ha:PA X (e::es) t)
 (hd:(c==("__debug__":Str))=false:=by decide) (Mh:starEach (e::es) X.env=(false,eval e X.env)::starEach es X.env:=by rfl) (Mm:(backTo pos (starEach es X.env)).any (·.1)=false:=by rfl)
 (ht:eval (.Call (.Attribute (.Name c p) m apos) (e::es) [] pos) X.env=(do
  let ov<-eval (.Name c p) X.env
  standAt apos.atName
  let (f,first)<-holding [ov] (getMethod ov m pl)
  callWith pos f first (backTo pos (starEach (e::es) X.env)) (backToKw pos (keywordEach [] X.env))):=by rfl):
 PE X (.Call (.Attribute (.Name c p) m apos) (e::es) [] pos) (uX sp [] E t):=by
 intro pins s σ H Q I h;refine PySem.W.methodCall_KW (pl:=pl) (fc I hg hm ?_ hd) ht;refine method_cls I.kIn hs (cls_value I.kIn hrd hf rfl ?_);have I1:=I.tok (s.toks+1);refine jbk (first:=[]) (h₀:=X.base) I.ok.mod.kin hk (thn (ha pos pins _ σ H _ I1 h) λus s2 ⟨vs,H2,I2,r,q2⟩=>⟨I2.kIn,?_⟩) Mh Mm;exact nr (us:=us) (vs:=vs) F hr hb .nil hx I2 r q2
def HB (K:PySem.W.Frag) (m:Str) (f:Addr) (sp:Sp) (E:XK) (ta:TE):TE:=λσ H Q=>ta σ H λx H1=>∃a C dx fs,x= .ref a/\H1 a=some (.ins C dx fs)/\Cls K C/\Meth K C m f/\fs.lookup m=none/\sp [x] H1 Q E
theorem pe_methA {CX:CXT} {k:Nat} {f:Addr} {fd:FuncData} {ps:List Str} {sp:Sp} {E:XK} {m:Str} {apos:Pos} {pl:Sem Bool} (he:PE X e te) (F:FnOk X.prog X.w X.K X.mg X.base CX k f fd ps sp) (hr:Room k X.A) (hb:yD X.K fd ps []) (hx:WK CX X E)
 (ht:eval (.Call (.Attribute e m apos) [] [] pos) X.env=(do
  let ov<-eval e X.env
  standAt apos.atName
  let (f,first)<-holding [ov] (getMethod ov m pl)
  callWith pos f first (backTo pos (starEach [] X.env)) (backToKw pos (keywordEach [] X.env))):=by rfl):
 PE X (.Call (.Attribute e m apos) [] [] pos) (HB X.K m f sp E te):=by
 intro pins s σ H Q I h;refine PySem.W.methodCall_KW (pl:=pl) (thn (he pins s σ H _ I h) λu s1 hh=>?_) ht;obtain ⟨x,H1,I1,rx,a,C,dx,fs,ex,ea,c,k,l,q⟩:=hh;subst ex;cases (show u=Value.ref a from rx);refine aA I1 ea c k l ?_;exact PySem.W.callWith_K0 (first:=[.ref a]) I1.kIn k.kp (nr (us:=[.ref a]) (vs:=[.ref a]) F hr hb .nil hx I1 (.cons rfl .nil) q)
end
end L2
namespace L2
open PySem PySem.W PySem.Spec PySem.Calls PyProof.Rows Builtin
section
variable {X:Cx} {e:Expr} {te:TE} {tg:Expr}
def rSlS:V->Option Int->Option Int->Hp->VK->Prop:=λx lo hi H Q=>∃z,x= .str z/\z.length<=sizeLine/\Q (.str (Txt.slice z lo hi)) H
theorem sl_str:SlR X rSlS:=by
 intro pins s σ H x v vl vu lo hi sl Q I rx hs pl pu h;obtain ⟨z,rfl,hz,q⟩:=h;obtain ⟨t,rfl⟩:=(show ∃t,v=Value.str z t from rx);refine ⟨"str",_,F.slot_str_getitem.lookup,typeIs_str _ _ _,?_⟩;have fin:∀t' k,EP X pins σ Q (.str (Txt.slice z lo hi) t') {s with toks:=k}:=λt' k=>⟨.str (Txt.slice z lo hi),H,I.tok k,⟨_,rfl⟩,q⟩;have hl:=QI (Txt.slice_le z lo hi) hz;cases pl<;>cases pu
 ·exact wpAny_getItem_str_slice (l:=none) (u:=none) (st:=none) hs rfl (post_val_or_str ⟨hl,fin⟩)
 ·exact wpAny_getItem_str_slice (l:=none) (u:=some (_,_)) (st:=none) hs rfl (post_val_or_str ⟨hl,fin⟩)
 ·exact wpAny_getItem_str_slice (l:=some (_,_)) (u:=none) (st:=none) hs rfl (post_val_or_str ⟨hl,fin⟩)
 ·exact wpAny_getItem_str_slice (l:=some (_,_)) (u:=some (_,_)) (st:=none) hs rfl (post_val_or_str ⟨hl,fin⟩)
def Its (z:Str):It:=⟨λi _=>i<z.cps.size,λi H x H'=>H'=H/\∃c,z.cps[i]? =some c/\x= .str ⟨#[c]⟩,λi _=>z.cps.size<=i⟩
theorem EC {P:Program} {w:World} {K:PySem.W.Frag} {tg:Expr} (z:Str) (t:Tok) (it:Addr):Turn P w K tg (Its z) [it] it (λi h=>h.IsStrIter it "str_ascii_iterator" z t i) where
 mem:=by simp
 obj:=λi h st b hb=>by
  have e:b=it:=by simpa using hb
  subst e;obtain ⟨o,e,c,d⟩:=st;exact ⟨o,e,λv z=>by rw [d] at z;cases z⟩
 keep:=λi h h' st k=>let ⟨o,ho,r⟩:=st;⟨o,k it (by simp) o ho,r⟩
 item:=by
  intro X hP hw hK hc i pins s σ H E I hf st hg;subst hP hw hK;have hi:i<z.cps.size:=hg;obtain ⟨f0,f1,f2,f3,f4,f5⟩:=hf it (by simp);refine wpAny_pyNext_ascii_item st (c:=z.cps[i]) (by simp [hi]) λh' Ml sb=>?_;have I1:Inv X pins σ H {s with heap:=h',toks:=s.toks+1}:=I.turned (t':=s.toks+1) (λb o hb e=>(sb.2 b hb).trans e) f0 f1 f3 f4 f5;obtain ⟨o,e,c,d⟩:=id Ml;exact ⟨_,rfl,Dg (s:={s with heap:=h',toks:=s.toks+1}) e c d (by decide) ⟨.str ⟨#[z.cps[i]]⟩,H,I1,⟨_,rfl⟩,⟨rfl,z.cps[i],by simp [hi],rfl⟩,Ml,λb hb=>(hf b hb).1⟩⟩
 done:=by
  intro X hP hw hK hc i pins s σ H E I hf st hg;subst hP hw hK;have hi:z.cps.size<=i:=hg;obtain ⟨f0,f1,f2,f3,f4,f5⟩:=hf it (by simp);exact wpAny_pyNext_ascii_end (I.ok.hd hc) st (by simp [hi]) λh' eb=>⟨rfl,I.turned (t':=s.toks) (λb o hb e=>eb b o hb e) f0 f1 f3 f4 f5⟩
 self:=λ_ _ _ _ _ st h=>wpAny_pyIter_striter_ascii st h
def iStr (tl:TE):TI:=λσ H R=>tl σ H λx H1=>∃z,x= .str z/\z.cps.all (·<128)=true/\R (Its z) H1
theorem pi_str (hl:PE X e te):PI X tg e (iStr te):=by
 intro pins s σ H R I h;refine thn (hl pins s σ H _ I h) λv s1 hh=>?_;obtain ⟨x,H1,I1,r1,q1⟩:=hh;obtain ⟨z,ex,ha,q⟩:=q1;subst ex;obtain ⟨t,rfl⟩:=(show ∃t,v=Value.str z t from r1);refine wpAny_pyIter_ascii ha ?_;refine ⟨s1.heap.objs.size,[s1.heap.objs.size],_,_,H1,rfl,I1.kept (t':=s1.toks) λb o e=>Qh _ e,EC z t _,⟨_,Qu _ rfl,rfl,rfl⟩,λb hb=>?_,q⟩;have e:b=s1.heap.objs.size:=by simpa using hb
 subst e;exact I1.fpOk (Qp _) (I1.hok.fresh (Qp _))
def Jl (K:PySem.W.Frag):V->List V->Hp->VK->Prop:=λx xs H Q=>∃(p:Addr) (ys:List Str) (z:Str) (j:Nat),x= .ref p/\xs=[.str z]/\SqT K H p (ys.map V.str)/\ys[j]? =some z/\(∀m,m<j->ys[m]? ≠some z)/\Q (.int (j:Nat)) H
theorem rC {prog:Program} {w:World} {A:Around} {E:Value->Shared->Prop} {z:Str} {t:Tok} {l:List (Str×Tok)} {j:Nat} {R:Option PySem.Fin×Unit->Shared->Prop} {f:Nat->Option PySem.Fin×Unit->Sem (ForInStep (Option PySem.Fin×Unit))} (hj:(l.map (·.1))[j]? =some z) (Od:∀m,m<j->(l.map (·.1))[m]? ≠some z)
 (hf:∀(i:Nat) (hi:i<l.length) (st:Option PySem.Fin×Unit),f i st=(do
  let b<-eqBool (.str l[i].1 l[i].2) (.str z t)
  if b=true then do
   let r<-retInt (i:Nat)
   pure (ForInStep.done (some r,()))
   else pure (ForInStep.yield (none,())))):
 ∀(k i:Nat) (s:Shared),i+k=l.length->i<=j->(∀tk,R (some (.done (.ret (.int (j:Nat) s.toks))),()) {s with toks:=tk})->wpAny (model prog w) A (forIn (List.range' i k) ((none,()):Option PySem.Fin×Unit) f) R E s:=by
 intro k
 induction k with
 |zero=>
  intro i s h1 h2 _;have:=(Qf.mp hj).1;rw [Qa] at this;omega
 |succ k ih=>
  intro i s h1 h2 hR;have hi:i<l.length:=by omega
  rw [List.range'_succ,List.forIn_cons,hf i hi];refine Qg (Qg (PyProof.Rows.eqBool_str ?_))
  by_cases PF:i=j
  ·subst PF
   have ez:l[i].1=z:=by
    rw [Qi,Qc hi] at hj;exact Qz hj
   rw [QH (by rw [ez];exact beq_self_eq_true z)]
   wp_walk
   exact hR _
  ·have Ma:(l[i].1==z)=false:=by
    refine jay.mpr λez=>Od i (by omega) ?_;rw [Qi,Qc hi];exact congrArg some ez
   rw [QP (by rw [Ma];exact Qx)];refine Qm ?_;exact ih (i+1) s (by omega) (by omega) hR
theorem mt_indexT:MtR X "tuple.index" (Jl X.K):=by
 intro pins s σ H x xs v us Q I rx r h;obtain ⟨p,ys,z,j,rfl,rfl,hq,hj,Od,q⟩:=h;cases (show v=Value.ref p from rx);obtain ⟨u,rfl,r1⟩:=UI r;obtain ⟨t,rfl⟩:=(show ∃t,u=Value.str z t from r1);obtain ⟨its,rv,ht,hz⟩:=I.tuple hq;obtain ⟨l,rfl,hl⟩:=pS rv;have hT:s.heap.IsTuple p (strValues l).toArray:=ht;refine wpAny_call (codeAny_call_builtin PySem.F.slot_tuple_index.plain PySem.F.entry_tuple_index (PySem.F.slot_tuple_index.check _ _ _ _ _ _ _ _ hT.typeIs (PySem.F.args_tuple_index_2 _ _) ?_));unfold Builtin.«tuple.index»;obtain ⟨o,h1,h2,n,h3⟩:=id hT
 wp_walk using jaY h1
 rw [h3];refine Qm (Qm ?_);dsimp only;refine Qg (Qm (Qg (Qm ?_)));refine Qg ?_;rw [Std.Legacy.Range.forIn_eq_forIn_range',jaF];have en:(strValues l).toArray.size=l.length:=by simp [strValues]
 have er:List.range' 0 (Std.Legacy.Range.size [:(strValues l).toArray.size]) 1=List.range' 0 l.length:=by rw [en];simp [Std.Legacy.Range.size]
 show wpAny _ _ (forIn (List.range' 0 (Std.Legacy.Range.size [:(strValues l).toArray.size]) 1) _ _) _ _ _;rw [er]
 refine rC (l:=l) (j:=j) (z:=z) (t:=t) (by rw [hl];exact hj) (by rw [hl];exact Od) (λi hi st=>by
  have e:(strValues l).toArray[i]? =some (.str l[i].1 l[i].2):=by simp [strValues,hi]
  rw [e]) l.length 0 _ (by omega) (TH _) λtk=>?_
 exact Qm ⟨.int (j:Nat),H,I.tok tk,⟨_,rfl⟩,q⟩
end
end L2
namespace S
open PySem PySem.Spec PyProof.Rows L2
def Sz (n:Nat) (x:Int):Prop:=x.natAbs<2 ^ n
theorem Sz.mono {m n:Nat} {x:Int} (h:Sz m x) (l:m<=n):Sz n x:=QV h (Nat.pow_le_pow_right (by decide) l)
theorem Sz.bits {n:Nat} {x:Int} (h:Sz n x):Builtin.Int.intBits x<=n:=intBits_le_iff.mpr h
theorem Sz.of {n:Nat} {x:Int} (h:Builtin.Int.intBits x<=n):Sz n x:=intBits_le_iff.mp h
theorem Sz.mulOk {m n:Nat} {x y:Int} (h:Sz m x) (g:Sz n y) (l:m+n<=134217728):IntMulOk x y:=IntMulOk.of_le h.bits g.bits l
theorem Sz.mul {m n:Nat} {x y:Int} (h:Sz m x) (g:Sz n y):Sz (m+n) (x*y):=Sz.of (intBits_mul_le h.bits g.bits)
theorem Sz.add {n:Nat} {x y:Int} (h:Sz n x) (g:Sz n y):Sz (n+1) (x+y):=Sz.of (QI (intBits_add_le h.bits g.bits) (by omega))
theorem Sz.sub {n:Nat} {x y:Int} (h:Sz n x) (g:Sz n y):Sz (n+1) (x - y):=Sz.of (QI (intBits_sub_le h.bits g.bits) (by omega))
theorem Sz.le {n:Nat} {x y:Int} (h:Sz n x) (l:y.natAbs<=x.natAbs):Sz n y:=Nat.lt_of_le_of_lt l h
theorem Sz.log {n:Nat} {x:Int} (h:Sz n x) (l:n<=8999):x.natAbs.log2<9000:=by
 by_cases h0:x.natAbs=0
 ·rw [h0];decide+kernel
 ·have:=(Nat.log2_lt h0).mpr (Sz.mono h l);omega
section
variable {X:Cx}
theorem op_mulB:OpR X (binaryOp .Mult) (rI IntMulOk λi j=> .int (i*j)):=opI λ_ _ _ _ _ _ _ hc q=>mul_int q hc
def CDv (_ j:Int):Prop:=j≠0/\Sz 8999 j
theorem op_fdivB:OpR X (binaryOp .FloorDiv) (rI CDv λi j=> .int (i.fdiv j)):=opI λi j _ _ _ _ _ hc q=>
 floordiv_int hc.1 q (.inl (PyProof.noPylong_of_log2 (hc.2.log (Qp _))))
end
mutual
def Is (H:Hp):PyData->V->Prop
 | .none,v=>v= .non
 | .bool b,v=>v= .bl b
 | .int i,v=>v= .int i
 | .str x,v=>v= .str x
 | .list xs,v=>∃p vs,v= .ref p/\H p=some (.lst vs)/\zC H xs vs
 | .tuple xs,v=>∃p vs,v= .ref p/\H p=some (.tup vs)/\zC H xs vs
 | .dict kvs,v=>Eh H kvs v
def zC (H:Hp):List PyData->List V->Prop
 |[],vs=>vs=[]
 |x::xs,vs=>∃v r,vs=v::r/\Is H x v/\zC H xs r
def Eh (H:Hp):List (PyData×PyData)->V->Prop
 |[(c,x)],v=>∃(p C dx:Addr) (w:V),c= .int ((C:Nat):Int)/\v= .ref p/\H p=some (.ins C dx [("form",w)])/\Is H x w
 |_,_=>False
end
mutual
theorem Is.mono {H H':Hp} (e:zL H H'):∀(d:PyData) (v:V),Is H d v->Is H' d v
 | .none,v,h=>by simpa only [Is] using h
 | .bool b,v,h=>by simpa only [Is] using h
 | .int i,v,h=>by simpa only [Is] using h
 | .str x,v,h=>by simpa only [Is] using h
 | .list xs,v,h=>by
   rw [Is] at h⊢;obtain ⟨p,vs,e1,e2,e3⟩:=h;exact ⟨p,vs,e1,e _ _ e2,zC.mono e xs vs e3⟩
 | .tuple xs,v,h=>by
   rw [Is] at h⊢;obtain ⟨p,vs,e1,e2,e3⟩:=h;exact ⟨p,vs,e1,e _ _ e2,zC.mono e xs vs e3⟩
 | .dict kvs,v,h=>by
   rw [Is] at h⊢;exact Eh.mono e kvs v h
theorem Eh.mono {H H':Hp} (e:zL H H'):∀(d:List (PyData×PyData)) (v:V),Eh H d v->Eh H' d v
 |[],v,h=>by rw [Eh] at h;exact h.elim;simp
 |[(c,x)],v,h=>by
  rw [Eh] at h⊢;obtain ⟨p,C,dx,w,e1,e2,e3,e4⟩:=h;exact ⟨p,C,dx,w,e1,e2,e _ _ e3,Is.mono e x w e4⟩
 |_::_::_,v,h=>by rw [Eh] at h;exact h.elim;simp
theorem zC.mono {H H':Hp} (e:zL H H'):∀(d:List PyData) (v:List V),zC H d v->zC H' d v
 |[],v,h=>by rw [zC] at h⊢;exact h
 |x::xs,v,h=>by
  rw [zC] at h⊢;obtain ⟨v,r,e1,e2,e3⟩:=h;exact ⟨v,r,e1,Is.mono e x v e2,zC.mono e xs r e3⟩
end
theorem zL.new {H:Hp} {p:Addr} (h:H p=none) (o:HO):zL H (upd H p o):=λb u q=>by rw [zR (zW q h)];exact q
section
variable {X:Cx} {pins:List (Addr×Obj)} {σ:L2.St} {H:Hp} {s:Shared}
mutual
theorem Is.reads (I:Inv X pins σ H s):∀(d:PyData) (v:V) (u:Value),d.canLay0=true->Is H d v->Ze v u->∃as,Reads s.heap u d as
 | .none,v,u,lay,h,r=>by rw [Is] at h;subst h;cases (show u=Value.none from r);exact ⟨_, .none⟩
 | .bool b,v,u,lay,h,r=>by rw [Is] at h;subst h;cases (show u=Value.bool b from r);exact ⟨_, .bool b⟩
 | .int i,v,u,lay,h,r=>by rw [Is] at h;subst h;obtain ⟨t,rfl⟩:=(show ∃t,u=Value.int i t from r);exact ⟨_, .int i t⟩
 | .str x,v,u,lay,h,r=>by rw [Is] at h;subst h;obtain ⟨t,rfl⟩:=(show ∃t,u=Value.str x t from r);exact ⟨_, .str x t⟩
 | .list xs,v,u,lay,h,r=>by
   rw [Is] at h;obtain ⟨p,vs,e1,e2,e3⟩:=h;subst e1;cases (show u=Value.ref p from r);obtain ⟨_,its,n,hv,hp⟩:=(show ZP X.prog X.w H s.heap p (.lst vs) from I.hok p _ e2);obtain ⟨as,q⟩:=zC.reads I xs vs its (by rw [PyData.canLay0] at lay;exact lay) e3 hv;exact ⟨_, .list hp rfl rfl (by simpa using q)⟩
 | .tuple xs,v,u,lay,h,r=>by
   rw [Is] at h;obtain ⟨p,vs,e1,e2,e3⟩:=h;subst e1;cases (show u=Value.ref p from r);obtain ⟨_,its,hv,hp⟩:=(show ZP X.prog X.w H s.heap p (.tup vs) from I.hok p _ e2);obtain ⟨o,h1,h2,n,h3⟩:=hp;obtain ⟨as,q⟩:=zC.reads I xs vs its (by rw [PyData.canLay0] at lay;exact lay) e3 hv;exact ⟨_, .tuple h1 h2 h3 (by simpa using q)⟩
 | .dict _,v,u,lay,h,r=>by rw [PyData.canLay0] at lay;cases lay
theorem zC.reads (I:Inv X pins σ H s):∀(d:List PyData) (v:List V) (u:List Value),PyData.canLayAll0 d=true->zC H d v->xn v u->∃as,ReadsAll s.heap u d as
 |[],v,u,lay,h,r=>by rw [zC] at h;subst h;cases xn.zero r;exact ⟨_, .nil⟩
 |x::xs,v,u,lay,h,r=>by
  rw [PyData.canLayAll0,Tr] at lay;rw [zC] at h;obtain ⟨v,w,e1,e2,e3⟩:=h;subst e1
  cases r with
  |cons r1 r2=>
   obtain ⟨as,q⟩:=Is.reads I x v _ lay.1 e2 r1;obtain ⟨bs,q2⟩:=zC.reads I xs w _ lay.2 e3 r2;exact ⟨_, .cons q q2⟩
end
end
def rEqD:R2:=λx y H Q=>∃d e,Is H d x/\Is H e y/\SeqAt.shaped d=true/\SeqAt.shaped e=true/\Q (.bl (PyData.eqv d e)) H
def rNeD:R2:=λx y H Q=>∃d e,Is H d x/\Is H e y/\SeqAt.shaped d=true/\SeqAt.shaped e=true/\Q (.bl (!PyData.eqv d e)) H
section
variable {X:Cx}
theorem op_eqD (hu:X.A.units+64<cLine):OpR X (compareOp .Eq) rEqD:=by
 intro pins s σ H x y v u Q I rx ry h;obtain ⟨d,e,h1,h2,h3,h4,q⟩:=h;obtain ⟨as,r1⟩:=Is.reads I d x v (jbi h3) h1 rx;obtain ⟨bs,r2⟩:=Is.reads I e y u (jbi h4) h2 ry;exact eq_dataH r1 r2 h3 h4 hu ⟨.bl _,H,I,rfl,q⟩
theorem op_neD (hu:X.A.units+64<cLine):OpR X (compareOp .NotEq) rNeD:=by
 intro pins s σ H x y v u Q I rx ry h;obtain ⟨d,e,h1,h2,h3,h4,q⟩:=h;obtain ⟨as,r1⟩:=Is.reads I d x v (jbi h3) h1 rx;obtain ⟨bs,r2⟩:=Is.reads I e y u (jbi h4) h2 ry;exact ne_dataH r1 r2 h3 h4 hu ⟨.bl _,H,I,rfl,q⟩
end
def rIsi (K:PySem.W.Frag):List V->Hp->VK->Prop:=λxs H Q=>∃(x:V) (T:String) (t:Value) (b:Bool),xs=[x, .ty T]/\TyOf K H x t/\PySem.W.kitOne K t (.type T)=some b/\Q (.bl b) H
section
variable {X:Cx}
theorem call_isi:Wb X (.builtin "isinstance") (rIsi X.K):=by
 intro pins s σ H xs us Q I r h;obtain ⟨x,T,t,b,rfl,ty,e,q⟩:=h;obtain ⟨u,w',rfl,r1,r2⟩:=IH r;cases (show w'=Value.type T from r2);exact CS I r1 ty e λtk=>⟨.bl b,H,I.tok tk,rfl,q⟩
end
structure Cal (P:Program) (w:World) (K:PySem.W.Frag) (mg:Str->Option Value) (base:Heap) (CX:CXT) (k:Nat) (x:Str) (ps:List Str) (sp:Sp):Prop where
 ex:∃(f:Addr) (fd:FuncData),FnOk P w K mg base CX k f fd ps sp/\mg x=some (.ref f)/\PySem.W.keepIn K (.ref f)=true/\yD K fd ps []
section
variable {X:Cx} {CX:CXT} {k j:Nat} {ps:List Str} {sp:Sp} {E:XK} {x:Str} {p pos:Pos} {e:Expr} {es:List Expr} {t:TA}
theorem pe_cal (C:Cal X.prog X.w X.K X.mg X.base CX k x ps sp) (hr:Room j X.A) (hk:k<=j) (hx:WK CX X E) (hg:Gl X x)
 (ha:PA X (e::es) t) (Nf:(x==("__debug__":Str))=false:=by decide) (he:starEach (e::es) X.env=(false,eval e X.env)::starEach es X.env:=by rfl) (Mm:(backTo pos (starEach es X.env)).any (·.1)=false:=by rfl):
 PE X (.Call (.Name x p) (e::es) [] pos) (uX sp [] E t):=by
 obtain ⟨f,fd,F,hm,hk2,hb⟩:=C.ex;exact Jt F (hr.mono hk) hg hm hk2 hb .nil hx ha Nf he Mm
end
theorem EA {A:Around} {k:Nat} (hr:Room k A):A.units+64<cLine:=hr.units
def frD (q:Rat):PyData:= .tuple [.int q.num, .int (q.den:Int)]
def SzQ (n:Nat) (q:Rat):Prop:=Sz n q.num/\Sz n (q.den:Int)
theorem SzQ.mono {m n:Nat} {q:Rat} (h:SzQ m q) (l:m<=n):SzQ n q:=⟨h.1.mono l,h.2.mono l⟩
theorem den_pos (q:Rat):(0:Int)<(q.den:Int):=Int.natCast_pos.mpr q.den_pos
theorem SzQ.divInt {n:Nat} {a b:Int} (ha:Sz n a) (hb:Sz n b) (h0:b≠0):SzQ n (Rat.divInt a b):=by
 constructor
 ·refine ha.le ?_;rw [Rat.num_divInt,Int.natAbs_ediv_of_dvd ?_]
  ·rw [Int.natAbs_mul];have e:b.sign.natAbs=1:=Int.natAbs_sign_of_ne_zero h0;rw [e,Nat.one_mul];exact Nat.div_le_self _ _
  ·exact Int.dvd_trans (Int.gcd_dvd_right b a) (Int.dvd_mul_left _ _)
 ·refine hb.le ?_;rw [Rat.den_divInt,QP h0];show b.natAbs / b.gcd a<=b.natAbs;exact Nat.div_le_self _ _
theorem Ii:bootBuiltins "len"=some (.builtin "len"):=by decide+kernel
theorem bt_abs:bootBuiltins "abs"=some (.builtin "abs"):=by decide+kernel
theorem Ih:bootBuiltins "min"=some (.builtin "min"):=by decide+kernel
theorem GQ:bootBuiltins "isinstance"=some (.builtin "isinstance"):=by decide+kernel
theorem bt_int:bootBuiltins "int"=some (.type "int"):=by decide+kernel
theorem bt_bool:bootBuiltins "bool"=some (.type "bool"):=by decide+kernel
theorem bt_tuple:bootBuiltins "tuple"=some (.type "tuple"):=by decide+kernel
theorem bt_list:bootBuiltins "list"=some (.type "list"):=by decide+kernel
theorem oR:bootBuiltins "enumerate"=some (.type "enumerate"):=by decide+kernel
theorem bt_zip:bootBuiltins "zip"=some (.type "zip"):=by decide+kernel
theorem rV:bootBuiltins "reversed"=some (.type "reversed"):=by decide+kernel
theorem bt_str:bootBuiltins "str"=some (.type "str"):=by decide+kernel
theorem bt_sum:bootBuiltins "sum"=some (.builtin "sum"):=by decide+kernel
structure Bl (mg:Str->Option Value):Prop where
 len:mg "len"=none
 abs:mg "abs"=none
 min:mg "min"=none
 max:mg "max"=none
 isinstance:mg "isinstance"=none
 range:mg "range"=none
 int:mg "int"=none
 bool:mg "bool"=none
 tuple:mg "tuple"=none
 list:mg "list"=none
 enumerate:mg "enumerate"=none
 zip:mg "zip"=none
 reversed:mg "reversed"=none
 ValueError:mg "ValueError"=none
 sum:mg "sum"=none
 str:mg "str"=none
theorem bE {c A B:Prop} [Decidable c] (h1:¬c->A) (h2:c->B):if (!decide c)=true then A else B:=by
 by_cases hc:c
 ·rw [QQ hc];exact h2 hc
 ·rw [QY hc];exact h1 hc
theorem yJ {c A B:Prop} [Decidable c] (h1:c->A) (h2:¬c->B):if decide c=true then A else B:=by
 by_cases hc:c
 ·rw [QQ hc];exact h1 hc
 ·rw [QY hc];exact h2 hc
theorem Hn {ms:List Int} {k:Int} (h0:0<=k) (h:k<(ms.length:Int)):atI (ms.map V.int) k=some (.int (ms.getD k.toNat 0)):=by
 have hk:k.toNat<ms.length:=by omega
 have ek:k=((k.toNat:Nat):Int):=by omega
 have q:atI (ms.map V.int) ((k.toNat:Nat):Int)=some (.int (ms.getD k.toNat 0)):=yC (by rw [Qi,Qc hk,Qo,Qc hk];rfl);rwa [<-ek] at q
theorem VT {a b:Int} (hb:0<b):(a.fdiv (Int.gcd a b:Nat)=(Rat.divInt a b).num)/\b.fdiv (Int.gcd a b:Nat)=((Rat.divInt a b).den:Int):=by
 have g0:(0:Int)<=((Int.gcd a b:Nat):Int):=Int.natCast_nonneg _;rw [jbx _ g0,jbx _ g0,Rat.num_divInt,Rat.den_divInt,QP (by omega),Int.gcd_comm b a,Int.sign_eq_one_of_pos hb,Int.one_mul];refine ⟨rfl,?_⟩;have e:b=(b.natAbs:Int):=by omega
 rw [Int.natCast_ediv,<-e]
theorem CG {a b:Int} (hb:b<0):(a.fdiv (-((Int.gcd a b:Nat):Int))=(Rat.divInt a b).num)/\b.fdiv (-((Int.gcd a b:Nat):Int))=((Rat.divInt a b).den:Int):=by
 have h:=VT (a:= -a) (b:= -b) (by omega);rw [Rat.neg_divInt_neg,Int.neg_gcd,Int.gcd_neg] at h;rw [<-h.1,<-h.2]
 constructor
 ·rw [<-Int.neg_fdiv_neg,Int.neg_neg]
 ·rw [<-Int.neg_fdiv_neg,Int.neg_neg]
theorem sR {n:Nat} (h:1<=n) {x:Int} (h1: -2<x) (h2:x<2):Sz n x:=Sz.mono (show Sz 1 x by unfold Sz;omega) h
theorem tZ (a b:Int):Int.gcd b (a % b)=Int.gcd a b:=by
 have e:a % b=a - b*(a / b):=by have:=Int.mul_ediv_add_emod a b;omega
 rw [e,Int.gcd_sub_mul_left_right,Int.gcd_comm]
def yP (cells:List (Str×Addr)):List (Str×NameKind)->List (Str×Addr)->List (Str×Addr)
 |[],acc=>acc
 |(n,k)::r,acc=>yP cells r (if k== .free then (n,(cells.lookup n).getD 0)::acc else acc)
theorem XE {scope:Scope} {env:Env} (h:∀y∈scope.names,y.2= .free->∃c,env.cells.lookup y.1=some c):closureFor scope env=pure (yP env.cells scope.names []):=by
 have key:∀(names:List (Str×NameKind)) (acc:List (Str×Addr)),(∀y∈names,y.2= .free->∃c,env.cells.lookup y.1=some c)->
  (forIn names acc λx r=>match x with
   |(name,kind)=>if (kind==NameKind.free)=true then do
    let a<-cellOf env name
    pure (ForInStep.yield ((name,a)::r))
    else pure (ForInStep.yield r):Sem (List (Str×Addr)))=pure (yP env.cells names acc):=by
  intro names
  induction names with
  |nil=>intro acc _;rfl
  |cons y r ih=>
   intro acc hy;obtain ⟨n,k⟩:=y;rw [List.forIn_cons,yP];have hr:=λz hz=>hy z (Qd _ hz)
   cases hk:k==NameKind.free with
   |false=>
    simp only [hk,jbH,if_false,pure_bind];exact ih acc hr
   |true=>
    obtain ⟨c,hc⟩:=hy (n,k) (Qb ..) (by simpa using hk);have LX:cellOf env n=pure c:=by unfold cellOf;rw [hc]
    simp only [hk,if_true,LX,pure_bind,hc,Option.getD_some];exact ih _ hr
 simp only [closureFor];rw [key _ _ h];rfl
theorem XF {cells:List (Str×Addr)} {x:Str} {c:Addr}:∀{names:List (Str×NameKind)} {acc:List (Str×Addr)},(∀y∈names,y.2= .free->∃c,cells.lookup y.1=some c)->(∀c,acc.lookup x=some c->cells.lookup x=some c)->
 (yP cells names acc).lookup x=some c->cells.lookup x=some c
 |[],acc,_,ha,h=>ha c h
 |(n,k)::r,acc,hn,ha,h=>by
  rw [yP] at h;refine XF (λz hz=>hn z (Qd _ hz)) (λc' LX=>?_) h
  cases hk:k==NameKind.free with
  |false=>rw [hk] at LX;simp only [jbH,if_false] at LX;exact ha c' LX
  |true=>
   rw [hk] at LX;simp only [if_true] at LX;obtain ⟨d,hd⟩:=hn (n,k) (Qb ..) (by simpa using hk);rw [jaJ] at LX
   cases hx:x==n with
   |true=>
    rw [hx] at LX;have e:x=n:=by simpa using hx
    subst e;have MG:cells.lookup x=some d:=hd;rw [MG] at LX⊢;exact LX
   |false=>rw [hx] at LX;exact ha c' LX
theorem Xb {cells:List (Str×Addr)} {x:Str}:∀{names:List (Str×NameKind)} {acc:List (Str×Addr)},((x,NameKind.free)∈names\/(acc.lookup x).isSome=true)->((yP cells names acc).lookup x).isSome=true
 |[],acc,h=>by
  rcases h with h|h
  ·exact absurd h (Qv)
  ·exact h
 |(n,k)::r,acc,h=>by
  rw [yP];refine Xb ?_
  have keep:(acc.lookup x).isSome=true->((if (k==NameKind.free)=true then (n,(cells.lookup n).getD 0)::acc else acc).lookup x).isSome=true:=λz=>by
   split
   ·rw [jaJ];split<;>simp [z]
   ·exact z
  rcases h with h|h
  ·rcases Ql.mp h with e|e
   ·cases e;refine .inr ?_
    simp
   ·exact .inl e
  ·exact .inr (keep h)
def xi (X:Cx) (N:List Str) (scope:Scope) (C:Addr) (ex:List Addr) (s:Shared) (H:Hp):Cx where
 prog:=X.prog
 w:=X.w
 K:=X.K
 mg:=X.mg
 base:=X.base
 A:=X.A
 N:=N
 s₀:=s
 H₀:=H
 env:=compEnvC scope (yP X.env.cells scope.names []) C X.env
 outer:=X.stack
 stack:=X.stack
 ex:=ex
 fn:=λ_=>false
 calm:=X.calm
 pn:=[]
 xe:=λ_ _=>False
def frσ (σ:L2.St) (fr:List Nat):L2.St:=fr.map λj=>(σ[j]?).getD none
structure CompOk (X:Cx) (N:List Str) (n:Nat) (fr:List Nat) (scope:Scope):Prop where
 kind:scope.kind= .function
 nd:N.Nodup
 names:(N.drop n)=fr.map (λj=>(X.N[j]?).getD ("":Str))
 own:n<=N.length
 inx:(fr.all λj=>decide (j<X.N.length))=true
 free:((N.drop n).all λx=>decide (scope.names.lookup x=some .free))=true
 nocell:(scope.names.all λy=>decide (y.2≠ .cell))=true
 loc:(scope.names.all λy=>decide (y.2= .local->scope.names.lookup y.1=some .local))=true
 seen:(scope.names.all λy=>decide (y.2= .free->(X.env.kindOf y.1=some .cell\/X.env.kindOf y.1=some .free)))=true
theorem Uh {scope:Scope} {env:Env} {x:Str} {k:NameKind} (h:(relabel scope env).names.lookup x=some k) (hk:k= .cell\/k= .free) (hc:(scope.names.all λy=>decide (y.2≠ .cell))=true):(x,NameKind.free)∈scope.names:=by
 unfold relabel at h;dsimp only at h
 have key:∀names:List (Str×NameKind),(names.all λy=>decide (y.2≠ .cell))=true->
  (names.map λ(n,k)=>if (k==NameKind.free && env.scope.kind== .function && env.kindOf n==some .cell)=true then (n,NameKind.cell) else (n,k)).lookup x=some k->(x,NameKind.free)∈names:=by
  intro names
  induction names with
  |nil=>intro _ h;simp at h
  |cons y r ih=>
   intro ha h;obtain ⟨n,j⟩:=y;rw [List.all_cons,Tr] at ha;rw [Qn] at h;have e1:∀(b:Bool) (k1:NameKind),((if b=true then (n,NameKind.cell) else (n,k1)):Str×NameKind)=(n,if b=true then NameKind.cell else k1):=by intro b k1;cases b<;>rfl
   dsimp only at h;rw [e1,jaJ] at h
   cases hx:x==n with
   |false=>rw [hx] at h;exact Qd _ (ih ha.2 h)
   |true=>
    rw [hx] at h;have e:x=n:=by simpa using hx
    subst e;have h':=Qz h;have hj:j≠ .cell:=by simpa using ha.1
    have:j= .free:=by
     cases hb:(j==NameKind.free && env.scope.kind== .function && env.kindOf x==some .cell) with
     |true=>
      rw [Tr,Tr] at hb
      simpa using hb.1.1
     |false=>
      rw [hb] at h';simp only [jbH,if_false] at h';subst h'
      rcases hk with z|z
      ·exact absurd z hj
      ·exact z
    subst this;exact Qb ..
 exact key _ hc h
theorem bD {scope:Scope} {env:Env} {x:Str} (h:scope.names.lookup x=some .free):(relabel scope env).names.lookup x=some .cell\/(relabel scope env).names.lookup x=some .free:=by
 unfold relabel;dsimp only
 have key:∀names:List (Str×NameKind),names.lookup x=some .free->
  (names.map λ(n,k)=>if (k==NameKind.free && env.scope.kind== .function && env.kindOf n==some .cell)=true then (n,NameKind.cell) else (n,k)).lookup x=some .cell\/(names.map λ(n,k)=>if (k==NameKind.free && env.scope.kind== .function && env.kindOf n==some .cell)=true then (n,NameKind.cell) else (n,k)).lookup x=some .free:=by
  intro names
  induction names with
  |nil=>intro h;simp at h
  |cons y r ih=>
   intro h;obtain ⟨n,j⟩:=y;have e1:∀(b:Bool) (k1:NameKind),((if b=true then (n,NameKind.cell) else (n,k1)):Str×NameKind)=(n,if b=true then NameKind.cell else k1):=by intro b k1;cases b<;>rfl
   rw [Qn];dsimp only;rw [e1,jaJ];rw [jaJ] at h
   cases hx:x==n with
   |false=>rw [hx] at h;exact ih h
   |true=>
    rw [hx] at h;cases Qz h;dsimp only
    split
    ·exact .inl rfl
    ·exact .inr rfl
 exact key _ h
section
variable {X:Cx} {N:List Str} {n:Nat} {fr:List Nat} {scope:Scope} {pins:List (Addr×Obj)} {σ:L2.St} {H:Hp} {s:Shared}
theorem CompOk.cells (O:CompOk X N n fr scope) (I:Inv X pins σ H s):∀y∈scope.names,y.2= .free->∃c,X.env.cells.lookup y.1=some c:=λy hy hf=>I.ok.has y.1 (QG (TC.mp O.seen y hy) hf)
theorem wB {fp:List Addr} {h':Heap} {tk:Nat} {m:Str->Option Value} (O:CompOk X N n fr scope) (I:Inv X pins σ H s) (hf:∀b∈fp,sG X pins H b) (RK:∀b∈fp,b<s.heap.objs.size)
 (Nn:h'.Ns s.heap.objs.size m) (keep:∀b o,s.heap.get? b=some o->h'.get? b=some o):
 Inv (xi X N scope s.heap.objs.size fp s H) [] (List.replicate n none++frσ σ fr) H {s with heap:=h',toks:=tk}:=by
 have NH:=O.cells I;have lk:∀x c,(yP X.env.cells scope.names []).lookup x=some c->X.env.cells.lookup x=some c:=λx c h=>XF NH (λc h=>by simp at h) h;have cne:∀x c,(yP X.env.cells scope.names []).lookup x=some c->∃v,s.heap.IsCell c v:=λx c h=>I.cell x c (lk x c h)
 have clt:∀x c,(yP X.env.cells scope.names []).lookup x=some c->c<s.heap.objs.size:=λx c h=>by
  obtain ⟨v,o,ho,_⟩:=cne x c h;exact Qt ho
 refine ⟨⟨I.mod,O.kind,I.ok.glob,I.ok.blt,Qp _,λx y c h1 h2=>I.ok.inj x y c (lk x c h1) (lk y c h2),λx hx=>?_,λx c h=>(by cases h),I.ok.hd,I.ok.frames, .inl rfl,λb hb=>⟨QM (RK b hb),λx c h=>(hf b hb).2.2.2.2.1 x c (lk x c h)⟩,I.bs,QI I.ok.bsz I.sz,λb o e hb=>?_,λb hb z=>?_,I.stack,I.stkFree⟩,
  rfl,I.bare,Un.kept keep,⟨m,Nn,λi x v h1 h2 h3=>?_⟩,λx c h=>?_,I.hok.fresh (Qp _),λx c h=>I.freeC x c (lk x c h),λp hp=>absurd hp (by simp [xi]),I.hok.kept keep,?_⟩
 ·have Mj:(x,NameKind.free)∈scope.names:=by
   rcases hx with hx|hx
   ·exact Uh hx (.inl rfl) O.nocell
   ·exact Uh hx (.inr rfl) O.nocell
  exact jae.mp (Xb (.inl Mj))
 ·rcases (hf b hb).2.2.2.1 with z|z
  ·exact I.ok.noex b o e z
  ·exact absurd (QV (Qt (I.ok.bs b o e).1) z) (jaw _)
 ·rcases Ql.mp (I.stkSub b z) with q|q
  ·exact (hf b hb).2.1 q
  ·exact (hf b hb).2.2.1 q
 ·by_cases hi:i<n
  ·rw [TU (by simpa using hi),QS,QH hi] at h2;cases h2
  ·have NC:(N.drop n)[i - n]? =some x:=by rw [jap,show n+(i - n)=i by omega];exact h1
   rw [Tp (by simpa using hi),QB] at h2;unfold frσ at h2;rw [Qi] at h2;rw [O.names,Qi] at NC
   cases ej:fr[i - n]? with
   |none=>rw [ej] at h2;cases h2
   |some j=>
    rw [ej] at h2 NC;have hjl:j<X.N.length:=QG (TC.mp O.inx j (Qe ej))
    have hx:X.N[j]? =some x:=by
     have e:=Qz NC;dsimp only at e;rw [Qc hjl] at e⊢;exact congrArg some e
    have hv:σ[j]? =some (some v):=by
     have e:=Qz h2;dsimp only at e
     cases es:σ[j]? with
     |none=>rw [es] at e;cases e
     |some o=>rw [es] at e;rw [show o=some v from e]
    have Ny:scope.names.lookup x=some .free:=by
     refine QG (TC.mp O.free x ?_);exact Qe (i:=i - n) (by rw [jap,show n+(i - n)=i by omega];exact h1)
    have OQ:(x,NameKind.free)∈scope.names:=jaz Ny;have PB:=QG (TC.mp O.seen _ OQ) rfl;obtain ⟨mX,hnX,SW⟩:=I.loc;obtain ⟨u,ru,lu⟩:=SW j x v hx hv (PB.elim (λz=> .inr (.inl z)) λz=> .inr (.inr z));refine ⟨u,ru, .inr ⟨?_,?_⟩⟩
    ·exact bD Ny
    ·obtain ⟨c,hc⟩:=jae.mp (Xb (cells:=X.env.cells) (acc:=[]) (.inl OQ));refine ⟨c,hc,?_⟩
     rcases lu with ⟨k,_⟩|⟨_,c',LX,z⟩
     ·rcases PB with q|q
      ·rw [show X.env.kindOf x=_ from k] at q;cases q
      ·rw [show X.env.kindOf x=_ from k] at q;cases q
     ·have:=lk x c hc;rw [LX] at this;cases this;obtain ⟨o,ho,hd⟩:=z;exact ⟨o,keep _ _ ho,hd⟩
 ·obtain ⟨v,o,ho,hd⟩:=cne x c h;exact ⟨v,o,keep _ _ ho,hd⟩
 ·rw [Qy,QB];unfold frσ;have e:=congrArg List.length O.names;rw [Ti,Qa] at e;have:=O.own;show _=N.length;rw [Qa];omega
end
def PIf (Y:Cx) (ifs:List Expr) (tt:TT):Prop:=
 ∀(pins:List (Addr×Obj)) (s:Shared) (σ:L2.St) (H:Hp) (Q:Bool->Hp->Prop),Inv Y pins σ H s->tt σ H Q->
  wpAny (model Y.prog Y.w) Y.A (forIn ifs true λc r=>if r=true then do let ok<-isTrue c Y.env (eval c Y.env);pure (ForInStep.yield ok) else pure (ForInStep.yield r)) (TP Y pins σ Q) Y.xe s
def tTrue:TT:=λ_ H Q=>Q true H
theorem qI {Y:Cx}:PIf Y [] tTrue:=λpins s σ H Q I h=>wpAny_tests_nil ⟨H,I,h⟩
theorem pif_one {Y:Cx} {c:Expr} {tt:TT} (h:PT Y c tt):PIf Y [c] tt:=λpins s σ H Q I q=>wpAny_tests_one (h pins s σ H Q I q)
abbrev Blk (α:Type):=Addr->List Addr->Shared->Hp->α
def uW (n:Nat) (fr:List Nat) (wi:TI) (g:Blk TG) (tt:Blk TT) (te:Blk TE):TE:=λσ H Q=>wi σ H λJ H1=>∀D,H1 D=none->∀C ex s0 H0,
 ∃W:Nat->Nat->List V->Hp->Prop,(∃m,W 0 m [] (upd H1 D (.lst [])))/\∀i m ys H2,W i m ys H2->H2 D=some (.lst ys)/\
  ((J.stop i H2/\Q (.ref D) H2)\/(J.go i H2/\∀x H3,J.yld i H2 x H3->g C ex s0 H0 x (List.replicate n none++frσ σ fr) H3 λσ4 H4=>σ4.drop n=frσ σ fr/\tt C ex s0 H0 σ4 H4 λb H5=>
    if b=true then te C ex s0 H0 σ4 H5 λy H6=>H6 D=some (.lst ys)/\ys.length<sizeLine/\∃m',m'<m/\W (i+1) m' (ys++[y]) (upd H6 D (.lst (ys++[y])))
    else ∃m',m'<m/\W (i+1) m' ys H5))
structure Side (X:Cx) (pins:List (Addr×Obj)) (H:Hp) (C:Addr):Prop where
 nt:H C=none
 nl:C≠X.env.locals
 ab:X.s₀.heap.objs.size<=C
 nc:∀x c,X.env.cells.lookup x=some c->c≠C
 np:∀p∈X.pn++pins,p.1≠C
section
variable {X:Cx} {N:List Str} {n:Nat} {fr:List Nat} {scope:Scope}
theorem yN {α:Type} {M:Model} {A:Around} {m:Sem α} {Q:α->Shared->Prop} {E:Value->Shared->Prop} {s:Shared} (h:wpAny M A m Q (λ_ _=>False) s):wpAny M A m Q E s:=wpAny_mono h (λ_ _ q=>q) λ_ _ z=>z.elim
theorem uo {tg iter elt:Expr} {ifs:List Expr} {pos:Pos} {g:Blk TG} {tt:Blk TT} {te:Blk TE} {pins:List (Addr×Obj)} {σ:L2.St} {H2:Hp} {s2:Shared} {it:Addr} {fp:List Addr} {tn:Nat->Heap->Prop} {J:It} {Q:VK}
 {RR:Value->Addr->Result->Shared->Prop} {E:Value->Shared->Prop}
 (hc:X.calm=true) (O:CompOk X N n fr scope)
 (hg:∀C ex s H,PG (xi X N scope C ex s H) tg (g C ex s H)) (ht:∀C ex s H,PIf (xi X N scope C ex s H) ifs (tt C ex s H)) (he:∀C ex s H,PE (xi X N scope C ex s H) elt (te C ex s H))
 (I2:Inv X pins σ H2 s2) (T:Turn X.prog X.w X.K tg J fp it tn) (Mp:tn 0 s2.heap) (f2:∀b∈fp,sG X pins H2 b)
 (hW:∀D,H2 D=none->∀C ex s0 H0,∃W:Nat->Nat->List V->Hp->Prop,(∃m,W 0 m [] (upd H2 D (.lst [])))/\∀i m ys H2,W i m ys H2->H2 D=some (.lst ys)/\
  ((J.stop i H2/\Q (.ref D) H2)\/(J.go i H2/\∀x H3,J.yld i H2 x H3->g C ex s0 H0 x (List.replicate n none++frσ σ fr) H3 λσ4 H4=>σ4.drop n=frσ σ fr/\tt C ex s0 H0 σ4 H4 λb H5=>
    if b=true then te C ex s0 H0 σ4 H5 λy H6=>H6 D=some (.lst ys)/\ys.length<sizeLine/\∃m',m'<m/\W (i+1) m' (ys++[y]) (upd H6 D (.lst (ys++[y])))
    else ∃m',m'<m/\W (i+1) m' ys H5)))
 (hR:∀(D C:Addr) (H':Hp) (s':Shared),Q (.ref D) H'->(∃m,s'.heap.Ns C m)->Side X pins H' C->Inv X pins σ H' s'->RR (.ref D) C (.ok .next) s'):
 wpAny (model X.prog X.w) X.A (newList []) (λacc s₃=>wpAny (model X.prog X.w) X.A (newFunctionEnv scope X.env.globals (yP X.env.cells scope.names []) [] X.env.qual none .none (some X.env)) (λcenv s₄=>
  codeAny (model X.prog X.w) X.A (.compStart (.ListComp elt [⟨tg,iter,ifs,0⟩] scope pos) 0 (.ref it) acc {cenv with scope:=relabel scope X.env}) (RR acc cenv.locals) s₄) E s₃) E s2:=by
 have nocell:∀y∈scope.names,y.2≠ .cell:=λy hy=>QG (TC.mp O.nocell y hy);refine Ta (wpAny_newFunctionEnv nocell (by intro y hy;simp at hy) (λh₁ Nn₁ Rz₁=>?_) O.kind);have hDn:H2 s2.heap.objs.size=none:=I2.fresh;have I3:Inv X pins σ (upd H2 s2.heap.objs.size (.lst [])) {s2 with heap:=s2.heap.push {cls:= .type "list",data:= .seq ([]:List Value).toArray},toks:=s2.toks}:=I2.lnew (its:=[]) .nil (TH _);generalize hD:s2.heap.objs.size=D at*;dsimp only at Nn₁ Rz₁⊢;generalize Pq:s2.heap.push {cls:= .type "list",dict:=none,data:= .seq ([]:List Value).toArray}=LU at*;have SE:∀b o,s2.heap.get? b=some o->LU.get? b=some o:=λb o e=>by rw [<-Pq];exact Qh _ e
 have Sn:LU.objs.size=D+1:=by rw [<-Pq,QU,hD]
 have keep:∀b o,LU.get? b=some o->h₁.get? b=some o:=λb o e=>Rz₁.extBut b o (QM (Qt e)) (Qh _ e)
 have flt:∀b∈fp,b<D:=λb hb=>by
  obtain ⟨o,ho,_⟩:=T.obj _ _ Mp b hb;rw [<-hD];exact Qt ho
 have f3:∀b∈fp,sG X pins (upd H2 D (.lst [])) b:=λb hb=>⟨by rw [zR (QM (flt b hb))];exact (f2 b hb).1,(f2 b hb).2⟩;have IY:=wB (tk:=s2.toks+([]:List (Str×Value)).length) O I3 f3 (λb hb=>by show b<LU.objs.size;rw [Sn];exact TM (flt b hb)) Nn₁ keep;obtain ⟨W,⟨m0,w0⟩,turn⟩:=hW _ hDn LU.objs.size fp {s2 with heap:=LU,toks:=s2.toks} (upd H2 D (.lst []));have Pb:tn 0 h₁:=T.keep _ _ _ Mp λb hb o e=>keep b o (SE b o e);generalize hY:xi X N scope LU.objs.size fp {s2 with heap:=LU,toks:=s2.toks} (upd H2 D (.lst []))=Y at*;have eEnv:Y.env=compEnvC scope (yP X.env.cells scope.names []) LU.objs.size X.env:=by rw [<-hY];rfl
 have PL:=hg LU.objs.size fp {s2 with heap:=LU,toks:=s2.toks} (upd H2 D (.lst []));have Pn:=ht LU.objs.size fp {s2 with heap:=LU,toks:=s2.toks} (upd H2 D (.lst []));have PN:=he LU.objs.size fp {s2 with heap:=LU,toks:=s2.toks} (upd H2 D (.lst []));rw [hY] at PL Pn PN;have eP:Y.prog=X.prog:=by rw [<-hY];rfl
 have eW:Y.w=X.w:=by rw [<-hY];rfl
 have eK:Y.K=X.K:=by rw [<-hY];rfl
 have eA:Y.A=X.A:=by rw [<-hY];rfl
 have eC:Y.calm=true:=by rw [<-hY];exact hc
 have eX:Y.xe=λ_ _=>False:=by rw [<-hY];rfl
 have fY:∀{H':Hp},(∀b∈fp,H' b=none)->∀b∈fp,sG Y [] H' b:=λ{H'} hn b hb=>by
  have h1:=IY.ok.exf b (by rw [<-hY];exact hb);refine ⟨hn b hb,h1.1,IY.ok.exfs b (by rw [<-hY];exact hb), .inl (by rw [<-hY];exact hb),h1.2,λp hp=>absurd hp (by rw [<-hY];simp [xi])⟩
 have loop:codeAny (model X.prog X.w) X.A (.compLoop (.ListComp elt [⟨tg,iter,ifs,0⟩] scope pos) 0 (.ref it) (.ref D) (compEnvC scope (yP X.env.cells scope.names []) LU.objs.size X.env))
  (RR (.ref D) LU.objs.size) {s2 with heap:=h₁,toks:=s2.toks+([]:List (Str×Value)).length}:=by
  refine codeAny_loop rfl (λk s'=>∃i ys H',Inv Y [] (List.replicate n none++frσ σ fr) H' s'/\tn i s'.heap/\(∀b∈fp,H' b=none)/\W i k ys H') (λk s5 hI=>?_) m0 ⟨0,[],_,IY,Pb,λb hb=>(f3 b hb).1,w0⟩;obtain ⟨i,ys,H5,I5,NL,OJ,w5⟩:=hI;show wpAny _ X.A ((compTurn (.ListComp elt [⟨tg,iter,ifs,0⟩] scope pos) 0 (.ref it) (.ref D) _).onRaise (λx=>do noteFrame x _;theTreesLotGoes x)) _ _ s5;refine wpAny_noted ?_;rw [compTurn_list,<-eEnv];refine Qg (wpAny_standAt (Qg ?_));obtain ⟨RT,step⟩:=turn i k ys H5 w5
  rcases step with ⟨stop,qn⟩|⟨go,step⟩
  ·have d:=T.done Y eP eW eK eC i [] s5 _ H5 (λ_ _=>False) I5 (fY OJ) NL stop;rw [eA] at d;refine yN (thn d λr s6 hh=>?_);obtain ⟨hr,I6⟩:=hh;subst hr;refine Qm ?_;have hC:H5 LU.objs.size=none:=by have:=I6.free;rw [eEnv] at this;exact this
   have OB:∃m,s6.heap.Ns LU.objs.size m:=by
    have:=I6.loc;rw [eEnv] at this;obtain ⟨m,hm,_⟩:=this;exact ⟨m,hm⟩
   have sd:Side X pins H5 LU.objs.size:=⟨hC,jaR I3.lt,I3.sz,λx c e=>QM (let ⟨v,o,ho,_⟩:=I3.cell x c e;Qt ho),λp hp=>QM (Qt (I3.pin p hp).1)⟩;refine hR D LU.objs.size H5 s6 qn OB sd ?_;have un:=I6.base;have e0:Y.s₀.heap=LU:=by rw [<-hY];rfl
   have eH0:Y.H₀=upd H2 D (.lst []):=by rw [<-hY];rfl
   have eF:Y.fs=frs X.stack:=by rw [<-hY];rfl
   have eEx:Y.ex=fp:=by rw [<-hY];rfl
   rw [e0,eH0,eF,eEx] at un;have Nv:HOk X.prog X.w H5 s6.heap:=by have:=I6.hok;rw [eP,eW] at this;exact this
   have Sx:s6.os=s2.os:=I6.os.trans (by rw [<-hY];rfl);exact I3.call' (s':=s6) (ch:=fp) Sx un Nv I6.bare λb hb=>⟨(f2 b hb).2.2.2.1,(f2 b hb).2.1,(f2 b hb).2.2.2.2.1,(f2 b hb).2.2.2.2.2⟩
  ·have d:=T.item Y eP eW eK eC i [] s5 _ H5 (λ_ _=>False) I5 (fY OJ) NL go;rw [eA] at d;refine yN (thn d λr s6 hh=>?_);obtain ⟨u,hr,h6⟩:=hh;subst hr;refine Qg (yN (thn h6 λ_ s7 hh=>?_));obtain ⟨x,H7,I7,r7,y7,Oo,fr7⟩:=hh;have I7':=I7.pinned (fY fr7) (T.obj _ _ Oo);have g7:=PL _ s7 _ H7 x u _ I7' r7 (step x H7 y7);rw [eA,eP,eW,eX] at g7;refine Qg (yN (thn g7 λ_ s8 hh=>?_));obtain ⟨σ8,H8,I8,ed,q8⟩:=hh;have t8:=Pn _ s8 σ8 H8 _ I8 q8;rw [eA,eP,eW,eX] at t8;refine Qg (yN (thn t8 λb s9 hh=>?_));obtain ⟨H9,I9,q9⟩:=hh
   have back:∀{s':Shared} {H':Hp} {Om:List V} {m':Nat},Inv Y ([]++iQ fp s7.heap) σ8 H' s'->m'<k->W (i+1) m' Om H'->∃m,m<k/\∃i ys H',Inv Y [] (List.replicate n none++frσ σ fr) H' s'/\tn i s'.heap/\(∀b∈fp,H' b=none)/\W i m ys H':=λ{s' H' Om m'} I' hm w'=>by
    refine ⟨m',hm,i+1,Om,H',?_,T.keep _ _ _ Oo λb hb o e=>(I'.pin (b,o) (QA _ (QA _ (ZS hb e)))).1,λb hb=>?_,w'⟩
    ·refine (Inv.unpinned I').weak ?_ λj v hj=>?_
     ·exact IY.len.trans I'.len.symm
     ·by_cases OD:j<n
      ·rw [TU (by simpa using OD),QS,QH OD] at hj;cases hj
      ·rw [Tp (by simpa using OD),QB,<-ed,jap,show n+(j - n)=j by omega] at hj;exact hj
    ·obtain ⟨o,e,d⟩:=T.obj _ _ Oo b hb;exact (I'.pin (b,o) (QA _ (QA _ (ZS hb e)))).2.1
   cases b with
   |false=>
    obtain ⟨m',hm,w9⟩:=q9;exact Qm ⟨rfl,back I9 hm w9⟩
   |true=>
    have e9:=PN _ s9 σ8 H9 _ I9 q9;rw [eA,eP,eW,eX] at e9;refine Qg (Qg (yN (thn e9 λv Sq hh=>?_)));obtain ⟨y,Nq,I10,Su,OI,hz,m',hm,NV⟩:=hh;have Rf:=nZ _ Sq σ8 Nq (.ref D) [y] (.ref D) [v] (λ_ H'=>H'=upd Nq D (.lst (ys++[y]))) I10 rfl (.cons Su .nil) ⟨D,ys,y,rfl,rfl,OI,hz,rfl⟩;rw [eA,eP,eW,eX] at Rf;refine Qg (yN (thn Rf λ_ s11 hh=>?_));obtain ⟨_,OL,I11,_,OU⟩:=hh;subst OU;exact Qm (Qm ⟨rfl,back I11 hm NV⟩)
 exact codeAny_compStart_list loop (T.self _ _ _ _ _ Pb loop)
theorem Js {tg iter elt:Expr} {ifs:List Expr} {pos:Pos} {wi:TI} {g:Blk TG} {tt:Blk TT} {te:Blk TE}
 (hc:X.calm=true) (O:CompOk X N n fr scope) (hi:PI X tg iter wi)
 (hg:∀C ex s H,PG (xi X N scope C ex s H) tg (g C ex s H)) (ht:∀C ex s H,PIf (xi X N scope C ex s H) ifs (tt C ex s H)) (he:∀C ex s H,PE (xi X N scope C ex s H) elt (te C ex s H))
 (hs:∀x,foldedSetIterable iter X.env x=pure x:=by intro _;rfl):
 PE X (.ListComp elt [⟨tg,iter,ifs,0⟩] scope pos) (uW n fr wi g tt te):=by
 intro pins s σ H Q I h;rw [eval_ListComp];refine jbD (use:=none) rfl hs (XE (O.cells I)) O.kind (λy hy=>QG (TC.mp O.loc y hy)) (thn (hi pins s σ H _ I h) λv s1 h1=>thn h1 λitv s2 h2=>?_);obtain ⟨it,fp,tn,J,H2,e,I2,T,Mp,f2,hW⟩:=h2;subst e;refine uo (RR:=λacc C=>compPost (model X.prog X.w) X.A X.xe none (EP X pins σ Q) acc C) hc O hg ht he I2 T Mp f2 hW ?_;intro D C H' s' q ⟨m,hm⟩ sd inv;exact ⟨m,hm,λh' Ob=>⟨.ref D,H',inv.turned (t':=s'.toks) (it:=C) (λb o hb e=>Ob.extBut b o hb e) sd.nt sd.nl (.inr sd.ab) sd.nc sd.np,rfl,q⟩⟩
theorem vv {i:Nat} {x:Str} {px:Pos} {tg iter elt:Expr} {ifs:List Expr} {pos spos:Pos} {wi:TI} {g:Blk TG} {tt:Blk TT} {te:Blk TE}
 (hN:X.N.Nodup) (hx:X.N[i]? =some x) (hk:X.env.scope.names.lookup x=some .local)
 (hc:X.calm=true) (O:CompOk X N n fr scope) (hi:PI X tg iter wi)
 (hg:∀C ex s H,PG (xi X N scope C ex s H) tg (g C ex s H)) (ht:∀C ex s H,PIf (xi X N scope C ex s H) ifs (tt C ex s H)) (he:∀C ex s H,PE (xi X N scope C ex s H) elt (te C ex s H))
 (SJ:swapsWith (.ListComp elt [⟨tg,iter,ifs,0⟩] scope pos) (some (.Name x px)) spos.line X.env=pure true:=by rfl)
 (hs:∀x,foldedSetIterable iter X.env x=pure x:=by intro _;rfl):
 PS X (.Assign [.Name x px] (.ListComp elt [⟨tg,iter,ifs,0⟩] scope pos) spos) (Ky (uW n fr wi g tt te) (lB i)):=by
 intro pins s σ H D I h;rw [exec_Assign_Name_used _ _ _ _ SJ];refine Qg (wpAny_standAt (Qg ?_));show wpAny _ X.A (do let _<-comprehension (.ListComp elt [⟨tg,iter,ifs,0⟩] scope pos) scope X.env _ (newList []) false (eval iter X.env) (some (assign (.Name x px) X.env))) _ _ s
 refine Qg (wpAny_mono (jbD (use:=some (assign (.Name x px) X.env)) (Q:=λ_ s'=>SP X pins D .next s') rfl hs (XE (O.cells I)) O.kind (λy hy=>QG (TC.mp O.loc y hy))
  (thn (hi pins s σ H _ I h) λv s1 h1=>thn h1 λitv s2 h2=>?_)) (λ_ s' hq=>Qm (Qm hq)) λ_ _ e=>e)
 obtain ⟨it,fp,tn,J,H2,e,I2,T,Mp,f2,hW⟩:=h2;subst e;refine uo (Q:=λx H1=>lB i x σ H1 D.nx) (RR:=λacc C=>compPost (model X.prog X.w) X.A X.xe (some (assign (.Name x px) X.env)) (λ_ s'=>SP X pins D .next s') acc C) hc O hg ht he I2 T Mp f2 hW ?_;intro Dl C H' s' q ⟨m,hm⟩ sd inv;show wpAny _ X.A (assign (.Name x px) X.env (.ref Dl)) _ _ _;refine wpAny_assign_Name (mL (i:=i) (v:= .ref Dl) inv hN hx (.inl hk) rfl (λs6 I6 ⟨a,Rz,ha⟩=>?_) (.inr hk))
 have hCa:C≠a:=by
  rcases ha with z|z
  ·rw [z];exact sd.nl
  ·exact λe=>sd.nc x a z e.symm
 refine ⟨m,hm.sameBut Rz hCa,λh' Ob=>?_⟩;refine ⟨_,H',I6.turned (t':=s6.toks) (it:=C) (λb o hb e=>Ob.extBut b o hb e) sd.nt sd.nl (.inr sd.ab) sd.nc sd.np,q⟩
end
open PySem.AutoSeq1 (wpAny_loadPart')
def ItB (b:Bool) (h:Heap) (it a:Addr) (i:Nat):Prop:=match b with|true=>h.IsListIter it a i|false=>h.IsTupleIter it a i
def SeB (b:Bool) (h:Heap) (a:Addr) (items:Array Value):Prop:=match b with|true=>h.IsList a items|false=>h.IsTuple a items
def SqB (b:Bool) (K:PySem.W.Frag) (H:Hp) (a:Addr) (xs:List V):Prop:=match b with|true=>SqL K H a xs|false=>SqT K H a xs
theorem ItB.at {b:Bool} {h h':Heap} {it a:Addr} {i:Nat} (x:ItB b h it a i) (k:∀o,h.get? it=some o->h'.get? it=some o):ItB b h' it a i:=by
 cases b with
 |true=>obtain ⟨o,ho,r⟩:=x;exact ⟨o,k o ho,r⟩
 |false=>obtain ⟨o,ho,r⟩:=x;exact ⟨o,k o ho,r⟩
theorem ItB.obj {b:Bool} {h:Heap} {it a:Addr} {i:Nat} (x:ItB b h it a i):∃o,h.get? it=some o/\∀v,o.data≠ .cell v:=by
 cases b with
 |true=>obtain ⟨o,ho,c,d⟩:=x;exact ⟨o,ho,λv z=>by rw [d] at z;cases z⟩
 |false=>obtain ⟨o,ho,c,d⟩:=x;exact ⟨o,ho,λv z=>by rw [d] at z;cases z⟩
theorem SeB.at {b:Bool} {h h':Heap} {a:Addr} {items:Array Value} (x:SeB b h a items) (k:∀o,h.get? a=some o->h'.get? a=some o):SeB b h' a items:=by
 cases b with
 |true=>obtain ⟨o,ho,r⟩:=x;exact ⟨o,k o ho,r⟩
 |false=>obtain ⟨o,ho,r⟩:=x;exact ⟨o,k o ho,r⟩
theorem SeB.obj {b:Bool} {h:Heap} {a:Addr} {items:Array Value} (x:SeB b h a items):∃o,h.get? a=some o:=by
 cases b with
 |true=>obtain ⟨o,ho,r⟩:=x;exact ⟨o,ho⟩
 |false=>obtain ⟨o,ho,r⟩:=x;exact ⟨o,ho⟩
section
variable {X:Cx} {pins:List (Addr×Obj)} {σ:L2.St} {H:Hp} {s:Shared} {a:Addr} {xs ys:List V} {b:Bool}
theorem seB (I:Inv X pins σ H s) (h:SqB b X.K H a xs):∃its:List Value,xn xs its/\SeB b s.heap a its.toArray/\xs.length<=sizeLine:=by
 cases b with
 |true=>obtain ⟨its,r,p,z⟩:=I.list h;exact ⟨its,r,p.isList,z⟩
 |false=>obtain ⟨its,r,p,z⟩:=I.tuple h;exact ⟨its,r,p,z⟩
theorem qg (I:Inv X pins σ H s) (h:SqB b X.K H a xs) (h':SqB b X.K H a ys):xs=ys:=by
 cases b with
 |true=>exact I.list_inj h h'
 |false=>exact I.tuple_inj h h'
end
section
variable {prog:Program} {w:World} {A:Around} {E:Value->Shared->Prop} {s:Shared}
theorem aq {it t:Addr} {i:Nat} {items} {x:Value} {Q:Value->Shared->Prop} (hit:s.heap.IsTupleIter it t i)
 (ht:s.heap.IsTuple t items) (hx:items[i]? =some x)
 (hQ:∀h',h'.IsTupleIter it t (i+1)->Heap.SameBut it s.heap h'->Q x {s with heap:=h'}):
 wpAny (model prog w) A (Builtin.SmallTypes.nextOf (.ref it)) Q E s:=by
 obtain ⟨o,ho,hc,hd⟩:=id hit;obtain ⟨ol,SO,_,nl,hdl⟩:=ht;unfold Builtin.SmallTypes.nextOf
 refine Qg (Tf (name:=Str.ofString "__next__") hit.typeIs jaP
  (TB jaP hit.typeIs F.entry_tuple_iterator_next ?_ (F.args_tuple_iterator_next_1 _)))
 show wpAny _ _ (field (.ref it) 0>>=_) _ _ s;refine Qg (jau ho hd (x:= .ref t) rfl ?_);show wpAny _ _ (if (Value.ref t==Value.none)=true then _ else _) _ _ s;rw [QP (show ¬((Value.ref t==Value.none)=true) from Qx)];show wpAny _ _ (field (.ref it) 1>>=_) _ _ s;refine Qg (jau ho hd (x:= .int i 0) rfl ?_);show wpAny _ _ (seqItems? (.ref t)>>=_) _ _ s;refine Qg (jaU SO hdl ?_);simp only [TV,hx];refine Qg (jaV ho hd (by simp) (Qm ⟨x,rfl,Qm (hQ _ ?_ (TN ..))⟩))
 exact ⟨_,jaD _ ho (Obj.isFreed_of_fields (jbI hd _)),(Obj.cls_mapFields ..).trans hc,by
  rw [jbI hd];simp [rawInt]⟩
theorem bO {it t:Addr} {i:Nat} {items} {Q:Value->Shared->Prop} (hh:A.handled=none)
 (hit:s.heap.IsTupleIter it t i) (ht:s.heap.IsTuple t items) (hx:items[i]? =none)
 (hE:∀h' e,Heap.ExtBut it s.heap h'->(∃o,h'.get? e=some o/\o.cls= .type "StopIteration")->E (.ref e) {s with heap:=h'}):
 wpAny (model prog w) A (Builtin.SmallTypes.nextOf (.ref it)) Q E s:=by
 obtain ⟨o,ho,hc,hd⟩:=id hit;obtain ⟨ol,SO,_,nl,hdl⟩:=ht;unfold Builtin.SmallTypes.nextOf
 refine Qg (Tf (name:=Str.ofString "__next__") hit.typeIs jaP
  (TB jaP hit.typeIs F.entry_tuple_iterator_next ?_ (F.args_tuple_iterator_next_1 _)))
 show wpAny _ _ (field (.ref it) 0>>=_) _ _ s;refine Qg (jau ho hd (x:= .ref t) rfl ?_);show wpAny _ _ (if (Value.ref t==Value.none)=true then _ else _) _ _ s;rw [QP (show ¬((Value.ref t==Value.none)=true) from Qx)];show wpAny _ _ (field (.ref it) 1>>=_) _ _ s;refine Qg (jau ho hd (x:= .int i 0) rfl ?_);show wpAny _ _ (seqItems? (.ref t)>>=_) _ _ s;refine Qg (jaU SO hdl ?_);simp only [TV,hx];refine Qg (jbQ (Qg (jaV ho hd (by simp) ?_)));show wpAny _ _ (newExc (.type "StopIteration") []>>=_) _ _ _;refine Qg ?_;simp only [newExc,newTuple];refine Qg (Ta ?_ (by size_fits));refine Qg (m:=firstArgMember _ _) (wpAny_of_eq (a:=Value.none) (by first|rfl|(simp only [firstArgMember];rfl)) ?_);refine Ta ?_ (by size_fits);simp only [raiseNew];refine Qg (wpAny_handled ?_)
 first|rw [show A.in1.handled=none from hh]|rw [hh]
 refine Qg (Qm (wpAny_throw ?_));exact hE _ _ (((TN ..).extBut.push _).push _) ⟨_,Qu _ rfl,rfl⟩
theorem WU {b:Bool} {it a:Addr} {i:Nat} {items} {x:Value} {Q:Value->Shared->Prop} (hit:ItB b s.heap it a i) (hl:SeB b s.heap a items) (hx:items[i]? =some x)
 (hQ:∀h',ItB b h' it a (i+1)->Heap.SameBut it s.heap h'->Q x {s with heap:=h'}):wpAny (model prog w) A (Builtin.SmallTypes.nextOf (.ref it)) Q E s:=by
 cases b with
 |true=>exact wpAny_nextOf_list_item hit hl hx hQ
 |false=>exact aq hit hl hx hQ
theorem Up {b:Bool} {it a:Addr} {i:Nat} {items} {Q:Value->Shared->Prop} (hh:A.handled=none) (hit:ItB b s.heap it a i) (hl:SeB b s.heap a items) (hx:items[i]? =none)
 (hE:∀h' e,Heap.ExtBut it s.heap h'->(∃o,h'.get? e=some o/\o.cls= .type "StopIteration")->E (.ref e) {s with heap:=h'}):
 wpAny (model prog w) A (Builtin.SmallTypes.nextOf (.ref it)) Q E s:=by
 cases b with
 |true=>exact wpAny_nextOf_list_end hh hit hl hx hE
 |false=>exact bO hh hit hl hx hE
end
theorem drawsB {prog:Program} {w:World} {A:Around} (hh:A.handled=none) (b:Bool) (it a:Addr) (Ma:a≠it) (items:Array Value):
 Draws prog w A it [it,a] items.size (λi x=>items[i]? =some x) (λi h=>ItB b h it a i/\SeB b h a items) where
 live:=λi h Mh=>by obtain ⟨o,ho,_⟩:=Mh.1.obj;exact ⟨o,ho⟩
 frame:=λi h h' Mh hk=>⟨Mh.1.at λo e=>hk _ (by simp) o e,Mh.2.at λo e=>hk _ (by simp) o e⟩
 item:=λi s Q E hi Mh hQ=>WU Mh.1 Mh.2 (Array.getElem?_eq_getElem hi) λh' hit' Ob=>hQ _ h' s.toks (Array.getElem?_eq_getElem hi) ⟨hit',Mh.2.at λo e=>(Ob.2 _ Ma).trans e⟩ Ob
 done:=λs Q E Mh hE=>Up hh Mh.1 Mh.2 (by simp) hE
theorem Uz {X:Cx} {pins:List (Addr×Obj)} {σ:L2.St} {H:Hp} {s:Shared} {h':Heap} {t':Nat} {ch:List Addr} {a:Addr} {o:HO} (I:Inv X pins σ H s) (hf:∀b∈ch,sG X pins H b)
 (k:∀b o,b∉ch->s.heap.get? b=some o->h'.get? b=some o) (th:∀b∈ch,∃o,h'.get? b=some o) (ha:s.heap.objs.size<=a) (new:ZP X.prog X.w (upd H a o) h' a o):
 Inv X pins σ (upd H a o) {s with heap:=h',toks:=t'}:=by
 have hna:H a=none:=I.hok.fresh ha;have same:zL H (upd H a o):=zL.new hna o
 refine I.step (g':=s.gens) (d':=s.drawn) (ch:=ch) (λb hb=>⟨(hf b hb).2.2.2.1,(hf b hb).2.1,(hf b hb).2.2.2.2.1,(hf b hb).2.2.2.2.2⟩) (λb u _ _ hc e _=>k b u hc e) (λb u _ _ hc e _=>⟨u.slots,k b u hc e⟩)
  (λb u hc e n=>by rw [zR (QM (QV (Qt e) ha))];exact n) (λb u hc e=>⟨u,k b u hc e⟩) (λb xs e=>same _ _ e) (λb u v e=>same _ _ e) (λb ps e=>⟨#[],by rw [same _ _ e];simp⟩) (λm hm=>?_) (λb u e=>?_) I.bare
 ·obtain ⟨ob,es,ep,ho,r⟩:=hm;exact ⟨ob,es,ep,k _ ob (λz=>(hf _ z).2.1 rfl) ho,r⟩
 ·by_cases hb:b=a
  ·subst hb;rw [zZ] at e;cases e;exact new
  ·rw [zR hb] at e;refine (I.hok b u e).stay (λc v hc q=>k c v ?_ q) (λ_ q=>same _ _ q) λ_ _ q=>same _ _ q;intro z
   rcases hc with q|q
   ·rw [q] at z;rw [(hf b z).1] at e;cases e
   ·rw [(hf c z).1] at q;cases q
def ItE (b:Bool) (K:PySem.W.Frag) (a:Addr):It:=
 ⟨λi H=>∃xs x,SqB b K H a xs/\xs[i]? =some x,λi H v H'=>∃p x,(∀xs,SqB b K H a xs->xs[i]? =some x)/\H p=none/\v= .ref p/\H'=upd H p (.tup [.int i,x]),λi H=>∃xs,SqB b K H a xs/\xs.length<=i⟩
theorem mM:(2:Nat)<=sizeLine:=by decide
theorem An {P:Program} {w:World} {K:PySem.W.Frag} {elts:List Expr} {k:Nat} {pos:Pos} (b:Bool) (a e it:Addr) (PZ:a≠it) (RL:e≠it) (hea:e≠a):
 Turn P w K (.Tuple elts k pos) (ItE b K a) [e,it] e (λi h=>(∃old,IsEnum h e it i old)/\ItB b h it a i) where
 mem:=by simp
 obj:=λi h st c hc=>by
  rcases Ql.mp hc with rfl|hc
  ·obtain ⟨old,z⟩:=st.1;exact ⟨_,z,λv q=>by cases q⟩
  ·obtain rfl:c=it:=by simpa using hc
   exact st.2.obj
 keep:=λi h h' st kk=>by
  obtain ⟨⟨old,z⟩,y⟩:=st;exact ⟨⟨old,kk e (by simp) _ z⟩,y.at λo q=>kk it (by simp) o q⟩
 item:=by
  intro X hP hw hK hc i pins s σ H E I hf st hg;subst hP hw hK;obtain ⟨⟨old,he⟩,hit⟩:=st;obtain ⟨xs,x,hq,hx⟩:=hg;obtain ⟨its,rv,p,hz⟩:=seB I hq;obtain ⟨u,hu,ru⟩:=rv.get hx;have hh:=I.ok.hd hc;have hi:i<its.toArray.size:=by have:=(Qf.mp hu).1;simpa using this
  refine wpAny_pyNext_enum_itemD (drawsB (A:=X.A.in1) hh b it a PZ its.toArray) he ⟨hit,p⟩ hi RL (by simp only [Ql,Qv,or_false,not_or];exact ⟨RL,hea⟩) λx' h' tk hP ho Mh hT MW hk=>?_
  have ex:x'=u:=by
   have hP':its[i]? =some x':=by simpa using hP
   rw [hu] at hP';exact (Qz hP').symm
  subst ex;refine ⟨_,rfl,wpAny_letOwnedTupleGo_enum ho λNS PQ Nb=>?_⟩;have PM:e<s.heap.objs.size:=Qt he;have hilt:it<s.heap.objs.size:=by obtain ⟨o,z,_⟩:=hit.obj;exact Qt z
  have NB:NS.get? s.heap.objs.size=some {cls:= .type "tuple",data:= .seq #[.int i tk,x']}:=(Nb.2 _ (jaR PM)).trans hT;refine ⟨.ref s.heap.objs.size,upd H s.heap.objs.size (.tup [.int i,x]),?_,rfl,⟨_,x,λys hy=>by rw [qg I hy hq];exact hx,I.fresh,rfl,rfl⟩,⟨⟨x',by simpa using PQ⟩,Mh.1.at λo q=>(Nb.2 _ RL.symm).trans q⟩,λc hc=>?_⟩
  ·refine Uz (s:=s) (t':=tk+1) (ch:=[e,it]) I hf (λc o Mn q=>(Nb.2 c (λz=>Mn (by simp [z]))).trans (hk c o (λz=>Mn (by simp [z])) (λz=>Mn (by simp [z])) q)) (λc hc=>?_) (Qp _) ⟨mM,[.int i tk,x'], .cons ⟨tk,rfl⟩ (.cons ru .nil),⟨_,NB,rfl,_,rfl⟩⟩
   rcases Ql.mp hc with rfl|hc
   ·exact ⟨_,PQ⟩
   ·obtain rfl:c=it:=by simpa using hc
    obtain ⟨o,z,_⟩:=Mh.1.obj;exact ⟨o,(Nb.2 _ RL.symm).trans z⟩
  ·have LS:c<s.heap.objs.size:=by
    rcases Ql.mp hc with rfl|hc
    ·exact PM
    ·obtain rfl:c=it:=by simpa using hc
     exact hilt
   rw [zR (QM LS)];exact (hf c hc).1
 done:=by
  intro X hP hw hK hc i pins s σ H E I hf st hg;subst hP hw hK;obtain ⟨⟨old,he⟩,hit⟩:=st;obtain ⟨xs,hq,hx⟩:=hg;obtain ⟨its,rv,p,hz⟩:=seB I hq;have hh:=I.ok.hd hc;have hl:=rv.length;obtain ⟨f0,f1,f2,f3,f4,f5⟩:=hf it (by simp);have hT:s.TypeIs (.ref e) "enumerate":=⟨_,he,rfl⟩;unfold pyNext;refine Qg (jbt (Tf (name:=Str.ofString "__next__") hT F.slot_enumerate_next (TB F.slot_enumerate_next hT F.entry_enumerate_next ?_ (F.args_enumerate_next_1 _))));show wpAny _ _ (field (.ref e) 2>>=_) _ _ _;refine Qg (jau he rfl (x:= .ref it) rfl ?_);refine Qg (Up (A:=X.A.in1) hh hit p (by simp;omega) λh' y PR Mj=>?_);obtain ⟨o,ho,NH⟩:=Mj;refine Qg (wpAny_isInstance (T:="StopIteration") (b:=true) ⟨o,ho,NH⟩ isSubtype_stop ?_);exact Qm ⟨rfl,I.turned (t':=s.toks) (λc o hb e=>PR c o hb e) f0 f1 f3 f4 f5⟩
 self:=λ_ _ _ _ _ st h=>by
  obtain ⟨⟨old,he⟩,_⟩:=st;exact wpAny_pyIter_enum he h
theorem og (l:Addr) (items:Array Value) (n:Nat) (dct:Option Addr) (sl:Array (Option Value)):
 Meets (Builtin.«enumerate.__new__» ⟨[.type "enumerate", .ref l],[]⟩) (λ_ R s=>s.heap.get? l=some {cls:= .type "tuple",dict:=dct,data:= .seq items n,slots:=sl}/\
  R (.ok (.ret (.ref (s.heap.push {cls:= .type "tuple_iterator",data:= .fields #[.ref l, .int 0 0]}).objs.size)))
    {s with heap:=(s.heap.push {cls:= .type "tuple_iterator",data:= .fields #[.ref l, .int 0 0]}).push {cls:= .type "enumerate",data:= .fields #[.none, .bool false, .ref s.heap.objs.size,rawInt 0, .none, .none]}}):=
 .of_wp λprog w A R s h=>by
  obtain ⟨hp,g,d,tk,os⟩:=s;obtain ⟨hl,h⟩:=h;have SK:=sub_enumerate;have hL:Heap.IsTuple (Shared.heap ⟨hp,g,d,tk,os⟩) l items:=⟨_,hl,rfl,n,rfl⟩
  wp_walk using jaY hl
  refine wpAny_stack_any λst=>Qm ?_
  split
  ·rename_i c _ _ _ _ _;cases (c==Value.type "enumerate")
   ·wp_walk using jaY hl,jan hL
    exact ⟨_,rfl,h⟩
   ·wp_walk using jaY hl,jan hL
    exact ⟨_,rfl,h⟩
  ·wp_walk using jaY hl,jan hL
   exact ⟨_,rfl,h⟩
theorem wF {prog:Program} {w:World} {A:Around} {E:Value->Shared->Prop} {s:Shared} {b:Bool} {l:Addr} {items:Array Value} {Q:Value->Shared->Prop} (hL:SeB b s.heap l items)
 (h:∀h',IsEnum h' (s.heap.objs.size+1) s.heap.objs.size 0 .none->ItB b h' s.heap.objs.size l 0->h'.objs.size=s.heap.objs.size+2->
  (∀b o,s.heap.get? b=some o->h'.get? b=some o)->Q (.ref (s.heap.objs.size+1)) {s with heap:=h'}):
 wpAny (model prog w) A (call (.type "enumerate") [.ref l]) Q E s:=by
 cases b with
 |true=>exact call_enumerate_list hL h
 |false=>
  obtain ⟨⟨c,dct,dt,sl⟩,hl,hc,n,hd⟩:=hL
  replace hc:c= .type "tuple":=hc
  replace hd:dt= .seq items n:=hd
  subst hc hd
  refine callType_new F.called_enumerate (by decide) (F.typeCall_enumerate_1 _) (F.newCall_enumerate_1 _) (λobj=>F.args_object_init_2 obj _) F.entry_enumerate_new
   (og l items n dct sl) ⟨hl,?_⟩
  have hz:(s.heap.push {cls:= .type "tuple_iterator",data:= .fields #[.ref l, .int 0 0]}).objs.size=s.heap.objs.size+1:=QU ..;show _/\_;rw [hz]
  have he:IsEnum ((s.heap.push {cls:= .type "tuple_iterator",data:= .fields #[.ref l, .int 0 0]}).push
   {cls:= .type "enumerate",data:= .fields #[.none, .bool false, .ref s.heap.objs.size,rawInt 0, .none, .none]}) (s.heap.objs.size+1) s.heap.objs.size 0 .none:=by
   have:=Qu (s.heap.push {cls:= .type "tuple_iterator",data:= .fields #[.ref l, .int 0 0]})
    (o:={cls:= .type "enumerate",data:= .fields #[.none, .bool false, .ref s.heap.objs.size,rawInt 0, .none, .none]}) rfl
   rw [hz] at this;exact this
  refine ⟨⟨_,he,rfl⟩,h _ he ⟨_,Qh _ (Qu _ rfl),rfl,rfl⟩ (by rw [QU,hz]) λb o x=>Qh _ (Qh _ x)⟩
section
variable {X:Cx}
def iEnum (b:Bool) (K:PySem.W.Frag) (ta:TA):TI:=λσ H R=>ta σ H λvs H1=>∃a,vs=[.ref a]/\(∃xs,SqB b K H1 a xs)/\R (ItE b K a) H1
theorem pi_enum (b:Bool) {elts:List Expr} {k:Nat} {tpos:Pos} {a:Expr} {ta:TA} {p pos:Pos} (hg:Gl X "enumerate") (hm:X.mg "enumerate"=none) (ha:PA X [a] ta) (hs:starEach [a] X.env=[(false,eval a X.env)]:=by rfl):
 PI X (.Tuple elts k tpos) (.Call (.Name "enumerate" p) [a] [] pos) (iEnum b X.K ta):=by
 intro pins s σ H R I h;refine Call_ (Vm I hg hm oR (TF (thn (ha pos pins s σ H _ I h) λus s1 ⟨vs,H1,I1,r1,q1⟩=>?_) hs rfl));obtain ⟨l,e,⟨xs,hq⟩,q⟩:=q1;subst e;obtain ⟨u,rfl,ru⟩:=UI r1;cases (show u=Value.ref l from ru);obtain ⟨its,rv,p1,hz⟩:=seB I1 hq;refine wF p1 λh' he hit MW hk=>wpAny_pyIter_enum he ?_;have I2:Inv X pins σ H1 {s1 with heap:=h'}:=I1.kept (t':=s1.toks) hk;have hl:l<s1.heap.objs.size:=by obtain ⟨o,z⟩:=p1.obj;exact Qt z
 refine ⟨s1.heap.objs.size+1,[s1.heap.objs.size+1,s1.heap.objs.size],_,_,H1,rfl,I2,An b l _ _ (QM hl) (Nat.succ_ne_self _) (jaR (TM hl)),⟨⟨_,he⟩,hit⟩,λc hc=>?_,q⟩
 rcases Ql.mp hc with rfl|hc
 ·exact I1.fpOk (jal _) (I1.hok.fresh (jal _))
 ·obtain rfl:c=s1.heap.objs.size:=by simpa using hc
  exact I1.fpOk (Qp _) (I1.hok.fresh (Qp _))
end
theorem ItB.extBut {b:Bool} {h h':Heap} {it a c:Addr} {i:Nat} (x:ItB b h it a i) (hs:Heap.ExtBut c h h') (Ma:it≠c):ItB b h' it a i:=x.at λo e=>hs _ o Ma e
theorem SeB.extBut {b:Bool} {h h':Heap} {a c:Addr} {items:Array Value} (x:SeB b h a items) (hs:Heap.ExtBut c h h') (Ma:a≠c):SeB b h' a items:=x.at λo e=>hs _ o Ma e
section
variable {prog:Program} {w:World} {A:Around} {E:Value->Shared->Prop} {s:Shared}
open PySem
theorem Af {c1 c2:Bool} {z TI TO i1 i2 l1 l2:Addr} {k1 k2:Nat} {xs ys:Array Value} {x y a b:Value} {Q:Value->Shared->Prop} (D:ZipApart z TI TO i1 i2 l1 l2)
 (hz:IsZip s.heap z TI TO .none) (Ng:IsPair s.heap TI (.ref i1) (.ref i2)) (Mf:IsPair s.heap TO a b)
 (h1:ItB c1 s.heap i1 l1 k1) (h2:ItB c2 s.heap i2 l2 k2) (MM:SeB c1 s.heap l1 xs) (Mq:SeB c2 s.heap l2 ys) (hx:xs[k1]? =some x) (hy:ys[k2]? =some y)
 (hQ:∀h',IsZip h' z TI TO (rawInt s.heap.objs.size)->IsPair h' TO x y->ItB c1 h' i1 l1 (k1+1)->ItB c2 h' i2 l2 (k2+1)->IsPair h' s.heap.objs.size x y->h'.objs.size=s.heap.objs.size+1->
  (∀c o,c≠z->c≠TO->c≠i1->c≠i2->s.heap.get? c=some o->h'.get? c=some o)->Q (.ref s.heap.objs.size) {s with heap:=h'}):
 wpAny (model prog w) A (Builtin.«zip.__next__» ⟨[.ref z],[]⟩) (λfin s'=>∃v,fin= .done (.ret v)/\Q v s') E s:=by
 show wpAny _ _ (field (.ref z) 2>>=_) _ _ _;refine Qg (jau hz rfl (x:= .bool false) rfl ?_);show wpAny _ _ (field (.ref z) 3>>=_) _ _ _;refine Qg (jau hz rfl (x:= .ref TI) rfl ?_);refine Qg (jaU Ng rfl ?_);show wpAny _ _ (Builtin.SmallTypes.ownedTupleIsFree (.ref z)>>=_) _ _ _;refine Qg ?_;unfold Builtin.SmallTypes.ownedTupleIsFree;refine Qg (jau hz rfl (x:= .none) rfl (Qm ?_));simp only [if_true];refine Qg (jbQ ?_);refine Qg (jau hz rfl (x:= .ref TO) rfl ?_);refine Qg (jaS hz (by simp) λh₁ hz₁ hs₁=>?_)
 replace hz₁:IsZip h₁ z TI TO .ellipsis:=hz₁
 refine Qg ?_;simp only [List.zipIdx_cons,List.zipIdx_nil,List.forIn_cons,List.forIn_nil];refine Qg (Qg (wpAny_onRaise ?_));show wpAny _ _ (Builtin.SmallTypes.nextOf (.ref i1)>>=_) _ _ _;refine Qg (WU (h1.extBut hs₁.extBut D.i1z) (MM.extBut hs₁.extBut D.l1z) hx λh₂ h1₂ hs₂=>Qm ?_);have Mf₂:IsPair h₂ TO a b:=hs₂.extBut _ _ D.TOi1 (hs₁.extBut _ _ D.TOz Mf);refine Qg (jaU Mf₂ rfl ?_);refine Qg (wpAny_updateSeq_pair Mf₂ λh₃ Mf₃ hs₃=>?_)
 replace Mf₃:IsPair h₃ TO x b:=Mf₃
 refine Qg (wpAny_letGo (Qm ?_));refine Qg (Qg (wpAny_onRaise ?_));show wpAny _ _ (Builtin.SmallTypes.nextOf (.ref i2)>>=_) _ _ _
 refine Qg (WU (((h2.extBut hs₁.extBut D.i2z).extBut hs₂.extBut D.i12.symm).extBut hs₃.extBut D.TOi2.symm)
  (((Mq.extBut hs₁.extBut D.l2z).extBut hs₂.extBut D.l2i1).extBut hs₃.extBut D.l2TO) hy λh₄ h2₄ hs₄=>Qm ?_)
 have Mf₄:IsPair h₄ TO x b:=hs₄.extBut _ _ D.TOi2 Mf₃;refine Qg (jaU Mf₄ rfl ?_);refine Qg (wpAny_updateSeq_pair Mf₄ λh₅ Mf₅ hs₅=>?_)
 replace Mf₅:IsPair h₅ TO x y:=Mf₅
 refine Qg (wpAny_letGo (Qm (Qm ?_)));refine Qg (jaU Mf₅ rfl ?_);refine Qg (wpAny_newTuple ?_);have MW:h₅.objs.size=s.heap.objs.size:=by rw [hs₅.1,hs₄.1,hs₃.1,hs₂.1,hs₁.1]
 have hz₅:IsZip h₅ z TI TO .ellipsis:=hs₅.extBut _ _ D.TOz.symm (hs₄.extBut _ _ D.i2z.symm (hs₃.extBut _ _ D.TOz.symm (hs₂.extBut _ _ D.i1z.symm hz₁)))
 have hk₅:∀c o,c≠z->c≠TO->c≠i1->c≠i2->s.heap.get? c=some o->h₅.get? c=some o:=λc o c1 c2 c3 c4 e=>
  hs₅.extBut _ _ c2 (hs₄.extBut _ _ c4 (hs₃.extBut _ _ c2 (hs₂.extBut _ _ c3 (hs₁.extBut _ _ c1 e))))
 have h1₅:ItB c1 h₅ i1 l1 (k1+1):=((h1₂.extBut hs₃.extBut D.TOi1.symm).extBut hs₄.extBut D.i12).extBut hs₅.extBut D.TOi1.symm;have h2₅:ItB c2 h₅ i2 l2 (k2+1):=h2₄.extBut hs₅.extBut D.TOi2.symm;have Pl:z<h₅.objs.size:=Qt hz₅;have hTOlt:TO<h₅.objs.size:=Qt Mf₅;have hi1lt:i1<h₅.objs.size:=by obtain ⟨_,e,_⟩:=h1₅.obj;exact Qt e
 have hi2lt:i2<h₅.objs.size:=by obtain ⟨_,e,_⟩:=h2₅.obj;exact Qt e
 show wpAny _ _ (Builtin.SmallTypes.ownedTupleHandOut (.ref z) (.ref h₅.objs.size)>>=_) _ _ _;refine Qg ?_;unfold Builtin.SmallTypes.ownedTupleHandOut;have hz₆:IsZip (h₅.push {cls:= .type "tuple",data:= .seq #[x,y]}) z TI TO .ellipsis:=Qh _ hz₅;refine Qg (jaS hz₆ (by simp) λh₇ hz₇ hs₇=>?_)
 replace hz₇:IsZip h₇ z TI TO (rawInt h₅.objs.size):=hz₇
 refine jaS hz₇ (by simp) λh₈ hz₈ hs₈=>?_
 replace hz₈:IsZip h₈ z TI TO (rawInt h₅.objs.size):=hz₈
 have up:∀c o,c≠z->h₅.get? c=some o->h₈.get? c=some o:=λc o c1 e=>hs₈.extBut _ _ c1 (hs₇.extBut _ _ c1 (Qh _ e));have hT₈:IsPair h₈ h₅.objs.size x y:=hs₈.extBut _ _ (jaR Pl) (hs₇.extBut _ _ (jaR Pl) (Qu _ rfl));have hz8:h₈.objs.size=h₅.objs.size+1:=by rw [hs₈.1,hs₇.1,QU]
 rw [MW] at hz₈ hT₈ hz8;refine Qm ⟨_,rfl,?_⟩;show Q (.ref h₅.objs.size) _;rw [MW];exact hQ h₈ hz₈ (up _ _ D.TOz Mf₅) (h1₅.at λo e=>up _ o D.i1z e) (h2₅.at λo e=>up _ o D.i2z e) hT₈ hz8 λc o c1 c2 c3 c4 e=>up c o c1 (hk₅ c o c1 c2 c3 c4 e)
theorem Es {c1 c2:Bool} {z TI TO i1 i2 l1 l2:Addr} {k1 k2:Nat} {xs ys:Array Value} {a b:Value} {Q:Fin->Shared->Prop} (hh:A.handled=none) (D:ZipApart z TI TO i1 i2 l1 l2)
 (hz:IsZip s.heap z TI TO .none) (Ng:IsPair s.heap TI (.ref i1) (.ref i2)) (Mf:IsPair s.heap TO a b)
 (h1:ItB c1 s.heap i1 l1 k1) (h2:ItB c2 s.heap i2 l2 k2) (MM:SeB c1 s.heap l1 xs) (Mq:SeB c2 s.heap l2 ys) (MU:xs[k1]? =none\/ys[k2]? =none)
 (hE:∀h' e,(∀c o,c≠z->c≠TO->c≠i1->c≠i2->s.heap.get? c=some o->h'.get? c=some o)->(∃o,h'.get? e=some o/\o.cls= .type "StopIteration")->E (.ref e) {s with heap:=h'}):
 wpAny (model prog w) A (Builtin.«zip.__next__» ⟨[.ref z],[]⟩) Q E s:=by
 show wpAny _ _ (field (.ref z) 2>>=_) _ _ _;refine Qg (jau hz rfl (x:= .bool false) rfl ?_);show wpAny _ _ (field (.ref z) 3>>=_) _ _ _;refine Qg (jau hz rfl (x:= .ref TI) rfl ?_);refine Qg (jaU Ng rfl ?_);show wpAny _ _ (Builtin.SmallTypes.ownedTupleIsFree (.ref z)>>=_) _ _ _;refine Qg ?_;unfold Builtin.SmallTypes.ownedTupleIsFree;refine Qg (jau hz rfl (x:= .none) rfl (Qm ?_));simp only [if_true];refine Qg (jbQ ?_);refine Qg (jau hz rfl (x:= .ref TO) rfl ?_);refine Qg (jaS hz (by simp) λh₁ hz₁ hs₁=>?_)
 replace hz₁:IsZip h₁ z TI TO .ellipsis:=hz₁
 refine Qg ?_;simp only [List.zipIdx_cons,List.zipIdx_nil,List.forIn_cons,List.forIn_nil];refine Qg (Qg (wpAny_onRaise ?_));show wpAny _ _ (Builtin.SmallTypes.nextOf (.ref i1)>>=_) _ _ _
 cases hx:xs[k1]? with
 |none=>
  refine Qg (Up hh (h1.extBut hs₁.extBut D.i1z) (MM.extBut hs₁.extBut D.l1z) hx λh₂ e hs₂ he=>?_);obtain ⟨oe,Ox,PU⟩:=he;have hz₂:IsZip h₂ z TI TO .ellipsis:=hs₂ _ _ D.i1z.symm hz₁;have hez:e≠z:=λx=>by subst x;rw [hz₂] at Ox;cases Ox;simp at PU
  refine jaS hz₂ (by simp) λh₃ _ hs₃=>hE h₃ e (λc o c1 _ c3 _ x=>hs₃.extBut _ _ c1 (hs₂ _ _ c3 (hs₁.extBut _ _ c1 x))) ⟨oe,hs₃.extBut _ _ hez Ox,PU⟩
 |some x=>
  have hy:ys[k2]? =none:=by rcases MU with h|h;rw [hx] at h;cases h;exact h
  refine Qg (WU (h1.extBut hs₁.extBut D.i1z) (MM.extBut hs₁.extBut D.l1z) hx λh₂ h1₂ hs₂=>Qm ?_);have Mf₂:IsPair h₂ TO a b:=hs₂.extBut _ _ D.TOi1 (hs₁.extBut _ _ D.TOz Mf);refine Qg (jaU Mf₂ rfl ?_);refine Qg (wpAny_updateSeq_pair Mf₂ λh₃ Mf₃ hs₃=>?_);refine Qg (wpAny_letGo (Qm ?_));refine Qg (Qg (wpAny_onRaise ?_));show wpAny _ _ (Builtin.SmallTypes.nextOf (.ref i2)>>=_) _ _ _
  refine Qg (Up hh (((h2.extBut hs₁.extBut D.i2z).extBut hs₂.extBut D.i12.symm).extBut hs₃.extBut D.TOi2.symm)
   (((Mq.extBut hs₁.extBut D.l2z).extBut hs₂.extBut D.l2i1).extBut hs₃.extBut D.l2TO) hy λh₄ e hs₄ he=>?_)
  obtain ⟨oe,Ox,PU⟩:=he;have hz₄:IsZip h₄ z TI TO .ellipsis:=hs₄ _ _ D.i2z.symm (hs₃.extBut _ _ D.TOz.symm (hs₂.extBut _ _ D.i1z.symm hz₁));have hez:e≠z:=λx=>by subst x;rw [hz₄] at Ox;cases Ox;simp at PU
  refine jaS hz₄ (by simp) λh₅ _ hs₅=>hE h₅ e (λc o c1 c2 c3 c4 x=>hs₅.extBut _ _ c1 (hs₄ _ _ c4 (hs₃.extBut _ _ c2 (hs₂.extBut _ _ c3 (hs₁.extBut _ _ c1 x))))) ⟨oe,hs₅.extBut _ _ hez Ox,PU⟩
end
def ItZ (c1 c2:Bool) (K:PySem.W.Frag) (a1 a2:Addr):It:=
 ⟨λi H=>∃xs ys x y,SqB c1 K H a1 xs/\SqB c2 K H a2 ys/\xs[i]? =some x/\ys[i]? =some y,
  λi H v H'=>∃p x y,(∀xs,SqB c1 K H a1 xs->xs[i]? =some x)/\(∀ys,SqB c2 K H a2 ys->ys[i]? =some y)/\H p=none/\v= .ref p/\H'=upd H p (.tup [x,y]),
  λi H=>∃xs ys,SqB c1 K H a1 xs/\SqB c2 K H a2 ys/\(xs.length<=i\/ys.length<=i)⟩
theorem EB {P:Program} {w:World} {K:PySem.W.Frag} {elts:List Expr} {k:Nat} {pos:Pos} (c1 c2:Bool) (z TI TO i1 i2 l1 l2:Addr) (D:ZipApart z TI TO i1 i2 l1 l2):
 Turn P w K (.Tuple elts k pos) (ItZ c1 c2 K l1 l2) [z,TI,TO,i1,i2] z (λi h=>IsZip h z TI TO .none/\IsPair h TI (.ref i1) (.ref i2)/\(∃a b,IsPair h TO a b)/\ItB c1 h i1 l1 i/\ItB c2 h i2 l2 i) where
 mem:=by simp
 obj:=λi h st c hc=>by
  obtain ⟨hz,Ng,⟨a,b,Mf⟩,h1,h2⟩:=st;simp only [Ql,Qv,or_false] at hc
  rcases hc with rfl|rfl|rfl|rfl|rfl
  ·exact ⟨_,hz,λv q=>by cases q⟩
  ·exact ⟨_,Ng,λv q=>by cases q⟩
  ·exact ⟨_,Mf,λv q=>by cases q⟩
  ·exact h1.obj
  ·exact h2.obj
 keep:=λi h h' st kk=>by
  obtain ⟨hz,Ng,⟨a,b,Mf⟩,h1,h2⟩:=st;exact ⟨kk z (by simp) _ hz,kk TI (by simp) _ Ng,⟨a,b,kk TO (by simp) _ Mf⟩,h1.at λo e=>kk i1 (by simp) o e,h2.at λo e=>kk i2 (by simp) o e⟩
 item:=by
  intro X hP hw hK hc i pins s σ H E I hf st hg;subst hP hw hK;obtain ⟨hz,Ng,⟨a,b,Mf⟩,h1,h2⟩:=st;obtain ⟨xs,ys,x,y,NO,ON,hx,hy⟩:=hg;obtain ⟨Pk,Rq,p1,_⟩:=seB I NO;obtain ⟨Mg,Rp,p2,_⟩:=seB I ON;obtain ⟨u1,hu1,Ss⟩:=Rq.get hx;obtain ⟨u2,SI,Sr⟩:=Rp.get hy;have hT:s.TypeIs (.ref z) "zip":=⟨_,hz,rfl⟩;unfold pyNext
  refine Qg (jbt (Tf (name:=Str.ofString "__next__") hT F.slot_zip_next (TB F.slot_zip_next hT F.entry_zip_next
   (Af D hz Ng Mf h1 h2 p1 p2 (x:=u1) (y:=u2) (by simpa using hu1) (by simpa using SI) λh' a1 a2 a3 a4 a5 a6 hk=>Qm ?_) (F.args_zip_next_1 _))))
  refine ⟨_,rfl,wpAny_letOwnedTupleGo_zip a1 λNS SG Nb=>?_⟩;have lt:∀{c o},s.heap.get? c=some o->c<s.heap.objs.size:=λe=>Qt e;have i1lt:i1<s.heap.objs.size:=by obtain ⟨_,e,_⟩:=h1.obj;exact lt e
  have i2lt:i2<s.heap.objs.size:=by obtain ⟨_,e,_⟩:=h2.obj;exact lt e
  have hTI':IsPair h' TI (.ref i1) (.ref i2):=hk _ _ D.TIz D.TITO D.TIi1 D.TIi2 Ng;have up:∀c o,c≠z->h'.get? c=some o->NS.get? c=some o:=λc o hc e=>(Nb.2 c hc).trans e;have NB:NS.get? s.heap.objs.size=some {cls:= .type "tuple",data:= .seq #[u1,u2]}:=up _ _ (jaR (lt hz)) a5
  have Pc:IsZip NS z TI TO .none/\IsPair NS TI (.ref i1) (.ref i2)/\(∃a b,IsPair NS TO a b)/\ItB c1 NS i1 l1 (i+1)/\ItB c2 NS i2 l2 (i+1):=
   ⟨SG,up _ _ D.TIz hTI',⟨u1,u2,up _ _ D.TOz a2⟩,a3.at λo e=>up _ o D.i1z e,a4.at λo e=>up _ o D.i2z e⟩
  refine ⟨.ref s.heap.objs.size,upd H s.heap.objs.size (.tup [x,y]),?_,rfl,⟨_,x,y,λzs hy=>by rw [qg I hy NO];exact hx,λzs ME=>by rw [qg I ME ON];exact hy,I.fresh,rfl,rfl⟩,Pc,λc hc=>?_⟩
  ·refine Uz (s:=s) (t':=s.toks) (ch:=[z,TI,TO,i1,i2]) I hf (λc o Mn q=>?_) (λc hc=>?_) (Qp _) ⟨mM,[u1,u2], .cons Ss (.cons Sr .nil),⟨_,NB,rfl,_,rfl⟩⟩
   ·have n1:c≠z:=λe=>Mn (by simp [e]);exact up c o n1 (hk c o n1 (λe=>Mn (by simp [e])) (λe=>Mn (by simp [e])) (λe=>Mn (by simp [e])) q)
   ·obtain ⟨z1,z2,⟨_,_,z3⟩,z4,z5⟩:=Pc;simp only [Ql,Qv,or_false] at hc
    rcases hc with rfl|rfl|rfl|rfl|rfl
    ·exact ⟨_,z1⟩
    ·exact ⟨_,z2⟩
    ·exact ⟨_,z3⟩
    ·obtain ⟨o,e,_⟩:=z4.obj;exact ⟨o,e⟩
    ·obtain ⟨o,e,_⟩:=z5.obj;exact ⟨o,e⟩
  ·have LS:c<s.heap.objs.size:=by
    simp only [Ql,Qv,or_false] at hc
    rcases hc with rfl|rfl|rfl|rfl|rfl
    ·exact lt hz
    ·exact lt Ng
    ·exact lt Mf
    ·exact i1lt
    ·exact i2lt
   rw [zR (QM LS)];exact (hf c hc).1
 done:=by
  intro X hP hw hK hc i pins s σ H E I hf st hg;subst hP hw hK;obtain ⟨hz,Ng,⟨a,b,Mf⟩,h1,h2⟩:=st;obtain ⟨xs,ys,NO,ON,MU⟩:=hg;obtain ⟨Pk,Rq,p1,_⟩:=seB I NO;obtain ⟨Mg,Rp,p2,_⟩:=seB I ON;have e1:=Rq.length;have e2:=Rp.length;have hh:=I.ok.hd hc;have hT:s.TypeIs (.ref z) "zip":=⟨_,hz,rfl⟩;unfold pyNext
  refine Qg (jbt (Tf (name:=Str.ofString "__next__") hT F.slot_zip_next (TB F.slot_zip_next hT F.entry_zip_next
   (Es (A:=X.A.in1) hh D hz Ng Mf h1 h2 p1 p2 (by simp only [List.getElem?_toArray];rcases MU with q|q;exact .inl (QF (by omega));exact .inr (QF (by omega))) λh' e hk he=>?_) (F.args_zip_next_1 _))))
  obtain ⟨o,ho,NH⟩:=he;refine Qg (wpAny_isInstance (T:="StopIteration") (b:=true) ⟨o,ho,NH⟩ isSubtype_stop ?_);refine Qm ⟨rfl,?_⟩
  refine I.step (g':=s.gens) (d':=s.drawn) (t':=s.toks) (H':=H) (ch:=[z,TO,i1,i2]) (λb hb=>?_) (λb u _ _ Mn e _=>hk b u (λq=>Mn (by simp [q])) (λq=>Mn (by simp [q])) (λq=>Mn (by simp [q])) (λq=>Mn (by simp [q])) e)
   (λb u _ _ Mn e _=>⟨u.slots,hk b u (λq=>Mn (by simp [q])) (λq=>Mn (by simp [q])) (λq=>Mn (by simp [q])) (λq=>Mn (by simp [q])) e⟩) (λ_ _ _ _ n=>n)
   (λb u Mn e=>⟨u,hk b u (λq=>Mn (by simp [q])) (λq=>Mn (by simp [q])) (λq=>Mn (by simp [q])) (λq=>Mn (by simp [q])) e⟩) (λ_ _ e=>e) (λ_ _ _ e=>e) (λb ps e=>⟨#[],by rw [e];simp⟩) (λm hm=>?_) (λb u e=>?_) I.bare
  ·have Mu:b∈[z,TI,TO,i1,i2]:=by
    simp only [Ql,Qv,or_false] at hb⊢
    rcases hb with q|q|q|q<;>simp [q]
   exact ⟨(hf b Mu).2.2.2.1,(hf b Mu).2.1,(hf b Mu).2.2.2.2.1,(hf b Mu).2.2.2.2.2⟩
  ·obtain ⟨ob,es,ep,ho,r⟩:=hm;exact ⟨ob,es,ep,hk _ ob (λq=>(hf z (by simp)).2.1 q.symm) (λq=>(hf TO (by simp)).2.1 q.symm) (λq=>(hf i1 (by simp)).2.1 q.symm) (λq=>(hf i2 (by simp)).2.1 q.symm) ho,r⟩
  ·refine (I.hok b u e).stay (λc v RO q=>?_) (λ_ q=>q) λ_ _ q=>q
   have nf:∀d∈[z,TI,TO,i1,i2],c≠d:=λd hd z=>by
    subst z
    rcases RO with q|q
    ·rw [<-q,(hf _ hd).1] at e;cases e
    ·rw [(hf _ hd).1] at q;cases q
   exact hk c v (nf z (by simp)) (nf TO (by simp)) (nf i1 (by simp)) (nf i2 (by simp)) q
 self:=λ_ _ _ _ _ st h=>wpAny_pyIter_zip st.1 h
def Gu (b:Bool) (l:Addr):Obj:={cls:= .type (match b with|true=>"list_iterator"|false=>"tuple_iterator"),data:= .fields #[.ref l, .int 0 0]}
abbrev zB1 (c1:Bool) (h:Heap) (l1:Addr):Heap:=h.push (Gu c1 l1)
abbrev zB2 (c1 c2:Bool) (h:Heap) (l1 l2:Addr):Heap:=(zB1 c1 h l1).push (Gu c2 l2)
abbrev zB3 (c1 c2:Bool) (h:Heap) (l1 l2:Addr):Heap:=(zB2 c1 c2 h l1 l2).push {cls:= .type "tuple",data:= .seq #[.ref h.objs.size, .ref (zB1 c1 h l1).objs.size]}
abbrev zB4 (c1 c2:Bool) (h:Heap) (l1 l2:Addr):Heap:=(zB3 c1 c2 h l1 l2).push {cls:= .type "tuple",data:= .seq #[.none, .none]}
abbrev zB5 (c1 c2:Bool) (h:Heap) (l1 l2:Addr):Heap:=(zB4 c1 c2 h l1 l2).push {cls:= .type "zip",data:= .fields #[.none, .bool false, .bool false, .ref (zB2 c1 c2 h l1 l2).objs.size, .ref (zB3 c1 c2 h l1 l2).objs.size]}
theorem SeB.push {b:Bool} {h:Heap} {a:Addr} {items:Array Value} (x:SeB b h a items) (o:Obj):SeB b (h.push o) a items:=x.at λ_ e=>Qh _ e
theorem vP (c1 c2:Bool) (l1 l2:Addr) (xs ys:Array Value):
 Meets (Builtin.«zip.__new__» ⟨[.type "zip", .ref l1, .ref l2],[]⟩) (λ_ R s=>SeB c1 s.heap l1 xs/\SeB c2 s.heap l2 ys/\
  R (.ok (.ret (.ref (zB4 c1 c2 s.heap l1 l2).objs.size))) {s with heap:=zB5 c1 c2 s.heap l1 l2}):=
 .of_wp λprog w A R s h=>by
  obtain ⟨hp,g,d,tk,os⟩:=s;obtain ⟨MM,Mq,h⟩:=h;have SK:=sub_zip
  cases c1 with
  |true=>
   have Ra:Heap.IsList (Shared.heap ⟨hp,g,d,tk,os⟩) l1 xs:=MM
   cases c2 with
   |true=>
    have OH:Heap.IsList (Shared.heap ⟨hp.push {cls:= .type "list_iterator",data:= .fields #[.ref l1, .int 0 0]},g,d,tk,os⟩) l2 ys:=SeB.push (b:=true) Mq _
    wp_walk using jaM Ra,jaM OH
    exact ⟨_,rfl,h⟩
   |false=>
    have OH:Heap.IsTuple (Shared.heap ⟨hp.push {cls:= .type "list_iterator",data:= .fields #[.ref l1, .int 0 0]},g,d,tk,os⟩) l2 ys:=SeB.push (b:=false) Mq _
    wp_walk using jaM Ra,jan OH
    exact ⟨_,rfl,h⟩
  |false=>
   have Ra:Heap.IsTuple (Shared.heap ⟨hp,g,d,tk,os⟩) l1 xs:=MM
   cases c2 with
   |true=>
    have OH:Heap.IsList (Shared.heap ⟨hp.push {cls:= .type "tuple_iterator",data:= .fields #[.ref l1, .int 0 0]},g,d,tk,os⟩) l2 ys:=SeB.push (b:=true) Mq _
    wp_walk using jan Ra,jaM OH
    exact ⟨_,rfl,h⟩
   |false=>
    have OH:Heap.IsTuple (Shared.heap ⟨hp.push {cls:= .type "tuple_iterator",data:= .fields #[.ref l1, .int 0 0]},g,d,tk,os⟩) l2 ys:=SeB.push (b:=false) Mq _
    wp_walk using jan Ra,jan OH
    exact ⟨_,rfl,h⟩
theorem tW {b:Bool} {h:Heap} {it l:Addr} (e:h.get? it=some (Gu b l)):ItB b h it l 0:=by
 cases b with
 |true=>exact ⟨_,e,rfl,rfl⟩
 |false=>exact ⟨_,e,rfl,rfl⟩
theorem iX (b:Bool) (l:Addr):(Gu b l).isFreed=false:=by cases b<;>rfl
theorem DG {prog:Program} {w:World} {A:Around} {E:Value->Shared->Prop} {s:Shared} {c1 c2:Bool} {l1 l2:Addr} {xs ys:Array Value} {Q:Value->Shared->Prop} (MM:SeB c1 s.heap l1 xs) (Mq:SeB c2 s.heap l2 ys)
 (h:∀h',IsZip h' (s.heap.objs.size+4) (s.heap.objs.size+2) (s.heap.objs.size+3) .none->IsPair h' (s.heap.objs.size+2) (.ref s.heap.objs.size) (.ref (s.heap.objs.size+1))->
  IsPair h' (s.heap.objs.size+3) .none .none->ItB c1 h' s.heap.objs.size l1 0->ItB c2 h' (s.heap.objs.size+1) l2 0->
  (∀c o,s.heap.get? c=some o->h'.get? c=some o)->Q (.ref (s.heap.objs.size+4)) {s with heap:=h'}):
 wpAny (model prog w) A (call (.type "zip") [.ref l1, .ref l2]) Q E s:=by
 refine callType_new F.called_zip (by decide) (F.typeCall_zip_2 _ _) (F.newCall_zip_2 _ _) (λobj=>F.args_object_init_3 obj _ _) F.entry_zip_new
  (vP c1 c2 l1 l2 xs ys) ⟨MM,Mq,?_⟩
 have z1:(zB1 c1 s.heap l1).objs.size=s.heap.objs.size+1:=QU ..;have z2:(zB2 c1 c2 s.heap l1 l2).objs.size=s.heap.objs.size+2:=by rw [QU,z1]
 have z3:(zB3 c1 c2 s.heap l1 l2).objs.size=s.heap.objs.size+3:=by rw [QU,z2]
 have z4:(zB4 c1 c2 s.heap l1 l2).objs.size=s.heap.objs.size+4:=by rw [QU,z3]
 have g5:(zB5 c1 c2 s.heap l1 l2).get? (zB4 c1 c2 s.heap l1 l2).objs.size=some _:=Qu _ rfl;have g4:(zB5 c1 c2 s.heap l1 l2).get? (zB3 c1 c2 s.heap l1 l2).objs.size=some _:=Qh _ (Qu _ rfl);have g3:(zB5 c1 c2 s.heap l1 l2).get? (zB2 c1 c2 s.heap l1 l2).objs.size=some _:=Qh _ (Qh _ (Qu _ rfl));have g2:(zB5 c1 c2 s.heap l1 l2).get? (zB1 c1 s.heap l1).objs.size=some _:=Qh _ (Qh _ (Qh _ (Qu _ (iX c2 l2))));have g1:(zB5 c1 c2 s.heap l1 l2).get? s.heap.objs.size=some _:=Qh _ (Qh _ (Qh _ (Qh _ (Qu _ (iX c1 l1)))));show _/\_;rw [z2,z3,z4] at g5;rw [z1,z2] at g3;rw [z3] at g4;rw [z1] at g2;rw [z4];exact ⟨⟨_,g5,rfl⟩,h _ g5 g3 g4 (tW g1) (tW g2) λc o x=>Qh _ (Qh _ (Qh _ (Qh _ (Qh _ x))))⟩
section
variable {X:Cx}
def iZip (c1 c2:Bool) (K:PySem.W.Frag) (ta:TA):TI:=λσ H R=>ta σ H λvs H1=>∃a1 a2,vs=[.ref a1, .ref a2]/\(∃xs,SqB c1 K H1 a1 xs)/\(∃ys,SqB c2 K H1 a2 ys)/\R (ItZ c1 c2 K a1 a2) H1
theorem pi_zip (c1 c2:Bool) {elts:List Expr} {k:Nat} {tpos:Pos} {a b:Expr} {ta:TA} {p pos:Pos} (hg:Gl X "zip") (hm:X.mg "zip"=none) (ha:PA X [a,b] ta) (hs:starEach [a,b] X.env=[(false,eval a X.env),(false,eval b X.env)]:=by rfl) (Nl:starEach [b] X.env=[(false,eval b X.env)]:=by rfl):
 PI X (.Tuple elts k tpos) (.Call (.Name "zip" p) [a,b] [] pos) (iZip c1 c2 X.K ta):=by
 intro pins s σ H R I h;refine Call_ (Vm I hg hm bt_zip (TF (thn (ha pos pins s σ H _ I h) λus s1 ⟨vs,H1,I1,r1,q1⟩=>?_) (by rw [hs,Nl]) (by rw [Nl];rfl)));obtain ⟨l1,l2,e,⟨xs,NO⟩,⟨ys,ON⟩,q⟩:=q1;subst e;obtain ⟨u1,u2,rfl,Ss,Sr⟩:=IH r1;cases (show u1=Value.ref l1 from Ss);cases (show u2=Value.ref l2 from Sr);obtain ⟨Pk,Rq,p1,_⟩:=seB I1 NO;obtain ⟨Mg,Rp,p2,_⟩:=seB I1 ON;have Rv:l1<s1.heap.objs.size:=by obtain ⟨o,z⟩:=p1.obj;exact Qt z
 have lt2:l2<s1.heap.objs.size:=by obtain ⟨o,z⟩:=p2.obj;exact Qt z
 refine DG p1 p2 λh' a1 a2 a3 a4 a5 hk=>wpAny_pyIter_zip a1 ?_;have I2:Inv X pins σ H1 {s1 with heap:=h'}:=I1.kept (t':=s1.toks) hk;refine ⟨s1.heap.objs.size+4,[s1.heap.objs.size+4,s1.heap.objs.size+2,s1.heap.objs.size+3,s1.heap.objs.size,s1.heap.objs.size+1],_,_,H1,rfl,I2,EB c1 c2 _ _ _ _ _ l1 l2 (zipApart_new Rv lt2),⟨a1,a2,⟨_,_,a3⟩,a4,a5⟩,λc hc=>?_,q⟩
 have hle:s1.heap.objs.size<=c:=by
  simp only [Ql,Qv,or_false] at hc
  rcases hc with z|z|z|z|z<;>rw [z]<;>first|exact Nat.le_add_right _ _|exact Qp _
 exact I1.fpOk hle (I1.hok.fresh hle)
end
end S
namespace S
open PySem PySem.Spec PyProof.Rows L2
theorem Il {α:Type} {xs:List α} {k:Int} {v:α} (h0:0<=k) (h:xs[k.toNat]? =some v):atI xs k=some v:=by
 have ek:k=((k.toNat:Nat):Int):=by omega
 rw [ek];exact yC h
theorem eqv_fr (p q:Rat):PyData.eqv (frD p) (frD q)=decide (p=q):=by
 unfold frD;simp only [PyData.eqv,PyData.eqvAll,Bool.and_true]
 by_cases h:p=q
 ·subst h;simp
 ·rw [QY h]
  by_cases h1:p.num=q.num
  ·have h2:p.den≠q.den:=λz=>h (Rat.ext h1 z);have h3:((p.den:Int)==(q.den:Int))=false:=jay.mpr (λz=>h2 (Int.ofNat.inj z));rw [h3,Bool.and_false]
  ·have h3:(p.num==q.num)=false:=jay.mpr h1;rw [h3,Bool.false_and]
abbrev zg:=Rat×List Rat
section
variable {H H':Hp} {qs:List Rat} {c:zg} {cs:List zg} {v:V} {vs:List V} {l:Addr} {xs:List V} {o:HO}
end
def zO (qs:List Rat):PyData:= .tuple (qs.map frD)
def zu (c:zg):PyData:= .tuple [frD c.1,zO c.2]
def zE (cs:List zg):PyData:= .list (cs.map zu)
theorem tX {H:Hp} {α:Type} {R:α->V->Prop} {f:α->PyData} (hR:∀a v,R a v->Is H (f a) v):∀{xs:List α} {vs:List V},xs.length=vs.length->(∀(i:Nat) (x:α) (v:V),xs[i]? =some x->vs[i]? =some v->R x v)->zC H (xs.map f) vs
 |[],[],_,_=>by rw [jao,zC]
 |[],_::_,h,_=>by simp at h
 |_::_,[],h,_=>by simp at h
 |x::xs,v::vs,hl,h=>by
  rw [Qn,zC];exact ⟨v,vs,rfl,hR x v (h 0 x v rfl rfl),tX hR (by simpa using hl) λi a b ha hb=>h (i+1) a b (by simpa using ha) (by simpa using hb)⟩
theorem rl {α:Type} {f:α->PyData} (h:∀a,(f a).canLay0=true):∀xs:List α,PyData.canLayAll0 (xs.map f)=true
 |[]=>rfl
 |x::xs=>by rw [Qn,PyData.canLayAll0,h x,rl h xs];rfl
theorem rK {α:Type} {f:α->PyData} {n:Nat} (h:∀a,(f a).depth<=n):∀xs:List α,PyData.depthAll (xs.map f)<=n
 |[]=>by rw [jao,PyData.depthAll];exact TH _
 |x::xs=>by rw [Qn,PyData.depthAll];exact Nat.max_le.mpr ⟨h x,rK h xs⟩
theorem CL (q:Rat):(frD q).canLay0=true:=by unfold frD;simp [PyData.canLay0,PyData.canLayAll0]
theorem Dv (q:Rat):(frD q).depth<=2:=by unfold frD;simp [PyData.depth,PyData.depthAll]
theorem fe (qs:List Rat):(zO qs).canLay0=true:=by unfold zO;rw [PyData.canLay0];exact rl CL qs
theorem oJ (qs:List Rat):(zO qs).depth<=3:=by unfold zO;rw [PyData.depth];exact Nat.succ_le_succ (rK Dv qs)
theorem Gn (c:zg):(zu c).canLay0=true:=by unfold zu;rw [PyData.canLay0,PyData.canLayAll0,PyData.canLayAll0,PyData.canLayAll0,CL,fe];rfl
theorem GN (c:zg):(zu c).depth<=4:=by
 unfold zu;rw [PyData.depth,PyData.depthAll,PyData.depthAll,PyData.depthAll];have h1:=Dv c.1;have h2:=oJ c.2;omega
theorem Gm (cs:List zg):(zE cs).canLay0=true:=by unfold zE;rw [PyData.canLay0];exact rl Gn cs
theorem GL (cs:List zg):(zE cs).depth<=5:=by unfold zE;rw [PyData.depth];exact Nat.succ_le_succ (rK GN cs)
theorem Xo (cs:List zg):SeqAt.shaped (zE cs)=true:=by
 unfold SeqAt.shaped;rw [Gm,QQ (QI (GL cs) (by decide))];rfl
def zN (c0 c1 c2:zg):Prop:=∀(i:Nat) (a b c:Rat),c0.2[i]? =some a->c1.2[i]? =some b->c2.2[i]? =some c->(b - a)*(c2.1 - c0.1)=(c - a)*(c1.1 - c0.1)
theorem aB (p q:Rat):Rat.divInt (q.num*p.den - p.num*q.den) (p.den*q.den)=q - p:=by
 rw [Rat.sub_def',Int.mul_comm (p.den:Int),<-Int.natCast_mul,Rat.divInt_ofNat]
theorem DB {rn rd nn nd wn wd fn fd:Int} (h1:rd≠0) (h2:nd≠0) (h3:wd≠0) (h4:fd≠0):
 Rat.divInt rn rd*Rat.divInt fn fd=Rat.divInt wn wd*Rat.divInt nn nd↔rn*nd*wd*fn=wn*fd*rd*nn:=by
 rw [jbo,jbo,Rat.divInt_eq_divInt_iff (Int.mul_ne_zero h1 h4) (Int.mul_ne_zero h3 h2)];have e1:rn*fn*(wd*nd)=rn*nd*wd*fn:=by grind
 have e2:wn*nn*(rd*fd)=wn*fd*rd*nn:=by grind
 rw [e1,e2]
abbrev yk:=List (Addr×List PyData)
abbrev Dat:=List (PyData×V)
def Yh (G:Hp) (ds:Dat):Prop:=∀p∈ds,Is G p.1 p.2
def Has (ds:Dat) (x:PyData) (v:V):Prop:=∀G,Yh G ds->Is G x v
def zV (ds:Dat) (xs:List PyData) (vs:List V):Prop:=∀G,Yh G ds->zC G xs vs
def Kq (B G0 H:Hp) (cs:yk) (ds:Dat) (G:Hp):Prop:=
 zL G0 G/\zL G H/\zL B H/\(∀p,B p≠none->G p=G0 p)/\(∀c∈cs,B c.1=none/\G c.1=none/\∃vs,H c.1=some (.lst vs)/\zC G c.2 vs)/\(cs.map (·.1)).Nodup/\Yh G ds
def Sta (B G0 H:Hp) (cs:yk) (ds:Dat):Prop:=∃G,Kq B G0 H cs ds G
structure Grow (G H G' H':Hp):Prop where
 h:zL H H'
 g:zL G G'
 sub:zL G' H'
 old:∀p,H p≠none->G' p=G p
theorem Yh.mono {G G':Hp} {ds:Dat} (h:Yh G ds) (e:zL G G'):Yh G' ds:=λp hp=>Is.mono e _ _ (h p hp)
theorem Yh.cons {G:Hp} {ds:Dat} {x:PyData} {v:V} (h:Yh G ds) (g:Is G x v):Yh G ((x,v)::ds):=λp hp=>by
 rcases Ql.mp hp with rfl|hp
 ·exact g
 ·exact h p hp
theorem Has.int {ds:Dat} {i:Int}:Has ds (.int i) (.int i):=λ_ _=>by rw [Is]
theorem Has.non {ds:Dat}:Has ds .none .non:=λ_ _=>by rw [Is]
theorem Has.str {ds:Dat} {i:Str}:Has ds (.str i) (.str i):=λ_ _=>by rw [Is]
theorem Has.mem {ds:Dat} {x:PyData} {v:V} (h:(x,v)∈ds):Has ds x v:=λ_ a=>a _ h
theorem Has.weak {ds ds':Dat} {x:PyData} {v:V} (h:Has ds x v) (k:∀p∈ds,Has ds' p.1 p.2):Has ds' x v:=λG a=>h G λp hp=>k p hp G a
theorem Has.tail {ds:Dat} {x:PyData} {v:V} {p:PyData×V} (h:Has ds x v):Has (p::ds) x v:=h.weak λq hq=> .mem (Qd _ hq)
theorem zV.nil {ds:Dat}:zV ds [] []:=λ_ _=>by rw [zC]
theorem zV.cons {ds:Dat} {x:PyData} {v:V} {xs:List PyData} {vs:List V} (h:Has ds x v) (g:zV ds xs vs):zV ds (x::xs) (v::vs):=λG a=>by
 rw [zC];exact ⟨v,vs,rfl,h G a,g G a⟩
theorem zC.len {H:Hp}:∀{xs:List PyData} {vs:List V},zC H xs vs->xs.length=vs.length
 |[],vs,h=>by rw [zC] at h;subst h;rfl
 |x::xs,vs,h=>by
  rw [zC] at h;obtain ⟨v,r,rfl,_,g⟩:=h;rw [Qw,Qw,zC.len g]
theorem zC.at {H:Hp}:∀{xs:List PyData} {vs:List V} {i:Nat} {x:PyData},zC H xs vs->xs[i]? =some x->∃v,vs[i]? =some v/\Is H x v
 |[],_,_,_,_,e=>by simp at e
 |y::xs,vs,i,x,h,e=>by
  rw [zC] at h;obtain ⟨v,r,rfl,h1,g⟩:=h
  cases i with
  |zero=>simp at e;subst e;exact ⟨v,rfl,h1⟩
  |succ i=>simpa using zC.at g (by simpa using e)
theorem zC.app {H:Hp}:∀{xs ys:List PyData} {vs ws:List V},zC H xs vs->zC H ys ws->zC H (xs++ys) (vs++ws)
 |[],ys,vs,ws,h,g=>by rw [zC] at h;subst h;exact g
 |x::xs,ys,vs,ws,h,g=>by
  rw [zC] at h;obtain ⟨v,r,rfl,h1,h2⟩:=h;rw [Ts,Ts,zC];exact ⟨v,_,rfl,h1,zC.app h2 g⟩
theorem xZ {H:Hp} {xs:List PyData} {vs:List V}:zC H xs vs↔xs.length=vs.length/\∀(i:Nat) (x:PyData) (v:V),xs[i]? =some x->vs[i]? =some v->Is H x v:=by
 constructor
 ·intro h;refine ⟨h.len,λi x v hx hv=>?_⟩;obtain ⟨w,hw,g⟩:=h.at hx;rw [hv] at hw;cases hw;exact g
 ·rintro ⟨h1,h2⟩
  have:=tX (R:=λ(a:PyData) v=>Is H a v) (f:=id) (λ_ _ z=>z) h1 h2
  simpa using this
theorem zC.take {H:Hp} {xs:List PyData} {vs:List V} (h:zC H xs vs) (n:Nat):zC H (xs.take n) (vs.take n):=by
 rw [xZ] at h⊢;refine ⟨by rw [Tq,Tq,h.1],λi x v hx hv=>?_⟩;rw [List.getElem?_take] at hx hv
 split at hx
 ·rename_i c;rw [QH c] at hv;exact h.2 i x v hx hv
 ·cases hx
theorem zC.drop {H:Hp} {xs:List PyData} {vs:List V} (h:zC H xs vs) (n:Nat):zC H (xs.drop n) (vs.drop n):=by
 rw [xZ] at h⊢;refine ⟨by rw [Ti,Ti,h.1],λi x v hx hv=>?_⟩;rw [jap] at hx hv;exact h.2 _ x v hx hv
theorem zC.set {H:Hp} {xs:List PyData} {vs:List V} {x:PyData} {v:V} (h:zC H xs vs) (g:Is H x v) (n:Nat):zC H (xs.set n x) (vs.set n v):=by
 rw [xZ] at h⊢;refine ⟨by rw [jbG,jbG,h.1],λi y w hx hv=>?_⟩;rw [List.getElem?_set] at hx hv;rw [<-h.1] at hv
 split at hx
 ·rename_i c;rw [QH c] at hv
  split at hx
  ·rename_i c2;rw [QH c2] at hv;cases hx;cases hv;exact g
  ·cases hx
 ·rename_i c;rw [QP c] at hv;exact h.2 i y w hx hv
section
variable {B G0 H H':Hp} {cs cs':yk} {ds ds':Dat} {x y:PyData} {v w:V} {xs ys:List PyData} {vs:List V} {D:Addr} {p:Addr}
theorem Sta.enter {G:Hp} (e:zL G H) (h:Yh G ds):Sta H G H [] ds:=
 ⟨G,zL.refl _,e,zL.refl _,λ_ _=>rfl,λc hc=>absurd hc (Qv),List.nodup_nil,h⟩
theorem Sta.base (S:Sta B G0 H cs ds):zL B H:=by
 obtain ⟨_,_,_,b,_⟩:=S;exact b
theorem Sta.push (S:Sta B G0 H cs ds) (h:Has ds x v):Sta B G0 H cs ((x,v)::ds):=by
 obtain ⟨G,a,b,c,d,e,f,g⟩:=S;exact ⟨G,a,b,c,d,e,f,g.cons (h G g)⟩
theorem Sta.weak (S:Sta B G0 H cs ds) (hc:cs'.Sublist cs) (hd:∀p∈ds',Has ds p.1 p.2):Sta B G0 H cs' ds':=by
 obtain ⟨G,a,b,c,d,e,f,g⟩:=S;exact ⟨G,a,b,c,d,λq hq=>e q (hc.subset hq),f.sublist (hc.map _),λp hp=>hd p hp G g⟩
theorem Sta.dat (S:Sta B G0 H cs ds) (hd:∀p∈ds',Has ds p.1 p.2):Sta B G0 H cs ds':=S.weak (jaZ _) hd
theorem Sta.drop1 {q:PyData×V} (S:Sta B G0 H cs (q::ds)):Sta B G0 H cs ds:=S.dat λp hp=> .mem (Qd _ hp)
theorem Sta.dropC {q:Addr×List PyData} (S:Sta B G0 H (q::cs) ds):Sta B G0 H cs ds:=S.weak (List.sublist_cons_self _ _) λp hp=> .mem hp
theorem Sta.permC (S:Sta B G0 H cs ds) (h:cs.Perm cs'):Sta B G0 H cs' ds:=by
 obtain ⟨G,a,b,c,d,e,f,g⟩:=S;exact ⟨G,a,b,c,d,λq hq=>e q (h.mem_iff.mpr hq),(h.map _).nodup_iff.mp f,g⟩
theorem Sta.same (S:Sta B G0 H cs ds) (h:zL H H'):Sta B G0 H' cs ds:=
 let ⟨G,a,b,c,d,e,f,g⟩:=S;⟨G,a,b.trans h,c.trans h,d,λq hq=>let ⟨x,y,vs,z,u⟩:=e q hq;⟨x,y,vs,h _ _ z,u⟩,f,g⟩
theorem Kq.grow {G G':Hp} (S:Kq B G0 H cs ds G) (h:Grow G H G' H'):Kq B G0 H' cs ds G':=by
 obtain ⟨a,b,c,d,e,f,g⟩:=S;refine ⟨a.trans h.g,h.sub,c.trans h.h,λp hp=>?_,λq hq=>?_,f,g.mono h.g⟩
 ·rw [h.old p λz=>?_,d p hp]
  cases hb:B p with
  |none=>exact hp hb
  |some o=>rw [c _ _ hb] at z;cases z
 ·obtain ⟨x,y,vs,z,u⟩:=e q hq;exact ⟨x,by rw [h.old q.1 (by rw [z];simp)];exact y,vs,h.h _ _ z,zC.mono h.g _ _ u⟩
theorem Sta.leave {G:Hp} (S:Sta H G H' cs ds):∃G',Grow G H G' H'/\Yh G' ds:=by
 obtain ⟨G',a,b,c,d,_,_,g⟩:=S;exact ⟨G',⟨c,a,b,d⟩,g⟩
theorem Sta.newT (S:Sta B G0 H cs ds) (hp:H p=none) (h:zV ds xs vs):Sta B G0 (upd H p (.tup vs)) cs ((.tuple xs, .ref p)::ds):=by
 obtain ⟨G,a,b,c,d,e,f,g⟩:=S;have hG:G p=none:=b.free hp;have eG:=zL.new hG (.tup vs);refine ⟨upd G p (.tup vs),a.trans eG,λq o hq=>?_,c.trans (zL.new hp _),λq hq=>?_,λq hq=>?_,f,(g.mono eG).cons ?_⟩
 ·by_cases Md:q=p
  ·subst Md;rw [zZ] at hq⊢;exact hq
  ·rw [zR Md] at hq⊢;exact b _ _ hq
 ·have Md:q≠p:=λz=>by subst z;exact hq (c.free hp)
  rw [zR Md];exact d q hq
 ·obtain ⟨x,y,ws,z,u⟩:=e q hq;have Md:q.1≠p:=zW z hp;exact ⟨x,by rw [zR Md];exact y,ws,by rw [zR Md];exact z,zC.mono eG _ _ u⟩
 ·rw [Is];exact ⟨p,vs,rfl,zZ,zC.mono eG _ _ (h G g)⟩
theorem Sta.newL (S:Sta B G0 H cs ds) (hp:H p=none) (h:zV ds xs vs):Sta B G0 (upd H p (.lst vs)) ((p,xs)::cs) ds:=by
 obtain ⟨G,a,b,c,d,e,f,g⟩:=S;have hG:G p=none:=b.free hp;refine ⟨G,a,b.trans (zL.new hp _),c.trans (zL.new hp _),d,λq hq=>?_,?_,g⟩
 ·rcases Ql.mp hq with rfl|hq
  ·exact ⟨c.free hp,hG,vs,zZ,h G g⟩
  ·obtain ⟨x,y,ws,z,u⟩:=e q hq;have Md:q.1≠p:=zW z hp;exact ⟨x,y,ws,by rw [zR Md];exact z,u⟩
 ·rw [Qn,TK];refine ⟨λz=>?_,f⟩;obtain ⟨q,hq,Md⟩:=Qj.mp z;obtain ⟨_,_,ws,z,_⟩:=e q hq;rw [Md,hp] at z;cases z
theorem Sta.freeze (S:Sta B G0 H ((D,xs)::cs) ds):Sta B G0 H cs ((.list xs, .ref D)::ds):=by
 obtain ⟨G,a,b,c,d,e,f,g⟩:=S;obtain ⟨x,y,vs,z,u⟩:=e _ (Qb ..);have eG:=zL.new y (.lst vs);rw [Qn,TK] at f;refine ⟨upd G D (.lst vs),a.trans eG,λq o hq=>?_,c,λq hq=>?_,λq hq=>?_,f.2,(g.mono eG).cons ?_⟩
 ·by_cases Md:q=D
  ·subst Md;rw [zZ] at hq;rw [<-hq];exact z
  ·rw [zR Md] at hq;exact b _ _ hq
 ·have Md:q≠D:=λz=>by subst z;exact hq x
  rw [zR Md];exact d q hq
 ·obtain ⟨x',y',ws,z',u'⟩:=e q (Qd _ hq);have Md:q.1≠D:=λz=>f.1 (Qj.mpr ⟨q,hq,z⟩);exact ⟨x',by rw [zR Md];exact y',ws,z',zC.mono eG _ _ u'⟩
 ·rw [Is];exact ⟨D,vs,rfl,zZ,zC.mono eG _ _ u⟩
theorem Sta.cell (S:Sta B G0 H cs ds) (h:(D,xs)∈cs):∃vs,H D=some (.lst vs)/\xs.length=vs.length/\∀(i:Nat) (x:PyData),xs[i]? =some x->∃v,vs[i]? =some v/\Sta B G0 H cs ((x,v)::ds):=by
 obtain ⟨G,a,b,c,d,e,f,g⟩:=S;obtain ⟨_,_,vs,z,u⟩:=e _ h;refine ⟨vs,z,u.len,λi x hx=>?_⟩;obtain ⟨v,hv,k⟩:=u.at hx;exact ⟨v,hv,G,a,b,c,d,e,f,g.cons k⟩
theorem Sta.put (S:Sta B G0 H ((D,xs)::cs) ds):∃vs,H D=some (.lst vs)/\xs.length=vs.length/\∀ys ws,(∀G,Yh G ds->zC G xs vs->zC G ys ws)->Sta B G0 (upd H D (.lst ws)) ((D,ys)::cs) ds:=by
 obtain ⟨G,a,b,c,d,e,f,g⟩:=S;obtain ⟨x,y,vs,z,u⟩:=e _ (Qb ..);refine ⟨vs,z,u.len,λys ws h=>?_⟩
 have key:∀{A:Hp},zL A H->A D=none->zL A (upd H D (.lst ws)):=λ{A} s n q o hq=>by
  rw [zR (zW hq n)];exact s _ _ hq
 have f':=f;rw [Qn,TK] at f';refine ⟨G,a,key b y,key c x,d,λq hq=>?_,f,g⟩
 rcases Ql.mp hq with rfl|hq
 ·exact ⟨x,y,ws,zZ,h G g u⟩
 ·obtain ⟨x',y',ws',z',u'⟩:=e q (Qd _ hq);have Md:q.1≠D:=λz=>f'.1 (Qj.mpr ⟨q,hq,z⟩);exact ⟨x',y',ws',by rw [zR Md];exact z',u'⟩
theorem Sta.tup (S:Sta B G0 H cs ds) (h:Has ds (.tuple xs) v):∃p vs,v= .ref p/\H p=some (.tup vs)/\xs.length=vs.length/\∀(i:Nat) (x:PyData),xs[i]? =some x->∃w,vs[i]? =some w/\Sta B G0 H cs ((x,w)::ds):=by
 obtain ⟨G,a,b,c,d,e,f,g⟩:=S;have q:=h G g;rw [Is] at q;obtain ⟨p,vs,hv,hp,u⟩:=q;refine ⟨p,vs,hv,b _ _ hp,u.len,λi x hx=>?_⟩;obtain ⟨v,hv,k⟩:=u.at hx;exact ⟨v,hv,G,a,b,c,d,e,f,g.cons k⟩
theorem Sta.lst (S:Sta B G0 H cs ds) (h:Has ds (.list xs) v):∃p vs,v= .ref p/\H p=some (.lst vs)/\xs.length=vs.length/\∀(i:Nat) (x:PyData),xs[i]? =some x->∃w,vs[i]? =some w/\Sta B G0 H cs ((x,w)::ds):=by
 obtain ⟨G,a,b,c,d,e,f,g⟩:=S;have q:=h G g;rw [Is] at q;obtain ⟨p,vs,hv,hp,u⟩:=q;refine ⟨p,vs,hv,b _ _ hp,u.len,λi x hx=>?_⟩;obtain ⟨v,hv,k⟩:=u.at hx;exact ⟨v,hv,G,a,b,c,d,e,f,g.cons k⟩
theorem Sta.tupAll (S:Sta B G0 H cs ds) (h:Has ds (.tuple xs) v):∃p vs,v= .ref p/\H p=some (.tup vs)/\xs.length=vs.length/\Sta B G0 H cs (xs.zip vs++ds)/\∀G,Yh G (xs.zip vs++ds)->zC G xs vs:=by
 obtain ⟨G,a,b,c,d,e,f,g⟩:=S;have q:=h G g;rw [Is] at q;obtain ⟨p,vs,hv,hp,u⟩:=q;refine ⟨p,vs,hv,b _ _ hp,u.len,⟨G,a,b,c,d,e,f,λq hq=>?_⟩,λG' hG=>?_⟩
 ·rcases QT.mp hq with hq|hq
  ·obtain ⟨i,hi⟩:=Qr.mp hq;rw [Tg] at hi;exact (xZ.mp u).2 i _ _ hi.1 hi.2
  ·exact g q hq
 ·refine xZ.mpr ⟨u.len,λi x v hx hv=>?_⟩;exact hG (x,v) (TZ _ (Qr.mpr ⟨i,Tg.mpr ⟨hx,hv⟩⟩))
theorem Sta.lstAll (S:Sta B G0 H cs ds) (h:Has ds (.list xs) v):∃p vs,v= .ref p/\H p=some (.lst vs)/\xs.length=vs.length/\Sta B G0 H cs (xs.zip vs++ds)/\∀G,Yh G (xs.zip vs++ds)->zC G xs vs:=by
 obtain ⟨G,a,b,c,d,e,f,g⟩:=S;have q:=h G g;rw [Is] at q;obtain ⟨p,vs,hv,hp,u⟩:=q;refine ⟨p,vs,hv,b _ _ hp,u.len,⟨G,a,b,c,d,e,f,λq hq=>?_⟩,λG' hG=>?_⟩
 ·rcases QT.mp hq with hq|hq
  ·obtain ⟨i,hi⟩:=Qr.mp hq;rw [Tg] at hi;exact (xZ.mp u).2 i _ _ hi.1 hi.2
  ·exact g q hq
 ·refine xZ.mpr ⟨u.len,λi x v hx hv=>?_⟩;exact hG (x,v) (TZ _ (Qr.mpr ⟨i,Tg.mpr ⟨hx,hv⟩⟩))
theorem Sta.cellAll (S:Sta B G0 H cs ds) (h:(D,xs)∈cs):∃vs,H D=some (.lst vs)/\xs.length=vs.length/\Sta B G0 H cs (xs.zip vs++ds)/\∀G,Yh G (xs.zip vs++ds)->zC G xs vs:=by
 obtain ⟨G,a,b,c,d,e,f,g⟩:=S;obtain ⟨_,_,vs,z,u⟩:=e _ h;refine ⟨vs,z,u.len,⟨G,a,b,c,d,e,f,λq hq=>?_⟩,λG' hG=>?_⟩
 ·rcases QT.mp hq with hq|hq
  ·obtain ⟨i,hi⟩:=Qr.mp hq;rw [Tg] at hi;exact (xZ.mp u).2 i _ _ hi.1 hi.2
  ·exact g q hq
 ·refine xZ.mpr ⟨u.len,λi x v hx hv=>?_⟩;exact hG (x,v) (TZ _ (Qr.mpr ⟨i,Tg.mpr ⟨hx,hv⟩⟩))
theorem Sta.hp (S:Sta B G0 H cs ds) (h:Has ds x v):Is H x v:=by
 obtain ⟨G,a,b,c,d,e,f,g⟩:=S;exact Is.mono b _ _ (h G g)
theorem Sta.hpC (S:Sta B G0 H cs ds) (h:(D,xs)∈cs):Is H (.list xs) (.ref D):=by
 obtain ⟨G,a,b,c,d,e,f,g⟩:=S;obtain ⟨_,_,vs,z,u⟩:=e _ h;rw [Is];exact ⟨D,vs,rfl,z,zC.mono b _ _ u⟩
end
def mkD (D:Ends) (u:L2.St->Hp->Prop):Ends:={D with nx:=u}
def mkL (D:Ends) (u:L2.St->Hp->Prop):Ends:={D with nx:=u,ct:=u,bk:=D.nx}
def endD (Q:VK):Ends:={nx:=λ_ H'=>Q .non H',rt:=Q}
section
variable {B G0 H:Hp} {cs:yk} {ds:Dat} {D:Ends} {σ:L2.St} {Q:VK} {x y:PyData} {v w:V} {xs:List PyData} {vs:List V} {K:PySem.W.Frag} {X:Cx}
theorem HK {t u:TS} (h:t (mkD D (u D)) σ H):tSeq t u D σ H:=h
theorem BG {te:TE} {g:TG} (h:te σ H λx H1=>g x σ H1 D.nx):Ky te g D σ H:=h
theorem zF {i:Nat} {N:L2.St->Hp->Prop} (h:N (σ.set i (some v)) H):lB i v σ H N:=h
theorem kD {t:TS} (h:t (endD Q) σ H):t {nx:=λ_ H'=>Q .non H',rt:=Q} σ H:=h
theorem YR {u:L2.St->Hp->Prop} (h:u σ H):Ends.nx (mkD D u) σ H:=h
theorem rd_rt {u:L2.St->Hp->Prop} (h:Ends.rt D v H):Ends.rt (mkD D u) v H:=h
theorem HL (h:Q v H):Ends.rt (endD Q) v H:=h
theorem rd_nxL {u:L2.St->Hp->Prop} (h:u σ H):Ends.nx (mkL D u) σ H:=h
theorem rd_rtL {u:L2.St->Hp->Prop} (h:Ends.rt D v H):Ends.rt (mkL D u) v H:=h
theorem Wt (h:D.nx σ H):tNext D σ H:=h
theorem rd_ret {te:TE} (h:te σ H D.rt):tRet te D σ H:=h
theorem rd_drop {te:TE} (h:te σ H λ_ H1=>D.nx σ H1):tDrop te D σ H:=h
theorem rd_if {c:TT} {t u:TS} (h:c σ H λb H1=>if b=true then t D σ H1 else u D σ H1):tIfS c t u D σ H:=h
theorem rd_var {i:Nat} (e:σ[i]? =some (some v)) (h:Q v H):tVar i σ H Q:=⟨v,e,h⟩
theorem rd_c (h:Q v H):tC v σ H Q:=h
theorem rd_op {r:R2} {ta tb:TE} (h:ta σ H λx H1=>tb σ H1 λy H2=>r x y H2 Q):tOp r ta tb σ H Q:=h
theorem rd_un {r:V->Hp->VK->Prop} {ta:TE} (h:ta σ H λx H1=>r x H1 Q):tUn r ta σ H Q:=h
theorem rd_rI0 {g:Int->Int->V} {i j:Int} (h:Q (g i j) H):rI0 g (.int i) (.int j) H Q:=⟨i,j,rfl,rfl,h⟩
theorem rd_mulB {i j:Int} (c:IntMulOk i j) (h:Q (.int (i*j)) H):rI IntMulOk (λi j=> .int (i*j)) (.int i) (.int j) H Q:=⟨i,j,rfl,rfl,c,h⟩
theorem rd_modL {i j:Int} (c:0<j) (h:Q (.int (i % j)) H):rI (λ_ j=>0<j) (λi j=> .int (i % j)) (.int i) (.int j) H Q:=⟨i,j,rfl,rfl,c,h⟩
theorem rd_modN {i j:Int} (c:j≠0) (h:Q (.int (i.fmod j)) H):rI (λ_ j=>j≠0) (λi j=> .int (i.fmod j)) (.int i) (.int j) H Q:=⟨i,j,rfl,rfl,c,h⟩
theorem rd_fdivL {i j:Int} (c:CDiv i j) (h:Q (.int (i / j)) H):rI CDiv (λi j=> .int (i / j)) (.int i) (.int j) H Q:=⟨i,j,rfl,rfl,c,h⟩
theorem rd_fdivB {i j:Int} (c:CDv i j) (h:Q (.int (i.fdiv j)) H):rI CDv (λi j=> .int (i.fdiv j)) (.int i) (.int j) H Q:=⟨i,j,rfl,rfl,c,h⟩
theorem rd_pow {i j:Int} (c:CPow i j) (h:Q (.int (i ^ j.toNat)) H):rI CPow (λi j=> .int (i ^ j.toNat)) (.int i) (.int j) H Q:=⟨i,j,rfl,rfl,c,h⟩
theorem rd_rU {g:Int->V} {i:Int} (h:Q (g i) H):rU g (.int i) H Q:=⟨i,rfl,h⟩
theorem rd_test {t:TE} {R:Bool->Hp->Prop} (h:t σ H λx H'=>∃k,x= .bl k/\R k H'):tTest t σ H R:=h
theorem rd_tB {t:TE} {R:Bool->Hp->Prop} (h:t σ H λx H'=>∃k,x= .bl k/\R k H'):tB t σ H R:=h
theorem rd_isbl {k:Bool} {R:Bool->Prop} (h:R k):∃k',V.bl k= .bl k'/\R k':=⟨k,rfl,h⟩
theorem rd_not {t:TT} {R:Bool->Hp->Prop} (h:t σ H λc H1=>R (!c) H1):tNot t σ H R:=h
theorem rd_and {t u:TT} {R:Bool->Hp->Prop} (h:t σ H λc H1=>if c=true then u σ H1 R else R false H1):tAnd t u σ H R:=h
theorem rd_or {t u:TT} {R:Bool->Hp->Prop} (h:t σ H λc H1=>if c=true then R true H1 else u σ H1 R):tOr t u σ H R:=h
theorem rd_andV {ta tb:TE} (h:ta σ H λx H1=>∃c,x= .bl c/\if c=true then tb σ H1 Q else Q (.bl false) H1):tAndV ta tb σ H Q:=h
theorem rd_notV {ta:TE} (h:ta σ H λx H1=>∃c,x= .bl c/\Q (.bl (!c)) H1):tNotV ta σ H Q:=h
theorem Bu {R:List V->Hp->Prop} (h:R [] H):tNil σ H R:=h
theorem BE {ta:TE} {tr:TA} {R:List V->Hp->Prop} (h:ta σ H λx H1=>tr σ H1 λxs H2=>R (x::xs) H2):tCons ta tr σ H R:=h
theorem rd_call {sp:Sp} {E:XK} {t:TA} (h:t σ H λvs H1=>sp vs H1 Q E):uX sp [] E t σ H Q:=by
 unfold uX
 simpa only [jaC] using h
theorem rd_cb {r:List V->Hp->VK->Prop} {t:TA} (h:t σ H λvs H1=>r vs H1 Q):tCB r t σ H Q:=h
theorem rd_aug {i:Nat} {te:TE} {ti:TIp} (e:σ[i]? =some (some v)) (h:te σ H λy H1=>ti v y H1 λz H2=>D.nx (σ.set i (some z)) H2):tAug i te ti D σ H:=⟨v,e,h⟩
theorem rd_ipI {f:Int->Int->Int} {i j:Int} (h:Q (.int (f i j)) H):ipI f (.int i) (.int j) H Q:=⟨i,j,rfl,rfl,h⟩
theorem rd_par {i j:Nat} {ta:TA} (h:ta σ H λvs H1=>∃v w,vs=[v,w]/\D.nx ((σ.set i (some v)).set j (some w)) H1):tPar i j ta D σ H:=h
theorem rd_is2 {R:V->V->Prop} (h:R v w):∃v' w',[v,w]=[v',w']/\R v' w':=⟨v,w,rfl,h⟩
def rEqA:R2:=λx y H Q=>rEq x y H Q\/rEqD x y H Q
def rNeA:R2:=λx y H Q=>rNe x y H Q\/rNeD x y H Q
theorem op_eqA (hu:X.A.units+64<cLine):OpR X (compareOp .Eq) rEqA:=op_eq.or (op_eqD hu)
theorem op_neA (hu:X.A.units+64<cLine):OpR X (compareOp .NotEq) rNeA:=op_ne.or (op_neD hu)
theorem Ye {a b:Prop} [Decidable a] [Decidable b] (h:a↔b):decide a=decide b:=by
 by_cases ha:a
 ·rw [QQ ha,QQ (h.mp ha)]
 ·rw [QY ha,QY (λz=>ha (h.mpr z))]
theorem rd_eqI {i j:Int} (h:Q (.bl (decide (i=j))) H):rEqA (.int i) (.int j) H Q:= .inl ⟨rfl,by
 rw [Ye (show V.int i=V.int j↔i=j from ⟨V.int.inj,congrArg _⟩)];exact h⟩
theorem rd_neI {i j:Int} (h:Q (.bl (!decide (i=j))) H):rNeA (.int i) (.int j) H Q:= .inl ⟨rfl,by
 rw [Ye (show V.int i=V.int j↔i=j from ⟨V.int.inj,congrArg _⟩)];exact h⟩
theorem rd_neB {i j:Bool} (h:Q (.bl (!decide (i=j))) H):rNeA (.bl i) (.bl j) H Q:= .inl ⟨rfl,by
 rw [Ye (show V.bl i=V.bl j↔i=j from ⟨V.bl.inj,congrArg _⟩)];exact h⟩
theorem BC (h1:Is H x v) (h2:Is H y w) (s1:SeqAt.shaped x=true) (s2:SeqAt.shaped y=true) (h:Q (.bl (PyData.eqv x y)) H):rEqA v w H Q:= .inr ⟨x,y,h1,h2,s1,s2,h⟩
theorem nJ (h1:Is H x v) (h2:Is H y w) (s1:SeqAt.shaped x=true) (s2:SeqAt.shaped y=true) (h:Q (.bl (!PyData.eqv x y)) H):rNeA v w H Q:= .inr ⟨x,y,h1,h2,s1,s2,h⟩
def kTup (Q:VK) (xs:List V) (H:Hp):Prop:=xs.length<=sizeLine/\∀p,H p=none->Q (.ref p) (upd H p (.tup xs))
def kLst (Q:VK) (xs:List V) (H:Hp):Prop:=xs.length<=sizeLine/\∀p,H p=none->Q (.ref p) (upd H p (.lst xs))
theorem HH {t:TA} (h:t σ H (kTup Q)):tTup t σ H Q:=h
theorem rd_lst {t:TA} (h:t σ H (kLst Q)):tLst t σ H Q:=h
theorem qF (S:Sta B G0 H cs ds) (h:zV ds xs vs) (hl:vs.length<=1000) (k:∀p H',zL H H'->Sta B G0 H' cs ((.tuple xs, .ref p)::ds)->Q (.ref p) H'):kTup Q vs H:=
 ⟨jbm (YL hl),λp hp=>k p _ (zL.new hp _) (S.newT hp h)⟩
theorem rd_kLst (S:Sta B G0 H cs ds) (h:zV ds xs vs) (hl:vs.length<=1000) (k:∀p H',zL H H'->Sta B G0 H' ((p,xs)::cs) ds->Q (.ref p) H'):kLst Q vs H:=
 ⟨jbm (YL hl),λp hp=>k p _ (zL.new hp _) (S.newL hp h)⟩
theorem DN {α β:Type} {xs:List α} {ys:List β} {i:Int} {x:α} (hl:xs.length=ys.length) (h:atI xs i=some x):∃j:Nat,xs[j]? =some x/\∀y,ys[j]? =some y->atI ys i=some y:=by
 unfold atI at h⊢;rw [<-hl]
 cases e:ixN xs.length i with
 |none=>rw [e] at h;cases h
 |some j=>rw [e] at h;exact ⟨j,h,λy hy=>hy⟩
theorem Ul {i:Int} (S:Sta B G0 H cs ds) (hx:Has ds (.tuple xs) v) (hi:atI xs i=some x) (k:∀w,Sta B G0 H cs ((x,w)::ds)->Q w H):rIx K v (.int i) H Q:=by
 obtain ⟨p,vs,rfl,hp,hl,z⟩:=S.tup hx;obtain ⟨j,hj,hy⟩:=DN hl hi;obtain ⟨w,hw,S'⟩:=z j x hj;exact .inr (.inl ⟨p,vs,i,w,rfl,rfl,SqT.of hp,hy _ hw,k w S'⟩)
theorem Sta.top {n:PyData} (S:Sta B G0 H cs ((n,v)::ds)):Is H n v:=S.hp (.mem (Qb ..))
theorem rd_ixTI {i n:Int} (S:Sta B G0 H cs ds) (hx:Has ds (.tuple xs) v) (hi:atI xs i=some (.int n)) (k:Q (.int n) H):rIx K v (.int i) H Q:=
 Ul S hx hi λw S'=>by have:=S'.top;rw [Is] at this;subst this;exact k
theorem yV {i:Int} (S:Sta B G0 H cs ds) (hx:Has ds (.list xs) v) (hi:atI xs i=some x) (k:∀w,Sta B G0 H cs ((x,w)::ds)->Q w H):rIx K v (.int i) H Q:=by
 obtain ⟨p,vs,rfl,hp,hl,z⟩:=S.lst hx;obtain ⟨j,hj,hy⟩:=DN hl hi;obtain ⟨w,hw,S'⟩:=z j x hj;exact .inl ⟨p,vs,i,w,rfl,rfl,SqL.of hp,hy _ hw,k w S'⟩
theorem Ww {i n:Int} (S:Sta B G0 H cs ds) (hx:Has ds (.list xs) v) (hi:atI xs i=some (.int n)) (k:Q (.int n) H):rIx K v (.int i) H Q:=
 yV S hx hi λw S'=>by have:=S'.top;rw [Is] at this;subst this;exact k
theorem XN {i:Int} {L:Addr} (S:Sta B G0 H cs ds) (hx:(L,xs)∈cs) (hi:atI xs i=some x) (k:∀w,Sta B G0 H cs ((x,w)::ds)->Q w H):rIx K (.ref L) (.int i) H Q:=by
 obtain ⟨vs,hp,hl,z⟩:=S.cell hx;obtain ⟨j,hj,hy⟩:=DN hl hi;obtain ⟨w,hw,S'⟩:=z j x hj;exact .inl ⟨L,vs,i,w,rfl,rfl,SqL.of hp,hy _ hw,k w S'⟩
theorem Jj {i n:Int} {L:Addr} (S:Sta B G0 H cs ds) (hx:(L,xs)∈cs) (hi:atI xs i=some (.int n)) (k:Q (.int n) H):rIx K (.ref L) (.int i) H Q:=
 XN S hx hi λw S'=>by have:=S'.top;rw [Is] at this;subst this;exact k
theorem rd_ixS {i:Int} {a:Addr} {ns:List Int} (hS:SqL K H a (ns.map V.int)) (h0:0<=i) (h1:i<(ns.length:Int)) (k:Q (.int (ns.getD i.toNat 0)) H):rIx K (.ref a) (.int i) H Q:=
 .inl ⟨a,_,i,_,rfl,rfl,hS,Hn h0 h1,k⟩
def rLen (K:PySem.W.Frag):List V->Hp->VK->Prop:=λxs H Q=>∃p ys,xs=[.ref p]/\(SqL K H p ys\/SqT K H p ys)/\Q (.int ys.length) H
theorem oQ:Wb X (.builtin "len") (rLen X.K):=oP
theorem rd_lenT (S:Sta B G0 H cs ds) (hx:Has ds (.tuple xs) v) (k:Q (.int xs.length) H):rLen K [v] H Q:=by
 obtain ⟨p,vs,rfl,hp,hl,_⟩:=S.tup hx;exact ⟨p,vs,rfl, .inr (SqT.of hp),by rw [<-hl];exact k⟩
theorem rd_lenL (S:Sta B G0 H cs ds) (hx:Has ds (.list xs) v) (k:Q (.int xs.length) H):rLen K [v] H Q:=by
 obtain ⟨p,vs,rfl,hp,hl,_⟩:=S.lst hx;exact ⟨p,vs,rfl, .inl (SqL.of hp),by rw [<-hl];exact k⟩
theorem rd_lenC {L:Addr} (S:Sta B G0 H cs ds) (hx:(L,xs)∈cs) (k:Q (.int xs.length) H):rLen K [.ref L] H Q:=by
 obtain ⟨vs,hp,hl,_⟩:=S.cell hx;exact ⟨L,vs,rfl, .inl (SqL.of hp),by rw [<-hl];exact k⟩
theorem Jh {a:Addr} {ns:List Int} (hS:SqL K H a (ns.map V.int)) (k:Q (.int ns.length) H):rLen K [.ref a] H Q:=
 ⟨a,_,rfl, .inl hS,by rw [Qa];exact k⟩
def rAbs:List V->Hp->VK->Prop:=λxs H Q=>∃i,xs=[.int i]/\Q (.int (if i<0 then -i else i)) H
theorem call_absA:Wb X (.builtin "abs") rAbs:=GP
theorem rd_abs {i:Int} (k:Q (.int (i.natAbs:Int)) H):rAbs [.int i] H Q:=⟨i,rfl,by
 rw [show (if i<0 then -i else i)=(i.natAbs:Int) by split<;>omega];exact k⟩
def rMin:List V->Hp->VK->Prop:=λxs H Q=>∃i j,xs=[.int i, .int j]/\Q (.int (if j<i then j else i)) H
theorem DI (hc:X.calm=true):Wb X (.builtin "min") rMin:=DJ hc
theorem rd_min {i j:Int} (k:Q (.int (min i j)) H):rMin [.int i, .int j] H Q:=⟨i,j,rfl,by
 rw [show (if j<i then j else i)=min i j by split<;>omega];exact k⟩
def BL (K:PySem.W.Frag):List V->Hp->VK->Prop:=λxs H Q=>∃p ys,xs=[.ref p]/\(SqL K H p ys\/SqT K H p ys)/\∀l,H l=none->Q (.ref l) (upd H l (.lst ys))
theorem KC:Wb X (.type "list") (BL X.K):=oO
def tD (K:PySem.W.Frag):List V->Hp->VK->Prop:=λxs H Q=>∃p ys,xs=[.ref p]/\((SqL K H p ys/\∀l,H l=none->Q (.ref l) (upd H l (.tup ys)))\/(SqT K H p ys/\Q (.ref p) H))
theorem Kh:Wb X (.type "tuple") (tD X.K):=lJ
theorem rd_listL (S:Sta B G0 H cs ds) (hx:Has ds (.list xs) v) (k:∀l H',zL H H'->Sta B G0 H' ((l,xs)::cs) ds->Q (.ref l) H'):BL K [v] H Q:=by
 obtain ⟨p,vs,rfl,hp,hl,S',hA⟩:=S.lstAll hx;exact ⟨p,vs,rfl, .inl (SqL.of hp),λl hl=>k l _ (zL.new hl _) ((S'.newL hl hA).dat λq hq=> .mem (QA _ hq))⟩
theorem rd_tupleC {L:Addr} (S:Sta B G0 H cs ds) (hx:(L,xs)∈cs) (k:∀l H',zL H H'->Sta B G0 H' cs ((.tuple xs, .ref l)::ds)->Q (.ref l) H'):tD K [.ref L] H Q:=by
 obtain ⟨vs,hp,hl,S',hA⟩:=S.cellAll hx
 exact ⟨L,vs,rfl, .inl ⟨SqL.of hp,λl hl=>k l _ (zL.new hl _) ((S'.newT hl hA).dat λq hq=> .mem (by
  rcases Ql.mp hq with rfl|hq
  ·exact Qb ..
  ·exact Qd _ (QA _ hq)))⟩⟩
def kBM (K:PySem.W.Frag) (T:String) (r:V->List V->Hp->VK->Prop) (t:TA) (σ:L2.St) (Q:VK):VK:=λx H1=>tyV K T x H1/\t σ H1 λxs H2=>r x xs H2 Q
theorem rd_bm {T:String} {r:V->List V->Hp->VK->Prop} {to:TE} {t:TA} (h:to σ H (kBM K T r t σ Q)):tBM K T r to t σ H Q:=h
theorem rd_kBM {L:Addr} {r:V->List V->Hp->VK->Prop} {t:TA} (S:Sta B G0 H cs ds) (hx:(L,xs)∈cs) (h:t σ H λys H2=>r (.ref L) ys H2 Q):kBM K "list" r t σ Q (.ref L) H:=by
 obtain ⟨vs,hp,hl,_⟩:=S.cell hx;exact ⟨.inl ⟨rfl,_,SqL.of hp⟩,h⟩
theorem xh {L:Addr} (S:Sta B G0 H ((L,xs)::cs) ds) (hy:Has ds y w) (hz:xs.length<=1000) (k:∀H',Sta B G0 H' ((L,xs++[y])::cs) ds->Q .non H'):BN (.ref L) [w] H Q:=by
 obtain ⟨vs,hp,hl,put⟩:=S.put;exact ⟨L,vs,w,rfl,rfl,hp,YL (by omega),k _ (put _ _ λG a u=>u.app (by rw [zC];exact ⟨w,[],rfl,hy G a,by rw [zC]⟩))⟩
theorem Jc {L:Addr} {i:Int} {j:Nat} {R:Hp->Prop} (S:Sta B G0 H ((L,xs)::cs) ds) (hy:Has ds y w) (hi:ixN xs.length i=some j) (k:∀H',Sta B G0 H' ((L,xs.set j y)::cs) ds->R H'):rSetL (.ref L) (.int i) w H R:=by
 obtain ⟨vs,hp,hl,put⟩:=S.put;exact ⟨L,vs,i,j,rfl,rfl,hp,by rw [<-hl];exact hi,k _ (put _ _ λG a u=>u.set (hy G a) j)⟩
def lG (xs:List PyData) (lo hi:Option Int):List PyData:=(xs.drop (HT.sIx xs.length 0 lo)).take (HT.sIx xs.length xs.length hi - HT.sIx xs.length 0 lo)
theorem nD {lo hi:Option Int} (S:Sta B G0 H cs ds) (hx:Has ds (.list xs) v) (k:∀l H',zL H H'->Sta B G0 H' ((l,lG xs lo hi)::cs) ds->Q (.ref l) H'):rSlL K v lo hi H Q:=by
 obtain ⟨p,vs,rfl,hp,hl,S',hA⟩:=S.lstAll hx;refine ⟨p,vs,rfl,SqL.of hp,λl hn=>k l _ (zL.new hn _) ((S'.newL hn λG a=>?_).dat λq hq=> .mem (QA _ hq))⟩;unfold lG Ad;rw [hl];exact ((hA G a).drop _).take _
theorem nE {lo hi:Option Int} {L:Addr} (S:Sta B G0 H cs ds) (hx:(L,xs)∈cs) (k:∀l H',zL H H'->Sta B G0 H' ((l,lG xs lo hi)::cs) ds->Q (.ref l) H'):rSlL K (.ref L) lo hi H Q:=by
 obtain ⟨vs,hp,hl,S',hA⟩:=S.cellAll hx;refine ⟨L,vs,rfl,SqL.of hp,λl hn=>k l _ (zL.new hn _) ((S'.newL hn λG a=>?_).dat λq hq=> .mem (QA _ hq))⟩;unfold lG Ad;rw [hl];exact ((hA G a).drop _).take _
end
theorem mulModOk {a b m n:Int} (h:(0<m/\m<2 ^ 64)/\(0<n/\n<2 ^ 64)):IntMulOk (a % m) (b % n):=by
 have h1:=jaG a (show m≠0 by omega);have h2:=jaq a h.1.1;have h3:=jaG b (show n≠0 by omega);have h4:=jaq b h.2.1;have e:(2:Nat) ^ 64=18446744073709551616:=by decide
 have e':(2:Int) ^ 64=18446744073709551616:=by decide
 rw [e'] at h;exact Sz.mulOk (m:=64) (n:=64) (by unfold Sz;rw [e];omega) (by unfold Sz;rw [e];omega) (by decide)
theorem iteNT {A B:Prop} (h:B):if (!true)=true then A else B:=h
section
variable {B G0 H:Hp} {cs:yk} {ds:Dat} {Q:VK} {v:V} {xs zs:List PyData} {K:PySem.W.Frag} {X:Cx} {L M:Addr}
def Fe:R2:=λx y H Q=>rI0 (λi j=> .int (i+j)) x y H Q\/rCat x y H Q
theorem BV:OpR X (binaryOp .Add) Fe:=op_add.or op_cat
theorem rd_addI {i j:Int} (h:Q (.int (i+j)) H):Fe (.int i) (.int j) H Q:= .inl ⟨i,j,rfl,rfl,h⟩
def Vw (B G0 H:Hp) (cs:yk) (ds:Dat) (L:Addr) (xs:List PyData):Prop:=∃vs,H L=some (.lst vs)/\∀G,Kq B G0 H cs ds G->zC G xs vs
theorem Sta.vwL (S:Sta B G0 H cs ds) (h:Has ds (.list xs) (.ref L)):Vw B G0 H cs ds L xs:=by
 obtain ⟨G,S⟩:=S;have q:=h G S.2.2.2.2.2.2;rw [Is] at q;obtain ⟨p,vs,e,hp,u⟩:=q;cases e;have ML:=S.2.1 _ _ hp;refine ⟨vs,ML,λG' S'=>?_⟩;have q:=h G' S'.2.2.2.2.2.2;rw [Is] at q;obtain ⟨p,vs',e,SN,u'⟩:=q;cases e;have:=S'.2.1 _ _ SN;rw [ML] at this;cases this;exact u'
theorem Sta.vwC (S:Sta B G0 H cs ds) (h:(L,xs)∈cs):Vw B G0 H cs ds L xs:=by
 obtain ⟨G,S⟩:=S;obtain ⟨_,_,vs,z,u⟩:=S.2.2.2.2.1 _ h;refine ⟨vs,z,λG' S'=>?_⟩;obtain ⟨_,_,vs',z',u'⟩:=S'.2.2.2.2.1 _ h;rw [z] at z';cases z';exact u'
theorem Zp (S:Sta B G0 H cs ds) (v1:Vw B G0 H cs ds L xs) (v2:Vw B G0 H cs ds M zs) (hz:xs.length+zs.length<=1000)
 (k:∀p H',zL H H'->Sta B G0 H' ((p,xs++zs)::cs) ds->Q (.ref p) H'):Fe (.ref L) (.ref M) H Q:=by
 obtain ⟨us,h1,u1⟩:=v1;obtain ⟨ws,h2,u2⟩:=v2;obtain ⟨G,S'⟩:=id S;refine .inr ⟨L,M,us,ws,rfl,rfl,h1,h2,jbm (YL (by rw [<-(u1 G S').len,<-(u2 G S').len];exact hz)),λp hp=>k p _ (zL.new hp _) ?_⟩;obtain ⟨a,b,c,d,e,f,g⟩:=id S';have hG:G p=none:=b.free hp;refine ⟨G,a,b.trans (zL.new hp _),c.trans (zL.new hp _),d,λq hq=>?_,?_,g⟩
 ·rcases Ql.mp hq with rfl|hq
  ·exact ⟨c.free hp,hG,_,zZ,(u1 G S').app (u2 G S')⟩
  ·obtain ⟨x,y,ws,z,u⟩:=e q hq;have Md:q.1≠p:=zW z hp;exact ⟨x,y,ws,by rw [zR Md];exact z,u⟩
 ·rw [Qn,TK];refine ⟨λz=>?_,f⟩;obtain ⟨q,hq,Md⟩:=Qj.mp z;obtain ⟨_,_,ws,z,_⟩:=e q hq;rw [Md,hp] at z;cases z
def rSum (K:PySem.W.Frag):List V->Hp->VK->Prop:=λxs H Q=>∃(p:Addr) (ns:List Int),xs=[.ref p]/\SqL K H p (ns.map V.int)/\Q (.int ns.sum) H
theorem call_sumA (hc:X.calm=true):Wb X (.builtin "sum") (rSum X.K):=by
 intro pins s σ H xs us Q I r h;obtain ⟨p,ns,rfl,hq,q⟩:=h;obtain ⟨u,rfl,rx⟩:=UI r;cases rx;obtain ⟨its,rv,pl,_⟩:=I.list hq;have hi:=WV rv;obtain ⟨ys,e⟩:=hi.allInts.items;have hl:s.heap.IsList p (intItems ys):=e▸pl.isList;have en:ys.toList.map (·.1)=ns:=by rw [<-nums_intItems,<-e];exact hi.numsOf
 refine sum_intListG (I.ok.hd hc) hl λh' tk t' hk=>?_;refine ⟨.int ns.sum,H,I.kept (t':=tk) hk,⟨t',?_⟩,q⟩;rw [preSum_eq,en,Tc (by rw [<-en];simp)]
theorem yM {G:Hp}:∀{ns:List Int} {vs:List V},zC G (ns.map PyData.int) vs->vs=ns.map V.int
 |[],vs,h=>by rw [jao,zC] at h;exact h
 |n::ns,vs,h=>by
  rw [Qn,zC] at h;obtain ⟨v,r,rfl,h1,h2⟩:=h;rw [Is] at h1;subst h1;rw [yM h2,Qn]
theorem rd_sumC {ns:List Int} (S:Sta B G0 H cs ds) (h:(L,ns.map PyData.int)∈cs) (k:Q (.int ns.sum) H):rSum K [.ref L] H Q:=by
 obtain ⟨vs,hp,u⟩:=S.vwC h;obtain ⟨G,S'⟩:=id S;rw [yM (u G S')] at hp;exact ⟨L,ns,rfl,SqL.of hp,k⟩
theorem rd_sumL {ns:List Int} (S:Sta B G0 H cs ds) (h:Has ds (.list (ns.map PyData.int)) v) (k:Q (.int ns.sum) H):rSum K [v] H Q:=by
 obtain ⟨p,vs,rfl,_⟩:=S.lst h;obtain ⟨vs,hp,u⟩:=S.vwL h;obtain ⟨G,S'⟩:=id S;rw [yM (u G S')] at hp;exact ⟨_,ns,rfl,SqL.of hp,k⟩
end
def Ro (B G0:Hp) (L:Addr) (xs:List PyData):Prop:=G0 L=none/\∃vs,B L=some (.lst vs)/\zC G0 xs vs
def Src (B G0:Hp) (b:Bool) (K:PySem.W.Frag) (a:Addr) (xs:List PyData) (P:yk->Dat->Prop):Prop:=∀{H:Hp} {cs:yk} {ds:Dat},Sta B G0 H cs ds->P cs ds->
 ∃vs,SqB b K H a vs/\xs.length=vs.length/\∀(i:Nat) (x:PyData),xs[i]? =some x->∃v,vs[i]? =some v/\Sta B G0 H cs ((x,v)::ds)
structure Wk (B G0:Hp) (J:It) (xs:List PyData) (P:yk->Dat->Prop):Prop where
 go:∀{H:Hp} {cs:yk} {ds:Dat} {i:Nat},Sta B G0 H cs ds->P cs ds->i<xs.length->J.go i H
 stop:∀{H:Hp} {cs:yk} {ds:Dat} {i:Nat},Sta B G0 H cs ds->P cs ds->xs.length<=i->J.stop i H
 yld:∀{H H':Hp} {cs:yk} {ds:Dat} {i:Nat} {x:PyData} {v:V},Sta B G0 H cs ds->P cs ds->xs[i]? =some x->J.yld i H v H'->zL H H'/\Sta B G0 H' cs ((x,v)::ds)
section
variable {B G0 H:Hp} {cs:yk} {ds:Dat} {K:PySem.W.Frag} {a:Addr} {xs ys:List PyData} {P P':yk->Dat->Prop} {b c:Bool} {v:V}
theorem cf:Src B G0 true K a xs (λ_ ds=>Has ds (.list xs) (.ref a)):=λS h=>by
 obtain ⟨p,vs,e,hp,hl,z⟩:=S.lst h;cases e;exact ⟨vs,SqL.of hp,hl,z⟩
theorem cX:Src B G0 false K a xs (λ_ ds=>Has ds (.tuple xs) (.ref a)):=λS h=>by
 obtain ⟨p,vs,e,hp,hl,z⟩:=S.tup h;cases e;exact ⟨vs,SqT.of hp,hl,z⟩
theorem EH:Src B G0 true K a xs (λcs _=>(a,xs)∈cs):=λS h=>by
 obtain ⟨vs,hp,hl,z⟩:=S.cell h;exact ⟨vs,SqL.of hp,hl,z⟩
theorem Ah (s:Src B G0 true K a xs P):Wk B G0 (Itl K a) xs P where
 go:=λ{H cs ds i} S h hi=>by
  obtain ⟨vs,q,hl,_⟩:=s S h;exact ⟨vs,vs[i]'(by omega),q,Qc _⟩
 stop:=λ{H cs ds i} S h hi=>by
  obtain ⟨vs,q,hl,_⟩:=s S h;exact ⟨vs,q,by omega⟩
 yld:=λ{H H' cs ds i x v} S h hx y=>by
  obtain ⟨e,y⟩:=y;subst e;obtain ⟨vs,q,hl,z⟩:=s S h;obtain ⟨w,hw,S'⟩:=z i x hx;have:=y vs q;rw [hw] at this;cases this;exact ⟨zL.refl _,S'⟩
theorem wk_tup (s:Src B G0 false K a xs P):Wk B G0 (Itt K a) xs P where
 go:=λ{H cs ds i} S h hi=>by
  obtain ⟨vs,q,hl,_⟩:=s S h;exact ⟨vs,vs[i]'(by omega),q,Qc _⟩
 stop:=λ{H cs ds i} S h hi=>by
  obtain ⟨vs,q,hl,_⟩:=s S h;exact ⟨vs,q,by omega⟩
 yld:=λ{H H' cs ds i x v} S h hx y=>by
  obtain ⟨e,y⟩:=y;subst e;obtain ⟨vs,q,hl,z⟩:=s S h;obtain ⟨w,hw,S'⟩:=z i x hx;have:=y vs q;rw [hw] at this;cases this;exact ⟨zL.refl _,S'⟩
def dP (lo:Int) (n:Nat):List PyData:=(List.range n).map λi=> .int (lo+(i:Nat))
theorem YS (lo:Int) (n:Nat):(dP lo n).length=n:=by unfold dP;rw [Qa,jbu]
theorem dO {lo:Int} {n i:Nat} {x:PyData} (h:(dP lo n)[i]? =some x):i<n/\x= .int (lo+(i:Nat)):=by
 have hi:i<n:=by have:=(Qf.mp h).1;rwa [YS] at this
 unfold dP at h;rw [Qi,List.getElem?_range hi] at h;exact ⟨hi,(Qz h).symm⟩
theorem sP {lo:Int} {n:Nat}:Wk B G0 (Itr lo n) (dP lo n) (λ_ _=>True) where
 go:=λ{H cs ds i} S h hi=>by rw [YS] at hi;exact hi
 stop:=λ{H cs ds i} S h hi=>by rw [YS] at hi;exact hi
 yld:=λ{H H' cs ds i x v} S h hx y=>by
  obtain ⟨e,y⟩:=y;obtain ⟨_,rfl⟩:=dO hx;subst e y;exact ⟨zL.refl _,S.push Has.int⟩
def rH (xs:List PyData):List PyData:=xs.mapIdx λi x=> .tuple [.int (i:Nat),x]
theorem xu (xs:List PyData):(rH xs).length=xs.length:=by unfold rH;rw [List.length_mapIdx]
theorem XD {xs:List PyData} {i:Nat} {y:PyData} (h:(rH xs)[i]? =some y):∃x,xs[i]? =some x/\y= .tuple [.int (i:Nat),x]:=by
 unfold rH at h;rw [List.getElem?_mapIdx] at h
 cases e:xs[i]? with
 |none=>rw [e] at h;cases h
 |some x=>rw [e] at h;exact ⟨x,rfl,(Qz h).symm⟩
theorem Ai (s:Src B G0 b K a xs P):Wk B G0 (ItE b K a) (rH xs) P where
 go:=λ{H cs ds i} S h hi=>by
  rw [xu] at hi;obtain ⟨vs,q,hl,_⟩:=s S h;exact ⟨vs,vs[i]'(by omega),q,Qc _⟩
 stop:=λ{H cs ds i} S h hi=>by
  rw [xu] at hi;obtain ⟨vs,q,hl,_⟩:=s S h;exact ⟨vs,q,by omega⟩
 yld:=λ{H H' cs ds i x v} S h hx y=>by
  obtain ⟨x0,Mi,rfl⟩:=XD hx;obtain ⟨p,u,hu,hp,rfl,rfl⟩:=y;obtain ⟨vs,q,hl,z⟩:=s S h;obtain ⟨w,hw,S'⟩:=z i x0 Mi;have:=hu vs q;rw [hw] at this;cases this;refine ⟨zL.new hp _,(S'.newT hp (xs:=[.int (i:Nat),x0]) (vs:=[.int (i:Nat),u]) (.cons Has.int (.cons (.mem (Qb ..)) .nil))).dat λr hr=> .mem ?_⟩
  rcases Ql.mp hr with rfl|hr
  ·exact Qb ..
  ·exact Qd _ (Qd _ hr)
def ID (xs ys:List PyData):List PyData:=List.zipWith (λx y=> .tuple [x,y]) xs ys
theorem xS (xs ys:List PyData):(ID xs ys).length=min xs.length ys.length:=by unfold ID;rw [QE]
theorem Vz {xs ys:List PyData} {i:Nat} {z:PyData} (h:(ID xs ys)[i]? =some z):∃x y,xs[i]? =some x/\ys[i]? =some y/\z= .tuple [x,y]:=by
 unfold ID at h;rw [QC] at h
 cases e:xs[i]? with
 |none=>rw [e] at h;cases h
 |some x=>
  cases e2:ys[i]? with
  |none=>rw [e,e2] at h;cases h
  |some y=>rw [e,e2] at h;exact ⟨x,y,rfl,rfl,(Qz h).symm⟩
theorem Hx {a2:Addr} (s:Src B G0 b K a xs P) (s2:Src B G0 c K a2 ys P'):Wk B G0 (ItZ b c K a a2) (ID xs ys) (λcs ds=>P cs ds/\(∀x v,P' cs ds->P' cs ((x,v)::ds))/\P' cs ds) where
 go:=λ{H cs ds i} S h hi=>by
  rw [xS] at hi;obtain ⟨vs,q,hl,_⟩:=s S h.1;obtain ⟨ws,q2,Mq,_⟩:=s2 S h.2.2;exact ⟨vs,ws,vs[i]'(by omega),ws[i]'(by omega),q,q2,Qc _,Qc _⟩
 stop:=λ{H cs ds i} S h hi=>by
  rw [xS] at hi;obtain ⟨vs,q,hl,_⟩:=s S h.1;obtain ⟨ws,q2,Mq,_⟩:=s2 S h.2.2;exact ⟨vs,ws,q,q2,by omega⟩
 yld:=λ{H H' cs ds i x v} S h hx y=>by
  obtain ⟨x0,y0,Mi,hy0,rfl⟩:=Vz hx;obtain ⟨p,u,u2,hu,SI,hp,rfl,rfl⟩:=y;obtain ⟨vs,q,hl,z⟩:=s S h.1;obtain ⟨w,hw,S'⟩:=z i x0 Mi;obtain ⟨ws,q2,Mq,z2⟩:=s2 S' (h.2.1 _ _ h.2.2);obtain ⟨w2,hw2,S''⟩:=z2 i y0 hy0;have:=hu vs q;rw [hw] at this;cases this;have:=SI ws q2;rw [hw2] at this;cases this;refine ⟨zL.new hp _,(S''.newT hp (xs:=[x0,y0]) (vs:=[u,u2]) (.cons (.mem (Qd _ (Qb ..))) (.cons (.mem (Qb ..)) .nil))).dat λr hr=> .mem ?_⟩
  rcases Ql.mp hr with rfl|hr
  ·exact Qb ..
  ·exact Qd _ (Qd _ (Qd _ hr))
def kIL (K:PySem.W.Frag) (R:It->Hp->Prop):VK:=λx H1=>∃a,x= .ref a/\(∃xs,SqL K H1 a xs)/\R (Itl K a) H1
def kIT (K:PySem.W.Frag) (R:It->Hp->Prop):VK:=λx H1=>∃a,x= .ref a/\(∃xs,SqT K H1 a xs)/\R (Itt K a) H1
def kR1 (R:It->Hp->Prop):List V->Hp->Prop:=λvs H1=>∃j:Int,vs=[.int j]/\ -(2 ^ 62)<=j/\j<2 ^ 62/\R (Itr 0 j.toNat) H1
def kR2 (R:It->Hp->Prop):List V->Hp->Prop:=λvs H1=>∃i j:Int,vs=[.int i, .int j]/\(-(2 ^ 62)<=i/\i<2 ^ 62/\ -(2 ^ 62)<=j/\j<2 ^ 62)/\R (Itr i (j - i).toNat) H1
def kEn (b:Bool) (K:PySem.W.Frag) (R:It->Hp->Prop):List V->Hp->Prop:=λvs H1=>∃a,vs=[.ref a]/\(∃xs,SqB b K H1 a xs)/\R (ItE b K a) H1
def kZi (b c:Bool) (K:PySem.W.Frag) (R:It->Hp->Prop):List V->Hp->Prop:=λvs H1=>∃a1 a2,vs=[.ref a1, .ref a2]/\(∃xs,SqB b K H1 a1 xs)/\(∃ys,SqB c K H1 a2 ys)/\R (ItZ b c K a1 a2) H1
section
variable {σ:L2.St} {R:It->Hp->Prop} {tl:TE} {ta:TA}
theorem rd_iList (h:tl σ H (kIL K R)):iList K tl σ H R:=h
theorem rd_iTup (h:tl σ H (kIT K R)):iTup K tl σ H R:=h
theorem rd_iR1 (h:ta σ H (kR1 R)):iRng1 ta σ H R:=h
theorem rd_iR2 (h:ta σ H (kR2 R)):iRng2 ta σ H R:=h
theorem rd_iEn (h:ta σ H (kEn b K R)):iEnum b K ta σ H R:=h
theorem rd_iZi (h:ta σ H (kZi b c K R)):iZip b c K ta σ H R:=h
theorem rd_kR1 {j:Int} (B G0:Hp) (h1: -1000<=j) (h2:j<=1000000) (k:∀J,Wk B G0 J (dP 0 j.toNat) (λ_ _=>True)->R J H):kR1 R [.int j] H:=⟨j,rfl,by omega,by omega,k _ sP⟩
theorem rd_kR2 {i j:Int} (B G0:Hp) (h1: -1000<=i/\i<=1000000) (h2: -1000<=j/\j<=1000000) (k:∀J,Wk B G0 J (dP i (j - i).toNat) (λ_ _=>True)->R J H):kR2 R [.int i, .int j] H:=⟨i,j,rfl,⟨by omega,by omega,by omega,by omega⟩,k _ sP⟩
end
def kGT (K:PySem.W.Frag) (n:Nat) (t:TGs) (σ:L2.St) (N:L2.St->Hp->Prop):VK:=λv H=>∃a xs,v= .ref a/\SqT K H a xs/\xs.length=n/\t xs σ H N
theorem xX {n:Nat} {t:TGs} {σ:L2.St} {N:L2.St->Hp->Prop} (h:kGT K n t σ N v H):gTup K n t v σ H N:=h
theorem rd_kGT {n:Nat} {t:TGs} {σ:L2.St} {N:L2.St->Hp->Prop} (S:Sta B G0 H cs ds) (h:Has ds (.tuple xs) v) (hn:xs.length=n) (k:∀vs,xs.length=vs.length->Sta B G0 H cs (xs.zip vs++ds)->t vs σ H N):kGT K n t σ N v H:=by
 obtain ⟨p,vs,rfl,hp,hl,S',_⟩:=S.tupAll h;exact ⟨p,vs,rfl,SqT.of hp,by omega,k vs hl S'⟩
theorem xW {t:TGs} {σ:L2.St} {N:L2.St->Hp->Prop} {x y:PyData} (S:Sta B G0 H cs ds) (h:Has ds (.tuple [x,y]) v) (k:∀w1 w2,Sta B G0 H cs ((x,w1)::(y,w2)::ds)->t [w1,w2] σ H N):kGT K 2 t σ N v H:=by
 refine rd_kGT S h rfl λvs hl S'=>?_
 rcases vs with _|⟨w1,_|⟨w2,_|⟨w3,vs⟩⟩⟩<;>try cases hl
 exact k w1 w2 S'
theorem xI {t:TG} {u:TGs} {σ:L2.St} {N:L2.St->Hp->Prop} {vs:List V} (h:t v σ H λσ' H'=>u vs σ' H' N):gCons t u (v::vs) σ H N:=⟨v,vs,rfl,h⟩
theorem ah {σ:L2.St} {N:L2.St->Hp->Prop} (h:N σ H):gNil [] σ H N:=⟨rfl,h⟩
def kFor (g:TG) (tb:TS) (D:Ends) (σ:L2.St):It->Hp->Prop:=λJ H1=>∃W:Nat->Nat->L2.St->Hp->Prop,(∃m,W 0 m σ H1)/\∀i m σ H,W i m σ H->
 (J.stop i H/\D.nx σ H)\/(J.go i H/\∃N:L2.St->Hp->Prop,(∀σ' H',N σ' H'->∃m',m'<m/\W (i+1) m' σ' H')/\∀x H',J.yld i H x H'->g x σ H' λσ2 H2=>tb {D with nx:=N,ct:=N,bk:=D.nx} σ2 H2)
theorem rd_for {wi:TI} {g:TG} {tb:TS} {D:Ends} {σ:L2.St} (h:wi σ H (kFor g tb D σ)):tFor wi g tb D σ H:=h
def AtP (B G0:Hp) (Pv:L2.St->yk->Dat->Prop):L2.St->Hp->Prop:=λσ H=>∃cs ds,Sta B G0 H cs ds/\Pv σ cs ds
theorem xR {Pv:L2.St->yk->Dat->Prop} {σ:L2.St} (S:Sta B G0 H cs ds) (h:Pv σ cs ds):AtP B G0 Pv σ H:=⟨cs,ds,S,h⟩
theorem Yd {J:It} {g:TG} {tb:TS} {D:Ends} {σ:L2.St} (w:Wk B G0 J xs P) (Pv:Nat->L2.St->yk->Dat->Prop) (S:Sta B G0 H cs ds) (h0:Pv 0 σ cs ds) (hP:∀i σ cs ds,Pv i σ cs ds->P cs ds)
 (hs:∀(i:Nat) (x:PyData) (v:V) (σ:L2.St) (H:Hp) (cs:yk) (ds:Dat),xs[i]? =some x->Pv i σ cs ds->Sta B G0 H cs ((x,v)::ds)->g v σ H λσ2 H2=>tb (mkL D (AtP B G0 (Pv (i+1)))) σ2 H2)
 (hd:∀(σ:L2.St) (H:Hp) (cs:yk) (ds:Dat),Pv xs.length σ cs ds->Sta B G0 H cs ds->D.nx σ H):kFor g tb D σ J H:=by
 refine ⟨λi m σ H=>m=xs.length - i/\i<=xs.length/\AtP B G0 (Pv i) σ H,⟨xs.length,by simp,TH _,cs,ds,S,h0⟩,?_⟩
 rintro i m σ H ⟨rfl,hi,cs,ds,S,p⟩
 by_cases LS:i<xs.length
 ·refine .inr ⟨w.go S (hP _ _ _ _ p) LS,AtP B G0 (Pv (i+1)),λσ' H' p'=>⟨xs.length - (i+1),by omega,rfl,LS,p'⟩,λx H' y=>?_⟩;exact hs i _ x σ H' cs ds (Qc LS) p (w.yld S (hP _ _ _ _ p) (Qc LS) y).2
 ·have e:i=xs.length:=by omega
  subst e;exact .inl ⟨w.stop S (hP _ _ _ _ p) (Qp _),hd σ H cs ds p S⟩
def WP (B G0:Hp) (Pv:Nat->L2.St->yk->Dat->Prop):Nat->L2.St->Hp->Prop:=λm σ H=>AtP B G0 (Pv m) σ H
def kWh (W:Nat->L2.St->Hp->Prop) (tb:TS) (D:Ends) (m:Nat) (σ:L2.St):Bool->Hp->Prop:=λb H1=>if b=true then ∃N:L2.St->Hp->Prop,(∀σ' H',N σ' H'->∃m',m'<m/\W m' σ' H')/\tb {D with nx:=N,ct:=N,bk:=D.nx} σ H1 else D.nx σ H1
theorem qB {tb:TS} {D:Ends} {m:Nat} {σ:L2.St} {b:Bool} {W:Nat->L2.St->Hp->Prop} (h1:b=true->tb (mkL D (λσ' H'=>∃m',m'<m/\W m' σ' H')) σ H)
 (h2:b=false->D.nx σ H):kWh W tb D m σ b H:=by
 cases b with
 |true=>exact ⟨_,λσ' H' q=>q,h1 rfl⟩
 |false=>exact h2 rfl
theorem jy {c:TT} {tb:TS} {D:Ends} {σ:L2.St} (W:Nat->L2.St->Hp->Prop) (m:Nat) (h0:W m σ H) (hs:∀(m:Nat) (σ:L2.St) (H:Hp),W m σ H->c σ H (kWh W tb D m σ)):Ao c tb D σ H:=⟨W,⟨m,h0⟩,hs⟩
theorem mE {c:TT} {tb:TS} {D:Ends} {σ:L2.St} (Pv:Nat->L2.St->yk->Dat->Prop) (m:Nat) (S:Sta B G0 H cs ds) (h0:Pv m σ cs ds)
 (hs:∀(m:Nat) (σ:L2.St) (H:Hp) (cs:yk) (ds:Dat),Pv m σ cs ds->Sta B G0 H cs ds->c σ H (kWh (WP B G0 Pv) tb D m σ)):Ao c tb D σ H:=
 ⟨WP B G0 Pv,⟨m,cs,ds,S,h0⟩,λm σ H ⟨cs,ds,S,p⟩=>hs m σ H cs ds p S⟩
def Gq (n:Nat) (fr:List Nat) (g:Blk TG) (tt:Blk TT) (te:Blk TE) (σ:L2.St) (Q:VK):It->Hp->Prop:=λJ H1=>∀D,H1 D=none->∀C ex s0 H0,
 ∃W:Nat->Nat->List V->Hp->Prop,(∃m,W 0 m [] (upd H1 D (.lst [])))/\∀i m ys H2,W i m ys H2->H2 D=some (.lst ys)/\
  ((J.stop i H2/\Q (.ref D) H2)\/(J.go i H2/\∀x H3,J.yld i H2 x H3->g C ex s0 H0 x (List.replicate n none++frσ σ fr) H3 λσ4 H4=>σ4.drop n=frσ σ fr/\tt C ex s0 H0 σ4 H4 λb H5=>
    if b=true then te C ex s0 H0 σ4 H5 λy H6=>H6 D=some (.lst ys)/\ys.length<sizeLine/\∃m',m'<m/\W (i+1) m' (ys++[y]) (upd H6 D (.lst (ys++[y])))
    else ∃m',m'<m/\W (i+1) m' ys H5))
theorem rd_comp {n:Nat} {fr:List Nat} {wi:TI} {g:Blk TG} {tt:Blk TT} {te:Blk TE} {σ:L2.St} {Q:VK} (h:wi σ H (Gq n fr g tt te σ Q)):uW n fr wi g tt te σ H Q:=h
structure Turn1 (B G0:Hp) (cs:yk) (B' G':Hp):Prop where
 b:zL B B'
 ro:∀c∈cs,Ro B' G' c.1 c.2
 old:∀{L:Addr} {xs:List PyData},Ro B G0 L xs->Ro B' G' L xs
theorem lH {J:It} {n:Nat} {fr:List Nat} {g:Blk TG} {tt:Blk TT} {te:Blk TE} {σ:L2.St} {Q:VK} (w:Wk B G0 J xs P) (f:Nat->Option PyData) (S:Sta B G0 H cs ds) (OG:∀D ys,P ((D,ys)::cs) ds) (hn:xs.length<=1000)
 (hs:∀(i:Nat) (x:PyData) (v:V) (B' G':Hp) (Kd:VK) (Kn:Hp->Prop),xs[i]? =some x->Turn1 B G0 cs B' G'->Sta B' G' B' [] ((x,v)::ds)->
  (∀{z:PyData} {y:V} {H6:Hp} {cs':yk} {ds':Dat},f i=some z->Sta B' G' H6 cs' ds'->Has ds' z y->Kd y H6)->(∀{H5:Hp} {cs':yk} {ds':Dat},f i=none->Sta B' G' H5 cs' ds'->Kn H5)->
  ∀C ex s0 H0,g C ex s0 H0 v (List.replicate n none++frσ σ fr) B' λσ4 H4=>σ4.drop n=frσ σ fr/\tt C ex s0 H0 σ4 H4 λb H5=>if b=true then te C ex s0 H0 σ4 H5 Kd else Kn H5)
 (k:∀D H',zL H H'->Sta B G0 H' ((D,(List.range xs.length).filterMap f)::cs) ds->Q (.ref D) H'):Gq n fr g tt te σ Q J H:=by
 intro D hD C ex s0 H0;have len:∀i,((List.range i).filterMap f).length<=i:=λi=>QI (jba _ _) (by rw [jbu];exact Qp _);refine ⟨λi m ys H2=>m=xs.length - i/\i<=xs.length/\H2 D=some (.lst ys)/\zL H H2/\Sta B G0 H2 ((D,(List.range i).filterMap f)::cs) ds,⟨xs.length,by simp,TH _,zZ,zL.new hD _,S.newL hD .nil⟩,?_⟩
 rintro i m ys H2 ⟨rfl,hi,RT,hS,S2⟩
 refine ⟨RT,?_⟩
 by_cases LS:i<xs.length
 ·refine .inr ⟨w.go S2 (OG _ _) LS,λv H3 y=>?_⟩;obtain ⟨e3,G3,S3⟩:=w.yld S2 (OG _ _) (Qc LS) y;obtain ⟨a,b,c,d,e,f',g'⟩:=id S3;have h3D:H3 D=some (.lst ys):=e3 _ _ RT
  have t1:Turn1 B G0 cs H3 G3:=by
   refine ⟨c,λq hq=>?_,λ{L zs} ⟨r1,vs,r2,r3⟩=>?_⟩
   ·obtain ⟨_,y',vs,z',u'⟩:=e q (Qd _ hq);exact ⟨y',vs,z',u'⟩
   ·exact ⟨by rw [d L (by rw [r2];simp)];exact r1,vs,c _ _ r2,zC.mono a _ _ r3⟩
  have up:∀{H6:Hp} {cs':yk} {ds':Dat} {o:HO},zL H H3->H D=none->zL H H6->zL H (upd H6 D o):=λ{H6 cs' ds' o} _ hn h q u hq=>by
   rw [zR (zW hq hn)];exact h _ _ hq
  refine hs i _ v H3 G3 _ _ (Qc LS) t1 (Sta.enter b g') ?_ ?_ C ex s0 H0
  ·intro z y6 H6 cs' ds' fz S6 hz;obtain ⟨G6,gr,al⟩:=S6.leave;have h6D:H6 D=some (.lst ys):=gr.h _ _ h3D;have S6':Kq B G0 H6 ((D,(List.range i).filterMap f)::cs) ((xs[i],v)::ds) G6:=S3.grow gr
   have S7:Sta B G0 H6 ((D,(List.range i).filterMap f)::cs) ((z,y6)::ds):=by
    obtain ⟨a',b',c',d',e',f'',g''⟩:=S6';exact ⟨G6,a',b',c',d',e',f'',Yh.cons (λp hp=>g'' p (Qd _ hp)) (hz G6 al)⟩
   obtain ⟨vs,hv,hl,put⟩:=S7.put;rw [h6D] at hv;cases hv;refine ⟨h6D,YL (by have:=len i;omega),xs.length - (i+1),by omega,rfl,LS,zZ,up (cs':=cs') (ds':=ds') (hS.trans e3) hD ((hS.trans e3).trans gr.h),?_⟩
   have er:(List.range (i+1)).filterMap f=(List.range i).filterMap f++[z]:=by
    rw [List.range_succ,List.filterMap_append];simp [fz]
   rw [er];exact (put _ _ λG a u=>u.app (by rw [zC];exact ⟨y6,[],rfl,a _ (Qb ..),by rw [zC]⟩)).drop1
  ·intro H5 cs' ds' fz S5;obtain ⟨G5,gr,al⟩:=S5.leave;have S5':Sta B G0 H5 ((D,(List.range i).filterMap f)::cs) ((xs[i],v)::ds):=⟨G5,S3.grow gr⟩
   have er:(List.range (i+1)).filterMap f=(List.range i).filterMap f:=by
    rw [List.range_succ,List.filterMap_append];simp [fz]
   exact ⟨xs.length - (i+1),by omega,rfl,LS,gr.h _ _ h3D,(hS.trans e3).trans gr.h,by rw [er];exact S5'.drop1⟩
 ·have e:i=xs.length:=by omega
  subst e;exact .inl ⟨w.stop S2 (OG _ _) (Qp _),k D H2 hS S2⟩
theorem Kb {α β:Type} (g:α->β) (l:List α):l.filterMap (λi=>some (g i))=l.map g:=by
 induction l with
 |nil=>rfl
 |cons a l ih=>simp [ih]
theorem xB {J:It} {n:Nat} {fr:List Nat} {g:Blk TG} {tt:Blk TT} {te:Blk TE} {σ:L2.St} {Q:VK} (w:Wk B G0 J xs P) (f:Nat->PyData) (hy:(List.range xs.length).map f=ys) (S:Sta B G0 H cs ds) (OG:∀D ys,P ((D,ys)::cs) ds) (hn:xs.length<=1000)
 (hs:∀(i:Nat) (x:PyData) (v:V) (B' G':Hp) (Kd:VK) (Kn:Hp->Prop),xs[i]? =some x->Turn1 B G0 cs B' G'->Sta B' G' B' [] ((x,v)::ds)->
  (∀{y:V} {H6:Hp} {cs':yk} {ds':Dat},Sta B' G' H6 cs' ds'->Has ds' (f i) y->Kd y H6)->
  ∀C ex s0 H0,g C ex s0 H0 v (List.replicate n none++frσ σ fr) B' λσ4 H4=>σ4.drop n=frσ σ fr/\tt C ex s0 H0 σ4 H4 λb H5=>if b=true then te C ex s0 H0 σ4 H5 Kd else Kn H5)
 (k:∀D H',zL H H'->Sta B G0 H' ((D,ys)::cs) ds->Q (.ref D) H'):Gq n fr g tt te σ Q J H:=by
 refine lH w (λi=>some (f i)) S OG hn (λi x v B' G' Kd Kn hx t1 S' hd _=>hs i x v B' G' Kd Kn hx t1 S' λ{y H6 cs' ds'} a b=>hd rfl a b) λD H' e S'=>k D H' e ?_;rw [Kb,hy] at S';exact S'
theorem yq {R:It->Hp->Prop} (S:Sta B G0 H cs ds) (h:Has ds (.list xs) v) (k:∀J,Wk B G0 J xs (λ_ ds=>Has ds (.list xs) v)->R J H):kIL K R v H:=by
 obtain ⟨p,vs,rfl,hp,_⟩:=S.lst h;exact ⟨p,rfl,⟨_,SqL.of hp⟩,k _ (Ah cf)⟩
theorem qG {R:It->Hp->Prop} (S:Sta B G0 H cs ds) (h:Has ds (.tuple xs) v) (k:∀J,Wk B G0 J xs (λ_ ds=>Has ds (.tuple xs) v)->R J H):kIT K R v H:=by
 obtain ⟨p,vs,rfl,hp,_⟩:=S.tup h;exact ⟨p,rfl,⟨_,SqT.of hp⟩,k _ (wk_tup cX)⟩
theorem Bx {R:It->Hp->Prop} {L:Addr} (S:Sta B G0 H cs ds) (h:(L,xs)∈cs) (k:∀J,Wk B G0 J xs (λcs _=>(L,xs)∈cs)->R J H):kIL K R (.ref L) H:=by
 obtain ⟨vs,hp,_⟩:=S.cell h;exact ⟨L,rfl,⟨_,SqL.of hp⟩,k _ (Ah EH)⟩
theorem Bz {R:It->Hp->Prop} (S:Sta B G0 H cs ds) (h:Has ds (.tuple xs) v) (k:∀J,Wk B G0 J (rH xs) (λ_ ds=>Has ds (.tuple xs) v)->R J H):kEn false K R [v] H:=by
 obtain ⟨p,vs,rfl,hp,_⟩:=S.tup h;exact ⟨p,rfl,⟨_,SqT.of hp⟩,k _ (Ai cX)⟩
theorem kF {R:It->Hp->Prop} (S:Sta B G0 H cs ds) (h:Has ds (.list xs) v) (k:∀J,Wk B G0 J (rH xs) (λ_ ds=>Has ds (.list xs) v)->R J H):kEn true K R [v] H:=by
 obtain ⟨p,vs,rfl,hp,_⟩:=S.lst h;exact ⟨p,rfl,⟨_,SqL.of hp⟩,k _ (Ai cf)⟩
theorem cw {R:It->Hp->Prop} {w:V} (S:Sta B G0 H cs ds) (h:Has ds (.tuple xs) v) (h2:Has ds (.tuple ys) w) (k:∀J,Wk B G0 J (ID xs ys) (λcs ds=>Has ds (.tuple xs) v/\(∀x u,Has ds (.tuple ys) w->Has ((x,u)::ds) (.tuple ys) w)/\Has ds (.tuple ys) w)->R J H):kZi false false K R [v,w] H:=by
 obtain ⟨p,vs,rfl,hp,_⟩:=S.tup h;obtain ⟨q,ws,rfl,hq,_⟩:=S.tup h2;exact ⟨p,q,rfl,⟨_,SqT.of hp⟩,⟨_,SqT.of hq⟩,k _ (Hx cX cX)⟩
theorem Sta.refL (S:Sta B G0 H cs ds) (h:Has ds (.list xs) v):∃a,v= .ref a:=by
 obtain ⟨p,_,e,_⟩:=S.lst h;exact ⟨p,e⟩
section
variable {α:Type}
def spT (enc:α->List PyData) (dom:α->Prop) (res:α->PyData):Sp:=λvs H Q _=>∃(G:Hp) (a:α),zL G H/\zC G (enc a) vs/\dom a/\∀v H' G',Grow G H G' H'->Is G' (res a) v->Q v H'
def spL (enc:α->List PyData) (dom:α->Prop) (res:α->List PyData):Sp:=λvs H Q _=>∃(G:Hp) (a:α),zL G H/\zC G (enc a) vs/\dom a/\∀p H' G' us,Grow G H G' H'->H p=none->G' p=none->H' p=some (.lst us)->zC G' (res a) us->Q (.ref p) H'
def spB (enc:α->List PyData) (dom:α->Prop) (res:α->V):Sp:=λvs H Q _=>∃(a:α),zC H (enc a) vs/\dom a/\∀H',zL H H'->Q (res a) H'
variable {enc:α->List PyData} {dom:α->Prop} {res:α->PyData} {resL:α->List PyData} {resB:α->V} {Q:VK} {E:XK} {vs:List V}
theorem Zw (a:α) (S:Sta B G0 H cs ds) (hx:zV ds (enc a) vs) (hd:dom a) (k:∀v H',zL H H'->Sta B G0 H' cs ((res a,v)::ds)->Q v H'):spT enc dom res vs H Q E:=by
 obtain ⟨G,S⟩:=S;refine ⟨G,a,S.2.1,hx G S.2.2.2.2.2.2,hd,λv H' G' gr hv=>k v H' gr.h ?_⟩;obtain ⟨a',b',c',d',e',f',g'⟩:=S.grow gr;exact ⟨G',a',b',c',d',e',f',g'.cons hv⟩
theorem Zd (a:α) (S:Sta B G0 H cs ds) (hx:zV ds (enc a) vs) (hd:dom a) (k:∀p H',zL H H'->Sta B G0 H' ((p,resL a)::cs) ds->Q (.ref p) H'):spL enc dom resL vs H Q E:=by
 obtain ⟨G,S⟩:=S;refine ⟨G,a,S.2.1,hx G S.2.2.2.2.2.2,hd,λp H' G' us gr hp hg hu hv=>k p H' gr.h ?_⟩;have hc:=S.2.2.1.free hp;obtain ⟨_,_,_,_,e0,_,_⟩:=id S;obtain ⟨a',b',c',d',e',f',g'⟩:=S.grow gr;refine ⟨G',a',b',c',d',λq hq=>?_,?_,g'⟩
 ·rcases Ql.mp hq with rfl|hq
  ·exact ⟨hc,hg,us,hu,hv⟩
  ·exact e' q hq
 ·rw [Qn,TK];refine ⟨λz=>?_,f'⟩;obtain ⟨q,hq,Md⟩:=Qj.mp z;obtain ⟨_,_,ws,z,_⟩:=e0 q hq;rw [Md,hp] at z;cases z
theorem nB (a:α) (hx:zC H (enc a) vs) (hd:dom a) (k:∀H',zL H H'->Q (resB a) H'):spB enc dom resB vs H Q E:=⟨a,hx,hd,k⟩
theorem Sta.hpAll (S:Sta B G0 H cs ds) {xs:List PyData} (h:zV ds xs vs):zC H xs vs:=by
 obtain ⟨G,a,b,c,d,e,f,g⟩:=S;exact zC.mono b _ _ (h G g)
theorem ZJ {G H':Hp} {r:PyData} {v:V} (S:Sta H G H' cs ds) (k:∀v H' G',Grow G H G' H'->Is G' r v->Q v H') (h:Has ds r v):Q v H':=by
 obtain ⟨G',gr,al⟩:=S.leave;exact k v H' G' gr (h G' al)
theorem xD {G H':Hp} {r:List PyData} {p:Addr} (S:Sta H G H' ((p,r)::cs) ds) (k:∀p H' G' us,Grow G H G' H'->H p=none->G' p=none->H' p=some (.lst us)->zC G' r us->Q (.ref p) H'):Q (.ref p) H':=by
 obtain ⟨G',a,b,c,d,e,f,g⟩:=S;obtain ⟨x,y,us,z,u⟩:=e _ (Qb ..);exact k p H' G' us ⟨c,a,b,d⟩ x y z u
theorem qy {G H':Hp} {r:V} (S:Sta H G H' cs ds) (k:∀H',zL H H'->Q r H'):Q r H':=k H' S.base
theorem Yq {G:Hp} {x:PyData} {vs:List V} (h:zC G [x] vs):∃v,vs=[v]/\Yh G [(x,v)]:=by
 simp only [zC] at h;obtain ⟨v,_,rfl,h1,rfl⟩:=h;exact ⟨v,rfl,λp hp=>by simp at hp;subst hp;exact h1⟩
theorem yT {G:Hp} {x y:PyData} {vs:List V} (h:zC G [x,y] vs):∃v w,vs=[v,w]/\Yh G [(x,v),(y,w)]:=by
 simp only [zC] at h;obtain ⟨v,_,rfl,h1,w,_,rfl,h2,rfl⟩:=h;exact ⟨v,w,rfl,λp hp=>by simp at hp;rcases hp with rfl|rfl<;>assumption⟩
theorem XO {G:Hp} {x y z:PyData} {vs:List V} (h:zC G [x,y,z] vs):∃v w u,vs=[v,w,u]/\Yh G [(x,v),(y,w),(z,u)]:=by
 simp only [zC] at h;obtain ⟨v,_,rfl,h1,w,_,rfl,h2,u,_,rfl,h3,rfl⟩:=h;exact ⟨v,w,u,rfl,λp hp=>by simp at hp;rcases hp with rfl|rfl|rfl<;>assumption⟩
theorem Is.int_of {G:Hp} {i:Int} {v:V} (h:Is G (.int i) v):v= .int i:=by rw [Is] at h;exact h
end
end
theorem vM {M:Model} {A:Around} {E:Value->Shared->Prop} {s:Shared} {scope:Scope} {globals:Addr} {closure:List (Str×Addr)} {qual y:Str} {func:Option Addr} {code:Value} {env:Env} {builtins:Addr} {Q:Env->Shared->Prop}
 (one:∀n acc,cellsFrom n scope.names acc=(y,n)::acc) (push:∀h,pushCells h scope.names=h.push {cls:= .type "cell",data:= .cell none})
 (hQ:Q (newEnv scope s.heap.objs.size globals ((y,s.heap.objs.size+1)::closure) qual func code (some env) builtins) {s with heap:=(s.heap.push {cls:= .type "dict",data:= .dict #[]}).push {cls:= .type "cell",data:= .cell none}}):
 wpAny M A (newFunctionEnv scope globals closure [] qual func code (some env) builtins) Q E s:=by
 simp only [newFunctionEnv,Option.isSome_some,if_true];refine Qg (wpAny_alloc ?_);refine Qg (wpAny_layCells _ (λname kind cells=>by cases hkc:kind==NameKind.cell<;>simp [hkc]) _ _ _ _ ?_);rw [one,push,show ({s with heap:=s.heap.push {cls:= .type "dict",data:= .dict #[]}}:Shared).heap.objs.size=s.heap.objs.size+1 from QU ..];refine Qg ?_;rw [List.forIn_nil];exact Qm (Qm hQ)
def YH (X:Cx) (N:List Str) (scope:Scope) (y:Str) (C:Addr) (ex:List Addr) (s:Shared) (H:Hp):Cx where
 prog:=X.prog
 w:=X.w
 K:=X.K
 mg:=X.mg
 base:=X.base
 A:=X.A
 N:=N
 s₀:=s
 H₀:=H
 env:=compEnvC scope ((y,C+1)::yP X.env.cells scope.names []) C X.env
 outer:=X.stack
 stack:=X.stack
 ex:=ex
 fn:=λx=>x==y
 calm:=X.calm
 pn:=[]
 xe:=λ_ _=>False
structure CompOk1 (X:Cx) (N:List Str) (n:Nat) (fr:List Nat) (scope:Scope) (y:Str):Prop where
 kind:scope.kind= .function
 nd:N.Nodup
 names:(N.drop n)=fr.map (λj=>(X.N[j]?).getD ("":Str))
 own:n<=N.length
 inx:(fr.all λj=>decide (j<X.N.length))=true
 free:((N.drop n).all λx=>decide (scope.names.lookup x=some .free))=true
 one:∀n acc,cellsFrom n scope.names acc=(y,n)::acc
 push:∀h,pushCells h scope.names=h.push {cls:= .type "cell",data:= .cell none}
 oth:(scope.names.all λz=>decide (z.2= .cell->z.1=y))=true
 yfree:(scope.names.all λz=>decide (z.2= .free->z.1≠y))=true
 loc:(scope.names.all λy=>decide (y.2= .local->scope.names.lookup y.1=some .local))=true
 seen:(scope.names.all λy=>decide (y.2= .free->(X.env.kindOf y.1=some .cell\/X.env.kindOf y.1=some .free)))=true
theorem Vk {scope:Scope} {env:Env} {x y:Str} {k:NameKind} (h:(relabel scope env).names.lookup x=some k) (hk:k= .cell\/k= .free) (hc:(scope.names.all λz=>decide (z.2= .cell->z.1=y))=true):x=y\/(x,NameKind.free)∈scope.names:=by
 unfold relabel at h;dsimp only at h
 have key:∀names:List (Str×NameKind),(names.all λz=>decide (z.2= .cell->z.1=y))=true->
  (names.map λ(n,k)=>if (k==NameKind.free && env.scope.kind== .function && env.kindOf n==some .cell)=true then (n,NameKind.cell) else (n,k)).lookup x=some k->x=y\/(x,NameKind.free)∈names:=by
  intro names
  induction names with
  |nil=>intro _ h;simp at h
  |cons z r ih=>
   intro ha h;obtain ⟨n,j⟩:=z;rw [List.all_cons,Tr] at ha;rw [Qn] at h;have e1:∀(b:Bool) (k1:NameKind),((if b=true then (n,NameKind.cell) else (n,k1)):Str×NameKind)=(n,if b=true then NameKind.cell else k1):=by intro b k1;cases b<;>rfl
   dsimp only at h;rw [e1,jaJ] at h
   cases hx:x==n with
   |false=>
    rw [hx] at h;exact (ih ha.2 h).imp id (Qd _)
   |true=>
    rw [hx] at h;have e:x=n:=by simpa using hx
    subst e;have h':=Qz h;have hj:j= .cell->x=y:=QG ha.1
    cases hb:(j==NameKind.free && env.scope.kind== .function && env.kindOf x==some .cell) with
    |true=>
     rw [Tr,Tr] at hb;have:j= .free:=by simpa using hb.1.1
     subst this;exact .inr (Qb ..)
    |false=>
     rw [hb] at h';simp only [jbH,if_false] at h';subst h'
     rcases hk with z|z
     ·exact .inl (hj z)
     ·subst z;exact .inr (Qb ..)
 exact key _ hc h
section
variable {X:Cx} {N:List Str} {n:Nat} {fr:List Nat} {scope:Scope} {pins:List (Addr×Obj)} {σ:L2.St} {H:Hp} {s:Shared} {y:Str}
theorem CompOk1.cells (O:CompOk1 X N n fr scope y) (I:Inv X pins σ H s):∀y∈scope.names,y.2= .free->∃c,X.env.cells.lookup y.1=some c:=λy hy hf=>I.ok.has y.1 (QG (TC.mp O.seen y hy) hf)
theorem cz {y x:Str} {a:Addr} {l:List (Str×Addr)}:((y,a)::l).lookup x=if x=y then some a else l.lookup x:=by
 rw [jaJ]
 cases h:x==y with
 |true=>rw [QH (by simpa using h)]
 |false=>rw [QP (by simpa using h)]
theorem rP {fp:List Addr} {h':Heap} {tk:Nat} {m:Str->Option Value} (O:CompOk1 X N n fr scope y) (I:Inv X pins σ H s) (hf:∀b∈fp,sG X pins H b) (RK:∀b∈fp,b<s.heap.objs.size)
 (Nn:h'.Ns s.heap.objs.size m) (hcl1:h'.IsCell (s.heap.objs.size+1) none) (keep:∀b o,s.heap.get? b=some o->h'.get? b=some o):
 Inv (YH X N scope y s.heap.objs.size fp s H) [] (List.replicate n none++frσ σ fr) H {s with heap:=h',toks:=tk}:=by
 have NH:=O.cells I;have lk:∀x c,(yP X.env.cells scope.names []).lookup x=some c->X.env.cells.lookup x=some c:=λx c h=>XF NH (λc h=>by simp at h) h;have cne:∀x c,(yP X.env.cells scope.names []).lookup x=some c->∃v,s.heap.IsCell c v:=λx c h=>I.cell x c (lk x c h)
 have clt:∀x c,(yP X.env.cells scope.names []).lookup x=some c->c<s.heap.objs.size:=λx c h=>by
  obtain ⟨v,o,ho,_⟩:=cne x c h;exact Qt ho
 have cases1:∀x c,((y,s.heap.objs.size+1)::yP X.env.cells scope.names []).lookup x=some c->(x=y/\c=s.heap.objs.size+1)\/(yP X.env.cells scope.names []).lookup x=some c:=λx c h=>by
  rw [cz] at h
  by_cases e:x=y
  ·rw [QH e] at h;exact .inl ⟨e,(Qz h).symm⟩
  ·rw [QP e] at h;exact .inr h
 have injY:∀x x' c,((y,s.heap.objs.size+1)::yP X.env.cells scope.names []).lookup x=some c->((y,s.heap.objs.size+1)::yP X.env.cells scope.names []).lookup x'=some c->x=x':=λx x' c h1 h2=>by
  rcases cases1 x c h1 with ⟨a,b⟩|a
  ·rcases cases1 x' c h2 with ⟨a',_⟩|a'
   ·rw [a,a']
   ·have:=clt x' c a';rw [b] at this;exact absurd (Nat.lt_trans (Th _) this) (jaw _)
  ·rcases cases1 x' c h2 with ⟨_,b⟩|a'
   ·have:=clt x c a;rw [b] at this;exact absurd (Nat.lt_trans (Th _) this) (jaw _)
   ·exact I.ok.inj x x' c (lk x c a) (lk x' c a')
 have cabY:∀x c,(x==y)=true->((y,s.heap.objs.size+1)::yP X.env.cells scope.names []).lookup x=some c->s.heap.objs.size<=c:=λx c hx h=>by
  rcases cases1 x c h with ⟨_,b⟩|a
  ·rw [b];exact jal _
  ·rw [cz,QH (by simpa using hx)] at h;cases h;exact jal _
 refine ⟨⟨I.mod,O.kind,I.ok.glob,I.ok.blt,Qp _,injY,λx hx=>?_,cabY,I.ok.hd,I.ok.frames, .inl rfl,λb hb=>⟨QM (RK b hb),λx c h=>by
  rcases cases1 x c h with ⟨_,z⟩|z
  ·rw [z];exact λe=>absurd (RK b hb) (by rw [<-e];exact Nat.not_lt.mpr (jal _))
  ·exact (hf b hb).2.2.2.2.1 x c (lk x c z)⟩,I.bs,QI I.ok.bsz I.sz,λb o e hb=>?_,λb hb z=>?_,I.stack,I.stkFree⟩,
  rfl,I.bare,Un.kept keep,⟨m,Nn,λi x v h1 h2 h3=>?_⟩,λx c h=>?_,I.hok.fresh (Qp _),λx c h=>by
   rcases cases1 x c h with ⟨_,z⟩|z
   ·rw [z];exact I.hok.fresh (jal _)
   ·exact I.freeC x c (lk x c z),λp hp=>absurd hp (by simp [YH]),I.hok.kept keep,?_⟩
 ·have Mj:x=y\/(x,NameKind.free)∈scope.names:=by
   rcases hx with hx|hx
   ·exact Vk hx (.inl rfl) O.oth
   ·exact Vk hx (.inr rfl) O.oth
  show ∃c,((y,s.heap.objs.size+1)::yP X.env.cells scope.names []).lookup x=some c;rw [cz]
  by_cases e:x=y
  ·exact ⟨_,QH e⟩
  ·rw [QP e];exact jae.mp (Xb (.inl (Mj.resolve_left e)))
 ·rcases (hf b hb).2.2.2.1 with z|z
  ·exact I.ok.noex b o e z
  ·exact absurd (QV (Qt (I.ok.bs b o e).1) z) (jaw _)
 ·rcases Ql.mp (I.stkSub b z) with q|q
  ·exact (hf b hb).2.1 q
  ·exact (hf b hb).2.2.1 q
 ·by_cases hi:i<n
  ·rw [TU (by simpa using hi),QS,QH hi] at h2;cases h2
  ·have NC:(N.drop n)[i - n]? =some x:=by rw [jap,show n+(i - n)=i by omega];exact h1
   rw [Tp (by simpa using hi),QB] at h2;unfold frσ at h2;rw [Qi] at h2;rw [O.names,Qi] at NC
   cases ej:fr[i - n]? with
   |none=>rw [ej] at h2;cases h2
   |some j=>
    rw [ej] at h2 NC;have hjl:j<X.N.length:=QG (TC.mp O.inx j (Qe ej))
    have hx:X.N[j]? =some x:=by
     have e:=Qz NC;dsimp only at e;rw [Qc hjl] at e⊢;exact congrArg some e
    have hv:σ[j]? =some (some v):=by
     have e:=Qz h2;dsimp only at e
     cases es:σ[j]? with
     |none=>rw [es] at e;cases e
     |some o=>rw [es] at e;rw [show o=some v from e]
    have Ny:scope.names.lookup x=some .free:=by
     refine QG (TC.mp O.free x ?_);exact Qe (i:=i - n) (by rw [jap,show n+(i - n)=i by omega];exact h1)
    have OQ:(x,NameKind.free)∈scope.names:=jaz Ny;have PB:=QG (TC.mp O.seen _ OQ) rfl;obtain ⟨mX,hnX,SW⟩:=I.loc;obtain ⟨u,ru,lu⟩:=SW j x v hx hv (PB.elim (λz=> .inr (.inl z)) λz=> .inr (.inr z));refine ⟨u,ru, .inr ⟨?_,?_⟩⟩
    ·exact bD Ny
    ·obtain ⟨c,hc⟩:=jae.mp (Xb (cells:=X.env.cells) (acc:=[]) (.inl OQ))
     refine ⟨c,(by
      show ((y,s.heap.objs.size+1)::yP X.env.cells scope.names []).lookup x=some c;rw [cz,QP (QG (TC.mp O.yfree _ OQ) rfl)]
      exact hc),?_⟩
     rcases lu with ⟨k,_⟩|⟨_,c',LX,z⟩
     ·rcases PB with q|q
      ·rw [show X.env.kindOf x=_ from k] at q;cases q
      ·rw [show X.env.kindOf x=_ from k] at q;cases q
     ·have:=lk x c hc;rw [LX] at this;cases this;obtain ⟨o,ho,hd⟩:=z;exact ⟨o,keep _ _ ho,hd⟩
 ·rcases cases1 x c h with ⟨_,z⟩|z
  ·rw [z];exact ⟨_,hcl1⟩
  ·obtain ⟨v,o,ho,hd⟩:=cne x c z;exact ⟨v,o,keep _ _ ho,hd⟩
 ·rw [Qy,QB];unfold frσ;have e:=congrArg List.length O.names;rw [Ti,Qa] at e;have:=O.own;show _=N.length;rw [Qa];omega
end
section
variable {X:Cx} {N:List Str} {n:Nat} {fr:List Nat} {scope:Scope} {y:Str}
theorem DD {tg iter elt:Expr} {ifs:List Expr} {pos:Pos} {g:Blk TG} {tt:Blk TT} {te:Blk TE} {pins:List (Addr×Obj)} {σ:L2.St} {H2:Hp} {s2:Shared} {it:Addr} {fp:List Addr} {tn:Nat->Heap->Prop} {J:It} {Q:VK}
 {RR:Value->Addr->Result->Shared->Prop} {E:Value->Shared->Prop}
 (hc:X.calm=true) (O:CompOk1 X N n fr scope y)
 (hg:∀C ex s H,PG (YH X N scope y C ex s H) tg (g C ex s H)) (ht:∀C ex s H,PIf (YH X N scope y C ex s H) ifs (tt C ex s H)) (he:∀C ex s H,PE (YH X N scope y C ex s H) elt (te C ex s H))
 (I2:Inv X pins σ H2 s2) (T:Turn X.prog X.w X.K tg J fp it tn) (Mp:tn 0 s2.heap) (f2:∀b∈fp,sG X pins H2 b)
 (hW:∀D,H2 D=none->∀C ex s0 H0,∃W:Nat->Nat->List V->Hp->Prop,(∃m,W 0 m [] (upd H2 D (.lst [])))/\∀i m ys H2,W i m ys H2->H2 D=some (.lst ys)/\
  ((J.stop i H2/\Q (.ref D) H2)\/(J.go i H2/\∀x H3,J.yld i H2 x H3->g C ex s0 H0 x (List.replicate n none++frσ σ fr) H3 λσ4 H4=>σ4.drop n=frσ σ fr/\tt C ex s0 H0 σ4 H4 λb H5=>
    if b=true then te C ex s0 H0 σ4 H5 λy H6=>H6 D=some (.lst ys)/\ys.length<sizeLine/\∃m',m'<m/\W (i+1) m' (ys++[y]) (upd H6 D (.lst (ys++[y])))
    else ∃m',m'<m/\W (i+1) m' ys H5)))
 (hR:∀(D C:Addr) (H':Hp) (s':Shared),Q (.ref D) H'->(∃m,s'.heap.Ns C m)->Side X pins H' C->Inv X pins σ H' s'->RR (.ref D) C (.ok .next) s'):
 wpAny (model X.prog X.w) X.A (newList []) (λacc s₃=>wpAny (model X.prog X.w) X.A (newFunctionEnv scope X.env.globals (yP X.env.cells scope.names []) [] X.env.qual none .none (some X.env)) (λcenv s₄=>
  codeAny (model X.prog X.w) X.A (.compStart (.ListComp elt [⟨tg,iter,ifs,0⟩] scope pos) 0 (.ref it) acc {cenv with scope:=relabel scope X.env}) (RR acc cenv.locals) s₄) E s₃) E s2:=by
 refine Ta (vM O.one O.push ?_);have hDn:H2 s2.heap.objs.size=none:=I2.fresh;have I3:Inv X pins σ (upd H2 s2.heap.objs.size (.lst [])) {s2 with heap:=s2.heap.push {cls:= .type "list",data:= .seq ([]:List Value).toArray},toks:=s2.toks}:=I2.lnew (its:=[]) .nil (TH _);generalize hD:s2.heap.objs.size=D at*;dsimp only;generalize Pq:s2.heap.push {cls:= .type "list",dict:=none,data:= .seq ([]:List Value).toArray}=LU at*;have SE:∀b o,s2.heap.get? b=some o->LU.get? b=some o:=λb o e=>by rw [<-Pq];exact Qh _ e
 have Sn:LU.objs.size=D+1:=by rw [<-Pq,QU,hD]
 have Nn₁:((LU.push {cls:= .type "dict",dict:=none,data:= .dict #[],slots:=#[]}).push {cls:= .type "cell",dict:=none,data:= .cell none,slots:=#[]}).Ns LU.objs.size (λ_=>none):=(Heap.Ns.new LU (.type "dict")).keeps λb o e=>Qh _ e
 have NH₁:((LU.push {cls:= .type "dict",dict:=none,data:= .dict #[],slots:=#[]}).push {cls:= .type "cell",dict:=none,data:= .cell none,slots:=#[]}).IsCell (LU.objs.size+1) none:=⟨_,by
  have:=Qu (LU.push {cls:= .type "dict",dict:=none,data:= .dict #[],slots:=#[]}) (o:={cls:= .type "cell",dict:=none,data:= .cell none,slots:=#[]}) rfl;rw [QU] at this
  exact this,rfl⟩
 have keep:∀b o,LU.get? b=some o->((LU.push {cls:= .type "dict",dict:=none,data:= .dict #[],slots:=#[]}).push {cls:= .type "cell",dict:=none,data:= .cell none,slots:=#[]}).get? b=some o:=λb o e=>Qh _ (Qh _ e);generalize (LU.push {cls:= .type "dict",dict:=none,data:= .dict #[],slots:=#[]}).push {cls:= .type "cell",dict:=none,data:= .cell none,slots:=#[]}=h₁ at*
 have flt:∀b∈fp,b<D:=λb hb=>by
  obtain ⟨o,ho,_⟩:=T.obj _ _ Mp b hb;rw [<-hD];exact Qt ho
 have f3:∀b∈fp,sG X pins (upd H2 D (.lst [])) b:=λb hb=>⟨by rw [zR (QM (flt b hb))];exact (f2 b hb).1,(f2 b hb).2⟩;have IY:=rP (tk:=s2.toks) O I3 f3 (λb hb=>by show b<LU.objs.size;rw [Sn];exact TM (flt b hb)) Nn₁ NH₁ keep;obtain ⟨W,⟨m0,w0⟩,turn⟩:=hW _ hDn LU.objs.size fp {s2 with heap:=LU,toks:=s2.toks} (upd H2 D (.lst []));have Pb:tn 0 h₁:=T.keep _ _ _ Mp λb hb o e=>keep b o (SE b o e);generalize hY:YH X N scope y LU.objs.size fp {s2 with heap:=LU,toks:=s2.toks} (upd H2 D (.lst []))=Y at*;have eEnv:Y.env=compEnvC scope ((y,LU.objs.size+1)::yP X.env.cells scope.names []) LU.objs.size X.env:=by rw [<-hY];rfl
 have PL:=hg LU.objs.size fp {s2 with heap:=LU,toks:=s2.toks} (upd H2 D (.lst []));have Pn:=ht LU.objs.size fp {s2 with heap:=LU,toks:=s2.toks} (upd H2 D (.lst []));have PN:=he LU.objs.size fp {s2 with heap:=LU,toks:=s2.toks} (upd H2 D (.lst []));rw [hY] at PL Pn PN;have eP:Y.prog=X.prog:=by rw [<-hY];rfl
 have eW:Y.w=X.w:=by rw [<-hY];rfl
 have eK:Y.K=X.K:=by rw [<-hY];rfl
 have eA:Y.A=X.A:=by rw [<-hY];rfl
 have eC:Y.calm=true:=by rw [<-hY];exact hc
 have eX:Y.xe=λ_ _=>False:=by rw [<-hY];rfl
 have fY:∀{H':Hp},(∀b∈fp,H' b=none)->∀b∈fp,sG Y [] H' b:=λ{H'} hn b hb=>by
  have h1:=IY.ok.exf b (by rw [<-hY];exact hb);refine ⟨hn b hb,h1.1,IY.ok.exfs b (by rw [<-hY];exact hb), .inl (by rw [<-hY];exact hb),h1.2,λp hp=>absurd hp (by rw [<-hY];simp [YH])⟩
 have loop:codeAny (model X.prog X.w) X.A (.compLoop (.ListComp elt [⟨tg,iter,ifs,0⟩] scope pos) 0 (.ref it) (.ref D) (compEnvC scope ((y,LU.objs.size+1)::yP X.env.cells scope.names []) LU.objs.size X.env))
  (RR (.ref D) LU.objs.size) {s2 with heap:=h₁,toks:=s2.toks}:=by
  refine codeAny_loop rfl (λk s'=>∃i ys H',Inv Y [] (List.replicate n none++frσ σ fr) H' s'/\tn i s'.heap/\(∀b∈fp,H' b=none)/\W i k ys H') (λk s5 hI=>?_) m0 ⟨0,[],_,IY,Pb,λb hb=>(f3 b hb).1,w0⟩;obtain ⟨i,ys,H5,I5,NL,OJ,w5⟩:=hI;show wpAny _ X.A ((compTurn (.ListComp elt [⟨tg,iter,ifs,0⟩] scope pos) 0 (.ref it) (.ref D) _).onRaise (λx=>do noteFrame x _;theTreesLotGoes x)) _ _ s5;refine wpAny_noted ?_;rw [compTurn_list,<-eEnv];refine Qg (wpAny_standAt (Qg ?_));obtain ⟨RT,step⟩:=turn i k ys H5 w5
  rcases step with ⟨stop,qn⟩|⟨go,step⟩
  ·have d:=T.done Y eP eW eK eC i [] s5 _ H5 (λ_ _=>False) I5 (fY OJ) NL stop;rw [eA] at d;refine yN (thn d λr s6 hh=>?_);obtain ⟨hr,I6⟩:=hh;subst hr;refine Qm ?_;have hC:H5 LU.objs.size=none:=by have:=I6.free;rw [eEnv] at this;exact this
   have OB:∃m,s6.heap.Ns LU.objs.size m:=by
    have:=I6.loc;rw [eEnv] at this;obtain ⟨m,hm,_⟩:=this;exact ⟨m,hm⟩
   have sd:Side X pins H5 LU.objs.size:=⟨hC,jaR I3.lt,I3.sz,λx c e=>QM (let ⟨v,o,ho,_⟩:=I3.cell x c e;Qt ho),λp hp=>QM (Qt (I3.pin p hp).1)⟩;refine hR D LU.objs.size H5 s6 qn OB sd ?_;have un:=I6.base;have e0:Y.s₀.heap=LU:=by rw [<-hY];rfl
   have eH0:Y.H₀=upd H2 D (.lst []):=by rw [<-hY];rfl
   have eF:Y.fs=frs X.stack:=by rw [<-hY];rfl
   have eEx:Y.ex=fp:=by rw [<-hY];rfl
   rw [e0,eH0,eF,eEx] at un;have Nv:HOk X.prog X.w H5 s6.heap:=by have:=I6.hok;rw [eP,eW] at this;exact this
   have Sx:s6.os=s2.os:=I6.os.trans (by rw [<-hY];rfl);exact I3.call' (s':=s6) (ch:=fp) Sx un Nv I6.bare λb hb=>⟨(f2 b hb).2.2.2.1,(f2 b hb).2.1,(f2 b hb).2.2.2.2.1,(f2 b hb).2.2.2.2.2⟩
  ·have d:=T.item Y eP eW eK eC i [] s5 _ H5 (λ_ _=>False) I5 (fY OJ) NL go;rw [eA] at d;refine yN (thn d λr s6 hh=>?_);obtain ⟨u,hr,h6⟩:=hh;subst hr;refine Qg (yN (thn h6 λ_ s7 hh=>?_));obtain ⟨x,H7,I7,r7,y7,Oo,fr7⟩:=hh;have I7':=I7.pinned (fY fr7) (T.obj _ _ Oo);have g7:=PL _ s7 _ H7 x u _ I7' r7 (step x H7 y7);rw [eA,eP,eW,eX] at g7;refine Qg (yN (thn g7 λ_ s8 hh=>?_));obtain ⟨σ8,H8,I8,ed,q8⟩:=hh;have t8:=Pn _ s8 σ8 H8 _ I8 q8;rw [eA,eP,eW,eX] at t8;refine Qg (yN (thn t8 λb s9 hh=>?_));obtain ⟨H9,I9,q9⟩:=hh
   have back:∀{s':Shared} {H':Hp} {Om:List V} {m':Nat},Inv Y ([]++iQ fp s7.heap) σ8 H' s'->m'<k->W (i+1) m' Om H'->∃m,m<k/\∃i ys H',Inv Y [] (List.replicate n none++frσ σ fr) H' s'/\tn i s'.heap/\(∀b∈fp,H' b=none)/\W i m ys H':=λ{s' H' Om m'} I' hm w'=>by
    refine ⟨m',hm,i+1,Om,H',?_,T.keep _ _ _ Oo λb hb o e=>(I'.pin (b,o) (QA _ (QA _ (ZS hb e)))).1,λb hb=>?_,w'⟩
    ·refine (Inv.unpinned I').weak ?_ λj v hj=>?_
     ·exact IY.len.trans I'.len.symm
     ·by_cases OD:j<n
      ·rw [TU (by simpa using OD),QS,QH OD] at hj;cases hj
      ·rw [Tp (by simpa using OD),QB,<-ed,jap,show n+(j - n)=j by omega] at hj;exact hj
    ·obtain ⟨o,e,d⟩:=T.obj _ _ Oo b hb;exact (I'.pin (b,o) (QA _ (QA _ (ZS hb e)))).2.1
   cases b with
   |false=>
    obtain ⟨m',hm,w9⟩:=q9;exact Qm ⟨rfl,back I9 hm w9⟩
   |true=>
    have e9:=PN _ s9 σ8 H9 _ I9 q9;rw [eA,eP,eW,eX] at e9;refine Qg (Qg (yN (thn e9 λv Sq hh=>?_)));obtain ⟨y,Nq,I10,Su,OI,hz,m',hm,NV⟩:=hh;have Rf:=nZ _ Sq σ8 Nq (.ref D) [y] (.ref D) [v] (λ_ H'=>H'=upd Nq D (.lst (ys++[y]))) I10 rfl (.cons Su .nil) ⟨D,ys,y,rfl,rfl,OI,hz,rfl⟩;rw [eA,eP,eW,eX] at Rf;refine Qg (yN (thn Rf λ_ s11 hh=>?_));obtain ⟨_,OL,I11,_,OU⟩:=hh;subst OU;exact Qm (Qm ⟨rfl,back I11 hm NV⟩)
 exact codeAny_compStart_list loop (T.self _ _ _ _ _ Pb loop)
theorem Fj {tg iter elt:Expr} {ifs:List Expr} {pos:Pos} {wi:TI} {g:Blk TG} {tt:Blk TT} {te:Blk TE}
 (hc:X.calm=true) (O:CompOk1 X N n fr scope y) (hi:PI X tg iter wi)
 (hg:∀C ex s H,PG (YH X N scope y C ex s H) tg (g C ex s H)) (ht:∀C ex s H,PIf (YH X N scope y C ex s H) ifs (tt C ex s H)) (he:∀C ex s H,PE (YH X N scope y C ex s H) elt (te C ex s H))
 (hs:∀x,foldedSetIterable iter X.env x=pure x:=by intro _;rfl):
 PE X (.ListComp elt [⟨tg,iter,ifs,0⟩] scope pos) (uW n fr wi g tt te):=by
 intro pins s σ H Q I h;rw [eval_ListComp];refine jbD (use:=none) rfl hs (XE (O.cells I)) O.kind (λy hy=>QG (TC.mp O.loc y hy)) (thn (hi pins s σ H _ I h) λv s1 h1=>thn h1 λitv s2 h2=>?_);obtain ⟨it,fp,tn,J,H2,e,I2,T,Mp,f2,hW⟩:=h2;subst e;refine DD (RR:=λacc C=>compPost (model X.prog X.w) X.A X.xe none (EP X pins σ Q) acc C) hc O hg ht he I2 T Mp f2 hW ?_;intro D C H' s' q ⟨m,hm⟩ sd inv;exact ⟨m,hm,λh' Ob=>⟨.ref D,H',inv.turned (t':=s'.toks) (it:=C) (λb o hb e=>Ob.extBut b o hb e) sd.nt sd.nl (.inr sd.ab) sd.nc sd.np,rfl,q⟩⟩
end
end S
namespace S
def par (c t:List Int):Prop:=c.map (·*t.sum)=t.map (·*c.sum)
instance (c t:List Int):Decidable (par c t):=inferInstanceAs (Decidable (_=_))
open Classical in
noncomputable def yb (a:Rat×List Rat):List (Rat×List Rat)->List (Rat×List Rat)
 |[]=>[]
 |[b]=>[b]
 |b::c::r=>if zN a b c then yb b (c::r) else b::yb b (c::r)
open Classical in
noncomputable def Yc (cs:List zg) (i:Nat):Bool:=decide (i=0\/i+1=cs.length\/¬∀(a b c:zg),cs[i - 1]? =some a->cs[i]? =some b->cs[i+1]? =some c->zN a b c)
open Classical in
theorem YU {cs:List zg} {i:Nat} (h:i=0\/i+1=cs.length\/¬∀(a b c:zg),cs[i - 1]? =some a->cs[i]? =some b->cs[i+1]? =some c->zN a b c):Yc cs i=true:=by
 unfold Yc;exact QQ h
open Classical in
theorem iW {cs:List zg} {i:Nat} (h:¬(i=0\/i+1=cs.length\/¬∀(a b c:zg),cs[i - 1]? =some a->cs[i]? =some b->cs[i+1]? =some c->zN a b c)):Yc cs i=false:=by
 unfold Yc;exact QY h
noncomputable def yg:List zg->List zg
 |[]=>[]
 |c::r=>c::yb c r
theorem tV:∀(r pre:List zg) (a:zg),(List.range' (pre.length+1) r.length).filterMap (λj=>if Yc (pre++a::r) j then (pre++a::r)[j]? else none)=yb a r
 |[],pre,a=>by simp [yb]
 |[b],pre,a=>by
  have hk:Yc (pre++[a,b]) (pre.length+1)=true:=YU (.inr (.inl (by simp)));simp [yb,hk]
 |b::c::r,pre,a=>by
  have ih:=tV (c::r) (pre++[a]) b;rw [Qy,Tv,TX,List.singleton_append] at ih;rw [Qw,List.range'_succ,jaN,yb]
  have g0:(pre++a::b::c::r)[pre.length+1 - 1]? =some a:=by
   rw [Nat.add_sub_cancel,Tp (Qp _),Nat.sub_self];rfl
  have g1:(pre++a::b::c::r)[pre.length+1]? =some b:=by
   rw [Tp (by omega),show pre.length+1 - pre.length=1 by omega];rfl
  have g2:(pre++a::b::c::r)[pre.length+1+1]? =some c:=by
   rw [Tp (by omega),show pre.length+1+1 - pre.length=2 by omega];rfl
  by_cases hs:zN a b c
  ·have hk:Yc (pre++a::b::c::r) (pre.length+1)=false:=by
    refine iW ?_
    rintro (q|q|q)
    ·omega
    ·simp at q;omega
    ·refine q λx y z hx hy hz=>?_;rw [g0] at hx;rw [g1] at hy;rw [g2] at hz;cases hx;cases hy;cases hz;exact hs
   rw [hk,QH hs]
   simpa using ih
  ·have hk:Yc (pre++a::b::c::r) (pre.length+1)=true:=YU (.inr (.inr λq=>hs (q a b c g0 g1 g2)));rw [hk,QP hs,QH rfl,g1];dsimp only;rw [ih]
theorem wa {β:Type} (cs:List zg) (g:zg->β):(List.range cs.length).filterMap (λj=>if Yc cs j then (cs[j]?).map g else none)=(yg cs).map g:=by
 have e:(List.range cs.length).filterMap (λj=>if Yc cs j then (cs[j]?).map g else none)=((List.range cs.length).filterMap (λj=>if Yc cs j then cs[j]? else none)).map g:=by
  rw [List.map_filterMap]
  congr 1
  funext j
  split<;>rfl
 rw [e]
 congr 1
 cases cs with
 |nil=>rfl
 |cons c r=>
  rw [Qw,List.range_eq_range',List.range'_succ,jaN];have hk:Yc (c::r) 0=true:=YU (.inl rfl);rw [hk,QH rfl];have:=tV r [] c;simp only [List.length_nil,jaE,jbc] at this;simp only [List.getElem?_cons_zero,jbc];rw [this,yg]
end S
namespace S
open PySem PySem.Spec PyProof.Rows L2
section
variable {α:Type} {enc:α->List PyData} {dom:α->Prop} {res:α->V} {B G0 H:Hp} {cs:yk} {ds:Dat} {Q:VK} {E:XK} {vs:List V} {v w:V}
def spP (enc:α->List PyData) (dom:α->Prop) (res:α->V):Sp:=λvs H Q _=>∃(a:α),zC H (enc a) vs/\dom a/\Q (res a) H
theorem HI (a:α) (S:Sta B G0 H cs ds) (hx:zV ds (enc a) vs) (hd:dom a) (k:Q (res a) H):spP enc dom res vs H Q E:=⟨a,S.hpAll hx,hd,k⟩
theorem SzQ.of_div {n:Nat} {q:Rat} {a b:Int} (e:q=Rat.divInt a b) (ha:Sz n a) (hb:Sz n b) (h0:b≠0):SzQ n q:=by rw [e];exact SzQ.divInt ha hb h0
theorem xl (p q:Rat):(p.den:Int)*(q.den:Int)≠0:=Int.ne_of_gt (Int.mul_pos (den_pos p) (den_pos q))
theorem DS (p q:Rat):Rat.divInt (p.num*(q.den:Int)+q.num*(p.den:Int)) ((p.den:Int)*(q.den:Int))=p+q:=by
 rw [Rat.add_def',<-Int.natCast_mul,Rat.divInt_ofNat]
theorem Av (p q:Rat):Rat.divInt (p.num*(q.den:Int) - q.num*(p.den:Int)) ((p.den:Int)*(q.den:Int))=p - q:=by
 rw [Rat.sub_def',<-Int.natCast_mul,Rat.divInt_ofNat]
theorem Cy (p q:Rat):Rat.divInt (p.num*q.num) ((p.den:Int)*(q.den:Int))=p*q:=by
 rw [Rat.mul_def',<-Int.natCast_mul,Rat.divInt_ofNat]
theorem HQ {q:Rat} (h:q≠0):q.num≠0:=λz=>h (Rat.num_eq_zero.mp z)
theorem Du (p q:Rat) (h:q≠0):Rat.divInt (p.num*(q.den:Int)) ((p.den:Int)*q.num)=p / q:=by
 rw [<-jbo,jbJ,jbd,Rat.inv_def]
section
variable {m n:Nat} {p q:Rat}
theorem SzQ.add (hp:SzQ m p) (hq:SzQ n q):SzQ (m+n+1) (p+q):=
 SzQ.of_div (DS p q).symm (((hp.1.mul hq.2).add ((hq.1.mul hp.2).mono (Nat.le_of_eq (Nat.add_comm n m))))) ((hp.2.mul hq.2).mono (jal _)) (xl p q)
theorem SzQ.sub (hp:SzQ m p) (hq:SzQ n q):SzQ (m+n+1) (p - q):=
 SzQ.of_div (Av p q).symm (((hp.1.mul hq.2).sub ((hq.1.mul hp.2).mono (Nat.le_of_eq (Nat.add_comm n m))))) ((hp.2.mul hq.2).mono (jal _)) (xl p q)
theorem SzQ.mul (hp:SzQ m p) (hq:SzQ n q):SzQ (m+n) (p*q):=
 SzQ.of_div (Cy p q).symm (hp.1.mul hq.1) (hp.2.mul hq.2) (xl p q)
theorem SzQ.div (hp:SzQ m p) (hq:SzQ n q):SzQ (m+n) (p / q):=by
 by_cases h:q=0
 ·subst h;rw [jbd,Rat.inv_zero,Rat.mul_zero]
  have hm:1<=m:=by
   cases m with
   |zero=>
    have h1:(p.den:Int).natAbs<2 ^ 0:=hp.2;have h2:=den_pos p;simp at h1;omega
   |succ m=>omega
  exact ⟨sR (n:=m+n) (by omega) (show (-2:Int)<0 by decide) (show (0:Int)<2 by decide),sR (n:=m+n) (by omega) (show (-2:Int)<1 by decide) (show (1:Int)<2 by decide)⟩
 ·exact SzQ.of_div (Du p q h).symm (hp.1.mul hq.2) (hp.2.mul hq.1) (Int.mul_ne_zero (Int.ne_of_gt (den_pos p)) (HQ h))
end
def Xm:Sp:=spT (α:=Int×Int) (λa=>[.int a.1, .int a.2]) (λa=>a.2≠0/\Sz 8999 a.2) (λa=>frD (Rat.divInt a.1 a.2))
theorem Wu {i j:Int} (S:Sta B G0 H cs ds) (h0:j≠0) (hz:Sz 8999 j) (k:∀r H',zL H H'->Sta B G0 H' cs ((frD (Rat.divInt i j),r)::ds)->Q r H'):Xm [.int i, .int j] H Q E:=
 Zw (i,j) S (.cons Has.int (.cons Has.int .nil)) ⟨h0,hz⟩ k
def spQ2 (dom:Rat->Rat->Prop) (g:Rat->Rat->Rat):Sp:=spT (α:=Rat×Rat) (λa=>[frD a.1,frD a.2]) (λa=>(∃m n,SzQ m a.1/\SzQ n a.2/\m+n<=8999)/\dom a.1 a.2) (λa=>frD (g a.1 a.2))
theorem qC {dm:Rat->Rat->Prop} {g:Rat->Rat->Rat} {p q:Rat} {m n:Nat} (S:Sta B G0 H cs ds) (h1:Has ds (frD p) v) (h2:Has ds (frD q) w) (s1:SzQ m p) (s2:SzQ n q) (Mz:m+n<=8999) (hd:dm p q)
 (k:∀r H',zL H H'->Sta B G0 H' cs ((frD (g p q),r)::ds)->Q r H'):spQ2 dm g [v,w] H Q E:=
 Zw (p,q) S (.cons h1 (.cons h2 .nil)) ⟨⟨m,n,s1,s2,Mz⟩,hd⟩ k
abbrev domT:Rat->Rat->Prop:=λ_ _=>True
abbrev sX:Sp:=spQ2 domT λp q=>p+q
abbrev UO:Sp:=spQ2 domT λp q=>p - q
abbrev pY:Sp:=spQ2 domT λp q=>p*q
abbrev HF:Sp:=spQ2 (λ_ q=>q≠0) λp q=>p / q
def cq:Sp:=spP (α:=Rat×Rat) (λa=>[frD a.1,frD a.2]) (λa=>∃m n,SzQ m a.1/\SzQ n a.2/\m+n<=100000000) (λa=> .bl (decide (a.1<a.2)))
theorem nO {p q:Rat} {m n:Nat} (S:Sta B G0 H cs ds) (h1:Has ds (frD p) v) (h2:Has ds (frD q) w) (s1:SzQ m p) (s2:SzQ n q) (Mz:m+n<=100000000) (k:Q (.bl (decide (p<q))) H):cq [v,w] H Q E:=
 HI (p,q) S (.cons h1 (.cons h2 .nil)) ⟨m,n,s1,s2,Mz⟩ k
def fD (ns:List Int) (k:Int):Int:=if k<(ns.length:Int) then ns.getD k.toNat 0 else 0
def td (K:PySem.W.Frag):Sp:=λvs H Q _=>∃(a:Addr) (ns:List Int) (k:Int),vs=[.ref a, .int k]/\SqL K H a (ns.map V.int)/\0<=k/\Q (.int (fD ns k)) H
theorem rd_cell {K:PySem.W.Frag} {a:Addr} {ns:List Int} {k:Int} (hS:SqL K H a (ns.map V.int)) (h0:0<=k) (h:Q (.int (fD ns k)) H):td K [.ref a, .int k] H Q E:=⟨a,ns,k,rfl,hS,h0,h⟩
def sZ:Sp:=λvs H Q _=>∃a b:Int,vs=[.int a, .int b]/\0<=b/\Q (.int (Int.gcd a b:Nat)) H
theorem rd_div2 {a b:Int} (h0:0<=b) (h:Q (.int (Int.gcd a b:Nat)) H):sZ [.int a, .int b] H Q E:=⟨a,b,rfl,h0,h⟩
def cn:Sp:=spT (α:=Int×Int) (λa=>[.int a.1, .int a.2]) (λa=>0<a.2/\Sz 8999 a.2) (λa=>frD (Rat.divInt a.1 a.2))
theorem Wv {i j:Int} (S:Sta B G0 H cs ds) (h0:0<j) (hz:Sz 8999 j) (k:∀r H',zL H H'->Sta B G0 H' cs ((frD (Rat.divInt i j),r)::ds)->Q r H'):cn [.int i, .int j] H Q E:=
 Zw (i,j) S (.cons Has.int (.cons Has.int .nil)) ⟨h0,hz⟩ k
def mixV (c p:Int):Int:=(((c % 2147483629*16807+69621*p+11) % 2147483629)*((c % 2147483629*16807+69621*p+11) % 2147483629)+48271*p+7) % 2147483629*69621 % 2147483587
def IL:Sp:=λvs H Q _=>∃c p:Int,vs=[.int c, .int p]/\Q (.int (mixV c p)) H
theorem rd_mix {c p:Int} (h:Q (.int (mixV c p)) H):IL [.int c, .int p] H Q E:=⟨c,p,rfl,h⟩
def mr (r:List Int):PyData:= .list (r.map PyData.int)
theorem Sta.put_call {G G' H':Hp} {p:Addr} {us:List V} {xs:List PyData} (S:Kq B G0 H cs ds G) (gr:Grow G H G' H') (hp:H p=none) (hg:G' p=none) (hu:H' p=some (.lst us)) (hv:zC G' xs us):Sta B G0 H' ((p,xs)::cs) ds:=by
 have hc:=S.2.2.1.free hp;obtain ⟨_,_,_,_,e0,_,_⟩:=id S;obtain ⟨a',b',c',d',e',f',g'⟩:=S.grow gr;refine ⟨G',a',b',c',d',λq hq=>?_,?_,g'⟩
 ·rcases Ql.mp hq with rfl|hq
  ·exact ⟨hc,hg,us,hu,hv⟩
  ·exact e' q hq
 ·rw [Qn,TK];refine ⟨λz=>?_,f'⟩;obtain ⟨q,hq,Md⟩:=Qj.mp z;obtain ⟨_,_,ws,z,_⟩:=e0 q hq;rw [Md,hp] at z;cases z
theorem rd_true {σ:L2.St} {R:Bool->Hp->Prop} (h:R true H):tTrue σ H R:=h
def XW (m:Nat):List Int:=List.replicate m 0
theorem cN (m:Nat):(XW m).length=m:=QB
theorem aE {β:Type} [DecidableEq β] {f:β->PyData} (hf:∀a b,PyData.eqv (f a) (f b)=decide (a=b)):∀xs ys:List β,PyData.eqvAll (xs.map f) (ys.map f)=decide (xs=ys)
 |[],[]=>by rw [jao,PyData.eqvAll];rfl
 |[],_::_=>by rw [jao,Qn,PyData.eqvAll,QY (by simp)]
 |_::_,[]=>by rw [jao,Qn,PyData.eqvAll,QY (by simp)]
 |x::xs,y::ys=>by
  rw [Qn,Qn,PyData.eqvAll,hf,aE hf xs ys,<-Bool.decide_and];exact Ye (by simp)
theorem aD (p q:Rat):PyData.eqv (frD p) (frD q)=decide (p=q):=eqv_fr p q
theorem jc (p q:List Rat):PyData.eqv (zO p) (zO q)=decide (p=q):=by unfold zO;rw [PyData.eqv];exact aE aD p q
theorem Dt (p q:zg):PyData.eqv (zu p) (zu q)=decide (p=q):=by
 unfold zu;rw [PyData.eqv,PyData.eqvAll,PyData.eqvAll,PyData.eqvAll,aD,jc,Bool.and_true,<-Bool.decide_and];exact Ye ⟨λ⟨h1,h2⟩=>Prod.ext h1 h2,λh=>by subst h;exact ⟨rfl,rfl⟩⟩
theorem oI (p q:List zg):PyData.eqv (zE p) (zE q)=decide (p=q):=by unfold zE;rw [PyData.eqv];exact aE Dt p q
theorem mR {d:PyData} {n:Nat} (h:d.canLay0=true) (g:d.depth<=n) (l:n<=64):SeqAt.shaped d=true:=by
 unfold SeqAt.shaped;rw [h,QQ (QI g l)];rfl
theorem xQ (a:Rat):SeqAt.shaped (frD a)=true:=mR (CL a) (Dv a) (by decide)
theorem ZI (a:List Rat):SeqAt.shaped (zO a)=true:=mR (fe a) (oJ a) (by decide)
def tyD:PyData->String
 | .none=>"NoneType"
 | .bool _=>"bool"
 | .int _=>"int"
 | .str _=>"str"
 | .list _=>"list"
 | .tuple _=>"tuple"
 | .dict _=>"dict"
def noIns:PyData->Bool
 | .dict _=>false
 |_=>true
theorem Is.ty {K:PySem.W.Frag} {d:PyData} (h:Is H d v) (nd:noIns d=true):TyOf K H v (.type (tyD d)):=by
 cases d with
 |none=>rw [Is] at h;subst h;exact .non
 |bool b=>rw [Is] at h;subst h;exact .bl b
 |int b=>rw [Is] at h;subst h;exact .int b
 |str b=>rw [Is] at h;subst h;exact .str b
 |list xs=>rw [Is] at h;obtain ⟨p,vs,rfl,e,_⟩:=h;exact .lst e
 |tuple xs=>rw [Is] at h;obtain ⟨p,vs,rfl,e,_⟩:=h;exact .tup e
 |dict _=>cases nd
theorem rd_isi {K:PySem.W.Frag} {d:PyData} {T:String} {b:Bool} (h:Is H d v) (e:PySem.W.kitOne K (.type (tyD d)) (.type T)=some b) (k:Q (.bl b) H) (nd:noIns d=true):rIsi K [v, .ty T] H Q:=⟨v,T,_,b,rfl,h.ty nd,e,k⟩
section
variable {K:PySem.W.Frag}
theorem kit_tt:PySem.W.kitOne K (.type "tuple") (.type "tuple")=some true:=by rfl
theorem kit_ib:PySem.W.kitOne K (.type "int") (.type "bool")=some false:=by rfl
theorem kit_ii:PySem.W.kitOne K (.type "int") (.type "int")=some true:=by rfl
end
theorem zU {α β:Type} {f:α->β} {l:List α} {i:Nat} {x:β} (h:(l.map f)[i]? =some x):∃n,l[i]? =some n/\x=f n:=by
 rw [Qi] at h
 cases e:l[i]? with
 |none=>rw [e] at h;cases h
 |some n=>rw [e] at h;exact ⟨n,rfl,(Qz h).symm⟩
theorem zH {α β:Type} (g:α->β) (d:α):∀l:List α,(List.range l.length).map (λi=>g (l.getD i d))=l.map g:=by
 intro l
 apply TY
 intro i;rw [Qi,Qi]
 by_cases h:i<l.length
 ·rw [List.getElem?_range h,Qc h];simp [h]
 ·rw [QF (by simpa using Nat.le_of_not_lt h),QF (by omega)];rfl
theorem yh {α:Type} {l:List α} {i:Nat} {n d:α} (h:l[i]? =some n):l.getD i d=n:=by rw [Qo,h];rfl
theorem Sta.int1 {n:Int} (S:Sta B G0 H cs ((.int n,v)::ds)):v= .int n:=S.top.int_of
theorem rd_gsub {to ti:TE} {t:TSet} {σ:L2.St} {N:L2.St->Hp->Prop} (h:to σ H λo H1=>ti σ H1 λi H2=>t o i v H2 λH3=>N σ H3):gSub to ti t v σ H N:=h
theorem lQ {α:Type} {xs:List α} {x:α} (h:xs.getLast? =some x):atI xs (-1)=some x:=by
 obtain ⟨ys,rfl⟩:∃ys,xs=ys++[x]:=by
  have Ma:xs≠[]:=by intro e;subst e;simp at h
  refine ⟨xs.dropLast,?_⟩;rw [QW Ma] at h;rw [<-Qz h,jac]
 exact uv ys x
theorem Dats.nil:∀p∈([]:Dat),Has ds p.1 p.2:=λp hp=>absurd hp Qv
theorem Dats.cons {x:PyData} {r:Dat} (h:Has ds x v) (g:∀p∈r,Has ds p.1 p.2):∀p∈(x,v)::r,Has ds p.1 p.2:=λp hp=>by
 rcases Ql.mp hp with rfl|hp
 ·exact h
 ·exact g p hp
theorem WQ {t u:TS} {D:Ends} {σ:L2.St} (M:L2.St->Hp->Prop) (h2:∀σ' H',M σ' H'->u D σ' H') (h1:(∀σ' H',M σ' H'->u D σ' H')->t (mkD D (u D)) σ H):tSeq t u D σ H:=h1 h2
def KA (p q:Rat):PyData:= .tuple [.int (q.num*(p.den:Int) - p.num*(q.den:Int)), .int ((p.den:Int)*(q.den:Int))]
def IM:Sp:=spT (α:=Rat×Rat) (λa=>[frD a.1,frD a.2]) (λa=>SzQ 2000 a.1/\SzQ 2000 a.2) (λa=>KA a.1 a.2)
theorem rd_gap {p q:Rat} (S:Sta B G0 H cs ds) (h1:Has ds (frD p) v) (h2:Has ds (frD q) w) (s1:SzQ 2000 p) (s2:SzQ 2000 q) (k:∀r H',zL H H'->Sta B G0 H' cs ((KA p q,r)::ds)->Q r H'):IM [v,w] H Q E:=
 Zw (p,q) S (.cons h1 (.cons h2 .nil)) ⟨s1,s2⟩ k
def SzC (n:Nat) (c:zg):Prop:=SzQ n c.1/\∀q∈c.2,SzQ n q
theorem ua {p q:Rat} (hp:SzQ 2000 p) (hq:SzQ 2000 q):Sz 4001 (q.num*(p.den:Int) - p.num*(q.den:Int))/\Sz 4001 ((p.den:Int)*(q.den:Int)):=
 ⟨(hq.1.mul hp.2).sub (hp.1.mul hq.2),(hp.2.mul hq.2).mono (by decide)⟩
open Classical in
noncomputable def IK:Sp:=spB (α:=zg×zg×zg) (λa=>[zu a.1,zu a.2.1,zu a.2.2]) (λa=>SzC 2000 a.1/\SzC 2000 a.2.1/\SzC 2000 a.2.2/\a.2.1.2.length=a.1.2.length/\a.2.2.2.length=a.1.2.length/\a.1.2.length<=1000) (λa=> .bl (decide (zN a.1 a.2.1 a.2.2)))
open Classical in
theorem rd_str {a b c:zg} {u:V} (S:Sta B G0 H cs ds) (h1:Has ds (zu a) v) (h2:Has ds (zu b) w) (h3:Has ds (zu c) u) (sa:SzC 2000 a) (sb:SzC 2000 b) (sc:SzC 2000 c) (l1:b.2.length=a.2.length) (l2:c.2.length=a.2.length) (l3:a.2.length<=1000)
 (k:∀H',Sta B G0 H' cs ds->Q (.bl (decide (zN a b c))) H'):IK [v,w,u] H Q E:=
 nB (a,b,c) (S.hpAll (.cons h1 (.cons h2 (.cons h3 .nil)))) ⟨sa,sb,sc,l1,l2,l3⟩ λH' e=>k H' (S.same e)
structure PathOk (m:Nat) (cs:List zg):Prop where
 sz:∀c∈cs,SzC 2000 c
 len:∀c∈cs,c.2.length=m
 m:m<=1000
 few:cs.length<=900
noncomputable def cZ:Sp:=spL (α:=List zg) (λa=>[zE a]) (λa=>∃m,PathOk m a) (λa=>(yg a).map zu)
theorem vi {a:List zg} {m:Nat} (S:Sta B G0 H cs ds) (h:Has ds (zE a) v) (ok:PathOk m a) (k:∀p H',zL H H'->Sta B G0 H' ((p,(yg a).map zu)::cs) ds->Q (.ref p) H'):cZ [v] H Q E:=
 Zd a S (.cons h .nil) ⟨m,ok⟩ k
def kPart (R:Option Int->Hp->Prop):VK:=λx H1=>∃i,x= .int i/\R (some i) H1
section
variable {σ:L2.St} {R:Option Int->Hp->Prop} {K:PySem.W.Frag}
theorem rd_sl {r:V->Option Int->Option Int->Hp->VK->Prop} {te:TE} {tl th:TO} (h:te σ H λx H1=>tl σ H1 λl H2=>th σ H2 λu H3=>r x l u H3 Q):tSl r te tl th σ H Q:=h
theorem rd_noPart (h:R none H):Ap σ H R:=h
theorem rd_part {t:TE} (h:t σ H (kPart R)):tPart t σ H R:=h
theorem rd_kPart {i:Int} (h:R (some i) H):kPart R (.int i) H:=⟨i,rfl,h⟩
def Ea (ns:List Int) (lo hi:Option Int):List Int:=(ns.drop (HT.sIx ns.length 0 lo)).take (HT.sIx ns.length ns.length hi - HT.sIx ns.length 0 lo)
theorem ZL {G:Hp}:∀ns:List Int,zC G (ns.map PyData.int) (ns.map V.int)
 |[]=>by rw [jao,jao,zC]
 |n::ns=>by rw [Qn,Qn,zC];exact ⟨_,_,rfl,by rw [Is],ZL ns⟩
theorem nC {a:Addr} {ns:List Int} {lo hi:Option Int} (S:Sta B G0 H cs ds) (hS:SqL K H a (ns.map V.int)) (k:∀l H',zL H H'->Sta B G0 H' ((l,(Ea ns lo hi).map PyData.int)::cs) ds->Q (.ref l) H'):rSlL K (.ref a) lo hi H Q:=by
 refine ⟨a,_,rfl,hS,λl hl=>k l _ (zL.new hl _) ?_⟩
 have e:Ad (ns.map V.int) lo hi=(Ea ns lo hi).map V.int:=by
  unfold Ad Ea;rw [Qa,<-List.map_drop,<-List.map_take]
 rw [e];exact S.newL hl λG _=>ZL _
end
end
end S
namespace S
open PySem PySem.Spec PyProof.Rows L2
inductive Rl where
 |shares|evenly|losses|halves
 |other (r:Rl)|ranks (r:Rl)|groups (a b:Rl)|upto (t b:Int) (x y:Rl)
def itS (i:Int):Str:=Str.ofString (toString i)
def Rl.shape:Rl->PyData
 | .shares=> .tuple [.str "shares"]
 | .evenly=> .tuple [.str "evenly"]
 | .losses=> .tuple [.str "losses"]
 | .halves=> .tuple [.str "halves"]
 | .other r=> .tuple [.str "other",r.shape]
 | .ranks r=> .tuple [.str "ranks",r.shape]
 | .groups a b=> .tuple [.str "groups",a.shape,b.shape]
 | .upto t b x y=> .tuple [.str "upto", .tuple [.int t, .int b],x.shape,y.shape]
def Rl.text:Rl->Str
 | .shares=>"shares"
 | .evenly=>"evenly"
 | .losses=>"losses"
 | .halves=>"halves"
 | .other r=>("other(":Str)++r.text++(")":Str)
 | .ranks r=>("ranks(":Str)++r.text++(")":Str)
 | .groups a b=>("groups(":Str)++a.text++(", ":Str)++b.text++(")":Str)
 | .upto t b x y=>("upto(":Str)++itS t++("/":Str)++itS b++(", ":Str)++x.text++(", ":Str)++y.text++(")":Str)
def Rl.size:Rl->Nat
 | .other r=>r.size+1
 | .ranks r=>r.size+1
 | .groups a b=>a.size+b.size+1
 | .upto _ _ x y=>x.size+y.size+1
 |_=>1
def Rl.deep:Rl->Nat
 | .other r=>r.deep+1
 | .ranks r=>r.deep+1
 | .groups a b=>max a.deep b.deep+1
 | .upto _ _ x y=>max x.deep y.deep+1
 |_=>1
def WJ (t b:Int):Prop:=(Sz 210 t/\Sz 210 b)/\0<t/\t<b/\Int.gcd t b=1
def Rl.Ok:Rl->Prop
 | .other r=>r.Ok
 | .ranks r=>r.Ok
 | .groups a b=>a.Ok/\b.Ok
 | .upto t b x y=>WJ t b/\x.Ok/\y.Ok
 |_=>True
theorem xG (a b c:Str):a++b++c=a++(b++c):=by
 show Str.append (Str.append a b) c=Str.append a (Str.append b c);unfold Str.append;rw [Array.append_assoc]
theorem xJ (a b:Str):(a++b).length=a.length+b.length:=by
 show (Str.append a b).length=_;unfold Str.append Str.length;rw [Array.size_append]
theorem glued1 (g x:Str):Builtin.Str.glued g [x]=x:=rfl
theorem glued2 (g x y:Str):Builtin.Str.glued g [x,y]=x++g++y:=rfl
theorem Ar {n:Nat} {x:Int} (h:Sz n x) (l:n<=1919):x.natAbs.log2<1920:=by
 by_cases h0:x.natAbs=0
 ·rw [h0];decide+kernel
 ·have:=(Nat.log2_lt h0).mpr (Sz.mono h l);omega
theorem lr {i:Int} (h:Sz 210 i):(itS i).length<=1921:=int_text_len_1921 (Ar h (by decide))
theorem Rl.text_len:∀r:Rl,r.Ok->r.text.length<=4000*r.size
 | .shares,_=>by decide
 | .evenly,_=>by decide
 | .losses,_=>by decide
 | .halves,_=>by decide
 | .other r,h=>by
   have h1:=r.text_len h;simp only [Rl.text,Rl.size,xJ];have l1:("other(":Str).length=6:=by decide+kernel
   have l2:(")":Str).length=1:=by decide+kernel
   omega
 | .ranks r,h=>by
   have h1:=r.text_len h;simp only [Rl.text,Rl.size,xJ];have l1:("ranks(":Str).length=6:=by decide+kernel
   have l2:(")":Str).length=1:=by decide+kernel
   omega
 | .groups a b,h=>by
   have h1:=a.text_len h.1;have h2:=b.text_len h.2;simp only [Rl.text,Rl.size,xJ];have l1:("groups(":Str).length=7:=by decide+kernel
   have l2:(")":Str).length=1:=by decide+kernel
   have l3:(", ":Str).length=2:=by decide+kernel
   omega
 | .upto t b x y,h=>by
   have h1:=x.text_len h.2.1;have h2:=y.text_len h.2.2;have h3:=lr h.1.1.1;have h4:=lr h.1.1.2;simp only [Rl.text,Rl.size,xJ];have l1:("upto(":Str).length=5:=by decide+kernel
   have l2:(")":Str).length=1:=by decide+kernel
   have l3:(", ":Str).length=2:=by decide+kernel
   have l4:("/":Str).length=1:=by decide+kernel
   omega
structure RAd where
 (sh ev lo ha ot ra gr up:Addr)
def RAd.cls (A:RAd):Rl->Addr
 | .shares=>A.sh
 | .evenly=>A.ev
 | .losses=>A.lo
 | .halves=>A.ha
 | .other _=>A.ot
 | .ranks _=>A.ra
 | .groups _ _=>A.gr
 | .upto _ _ _ _=>A.up
def Gw (C:Addr) (form:PyData):PyData:= .dict [(.int ((C:Nat):Int),form)]
def Rl.ins (A:RAd) (r:Rl):PyData:=Gw (A.cls r) r.shape
structure ROk (K:PySem.W.Frag) (fS fT Ru C:Addr):Prop where
 cl:Cls K C
 na:WL K C "form"
 ms:Meth K C "shape" fS
 mt:Meth K C "text" fT
 ha:PySem.W.findIn K (.ref C) "__class__"=some (some (.builtin "object.__class__"))
 hn:PySem.W.specialIn K (.builtin "object.__class__") "__get__"=some (some (.builtin "getset_descriptor.__get__"))
 htk:PySem.W.takesIn K (.builtin "object.__class__")=some true
 hm:PySem.W.mroIn K C (.type "object")=some true
 kit:PySem.W.kitOne K (.ref C) (.ref Ru)=some true
section
variable {B G0 H:Hp} {cs:yk} {ds:Dat} {Q:VK} {E:XK} {v w u:V} {K:PySem.W.Frag} {α:Type} {C:Addr} {x:PyData} {vs:List V}
theorem is_ins {G:Hp} (h:Is G (Gw C x) v):∃p dx w,v= .ref p/\G p=some (.ins C dx [("form",w)])/\Is G x w:=by
 unfold Gw at h;rw [Is,Eh] at h;obtain ⟨p,C',dx,w,e,h1,h2,h3⟩:=h;have:C=C':=Int.ofNat.inj (PyData.int.inj e);subst this;exact ⟨p,dx,w,h1,h2,h3⟩
theorem Sta.ins (S:Sta B G0 H cs ds) (h:Has ds (Gw C x) v):∃p dx w,v= .ref p/\H p=some (.ins C dx [("form",w)])/\Sta B G0 H cs ((x,w)::ds):=by
 obtain ⟨G,a,b,c,d,e,f,g⟩:=S;obtain ⟨p,dx,w,h1,h2,h3⟩:=is_ins (h G g);exact ⟨p,dx,w,h1,b _ _ h2,G,a,b,c,d,e,f,g.cons h3⟩
def kFld (K:PySem.W.Frag) (f:Str) (Q:VK):VK:=λx H1=>∃a C dx fs v,x= .ref a/\H1 a=some (.ins C dx fs)/\Cls K C/\WL K C f/\fs.lookup f=some v/\Q v H1
theorem rd_fld {ta:TE} {f:Str} {σ:L2.St} (h:ta σ H (kFld K f Q)):tFld K ta f σ H Q:=h
theorem By {fS fT Ru:Addr} (S:Sta B G0 H cs ds) (h:Has ds (Gw C x) v) (ok:ROk K fS fT Ru C) (k:∀w,Sta B G0 H cs ((x,w)::ds)->Q w H):kFld K "form" Q v H:=by
 obtain ⟨p,dx,w,rfl,hp,S'⟩:=S.ins h;exact ⟨p,C,dx,_,w,rfl,hp,ok.cl,ok.na,rfl,k w S'⟩
def kMA (K:PySem.W.Frag) (m:Str) (f:Addr) (sp:Sp) (E:XK) (Q:VK):VK:=λx H1=>∃a C dx fs,x= .ref a/\H1 a=some (.ins C dx fs)/\Cls K C/\Meth K C m f/\fs.lookup m=none/\sp [x] H1 Q E
theorem rd_methA {m:Str} {f:Addr} {sp:Sp} {ta:TE} {σ:L2.St} (h:ta σ H (kMA K m f sp E Q)):HB K m f sp E ta σ H Q:=h
theorem iP {fS fT Ru:Addr} {sp:Sp} (S:Sta B G0 H cs ds) (h:Has ds (Gw C x) v) (ok:ROk K fS fT Ru C) (k:sp [v] H Q E):kMA K "shape" fS sp E Q v H:=by
 obtain ⟨p,dx,w,rfl,hp,S'⟩:=S.ins h;exact ⟨p,C,dx,_,rfl,hp,ok.cl,ok.ms,rfl,k⟩
def yw (C:Addr) (enc:α->List PyData) (form:α->PyData):Sp:=λvs H Q _=>∃(G:Hp) (a:α) (x dx:Addr) (us:List V),vs= .ref x::us/\zL G H/\G x=none/\H x=some (.ins C dx [])/\zC G (enc a) us/\
 ∀H' G' w,(∀p o,p≠x->H p=some o->H' p=some o)->zL G G'->zL G' H'->(∀p,H p≠none->G' p=G p)->H' x=some (.ins C dx [("form",w)])->Is G' (form a) w->Q .non H'
def kMake (C:Addr) (sp:Sp) (E:XK) (Q:VK) (vs:List V) (H1:Hp):Prop:=∀x dx,H1 x=none->H1 dx=none->dx≠x->sp (.ref x::(vs++[])) (upd (upd H1 dx (.own x)) x (.ins C dx [])) (λv H2=>v= .non/\Q (.ref x) H2) E
theorem rd_make {sp:Sp} {t:TA} {σ:L2.St} (h:t σ H (kMake C sp E Q)):IJ C sp [] E t σ H Q:=h
def Yv (K:PySem.W.Frag) (fS fT Ru:Addr):Sp:=λvs H Q E=>∃C,ROk K fS fT Ru C/\yw C (α:=PyData) (λd=>[d]) (λd=>d) vs H Q E
theorem Yo {fS fT Ru y dx:Addr} {G H1:Hp} {d:PyData} (S:Sta H G H1 [] ds) (gx:G y=none) (hx:H y=some (.ins C dx [])) (ok:ROk K fS fT Ru C) (hd:Has ds d v)
 (k:∀H' G' w,(∀p o,p≠y->H p=some o->H' p=some o)->zL G G'->zL G' H'->(∀p,H p≠none->G' p=G p)->H' y=some (.ins C dx [("form",w)])->Is G' d w->Q .non H'):Yv K fS fT Ru [.ref y,v] H1 Q E:=by
 obtain ⟨G1,a1,b1,c1,d1,_,_,g1⟩:=S;refine ⟨C,ok,G1,d,y,dx,[v],rfl,b1,by rw [d1 y (by rw [hx];simp)];exact gx,c1 _ _ hx,(zV.cons hd zV.nil) G1 g1,λH' G' w h1 h2 h3 h4 h5 h6=>k H' G' w (λp o hp ho=>h1 p o hp (c1 p o ho)) (a1.trans h2) h3 (λp hp=>?_) h5 h6⟩;rw [h4 p ?_,d1 p hp]
 cases hb:H p with
 |none=>exact absurd hb hp
 |some o=>rw [c1 p o hb];simp
def rAddS:R2:=λx y H Q=>Fe x y H Q\/∃i j,x= .str i/\y= .str j/\i.length+j.length<=sizeLine/\Q (.str (i++j)) H
theorem op_addS {X:Cx}:OpR X (binaryOp .Add) rAddS:=BV.or vz
theorem rd_addS {i j:Str} (hl:i.length+j.length<=1000000) (h:Q (.str (i++j)) H):rAddS (.str i) (.str j) H Q:= .inr ⟨i,j,rfl,rfl,QI hl (by decide),h⟩
theorem rd_eqS {i j:Str} (h:Q (.bl (decide (i=j))) H):rEqA (.str i) (.str j) H Q:= .inl ⟨rfl,by
 rw [Ye (show V.str i=V.str j↔i=j from ⟨V.str.inj,congrArg _⟩)];exact h⟩
theorem rd_neS {i j:Str} (h:Q (.bl (!decide (i=j))) H):rNeA (.str i) (.str j) H Q:= .inl ⟨rfl,by
 rw [Ye (show V.str i=V.str j↔i=j from ⟨V.str.inj,congrArg _⟩)];exact h⟩
def rStrI:List V->Hp->VK->Prop:=λxs H Q=>∃i:Int,xs=[.int i]/\i.natAbs.log2<1920/\Q (.str (toString i)) H
theorem call_strI {X:Cx}:Wb X (.type "str") rStrI:=oN
theorem rd_strI {i:Int} (hz:Sz 210 i) (h:Q (.str (itS i)) H):rStrI [.int i] H Q:=⟨i,rfl,Ar hz (by decide),h⟩
theorem Is.str_of {x:Str} (h:Is H (.str x) v):v= .str x:=by rw [Is] at h;exact h
theorem HJ {lo hi:Option Int} {xs:List PyData} (S:Sta B G0 H cs ds) (hx:Has ds (.tuple xs) v) (hw:¬(HT.sIx xs.length 0 lo=0/\HT.sIx xs.length xs.length hi=xs.length)) (k:∀l H',zL H H'->Sta B G0 H' cs ((.tuple (lG xs lo hi), .ref l)::ds)->Q (.ref l) H'):rSlT K v lo hi H Q:=by
 obtain ⟨p,vs,rfl,hp,hl,S',hA⟩:=S.tupAll hx
 refine ⟨p,vs,rfl,SqT.of hp,by rw [<-hl];exact hw,λl hn=>k l _ (zL.new hn _) ((S'.newT hn λG a=>?_).dat λq hq=> .mem (by
  rcases Ql.mp hq with rfl|hq
  ·exact Qb ..
  ·exact Qd _ (QA _ hq)))⟩
 unfold lG Ad;rw [hl];exact ((hA G a).drop _).take _
theorem rd_kBMs {sep:Str} {r:V->List V->Hp->VK->Prop} {t:TA} {σ:L2.St} (h:t σ H λys H2=>r (.str sep) ys H2 Q):kBM K "str" r t σ Q (.str sep) H:=⟨rfl,h⟩
theorem iY {G:Hp}:∀{ns:List Str} {vs:List V},zC G (ns.map PyData.str) vs->vs=ns.map V.str
 |[],vs,h=>by rw [jao,zC] at h;exact h
 |n::ns,vs,h=>by
  rw [Qn,zC] at h;obtain ⟨v,r,rfl,h1,h2⟩:=h;rw [Is] at h1;subst h1;rw [iY h2,Qn]
theorem BA {L:Addr} {sep:Str} {ys:List Str} (S:Sta B G0 H cs ds) (h:(L,ys.map PyData.str)∈cs) (hok:JoinOk sep ys=true) (k:Q (.str (Builtin.Str.glued sep ys)) H):rJoin K (.str sep) [.ref L] H Q:=by
 obtain ⟨vs,hp,u⟩:=S.vwC h;obtain ⟨G,S'⟩:=id S;rw [iY (u G S')] at hp;exact ⟨sep,L,ys,rfl,rfl,SqL.of hp,hok,k⟩
theorem rd_ixTS {i:Int} {n:Str} {xs:List PyData} (S:Sta B G0 H cs ds) (hx:Has ds (.tuple xs) v) (hi:atI xs i=some (.str n)) (k:Q (.str n) H):rIx K v (.int i) H Q:=
 Ul S hx hi λw S'=>by have:=S'.top;rw [Is] at this;subst this;exact k
theorem Gs {a:Str} (h:a.length<=100000):JoinOk ", " [a]=true:=by
 have l:(", ":Str).length=2:=by decide+kernel
 have z:sizeLine=16777216:=by decide
 unfold JoinOk;rw [Bool.not_eq_true',Builtin.Str.tooLong,decide_eq_false_iff_not,<-Array.foldl_toList];show ¬(0+a.length+(", ":Str).length>sizeLine);omega
theorem Gr {a b:Str} (h:a.length<=100000) (g:b.length<=100000):JoinOk ", " [a,b]=true:=by
 have l:(", ":Str).length=2:=by decide+kernel
 have z:sizeLine=16777216:=by decide
 unfold JoinOk;rw [Bool.not_eq_true',Builtin.Str.tooLong,decide_eq_false_iff_not,<-Array.foldl_toList];show ¬(0+a.length+(", ":Str).length+b.length+(", ":Str).length>sizeLine);omega
def UM (A:RAd):Sp:=spT (α:=Rl) (λr=>[r.ins A]) (λ_=>True) (λr=>r.shape)
theorem WR {A:RAd} {r:Rl} (S:Sta B G0 H cs ds) (h:Has ds (r.ins A) v) (k:∀w H',zL H H'->Sta B G0 H' cs ((r.shape,w)::ds)->Q w H'):UM A [v] H Q E:=Zw (α:=Rl) r S (zV.cons h zV.nil) trivial k
end
def ZQ (P:Program) (w:World) (K:PySem.W.Frag) (mg:Str->Option Value) (base:Heap) (x:Str) (C:Addr) (ps:List Str) (sp:Sp):Prop:=∃f fd,Mk K C f/\FnOk P w K mg base CX0 2 f fd ps sp/\yD K fd ps []/\mg x=some (.ref C)
def Hq (K:PySem.W.Frag) (a:Addr) (n:Nat):It:=
 ⟨λi H=>i<n/\∃xs x,SqL K H a xs/\xs[n - 1 - i]? =some x,λi H x H'=>H'=H/\∀xs,SqL K H a xs->xs[n - 1 - i]? =some x,λi _=>n<=i⟩
theorem ED {P:Program} {w:World} {K:PySem.W.Frag} {tg:Expr} (a it:Addr) (n:Nat):Turn P w K tg (Hq K a n) [it] it (λi h=>i<=n/\h.IsRevIter it a ((n:Int) - 1 - (i:Nat))) where
 mem:=by simp
 obj:=λi h st b hb=>by
  have e:b=it:=by simpa using hb
  subst e;obtain ⟨_,o,e,c,d⟩:=st;exact ⟨o,e,λv z=>by rw [d] at z;cases z⟩
 keep:=λi h h' st k=>⟨st.1,st.2.at λo e=>k it (by simp) o e⟩
 item:=by
  intro X hP hw hK hc i pins s σ H E I hf st hg;subst hP hw hK;obtain ⟨hi,xs,x,hq,hx⟩:=hg;obtain ⟨its,rv,p,hz⟩:=I.list hq;obtain ⟨u,hu,ru⟩:=rv.get hx;obtain ⟨f0,f1,f2,f3,f4,f5⟩:=hf it (by simp);have ek:(n:Int) - 1 - (i:Nat)=((n - 1 - i:Nat):Int):=by omega
  have Mp:=st.2;rw [ek] at Mp;refine wpAny_pyNext_rev_item Mp p.isList (x:=u) (by simpa using hu) λh' Ml sb=>?_;have I1:Inv X pins σ H {s with heap:=h'}:=I.turned (t':=s.toks) (λb o hb e=>(sb.2 b hb).trans e) f0 f1 f3 f4 f5;obtain ⟨o,e,c,d⟩:=id Ml
  exact ⟨u,rfl,Dg (s:={s with heap:=h'}) e c d (by decide) ⟨x,H,I1,ru,⟨rfl,λys hy=>by rw [I.list_inj hy hq];exact hx⟩,⟨by omega,by
   rw [show (n:Int) - 1 - ((i+1:Nat):Int)=((n - 1 - i:Nat):Int) - 1 by omega];exact Ml⟩,λb hb=>(hf b hb).1⟩⟩
 done:=by
  intro X hP hw hK hc i pins s σ H E I hf st hg;subst hP hw hK;obtain ⟨f0,f1,f2,f3,f4,f5⟩:=hf it (by simp);have OP:n<=i:=hg;have Mp:=st.2;rw [show (n:Int) - 1 - (i:Nat)= -1 by have:=st.1;omega] at Mp;exact wpAny_pyNext_rev_end (I.ok.hd hc) Mp λh' eb=>⟨rfl,I.turned (t':=s.toks) (λb o hb e=>eb b o hb e) f0 f1 f3 f4 f5⟩
 self:=λ_ _ _ _ _ st h=>wpAny_pyIter_revIter st.2 h
def iRev (K:PySem.W.Frag) (ta:TA):TI:=λσ H R=>ta σ H λvs H1=>∃a xs,vs=[.ref a]/\SqL K H1 a xs/\R (Hq K a xs.length) H1
section
variable {X:Cx}
theorem pi_rev {tg a:Expr} {ta:TA} {p pos:Pos} (hg:Gl X "reversed") (hm:X.mg "reversed"=none) (ha:PA X [a] ta) (hs:starEach [a] X.env=[(false,eval a X.env)]:=by rfl):
 PI X tg (.Call (.Name "reversed" p) [a] [] pos) (iRev X.K ta):=by
 intro pins s σ H R I h;refine Call_ (Vm I hg hm rV (TF (thn (ha pos pins s σ H _ I h) λus s1 ⟨vs,H1,I1,r1,q1⟩=>?_) hs rfl));obtain ⟨l,xs,e,hq,q⟩:=q1;subst e;obtain ⟨u,rfl,ru⟩:=UI r1;cases (show u=Value.ref l from ru);obtain ⟨its,rv,p1,hz⟩:=I1.list hq;have hl:=rv.length;refine call_reversed_list p1.isList ?_
 have hit:Heap.IsRevIter (s1.heap.push (revObj l ((its.toArray.size:Int) - 1))) s1.heap.objs.size l ((xs.length:Int) - 1 - ((0:Nat):Int)):=⟨_,Qu _ rfl,rfl,by
  show Data.fields #[.ref l,rawInt ((its.toArray.size:Int) - 1)]=_
  rw [QD,<-hl];simp⟩
 refine wpAny_pyIter_revIter (s:={s1 with heap:=s1.heap.push (revObj l ((its.toArray.size:Int) - 1))}) hit ?_;have I2:Inv X pins σ H1 {s1 with heap:=s1.heap.push (revObj l ((its.toArray.size:Int) - 1))}:=I1.kept (t':=s1.toks) λb o e=>Qh _ e;refine ⟨s1.heap.objs.size,[s1.heap.objs.size],_,_,H1,rfl,I2,ED l _ xs.length,⟨TH _,hit⟩,λb hb=>?_,q⟩;have e:b=s1.heap.objs.size:=by simpa using hb
 subst e;exact I1.fpOk (Qp _) (I1.hok.fresh (Qp _))
end
def kRv (K:PySem.W.Frag) (R:It->Hp->Prop):List V->Hp->Prop:=λvs H1=>∃a xs,vs=[.ref a]/\SqL K H1 a xs/\R (Hq K a xs.length) H1
section
variable {B G0 H:Hp} {cs:yk} {ds:Dat} {K:PySem.W.Frag} {a:Addr} {xs ys:List PyData} {P:yk->Dat->Prop} {v:V} {σ:L2.St} {R:It->Hp->Prop} {ta:TA}
theorem rd_iRv (h:ta σ H (kRv K R)):iRev K ta σ H R:=h
theorem wk_rev (s:Src B G0 true K a xs P):Wk B G0 (Hq K a xs.length) xs.reverse P where
 go:=λ{H cs ds i} S h hi=>by
  rw [Tj] at hi;obtain ⟨vs,q,hl,_⟩:=s S h;exact ⟨hi,vs,vs[xs.length - 1 - i]'(by omega),q,Qc _⟩
 stop:=λ{H cs ds i} S h hi=>by rw [Tj] at hi;exact hi
 yld:=λ{H H' cs ds i x v} S h hx y=>by
  obtain ⟨e,y⟩:=y;subst e;obtain ⟨vs,q,hl,z⟩:=s S h;have hi:i<xs.length:=by have:=(Qf.mp hx).1;rwa [Tj] at this
  rw [List.getElem?_reverse hi] at hx;obtain ⟨w,hw,S'⟩:=z _ x hx;have:=y vs q;rw [hw] at this;cases this;exact ⟨zL.refl _,S'⟩
theorem Ji (S:Sta B G0 H cs ds) (h:Has ds (.list xs) v) (k:∀J,Wk B G0 J xs.reverse (λ_ ds=>Has ds (.list xs) v)->R J H):kRv K R [v] H:=by
 obtain ⟨p,vs,rfl,hp,hl,_⟩:=S.lst h;refine ⟨p,vs,rfl,SqL.of hp,?_⟩;rw [<-hl];exact k _ (wk_rev cf)
end
def VA (l c:zg):zg:=(l.1 - c.1,List.zipWith (· - ·) l.2 c.2)
def Vh (l c:zg):zg:=(l.1+c.1,List.zipWith (·+·) l.2 c.2)
def lastC (a:List zg):zg:=a.getLast?.getD (0,[])
def yj (a:List zg):List zg:=a.reverse.map (VA (lastC a))
def zP (p:Rat) (a:List zg):List zg:=a.map λc=>(c.1*p,c.2.map (·*p))
def yx (a b:List zg):List zg:=b.tail.map (Vh (lastC a))
section
variable {B G0 H:Hp} {cs:yk} {ds:Dat} {Q:VK} {E:XK} {v w:V}
def mO (g:Rat->Rat->Rat):Sp:=spT (α:=List Rat×List Rat) (λa=>[zO a.1,zO a.2]) (λa=>(∀q∈a.1,SzQ 4000 q)/\(∀q∈a.2,SzQ 4000 q)/\a.1.length<=1000) (λa=>zO (List.zipWith g a.1 a.2))
theorem BD {g:Rat->Rat->Rat} {p q:List Rat} (S:Sta B G0 H cs ds) (h1:Has ds (zO p) v) (h2:Has ds (zO q) w) (s1:∀x∈p,SzQ 4000 x) (s2:∀x∈q,SzQ 4000 x) (hl:p.length<=1000)
 (k:∀r H',zL H H'->Sta B G0 H' cs ((zO (List.zipWith g p q),r)::ds)->Q r H'):mO g [v,w] H Q E:=
 Zw (p,q) S (.cons h1 (.cons h2 .nil)) ⟨s1,s2,hl⟩ k
structure PathIn (a:List zg):Prop where
 ne:a≠[]
 sz:∀c∈a,SzC 4000 c
 len:∀c∈a,c.2.length<=1000
 few:a.length<=450
theorem PathIn.last {a:List zg} (h:PathIn a):a.getLast? =some (lastC a)/\lastC a∈a:=by
 obtain ⟨l,hl⟩:∃l,a.getLast? =some l:=⟨_,QW h.ne⟩;have e:lastC a=l:=by unfold lastC;rw [hl];rfl
 rw [e];exact ⟨hl,jam hl⟩
theorem SzC.mono {m n:Nat} {c:zg} (h:SzC m c) (l:m<=n):SzC n c:=⟨h.1.mono l,λq hq=>(h.2 q hq).mono l⟩
def cg:Sp:=spL (α:=List zg) (λa=>[zE a]) PathIn (λa=>(yj a).map zu)
theorem ny {a:List zg} (S:Sta B G0 H cs ds) (h:Has ds (zE a) v) (ok:PathIn a) (k:∀p H',zL H H'->Sta B G0 H' ((p,(yj a).map zu)::cs) ds->Q (.ref p) H'):cg [v] H Q E:=
 Zd a S (.cons h .nil) ok k
def jJ:Sp:=spL (α:=List zg×Rat) (λa=>[zE a.1,frD a.2]) (λa=>PathIn a.1/\SzQ 4000 a.2) (λa=>(zP a.2 a.1).map zu)
theorem nF {a:List zg} {p:Rat} (S:Sta B G0 H cs ds) (h:Has ds (zE a) v) (h2:Has ds (frD p) w) (ok:PathIn a) (sp:SzQ 4000 p) (k:∀q H',zL H H'->Sta B G0 H' ((q,(zP p a).map zu)::cs) ds->Q (.ref q) H'):jJ [v,w] H Q E:=
 Zd (a,p) S (.cons h (.cons h2 .nil)) ⟨ok,sp⟩ k
noncomputable def Ua:Sp:=spL (α:=List zg×List zg) (λa=>[zE a.1,zE a.2]) (λa=>PathIn a.1/\PathIn a.2/\∃m,PathOk m (a.1++yx a.1 a.2)) (λa=>(yg (a.1++yx a.1 a.2)).map zu)
theorem nN {a b:List zg} {m:Nat} (S:Sta B G0 H cs ds) (h:Has ds (zE a) v) (h2:Has ds (zE b) w) (ok:PathIn a) (OM:PathIn b) (Rr:PathOk m (a++yx a b))
 (k:∀p H',zL H H'->Sta B G0 H' ((p,(yg (a++yx a b)).map zu)::cs) ds->Q (.ref p) H'):Ua [v,w] H Q E:=
 Zd (a,b) S (.cons h (.cons h2 .nil)) ⟨ok,OM,m,Rr⟩ k
end
def Zr (t x y:Rat):Rat:=x+t*(y - x)
def Yg (c d:zg) (E:Rat):List Rat:=List.zipWith (Zr ((E - c.1) / (d.1 - c.1))) c.2 d.2
def zh:List zg->Rat->List Rat
 |[],_=>[]
 |[c],_=>c.2
 |c::d::r,E=>if E<d.1 then Yg c d E else zh (d::r) E
def yl (a:List zg):Prop:=a.Pairwise λc d=>c.1<d.1
theorem Ya {E:Rat}:∀{a:List zg} {i:Nat} {c:zg},yl a->a[i]? =some c->c.1<=E->(i+1=a.length\/∃d,a[i+1]? =some d/\E<d.1)->zh a E=match a[i+1]? with|none=>c.2|some d=>Yg c d E
 |[],i,c,_,h,_,_=>by simp at h
 |[b],i,c,_,h,_,_=>by
  cases i with
  |zero=>cases h;rfl
  |succ i=>simp at h
 |b::d::r,i,c,hr,h,hc,hE=>by
  cases i with
  |zero=>
   cases h
   rcases hE with hE|⟨d',MG,hE⟩
   ·simp at hE
   ·cases MG;rw [zh,QH hE];rfl
  |succ i=>
   have MT:yl (d::r):=(Qk.mp hr).2;have h':(d::r)[i]? =some c:=by simpa using h
   have hd:d.1<=c.1:=by
    cases i with
    |zero=>cases h';exact QL
    |succ i=>exact QJ ((Qk.mp MT).1 c (Qe (by simpa using h')))
   have Px:¬E<d.1:=QX.mpr (Tw hd hc);rw [zh,QP Px]
   have:=Ya (a:=d::r) (i:=i) (c:=c) MT h' hc (by
    rcases hE with hE|⟨d',MG,hE⟩
    ·left;simpa using hE
    ·right;exact ⟨d',by simpa using MG,hE⟩)
   rw [this]
   simp
def Yb:List zg->Rat->List Rat
 |[],_=>[]
 |[c],_=>c.2
 |c::d::r,E=>if E<=d.1 then Yg c d E else Yb (d::r) E
theorem oz {E:Rat}:∀{a:List zg} {i:Nat} {c d:zg},(∀(j:Nat) (x:zg),j<i->a[j+1]? =some x->x.1<E)->a[i]? =some c->a[i+1]? =some d->E<=d.1->Yb a E=Yg c d E
 |[],i,c,d,_,h,_,_=>by simp at h
 |[b],i,c,d,_,_,h,_=>by simp at h
 |b::b'::r,0,c,d,_,h,h',hE=>by
  cases h;cases h';rw [Yb,QH hE]
 |b::b'::r,i+1,c,d,LS,h,h',hE=>by
  have h0:=LS 0 b' (by omega) rfl;rw [Yb,QP (jaA.mpr h0)];exact oz (i:=i) (λj x hj hx=>LS (j+1) x (by omega) (by simpa using hx)) (by simpa using h) (by simpa using h') hE
theorem iV {E:Rat}:∀{a:List zg} {c:zg},(∀(j:Nat) (x:zg),a[j+1]? =some x->x.1<E)->a.getLast? =some c->Yb a E=c.2
 |[],c,_,h=>by simp at h
 |[b],c,_,h=>by cases h;rfl
 |b::b'::r,c,LS,h=>by
  have h0:=LS 0 b' rfl;rw [Yb,QP (jaA.mpr h0)];exact iV (λj x hx=>LS (j+1) x (by simpa using hx)) (by simpa using h)
theorem CA (x y:Rat):Zr 0 x y=x:=by unfold Zr;grind
theorem tL (x y:Rat):Zr 1 x y=y:=by unfold Zr;grind
theorem mD {f:Rat->Rat->Rat} (hf:∀x y,f x y=x):∀{l r:List Rat},l.length=r.length->List.zipWith f l r=l
 |[],[],_=>rfl
 |x::l,y::r,h=>by rw [jaa,hf,mD hf (by simpa using h)]
 |[],_::_,h=>by simp at h
 |_::_,[],h=>by simp at h
theorem iC {f:Rat->Rat->Rat} (hf:∀x y,f x y=y):∀{l r:List Rat},l.length=r.length->List.zipWith f l r=r
 |[],[],_=>rfl
 |x::l,y::r,h=>by rw [jaa,hf,iC hf (by simpa using h)]
 |[],_::_,h=>by simp at h
 |_::_,[],h=>by simp at h
theorem Xc {c d:zg} (h:c.2.length=d.2.length):Yg c d c.1=c.2:=by
 unfold Yg;have:(c.1 - c.1) / (d.1 - c.1)=0:=by rw [Rat.sub_self,jbd,jbE]
 rw [this];exact mD CA h
theorem cE {c d:zg} (h:c.2.length=d.2.length) (LS:c.1<d.1):Yg c d d.1=d.2:=by
 unfold Yg
 have Ma:d.1 - c.1≠0:=λz=>by
  have:d.1=c.1:=by grind
  rw [this] at LS;exact jbP LS
 have:(d.1 - c.1) / (d.1 - c.1)=1:=by rw [jbd];exact QZ _ Ma
 rw [this];exact iC tL h
theorem ow {m:Nat} {E:Rat}:∀{a:List zg},yl a->(∀c∈a,c.2.length=m)->Yb a E=zh a E
 |[],_,_=>rfl
 |[c],_,_=>rfl
 |c::d::r,hr,hl=>by
  have MT:yl (d::r):=(Qk.mp hr).2;have Ms:=λx hx=>hl x (Qd _ hx);have LW:c.1<d.1:=(Qk.mp hr).1 d (Qb ..);have lcd:c.2.length=d.2.length:=by rw [hl c (Qb ..),hl d (Qd _ (Qb ..))]
  rw [Yb,zh]
  by_cases h1:E<d.1
  ·rw [QH h1,QH (QJ h1)]
  ·rw [QP h1]
   by_cases h2:E<=d.1
   ·have e:E=d.1:=jaH h2 (QX.mp h1);subst e;rw [QH h2,cE lcd LW]
    cases r with
    |nil=>rfl
    |cons f r=>
     have MX:d.1<f.1:=(Qk.mp MT).1 f (Qb ..);rw [zh,QH MX,Xc];rw [Ms d (Qb ..),Ms f (Qd _ (Qb ..))]
   ·rw [QP h2];exact ow MT Ms
theorem Gv (a b:Rat):(a*b)⁻¹=a⁻¹*b⁻¹:=by
 by_cases ha:a=0
 ·subst ha;rw [jbE,Rat.inv_zero,jbE]
 ·by_cases hb:b=0
  ·subst hb;rw [Rat.mul_zero,Rat.inv_zero,Rat.mul_zero]
  ·have h1:=QZ a ha;have h2:=QZ b hb;have h3:(a*b)*(a*b)⁻¹=1:=QZ _ (by grind)
   grind
theorem Cz {a1 a2 a3 a4 a5 b1 b2 b3 b4:Rat} (n1:a1≠0) (n2:a2≠0) (n3:a3≠0) (n4:a4≠0) (n5:a5≠0) (n6:b4≠0):
 (b1*a2*(b4*a5 - b3*a4)+b2*a1*(b3*a4)) / (a1*a2*(b4*a5))=b1 / a1+b3 / (a3*a5) / (b4 / (a3*a4))*(b2 / a2 - b1 / a1):=by
 have i1:=QZ a1 n1;have i2:=QZ a2 n2;have i3:=QZ a3 n3;have i4:=QZ a4 n4;have i5:=QZ a5 n5;have i6:=QZ b4 n6;simp only [jbd,Gv,Rat.inv_inv];generalize a1⁻¹=c1 at*;generalize a2⁻¹=c2 at*;generalize a3⁻¹=c3 at*;generalize a4⁻¹=c4 at*;generalize a5⁻¹=c5 at*;generalize b4⁻¹=c6 at*
 grind
theorem JT {x y l h e:Rat} (LS:l<h):
 Rat.divInt (x.num*(y.den:Int)*((h.num*(l.den:Int) - l.num*(h.den:Int))*(e.den:Int) - (e.num*(l.den:Int) - l.num*(e.den:Int))*(h.den:Int))+y.num*(x.den:Int)*((e.num*(l.den:Int) - l.num*(e.den:Int))*(h.den:Int)))
  ((x.den:Int)*(y.den:Int)*((h.num*(l.den:Int) - l.num*(h.den:Int))*(e.den:Int)))=Zr ((e - l) / (h - l)) x y/\0<(h.num*(l.den:Int) - l.num*(h.den:Int))*(e.den:Int):=by
 have hH:0<h.num*(l.den:Int) - l.num*(h.den:Int):=by
  have:=(Rat.lt_iff l h).mp LS;omega
 refine ⟨?_,Int.mul_pos hH (den_pos e)⟩;have g1:e - l=(e.num*(l.den:Int) - l.num*(e.den:Int):Int) / (((l.den:Int)*(e.den:Int):Int):Rat):=by rw [<-aB,Rat.divInt_eq_div]
 have g2:h - l=(h.num*(l.den:Int) - l.num*(h.den:Int):Int) / (((l.den:Int)*(h.den:Int):Int):Rat):=by rw [<-aB,Rat.divInt_eq_div]
 have hx:x=(x.num:Rat) / ((x.den:Int):Rat):=by rw [<-Rat.divInt_eq_div,jbJ]
 have hy:y=(y.num:Rat) / ((y.den:Int):Rat):=by rw [<-Rat.divInt_eq_div,jbJ]
 have nz:∀q:Rat,((q.den:Int):Rat)≠0:=λq z=>by
  have:=Rat.intCast_inj.mp (z.trans Rat.intCast_zero.symm);have:=den_pos q;omega
 have nH:((h.num*(l.den:Int) - l.num*(h.den:Int):Int):Rat)≠0:=λz=>by
  have:=Rat.intCast_inj.mp (z.trans Rat.intCast_zero.symm);omega
 unfold Zr;rw [g1,g2,Rat.divInt_eq_div];generalize e.num*(l.den:Int) - l.num*(e.den:Int)=EN at*;generalize h.num*(l.den:Int) - l.num*(h.den:Int)=HN at*
 conv=>rhs;rw [hx,hy]
 have n1:=nz x;have n2:=nz y;have n3:=nz l;have n4:=nz h;have n5:=nz e;simp only [jag,Rat.intCast_add,jbb];exact Cz n1 n2 n3 n4 n5 nH
section
variable {B G0 H:Hp} {cs:yk} {ds:Dat} {Q:VK} {E:XK} {v w u:V}
def sY:Sp:=λvs H Q _=>∃(qs:List Rat) (e:Rat) (n:Nat),zC H [.list (qs.map frD),frD e] vs/\(0<qs.length/\qs.length<=1000000/\(∀q∈qs,SzQ n q)/\SzQ n e/\n<=40000000/\∀q,qs[0]? =some q->q<=e)/\
 ∀(i:Nat) (q:Rat),qs[i]? =some q->q<=e->(i+1=qs.length\/∃r,qs[i+1]? =some r/\e<r)->Q (.int (i:Nat)) H
theorem Bv {qs:List Rat} {e:Rat} {n:Nat} (S:Sta B G0 H cs ds) (h1:Is H (.list (qs.map frD)) v) (h2:Is H (frD e) w) (hd:0<qs.length/\qs.length<=1000000/\(∀q∈qs,SzQ n q)/\SzQ n e/\n<=40000000/\∀q,qs[0]? =some q->q<=e)
 (k:∀(i:Nat) (q:Rat),qs[i]? =some q->q<=e->(i+1=qs.length\/∃r,qs[i+1]? =some r/\e<r)->Q (.int (i:Nat)) H):sY [v,w] H Q E:=
 ⟨qs,e,n,by simp only [zC];exact ⟨_,_,rfl,h1,_,_,rfl,h2,rfl⟩,hd,k⟩
def VZ:Sp:=spT (α:=Rat×Rat×Rat) (λa=>[frD a.1,frD a.2.1,frD a.2.2]) (λa=>(∃m n,SzQ n a.1/\SzQ n a.2.1/\SzQ m a.2.2/\m+3*n+2<=8999)/\a.2.1≠a.1) (λa=>frD ((a.2.2 - a.1) / (a.2.1 - a.1)))
theorem iN {s e x:Rat} {m n:Nat} (S:Sta B G0 H cs ds) (h1:Has ds (frD s) v) (h2:Has ds (frD e) w) (h3:Has ds (frD x) u) (z1:SzQ n s) (z2:SzQ n e) (z3:SzQ m x) (hz:m+3*n+2<=8999) (Ma:e≠s)
 (k:∀r H',zL H H'->Sta B G0 H' cs ((frD ((x - s) / (e - s)),r)::ds)->Q r H'):VZ [v,w,u] H Q E:=
 Zw (s,e,x) S (.cons h1 (.cons h2 (.cons h3 .nil))) ⟨⟨m,n,z1,z2,z3,hz⟩,Ma⟩ k
def cu:Sp:=spT (α:=Rat×Rat×Rat) (λa=>[frD a.1,frD a.2.1,frD a.2.2]) (λa=>∃m n,SzQ n a.1/\SzQ n a.2.1/\SzQ m a.2.2/\m+3*n+2<=8999) (λa=>frD (Zr a.2.2 a.1 a.2.1))
theorem nP {s e t:Rat} {m n:Nat} (S:Sta B G0 H cs ds) (h1:Has ds (frD s) v) (h2:Has ds (frD e) w) (h3:Has ds (frD t) u) (z1:SzQ n s) (z2:SzQ n e) (z3:SzQ m t) (hz:m+3*n+2<=8999)
 (k:∀r H',zL H H'->Sta B G0 H' cs ((frD (Zr t s e),r)::ds)->Q r H'):cu [v,w,u] H Q E:=
 Zw (s,e,t) S (.cons h1 (.cons h2 (.cons h3 .nil))) ⟨m,n,z1,z2,z3,hz⟩ k
def dh:Sp:=spT (α:=zg×zg×Rat) (λa=>[zu a.1,zu a.2.1,frD a.2.2]) (λa=>(∃m n,SzC n a.1/\SzC n a.2.1/\SzQ m a.2.2/\m+6*n+4<=8999)/\a.1.1<a.2.1.1/\a.1.2.length<=1000) (λa=>zO (Yg a.1 a.2.1 a.2.2))
theorem vt {c d:zg} {e:Rat} {m n:Nat} (S:Sta B G0 H cs ds) (h1:Has ds (zu c) v) (h2:Has ds (zu d) w) (h3:Has ds (frD e) u) (z1:SzC n c) (z2:SzC n d) (z3:SzQ m e) (hz:m+6*n+4<=8999) (LS:c.1<d.1) (hl:c.2.length<=1000)
 (k:∀r H',zL H H'->Sta B G0 H' cs ((zO (Yg c d e),r)::ds)->Q r H'):dh [v,w,u] H Q E:=
 Zw (c,d,e) S (.cons h1 (.cons h2 (.cons h3 .nil))) ⟨⟨m,n,z1,z2,z3,hz⟩,LS,hl⟩ k
structure PathR (n:Nat) (a:List zg):Prop where
 ne:a≠[]
 sz:∀c∈a,SzC n c
 len:∀c∈a,c.2.length<=1000
 few:a.length<=900
 rise:yl a
 zero:∀c,a[0]? =some c->c.1=0
def mN:Sp:=spP (α:=Rat×Rat) (λa=>[frD a.1,frD a.2]) (λa=>∃m n,SzQ m a.1/\SzQ n a.2/\m+n<=100000000) (λa=> .bl (decide (a.1<a.2)))
theorem qE {p q:Rat} {m n:Nat} (S:Sta B G0 H cs ds) (h1:Has ds (frD p) v) (h2:Has ds (frD q) w) (s1:SzQ m p) (s2:SzQ n q) (Mz:m+n<=100000000) (k:Q (.bl (decide (p<q))) H):mN [v,w] H Q E:=
 HI (p,q) S (.cons h1 (.cons h2 .nil)) ⟨m,n,s1,s2,Mz⟩ k
def Wg:Sp:=spT (α:=List zg×Rat) (λa=>[zE a.1,frD a.2]) (λa=>∃m n,PathR n a.1/\SzQ m a.2/\m+6*n+4<=8999/\0<=a.2) (λa=>zO (zh a.1 a.2))
theorem YQ {a:List zg} {e:Rat} {m n:Nat} (S:Sta B G0 H cs ds) (h1:Has ds (zE a) v) (h2:Has ds (frD e) w) (ok:PathR n a) (z:SzQ m e) (hz:m+6*n+4<=8999) (h0:0<=e)
 (k:∀r H',zL H H'->Sta B G0 H' cs ((zO (zh a e),r)::ds)->Q r H'):Wg [v,w] H Q E:=
 Zw (a,e) S (.cons h1 (.cons h2 .nil)) ⟨m,n,ok,z,hz,h0⟩ k
end
theorem zJ {a b:Rat} (h:a*b=0) (hb:b≠0):a=0:=by
 have h1:=QZ b hb;have:a=a*b*b⁻¹:=by rw [Rat.mul_assoc,h1,Rat.mul_one]
 rw [this,h,jbE]
theorem xC {a b:Rat} (h:a<b):b - a≠0:=λz=>by
 have:b=a:=by grind
 rw [this] at h;exact jbP h
theorem yB {s e x y E:Rat} (h:s<e):(Zr ((E - s) / (e - s)) x y - x)*(e - s)=(E - s)*(y - x):=by
 have h1:=QZ _ (xC h);unfold Zr;rw [jbd];generalize (e - s)⁻¹=i at*
 grind
theorem Zc {c d:zg} {E:Rat} {i:Nat} {z:Rat} (h:(Yg c d E)[i]? =some z):∃x y,c.2[i]? =some x/\d.2[i]? =some y/\z=Zr ((E - c.1) / (d.1 - c.1)) x y:=by
 unfold Yg at h;rw [QC] at h
 cases hx:c.2[i]? with
 |none=>rw [hx] at h;cases h
 |some x=>
  cases hy:d.2[i]? with
  |none=>rw [hx,hy] at h;cases h
  |some y=>rw [hx,hy] at h;exact ⟨x,y,rfl,rfl,(Qz h).symm⟩
structure PathT (m:Nat) (a:List zg):Prop where
 rise:yl a
 len:∀c∈a,c.2.length=m
 thin:∀(i:Nat) (x y z:zg),a[i]? =some x->a[i+1]? =some y->a[i+2]? =some z->¬zN x y z
theorem PathT.tail {m:Nat} {c:zg} {a:List zg} (h:PathT m (c::a)):PathT m a:=
 ⟨(Qk.mp h.rise).2,λx hx=>h.len x (Qd _ hx),λi x y z hx hy hz=>h.thin (i+1) x y z (by simpa using hx) (by simpa using hy) (by simpa using hz)⟩
theorem zB {c d:zg} {r:List zg} {E:Rat} (h:d.1<=E):zh (c::d::r) E=zh (d::r) E:=by
 rw [zh,QP (QX.mpr h)]
theorem yf {m:Nat} {c:zg} {r:List zg} (h:PathT m (c::r)):zh (c::r) c.1=c.2:=by
 cases r with
 |nil=>rfl
 |cons d r=>
  rw [zh,QH ((Qk.mp h.rise).1 d (Qb ..)),Xc];rw [h.len c (Qb ..),h.len d (Qd _ (Qb ..))]
theorem ff {m:Nat}:∀{c:zg} {r:List zg},PathT m (c::r)->c.1<=(lastC (c::r)).1
 |c,[],_=>QL
 |c,d::r,h=>by
  have h1:=(Qk.mp h.rise).1 d (Qb ..);have h2:=ff h.tail;have e:lastC (c::d::r)=lastC (d::r):=by unfold lastC;rw [TQ]
  rw [e];exact Tw (QJ h1) h2
theorem yL (c d:zg) (r:List zg):lastC (c::d::r)=lastC (d::r):=by unfold lastC;rw [TQ]
theorem tJ {m:Nat} {c d f:zg} {ra rb:List zg} (ha:PathT m (c::d::ra)) (hb:PathT m (c::f::rb)) (LZ:(lastC (c::d::ra)).1=(lastC (c::f::rb)).1)
 (agree:∀e:Rat,(∃x∈d::ra,x.1=e)\/(∃x∈f::rb,x.1=e)->zh (c::d::ra) e=zh (c::f::rb) e) (MX:d.1<f.1):False:=by
 have LW:=(Qk.mp ha.rise).1 d (Qb ..);have RN:=(Qk.mp hb.rise).1 f (Qb ..)
 have e1:d.2=Yg c f d.1:=by
  have:=agree d.1 (.inl ⟨d,Qb ..,rfl⟩);rw [zB QL,yf ha.tail,zh,QH MX] at this;exact this
 cases ra with
 |nil=>
  have h1:=ff hb.tail;have e:lastC [c,d]=d:=rfl;rw [e,yL] at LZ;rw [<-LZ] at h1;exact QX.mpr h1 MX
 |cons g ra=>
  have hdg:=(Qk.mp ha.tail.rise).1 g (Qb ..);refine ha.thin 0 c d g rfl rfl rfl λi x y z hx hy hz=>?_;have lx:i<m:=by rw [<-ha.len c (Qb ..)];exact (Qf.mp hx).1
  have ME:(Yg c f d.1)[i]? =some y:=by rw [<-e1];exact hy
  obtain ⟨x',w,Mj,hw,ey⟩:=Zc ME;rw [hx] at Mj;cases Mj;have l1:=yB (x:=x) (y:=w) (E:=d.1) RN;rw [<-ey] at l1;have ne1:=xC RN;have ne2:=xC MX
  by_cases hgf:g.1<=f.1
  ·have e2:g.2=Yg c f g.1:=by
    have:=agree g.1 (.inl ⟨g,Qd _ (Qb ..),rfl⟩);rw [zB (QJ hdg),zB QL,yf ha.tail.tail] at this
    by_cases h:g.1<f.1
    ·rw [zh,QH h] at this;exact this
    ·have e:g.1=f.1:=jaH hgf (QX.mp h);rw [e] at this⊢;rw [zB QL,yf hb.tail] at this;rw [this,cE (by rw [hb.len c (Qb ..),hb.len f (Qd _ (Qb ..))]) RN]
   have MJ:(Yg c f g.1)[i]? =some z:=by rw [<-e2];exact hz
   obtain ⟨x'',w',NM,Rx,ez⟩:=Zc MJ;rw [hx] at NM;cases NM;rw [hw] at Rx;cases Rx;have l2:=yB (x:=x) (y:=w) (E:=g.1) RN;rw [<-ez] at l2;have key:((y - x)*(g.1 - c.1) - (z - x)*(d.1 - c.1))*(f.1 - c.1)=0:=by grind
   have:=zJ key ne1
   grind
  ·have hfg:f.1<g.1:=jaA.mp hgf
   have e2:f.2=Yg d g f.1:=by
    have:=agree f.1 (.inr ⟨f,Qb ..,rfl⟩);rw [zB (QJ MX),zh,QH hfg,zB QL,yf hb.tail] at this;exact this.symm
   have Rx:(Yg d g f.1)[i]? =some w:=by rw [<-e2];exact hw
   obtain ⟨y',z',ME,MJ,ew⟩:=Zc Rx;rw [hy] at ME;cases ME;rw [hz] at MJ;cases MJ;have l2:=yB (x:=y) (y:=z) (E:=f.1) hdg;rw [<-ew] at l2;have key:((y - x)*(g.1 - c.1) - (z - x)*(d.1 - c.1))*((f.1 - d.1)*(f.1 - c.1))=0:=by grind
   have ne3:(f.1 - d.1)*(f.1 - c.1)≠0:=λz=>ne2 (zJ z ne1);have:=zJ key ne3
   grind
theorem Kg {m:Nat}:∀{ra rb:List zg} {c:zg},PathT m (c::ra)->PathT m (c::rb)->(lastC (c::ra)).1=(lastC (c::rb)).1->
 (∀e:Rat,(∃x∈ra,x.1=e)\/(∃x∈rb,x.1=e)->zh (c::ra) e=zh (c::rb) e)->ra=rb
 |[],[],c,_,_,_,_=>rfl
 |[],f::rb,c,_,hb,hl,_=>by
  have h1:=ff hb.tail;have h2:=(Qk.mp hb.rise).1 f (Qb ..);have e:lastC [c]=c:=rfl;rw [e,yL] at hl;rw [<-hl] at h1;exact absurd h2 (QX.mpr h1)
 |d::ra,[],c,ha,_,hl,_=>by
  have h1:=ff ha.tail;have h2:=(Qk.mp ha.rise).1 d (Qb ..);have e:lastC [c]=c:=rfl;rw [e,yL] at hl;rw [hl] at h1;exact absurd h2 (QX.mpr h1)
 |d::ra,f::rb,c,ha,hb,hl,agree=>by
  have h1:¬d.1<f.1:=λh=>tJ ha hb hl agree h;have h2:¬f.1<d.1:=λh=>tJ hb ha hl.symm (λe he=>(agree e he.symm).symm) h;have e1:d.1=f.1:=jaH (QX.mp h2) (QX.mp h1)
  have e2:d.2=f.2:=by
   have:=agree d.1 (.inl ⟨d,Qb ..,rfl⟩);rw [zB QL,yf ha.tail,e1,zB QL,yf hb.tail] at this;exact this
  have ed:d=f:=Prod.ext e1 e2;subst ed
  congr 1
  refine Kg ha.tail hb.tail (by rw [<-yL c,<-yL c];exact hl) λe he=>?_
  have hde:d.1<=e:=by
   rcases he with ⟨x,hx,rfl⟩|⟨x,hx,rfl⟩
   ·exact QJ ((Qk.mp ha.tail.rise).1 x hx)
   ·exact QJ ((Qk.mp hb.tail.rise).1 x hx)
  have:=agree e (he.imp (λ⟨x,hx,h⟩=>⟨x,Qd _ hx,h⟩) λ⟨x,hx,h⟩=>⟨x,Qd _ hx,h⟩);rw [zB hde,zB hde] at this;exact this
theorem Zq {m:Nat} {u v E:Rat} (Pm:u<=E) (Rb:E<=v) (Me:u<v):∀{c:zg} {r:List zg},PathT m (c::r)->c.1<=u->(∀x∈r,¬(u<x.1/\x.1<v))->
 ∀(i:Nat) (x y z:Rat),(zh (c::r) u)[i]? =some x->(zh (c::r) v)[i]? =some y->(zh (c::r) E)[i]? =some z->(z - x)*(v - u)=(y - x)*(E - u)
 |c,[],_,_,_,i,x,y,z,hx,hy,hz=>by
  have e1:c.2[i]? =some x:=hx;have e2:c.2[i]? =some y:=hy;have e3:c.2[i]? =some z:=hz;rw [e1] at e2 e3;cases e2;cases e3
  grind
 |c,d::r,h,hc,Od,i,x,y,z,hx,hy,hz=>by
  have LW:=(Qk.mp h.rise).1 d (Qb ..)
  by_cases hd:d.1<=u
  ·rw [zB hd] at hx;rw [zB (Tw hd (QJ Me))] at hy;rw [zB (Tw hd Pm)] at hz;exact Zq Pm Rb Me h.tail hd (λx hx=>Od x (Qd _ hx)) i x y z hx hy hz
  ·have NN:u<d.1:=jaA.mp hd;have hvd:v<=d.1:=QX.mp λLS=>Od d (Qb ..) ⟨NN,LS⟩
   have key:∀t:Rat,t<=d.1->zh (c::d::r) t=Yg c d t:=by
    intro t ht
    by_cases h1:t<d.1
    ·rw [zh,QH h1]
    ·have e:t=d.1:=jaH ht (QX.mp h1);rw [e,zB QL,yf h.tail,cE (by rw [h.len c (Qb ..),h.len d (Qd _ (Qb ..))]) LW]
   rw [key u (QJ NN)] at hx;rw [key v hvd] at hy;rw [key E (Tw Rb hvd)] at hz;obtain ⟨p,q,hp,hq,ex⟩:=Zc hx;obtain ⟨p',q',ML,Nc,ey⟩:=Zc hy;obtain ⟨p'',q'',Pu,Pt,ez⟩:=Zc hz;rw [hp] at ML Pu;rw [hq] at Nc Pt;cases ML;cases Pu;cases Nc;cases Pt;have l1:=yB (x:=p) (y:=q) (E:=u) LW;have l2:=yB (x:=p) (y:=q) (E:=v) LW;have l3:=yB (x:=p) (y:=q) (E:=E) LW;rw [<-ex] at l1;rw [<-ey] at l2;rw [<-ez] at l3;have k:((z - x)*(v - u) - (y - x)*(E - u))*(d.1 - c.1)=0:=by grind
   have:=zJ k (xC LW)
   grind
theorem xj {m:Nat} {E:Rat}:∀{c:zg} {r:List zg},(∀x∈c::r,x.2.length=m)->(zh (c::r) E).length=m
 |c,[],h=>h c (Qb ..)
 |c,d::r,h=>by
  rw [zh]
  split
  ·unfold Yg;rw [QE,h c (Qb ..),h d (Qd _ (Qb ..)),jaF]
  ·exact xj λx hx=>h x (Qd _ hx)
theorem qt {m:Nat} {u v E:Rat} {c c':zg} {ra rb:List zg} (ha:PathT m (c::ra)) (hb:PathT m (c'::rb)) (hc:c.1<=u) (LX:c'.1<=u) (Pm:u<=E) (Rb:E<=v) (Me:u<v)
 (na:∀x∈ra,¬(u<x.1/\x.1<v)) (nb:∀x∈rb,¬(u<x.1/\x.1<v)) (hu:zh (c::ra) u=zh (c'::rb) u) (hv:zh (c::ra) v=zh (c'::rb) v):zh (c::ra) E=zh (c'::rb) E:=by
 apply TY
 intro i;have l1:∀e,(zh (c::ra) e).length=m:=λe=>xj ha.len;have l2:∀e,(zh (c'::rb) e).length=m:=λe=>xj hb.len
 by_cases hi:i<m
 ·have g:∀(l:List Rat),l.length=m->∃x,l[i]? =some x:=λl hl=>⟨_,Qc (by rw [hl];exact hi)⟩;obtain ⟨x,hx⟩:=g _ (l1 u);obtain ⟨y,hy⟩:=g _ (l1 v);obtain ⟨z,hz⟩:=g _ (l1 E);obtain ⟨z',MJ⟩:=g _ (l2 E);have k1:=Zq Pm Rb Me ha hc na i x y z hx hy hz;have k2:=Zq Pm Rb Me hb LX nb i x y z' (by rw [<-hu];exact hx) (by rw [<-hv];exact hy) MJ;have k:(z - z')*(v - u)=0:=by grind
  have:=zJ k (xC Me);have e:z=z':=by grind
  rw [hz,MJ,e]
 ·rw [QF (by rw [l1];omega),QF (by rw [l2];omega)]
def zK:List Rat->List Rat->List Rat
 |[],ys=>ys
 |x::xs,[]=>x::xs
 |x::xs,y::ys=>if x<y then x::zK xs (y::ys) else if x=y then y::zK xs ys else y::zK (x::xs) ys
termination_by xs ys=>xs.length+ys.length
theorem eO:∀xs:List Rat,zK xs []=xs
 |[]=>by rw [zK]
 |x::xs=>by rw [zK]
theorem xq {e:Rat}:∀{xs ys:List Rat},e∈zK xs ys↔e∈xs\/e∈ys
 |[],ys=>by rw [zK];simp
 |x::xs,[]=>by rw [zK];simp
 |x::xs,y::ys=>by
  rw [zK]
  split
  ·rw [Ql,xq (xs:=xs) (ys:=y::ys),Ql,Ql]
   constructor<;>intro h<;>grind
  ·split
   ·rename_i h1 h2;subst h2;rw [Ql,xq (xs:=xs) (ys:=ys),Ql,Ql]
    constructor<;>intro h<;>grind
   ·rw [Ql,xq (xs:=x::xs) (ys:=ys),Ql,Ql]
    constructor<;>intro h<;>grind
termination_by xs ys=>xs.length+ys.length
theorem yW {a b c:Rat} (h:a<b) (g:b<c):a<c:=by grind
def Vj (l:List Rat):Prop:=l.Pairwise (·<·)
theorem YO:∀{xs ys:List Rat},Vj xs->Vj ys->Vj (zK xs ys)
 |[],ys,_,hy=>by rw [zK];exact hy
 |x::xs,[],hx,_=>by rw [zK];exact hx
 |x::xs,y::ys,hx,hy=>by
  obtain ⟨Nu,NX⟩:=Qk.mp hx;obtain ⟨Ov,hy2⟩:=Qk.mp hy;rw [zK]
  split
  ·rename_i h;refine Qk.mpr ⟨λe he=>?_,YO NX hy⟩
   rcases xq.mp he with h1|h1
   ·exact Nu e h1
   ·rcases Ql.mp h1 with rfl|h1
    ·exact h
    ·exact yW h (Ov e h1)
  ·split
   ·rename_i h1 h2;subst h2;refine Qk.mpr ⟨λe he=>?_,YO NX hy2⟩
    rcases xq.mp he with h|h
    ·exact Nu e h
    ·exact Ov e h
   ·rename_i h1 h2
    have hyx:y<x:=by
     rcases Rat.le_iff_lt_or_eq.mp (QX.mp h1) with h|h
     ·exact h
     ·exact absurd h.symm h2
    refine Qk.mpr ⟨λe he=>?_,YO hx hy2⟩
    rcases xq.mp he with h|h
    ·rcases Ql.mp h with rfl|h
     ·exact hyx
     ·exact yW hyx (Nu e h)
    ·exact Ov e h
termination_by xs ys=>xs.length+ys.length
theorem Ur:∀(xs ys:List Rat),(zK xs ys).length<=xs.length+ys.length
 |[],ys=>by rw [zK];simp
 |x::xs,[]=>by rw [zK];simp
 |x::xs,y::ys=>by
  rw [zK]
  split
  ·have:=Ur xs (y::ys);simp only [Qw] at*;omega
  ·split
   ·have:=Ur xs ys;simp only [Qw] at*;omega
   ·have:=Ur (x::xs) ys;simp only [Qw] at*;omega
termination_by xs ys=>xs.length+ys.length
section
variable {B G0 H:Hp} {cs:yk} {ds:Dat} {Q:VK} {E:XK} {v w u:V}
def ck:Sp:=spL (α:=List Rat×List Rat) (λa=>[.list (a.1.map frD), .list (a.2.map frD)]) (λa=>(∃n,(∀q∈a.1,SzQ n q)/\(∀q∈a.2,SzQ n q)/\n<=40000000)/\a.1.length<=450/\a.2.length<=450) (λa=>(zK a.1 a.2).map frD)
theorem nK {p q:List Rat} {n:Nat} (S:Sta B G0 H cs ds) (h1:Has ds (.list (p.map frD)) v) (h2:Has ds (.list (q.map frD)) w) (z1:∀x∈p,SzQ n x) (z2:∀x∈q,SzQ n x) (hn:n<=40000000) (l1:p.length<=450) (l2:q.length<=450)
 (k:∀r H',zL H H'->Sta B G0 H' ((r,(zK p q).map frD)::cs) ds->Q (.ref r) H'):ck [v,w] H Q E:=
 Zd (p,q) S (.cons h1 (.cons h2 .nil)) ⟨⟨n,z1,z2,hn⟩,l1,l2⟩ k
def jH:Sp:=λvs H Q _=>∃p q:List Rat,zC H [zO p,zO q] vs/\(p.length=q.length/\p.length<=1000)/\∀H',zL H H'->(p=q->Q .non H')/\∀(i:Nat) (x y:Rat),p[i]? =some x->q[i]? =some y->x≠y->Q (.int (i:Nat)) H'
theorem Bo {p q:List Rat} (S:Sta B G0 H cs ds) (h1:Has ds (zO p) v) (h2:Has ds (zO q) w) (hl:p.length=q.length/\p.length<=1000)
 (k1:∀H',Sta B G0 H' cs ds->p=q->Q .non H') (k2:∀H',Sta B G0 H' cs ds->∀(i:Nat) (x y:Rat),p[i]? =some x->q[i]? =some y->x≠y->Q (.int (i:Nat)) H'):jH [v,w] H Q E:=
 ⟨p,q,S.hpAll (.cons h1 (.cons h2 .nil)),hl,λH' e=>⟨λz=>k1 H' (S.same e) z,k2 H' (S.same e)⟩⟩
def zm (a:List zg):List Rat:=a.map λc=>c.1
def jN:Sp:=λvs H Q _=>∃(G:Hp) (a b:List zg) (n m:Nat),zL G H/\zC G [zE a,zE b] vs/\(PathR n a/\PathR n b/\7*n+4<=8999/\(∀c∈a,c.2.length=m)/\(∀c∈b,c.2.length=m)/\a.length<=450/\b.length<=450)/\
 (∀H' G',Grow G H G' H'->(∀e∈zK (zm a) (zm b),zh a e=zh b e)->Q .non H')/\
 ∀v H' G' (k i:Nat) (s e x y:Rat),Grow G H G' H'->Is G' (.tuple [frD s,frD e, .int (i:Nat)]) v->(zK (zm a) (zm b))[k]? =some e->(∀(j:Nat) (d:Rat),j<k->(zK (zm a) (zm b))[j]? =some d->zh a d=zh b d)->
  (k=0\/(zK (zm a) (zm b))[k - 1]? =some s)->(zh a e)[i]? =some x->(zh b e)[i]? =some y->x≠y->Q v H'
theorem Bs {a b:List zg} {n m:Nat} (S:Sta B G0 H cs ds) (h1:Has ds (zE a) v) (h2:Has ds (zE b) w) (ok:PathR n a/\PathR n b/\7*n+4<=8999/\(∀c∈a,c.2.length=m)/\(∀c∈b,c.2.length=m)/\a.length<=450/\b.length<=450)
 (k1:∀H',zL H H'->Sta B G0 H' cs ds->(∀e∈zK (zm a) (zm b),zh a e=zh b e)->Q .non H')
 (k2:∀v H' (k i:Nat) (s e x y:Rat),zL H H'->Sta B G0 H' cs ((.tuple [frD s,frD e, .int (i:Nat)],v)::ds)->(zK (zm a) (zm b))[k]? =some e->(∀(j:Nat) (d:Rat),j<k->(zK (zm a) (zm b))[j]? =some d->zh a d=zh b d)->
  (k=0\/(zK (zm a) (zm b))[k - 1]? =some s)->(zh a e)[i]? =some x->(zh b e)[i]? =some y->x≠y->Q v H'):jN [v,w] H Q E:=by
 obtain ⟨G,S⟩:=S;refine ⟨G,a,b,n,m,S.2.1,(zV.cons h1 (zV.cons h2 zV.nil)) G S.2.2.2.2.2.2,ok,λH' G' gr z=>k1 H' gr.h ⟨G',S.grow gr⟩ z,λv H' G' k i s e x y gr hv hk hj hs hx hy Ma=>k2 v H' k i s e x y gr.h ?_ hk hj hs hx hy Ma⟩;obtain ⟨a',b',c',d',e',f',g'⟩:=S.grow gr;exact ⟨G',a',b',c',d',e',f',g'.cons hv⟩
end
theorem Ag (m:Nat):(XW m).sum=0:=by
 unfold XW
 induction m with
 |zero=>rfl
 |succ m ih=>rw [Td,QN,ih];rfl
theorem YT {M:List Rat} (hM:Vj M) {j:Nat} {u v e:Rat} (hu:M[j]? =some u) (hv:M[j+1]? =some v) (he:e∈M):¬(u<e/\e<v):=by
 rintro ⟨h1,h2⟩
 obtain ⟨i,hi⟩:=Qr.mp he;obtain ⟨li,ei⟩:=Qf.mp hi;obtain ⟨lu,eu⟩:=Qf.mp hu;obtain ⟨lv,ev⟩:=Qf.mp hv;have pw:=QK.mp hM
 by_cases c:i<=j
 ·rcases Nat.lt_or_eq_of_le c with c|c
  ·have:=pw i j li lu c;rw [ei,eu] at this
   grind
  ·subst c;rw [ei] at eu;subst eu
   grind
 ·by_cases c2:i=j+1
  ·subst c2;rw [ei] at ev;subst ev
   grind
  ·have:=pw (j+1) i lv li (by omega);rw [ei,ev] at this
   grind
theorem nq {m:Nat} {c:zg} {ra rb:List zg} (ha:PathT m (c::ra)) (hb:PathT m (c::rb)) {M:List Rat} (hM:Vj M) (h0:M[0]? =some c.1) (ma:∀x∈ra,x.1∈M) (mb:∀x∈rb,x.1∈M) {E:Rat} (hE:c.1<=E):
 ∀(k:Nat) (s:Rat),M[k]? =some s->(∀(j:Nat) (d:Rat),j<=k->M[j]? =some d->zh (c::ra) d=zh (c::rb) d)->E<=s->zh (c::ra) E=zh (c::rb) E
 |0,s,hs,hj,h=>by
  have e:c.1=s:=by rw [h0] at hs;exact Qz hs
  have:E=s:=by grind
  subst this;exact hj 0 E (Qp _) hs
 |k+1,s,hs,hj,h=>by
  obtain ⟨ls,es⟩:=Qf.mp hs;have hu:=Qc (l:=M) (i:=k) (by omega);have pw:=QK.mp hM;have Me:=pw k (k+1) (by omega) ls (by omega);rw [es] at Me
  have hc:c.1<=M[k]:=by
   obtain ⟨l0,e0⟩:=Qf.mp h0
   rcases Nat.eq_zero_or_pos k with z|z
   ·subst z;rw [e0];exact QL
   ·have:=pw 0 k l0 (by omega) z;rw [e0] at this;exact QJ this
  by_cases c1:E<=M[k]
  ·exact nq ha hb hM h0 ma mb hE k _ hu (λj d h1 h2=>hj j d (by omega) h2) c1
  ·refine qt ha hb hc hc (by grind) h Me (λx hx=>YT hM hu hs (ma x hx)) (λx hx=>YT hM hu hs (mb x hx)) (hj k _ (by omega) hu) (hj (k+1) _ (Qp _) hs)
theorem ZZ {a:List zg} (h:yl a):Vj (zm a):=by
 unfold Vj zm;rw [Tb];exact h
theorem vO {z:zg} {ra rb:List zg}:(zK (zm (z::ra)) (zm (z::rb)))[0]? =some z.1:=by
 unfold zm;rw [Qn,Qn,zK,QP (by grind),QH rfl];rfl
theorem qP {m:Nat} {z:zg} {ra rb:List zg} (ha:PathT m (z::ra)) (hb:PathT m (z::rb)) (hl:(lastC (z::ra)).1=(lastC (z::rb)).1) (h:∀e∈zK (zm (z::ra)) (zm (z::rb)),zh (z::ra) e=zh (z::rb) e):z::ra=z::rb:=by
 rw [Kg ha hb hl λe he=>h e (xq.mpr ?_)]
 rcases he with ⟨x,hx,rfl⟩|⟨x,hx,rfl⟩
 ·exact .inl (Qj.mpr ⟨x,Qd _ hx,rfl⟩)
 ·exact .inr (Qj.mpr ⟨x,Qd _ hx,rfl⟩)
theorem qO {m:Nat} {z:zg} {ra rb:List zg} (ha:PathT m (z::ra)) (hb:PathT m (z::rb)) {k i:Nat} {s e x y:Rat} (hk:(zK (zm (z::ra)) (zm (z::rb)))[k]? =some e)
 (hj:∀(j:Nat) (d:Rat),j<k->(zK (zm (z::ra)) (zm (z::rb)))[j]? =some d->zh (z::ra) d=zh (z::rb) d) (hs:k=0\/(zK (zm (z::ra)) (zm (z::rb)))[k - 1]? =some s)
 (hx:(zh (z::ra) e)[i]? =some x) (hy:(zh (z::rb) e)[i]? =some y) (Ma:x≠y):
 z::ra≠z::rb/\z.1<=s/\s<e/\(∀E,z.1<=E->E<=s->zh (z::ra) E=zh (z::rb) E)/\(∀c∈(z::ra)++(z::rb),¬(s<c.1/\c.1<e))/\(∃c∈(z::ra)++(z::rb),c.1=s)/\(∃c∈(z::ra)++(z::rb),c.1=e):=by
 have h0:=vO (z:=z) (ra:=ra) (rb:=rb);have hM:=YO (ZZ ha.rise) (ZZ hb.rise)
 have mm:∀c∈(z::ra)++(z::rb),c.1∈zK (zm (z::ra)) (zm (z::rb)):=by
  intro c hc;refine xq.mpr ?_
  rcases QT.mp hc with h|h
  ·exact .inl (Qj.mpr ⟨c,h,rfl⟩)
  ·exact .inr (Qj.mpr ⟨c,h,rfl⟩)
 have mb:∀d∈zK (zm (z::ra)) (zm (z::rb)),∃c∈(z::ra)++(z::rb),c.1=d:=by
  intro d hd
  rcases xq.mp hd with h|h
  ·obtain ⟨c,hc,rfl⟩:=Qj.mp h;exact ⟨c,TZ _ hc,rfl⟩
  ·obtain ⟨c,hc,rfl⟩:=Qj.mp h;exact ⟨c,QA _ hc,rfl⟩
 generalize zK (zm (z::ra)) (zm (z::rb))=M at*
 have k0:k≠0:=by
  rintro rfl
  rw [h0] at hk;cases hk;rw [yf ha] at hx;rw [yf hb,hx] at hy;exact Ma (Qz hy)
 obtain ⟨k,rfl⟩:∃k',k=k'+1:=⟨k - 1,by omega⟩
 have hs:M[k]? =some s:=by
  rcases hs with h|h
  ·exact absurd h k0
  ·simpa using h
 obtain ⟨l0,e0⟩:=Qf.mp h0;obtain ⟨ls,es⟩:=Qf.mp hs;obtain ⟨le,ee⟩:=Qf.mp hk;have pw:=QK.mp hM;have Po:=pw k (k+1) ls le (by omega);rw [es,ee] at Po;refine ⟨?_,?_,Po,λE hE hEs=>nq ha hb hM h0 (λx hx=>mm x (TZ _ (Qd _ hx))) (λx hx=>mm x (QA _ (Qd _ hx))) hE k s hs (λj d h1 h2=>hj j d (by omega) h2) hEs,λc hc=>YT hM hs hk (mm c hc),mb s (Qe hs),mb e (Qe hk)⟩
 ·intro z';rw [z',hy] at hx;exact Ma (Qz hx).symm
 ·rcases Nat.eq_zero_or_pos k with h|h
  ·subst h;rw [es] at e0;rw [e0];exact QL
  ·have:=pw 0 k l0 ls h;rw [e0,es] at this;exact QJ this
section
variable {B G0 H:Hp} {cs:yk} {ds:Dat} {Q:VK} {E:XK} {v w u:V}
def UL:Sp:=λvs H Q _=>∃n:Int,vs=[.int n]/\Q (.bl true) H
theorem tq {n:Int} (k:Q (.bl true) H):UL [.int n] H Q E:=⟨n,rfl,k⟩
def AG:Sp:=spB (α:=Rat) (λa=>[frD a]) (λ_=>True) (λ_=> .bl true)
theorem BB {q:Rat} (S:Sta B G0 H cs ds) (h:Has ds (frD q) v) (k:∀H',Sta B G0 H' cs ds->Q (.bl true) H'):AG [v] H Q E:=
 nB q (S.hpAll (.cons h .nil)) trivial λH' e=>k H' (S.same e)
end
def At (CW:Addr) (H:Hp) (a:Addr) (T:Str) (i:Nat):Prop:=∃dx,H a=some (.ins CW dx [("signs", .str T),("at", .int ((i:Nat):Int))])
def Ch (a:Addr) (H H':Hp):Prop:=∀p,p≠a->H' p=H p
theorem Ch.refl {a:Addr} {H:Hp}:Ch a H H:=λ_ _=>rfl
theorem Ch.trans {a:Addr} {H H' H'':Hp} (h:Ch a H H') (g:Ch a H' H''):Ch a H H'':=λp hp=>(g p hp).trans (h p hp)
theorem Ch.upd {a:Addr} {H:Hp} {o:HO}:Ch a H (L2.upd H a o):=λp hp=>zR hp
def sgn (T:Str) (i:Nat):Str:=Txt.slice T (some ((i:Nat):Int)) (some (((i:Nat):Int)+1))
structure WOk (K:PySem.W.Frag) (fS fE CW:Addr):Prop where
 cl:Cls K CW
 na:WL K CW "signs"
 nb:WL K CW "at"
 ms:Meth K CW "sign" fS
 me:Meth K CW "expect" fE
section
variable {B G0 H:Hp} {cs:yk} {ds:Dat} {Q:VK} {E:XK} {v w u:V} {K:PySem.W.Frag} {CW a:Addr} {T:Str} {i:Nat}
def iF (CW:Addr):Sp:=λvs H Q _=>∃(a:Addr) (T:Str) (i:Nat),vs=[.ref a]/\At CW H a T i/\T.length<=100000/\Q (.str (sgn T i)) H
theorem af (h:At CW H a T i) (hT:T.length<=100000) (k:Q (.str (sgn T i)) H):iF CW [.ref a] H Q E:=⟨a,T,i,rfl,h,hT,k⟩
def mB (T wd:Str) (i:Nat):Prop:=∀k c,wd.cps[k]? =some c->sgn T (i+k)=⟨#[c]⟩
def Xn (CW:Addr):Sp:=λvs H Q _=>∃(a:Addr) (T wd:Str) (i:Nat),vs=[.ref a, .str wd]/\At CW H a T i/\T.length<=100000/\wd.cps.all (·<128)=true/\mB T wd i/\∀H',Ch a H H'->At CW H' a T (i+wd.length)->Q .non H'
theorem xY {wd:Str} (h:At CW H a T i) (hT:T.length<=100000) (hw:wd.cps.all (·<128)=true) (hh:mB T wd i) (k:∀H',Ch a H H'->At CW H' a T (i+wd.length)->Q .non H'):Xn CW [.ref a, .str wd] H Q E:=⟨a,T,wd,i,rfl,h,hT,hw,hh,k⟩
theorem iO {fS fE:Addr} {sp:Sp} (h:At CW H a T i) (ok:WOk K fS fE CW) (k:sp [.ref a] H Q E):kMA K "sign" fS sp E Q (.ref a) H:=by
 obtain ⟨dx,h⟩:=h;exact ⟨a,CW,dx,_,rfl,h,ok.cl,ok.ms,rfl,k⟩
def kMe (C:Addr) (m:Str) (sp:Sp) (E:XK) (t:TA) (σ:L2.St) (Q:VK):VK:=λx H1=>∃a dx fs,x= .ref a/\H1 a=some (.ins C dx fs)/\fs.lookup m=none/\t σ H1 λvs H2=>sp (x::(vs++[])) H2 Q E
theorem Xx {C:Addr} {m:Str} {sp:Sp} {ta:TE} {t:TA} {σ:L2.St} (h:ta σ H (kMe C m sp E t σ Q)):tMeth C m sp [] E ta t σ H Q:=h
theorem Uk {m:Str} {sp:Sp} {t:TA} {σ:L2.St} (h:At CW H a T i) (hm:([("signs",V.str T),("at", .int ((i:Nat):Int))]:List (Str×V)).lookup m=none) (k:t σ H λvs H2=>sp (.ref a::vs) H2 Q E):kMe CW m sp E t σ Q (.ref a) H:=by
 obtain ⟨dx,h⟩:=h;refine ⟨a,dx,_,rfl,h,hm,?_⟩
 simpa only [jaC] using k
theorem Bw {fS fE:Addr} (h:At CW H a T i) (ok:WOk K fS fE CW) (k:Q (.str T) H):kFld K "signs" Q (.ref a) H:=by
 obtain ⟨dx,h⟩:=h;exact ⟨a,CW,dx,_,_,rfl,h,ok.cl,ok.na,rfl,k⟩
theorem HM {fS fE:Addr} (h:At CW H a T i) (ok:WOk K fS fE CW) (k:Q (.int ((i:Nat):Int)) H):kFld K "at" Q (.ref a) H:=by
 obtain ⟨dx,h⟩:=h;exact ⟨a,CW,dx,_,_,rfl,h,ok.cl,ok.nb,rfl,k⟩
theorem BF {fS fE:Addr} {D:Ends} {k:Nat} {σ:L2.St} (e:σ[k]? =some (some (.ref a))) (h:At CW H a T i) (ok:WOk K fS fE CW) (kk:∀H2,Ch a H H2->At CW H2 a T (i+1)->D.nx σ H2):Be K (tVar k) (tC (.int 1)) rAdd "at" D σ H:=by
 obtain ⟨dx,h⟩:=h;refine ⟨.ref a,e,a,CW,dx,_,_,rfl,h,ok.cl,ok.nb,rfl,_,_,rfl,rfl,dx,_,h,by show 2<1000;decide,kk _ Ch.upd ⟨dx,?_⟩⟩;rw [zZ];rfl
def kIS (R:It->Hp->Prop):VK:=λx H1=>∃z,x= .str z/\z.cps.all (·<128)=true/\R (Its z) H1
theorem Jk {te:TE} {σ:L2.St} {R:It->Hp->Prop} (h:te σ H (kIS R)):iStr te σ H R:=h
theorem rd_kIS {z:Str} {R:It->Hp->Prop} (hz:z.cps.all (·<128)=true) (h:R (Its z) H):kIS R (.str z) H:=⟨z,rfl,hz,h⟩
theorem Ka {z:Str} {g:TG} {tb:TS} {D:Ends} {σ:L2.St} (W:Nat->L2.St->Hp->Prop) (h0:W 0 σ H)
 (hs:∀(n:Nat) (c:Nat) (σ:L2.St) (H:Hp),z.cps[n]? =some c->W n σ H->g (.str ⟨#[c]⟩) σ H λσ2 H2=>tb (mkL D (W (n+1))) σ2 H2)
 (hd:∀(σ:L2.St) (H:Hp),W z.length σ H->D.nx σ H):kFor g tb D σ (Its z) H:=by
 refine ⟨λn m σ H=>m=z.cps.size - n/\n<=z.cps.size/\W n σ H,⟨z.cps.size,by simp,TH _,h0⟩,?_⟩
 rintro n m σ H ⟨rfl,hn,hw⟩
 by_cases LS:n<z.cps.size
 ·refine .inr ⟨LS,W (n+1),λσ' H' p'=>⟨z.cps.size - (n+1),by omega,rfl,LS,p'⟩,λx H' y=>?_⟩;obtain ⟨rfl,c,hc,rfl⟩:=y;exact hs n c σ H' hc hw
 ·exact .inl ⟨Nat.not_lt.mp LS,hd σ H (by rw [show z.length=n from Nat.le_antisymm (Nat.not_lt.mp LS) hn];exact hw)⟩
def Kp (a:Addr) (H H':Hp):Prop:=∀p o,p≠a->H p=some o->H' p=some o
theorem Ch.kp {a:Addr} {H H':Hp} (h:Ch a H H'):Kp a H H':=λp o hp e=>by rw [h p hp];exact e
theorem Kp.refl {a:Addr} {H:Hp}:Kp a H H:=λ_ _ _ e=>e
theorem Kp.trans {a:Addr} {H H' H'':Hp} (h:Kp a H H') (g:Kp a H' H''):Kp a H H'':=λp o hp e=>g p o hp (h p o hp e)
theorem zL.kp {a:Addr} {H H':Hp} (h:zL H H'):Kp a H H':=λp o _ e=>h p o e
theorem At.same {H':Hp} (h:At CW H a T i) (e:zL H H'):At CW H' a T i:=by
 obtain ⟨dx,h⟩:=h;exact ⟨dx,e _ _ h⟩
def fg (d:Nat):Str:=⟨#[48+d]⟩
def oH:List Str:=["0","1","2","3","4","5","6","7","8","9"]
theorem lC:oH=(List.range 10).map fg:=by decide+kernel
theorem fg_inj {c d:Nat} (h:fg c=fg d):c=d:=by
 have:=congrArg (λz:Str=>z.cps[0]?) h;simp [fg] at this
 omega
structure Fg (K:PySem.W.Frag) (cF:Addr):Prop where
 lk:∃its n sl,K.lookup cF=some ⟨.type "tuple",none, .seq its n,sl⟩/\its.size<=sizeLine/\xn (oH.map V.str) its.toList
theorem Fg.sq {cF:Addr} (f:Fg K cF):SqT K H cF (oH.map V.str):=by
 obtain ⟨its,n,sl,h1,h2,h3⟩:=f.lk;exact .inr ⟨_,its,n,h1,rfl,rfl,h2,h3⟩
theorem Fg.ty {cF:Addr} (f:Fg K cF):tyV K "tuple" (.ref cF) H:=by
 obtain ⟨its,n,sl,h1,h2,h3⟩:=f.lk;exact .inr (.inl ⟨rfl,_,h1,rfl,rfl⟩)
theorem CV (z:Str) (ys:List Str):inV (.str z) (ys.map V.str)=decide (z∈ys):=by
 unfold inV;rw [List.any_map]
 by_cases h:z∈ys
 ·rw [QQ h,List.any_eq_true];exact ⟨z,h,by simp [eqV]⟩
 ·rw [QY h,List.any_eq_false];intro y hy;simp [eqV]
  intro e;subst e;exact h hy
def wX (ds:List Nat):Int:=ds.foldl (λ(n:Int) (d:Nat)=>n*10+(d:Int)) 0
theorem mG (ds:List Nat) (d:Nat):wX (ds++[d])=wX ds*10+(d:Int):=by unfold wX;rw [List.foldl_append];rfl
structure Figs (T:Str) (i:Nat) (ds:List Nat):Prop where
 pos:0<ds.length
 at_:∀k d,ds[k]? =some d->d<10/\sgn T (i+k)=fg d
 first:∀d,ds[0]? =some d->d≠0
 stop:sgn T (i+ds.length)∉oH
def AE (CW:Addr):Sp:=λvs H Q _=>∃(a:Addr) (T:Str) (i:Nat) (ds:List Nat),vs=[.ref a]/\At CW H a T i/\T.length<=100000/\Figs T i ds/\∀H',Kp a H H'->At CW H' a T (i+ds.length)->Q (.int (wX ds)) H'
theorem Bt {ds:List Nat} (h:At CW H a T i) (hT:T.length<=100000) (hf:Figs T i ds) (k:∀H',Kp a H H'->At CW H' a T (i+ds.length)->Q (.int (wX ds)) H'):AE CW [.ref a] H Q E:=⟨a,T,i,ds,rfl,h,hT,hf,k⟩
structure Mv (a:Addr) (G H G' H':Hp):Prop where
 k:Kp a H H'
 g:zL G G'
 s:zL G' H'
 o:∀p,H p≠none->G' p=G p
def Sw (a:Addr) (B G0 H:Hp) (ds:Dat):Prop:=∃G,Mv a G0 B G H/\G a=none/\H a≠none/\B a≠none/\Yh G ds
theorem Sw.enter {G:Hp} (e:zL G H) (ga:G a=none) (h:At CW H a T i) (al:Yh G ds):Sw a H G H ds:=by
 obtain ⟨dx,h⟩:=h;exact ⟨G,⟨Kp.refl,zL.refl _,e,λ_ _=>rfl⟩,ga,by rw [h];simp,by rw [h];simp,al⟩
theorem Mv.trans {G' G'' H' H'':Hp} (h:Mv a G0 B G' H') (g:Mv a G' H' G'' H'') (ha:H' a≠none):Mv a G0 B G'' H'':=
 ⟨h.k.trans g.k,h.g.trans g.g,g.s,λp hp=>by
  rw [g.o p ?_,h.o p hp]
  by_cases Oc:p=a
  ·rw [Oc];exact ha
  ·cases hb:B p with
   |none=>exact absurd hb hp
   |some o=>rw [h.k p o Oc hb];simp⟩
theorem Sw.ch {H':Hp} (S:Sw a B G0 H ds) (c:Ch a H H') (h:At CW H' a T i):Sw a B G0 H' ds:=by
 obtain ⟨G,m,ga,ha,hb,al⟩:=S;obtain ⟨dx,h⟩:=h;refine ⟨G,⟨m.k.trans c.kp,m.g,λp o hp=>?_,m.o⟩,ga,by rw [h];simp,hb,al⟩;rw [c p (λz=>by rw [z,ga] at hp;cases hp)];exact m.s p o hp
theorem Sw.kp {H':Hp} (S:Sw a B G0 H ds) (c:Kp a H H') (h:At CW H' a T i):Sw a B G0 H' ds:=by
 obtain ⟨G,m,ga,ha,hb,al⟩:=S;obtain ⟨dx,h⟩:=h;exact ⟨G,⟨m.k.trans c,m.g,λp o hp=>c p o (λz=>by rw [z,ga] at hp;cases hp) (m.s p o hp),m.o⟩,ga,by rw [h];simp,hb,al⟩
theorem Sw.hp {x:PyData} (S:Sw a B G0 H ds) (h:Has ds x v):Is H x v:=by
 obtain ⟨G,m,ga,ha,hb,al⟩:=S;exact Is.mono m.s _ _ (h G al)
theorem Sw.leave (S:Sw a B G0 H ds):∃G,Mv a G0 B G H/\Yh G ds:=by
 obtain ⟨G,m,ga,ha,hb,al⟩:=S;exact ⟨G,m,al⟩
theorem Sw.tup {p:Addr} {xs:List PyData} {vs:List V} (S:Sw a B G0 H ds) (hp:H p=none) (h:zV ds xs vs):Sw a B G0 (upd H p (.tup vs)) ((.tuple xs, .ref p)::ds):=by
 obtain ⟨G,m,ga,ha,hb,al⟩:=S;have gp:G p=none:=m.s.free hp;have eG:=zL.new gp (.tup vs);have Oc:a≠p:=λz=>ha (by rw [z];exact hp);refine ⟨upd G p (.tup vs),⟨λq o hq e=>(zL.new hp _) _ _ (m.k q o hq e),m.g.trans eG,λq o hq=>?_,λq hq=>?_⟩,by rw [zR Oc];exact ga,by rw [zR Oc];exact ha,hb,(al.mono eG).cons ?_⟩
 ·by_cases Md:q=p
  ·subst Md;rw [zZ] at hq⊢;exact hq
  ·rw [zR Md] at hq⊢;exact m.s _ _ hq
 ·have Md:q≠p:=λz=>by
   subst z
   cases hbq:B q with
   |none=>exact hq hbq
   |some o=>
    have:=m.k q o (λz=>Oc z.symm) hbq;rw [hp] at this;cases this
  rw [zR Md];exact m.o q hq
 ·rw [Is];exact ⟨p,vs,rfl,zZ,zC.mono eG _ _ (h G al)⟩
theorem tw {xs:List PyData} {vs:List V} (S:Sw a B G0 H ds) (h:zV ds xs vs) (hl:vs.length<=1000) (k:∀p H',zL H H'->Sw a B G0 H' ((.tuple xs, .ref p)::ds)->Q (.ref p) H'):kTup Q vs H:=
 ⟨jbm (YL hl),λp hp=>k p _ (zL.new hp _) (S.tup hp h)⟩
theorem Jb {α:Type} {enc:α->List PyData} {dom:α->Prop} {res:α->PyData} {vs:List V} (x:α) (S:Sw a B G0 H ds) (hx:zV ds (enc x) vs) (hd:dom x) (k:∀v H',zL H H'->Sw a B G0 H' ((res x,v)::ds)->Q v H'):spT enc dom res vs H Q E:=by
 obtain ⟨G,m,ga,ha,hb,al⟩:=S;refine ⟨G,x,m.s,hx G al,hd,λv H' G' gr hv=>k v H' gr.h ⟨G',m.trans ⟨zL.kp gr.h,gr.g,gr.sub,gr.old⟩ ha,by rw [gr.old a ha];exact ga,?_,hb,(al.mono gr.g).cons hv⟩⟩
 cases e:H a with
 |none=>exact absurd e ha
 |some o=>rw [gr.h _ _ e];simp
def spW {α:Type} (CW:Addr) (ex:α->List V) (cond:α->Str->Nat->Prop) (len:α->Nat) (res:α->PyData):Sp:=λvs H Q _=>∃(G:Hp) (a:Addr) (T:Str) (i:Nat) (x:α),vs= .ref a::ex x/\zL G H/\G a=none/\At CW H a T i/\T.length<=100000/\cond x T i/\∀v H' G',Mv a G H G' H'->At CW H' a T (i+len x)->Is G' (res x) v->Q v H'
theorem XM {α:Type} {ex:α->List V} {cond:α->Str->Nat->Prop} {len:α->Nat} {res:α->PyData} (x:α) (S:Sw a B G0 H ds) (h:At CW H a T i) (hT:T.length<=100000) (hc:cond x T i) (k:∀v H',At CW H' a T (i+len x)->Sw a B G0 H' ((res x,v)::ds)->Q v H'):spW CW ex cond len res (.ref a::ex x) H Q E:=by
 obtain ⟨G,m,ga,ha,hb,al⟩:=S;refine ⟨G,a,T,i,x,rfl,m.s,ga,h,hT,hc,λv H' G' mv h' hv=>k v H' h' ⟨G',m.trans mv ha,by rw [mv.o a ha];exact ga,?_,hb,(al.mono mv.g).cons hv⟩⟩;obtain ⟨dx,h'⟩:=h';rw [h'];simp
theorem ae {G H':Hp} {r:PyData} (S:Sw a H G H' ds) (k:∀v H' G',Mv a G H G' H'->At CW H' a T i->Is G' r v->Q v H') (h':At CW H' a T i) (h:Has ds r v):Q v H':=by
 obtain ⟨G',m,al⟩:=S.leave;exact k v H' G' m h' (h G' al)
theorem Zx {α:Type} {C:Addr} {enc:α->List PyData} {form:α->PyData} {vs:List V} (y:α) (S:Sw a B G0 H ds) (hx:zV ds (enc y) vs) (k:∀x H',zL H H'->Sw a B G0 H' ((Gw C (form y), .ref x)::ds)->Q (.ref x) H'):kMake C (yw C enc form) E Q vs H:=by
 intro x dx Mi hd0 Ma;obtain ⟨G,m,ga,ha,hb,al⟩:=S;have gx:G x=none:=m.s.free Mi;have hax:a≠x:=λz=>ha (by rw [z];exact Mi)
 have old:∀p o,H p=some o->upd (upd H dx (.own x)) x (.ins C dx []) p=some o:=λp o hp=>by
  rw [zR (zW hp Mi),zR (zW hp hd0)];exact hp
 refine ⟨G,y,x,dx,vs,by rw [jaC],λp o hp=>old p o (m.s p o hp),gx,zZ,hx G al,λH' G' w h1 h2 h3 h4 h5 h6=>⟨rfl,?_⟩⟩;have keep:∀p o,H p=some o->H' p=some o:=λp o hp=>h1 p o (zW hp Mi) (old p o hp)
 have some_:∀p,H p≠none->upd (upd H dx (.own x)) x (.ins C dx []) p≠none:=λp hp=>by
  cases e:H p with
  |none=>exact absurd e hp
  |some o=>rw [old p o e];simp
 have gx':G' x=none:=by rw [h4 x (by rw [zZ];simp)];exact gx
 have eG:=zL.new gx' (.ins C dx [("form",w)]);refine k x H' keep ⟨upd G' x (.ins C dx [("form",w)]),m.trans ⟨zL.kp keep,h2.trans eG,λp o hp=>?_,λp hp=>?_⟩ ha,?_,?_,hb,(al.mono (h2.trans eG)).cons ?_⟩
 ·by_cases RE:p=x
  ·subst RE;rw [zZ] at hp;rw [<-hp];exact h5
  ·rw [zR RE] at hp;exact h3 p o hp
 ·have RE:p≠x:=λz=>hp (by rw [z];exact Mi);rw [zR RE,h4 p (some_ p hp)]
 ·rw [zR hax,h4 a (some_ a ha)];exact ga
 ·cases e:H a with
  |none=>exact absurd e ha
  |some o=>rw [keep a o e];simp
 ·unfold Gw;rw [Is,Eh];exact ⟨x,C,dx,w,rfl,rfl,zZ,Is.mono eG _ _ h6⟩
structure PortAt (T:Str) (i:Nat) (t b:Int) (ds es:List Nat):Prop where
 f1:Figs T i ds
 v1:wX ds=t
 sl:mB T "/" (i+ds.length)
 f2:Figs T (i+ds.length+1) es
 v2:wX es=b
 lt:0<t/\t<b
 co:Int.gcd t b=1
 sz:Sz 210 t/\Sz 210 b
def qc (CW:Addr):Sp:=spW CW (α:=(Int×Int)×List Nat×List Nat) (λ_=>[]) (λx T i=>PortAt T i x.1.1 x.1.2 x.2.1 x.2.2) (λx=>x.2.1.length+1+x.2.2.length) (λx=> .tuple [.int x.1.1, .int x.1.2])
def AF:Sp:=spT (α:=Int×Int) (λa=>[.int a.1, .int a.2]) (λa=>a.2≠0/\Sz 8999 a.2) (λa=>frD (Rat.divInt a.1 a.2))
def We:List Str:=["shares","evenly","losses","halves","other(","ranks(","groups(","upto("]
structure Wd (K:PySem.W.Frag) (cW:Addr):Prop where
 lk:∃its n sl,K.lookup cW=some ⟨.type "tuple",none, .seq its n,sl⟩/\its.size<=sizeLine/\xn (We.map V.str) its.toList
theorem Wd.sq {cW:Addr} (f:Wd K cW):SqT K H cW (We.map V.str):=by
 obtain ⟨its,n,sl,h1,h2,h3⟩:=f.lk;exact .inr ⟨_,its,n,h1,rfl,rfl,h2,h3⟩
theorem Dk {b:Addr} {ys:List Str} {g:TG} {tb:TS} {D:Ends} {σ:L2.St} (hq:∀H,SqT K H b (ys.map V.str)) (W:Nat->L2.St->Hp->Prop) (h0:W 0 σ H)
 (hs:∀(n:Nat) (z:Str) (σ:L2.St) (H:Hp),ys[n]? =some z->W n σ H->g (.str z) σ H λσ2 H2=>tb (mkL D (W (n+1))) σ2 H2)
 (hd:∀(σ:L2.St) (H:Hp),W ys.length σ H->D.nx σ H):kFor g tb D σ (Itt K b) H:=by
 refine ⟨λn m σ H=>m=ys.length - n/\n<=ys.length/\W n σ H,⟨ys.length,by simp,TH _,h0⟩,?_⟩
 rintro n m σ H ⟨rfl,hn,hw⟩
 by_cases LS:n<ys.length
 ·refine .inr ⟨⟨_, .str ys[n],hq H,by rw [Qi,Qc LS];rfl⟩,W (n+1),λσ' H' p'=>⟨ys.length - (n+1),by omega,rfl,LS,p'⟩,λx H' y=>?_⟩;obtain ⟨rfl,hy⟩:=y;have:=hy _ (hq H');rw [Qi,Qc LS] at this;cases this;exact hs n ys[n] σ H' (Qc LS) hw
 ·exact .inl ⟨⟨_,hq H,by rw [Qa];omega⟩,hd σ H (by rw [show ys.length=n by omega];exact hw)⟩
def sV (CW:Addr):Sp:=λvs H Q _=>∃(a:Addr) (T:Str) (i n:Nat) (wd:Str),vs=[.ref a]/\At CW H a T i/\T.length<=100000/\We[n]? =some wd/\mB T wd i/\∀H',Ch a H H'->At CW H' a T (i+wd.length)->Q (.str wd) H'
theorem IZ {n:Nat} {wd:Str} (h:At CW H a T i) (hT:T.length<=100000) (hn:We[n]? =some wd) (hh:mB T wd i) (k:∀H',Ch a H H'->At CW H' a T (i+wd.length)->Q (.str wd) H'):sV CW [.ref a] H Q E:=⟨a,T,i,n,wd,rfl,h,hT,hn,hh,k⟩
theorem Fb {z:Str} {c:Nat} (hl:z.length<=1000) (hc:z.cps.toList[0]? =some c) (k:Q (.str ⟨#[c]⟩) H):rIx K (.str z) (.int 0) H Q:= .inr (.inr ⟨z,0,c,rfl,rfl,QI hl (by decide),yC (j:=0) hc,k⟩)
theorem pQ:∀(m n:Nat) (x y:Str),We[m]? =some x->We[n]? =some y->∃c d,x.cps.toList[0]? =some c/\y.cps.toList[0]? =some d/\(c=d->m=n)/\x.length<=1000/\x.cps.all (·<128)=true:=by
 have key:∀m:Fin 8,∀n:Fin 8,((We[m.1]?).bind λx=>x.cps.toList[0]?)=((We[n.1]?).bind λx=>x.cps.toList[0]?)->m=n:=by decide+kernel
 have one:∀m:Fin 8,(((We[m.1]?).bind λx=>x.cps.toList[0]?).isSome && ((We[m.1]?).elim false λx=>decide (x.length<=1000) && x.cps.all (·<128)))=true:=by decide+kernel
 intro m n x y hx hy;have hm:m<8:=(Qf.mp hx).1;have hn:n<8:=(Qf.mp hy).1;have o1:=one ⟨m,hm⟩;have o2:=one ⟨n,hn⟩;have k:=key ⟨m,hm⟩ ⟨n,hn⟩;dsimp only at o1 o2 k;rw [hx] at o1;rw [hy] at o2;rw [hx,hy] at k;simp only [Option.bind_some,Option.elim_some,Tr,decide_eq_true_eq] at o1 o2 k;obtain ⟨c,hc⟩:=jae.mp o1.1;obtain ⟨d,hd⟩:=jae.mp o2.1;refine ⟨c,d,hc,hd,λe=>?_,o1.2.1,o1.2.2⟩;have:=k (by rw [hc,hd,e]);exact congrArg Fin.val this
end
theorem wx {t b:Int} (hb:0<b) (h:Int.gcd t b=1):(Rat.divInt t b).num=t/\((Rat.divInt t b).den:Int)=b:=by
 have:=VT (a:=t) hb;rw [h] at this;refine ⟨?_,?_⟩
 ·rw [<-this.1];simp
 ·rw [<-this.2];simp
theorem wy:∀m:Nat,∃ds:List Nat,(Nat.toDigits 10 m).map Char.toNat=ds.map (48+·)/\(∀d∈ds,d<10)/\wX ds=(m:Int)/\0<ds.length/\(0<m->∀d,ds[0]? =some d->d≠0):=by
 intro m
 induction m using Nat.strongRecOn with
 |ind m ih=>
  have dc:∀d,d<10->(Nat.digitChar d).toNat=48+d:=by decide
  by_cases h:m<10
  ·refine ⟨[m],?_,λd hd=>by cases Qq.mp hd;exact h,by simp [wX],by simp,λh0 d hd=>by simp at hd;omega⟩;rw [Nat.toDigits_of_lt_base h];simp [dc m h]
  ·obtain ⟨ds,e1,e2,e3,e4,e5⟩:=ih (m / 10) (by omega);refine ⟨ds++[m % 10],?_,λd hd=>?_,?_,by simp,λ_ d hd=>?_⟩
   ·rw [Nat.toDigits_of_base_le (by decide) (by omega),QO,QO,e1];simp [dc (m % 10) (by omega)]
   ·rcases QT.mp hd with h|h
    ·exact e2 d h
    ·cases Qq.mp h;omega
   ·rw [mG,e3];omega
   ·rw [TU e4] at hd;exact e5 (by omega) d hd
theorem wA {t:Int} (h:0<t):∃ds:List Nat,(itS t).cps.toList=ds.map (48+·)/\(∀d∈ds,d<10)/\wX ds=t/\0<ds.length/\∀d,ds[0]? =some d->d≠0:=by
 obtain ⟨m,rfl⟩:=Int.eq_ofNat_of_zero_le (jbO h);obtain ⟨ds,e1,e2,e3,e4,e5⟩:=wy m;refine ⟨ds,?_,e2,e3,e4,e5 (by omega)⟩;unfold itS;rw [Str.ofString_eq_toList,<-e1];show ((toString ((m:Nat):Int)).toList.map Char.toNat)=_
 rw [show (toString ((m:Nat):Int)).toList=Nat.toDigits 10 m from by
  show (Nat.repr m).toList=_
  simp [Nat.repr]]
theorem xA {T u v:Str} {i:Nat} (h:mB T (u++v) i):mB T u i/\mB T v (i+u.length):=by
 constructor
 ·intro k c hc;refine h k c ?_;show (u.cps++v.cps)[k]? =some c;rw [Array.getElem?_append_left (jak.mp hc).1];exact hc
 ·intro k c hc;rw [Nat.add_assoc];refine h (u.length+k) c ?_;show (u.cps++v.cps)[u.cps.size+k]? =some c;rw [Array.getElem?_append_right (by omega),Nat.add_sub_cancel_left];exact hc
theorem GH (T:Str):mB T T 0:=by
 intro k c hc;have hk:=(jak.mp hc).1;have:=slice_one_closes (x:=T) (n:=(k:Nat)) (by omega) (by show (k:Int)<(T.cps.size:Int);omega);have e:=eq_of_beq this;unfold sgn;rw [jbc,e,TV,Array.getD_eq_getD_getElem?,hc];rfl
theorem IP (T:Str):sgn T T.length=Str.empty:=by
 have e:Builtin.Str.strSliceIndices (some ((T.length:Nat):Int)) (some (((T.length:Nat):Int)+1)) 1 T.length=[]:=by
  unfold Builtin.Str.strSliceIndices sliceRange;simp only [show (1:Int)>0 by decide,if_true];rw [QP (by omega:¬((T.length:Nat):Int)<0),QP (by omega:¬((T.length:Nat):Int)+1<0),QP (by omega)];rfl
 unfold sgn Txt.slice;rw [e]
 split
 ·rename_i h
  have h0:T.cps.size=0:=by
   have:(0==T.length)=true:=by simpa using h
   exact (eq_of_beq this).symm
  show T=⟨#[]⟩;obtain ⟨c⟩:=T;exact congrArg Str.mk (Array.eq_empty_of_size_eq_zero h0)
 ·rfl
theorem Dr {T gH:Str} {t:Int} {i c:Nat} (h0:0<t) (h:mB T (itS t++gH) i) (hc:gH.cps[0]? =some c) (hn:(⟨#[c]⟩:Str)∉oH):∃ds,Figs T i ds/\wX ds=t/\ds.length=(itS t).length:=by
 obtain ⟨ds,e1,e2,e3,e4,e5⟩:=wA h0;obtain ⟨hl,hr⟩:=xA h
 have el:ds.length=(itS t).length:=by
  have:=congrArg List.length e1;rw [Qa] at this;rw [<-this];rfl
 refine ⟨ds,⟨e4,λk d hd=>⟨e2 d (Qe hd),?_⟩,e5,?_⟩,e3,el⟩
 ·refine hl k (48+d) ?_;rw [<-Array.getElem?_toList,e1,Qi,hd];rfl
 ·rw [el];have:=hr 0 c hc;rw [Nat.add_zero] at this;rw [this];exact hn
def Rl.word:Rl->Str
 | .shares=>"shares"
 | .evenly=>"evenly"
 | .losses=>"losses"
 | .halves=>"halves"
 | .other _=>"other("
 | .ranks _=>"ranks("
 | .groups _ _=>"groups("
 | .upto _ _ _ _=>"upto("
def Rl.inner:Rl->Str
 | .other r=>r.text
 | .ranks r=>r.text
 | .groups a b=>a.text++(", ":Str)++b.text
 | .upto t b x y=>itS t++("/":Str)++itS b++(", ":Str)++x.text++(", ":Str)++y.text
 |_=>Str.empty
def Rl.leaf:Rl->Bool
 | .shares=>true
 | .evenly=>true
 | .losses=>true
 | .halves=>true
 |_=>false
theorem Rl.text_in:∀r:Rl,r.leaf=false->r.text=r.word++r.inner++(")":Str)
 | .other r,_=>rfl
 | .ranks r,_=>rfl
 | .groups a b,_=>by simp only [Rl.text,Rl.word,Rl.inner,xG]
 | .upto t b x y,_=>by simp only [Rl.text,Rl.word,Rl.inner,xG]
theorem Rl.word_at:∀r:Rl,∃n:Nat,We[n]? =some r.word
 | .shares=>⟨0,rfl⟩
 | .evenly=>⟨1,rfl⟩
 | .losses=>⟨2,rfl⟩
 | .halves=>⟨3,rfl⟩
 | .other _=>⟨4,rfl⟩
 | .ranks _=>⟨5,rfl⟩
 | .groups _ _=>⟨6,rfl⟩
 | .upto _ _ _ _=>⟨7,rfl⟩
def sW (CW:Addr) (A:RAd) (n:Nat):Sp:=spW CW (α:=Rl) (λ_=>[]) (λr T i=>mB T r.text i/\r.Ok/\r.deep<=n) (λr=>r.text.length) (λr=>r.ins A)
def HE (CW:Addr) (A:RAd) (n:Nat):Sp:=spW CW (α:=Rl) (λr=>[.str r.word]) (λr T i=>mB T r.inner i/\r.leaf=false/\r.Ok/\r.deep<=n+1) (λr=>r.inner.length) (λr=>r.ins A)
theorem EL:(⟨#[47]⟩:Str)∉oH:=by decide+kernel
theorem GO:(⟨#[44]⟩:Str)∉oH:=by decide+kernel
theorem Jo {T gH:Str} {t b:Int} {i:Nat} (hp:WJ t b) (h:mB T (itS t++("/":Str)++itS b++gH) i) (hc:gH.cps[0]? =some 44):∃ds es,PortAt T i t b ds es/\ds.length+1+es.length=(itS t++("/":Str)++itS b).length:=by
 rw [xG,xG] at h;have lsl:("/":Str).length=1:=by decide+kernel
 have hsl:(("/":Str)++(itS b++gH)).cps[0]? =some 47:=by
  show (("/":Str).cps++(itS b++gH).cps)[0]? =some 47;rw [Array.getElem?_append_left (by decide+kernel)];decide+kernel
 obtain ⟨ds,f1,v1,l1⟩:=Dr hp.2.1 h hsl EL;have h2:=(xA h).2;have h3:=(xA h2).2;obtain ⟨es,f2,v2,l2⟩:=Dr (by have:=hp.2;omega) h3 hc GO;rw [lsl] at f2;refine ⟨ds,es,⟨f1,v1,by rw [l1];exact (xA h2).1,by rw [l1];exact f2,v2,⟨hp.2.1,hp.2.2.1⟩,hp.2.2.2,hp.1⟩,?_⟩;rw [xJ,xJ,lsl,l1,l2]
section
variable {B G0 H:Hp} {cs:yk} {ds:Dat} {Q:VK} {E:XK} {v w u:V} {K:PySem.W.Frag} {CW:Addr}
def AA (CW:Addr):Sp:=λvs H Q _=>∃(x dx:Addr) (T:Str),vs=[.ref x, .str T]/\H x=some (.ins CW dx [])/\∀H',Ch x H H'->At CW H' x T 0->Q .non H'
def AD (A:RAd) (n:Nat):Sp:=spT (α:=Rl) (λr=>[.str r.text]) (λr=>r.Ok/\r.size<=16/\r.deep<=n) (λr=>r.ins A)
theorem Bq {A:RAd} {n:Nat} {r:Rl} (S:Sta B G0 H cs ds) (ok:r.Ok) (hs:r.size<=16) (hd:r.deep<=n) (k:∀w H',zL H H'->Sta B G0 H' cs ((r.ins A,w)::ds)->Q w H'):AD A n [.str r.text] H Q E:=Zw (α:=Rl) r S (zV.cons Has.str zV.nil) ⟨ok,hs,hd⟩ k
end
def zX:List Rat->Rat
 |[]=>0
 |x::r=>x+zX r
theorem cV:∀x y:List Rat,zX (x++y)=zX x+zX y
 |[],y=>by rw [jaE,zX];grind
 |a::x,y=>by rw [Ts,zX,zX,cV x y];grind
theorem WN (m:Nat):zX (List.replicate m 0)=0:=by
 induction m with
 |zero=>rfl
 |succ m ih=>rw [Td,zX,ih];grind
theorem jD (t:Rat):∀x y:List Rat,x.length=y.length->zX (List.zipWith (Zr t) x y)=Zr t (zX x) (zX y)
 |[],[],_=>by rw [List.zipWith_nil_left,zX];unfold Zr;grind
 |a::x,b::y,h=>by
  rw [jaa,zX,zX,zX,jD t x y (by simpa using h)];unfold Zr;grind
 |[],_::_,h=>by simp at h
 |_::_,[],h=>by simp at h
def LeV (x y:List Rat):Prop:=∀(i:Nat) (a b:Rat),x[i]? =some a->y[i]? =some b->a<=b
structure PathM (m:Nat) (a:List zg):Prop where
 t:PathT m a
 sums:∀c∈a,zX c.2=c.1
 mono:a.Pairwise λc d=>LeV c.2 d.2
theorem PathM.tail {m:Nat} {c:zg} {a:List zg} (h:PathM m (c::a)):PathM m a:=
 ⟨h.t.tail,λx hx=>h.sums x (Qd _ hx),(Qk.mp h.mono).2⟩
theorem tK {s e x y u v:Rat} (h:s<e) (Me:u<=v) (Nt:x<=y):Zr ((u - s) / (e - s)) x y<=Zr ((v - s) / (e - s)) x y:=by
 have l1:=yB (x:=x) (y:=y) (E:=u) h;have l2:=yB (x:=x) (y:=y) (E:=v) h;have hp:0<e - s:=by grind
 have h0:0<=(v - u)*(y - x):=jbz (by grind) (by grind);refine Rat.le_of_mul_le_mul_left (c:=e - s) ?_ hp
 grind
theorem Xy {m:Nat} {u v:Rat} (Me:u<=v):∀{c:zg} {r:List zg},PathM m (c::r)->c.1<=u->LeV (zh (c::r) u) (zh (c::r) v)
 |c,[],_,_=>λi a b ha hb=>by
  have e1:c.2[i]? =some a:=ha;have e2:c.2[i]? =some b:=hb;rw [e1] at e2;cases e2;exact QL
 |c,d::r,h,hc=>λi a b ha hb=>by
  have LW:=(Qk.mp h.t.rise).1 d (Qb ..);have hm:=(Qk.mp h.mono).1 d (Qb ..)
  by_cases hd:d.1<=u
  ·rw [zB hd] at ha;rw [zB (Tw hd Me)] at hb;exact Xy Me h.tail hd i a b ha hb
  ·have NN:u<d.1:=jaA.mp hd;rw [zh,QH NN] at ha;obtain ⟨x,y,hx,hy,ea⟩:=Zc ha;have Nt:=hm i x y hx hy
   by_cases hv:v<d.1
   ·rw [zh,QH hv] at hb;obtain ⟨x',y',Mj,ME,eb⟩:=Zc hb;rw [hx] at Mj;cases Mj;rw [hy] at ME;cases ME;rw [ea,eb];exact tK LW Me Nt
   ·have hdv:d.1<=v:=QX.mp hv;rw [zB hdv] at hb;have h2:=Xy hdv h.tail QL i y b (by rw [yf h.t.tail];exact hy) hb;have h1:=tK (x:=x) (y:=y) LW (QJ NN) Nt;rw [<-ea] at h1
    have e1:Zr ((d.1 - c.1) / (d.1 - c.1)) x y=y:=by
     rw [jbd,QZ _ (xC LW),tL]
    rw [e1] at h1;exact Tw h1 h2
theorem ao {m:Nat} {e:Rat}:∀{c:zg} {r:List zg},PathM m (c::r)->c.1<=e->e<=(lastC (c::r)).1->zX (zh (c::r) e)=e
 |c,[],h,hc,hl=>by
  have e1:e=c.1:=jaH hl hc;rw [e1];exact h.sums c (Qb ..)
 |c,d::r,h,hc,hl=>by
  have LW:=(Qk.mp h.t.rise).1 d (Qb ..)
  by_cases hd:d.1<=e
  ·rw [zB hd];exact ao h.tail hd (by rw [<-yL c];exact hl)
  ·have NN:e<d.1:=jaA.mp hd;rw [zh,QH NN];unfold Yg;rw [jD _ _ _ (by rw [h.t.len c (Qb ..),h.t.len d (Qd _ (Qb ..))]),h.sums c (Qb ..),h.sums d (Qd _ (Qb ..))];have l1:=yB (x:=c.1) (y:=d.1) (E:=e) LW;have:=zJ (a:=Zr ((e - c.1) / (d.1 - c.1)) c.1 d.1 - e) (b:=d.1 - c.1) (by grind) (xC LW)
   grind
theorem eB {m:Nat}:∀{c:zg} {r:List zg},PathT m (c::r)->zh (c::r) (lastC (c::r)).1=(lastC (c::r)).2
 |c,[],h=>rfl
 |c,d::r,h=>by
  rw [yL,zB (ff h.tail)];exact eB h.tail
def yS:List zg->Nat->Rat->Option Rat
 |c::d::r,k,L=>if L<d.2.getD k 0 then some (Zr ((L - c.2.getD k 0) / (d.2.getD k 0 - c.2.getD k 0)) c.1 d.1) else yS (d::r) k L
 |_,_,_=>none
theorem VP {m:Nat} {k:Nat} {L e:Rat} (hk:k<m):∀{c:zg} {r:List zg},PathM m (c::r)->c.2.getD k 0<=L->yS (c::r) k L=some e->
 ∃(i:Nat) (a b:zg) (x y:Rat),(c::r)[i]? =some a/\(c::r)[i+1]? =some b/\a.2[k]? =some x/\b.2[k]? =some y/\x<=L/\L<y/\e=Zr ((L - x) / (y - x)) a.1 b.1/\a.1<=e/\e<b.1/\(e - a.1) / (b.1 - a.1)=(L - x) / (y - x)/\zh (c::r) e=List.zipWith (Zr ((L - x) / (y - x))) a.2 b.2
 |c,[],_,_,h=>by simp [yS] at h
 |c,d::r,h,hc,hr=>by
  have LW:=(Qk.mp h.t.rise).1 d (Qb ..);have lc:k<c.2.length:=by rw [h.t.len c (Qb ..)];exact hk
  have ld:k<d.2.length:=by rw [h.t.len d (Qd _ (Qb ..))];exact hk
  have gc:c.2[k]? =some (c.2.getD k 0):=by rw [Qo,Qc lc];rfl
  have gd:d.2[k]? =some (d.2.getD k 0):=by rw [Qo,Qc ld];rfl
  rw [yS] at hr
  by_cases hL:L<d.2.getD k 0
  ·rw [QH hL] at hr;cases hr;generalize c.2.getD k 0=x at*;generalize d.2.getD k 0=y at*;have Nt:x<y:=by grind
   have l1:=yB (x:=c.1) (y:=d.1) (E:=L) Nt;have hp:0<y - x:=by grind
   have hq:0<d.1 - c.1:=by grind
   have h1:0<=(L - x)*(d.1 - c.1):=jbz (by grind) (by grind);have h2:0<(y - L)*(d.1 - c.1):=jbS (by grind) hq;have ge1:c.1<=Zr ((L - x) / (y - x)) c.1 d.1:=Rat.le_of_mul_le_mul_left (c:=y - x) (by grind) hp
   have Rv:Zr ((L - x) / (y - x)) c.1 d.1<d.1:=by
    refine jaA.mp λhle=>?_;have h3:0<=(Zr ((L - x) / (y - x)) c.1 d.1 - d.1)*(y - x):=jbz (by grind) (by grind)
    grind
   have et:(Zr ((L - x) / (y - x)) c.1 d.1 - c.1) / (d.1 - c.1)=(L - x) / (y - x):=by
    unfold Zr;generalize (L - x) / (y - x)=t;have hi:=QZ _ (xC LW);rw [jbd];generalize (d.1 - c.1)⁻¹=j at*
    grind
   refine ⟨0,c,d,x,y,rfl,rfl,gc,gd,hc,hL,rfl,ge1,Rv,et,?_⟩;rw [zh,QH Rv];unfold Yg;rw [et]
  ·rw [QP hL] at hr;obtain ⟨i,a,b,x,y,h1,h2,h3,h4,h5,h6,h7,h8,h9,h10,h11⟩:=VP hk h.tail (QX.mp hL) hr;refine ⟨i+1,a,b,x,y,by simpa using h1,by simpa using h2,h3,h4,h5,h6,h7,h8,h9,h10,?_⟩
   have hda:d.1<=a.1:=by
    cases i with
    |zero=>cases h1;exact QL
    |succ i=>exact QJ ((Qk.mp h.t.tail.rise).1 a (Qe (by simpa using h1)))
   rw [zB (Tw hda h8)];exact h11
theorem dJ {m:Nat} {k:Nat} {L:Rat} (hk:k<m):∀{c:zg} {r:List zg},PathM m (c::r)->c.2.getD k 0<=L->yS (c::r) k L=none->(lastC (c::r)).2.getD k 0<=L
 |c,[],_,hc,h=>hc
 |c,d::r,h,hc,hr=>by
  rw [yS] at hr
  by_cases hL:L<d.2.getD k 0
  ·rw [QH hL] at hr;cases hr
  ·rw [QP hL] at hr;rw [yL];exact dJ hk h.tail (QX.mp hL) hr
theorem nv {m:Nat} {k:Nat} {L:Rat} (hk:k<m):∀{c:zg} {r:List zg} {i:Nat} {a b:zg},PathM m (c::r)->(c::r)[i]? =some a->(c::r)[i+1]? =some b->a.2.getD k 0<=L->L<b.2.getD k 0->
 yS (c::r) k L=some (Zr ((L - a.2.getD k 0) / (b.2.getD k 0 - a.2.getD k 0)) a.1 b.1)
 |c,[],i,a,b,_,_,hb,_,_=>by simp at hb
 |c,d::r,0,a,b,_,ha,hb,_,hL=>by
  cases ha;cases hb;rw [yS,QH hL]
 |c,d::r,i+1,a,b,h,ha,hb,hLa,hL=>by
  have NA:(d::r)[i]? =some a:=by simpa using ha
  have hda:d.2.getD k 0<=a.2.getD k 0:=by
   cases i with
   |zero=>cases NA;exact QL
   |succ i=>
    have hm:=(Qk.mp h.tail.mono).1 a (Qe (by simpa using NA));have ld:k<d.2.length:=by rw [h.t.len d (Qd _ (Qb ..))];exact hk
    have la:k<a.2.length:=by rw [h.t.len a (Qe ha)];exact hk
    exact hm k _ _ (by rw [Qo,Qc ld];rfl) (by rw [Qo,Qc la];rfl)
  rw [yS,QP (QX.mpr (Tw hda hLa))];exact nv hk h.tail NA (by simpa using hb) hLa hL
theorem iM {m:Nat} {k:Nat} {L:Rat} (hk:k<m):∀{c:zg} {r:List zg},PathM m (c::r)->(∀l,(c::r).getLast? =some l->l.2.getD k 0<=L)->yS (c::r) k L=none
 |c,[],_,_=>rfl
 |c,d::r,h,hl=>by
  have hd:d.2.getD k 0<=L:=by
   obtain ⟨l,MM⟩:∃l,(c::d::r).getLast? =some l:=⟨_,QW (by simp)⟩;have hle:=hl l MM;rw [TQ] at MM
   cases r with
   |nil=>cases MM;exact hle
   |cons f r=>
    rw [TQ] at MM;have hm:=(Qk.mp h.tail.mono).1 l (jam MM);have ld:k<d.2.length:=by rw [h.t.len d (Qd _ (Qb ..))];exact hk
    have la:k<l.2.length:=by rw [h.t.len l (Qd _ (Qd _ (jam MM)))];exact hk
    exact Tw (hm k _ _ (by rw [Qo,Qc ld];rfl) (by rw [Qo,Qc la];rfl)) hle
  rw [yS,QP (QX.mpr hd)];exact iM hk h.tail λl Ms=>hl l (by rw [TQ];exact Ms)
theorem ya {m:Nat} {a:zg}:∀{c:zg} {r:List zg},PathT m (c::r)->a∈c::r->zh (c::r) a.1=a.2
 |c,[],_,ha=>by
  rcases Ql.mp ha with rfl|h
  ·rfl
  ·simp at h
 |c,d::r,h,ha=>by
  rcases Ql.mp ha with rfl|h'
  ·exact yf h
  ·have:d.1<=a.1:=by
    rcases Ql.mp h' with rfl|h2
    ·exact QL
    ·exact QJ ((Qk.mp h.tail.rise).1 a h2)
   rw [zB this];exact ya h.tail h'
theorem Us {m:Nat}:∀{c:zg} {r:List zg},PathT m (c::r)->lastC (c::r)∈c::r/\∀x∈c::r,x.1<=(lastC (c::r)).1
 |c,[],_=>⟨Qb ..,λx hx=>by
  rcases Ql.mp hx with rfl|h
  ·exact QL
  ·simp at h⟩
 |c,d::r,h=>by
  have ih:=Us h.tail;rw [yL];refine ⟨Qd _ ih.1,λx hx=>?_⟩
  rcases Ql.mp hx with rfl|h'
  ·exact Tw (QJ ((Qk.mp h.rise).1 d (Qb ..))) (ih.2 d (Qb ..))
  ·exact ih.2 x h'
theorem cC {m:Nat} {c:zg} {r:List zg} (h:PathT m (c::r)):∀x∈c::r,c.1<=x.1:=λx hx=>by
 rcases Ql.mp hx with rfl|h'
 ·exact QL
 ·exact QJ ((Qk.mp h.rise).1 x h')
theorem kN {a:List zg} (h:yl a) {i:Nat} {x y z:zg} (hx:a[i]? =some x) (hy:a[i+1]? =some y) (hz:z∈a):¬(x.1<z.1/\z.1<y.1):=
 YT (M:=zm a) (ZZ h) (j:=i) (by unfold zm;rw [Qi,hx];rfl) (by unfold zm;rw [Qi,hy];rfl) (by unfold zm;exact Qj.mpr ⟨z,hz,rfl⟩)
def Aa (x y z:List Rat) (a b:Rat):Prop:=∀(i:Nat) (p q r:Rat),x[i]? =some p->y[i]? =some q->z[i]? =some r->(r - p)*b=(q - p)*a
theorem eY {x y z:List Rat} {p q r a b:Rat}:Aa (p::x) (q::y) (r::z) a b↔(r - p)*b=(q - p)*a/\Aa x y z a b:=by
 constructor
 ·intro h;exact ⟨h 0 p q r rfl rfl rfl,λi p' q' r' h1 h2 h3=>h (i+1) p' q' r' (by simpa using h1) (by simpa using h2) (by simpa using h3)⟩
 ·rintro ⟨h0,h⟩ i p' q' r' h1 h2 h3
  cases i with
  |zero=>cases h1;cases h2;cases h3;exact h0
  |succ i=>exact h i p' q' r' (by simpa using h1) (by simpa using h2) (by simpa using h3)
theorem tR {a b:Rat} {x' y' z':List Rat}:∀{x y z:List Rat},x.length=y.length->x.length=z.length->(Aa (x++x') (y++y') (z++z') a b↔Aa x y z a b/\Aa x' y' z' a b)
 |[],[],[],_,_=>by
  simp only [jaE];exact ⟨λh=>⟨λi p q r h1=>by simp at h1,h⟩,λh=>h.2⟩
 |p::x,q::y,r::z,h1,h2=>by
  rw [Ts,Ts,Ts,eY,eY,tR (by simpa using h1) (by simpa using h2),and_assoc]
 |[],_::_,_,h,_=>by simp at h
 |_::_,[],_,h,_=>by simp at h
 |[],[],_::_,_,h=>by simp at h
 |_::_,_::_,[],_,h=>by simp at h
theorem tQ {a b:Rat}:∀{x y z:List Rat},x.length=y.length->x.length=z.length->Aa x y z a b->(zX z - zX x)*b=(zX y - zX x)*a
 |[],[],[],_,_,_=>by simp only [zX];grind
 |p::x,q::y,r::z,h1,h2,h=>by
  rw [eY] at h;have:=tQ (by simpa using h1) (by simpa using h2) h.2;have h0:=h.1;simp only [zX]
  grind
 |[],_::_,_,h,_,_=>by simp at h
 |_::_,[],_,h,_,_=>by simp at h
 |[],[],_::_,_,h,_=>by simp at h
 |_::_,_::_,[],_,h,_=>by simp at h
theorem uz {x y:List Rat} {p q:Rat}:LeV (p::x) (q::y)↔p<=q/\LeV x y:=by
 constructor
 ·intro h;exact ⟨h 0 p q rfl rfl,λi p' q' h1 h2=>h (i+1) p' q' (by simpa using h1) (by simpa using h2)⟩
 ·rintro ⟨h0,h⟩ i p' q' h1 h2
  cases i with
  |zero=>cases h1;cases h2;exact h0
  |succ i=>exact h i p' q' (by simpa using h1) (by simpa using h2)
theorem DW {x' y':List Rat}:∀{x y:List Rat},x.length=y.length->LeV x y->LeV x' y'->LeV (x++x') (y++y')
 |[],[],_,_,h=>h
 |p::x,q::y,hl,h,h'=>by
  rw [uz] at h;rw [Ts,Ts,uz];exact ⟨h.1,DW (by simpa using hl) h.2 h'⟩
 |[],_::_,h,_,_=>by simp at h
 |_::_,[],h,_,_=>by simp at h
def yU (Qs:List (List zg)) (ps:List Rat):List Rat:=(List.zipWith zh Qs ps).flatten
theorem xk (Q:List zg) (Qs:List (List zg)) (p:Rat) (ps:List Rat):yU (Q::Qs) (p::ps)=zh Q p++yU Qs ps:=by
 unfold yU;rw [jaa,TL]
def Wid (Q:List zg):Prop:=∃(m:Nat) (c:zg) (r:List zg),Q=c::r/\∀x∈c::r,x.2.length=m
theorem Wid.len {Q:List zg} (h:Wid Q) (p q:Rat):(zh Q p).length=(zh Q q).length:=by
 obtain ⟨m,c,r,rfl,h⟩:=h;rw [xj h,xj h]
theorem tP {a b:Rat}:∀{Qs:List (List zg)} {pu pv pE:List Rat},pu.length=Qs.length->pv.length=Qs.length->pE.length=Qs.length->(∀Q∈Qs,Wid Q)->
 (Aa (yU Qs pu) (yU Qs pv) (yU Qs pE) a b↔∀(k:Nat) (Q:List zg) (p q r:Rat),Qs[k]? =some Q->pu[k]? =some p->pv[k]? =some q->pE[k]? =some r->Aa (zh Q p) (zh Q q) (zh Q r) a b)
 |[],[],[],[],_,_,_,_=>⟨λ_ k Q p q r h=>by simp at h,λ_ i p q r h=>by simp [yU] at h⟩
 |Q::Qs,p::pu,q::pv,r::pE,h1,h2,h3,hw=>by
  have w:=hw Q (Qb ..);rw [xk,xk,xk,tR (w.len _ _) (w.len _ _),tP (by simpa using h1) (by simpa using h2) (by simpa using h3) λQ hQ=>hw Q (Qd _ hQ)]
  constructor
  ·rintro ⟨h,h'⟩ k Q' p' q' r' a1 a2 a3 a4
   cases k with
   |zero=>cases a1;cases a2;cases a3;cases a4;exact h
   |succ k=>exact h' k Q' p' q' r' (by simpa using a1) (by simpa using a2) (by simpa using a3) (by simpa using a4)
  ·intro h;exact ⟨h 0 Q p q r rfl rfl rfl rfl,λk Q' p' q' r' a1 a2 a3 a4=>h (k+1) Q' p' q' r' (by simpa using a1) (by simpa using a2) (by simpa using a3) (by simpa using a4)⟩
 |[],_::_,_,_,h,_,_,_=>by simp at h
 |[],[],_::_,_,_,h,_,_=>by simp at h
 |[],[],[],_::_,_,_,h,_=>by simp at h
 |_::_,[],_,_,h,_,_,_=>by simp at h
 |_::_,_::_,[],_,_,h,_,_=>by simp at h
 |_::_,_::_,_::_,[],_,_,h,_=>by simp at h
theorem CK:∀{Qs:List (List zg)} {pu pv:List Rat},pu.length=Qs.length->pv.length=Qs.length->(∀Q∈Qs,Wid Q)->
 (∀(k:Nat) (Q:List zg) (p q:Rat),Qs[k]? =some Q->pu[k]? =some p->pv[k]? =some q->LeV (zh Q p) (zh Q q))->LeV (yU Qs pu) (yU Qs pv)
 |[],[],[],_,_,_,_=>λi p q h=>by simp [yU] at h
 |Q::Qs,p::pu,q::pv,h1,h2,hw,h=>by
  rw [xk,xk];exact DW ((hw Q (Qb ..)).len _ _) (h 0 Q p q rfl rfl rfl) (CK (by simpa using h1) (by simpa using h2) (λQ hQ=>hw Q (Qd _ hQ)) λk Q' p' q' a1 a2 a3=>h (k+1) Q' p' q' (by simpa using a1) (by simpa using a2) (by simpa using a3))
 |[],_::_,_,h,_,_,_=>by simp at h
 |[],[],_::_,_,h,_,_=>by simp at h
 |_::_,[],_,h,_,_,_=>by simp at h
 |_::_,_::_,[],_,h,_,_=>by simp at h
theorem sS:∀{Qs:List (List zg)} {ps:List Rat},ps.length=Qs.length->(∀(k:Nat) (Q:List zg) (p:Rat),Qs[k]? =some Q->ps[k]? =some p->zX (zh Q p)=p)->zX (yU Qs ps)=zX ps
 |[],[],_,_=>rfl
 |Q::Qs,p::ps,h,g=>by
  rw [xk,cV,g 0 Q p rfl rfl,zX,sS (by simpa using h) λk Q' p' a1 a2=>g (k+1) Q' p' (by simpa using a1) (by simpa using a2)]
 |[],_::_,h,_=>by simp at h
 |_::_,[],h,_=>by simp at h
theorem tT:∀{Qs:List (List zg)} {pu pv:List Rat},pu.length=Qs.length->pv.length=Qs.length->(∀Q∈Qs,Wid Q)->(yU Qs pu).length=(yU Qs pv).length
 |[],[],[],_,_,_=>rfl
 |Q::Qs,p::pu,q::pv,h1,h2,hw=>by
  rw [xk,xk,Qy,Qy,(hw Q (Qb ..)).len p q,tT (by simpa using h1) (by simpa using h2) λQ hQ=>hw Q (Qd _ hQ)]
 |[],_::_,_,h,_,_=>by simp at h
 |[],[],_::_,_,h,_=>by simp at h
 |_::_,[],_,h,_,_=>by simp at h
 |_::_,_::_,[],_,h,_=>by simp at h
theorem tN {x:Rat}:∀{Qs:List (List zg)} {ps:List Rat},x∈yU Qs ps->∃(k:Nat) (Q:List zg) (p:Rat),Qs[k]? =some Q/\ps[k]? =some p/\x∈zh Q p
 |[],ps,h=>by simp [yU] at h
 |Q::Qs,[],h=>by simp [yU] at h
 |Q::Qs,p::ps,h=>by
  rw [xk,QT] at h
  rcases h with h|h
  ·exact ⟨0,Q,p,rfl,rfl,h⟩
  ·obtain ⟨k,Q',p',a,b,c⟩:=tN h;exact ⟨k+1,Q',p',by simpa using a,by simpa using b,c⟩
theorem bend {m:Nat} {c:zg} {r:List zg} (h:PathM m (c::r)) {u v w:Rat} {y:zg} (hy:y∈c::r) (ev:y.1=v) (Me:u<v) (NY:v<w) (hc:c.1<=u) (hw:w<=(lastC (c::r)).1)
 (n1:∀x∈c::r,¬(u<x.1/\x.1<v)) (n2:∀x∈c::r,¬(v<x.1/\x.1<w)) (hl:Aa (zh (c::r) u) (zh (c::r) w) (zh (c::r) v) (v - u) (w - u)):False:=by
 obtain ⟨j,hj,ej⟩:=jah hy;have gy:(c::r)[j]? =some y:=by rw [Qc hj,ej]
 have hj1:j≠0:=λz=>by
  subst z;cases gy;rw [<-ev] at Me;exact QX.mpr hc Me
 obtain ⟨i,rfl⟩:∃i,j=i+1:=⟨j - 1,by omega⟩;have hR:=h.t.rise;unfold yl at hR;rw [QK] at hR
 have hj2:i+2<(c::r).length:=by
  refine Nat.lt_of_not_le λhle=>?_
  have e1:lastC (c::r)=y:=by
   unfold lastC;rw [jas,show (c::r).length - 1=i+1 by omega,gy];rfl
  rw [e1,ev] at hw;exact QX.mpr hw NY
 have gx:(c::r)[i]? =some (c::r)[i]:=Qc (by omega);have gz:(c::r)[i+2]? =some (c::r)[i+2]:=Qc hj2;have xy:=hR i (i+1) (by omega) hj (by omega);have yz:=hR (i+1) (i+2) hj hj2 (by omega);rw [ej] at xy yz;generalize (c::r)[i]=x at*;generalize (c::r)[i+2]=z at*;have mx:=Qe gx;have mz:=Qe gz;rw [ev] at xy yz;have hxu:x.1<=u:=QX.mp λLS=>n1 x mx ⟨LS,xy⟩;have hwz:w<=z.1:=QX.mp λLS=>n2 z mz ⟨yz,LS⟩;have px:=ya h.t mx;have py:=ya h.t hy;have pz:=ya h.t mz;rw [ev] at py;have hcx:=cC h.t x mx
 have no1:∀s∈r,¬(x.1<s.1/\s.1<v):=λs hs=>by
  have:=kN h.t.rise gx gy (Qd c hs);rw [ev] at this;exact this
 have no2:∀s∈r,¬(v<s.1/\s.1<z.1):=λs hs=>by
  have:=kN h.t.rise gy gz (Qd c hs);rw [ev] at this;exact this
 refine h.t.thin i x y z gx gy gz λk a b d ha hb hd=>?_;have lk:k<m:=by rw [<-h.t.len x mx];exact (Qf.mp ha).1
 have g:∀e,∃q,(zh (c::r) e)[k]? =some q:=λe=>⟨_,Qc (by rw [xj h.t.len];exact lk)⟩;obtain ⟨pu,hpu⟩:=g u;obtain ⟨pw,hpw⟩:=g w;have l1:=Zq hxu (QJ Me) xy h.t hcx no1 k a b pu (by rw [px];exact ha) (by rw [py];exact hb) hpu;have l2:=Zq (QJ NY) hwz yz h.t (Tw hc (QJ Me)) no2 k b d pw (by rw [py];exact hb) (by rw [pz];exact hd) hpw;have l3:=hl k pu pw b hpu hpw (by rw [py];exact hb);rw [ev];have nuv:=xC Me;have nvw:=xC NY;have nuw:w - u≠0:=xC (yW Me NY);have e1:((b - a)*(v - u) - (b - pu)*(v - x.1))*1=0:=by grind
 have e2:(pw - b)*(v - u)=(b - pu)*(w - v):=by grind
 have e3:((d - b)*(w - v) - (pw - b)*(z.1 - v))=0:=by grind
 have e4:((d - b)*(v - u) - (b - pu)*(z.1 - v))*(w - v)=0:=by grind
 have e5:=zJ e4 nvw;have e6:((b - a)*(z.1 - x.1) - (d - a)*(v - x.1))*(v - u)=0:=by grind
 have:=zJ e6 nuv
 grind
def ZY (P:List zg) (k:Nat) (Q:List zg):List Rat:=(zm Q).filterMap (yS P k)
def wpF (P:List zg):Nat->List (List zg)->List Rat->List Rat
 |_,[],M=>M
 |k,Q::Qs,M=>wpF P (k+1) Qs (zK M (ZY P k Q))
theorem sO (P Q:List zg):∀(Qs:List (List zg)) (k:Nat) (M:List Rat),wpF P k (Qs++[Q]) M=zK (wpF P k Qs M) (ZY P (k+Qs.length) Q)
 |[],k,M=>by rw [jaE,wpF,wpF,wpF];rfl
 |Q'::Qs,k,M=>by rw [Ts,wpF,wpF,sO P Q Qs (k+1),Qw];congr 2;omega
theorem ar {P:List zg} {e:Rat}:∀{Qs:List (List zg)} {k:Nat} {M:List Rat},e∈wpF P k Qs M↔e∈M\/∃(j:Nat) (Q:List zg),Qs[j]? =some Q/\e∈ZY P (k+j) Q
 |[],k,M=>by
  rw [wpF];exact ⟨.inl,λh=>h.elim id λ⟨j,Q,h,_⟩=>by simp at h⟩
 |Q::Qs,k,M=>by
  rw [wpF,ar,xq]
  constructor
  ·rintro ((h|h)|⟨j,Q',h1,h2⟩)
   ·exact .inl h
   ·exact .inr ⟨0,Q,rfl,h⟩
   ·exact .inr ⟨j+1,Q',by simpa using h1,by rw [show k+(j+1)=k+1+j by omega];exact h2⟩
  ·rintro (h|⟨j,Q',h1,h2⟩)
   ·exact .inl (.inl h)
   ·cases j with
    |zero=>cases h1;exact .inl (.inr h2)
    |succ j=>exact .inr ⟨j,Q',by simpa using h1,by rw [show k+1+j=k+(j+1) by omega];exact h2⟩
theorem tm {P:List zg}:∀{Qs:List (List zg)} {k:Nat} {M:List Rat},Vj M->(∀(j:Nat) (Q:List zg),Qs[j]? =some Q->Vj (ZY P (k+j) Q))->Vj (wpF P k Qs M)
 |[],_,_,h,_=>by rw [wpF];exact h
 |Q::Qs,k,M,h,g=>by
  rw [wpF];exact tm (YO h (g 0 Q rfl)) λj Q' hj=>by rw [show k+1+j=k+(j+1) by omega];exact g (j+1) Q' (by simpa using hj)
structure Nest (P:List zg) (Qs:List (List zg)):Prop where
 pm:PathM Qs.length P
 p0:∃r,P=(0,List.replicate Qs.length 0)::r
 q:∀(k:Nat) (Q:List zg),Qs[k]? =some Q->∃(m:Nat) (r:List zg),Q=((0:Rat),List.replicate m 0)::r/\PathM m Q/\(lastC P).2[k]? =some (lastC Q).1
section
variable {P:List zg} {Qs:List (List zg)}
theorem Nest.wid (h:Nest P Qs):∀Q∈Qs,Wid Q:=λQ hQ=>by
 obtain ⟨k,hk⟩:=Qr.mp hQ;obtain ⟨m,r,rfl,pm,_⟩:=h.q k Q hk;exact ⟨m,_,r,rfl,pm.t.len⟩
theorem Nest.plen (h:Nest P Qs) (e:Rat):(zh P e).length=Qs.length:=by
 obtain ⟨r,rfl⟩:=h.p0;exact xj h.pm.t.len
theorem Nest.get (h:Nest P Qs) (e:Rat) {k:Nat} {Q:List zg} (hk:Qs[k]? =some Q):∃p,(zh P e)[k]? =some p:=
 ⟨_,Qc (by rw [h.plen];exact (Qf.mp hk).1)⟩
theorem Nest.mono (h:Nest P Qs) {u v:Rat} (h0:0<=u) (Me:u<=v):LeV (zh P u) (zh P v):=by
 obtain ⟨r,rfl⟩:=h.p0;exact Xy Me h.pm h0
theorem Nest.range (h:Nest P Qs) {e p:Rat} {k:Nat} {Q:List zg} (h0:0<=e) (hl:e<=(lastC P).1) (hk:Qs[k]? =some Q) (hp:(zh P e)[k]? =some p):0<=p/\p<=(lastC Q).1:=by
 obtain ⟨m,rq,eQ,pq,hq⟩:=h.q k Q hk;have m1:=h.mono QL h0;have m2:=h.mono h0 hl;obtain ⟨r,eP⟩:=h.p0;subst eP;have e0:zh ((0,List.replicate Qs.length 0)::r) 0=List.replicate Qs.length 0:=yf h.pm.t;rw [e0] at m1;rw [eB h.pm.t] at m2;refine ⟨m1 k 0 p ?_ hp,m2 k p _ hp hq⟩;rw [QS,QH (Qf.mp hk).1]
theorem Nest.reach (h:Nest P Qs) {k:Nat} {Q:List zg} {L e:Rat} (hk:Qs[k]? =some Q) (hL:0<=L) (hr:yS P k L=some e):
 (0<=e/\e<(lastC P).1)/\(zh P e)[k]? =some L/\∀e' q,e<e'->(zh P e')[k]? =some q->L<q:=by
 have Of:k<Qs.length:=(Qf.mp hk).1;obtain ⟨r,eP⟩:=h.p0;have pm:=h.pm;have mon:=λ(u v:Rat) (a:0<=u) (b:u<=v)=>h.mono a b;have plen:=h.plen;rw [eP] at hr pm mon plen⊢
 obtain ⟨i,a,b,x,y,g1,g2,g3,g4,hxL,hLy,ee,PZ,heb,et,ep⟩:=VP Of pm (by
  rw [Qo,QS,QH Of];exact hL) hr
 have ma:=Qe g1;have mb:=Qe g2;have RS:(0:Rat)<=a.1:=cC pm.t a ma;have hbl:=(Us pm.t).2 b mb;have Nt:x<y:=by grind
 have eL:Zr ((L - x) / (y - x)) x y=L:=by
  have l:=yB (x:=x) (y:=y) (E:=L) Nt;have:=zJ (a:=Zr ((L - x) / (y - x)) x y - L) (b:=y - x) (by grind) (xC Nt)
  grind
 have pe:(zh ((0,List.replicate Qs.length 0)::r) e)[k]? =some L:=by
  rw [ep,QC,g3,g4];show some (Zr _ x y)=_;rw [eL]
 refine ⟨⟨Tw RS PZ,by grind⟩,pe,λe' q PR hq=>?_⟩;have Mw:a.1<b.1:=by grind
 have no:∀s∈r,¬(a.1<s.1/\s.1<b.1):=λs hs=>kN pm.t.rise g1 g2 (Qd _ hs)
 have key:∀e2 q2,e<e2->e2<=b.1->(zh ((0,List.replicate Qs.length 0)::r) e2)[k]? =some q2->L<q2:=by
  intro e2 q2 h1 h2 h3;have l1:=Zq (QJ (by grind:a.1<e2)) h2 Mw pm.t RS no k x y q2 (by rw [ya pm.t ma];exact g3) (by rw [ya pm.t mb];exact g4) h3;have l2:=Zq PZ (QJ heb) Mw pm.t RS no k x y L (by rw [ya pm.t ma];exact g3) (by rw [ya pm.t mb];exact g4) pe;refine jaA.mp λhle=>?_;have p1:0<(y - x)*(e2 - e):=jbS (by grind) (by grind);have p2:0<=(L - q2)*(b.1 - a.1):=jbz (by grind) (by grind)
  grind
 by_cases hb:e'<=b.1
 ·exact key e' q PR hb hq
 ·have h1:=key b.1 y heb QL (by rw [ya pm.t mb];exact g4);have h2:=mon b.1 e' (by grind) (by grind) k y q (by rw [ya pm.t mb];exact g4) hq
  grind
theorem Nest.reach_none (h:Nest P Qs) {k:Nat} {Q:List zg} {L:Rat} (hk:Qs[k]? =some Q) (hL:0<=L) (hr:yS P k L=none):(lastC Q).1<=L:=by
 have Of:k<Qs.length:=(Qf.mp hk).1;obtain ⟨m,rq,eQ,pq,hq⟩:=h.q k Q hk;obtain ⟨r,eP⟩:=h.p0;have pm:=h.pm;rw [eP] at hr pm hq;have:=dJ Of pm (by rw [Qo,QS,QH Of];exact hL) hr;rw [Qo,hq] at this;exact this
theorem Nest.qpos (h:Nest P Qs) {k:Nat} {Q:List zg} (hk:Qs[k]? =some Q):∀c∈Q,0<=c.1/\c.1<=(lastC Q).1:=λc hc=>by
 obtain ⟨m,rq,eQ,pq,hq⟩:=h.q k Q hk;subst eQ;exact ⟨cC pq.t c hc,(Us pq.t).2 c hc⟩
def wpV (P:List zg) (Qs:List (List zg)):List Rat:=wpF P 0 Qs (zm P)
def yG (P:List zg) (Qs:List (List zg)):List zg:=(wpV P Qs).map λe=>(e,yU Qs (zh P e))
theorem Nest.rise (h:Nest P Qs):Vj (wpV P Qs):=by
 refine tm (ZZ h.pm.t.rise) λk Q hk=>?_;rw [jbc];obtain ⟨m,rq,eQ,pq,hq⟩:=h.q k Q hk;have hr:=ZZ pq.t.rise;unfold Vj ZY;rw [List.pairwise_filterMap];unfold Vj at hr;refine hr.imp_of_mem λ{L L'} hL hL' LS e he e' PR=>?_;obtain ⟨c,hc,rfl⟩:=Qj.mp hL;obtain ⟨c',LX,rfl⟩:=Qj.mp hL';have r1:=h.reach hk (h.qpos hk c hc).1 he;have r2:=h.reach hk (h.qpos hk c' LX).1 PR;refine jaA.mp λhle=>?_;have:=h.mono r2.1.1 hle k _ _ r2.2.1 r1.2.1
 grind
theorem Nest.mem (h:Nest P Qs) {e:Rat}:e∈wpV P Qs↔(∃c∈P,c.1=e)\/∃(k:Nat) (Q:List zg),Qs[k]? =some Q/\∃c∈Q,yS P k c.1=some e:=by
 unfold wpV;rw [ar]
 constructor
 ·rintro (h1|⟨j,Q,h1,h2⟩)
  ·obtain ⟨c,hc,rfl⟩:=Qj.mp h1;exact .inl ⟨c,hc,rfl⟩
  ·rw [jbc] at h2;unfold ZY at h2;obtain ⟨L,hL,hr⟩:=jbF.mp h2;obtain ⟨c,hc,rfl⟩:=Qj.mp hL;exact .inr ⟨j,Q,h1,c,hc,hr⟩
 ·rintro (⟨c,hc,rfl⟩|⟨k,Q,h1,c,hc,hr⟩)
  ·exact .inl (Qj.mpr ⟨c,hc,rfl⟩)
  ·refine .inr ⟨k,Q,h1,?_⟩;rw [jbc];exact jbF.mpr ⟨c.1,Qj.mpr ⟨c,hc,rfl⟩,hr⟩
theorem Nest.in_range (h:Nest P Qs) {e:Rat} (he:e∈wpV P Qs):0<=e/\e<=(lastC P).1:=by
 rcases h.mem.mp he with ⟨c,hc,rfl⟩|⟨k,Q,hk,c,hc,hr⟩
 ·have pm:=h.pm;obtain ⟨r,eP⟩:=h.p0;subst eP;exact ⟨cC pm.t c hc,(Us pm.t).2 c hc⟩
 ·have:=(h.reach hk (h.qpos hk c hc).1 hr).1;exact ⟨this.1,QJ this.2⟩
theorem Nest.no_level (h:Nest P Qs) {j k:Nat} {u v p q:Rat} {Q:List zg} (hu:(wpV P Qs)[j]? =some u) (hv:(wpV P Qs)[j+1]? =some v) (hk:Qs[k]? =some Q) (hp:(zh P u)[k]? =some p) (hq:(zh P v)[k]? =some q):
 ∀x∈Q,¬(p<x.1/\x.1<q):=by
 rintro x hx ⟨h1,h2⟩
 have ru:=h.in_range (Qe hu);have rv:=h.in_range (Qe hv);have Mi:=(h.qpos hk x hx).1
 cases hr:yS P k x.1 with
 |none=>
  have:=h.reach_none hk Mi hr;have:=(h.range rv.1 rv.2 hk hq).2
  grind
 |some e=>
  have re:=h.reach hk Mi hr;have me:e∈wpV P Qs:=h.mem.mpr (.inr ⟨k,Q,hk,x,hx,hr⟩);refine YT h.rise hu hv me ⟨jaA.mp λhle=>?_,jaA.mp λhle=>?_⟩
  ·have:=h.mono re.1.1 hle k _ _ re.2.1 hp
   grind
  ·have:=h.mono rv.1 hle k _ _ hq re.2.1
   grind
theorem Bj {M:List Rat} (hM:Vj M) {j:Nat} {u v:Rat} (hu:M[j]? =some u) (hv:M[j+1]? =some v):u<v:=by
 obtain ⟨lu,eu⟩:=Qf.mp hu;obtain ⟨lv,ev⟩:=Qf.mp hv;have:=QK.mp hM j (j+1) lu lv (by omega);rw [eu,ev] at this;exact this
theorem Nest.pgap (h:Nest P Qs) {j:Nat} {u v:Rat} (hu:(wpV P Qs)[j]? =some u) (hv:(wpV P Qs)[j+1]? =some v):∀x∈P,¬(u<x.1/\x.1<v):=λx hx=>
 YT h.rise hu hv (h.mem.mpr (.inl ⟨x,hx,rfl⟩))
theorem Nest.qsum (h:Nest P Qs) {e:Rat} (h0:0<=e) (hl:e<=(lastC P).1) {k:Nat} {Q:List zg} {p:Rat} (hk:Qs[k]? =some Q) (hp:(zh P e)[k]? =some p):zX (zh Q p)=p:=by
 have rp:=h.range h0 hl hk hp;obtain ⟨m,rq,eQ,pq,_⟩:=h.q k Q hk;subst eQ;exact ao pq rp.1 rp.2
theorem Nest.sum (h:Nest P Qs) {e:Rat} (h0:0<=e) (hl:e<=(lastC P).1):zX (yU Qs (zh P e))=e:=by
 rw [sS (h.plen e) λk Q p hk hp=>h.qsum h0 hl hk hp];have pm:=h.pm;obtain ⟨r,eP⟩:=h.p0;rw [eP] at pm hl⊢;exact ao pm h0 hl
theorem Nest.rises (h:Nest P Qs) {u v:Rat} (h0:0<=u) (Me:u<=v) (hl:v<=(lastC P).1):LeV (yU Qs (zh P u)) (yU Qs (zh P v)):=by
 refine CK (h.plen u) (h.plen v) h.wid λk Q p q hk hp hq=>?_;have hpq:=h.mono h0 Me k p q hp hq;have rp:=h.range h0 (Tw Me hl) hk hp;obtain ⟨m,rq,eQ,pq,_⟩:=h.q k Q hk;subst eQ;exact Xy hpq pq rp.1
theorem Nest.thin (h:Nest P Qs) {j:Nat} {u v w:Rat} (hu:(wpV P Qs)[j]? =some u) (hv:(wpV P Qs)[j+1]? =some v) (hw:(wpV P Qs)[j+2]? =some w)
 (hl:Aa (yU Qs (zh P u)) (yU Qs (zh P w)) (yU Qs (zh P v)) (v - u) (w - u)):False:=by
 have Me:=Bj h.rise hu hv;have NY:=Bj h.rise hv hw;have ru:=h.in_range (Qe hu);have rv:=h.in_range (Qe hv);have Nj:=h.in_range (Qe hw);rw [tP (h.plen u) (h.plen w) (h.plen v) h.wid] at hl
 have each:∀(k:Nat) (Q:List zg) (p q r:Rat),Qs[k]? =some Q->(zh P u)[k]? =some p->(zh P w)[k]? =some q->(zh P v)[k]? =some r->(r - p)*(w - u)=(q - p)*(v - u):=by
  intro k Q p q r hk hp hq hr;have wd:=h.wid Q (Qe hk);have:=tQ (wd.len _ _) (wd.len _ _) (hl k Q p q r hk hp hq hr);rw [h.qsum ru.1 ru.2 hk hp,h.qsum Nj.1 Nj.2 hk hq,h.qsum rv.1 rv.2 hk hr] at this;exact this
 rcases h.mem.mp (Qe hv) with ⟨y,hy,ey⟩|⟨k,Q,hk,y,hy,hr⟩
 ·have g1:=h.pgap hu hv;have g2:=h.pgap hv hw;have pl:=λe=>h.plen e
  have lin:Aa (zh P u) (zh P w) (zh P v) (v - u) (w - u):=λk p q r hp hq hr=>by
   have lk:k<Qs.length:=by rw [<-h.plen u];exact (Qf.mp hp).1
   exact each k _ p q r (Qc lk) hp hq hr
  obtain ⟨r,eP⟩:=h.p0;have pm:=h.pm;rw [eP] at g1 g2 lin pm hy Nj;exact bend pm hy ey Me NY ru.1 Nj.2 g1 g2 lin
 ·have re:=h.reach hk (h.qpos hk y hy).1 hr;obtain ⟨p,hp⟩:=h.get u hk;obtain ⟨q,hq⟩:=h.get w hk;have e1:=each k Q p q y.1 hk hp hq re.2.1;have NO:=re.2.2 w q NY hq;have hp1:=h.mono ru.1 (QJ Me) k p y.1 hp re.2.1
  have SN:p<y.1:=by
   refine jaA.mp λhle=>?_;have e:p=y.1:=jaH hp1 hle;have p1:0<(q - p)*(v - u):=jbS (by grind) (by grind)
   grind
  have lv1:=h.no_level hu hv hk hp re.2.1;have lv2:=h.no_level hv hw hk re.2.1 hq;have lin:=hl k Q p q y.1 hk hp hq re.2.1;have rp:=h.range ru.1 ru.2 hk hp;have rq:=h.range Nj.1 Nj.2 hk hq;obtain ⟨m,r,eQ,pq,_⟩:=h.q k Q hk;subst eQ;refine bend pq hy rfl SN NO rp.1 rq.2 lv1 lv2 λi a b c ha hb hc=>?_;have l0:=lin i a b c ha hb hc;have k0:((c - a)*(q - p) - (b - a)*(y.1 - p))*(w - u)=0:=by grind
  have:=zJ k0 (xC (yW Me NY))
  grind
end
end S
namespace S
open PySem PySem.Spec PyProof.Rows PyProof L2
section
variable {X:Cx}
theorem eV (l:Addr) (items:Array Value) (n:Nat) (b:Addr) (o2:Obj) (items2:Array Value) (n2:Nat) (RP:o2.cls= .type "tuple") (hd2:o2.data= .seq items2 n2) (hs0:¬(!items.isEmpty && Builtin.List.listTooLong (items.size+items2.size))=true) (Pr:items.size<=sizeLine) (Nl:items.size+items2.size<=sizeLine+1):
 Meets (Builtin.«list.extend» ⟨[.ref l, .ref b],[]⟩) (λ_ R s=>s.heap.get? l=some {cls:= .type "list",dict:=none,data:= .seq items n,slots:=#[]}/\s.heap.get? b=some o2/\R (.ok (.ret Value.none)) {s with heap:=s.heap.update l (Obj.mapSeq λx=>x++items2),toks:=s.toks}):=
 .of_wp λprog w A R s h=>by
  obtain ⟨cls,dict,data,slots⟩:=o2;dsimp only at RP hd2;subst RP;subst hd2;have g1:=AutoSeq1.idx_int;have g2:=AutoSeq1.sub_tuple_tuple;have g3:=AutoSeq1.sub_list_list;have g4:=AutoSeq1.sub_tuple_list;have g5:=AutoSeq1.sub_list_tuple;obtain ⟨hp,g,d,tk,os⟩:=s;obtain ⟨hA,hT,hR⟩:=h;have fits:(items++items2).size<=sizeLine+1:=by simpa using Nl
  wp_walk using (wpAny_updateSeq hA rfl (hz:=Pr) (_hz':=fits)),AutoSeq1.wpAny_loadPart' hA,AutoSeq1.wpAny_loadPart' hT
  exact ⟨_,rfl,hR⟩
def tE (K:PySem.W.Frag):V->List V->Hp->VK->Prop:=λx vs H Q=>∃l b xs zs,x= .ref l/\vs=[.ref b]/\H l=some (.lst xs)/\H b=some (.tup zs)/\xs.length+zs.length<=sizeLine/\Q .non (upd H l (.lst (xs++zs)))
theorem Kz:MtM X "list.extend" (tE X.K):=by
 intro pins s σ H x vs v us Q I rx rv h;obtain ⟨l,b,xs,zs,rfl,rfl,hH,hB,hz,q⟩:=h;cases rx;obtain ⟨u,eu,ru⟩:=rv.one;subst eu;cases ru;obtain ⟨z,its,n,r,hl,e⟩:=I.lstM hH;obtain ⟨Mg,r2,ht,hz2⟩:=I.tuple (SqT.of hB);have Mq:=r2.length;obtain ⟨o2,e2,RP,n2,hd2⟩:=ht
 have room:its.toArray.size+Mg.toArray.size<=sizeLine:=by
  rw [QD,QD,<-hl,<-Mq];exact hz
 have ok:¬(!its.toArray.isEmpty && Builtin.List.listTooLong (its.toArray.size+Mg.toArray.size))=true:=by
  rw [kM room,Bool.and_false];decide
 refine call_meets F.slot_list_extend ⟨_,e,rfl⟩ F.entry_list_extend (F.args_list_extend_2 _ _) (eV l its.toArray n b o2 Mg.toArray n2 RP hd2 ok (by rw [QD,<-hl];exact z) (by omega)) ⟨e,e2, .non,_,I.lset (its':=its++Mg) hH e (by simp) (r.append r2) ?_,rfl,q⟩
 simpa using hz
end
section
variable {B G0 H:Hp} {cs:yk} {ds:Dat} {Q:VK} {v w:V} {xs zs:List PyData} {K:PySem.W.Frag} {L M:Addr}
theorem vm {ys:List PyData} (S:Sta B G0 H ((L,xs)::cs) ds) (hy:Has ds (.tuple ys) w) (hz:xs.length+ys.length<=1000) (k:∀H',Sta B G0 H' ((L,xs++ys)::cs) ds->Q .non H'):tE K (.ref L) [w] H Q:=by
 obtain ⟨p,us,e,hp,hl,S2,al⟩:=S.tupAll hy;obtain ⟨vs,hL,Mq,put⟩:=S2.put;subst e;refine ⟨L,p,vs,us,rfl,rfl,hL,hp,?_,k _ ((put (xs++ys) (vs++us) λG a b=>b.app (al G a)).weak (jaZ _) λq hq=> .mem (QA _ hq))⟩;rw [<-hl,<-Mq];exact QI hz (jai rfl)
end
end S
namespace S
open PySem PySem.Spec PyProof.Rows L2
theorem Dq {E:Rat}:∀{M:List Rat} {z:Rat},M[0]? =some z->z<=E->∃(i:Nat) (q:Rat),M[i]? =some q/\q<=E/\(i+1=M.length\/∃r,M[i+1]? =some r/\E<r)
 |[],z,h,_=>by simp at h
 |[a],z,h,hz=>by
  cases h;exact ⟨0,a,rfl,hz, .inl rfl⟩
 |a::b::M,z,h,hz=>by
  cases h
  by_cases hb:b<=E
  ·obtain ⟨i,q,h1,h2,h3⟩:=Dq (M:=b::M) (z:=b) rfl hb;refine ⟨i+1,q,by simpa using h1,h2,?_⟩
   rcases h3 with h3|⟨r,h3,h4⟩
   ·left;simp only [Qw] at h3⊢;omega
   ·right;exact ⟨r,by simpa using h3,h4⟩
  ·exact ⟨0,a,rfl,hz, .inr ⟨b,rfl,jaA.mp hb⟩⟩
theorem vg {M:List Rat} (h:Vj M) {z:Rat} (hz:z∈M) (hle:∀e∈M,z<=e):M[0]? =some z:=by
 cases M with
 |nil=>simp at hz
 |cons a M=>
  have h1:=hle a (Qb ..)
  rcases Ql.mp hz with e|e
  ·rw [e];rfl
  ·have:=(Qk.mp h).1 z e
   grind
theorem Bi {M:List Rat} (h:Vj M) {z:Rat} (hz:z∈M) (hle:∀e∈M,e<=z) {i:Nat} {q:Rat} (hq:M[i]? =some q) (hi:i+1=M.length):q=z:=by
 obtain ⟨j,hj,ej⟩:=jah hz;obtain ⟨li,ei⟩:=Qf.mp hq;have h1:=hle q (Qe hq)
 by_cases c:j=i
 ·subst c;rw [<-ei,<-ej]
 ·have:=QK.mp h j i hj li (by omega);rw [ej,ei] at this
  grind
theorem fG {c d:zg} {E:Rat} {w:List Rat} (LS:c.1<d.1) (l1:c.2.length=d.2.length) (l2:c.2.length=w.length) (h:Aa c.2 d.2 w (E - c.1) (d.1 - c.1)):Yg c d E=w:=by
 apply TY
 intro i
 by_cases hi:i<c.2.length
 ·have e1:=Qc hi;have e2:=Qc (l:=d.2) (i:=i) (by omega);have e3:=Qc (l:=w) (i:=i) (by omega);have:=h i _ _ _ e1 e2 e3;unfold Yg;rw [QC,e1,e2,e3];show some (Zr _ _ _)=_;have l:=yB (x:=c.2[i]) (y:=d.2[i]) (E:=E) LS;have k:=zJ (a:=Zr ((E - c.1) / (d.1 - c.1)) c.2[i] d.2[i] - w[i]) (b:=d.1 - c.1) (by grind) (xC LS);have:Zr ((E - c.1) / (d.1 - c.1)) c.2[i] d.2[i]=w[i]:=by grind
  rw [this]
 ·unfold Yg;rw [QF (by rw [QE];omega),QF (by omega)]
def CZ:List zg->Nat
 |[]=>0
 |c::_=>c.2.length
def nQ:List (List zg)->Nat
 |[]=>0
 |Q::Qs=>CZ Q+nQ Qs
theorem fq:∀{Qs:List (List zg)},(∀Q∈Qs,∃(m:Nat) (r:List zg),Q=((0:Rat),List.replicate m 0)::r/\PathM m Q)->yU Qs (List.replicate Qs.length 0)=List.replicate (nQ Qs) 0
 |[],_=>rfl
 |Q::Qs,h=>by
  obtain ⟨m,r,e,pm⟩:=h Q (Qb ..);rw [Qw,Td,xk,fq λQ' hQ=>h Q' (Qd _ hQ),nQ,<-List.replicate_append_replicate]
  congr 1
  subst e;have:=yf pm.t;dsimp only at this;rw [this,CZ,QB]
structure PathR0 (n:Nat) (a:List zg):Prop where
 ne:a≠[]
 sz:∀c∈a,SzC n c
 len:∀c∈a,c.2.length<=1000
 few:a.length<=900
 rise:yl a
section
variable {P:List zg} {Qs:List (List zg)}
theorem Nest.zeroM (h:Nest P Qs):(wpV P Qs)[0]? =some 0:=by
 refine vg h.rise (h.mem.mpr (.inl ?_)) λe he=>(h.in_range he).1;obtain ⟨r,eP⟩:=h.p0;rw [eP];exact ⟨_,Qb ..,rfl⟩
theorem Nest.last_mem (h:Nest P Qs):(lastC P).1∈wpV P Qs:=by
 refine h.mem.mpr (.inl ⟨lastC P,?_,rfl⟩);have pm:=h.pm;obtain ⟨r,eP⟩:=h.p0;rw [eP] at pm⊢;exact (Us pm.t).1
theorem Nest.flen (h:Nest P Qs) (e:Rat):(yU Qs (zh P e)).length=nQ Qs:=by
 rw [tT (h.plen e) (pv:=List.replicate Qs.length 0) QB h.wid,fq λQ hQ=>?_,QB];obtain ⟨k,hk⟩:=Qr.mp hQ;obtain ⟨m,r,e,pm,_⟩:=h.q k Q hk;exact ⟨m,r,e,pm⟩
theorem Nest.flat0 (h:Nest P Qs):yU Qs (zh P 0)=List.replicate (nQ Qs) 0:=by
 have e0:zh P 0=List.replicate Qs.length 0:=by
  have pm:=h.pm;obtain ⟨r,eP⟩:=h.p0;rw [eP] at pm⊢;exact yf pm.t
 rw [e0,fq λQ hQ=>?_];obtain ⟨k,hk⟩:=Qr.mp hQ;obtain ⟨m,r,e,pm,_⟩:=h.q k Q hk;exact ⟨m,r,e,pm⟩
theorem Nest.F_at {i:Nat} {c:zg} (hc:(yG P Qs)[i]? =some c):(wpV P Qs)[i]? =some c.1/\c.2=yU Qs (zh P c.1):=by
 unfold yG at hc;obtain ⟨e,he,rfl⟩:=zU hc;exact ⟨he,rfl⟩
theorem Nest.F_of {i:Nat} {e:Rat} (he:(wpV P Qs)[i]? =some e):(yG P Qs)[i]? =some (e,yU Qs (zh P e)):=by
 unfold yG;rw [Qi,he];rfl
theorem Nest.riseF (h:Nest P Qs):yl (yG P Qs):=by
 unfold yl yG;rw [Tb];exact h.rise
theorem Nest.getLast (h:Nest P Qs):(yG P Qs).getLast? =some ((lastC P).1,yU Qs (zh P (lastC P).1)):=by
 have ne:0<(wpV P Qs).length:=jaO h.last_mem;have hlen:(yG P Qs).length=(wpV P Qs).length:=by unfold yG;rw [Qa]
 rw [jas,hlen];have hq:=Qc (l:=wpV P Qs) (i:=(wpV P Qs).length - 1) (by omega);rw [Nest.F_of hq,Bi h.rise h.last_mem (λe he=>(h.in_range he).2) hq (by omega)]
theorem SzQ.port {m n:Nat} {L x y:Rat} (hL:SzQ m L) (hx:SzQ n x) (hy:SzQ n y):SzQ (m+3*n+2) ((L - x) / (y - x)):=((hL.sub hx).div (hy.sub hx)).mono (by omega)
end
theorem jF {m:Nat} {a b p c:zg} (MI:b.1<c.1) (lb:b.2.length=m) (lc:c.2.length=m) (h1:zN b p c) (h2:zN a b c):zN a b p:=λi A B P hA hB hP=>by
 have hi:i<m:=by rw [<-lb];exact (Qf.mp hB).1
 have hC:=Qc (l:=c.2) (i:=i) (by omega);have e1:=h1 i B P _ hB hP hC;have e2:=h2 i A B _ hA hB hC;generalize c.2[i]=C at*;have e3:(B - A)*(c.1 - b.1)=(C - B)*(b.1 - a.1):=by grind
 have e4:((B - A)*(p.1 - a.1) - (P - A)*(b.1 - a.1))*(c.1 - b.1)=0:=by
  have:((B - A)*(p.1 - a.1) - (P - A)*(b.1 - a.1))*(c.1 - b.1)=((B - A)*(c.1 - b.1))*(p.1 - b.1) - ((P - B)*(c.1 - b.1))*(b.1 - a.1):=by grind
  rw [this,e3,e1];grind
 have:=zJ e4 (xC MI)
 grind
def Thn (F:List zg):Prop:=∀(i:Nat) (x y z:zg),F[i]? =some x->F[i+1]? =some y->F[i+2]? =some z->¬zN x y z
section
variable {C F G D:List zg} {c x y:zg} {m:Nat}
end
end S
namespace S
open PySem
def Ris (xs:Array Nat):Prop:=xs.toList.Pairwise (·<·)
theorem Ris.lt {xs:Array Nat} (h:Ris xs) {i k a b:Nat} (hik:i<k) (ha:xs[i]? =some a) (hb:xs[k]? =some b):a<b:=by
 have NA:xs.toList[i]? =some a:=by simpa using ha
 have Mu:xs.toList[k]? =some b:=by simpa using hb
 obtain ⟨la,ea⟩:=Qf.mp NA;obtain ⟨lb,eb⟩:=Qf.mp Mu;have:=QK.mp h i k la lb hik;rw [ea,eb] at this;exact this
theorem lK {xs:Array Nat} {j:Nat} (h:Ris xs):∀(fuel lo hi:Nat),hi - lo<=fuel->lo<=hi->hi<=xs.size->(∀k a,k<lo->xs[k]? =some a->a<j)->(∀k a,hi<=k->xs[k]? =some a->j<=a)->
 SetTable.below.go xs j fuel lo hi<=xs.size/\(∀k a,k<SetTable.below.go xs j fuel lo hi->xs[k]? =some a->a<j)/\(∀k a,SetTable.below.go xs j fuel lo hi<=k->xs[k]? =some a->j<=a)
 |0,lo,hi,hf,hl,hs,h1,h2=>by
  rw [SetTable.below.go];have e:lo=hi:=by omega
  subst e;exact ⟨hs,h1,h2⟩
 |fuel+1,lo,hi,hf,hl,hs,h1,h2=>by
  rw [SetTable.below.go]
  by_cases c:lo<hi
  ·rw [QH c];dsimp only;have hm:(lo+hi) / 2<xs.size:=by omega
   have em:xs[(lo+hi) / 2]? =some xs[(lo+hi) / 2]:=by simp [hm]
   have eg:xs.getD ((lo+hi) / 2) j=xs[(lo+hi) / 2]:=by simp [Array.getD,hm]
   rw [eg]
   by_cases c2:xs[(lo+hi) / 2]<j
   ·rw [QH c2];refine lK h fuel _ hi (by omega) (by omega) hs (λk a hk ha=>?_) h2
    by_cases ek:k=(lo+hi) / 2
    ·subst ek;rw [em] at ha;cases ha;exact c2
    ·have:=h.lt (show k<(lo+hi) / 2 by omega) ha em;omega
   ·rw [QP c2];refine lK h fuel lo _ (by omega) (by omega) (by omega) h1 λk a hk ha=>?_
    by_cases ek:k=(lo+hi) / 2
    ·subst ek;rw [em] at ha;cases ha;omega
    ·have:=h.lt (show (lo+hi) / 2<k by omega) em ha;omega
  ·rw [QP c];have e:lo=hi:=by omega
   subst e;exact ⟨hs,h1,h2⟩
theorem Ve {xs:Array Nat} (h:Ris xs) (j:Nat):SetTable.below xs j<=xs.size/\(∀k a,k<SetTable.below xs j->xs[k]? =some a->a<j)/\(∀k a,SetTable.below xs j<=k->xs[k]? =some a->j<=a):=
 lK h _ 0 xs.size (by omega) (TH _) (Qp _) (λk a hk=>absurd hk (Nat.not_lt_zero _)) λk a hk ha=>by
  have:k<xs.size:=by
   have:=jak.mp ha;exact this.1
  omega
theorem wo {xs:Array Nat} (h:Ris xs) {j:Nat} (hj:∀a∈xs.toList,a≠j):Ris (SetTable.insertAt xs (SetTable.below xs j) j):=by
 obtain ⟨b1,b2,b3⟩:=Ve h j;unfold Ris;rw [SetTable.toList_insertAt]
 have hlo:∀a∈xs.toList.take (SetTable.below xs j),a<j:=λa ha=>by
  obtain ⟨i,hi⟩:=Qr.mp ha;rw [List.getElem?_take] at hi
  split at hi
  ·rename_i LS;exact b2 i a LS (by simpa using hi)
  ·cases hi
 have RH:∀a∈xs.toList.drop (SetTable.below xs j),j<a:=λa ha=>by
  obtain ⟨i,hi⟩:=Qr.mp ha;rw [jap] at hi;have:=b3 _ a (Nat.le_add_right _ i) (by simpa using hi);have ne:=hj a (List.mem_of_mem_drop ha);omega
 have h':=h;unfold Ris at h';rw [<-List.take_append_drop (SetTable.below xs j) xs.toList] at h';obtain ⟨p1,p2,p3⟩:=Tx.mp h';refine Tx.mpr ⟨p1,Qk.mpr ⟨RH,p2⟩,λa ha b hb=>?_⟩
 rcases Ql.mp hb with rfl|hb
 ·exact hlo a ha
 ·exact p3 a ha b hb
theorem AH {t:SetTable} (h:Ris t.place) {j:Nat} (hs:∀i,t.slot j≠ .live i):∀a∈t.place.toList,a≠j:=λa ha e=>by
 subst e;obtain ⟨i,hi⟩:=Qr.mp ha;have Np:t.place[i]? =some a:=by simpa using hi
 obtain ⟨b1,b2,b3⟩:=Ve h a
 have e:SetTable.below t.place a=i:=by
  rcases Nat.lt_trichotomy (SetTable.below t.place a) i with c|c|c
  ·have hk:t.place[SetTable.below t.place a]? =some (t.place[SetTable.below t.place a]'(by have:=(jak.mp Np).1;omega)):=by simp
   have h1:=h.lt c hk Np;have h2:=b3 _ _ (Qp _) hk;omega
  ·exact c
  ·have:=b2 i a c Np;omega
 refine hs i ?_;unfold SetTable.slot;dsimp only;rw [e,Np]
 simp
theorem aj {t:SetTable} {hashAt:Nat->Int} {h:Int}:∀{fuel:Nat} {p:SetTable.Probe} {j:Nat} {d:Option Nat},(∀x,p.dummy=some x->∀i,t.slot x≠ .live i)->SetTable.probe.go t hashAt h fuel p=some (.empty j d)->(∀i,t.slot j≠ .live i)/\∀x,d=some x->∀i,t.slot x≠ .live i
 |0,p,j,d,_,e=>by rw [SetTable.probe.go] at e;cases e
 |fuel+1,p,j,d,hd,e=>by
  rw [SetTable.probe.go] at e
  cases hs:t.slot p.j with
  |empty=>
   rw [hs] at e;cases e;exact ⟨λi z=>(by rw [hs] at z;cases z),hd⟩
  |dummy=>
   rw [hs] at e;refine aj (fuel:=fuel) (λx hx=>?_) e
   have:x=p.j:=by
    unfold SetTable.advance at hx;dsimp only at hx
    split at hx<;>(cases hx;rfl)
   subst this;intro i z;rw [hs] at z;cases z
  |live i=>
   rw [hs] at e;dsimp only at e
   split at e
   ·cases e
   ·refine aj (fuel:=fuel) (λx hx=>hd x ?_) e;unfold SetTable.advance at hx;dsimp only at hx
    split at hx<;>exact hx
theorem Dj {t:SetTable} {h:Int} {j:Nat} {b:Bool} (e:t.freeSlot h=some (j,b)):∀i,t.slot j≠ .live i:=by
 unfold SetTable.freeSlot SetTable.probe at e
 split at e
 ·rename_i j' dm hp;have:=aj (λx hx=>by unfold SetTable.probeStart at hx;cases hx) hp
  cases dm with
  |none=>cases e;exact this.1
  |some d=>cases e;exact this.2 d rfl
 ·cases e
def su (b:Bool) (t:SetTable):Prop:=Ris t.place/\t.led=b
theorem BI (n:Nat):Ris (Array.range n):=by
 unfold Ris;rw [Array.toList_range];exact List.pairwise_lt_range
theorem Yi {b:Bool} {t:SetTable} (h:t.led=b) (n:Nat):su b (t.standIn n):=⟨BI n,h⟩
theorem rm {b:Bool} {t:SetTable} (hg:su b t) (es:Array (Int×Value)) (h:Int) (x:Value):su b (layNew t es h x).2.1:=by
 unfold layNew
 split
 ·rename_i slot wd hf;dsimp only;unfold SetTable.orStandIn
  split
  ·exact ⟨wo hg.1 (AH hg.1 (Dj hf)),hg.2⟩
  ·exact Yi hg.2 _
 ·exact Yi hg.2 _
theorem Gh {mask:Nat} {owner:Array (Option Nat)}:(((List.range (mask+1)).filterMap λj=>(owner.getD j none).map (j,·)).map (·.1)).Pairwise (·<·):=by
 rw [Tb,List.pairwise_filterMap];refine List.pairwise_lt_range.imp λ{i k} hik a ha b hb=>?_;obtain ⟨_,_,rfl⟩:=Option.map_eq_some_iff.mp ha;obtain ⟨_,_,rfl⟩:=Option.map_eq_some_iff.mp hb;exact hik
theorem kB {b:Bool} {t:SetTable} (hg:su b t) (es:Array (Int×Value)) (wanted:Nat):su b (relayAll t es wanted).2.1:=by
 unfold relayAll
 split
 ·rename_i t' order hr;dsimp only
  split
  ·unfold SetTable.relaid SetTable.laid at hr;obtain ⟨owner,_,hr⟩:=Option.bind_eq_some_iff.mp hr;cases hr;refine ⟨?_,hg.2⟩;show (List.toArray _).toList.Pairwise _;exact Gh
  ·exact Yi hg.2 _
 ·exact Yi hg.2 _
def UH:Value->Int
 | .int n _=>n
 |_=>0
def iA (prog:Program) (w:World) (h:Heap) (a:Addr) (b:Bool) (ns:List Int):Prop:=
 ∃(o:Obj) (es:Array (Int×Value)) (ep:Nat) (t:SetTable),(h.get? a=some o/\o.ExactSet/\o.data= .set es ep t)/\ElemsOf (intKind prog w) es.toList/\(t.fits es.size=true/\su b t)/\ns=es.toList.map (λe=>UH e.2)/\ns.Nodup
section
variable {prog:Program} {w:World} {A:Around} {E:Value->Shared->Prop} {s:Shared}
theorem Hy {v:Value} {k:Int} (h:(intKind prog w).is k v=true):UH v=k:=by
 obtain ⟨t,ht⟩:=Value.isInt_shape h;rw [ht];rfl
theorem iA.kept {h h':Heap} {a:Addr} {b:Bool} {ns:List Int} (T:iA prog w h a b ns) (k:∀o,h.get? a=some o->h'.get? a=some o):iA prog w h' a b ns:=by
 obtain ⟨o,es,ep,t,⟨LR,ex,data⟩,gH⟩:=T;exact ⟨o,es,ep,t,⟨k o LR,ex,data⟩,gH⟩
theorem HC {h:Heap} {a:Addr} {o:Obj} {es es1:Array (Int×Value)} {ep:Nat} {t t1:SetTable} (LR:h.get? a=some o) (data:o.data= .set es ep t):(h.update a (Obj.putSet es1 t1)).get? a=some {o with data:= .set es1 (ep+1) t1}:=by
 have z:=jaD (Obj.putSet es1 t1) LR (by rw [putSet_of es1 t1 data];rfl);rwa [putSet_of es1 t1 data] at z
theorem add_T {a:Addr} {b:Bool} {ns:List Int} {k:Int} {tk:Tok} {Q:Bool->Shared->Prop} (T:iA prog w s.heap a b ns) (few:ns.length<1000)
 (h:∀(r:Bool) (h':Heap) (MR:List Int),Heap.SameBut a s.heap h'->iA prog w h' a b MR->(∀x,x∈MR↔x∈ns\/x=k)->MR.length<=ns.length+1->Q r {s with heap:=h'}):
 wpAny (model prog w) A (setAddHashed a (.int k tk) ((intKind prog w).hash k)) Q E s:=by
 obtain ⟨o,es,ep,t,⟨LR,ex,data⟩,elems,⟨fit,good⟩,rfl,nd⟩:=T;have sz:es.size=(es.toList.map λe=>UH e.2).length:=by simp
 have e4:scanBound=4096:=rfl;have bound:es.size<scanBound:=by omega
 have isk:=intKind_is prog w k tk;unfold setAddHashed setAddHashedIn;refine jaQ (Qg (jbv LR data fit ?_));dsimp only;rw [byScan_of (knd:=intKind prog w) (x:= .int k tk) rfl bound elems,QH rfl];unfold setAddByScan;refine Qg (Qg (jbQ (Qg (wpAny_setScan_of isk LR data fit elems ?_))))
 cases found:List.findIdx? (λe=>(intKind prog w).is k e.2) es.toList with
 |some j=>
  dsimp only;obtain ⟨hj,pj,_⟩:=List.findIdx?_eq_some_iff_getElem.mp found;have mem:k∈es.toList.map λe=>UH e.2:=Qj.mpr ⟨es.toList[j],Te hj,Hy pj⟩;refine Qm (Qm ?_);exact h false s.heap _ (Heap.SameBut.refl a s.heap) ⟨o,es,ep,t,⟨LR,ex,data⟩,elems,⟨fit,good⟩,rfl,nd⟩ (λx=>⟨.inl,λz=>z.elim id λe=>e▸mem⟩) (jal _)
 |none=>
  dsimp only
  have new:k∉es.toList.map λe=>UH e.2:=λz=>by
   obtain ⟨e,he,hv⟩:=Qj.mp z;obtain ⟨⟨k',Mt,_⟩,_⟩:=elems e he;have ek:k'=k:=(Hy Mt).symm.trans hv;subst ek;have:=List.findIdx?_eq_none_iff.mp found e he;rw [Mt] at this;cases this
  have perm:=layNew_perm t es ((intKind prog w).hash k) (.int k tk);have fits:=layNew_fits t es ((intKind prog w).hash k) (.int k tk);have MZ:=rm good es ((intKind prog w).hash k) (.int k tk);generalize layNew t es ((intKind prog w).hash k) (.int k tk)=L at perm fits MZ⊢;obtain ⟨es1,t1,wasDummy,gave⟩:=L;dsimp only at perm fits MZ⊢;rw [Array.toList_push] at perm;have elems1:ElemsOf (intKind prog w) es1.toList:=(elems.push isk rfl).perm perm
  have pm:(es1.toList.map λe=>UH e.2).Perm ((es.toList.map λe=>UH e.2)++[k]):=by
   have:=perm.map λe=>UH e.2;rwa [QO] at this
  have SA:(es1.toList.map λe=>UH e.2).Nodup:=by
   refine (pm.nodup_iff).mpr (List.nodup_append.mpr ⟨nd,by simp,λx hx y hy=>?_⟩);rw [Qq.mp hy];exact λe=>new (e▸hx)
  have Ot:=pm.length_eq;rw [Qy,Tv] at Ot;have Ni:es1.size=(es1.toList.map λe=>UH e.2).length:=by simp
  have bound1:es1.size<scanBound:=by omega
  have Pg:∀x,x∈(es1.toList.map λe=>UH e.2)↔x∈(es.toList.map λe=>UH e.2)\/x=k:=λx=>by
   rw [pm.mem_iff,QT,Qq]
  have g1:=HC (es1:=es1) (t1:=t1) LR data;have sb1:=TN s.heap a (Obj.putSet es1 t1);have MD:=relayAll_perm t1 es1 (SetTable.grown es1.size);have ND:=relayAll_fits t1 es1 (SetTable.grown es1.size);have good2:=kB MZ es1 (SetTable.grown es1.size)
  have tail:∀{g:Bool->Sem Unit} {R:Option Bool->Shared->Prop},(∀(b:Bool) (s₁:Shared) (Q':Unit->Shared->Prop),Q' () s₁->wpAny (model prog w) A (g b) Q' E s₁)->
   (∀(h':Heap) (MR:List Int),Heap.SameBut a s.heap h'->iA prog w h' a b MR->(∀x,x∈MR↔x∈(es.toList.map λe=>UH e.2)\/x=k)->MR.length<=(es.toList.map λe=>UH e.2).length+1->R (some true) {s with heap:=h'})->
   wpAny (model prog w) A (do
    storeSet a es1 t1
    if (!wasDummy && t1.tooFull)=true then do
        g (relayAll t1 es1 (SetTable.grown es1.size)).2.2
        storeSet a (relayAll t1 es1 (SetTable.grown es1.size)).1 (relayAll t1 es1 (SetTable.grown es1.size)).2.1
        pure (some true)
     else pure (some true)) R E s:=λ{g R} hg hR=>by
   refine Qg (wpAny_storeSet_of LR data ?_ (fits_of_scanBound bound1))
   split
   ·generalize relayAll t1 es1 (SetTable.grown es1.size)=L2 at MD ND good2⊢;obtain ⟨RV,t2,gave2⟩:=L2;dsimp only at MD ND good2⊢;have p2:(RV.toList.map λe=>UH e.2).Perm (es1.toList.map λe=>UH e.2):=MD.map _;have sz2:RV.size=es1.size:=by rw [<-jaf,MD.length_eq,jaf]
    have bound2:RV.size<scanBound:=by omega
    refine Qg (hg _ _ _ (Qg (wpAny_storeSet_of g1 rfl (Qm ?_) (fits_of_scanBound bound2))));refine hR _ _ (sb1.trans (TN _ a _)) ⟨_,RV,_,t2,⟨HC g1 rfl,ex,rfl⟩,elems1.perm MD,⟨ND,good2⟩,rfl,p2.nodup_iff.mpr SA⟩ (λx=>by rw [p2.mem_iff];exact Pg x) (by rw [p2.length_eq,Ot];exact Qp _)
   ·exact Qm (hR _ _ sb1 ⟨_,es1,_,t1,⟨g1,ex,rfl⟩,elems1,⟨fits,MZ⟩,rfl,SA⟩ Pg (by rw [Ot];exact Qp _))
  have fin:∀(h':Heap) (MR:List Int),Heap.SameBut a s.heap h'->iA prog w h' a b MR->(∀x,x∈MR↔x∈(es.toList.map λe=>UH e.2)\/x=k)->MR.length<=(es.toList.map λe=>UH e.2).length+1->Q true {s with heap:=h'}:=h true
  have pass:∀(c:Bool) (s₁:Shared) (Q':Unit->Shared->Prop),Q' () s₁->wpAny (model prog w) A (match c with|true=>rule "set.scan.the-table-gave-way"|false=>pure ()) Q' E s₁:=λc s₁ Q' q=>by
   cases c
   ·exact Qm q
   ·exact jbQ q
  refine Qg (pass _ _ _ ?_);have hv:hashByValue 8 (.int k tk)=pure true:=rfl
  split
  ·refine Qg ?_;rw [hv];refine Qm ?_;exact tail (λc s₁ Q' q=>pass c s₁ Q' q) λh' MR x1 x2 x3 x4=>Qm (fin h' MR x1 x2 x3 x4)
  ·refine Qg (Qm ?_);exact tail (λc s₁ Q' q=>pass c s₁ Q' q) λh' MR x1 x2 x3 x4=>Qm (fin h' MR x1 x2 x3 x4)
def wY (w:World):Bool:=!(w.params.followText "set-order")
def XQ (w:World):Obj:={cls:= .type "set",dict:=none,data:= .set #[] 0 (.fresh 0 0 (wY w))}
theorem JJ (x:Value) {R:Value->Shared->Prop} (k:R (.ref s.heap.objs.size) {s with heap:=s.heap.push (XQ w)}):
 codeAny (model prog w) A (.call (.builtin "set.__new__") ⟨[.type "set",x],[]⟩) (wants R E) s:=by
 refine codeAny_of_tree (show wpAny _ A.in1 (do checkBuiltinCall "set.__new__" ⟨[.type "set",x],[]⟩;again (.builtin "set.__new__" ⟨[.type "set",x],[]⟩)) _ _ s from ?_)
 refine Qg (wpAny_of_eq (F.newCall_set_1 x) (Qm ⟨plainId_quiet F.plain_set_new _,jbp F.entry_set_new (by
  rw [jaW F.plain_set_new _];unfold Builtin.«set.__new__» Builtin.Frozenset.newClass;have sub:=sub_set_self;obtain ⟨hp,g,d,tk,os⟩:=s;dsimp only
  wp_walk
  refine wpAny_askSetting (Qm ?_);dsimp only;simp only [newObj]
  exact Qg (wpAny_alloc (Qm (Qm k))))⟩))
theorem iA.fresh {h:Heap} {a:Addr} (LR:h.get? a=some (XQ w)):iA prog w h a (wY w) []:=
 ⟨_,#[],0,_,⟨LR,⟨rfl,rfl,rfl⟩,rfl⟩,λe he=>by simp at he,⟨rfl,by unfold Ris SetTable.fresh;exact List.Pairwise.nil,rfl⟩,rfl,List.nodup_nil⟩
theorem upd_T {I:Addr} {fp wr:List Addr} {G:Array GenState->Array GenState->Prop} {n:Nat} {P:Nat->Value->Prop} {St:Nat->Shared->Prop} {R:Result->Shared->Prop} {b:Bool}
 (W:WalksS prog w A.in1 I fp wr G n P St) (a:Addr) (out:a∉fp) (ns:List Int) (val:∀i v,P i v->∃k t,ns[i]? =some k/\v= .int k t) (few:n<900):
 ∀(m i:Nat) (s:Shared) (T:List Int),n - i=m->i<=n->St i s->iA prog w s.heap a b T->(∀x,x∈T↔x∈ns.take i)->T.length<=i->
  (∀s' T',Moved (a::wr) G s s'->iA prog w s'.heap a b T'->(∀x,x∈T'↔x∈ns.take n)->T'.length<=n->R (.ok (.ret .none)) s')->
  codeAny (model prog w) A (.builtin "set.update.loop" ⟨[.ref a, .ref I],[]⟩) R s:=by
 have outW:a∉wr:=λz=>out (W.sub _ z);have more:∀c∈wr,c∈a::wr:=λc hc=>Qd _ hc;intro m
 induction m with
 |zero=>
  intro i s T hm hi st hT hx hl hR;have e:i=n:=by omega
  subst e;refine jbp PyProof.Rows.F.entry_set_update_loop ?_;rw [jaW jaL _];show wpAny _ A.in1 (pyNext (.ref I)>>=_) _ _ s;exact Qg (W.done s _ _ st λs' mv=>Qm (hR s' T (mv.mono more) (hT.kept λo=>mv.heap a o outW) hx hl))
 |succ m ih=>
  intro i s T hm hi st hT hx hl hR;have lt:i<n:=by omega
  refine jbp PyProof.Rows.F.entry_set_update_loop ?_;rw [jaW jaL _];show wpAny _ A.in1 (pyNext (.ref I)>>=_) _ _ s;refine Qg (W.item i s _ _ lt st λv s' hP Ml mv=>?_);obtain ⟨k,tk,hk,rfl⟩:=val i v hP;show wpAny _ A.in1 (holding [Value.int k tk] (setAdd a (.int k tk))>>=_) _ _ s';refine Qg (jaQ ?_);unfold setAdd;refine jaQ (Qg ((intKind prog w).pyHash (k:=k) (intKind_is _ _ _ _) ?_));refine add_T (b:=b) (ns:=T) (s:={s' with toks:=s'.toks+1}) (hT.kept λo=>mv.heap a o outW) (by omega) λr h' T' sb hT' Mj Ms=>?_;refine Qm ⟨plainId_quiet jaL _,ih (i+1) _ T' (by omega) lt (W.frame _ s' _ _ Ml (jal _) λc hc o e=>?_) hT' (λx=>?_) (by omega) λPd T'' SD NB NM SX=>?_⟩
  ·rw [sb.2 c (λz:c=a=>out (by rw [<-z];exact hc))];exact e
  ·rw [Mj x,hx x,Tt,hk]
   simp
  ·refine hR Pd T'' (Moved.trans W.gtrans ((mv.mono more).then_heap (jal _) λc o hc e=>?_) SD) NB NM SX;rw [sb.2 c (λz:c=a=>hc (by rw [z];exact Qb))];exact e
set_option maxHeartbeats 8000000 in
theorem wD {l:Addr} {items:Array Value} {ns:List Int} {Q:Value->Shared->Prop} (quiet:A.handled=none) (hl:s.heap.IsList l items) (hi:PyProof.Rows.IntsAre items.toList ns) (few:items.size<900)
 (k:∀(h':Heap) (tk:Nat) (T:List Int),iA prog w h' s.heap.objs.size (wY w) T->(∀x,x∈T↔x∈ns)->T.length<=ns.length->(∀b o,b<s.heap.objs.size->s.heap.get? b=some o->h'.get? b=some o)->Q (.ref s.heap.objs.size) {s with heap:=h',toks:=tk}):
 wpAny (model prog w) A (call (.type "set") [.ref l]) Q E s:=by
 have lenN:items.size=ns.length:=by have:=hi.length;simpa using this
 obtain ⟨c1,tl1,mro1⟩:=jbq.mro;have made1:=jbq.made;have sub1:=jbq.sub;refine wpAny_call (codeAny_of_tree (show wpAny _ _ (callAny (.type "set") _) _ _ _ from ?_));refine Qm ⟨Code.quiet_builtin _ (by decide+kernel),jbp F.entry_type_call ?_⟩;rw [Around.under_plain (weight_type_call_type "set" [.ref l] []) rfl];have nt1:=jbq.notType;have cc1:=jbq.canCreate;have ct1:=F.typeCall_set_1 (.ref l)
 repeat any_goals (first|wp_step|assumption)
 refine jbN (JJ (.ref l) (E:=E) (R:=λobj s₁=>obj= .ref s.heap.objs.size/\s₁={s with heap:=s.heap.push (XQ w)}) ⟨rfl,rfl⟩) λr s₁ hr=>?_
 cases r with
 |error e=>exact hr
 |ok fl=>
  cases fl with
  |ret obj=>
   obtain ⟨rfl,rfl⟩:=hr;have LR:(s.heap.push (XQ w)).get? s.heap.objs.size=some (XQ w):=Qu _ rfl;have ty:Shared.TypeIs {s with heap:=s.heap.push (XQ w)} (.ref s.heap.objs.size) "set":=⟨_,LR,rfl⟩;have lk1:=jbq.init.lookup;have bd1:=jbq.init.bind (.ref s.heap.objs.size)
   repeat any_goals (first|wp_step|assumption)
   refine jbN (codeAny_call_builtin (R:=wants (λr s₂=>r= .none/\∃h' tk T,s₂={s with heap:=h',toks:=tk}/\iA prog w h' s.heap.objs.size (wY w) T/\(∀x,x∈T↔x∈ns)/\T.length<=ns.length/\
    (∀b o,b<s.heap.objs.size->s.heap.get? b=some o->h'.get? b=some o)) E) jbq.init.plain F.entry_set_init (check_set_init_1 ty ?_)) λr₂ s₂ hr₂=>?_
   ·obtain ⟨ol,gol,clsl,nl,datl⟩:=hl;obtain ⟨ocls,odict,odata,oslots⟩:=ol;simp only at clsl datl;subst clsl;subst datl;have Rc:(s.heap.push (XQ w)).get? l=some {cls:= .type "list",dict:=odict,data:= .seq items nl,slots:=oslots}:=Qh _ gol;have sls:=F.sub_list_set;have slf:=F.sub_list_frozenset;have SA:(Value.type "list"==Value.type "dict")=false:=by decide
    have il1:(s.heap.push (XQ w)).IsList l items:=⟨_,Rc,rfl,nl,rfl⟩;have fr1:=LR;unfold XQ at fr1 Rc;unfold Builtin.«set.__init__» noKeywords Builtin.Frozenset.updateFrom;generalize hPI:pyIter=PI
    wp_walk
    subst hPI;refine jaM il1 (Qg (wpAny_runValue ?_));have lts:l<s.heap.objs.size:=Qt gol;have q3:A.in1.in1.in1.handled=none:=by simp [quiet]
    have szp:(s.heap.push (XQ w)).objs.size=s.heap.objs.size+1:=QU ..;have neI:l≠(s.heap.push (XQ w)).objs.size:=by rw [szp];exact QM (TM lts)
    have out:s.heap.objs.size∉[(s.heap.push (XQ w)).objs.size,l]:=by
     rw [szp];intro z
     rcases Ql.mp z with z|z
     ·exact absurd z (QM (Th _))
     ·exact absurd (Qq.mp z) (jaR lts)
    refine upd_T (b:=wY w) ((Walks.list q3 _ l neI items).toS) s.heap.objs.size out ns (λi v hv=>?_) few (items.size - 0) 0 _ [] (by omega) (TH _) ⟨⟨_,Qu _ rfl,rfl,rfl⟩,il1.push _⟩ (iA.fresh (Qh _ LR)) (λx=>by simp) (TH _) λs' T' mv hT' Mj Ms=>?_
    ·have Ry:items.toList[i]? =some v:=by rw [Array.getElem?_toList];exact hv
     obtain ⟨t,ht⟩:=PyProof.Rows.IntsAre.int_at hi i v Ry
     have lt:i<ns.length:=by
      have:=(Qf.mp Ry).1;rw [jaf] at this;omega
     refine ⟨ns.getD i 0,t,?_,ht⟩;rw [Qo,Qc lt];rfl
    ·obtain ⟨h',g',d',Sm,Oq⟩:=s';have eg:g'=s.gens:=mv.gens;have ed:d'=s.drawn:=mv.drawn;have eo:Oq=s.os:=mv.os;subst eg;subst ed;subst eo;show wpAny _ _ _ _ _ _;refine Qm (show wpAny _ _ (ret Value.none) _ _ _ from Qm ⟨rfl,h',Sm,T',rfl,hT',λx=>?_,by omega,λb o hb e=>?_⟩)
     ·rw [Mj x,Tc (by omega)]
     ·refine mv.heap b o (λz=>?_) (Qh _ (Qh _ e))
      rcases Ql.mp z with z|z
      ·exact absurd z (QM hb)
      ·rw [Qq.mp z,szp] at hb;exact absurd hb (Nat.not_lt.mpr (jal _))
   ·cases r₂ with
    |error e=>exact hr₂
    |ok fl₂=>
     cases fl₂ with
     |ret r=>
      obtain ⟨rfl,h',tk,T,rfl,hT,hx,hlT,keep⟩:=hr₂
      repeat any_goals (first|wp_step|assumption)
      exact k _ _ T hT hx hlT keep
     |_=>exact hr₂.elim
  |_=>exact hr.elim
end
theorem BU:Manifest.owners.lookup (String.ofList ['r','o','t','a','r','e','t','i','_','t','e','s'].reverse)=some Manifest.sig_set_iterator:=by kernel_rfl
theorem ZN (x:Value):argsOk "set_iterator.__next__" ⟨[x],[]⟩:=by
 unfold argsOk;rw [signature?_of (id:="set_iterator.__next__") (n:=['_','_','t','x','e','n','_','_']) (o:=['r','o','t','a','r','e','t','i','_','t','e','s']) (by kernel_rfl) BU]
 kernel_rfl
theorem ye:Slot "set_iterator" "__next__" "set_iterator.__next__":= .of (owner:="set_iterator") (n:="__next__") (by rw [typeLookup_type,builtinLookup_eq_fast];kernel_rfl) (by decide+kernel) (by decide+kernel) (by decide+kernel) (by first|exact .inl (by decide+kernel)|exact .inr (by decide+kernel)) (by rw [isSubtype_type];kernel_rfl)
theorem Zu:entryFor table "set_iterator.__next__"=some Builtin.«set_iterator.__next__»:=entryFor_of_tree (by kernel_rfl)
theorem Ub:Slot "set_iterator" "__iter__" "set_iterator.__iter__":= .of (owner:="set_iterator") (n:="__iter__") (by rw [typeLookup_type,builtinLookup_eq_fast];kernel_rfl) (by decide+kernel) (by decide+kernel) (by decide+kernel) (by first|exact .inl (by decide+kernel)|exact .inr (by decide+kernel)) (by rw [isSubtype_type];kernel_rfl)
theorem lR (x:Value):argsOk "set_iterator.__iter__" ⟨[x],[]⟩:=by
 unfold argsOk;rw [signature?_of (id:="set_iterator.__iter__") (n:=['_','_','r','e','t','i','_','_']) (o:=['r','o','t','a','r','e','t','i','_','t','e','s']) (by kernel_rfl) BU]
 kernel_rfl
theorem hX:entryFor table "set_iterator.__iter__"=some Builtin.«dict_keyiterator.__iter__»:=entryFor_alias (id':="dict_keyiterator.__iter__") (by kernel_rfl) rfl (by decide+kernel) (by kernel_rfl)
theorem ie:entryFor table "set.__iter__"=some Builtin.«frozenset.__iter__»:=entryFor_alias (id':="frozenset.__iter__") (by kernel_rfl) rfl (by decide+kernel) (by kernel_rfl)
theorem aC {α:Type}:∀{xs:List α} {i:Nat} (h:i<xs.length),(xs[i]::xs.eraseIdx i).Perm xs
 |[],i,h=>by simp at h
 |x::xs,0,h=>List.Perm.refl _
 |x::xs,i+1,h=>by
  have ih:=aC (xs:=xs) (i:=i) (by simpa using h);exact (List.Perm.swap _ _ _).trans (ih.cons x)
section
variable {prog:Program} {w:World} {A:Around} {E:Value->Shared->Prop} {s:Shared}
theorem wC {src:Source} {n:Nat} {Q:Nat->Shared->Prop} (hn:n≠0) (k:∀i d,i<n->Q i {s with drawn:=d}):wpAny (model prog w) A (choose src n) Q E s:=λΓ p hΓ=>by
 show Sem.wp _ _ (Sem.choose src n _) _ _ _ _;rw [Sem.wp_choose];exact ⟨hn,k _ _ (Nat.mod_lt _ (by omega))⟩
theorem Ic {α:Type}:∀(n:Nat) (xs:List α) (s:Shared) (Q:List α->Shared->Prop),xs.length=n->(∀d ys,ys.Perm xs->Q ys {s with drawn:=d})->wpAny (model prog w) A (drawOrder n xs) Q E s
 |0,[],s,Q,_,k=>by rw [drawOrder];exact Qm (k s.drawn [] (List.Perm.refl _))
 |n+1,x::xs,s,Q,hl,k=>by
  rw [drawOrder]
  ·refine Qg (wC (by simp) λi d hi=>?_);have e:(x::xs)[i]? =some (x::xs)[i]:=Qc hi;rw [e];dsimp only;refine Qg (Ic n _ _ _ (by rw [List.length_eraseIdx,QH hi,hl];rfl) λd2 ys hp=>Qm (k d2 _ ?_));have hc:=List.Perm.cons (x::xs)[i] hp;refine hc.trans ?_;exact aC hi
  ·intro z;cases z
 |0,_::_,s,Q,h,_=>by simp at h
 |_+1,[],s,Q,h,_=>by simp at h
structure SetD (prog:Program) (w:World) (oS:Obj) (es:Array (Int×Value)) (ep:Nat) (t:SetTable):Prop where
 ex:oS.ExactSet
 data:oS.data= .set es ep t
 elems:ElemsOf (intKind prog w) es.toList
 fit:t.fits es.size=true
 good:su (wY w) t
theorem wH {xs:Array Nat} (h:Ris xs):SetTable.below xs 0=0:=by
 obtain ⟨b1,b2,b3⟩:=Ve h 0
 rcases Nat.eq_zero_or_pos (SetTable.below xs 0) with z|z
 ·exact z
 ·have:xs[0]? =some (xs[0]'(by omega)):=by simp
  exact absurd (b2 0 _ z this) (Nat.not_lt_zero _)
theorem wI {xs:Array Nat} (h:Ris xs) {i j:Nat} (hj:xs[i]? =some j):SetTable.below xs (j+1)=i+1:=by
 obtain ⟨b1,b2,b3⟩:=Ve h (j+1);have li:i<xs.size:=(jak.mp hj).1
 rcases Nat.lt_trichotomy (SetTable.below xs (j+1)) (i+1) with z|z|z
 ·have:=b3 i j (by omega) hj;omega
 ·exact z
 ·have l2:i+1<xs.size:=by omega
  have h2:xs[i+1]? =some xs[i+1]:=by simp [l2]
  have:=b2 (i+1) _ z h2;have:=h.lt (Th i) hj h2;omega
def byT (w:World):Bool:=w.params.followText "set-order"
def my (w:World) (a:Addr) (ep:Nat) (es:Array (Int×Value)):Array (Int×Value):=if byT w=true then pickOrder (w.params.setOrder a ep) es else es
def stT (w:World) (t:SetTable) (i slot:Nat):Prop:=byT w=true\/SetTable.below t.place slot=i
theorem nU {α:Type} (f:Nat->Nat):∀(n k:Nat) (left:List α) (out:Array α),left.length=n->(pickOrder.go f n k left out).toList.Perm (out.toList++left)
 |0,k,[],out,_=>by rw [pickOrder.go];simp
 |0,k,_::_,out,h=>by simp at h
 |n+1,k,[],out,h=>by simp at h
 |n+1,k,x::left,out,h=>by
  rw [pickOrder.go];have hi:f k % (x::left).length<(x::left).length:=Nat.mod_lt _ (by simp);rw [Qc hi];dsimp only;have ih:=nU f n (k+1) ((x::left).eraseIdx (f k % (x::left).length)) (out.push (x::left)[f k % (x::left).length]) (by rw [List.length_eraseIdx,QH hi,h];rfl);refine ih.trans ?_;rw [Array.toList_push,TX];exact (aC hi).append_left _
theorem Uo (w:World) (a:Addr) (ep:Nat) (es:Array (Int×Value)):(my w a ep es).toList.Perm es.toList:=by
 unfold my
 split
 ·unfold pickOrder;have:=nU (w.params.setOrder a ep) es.size 0 es.toList #[] (by simp)
  simpa using this
 ·exact List.Perm.refl _
section
variable {a:Addr} {oS:Obj} {es:Array (Int×Value)} {ep:Nat} {t:SetTable} {slot i:Nat}
theorem rT {Q:Bool->Shared->Prop} (k:Q (byT w) s):wpAny (model prog w) A setsByText Q E s:=by
 unfold setsByText;exact Qg (wpAny_askSetting (Qm k))
theorem Ak {Q:Array (Int×Value)->Shared->Prop} (LR:s.heap.get? a=some oS) (D:SetD prog w oS es ep t) (hb:byT w=true) (k:Q (pickOrder (w.params.setOrder a ep) es) s):wpAny (model prog w) A (setWalk a) Q E s:=by
 unfold setWalk;refine Qg (jbv LR D.data D.fit ?_);dsimp only;refine Qg (rT ?_);rw [hb,QH rfl];exact Qg (wpAny_askSetting (Qm k))
theorem HR {Q:Option (Value×Nat)->Shared->Prop} (LR:s.heap.get? a=some oS) (D:SetD prog w oS es ep t) (pl:byT w=true\/(t.plain=true\/es.size<=1)) (st:stT w t i slot)
 (k1:∀e Mb,(my w a ep es)[i]? =some e->stT w t (i+1) Mb->Q (some (e.2,Mb)) s) (k2:es.size<=i->Q none s):wpAny (model prog w) A (setNext a slot i ep) Q E s:=by
 have osz:(my w a ep es).size=es.size:=by
  have:=(Uo w a ep es).length_eq
  simpa using this
 unfold setNext;refine Qg (jbv LR D.data D.fit ?_);dsimp only;refine Qg (rT ?_)
 cases hb:byT w with
 |true=>
  rw [QH rfl,QP (by simp)];refine Qg (Ak LR D hb (Qm ?_));have eo:my w a ep es=pickOrder (w.params.setOrder a ep) es:=by unfold my;rw [QH hb]
  rw [<-eo]
  by_cases c:i<(my w a ep es).size
  ·have e:(my w a ep es)[i]? =some (my w a ep es)[i]:=by simp [c]
   rw [e];exact k1 _ slot e (.inl hb)
  ·rw [Array.getElem?_eq_none (by omega)];exact k2 (by omega)
 |false=>
  have Ml:SetTable.below t.place slot=i:=st.resolve_left (by rw [hb];exact Qx);have pl':=pl.resolve_left (by rw [hb];exact Qx);rw [QP Qx]
  split
  ·rename_i z
   exfalso
   have z':(!t.plain && decide (es.size>1))=true:=z;rw [Tr,decide_eq_true_eq] at z'
   rcases pl' with p|p
   ·rw [p] at z';exact Qx z'.1
   ·omega
  have led:t.led=true:=by
   have:=D.good.2;unfold wY at this;rw [this,show w.params.followText "set-order"=false from hb];rfl
  refine Qg (show wpAny _ _ (if (!t.led && !es.isEmpty)=true then unsupported "set:maker-not-led" else pure ()) _ _ s from ?_);rw [led,QP (by simp)];refine Qm (Qm ?_);rw [Ml];have eo:my w a ep es=es:=by unfold my;rw [QP (by rw [hb];exact Qx)]
  have psz:t.place.size=es.size:=by
   have:=D.fit;unfold SetTable.fits at this;rw [Tr] at this
   simpa using this.1
  by_cases c:i<es.size
  ·have e:es[i]? =some es[i]:=by simp [c]
   have OT:t.place[i]? =some (t.place[i]'(by omega)):=by simp
   rw [e,OT];exact k1 es[i] _ (by rw [eo];exact e) (.inr (wI D.good.1 OT))
  ·rw [Array.getElem?_eq_none (show es.size<=i by omega)];exact k2 (by omega)
end
end
section
variable {prog:Program} {w:World} {A:Around} {E:Value->Shared->Prop} {s:Shared} {a I:Addr} {oS:Obj} {es:Array (Int×Value)} {ep:Nat} {t:SetTable} {slot i:Nat}
def ItF (h:Heap) (I:Addr) (vs:Array Value):Prop:=∃o,h.get? I=some o/\o.cls= .type "set_iterator"/\o.data= .fields vs
theorem ItF.ty {vs:Array Value} (x:ItF s.heap I vs):s.TypeIs (.ref I) "set_iterator":=by
 obtain ⟨_,e,c,_⟩:=x;exact ⟨_,e,c⟩
theorem ItF.set {h:Heap} {vs:Array Value} (x:ItF h I vs) (j:Nat) (v:Value):ItF (h.update I (Obj.mapFields (·.setIfInBounds j v))) I (vs.setIfInBounds j v):=by
 obtain ⟨o,e,c,d⟩:=x;exact ⟨_,jaD _ e (Obj.isFreed_of_fields (jbI d _)),(Obj.cls_mapFields ..).trans c,jbI d _⟩
theorem EM {Q:Option Value->Shared->Prop} (x:ItF s.heap I #[.int slot 0, .int i 0, .ref a, .int es.size 0, .int ep 0]) (ne:a≠I) (LR:s.heap.get? a=some oS) (D:SetD prog w oS es ep t) (pl:byT w=true\/(t.plain=true\/es.size<=1)) (st:stT w t i slot) (hi:i<es.size)
 (k1:∀e Mb h',(my w a ep es)[i]? =some e->stT w t (i+1) Mb->ItF h' I #[.int Mb 0, .int (i+1:Nat) 0, .ref a, .int es.size 0, .int ep 0]->Heap.SameBut I s.heap h'->Q (some e.2) {s with heap:=h'}):wpAny (model prog w) A (pyNext (.ref I)) Q E s:=by
 have x':=x;obtain ⟨o,go,gc,gd⟩:=x';unfold pyNext;refine Qg (jbt (Tf (name:=Str.ofString "__next__") x.ty ye (TB ye x.ty Zu ?_ (ZN _))));unfold Builtin.«set_iterator.__next__»;refine Qg (Qm ?_);refine Qg (wpAny_fieldsOf go gd ?_);dsimp only;refine Qg (jbe LR D.data D.fit ?_);rw [QP (by simp)];refine Qg (HR (slot:=slot) (i:=i) LR D pl st (λe Mb he Mh=>?_) (λz=>absurd hi (by omega)));dsimp only;refine Qg (jaV go gd (by simp) ?_);have x1:=x.set 0 (rawInt (Mb:Nat));have x2:=x1.set 1 (rawInt ((i:Int)+1));obtain ⟨o1,go1,gc1,gd1⟩:=x1;refine Qg (jaV go1 gd1 (by simp) ?_);refine Qm ⟨_,rfl,Qm (k1 e Mb _ he Mh ?_ ((TN ..).trans (TN ..)))⟩
 simpa [rawInt] using x2
theorem HD {j:Nat} {x:Value} {h1:Heap} {Q:Option Value->Shared->Prop} (quiet:A.handled=none) (k:∀h',(∀b o,h1.get? b=some o->h'.get? b=some o)->Q none {s with heap:=h'}):
 wpAny (model prog w) A.in1 (newExc (.type "StopIteration") []>>=λe=>(raiseNew e:Sem Fin)) (λfin s'=>∃v,fin=Fin.done (Flow.ret v)/\wpAny (model prog w) A (pure (some v)) Q E s')
  (λe s'=>wpAny (model prog w) A (isInstance e (Value.type "StopIteration")>>=λb=>if b=true then pure none else throw e) Q E s') {s with heap:=h1}:=by
 refine Qg ?_;simp only [newExc,newTuple];refine Qg (Ta (Qg (m:=firstArgMember _ _) (wpAny_of_eq (a:=Value.none) (by first|rfl|(simp only [firstArgMember];rfl)) (Ta ?_ (by size_fits)))) (by size_fits));simp only [raiseNew];refine Qg (wpAny_handled ?_);rw [show A.in1.handled=none from quiet];refine' Qg (Qm (wpAny_throw ?told))
 case told=>
  refine' Qg (wpAny_isInstance (T:="StopIteration") (b:=true) ⟨_,Qu _ rfl,rfl⟩ isSubtype_stop ?yes)
  case yes=>exact Qm (k _ λb o e=>Qh _ (Qh _ e))
theorem EO {Q:Option Value->Shared->Prop} (quiet:A.handled=none) (x:ItF s.heap I #[.int slot 0, .int i 0, .ref a, .int es.size 0, .int ep 0]) (LR:s.heap.get? a=some oS) (D:SetD prog w oS es ep t) (pl:byT w=true\/(t.plain=true\/es.size<=1)) (st:stT w t i slot) (hi:es.size<=i)
 (k:∀h',(∀b o,b≠I->s.heap.get? b=some o->h'.get? b=some o)->Q none {s with heap:=h'}):wpAny (model prog w) A (pyNext (.ref I)) Q E s:=by
 have osz:(my w a ep es).size=es.size:=by
  have:=(Uo w a ep es).length_eq
  simpa using this
 have x':=x;obtain ⟨o,go,gc,gd⟩:=x';unfold pyNext;refine Qg (jbt (Tf (name:=Str.ofString "__next__") x.ty ye (TB ye x.ty Zu ?_ (ZN _))));unfold Builtin.«set_iterator.__next__»;refine Qg (Qm (Qg (wpAny_fieldsOf go gd ?_)));dsimp only;refine Qg (jbe LR D.data D.fit ?_);rw [QP (by simp)];refine Qg (HR (slot:=slot) (i:=i) LR D pl st (λe Mb he Mh=>?_) (λ_=>?_))
 ·have:=(jak.mp he).1
  exact absurd this (by have z:(my w a ep es).size=es.size:=osz
                        show ¬i<(my w a ep es).size
                        omega)
 dsimp only;refine Qg (jaV go gd (by simp) ?_);exact HD (j:=0) (x:= .none) quiet λh' keep=>k h' λb o hb e=>keep b o ((TN s.heap I _).extBut b o hb e)
theorem tf {vs:Array Value} {Q:Value->Shared->Prop} (x:ItF s.heap I vs) (k:Q (.ref I) s):wpAny (model prog w) A (pyIter (.ref I)) Q E s:=by
 refine wpAny_pyIter_slot x.ty Ub (TB Ub x.ty hX (show wpAny _ _ (ret (.ref I)) _ _ s from ?_) (lR _));exact Qm ⟨_,rfl,"set_iterator",_,x.ty,ye.lookup,k⟩
theorem AI {tp:Addr} {pls:List Nat} {oT:Obj} {nT p:Nat} {e:Int×Value} {Q:Option Value->Shared->Prop} (x:ItF s.heap I #[.ref tp, .int i 0, .ref a, .int es.size 0, .int ep 0]) (gt:s.heap.get? tp=some oT) (gtd:oT.data= .seq (pls.map λ(p:Nat)=>rawInt p).toArray nT)
 (LR:s.heap.get? a=some oS) (D:SetD prog w oS es ep t) (hp:pls[i]? =some p) (he:es[p]? =some e)
 (k1:∀h',ItF h' I #[.ref tp, .int (i+1:Nat) 0, .ref a, .int es.size 0, .int ep 0]->Heap.SameBut I s.heap h'->Q (some e.2) {s with heap:=h'}):wpAny (model prog w) A (pyNext (.ref I)) Q E s:=by
 have x':=x;obtain ⟨o,go,gc,gd⟩:=x';unfold pyNext;refine Qg (jbt (Tf (name:=Str.ofString "__next__") x.ty ye (TB ye x.ty Zu ?_ (ZN _))));unfold Builtin.«set_iterator.__next__»;refine Qg (Qm (Qg (wpAny_fieldsOf go gd ?_)));dsimp only;refine Qg (jbe LR D.data D.fit ?_);rw [QP (by simp)];refine Qg (show wpAny _ _ (load tp>>=_) _ _ s from Qg (wpAny_load gt ?_));rw [gtd];refine Qm ?_;dsimp only
 have ei:(pls.map λ(p:Nat)=>rawInt p).toArray[(i:Int).toNat]? =some (rawInt p):=by
  rw [TV,List.getElem?_toArray,Qi,hp];rfl
 rw [ei];show wpAny _ _ (setNextDrawn a (p:Int).toNat (ep:Int).toNat>>=_) _ _ s;refine Qg ?_;unfold setNextDrawn;refine Qg (jbv LR D.data D.fit ?_);dsimp only;rw [TV,TV,QP (by simp),he];refine Qg (Qm (Qm ?_));refine Qg (jaV go gd (by simp) ?_);have x2:=x.set 1 (rawInt ((i:Int)+1));refine Qm ⟨_,rfl,Qm (k1 _ ?_ (TN ..))⟩
 simpa [rawInt] using x2
theorem AJ {tp:Addr} {pls:List Nat} {oT:Obj} {nT:Nat} {Q:Option Value->Shared->Prop} (quiet:A.handled=none) (x:ItF s.heap I #[.ref tp, .int i 0, .ref a, .int es.size 0, .int ep 0]) (gt:s.heap.get? tp=some oT) (gtd:oT.data= .seq (pls.map λ(p:Nat)=>rawInt p).toArray nT)
 (LR:s.heap.get? a=some oS) (D:SetD prog w oS es ep t) (hp:pls.length<=i)
 (k:∀h',(∀b o,b≠I->s.heap.get? b=some o->h'.get? b=some o)->Q none {s with heap:=h'}):wpAny (model prog w) A (pyNext (.ref I)) Q E s:=by
 have x':=x;obtain ⟨o,go,gc,gd⟩:=x';unfold pyNext;refine Qg (jbt (Tf (name:=Str.ofString "__next__") x.ty ye (TB ye x.ty Zu ?_ (ZN _))));unfold Builtin.«set_iterator.__next__»;refine Qg (Qm (Qg (wpAny_fieldsOf go gd ?_)));dsimp only;refine Qg (jbe LR D.data D.fit ?_);rw [QP (by simp)];refine Qg (show wpAny _ _ (load tp>>=_) _ _ s from Qg (wpAny_load gt ?_));rw [gtd];refine Qm ?_;dsimp only
 have ei:(pls.map λ(p:Nat)=>rawInt p).toArray[(i:Int).toNat]? =none:=by
  rw [TV,List.getElem?_toArray,Qi,QF hp];rfl
 rw [ei];dsimp only;refine Qg (jaV go gd (by simp) ?_);have x1:=x.set 0 (rawInt 0);obtain ⟨o1,go1,gc1,gd1⟩:=x1;refine Qg (jaV go1 gd1 (by simp) ?_);exact HD (j:=0) (x:= .none) quiet λh' keep=>k h' λb o hb e=>keep b o (((TN s.heap I _).trans (TN _ I _)).extBut b o hb e)
end
section
variable {prog:Program} {w:World} {A:Around} {E:Value->Shared->Prop} {s:Shared} {a I:Addr} {oS:Obj} {es:Array (Int×Value)} {ep:Nat} {t:SetTable} {slot i:Nat}
theorem ItF.at {h h':Heap} {vs:Array Value} (x:ItF h I vs) (k:∀o,h.get? I=some o->h'.get? I=some o):ItF h' I vs:=by
 obtain ⟨o,e,r⟩:=x;exact ⟨o,k o e,r⟩
theorem Aj (quiet:A.handled=none) (ne:a≠I) (D:SetD prog w oS es ep t) (pl:byT w=true\/(t.plain=true\/es.size<=1)):
 Walks prog w A I [I,a] [I] es.size (λi v=>∃e,(my w a ep es)[i]? =some e/\v=e.2) (λi h=>(∃slot,stT w t i slot/\ItF h I #[.int (slot:Nat) 0, .int (i:Nat) 0, .ref a, .int es.size 0, .int ep 0])/\h.get? a=some oS) where
 sub:=λb hb=>by rw [Qq.mp hb];exact Qb
 frame:=λi h h' st keep=>⟨let ⟨sl,h1,h2⟩:=st.1;⟨sl,h1,h2.at λo e=>keep I Qb o e⟩,keep a (by simp) _ st.2⟩
 item:=λi s Q E hi st k=>by
  obtain ⟨⟨sl,h1,h2⟩,h3⟩:=st;refine EM h2 ne h3 D pl h1 hi λe Mb h' he Mh x sb=>?_;exact k e.2 h' s.toks ⟨e,he,rfl⟩ ⟨⟨Mb,Mh,x⟩,sb.extBut a _ ne h3⟩ λb o hb e=>sb.extBut b o (λz=>hb (by rw [z];exact Qq.mpr rfl)) e
 done:=λs Q E st k=>by
  obtain ⟨⟨sl,h1,h2⟩,h3⟩:=st;exact EO quiet h2 h3 D pl h1 (Qp _) λh' keep=>k h' s.toks λb o hb e=>keep b o (λz=>hb (by rw [z];exact Qq.mpr rfl)) e
 self:=λi s Q E st k=>let ⟨sl,h1,h2⟩:=st.1;tf h2 k
theorem pR {tp:Addr} {pls:List Nat} {oT:Obj} {nT:Nat} (quiet:A.handled=none) (ne:a≠I) (ne2:tp≠I) (D:SetD prog w oS es ep t) (gtd:oT.data= .seq (pls.map λ(p:Nat)=>rawInt p).toArray nT) (hp:∀p∈pls,p<es.size):
 Walks prog w A I [I,a,tp] [I] pls.length (λi v=>∃p e,pls[i]? =some p/\es[p]? =some e/\v=e.2) (λi h=>ItF h I #[.ref tp, .int (i:Nat) 0, .ref a, .int es.size 0, .int ep 0]/\h.get? a=some oS/\h.get? tp=some oT) where
 sub:=λb hb=>by rw [Qq.mp hb];exact Qb
 frame:=λi h h' st keep=>⟨st.1.at λo e=>keep I Qb o e,keep a (by simp) _ st.2.1,keep tp (by simp) _ st.2.2⟩
 item:=λi s Q E hi st k=>by
  have e1:=Qc hi;have lt:=hp _ (Te hi);have e2:es[pls[i]]? =some es[pls[i]]:=by simp [lt]
  refine AI st.1 st.2.2 gtd st.2.1 D e1 e2 λh' x sb=>?_;exact k _ h' s.toks ⟨_,_,e1,e2,rfl⟩ ⟨x,sb.extBut a _ ne st.2.1,sb.extBut tp _ ne2 st.2.2⟩ λb o hb e=>sb.extBut b o (λz=>hb (by rw [z];exact Qq.mpr rfl)) e
 done:=λs Q E st k=>AJ quiet st.1 st.2.2 gtd st.2.1 D (Qp _) λh' keep=>k h' s.toks λb o hb e=>keep b o (λz=>hb (by rw [z];exact Qq.mpr rfl)) e
 self:=λi s Q E st k=>tf st.1 k
def WalkOk (prog:Program) (w:World) (h:Heap) (I a:Addr) (lo:Nat) (ns:List Int):Prop:=
 ∃(fp:List Addr) (n:Nat) (P:Nat->Value->Prop) (St:Nat->Heap->Prop) (os:List Int),St 0 h/\I∈fp/\(∀b∈fp,b<h.objs.size/\(b=a\/lo<=b))/\n=os.length/\os.Perm ns/\(∀i v,P i v->∃tk k,os[i]? =some k/\v= .int k tk)/\∀A':Around,A'.handled=none->Walks prog w A' I fp [I] n P St
theorem uk (D:SetD prog w oS es ep t) {e:Int×Value} (he:e∈es.toList):∃tk,e.2= .int (UH e.2) tk:=by
 obtain ⟨⟨k,hk,_⟩,_⟩:=D.elems e he;obtain ⟨tk,h⟩:=Value.isInt_shape hk;exact ⟨tk,by rw [h];rfl⟩
theorem BJ {α β:Type} (g:α->β) (d:α) (l:List α):(List.range l.length).map (λi=>g (l.getD i d))=l.map g:=by
 apply jat
 ·simp
 ·intro i h1 h2;simp at h1;simp [h1]
theorem iter_T {ns:List Int} {Q:Value->Shared->Prop} (T:iA prog w s.heap a (wY w) ns) (few:ns.length<1000)
 (k:∀(h':Heap) (d) (I:Addr),(∀b o,s.heap.get? b=some o->h'.get? b=some o)->s.heap.objs.size<=I->I<h'.objs.size->h'.objs.size<=s.heap.objs.size+2->WalkOk prog w h' I a s.heap.objs.size ns->Q (.ref I) {s with heap:=h',drawn:=d}):
 wpAny (model prog w) A (pyIter (.ref a)) Q E s:=by
 obtain ⟨o,es,ep,t,⟨LR,ex,data⟩,elems,⟨fit,good⟩,rfl,nd⟩:=T;have D:SetD prog w o es ep t:=⟨ex,data,elems,fit,good⟩;have ty:s.TypeIs (.ref a) "set":=⟨_,LR,ex.1⟩;have la:a<s.heap.objs.size:=Qt LR;refine wpAny_pyIter_slot ty F.slot_set_iter (TB F.slot_set_iter ty ie ?_ (F.args_set_iter_1 _));unfold Builtin.«frozenset.__iter__» Builtin.Frozenset.slot0 Builtin.Frozenset.sizeOf;refine Qg (Qg (Qm (show wpAny _ _ (pure a) _ _ s from Qm ?_)));refine Qg (Qg (jbe LR data fit (Qm ?_)));unfold setDrawn;refine Qg (Qg (jbv LR data fit ?_));dsimp only;refine Qg (rT (Qm ?_));have vals:∀l:List (Int×Value),l.Perm es.toList->(l.map λe=>UH e.2).Perm (es.toList.map λe=>UH e.2):=λl p=>p.map _;have szn:es.size<1000:=by simpa using few
 split
 ·refine Qg (Ic es.size (List.range es.size) _ _ jbu λd ys hp=>?_);have ly:ys.length=es.size:=by rw [hp.length_eq,jbu]
  simp only [newTuple]
  refine Qg (Ta ?_ (by
   show (List.map _ ys).toArray.size<=sizeLine
   rw [sizeLine_eq,QD,Qa];omega))
  dsimp only;have g1:(s.heap.push {cls:= .type "tuple",data:= .seq (ys.map λ(p:Nat)=>rawInt p).toArray}).get? a=some o:=Qh _ LR;have gt:(s.heap.push {cls:= .type "tuple",data:= .seq (ys.map λ(p:Nat)=>rawInt p).toArray}).get? s.heap.objs.size=some {cls:= .type "tuple",data:= .seq (ys.map λ(p:Nat)=>rawInt p).toArray}:=Qu _ rfl;have Ni:(s.heap.push {cls:= .type "tuple",data:= .seq (ys.map λ(p:Nat)=>rawInt p).toArray}).objs.size=s.heap.objs.size+1:=QU ..;generalize PH:s.heap.push {cls:= .type "tuple",data:= .seq (ys.map λ(p:Nat)=>rawInt p).toArray}=h1 at g1 gt Ni⊢;have k1:∀b o,s.heap.get? b=some o->h1.get? b=some o:=λb o e=>by rw [<-PH];exact Qh _ e
  refine Qg (wpAny_setEpoch_of (s:={s with heap:=h1,drawn:=d}) g1 data fit ?_);simp only [newFields];refine Qg (Ta (Qm ⟨_,rfl,"set_iterator",_,⟨_,Qu _ rfl,rfl⟩,ye.lookup,?_⟩));refine k _ d _ (λb o e=>Qh _ (k1 b o e)) (by show _<=h1.objs.size;rw [Ni];exact jal _) (by rw [QU];exact Th _) (by rw [QU,Ni];exact Qp _) ?_;have nea:a≠h1.objs.size:=by rw [Ni];exact QM (TM la)
  have net:s.heap.objs.size≠h1.objs.size:=by rw [Ni];exact QM (Th _)
  have Mm:∀p∈ys,p<es.size:=λp ML=>by
   have:=hp.mem_iff.mp ML;exact jbg.mp this
  refine ⟨[h1.objs.size,a,s.heap.objs.size],ys.length,_,_,ys.map λp=>UH (es.toList.getD p (0, .none)).2,⟨⟨_,Qu _ rfl,rfl,rfl⟩,Qh _ g1,Qh _ gt⟩,Qb,λb hb=>?_,(Qa ..).symm,?_,λi v hv=>?_,λA' q=>pR q nea net D rfl Mm⟩
  ·rw [QU]
   rcases Ql.mp hb with z|hb
   ·rw [z];exact ⟨Th _, .inr (by rw [Ni];exact jal _)⟩
   rcases Ql.mp hb with z|hb
   ·rw [z,Ni];exact ⟨TM (TM la), .inl rfl⟩
   ·rw [Qq.mp hb,Ni];exact ⟨TM (Th _), .inr (Qp _)⟩
  ·have p1:=hp.map λp=>UH (es.toList.getD p (0, .none)).2;have e:=BJ (λe:Int×Value=>UH e.2) (0, .none) es.toList;rw [jaf] at e;rw [e] at p1;exact p1
  ·obtain ⟨p,e,NC,RU,rfl⟩:=hv;have me:e∈es.toList:=Qe (i:=p) (by simpa using RU);obtain ⟨tk,ht⟩:=uk D me;refine ⟨tk,UH e.2,?_,ht⟩;have eg:es.toList.getD p (0, .none)=e:=by rw [Qo,Array.getElem?_toList,RU];rfl
   rw [Qi,NC];show some (UH (es.toList.getD p (0, .none)).2)=_;rw [eg]
 ·rename_i z
  have pl:byT w=true\/(t.plain=true\/es.size<=1):=by
   have z':¬(!byT w && (!t.plain && decide (es.size>1)))=true:=z
   cases h1:byT w with
   |true=>exact .inl rfl
   |false=>
    cases h2:t.plain with
    |true=>exact .inr (.inl rfl)
    |false=>
     right;right
     rw [h1,h2] at z';simp at z';exact z'
  refine Qg (Qm (Qg (wpAny_setEpoch_of LR data fit ?_)));simp only [newFields];refine Qg (Ta (Qm ⟨_,rfl,"set_iterator",_,⟨_,Qu _ rfl,rfl⟩,ye.lookup,?_⟩));refine k _ s.drawn _ (λb o e=>Qh _ e) (Qp _) (by rw [QU];exact Th _) (by rw [QU];exact jal _) ?_
  have osz:(my w a ep es).size=es.size:=by
   have:=(Uo w a ep es).length_eq
   simpa using this
  refine ⟨[s.heap.objs.size,a],es.size,_,_,(my w a ep es).toList.map λe=>UH e.2,⟨⟨0,Or.inr (wH good.1),_,Qu _ rfl,rfl,rfl⟩,Qh _ LR⟩,Qb,λb hb=>?_,by rw [Qa,jaf,osz],vals _ (Uo w a ep es),λi v hv=>?_,λA' q=>Aj q (QM la) D pl⟩
  ·rw [QU]
   rcases Ql.mp hb with z|hb
   ·rw [z];exact ⟨Th _, .inr (Qp _)⟩
   ·rw [Qq.mp hb];exact ⟨TM la, .inl rfl⟩
  ·obtain ⟨e,he,rfl⟩:=hv;have me:e∈es.toList:=(Uo w a ep es).mem_iff.mp (Qe (i:=i) (by simpa using he));obtain ⟨tk,ht⟩:=uk D me;refine ⟨tk,UH e.2,?_,ht⟩;rw [Qi,Array.getElem?_toList,he];rfl
end
section
variable {prog:Program} {w:World} {A:Around} {E:Value->Shared->Prop} {s:Shared} {a I:Addr}
theorem hint_T {ns:List Int} {Q:Bool->Shared->Prop} (ty:s.TypeIs (.ref a) "set") (k:Q false s):wpAny (model prog w) A (Builtin.List.listLengthHint (.ref a)) Q E s:=by
 unfold Builtin.List.listLengthHint;refine Qg (wpAny_specialOf ty F.slot_set_len.lookup ?_);dsimp only;rw [show splitId "set.__len__"=some ("set","__len__") by decide+kernel];dsimp only;refine Qg (wpAny_isInstance ty sub_set_self ?_);rw [QP (by simp),QH (by decide+kernel)];exact Qg (wpAny_typeOf ty (Qm k))
theorem CU:∀{vs:List Value} {os:List Int},vs.length=os.length->(∀(j:Nat) (v:Value),vs[j]? =some v->∃tk k,os[j]? =some k/\v=Value.int k tk)->PyProof.Rows.IntsAre vs os
 |[],[],_,_=> .nil
 |v::vs,k::os,hl,h=>by
  obtain ⟨tk,k',h1,rfl⟩:=h 0 v rfl;cases h1
  exact .cons k tk (CU (by simpa using hl) λj v hv=>by
   obtain ⟨tk,k,h1,h2⟩:=h (j+1) v (by simpa using hv)
   exact ⟨tk,k,by simpa using h1,h2⟩)
 |[],_::_,h,_=>by simp at h
 |_::_,[],h,_=>by simp at h
theorem DE {ns:List Int} {Q:List Value->Shared->Prop} (quiet:A.handled=none) (T:iA prog w s.heap a (wY w) ns) (few:ns.length<1000)
 (k:∀(h':Heap) (d) (tk:Nat) (vs:List Value) (os:List Int),(∀b o,s.heap.get? b=some o->h'.get? b=some o)->s.heap.objs.size<h'.objs.size->PyProof.Rows.IntsAre vs os->os.Perm ns->Q vs {s with heap:=h',drawn:=d,toks:=tk}):wpAny (model prog w) A (collect (.ref a)) Q E s:=by
 have la:a<s.heap.objs.size:=let ⟨_,_,_,_,⟨g,_⟩,_⟩:=T;Qt g
 unfold collect;refine Qg (wpAny_runValue (jbp PySem.F.entry_proto_collect ?_));rw [jaW PySem.F.plain_proto_collect _];show wpAny _ A.in1 (newList []>>=λl=>again (.builtin "list.__iadd__" ⟨[l, .ref a],[]⟩)) _ _ s;refine Qg (Ta (Qm ⟨plainId_quiet PySem.F.plain_list_iadd _,jbp PySem.F.entry_list_iadd ?_⟩));rw [jaW PySem.F.plain_list_iadd _];show wpAny _ A.in1 (Builtin.List.listExtendWith (.ref s.heap.objs.size) (.ref a) (.ref s.heap.objs.size)) _ _ _;unfold Builtin.List.listExtendWith;generalize PH:s.heap.push {cls:= .type "list",data:= .seq ([]:List Value).toArray}=h1;have g1:h1.get? s.heap.objs.size=some {cls:= .type "list",data:= .seq ([]:List Value).toArray}:=by rw [<-PH];exact Qu _ rfl
 have Ni:h1.objs.size=s.heap.objs.size+1:=by rw [<-PH];exact QU ..
 have k1:∀b o,s.heap.get? b=some o->h1.get? b=some o:=λb o e=>by rw [<-PH];exact Qh _ e
 have T1:iA prog w h1 a (wY w) ns:=T.kept λo e=>k1 a o e;have ty1:Shared.TypeIs {s with heap:=h1} (.ref a) "set":=let ⟨_,_,_,_,⟨g,x,_⟩,_⟩:=T1;⟨_,g,x.1⟩
 have ne:s.heap.objs.size≠a:=jaR la;refine Qg (wpAny_typeOf (s:={s with heap:=h1}) ty1 ?_);have c1:Builtin.List.listSameRef (.ref s.heap.objs.size) (.ref a)=false:=by unfold Builtin.List.listSameRef;simpa using ne
 rw [c1,show (Value.type "set"==Value.type "list")=false by decide,show (Value.type "set"==Value.type "tuple")=false by decide,QP (by simp)];refine Qg (iter_T (s:={s with heap:=h1}) T1 few λh2 d I k2 lI hI sz2 W=>?_);dsimp only at k2 lI sz2;have T2:iA prog w h2 a (wY w) ns:=T1.kept λo e=>k2 a o e;have ty2:Shared.TypeIs {s with heap:=h2,drawn:=d} (.ref a) "set":=let ⟨_,_,_,_,⟨g,x,_⟩,_⟩:=T2;⟨_,g,x.1⟩
 refine Qg (jaQ (hint_T (ns:=ns) (s:={s with heap:=h2,drawn:=d}) ty2 ?_));rw [QH (by decide+kernel)];refine Qg (jbQ ?_);have g2:=k2 _ _ g1;have g3:=jaD (Obj.mapSeq (·.push Value.none)) g2 rfl;have g4:=jaD (Obj.mapSeq (·.pop)) g3 rfl;refine Qg (show wpAny _ A.in1 (updateSeq s.heap.objs.size (·.push .none)>>=λ_=>updateSeq s.heap.objs.size (·.pop)) _ _ _ from Qg (wpAny_updateSeq g2 rfl (wpAny_updateSeq g3 rfl ?_)));obtain ⟨fp,n,P,St,os,st0,mI,bfp,hn,perm,val,Wk⟩:=W
 have out:s.heap.objs.size∉fp:=λz=>by
  rcases (bfp _ z).2 with e|e
  ·exact ne e
  ·dsimp only at e;rw [Ni] at e;exact absurd e (Nat.not_le.mpr (Th _))
 have nsz:n<=sizeLine:=by
  have:=perm.length_eq;rw [sizeLine_eq];omega
 have oth:∀b o,b≠s.heap.objs.size->h2.get? b=some o->((h2.update s.heap.objs.size (Obj.mapSeq (·.push Value.none))).update s.heap.objs.size (Obj.mapSeq (·.pop))).get? b=some o:=
  λb o hb e=>(jbh _ _ (Ne.symm hb)).trans ((jbh _ _ (Ne.symm hb)).trans e)
 have WS:=(Wk A.in1 (by simp [quiet])).toS;refine Qm ⟨plainId_quiet PySem.F.plain_extend_loop _,codeAny_extend_loopS WS nsz _ out _ n 0 _ _ _ rfl (TH _) ((Wk A.in1 (by simp [quiet])).frame 0 h2 _ st0 λb hb o e=>oth b o (λz=>out (z▸hb)) e) g4 (ItemsOf.nil P) λs' acc c mv gS items=>?_⟩;refine (show wpAny _ A (load s.heap.objs.size>>=_) _ _ s' from Qg (wpAny_load gS (Qm ?_)));obtain ⟨h',g',d',Sm,Oq⟩:=s';have eg:g'=s.gens:=mv.gens;have ed:d'=d:=mv.drawn;have eo:Oq=s.os:=mv.os;subst eg;subst ed;subst eo;refine k h' d' Sm acc.toList os (λb o e=>?_) (Qt gS) (CU ?_ λj v hv=>?_) perm
 ·have hb:b<s.heap.objs.size:=Qt e;refine mv.heap b o (λz=>?_) (oth b o (QM hb) (k2 b o (k1 b o e)))
  rcases Ql.mp z with z|z
  ·exact absurd hb (by rw [z];exact jaw _)
  ·rw [Qq.mp z] at hb;rw [Ni] at lI;exact absurd hb (Nat.not_lt.mpr (QI (jal _) lI))
 ·rw [jaf,items.1,hn]
 ·obtain ⟨tk,kk,NC,RU⟩:=val j v (items.2 j v (by simpa using hv));exact ⟨tk,kk,NC,RU⟩
theorem EK {ns:List Int} {Q:Value->Shared->Prop} (quiet:A.handled=none) (T:iA prog w s.heap a (wY w) ns) (few:ns.length<64)
 (k:∀(h':Heap) (d) (tk:Nat) (L:Addr) (out:Array Value) (os:List Int) (e:Nat),(∀b o,s.heap.get? b=some o->h'.get? b=some o)->s.heap.objs.size<=L->h'.get? L=some (PyProof.Rows.seqObj "list" out e)->PyProof.Rows.IntsAre out.toList os->os.Perm ns->os.Pairwise (·<=·)->Q (.ref L) {s with heap:=h',drawn:=d,toks:=tk}):
 wpAny (model prog w) A (call (.builtin "sorted") [.ref a]) Q E s:=by
 refine Calls.call_function_entry PyProof.Rows.kind_sorted PyProof.Rows.plain_sorted PyProof.Rows.entry_sorted (PyProof.Rows.args_sorted1 _) ?_;unfold Builtin.«sorted»;refine Qg (m:=checkCount "sorted" 1 1 _) (Qm (Qg (DE (by simp [quiet]) T (by omega) λh1 d tk vs os keep lt isI perm=>Qg (wpAny_newList ?_ (by rw [sizeLine_eq,isI.length,perm.length_eq];omega)))));have gL:(h1.push (PyProof.Rows.seqObj "list" vs.toArray 0)).get? h1.objs.size=some (PyProof.Rows.seqObj "list" vs.toArray 0):=Qu _ rfl
 have lv:vs.length<64:=by
  have e1:=isI.length;have e2:=perm.length_eq;omega
 show wpAny _ _ _ _ _ {s with heap:=h1.push (PyProof.Rows.seqObj "list" vs.toArray 0),drawn:=d,toks:=tk};refine Qg (jaQ (TB PyProof.Rows.slot_list_sort ⟨_,gL,rfl⟩ PyProof.Rows.entry_list_sort (PyProof.Rows.list_sort_tree (s:={s with heap:=h1.push (PyProof.Rows.seqObj "list" vs.toArray 0),drawn:=d,toks:=tk}) gL isI lv λout Oq a1 a2 a3=>⟨_,rfl,?_⟩) (PyProof.Rows.args_list_sort _)));obtain ⟨e,he⟩:=PyProof.Rows.sortedHeap_at (out:=out) gL;refine Qm ⟨_,rfl,k _ d tk _ out Oq e (λb o g=>?_) (jbm lt) he a1 (a2.trans perm) a3⟩;have lb:b<h1.objs.size:=Qt (keep b o g);rw [PyProof.Rows.sortedHeap_old (QM lb) (by rw [QU];exact TM lb)];exact Qh _ (keep b o g)
end
end S
namespace S
open PySem PySem.Spec PyProof.Rows L2
theorem iA.nodup {prog:Program} {w:World} {h:Heap} {a:Addr} {b:Bool} {ns:List Int} (T:iA prog w h a b ns):ns.Nodup:=by
 obtain ⟨_,_,_,_,_,_,_,_,nd⟩:=T;exact nd
theorem bt_set:bootBuiltins "set"=some (.type "set"):=by decide+kernel
theorem wG:bootBuiltins "sorted"=some (.builtin "sorted"):=by decide+kernel
theorem le_lt:∀{l:List Int},l.Pairwise (·<=·)->l.Nodup->l.Pairwise (·<·)
 |[],_,_=>List.Pairwise.nil
 |x::l,h,nd=>by
  obtain ⟨h1,h2⟩:=Qk.mp h;obtain ⟨n1,n2⟩:=TK.mp nd;refine Qk.mpr ⟨λy hy=>?_,le_lt h2 n2⟩;have:=h1 y hy;have:x≠y:=λe=>n1 (e▸hy);omega
section
variable {X:Cx}
theorem Inv.redrawn {pins:List (Addr×Obj)} {σ:L2.St} {H:Hp} {s:Shared} {d:Drawn} (I:Inv X pins σ H s):Inv X pins σ H {s with drawn:=d}:=⟨I.ok,I.os,I.bare,I.base,I.loc,I.cell,I.free,I.freeC,I.pin,I.hok,I.len⟩
def BK (K:PySem.W.Frag):V->Hp->VK->Prop:=λx H1 Q=>∃(p:Addr) (ns:List Int),x= .ref p/\SqL K H1 p (ns.map V.int)/\ns.length<60/\∀(os:List Int) (l:Addr),os.Pairwise (·<·)->(∀k,k∈os↔k∈ns)->H1 l=none->Q (.ref l) (upd H1 l (.lst (os.map V.int)))
def Hz (K:PySem.W.Frag) (te:TE):TE:=λσ H Q=>te σ H λx H1=>BK K x H1 Q
theorem bx:∀{ns:List Int} {us:List Value},IntsAre us ns->xn (ns.map V.int) us
 |[],_, .nil=> .nil
 |n::ns,_, .cons _ t r=> .cons ⟨t,rfl⟩ (bx r)
theorem Fi {e:Expr} {te:TE} {p1 p2 q1 q2:Pos} (hc:X.calm=true) (g1:Gl X "sorted") (m1:X.mg "sorted"=none) (g2:Gl X "set") (m2:X.mg "set"=none) (he:PE X e te)
 (st1:starEach [.Call (.Name "set" p2) [e] [] q2] X.env=[(false,eval (.Call (.Name "set" p2) [e] [] q2) X.env)]:=by rfl) (Mp:starEach [e] X.env=[(false,eval e X.env)]:=by rfl):
 PE X (.Call (.Name "sorted" p1) [.Call (.Name "set" p2) [e] [] q2] [] q1) (Hz X.K te):=by
 intro pins s σ H Q I h;refine jaI (Vm I g1 m1 wG ?_ (by decide) (by decide));refine PyProof.Rows.callWith_builtin1 ?_ st1 (by rfl);rw [st1];show wpAny _ _ (spliced ((false,eval (.Call (.Name "set" p2) [e] [] q2) X.env)::backTo q1 (starEach [] X.env))) _ _ s;refine Calls.spliced_cons ?_;refine jaI (Vm I g2 m2 bt_set ?_ (by decide) (by decide));refine TF (thn ((Wz he eD Mp) q2 pins s σ H (λvs H1=>match vs with|[x]=>BK X.K x H1 Q|_=>False) I h) λus s1 ⟨vs,H1,I1,r1,r2⟩=>?_) Mp (by rfl)
 match vs,r1,r2 with
 |[x],r1,r2=>
  obtain ⟨p,ns,rfl,hq,few,k⟩:=r2;obtain ⟨u,rfl,rx⟩:=UI r1;cases rx;obtain ⟨its,rv,pl,_⟩:=I1.list hq;have hi:=WV rv;have hl:=hi.length;have quiet:=I1.ok.hd hc;refine wD quiet pl.isList (by simpa using hi) (by simpa using (by omega:its.length<900)) λh2 Sl T hT hx hlT Pj=>?_;refine Calls.spliced_nil ?_;have kp2:∀b o,s1.heap.get? b=some o->h2.get? b=some o:=λb o e=>Pj b o (Qt e) e;have I2:Inv X pins σ H1 {s1 with heap:=h2,toks:=Sl}:=I1.kept (t':=Sl) kp2;refine EK (s:={s1 with heap:=h2,toks:=Sl}) quiet hT (by omega) λh3 d tk3 L out os e Ph le gL isO perm sorted=>?_;have I3:=Inv.redrawn (d:=d) I2;have nd:os.Nodup:=perm.nodup_iff.mpr hT.nodup;have lo:=isO.length;have po:=perm.length_eq;have I4:Inv X pins σ (upd H1 L (.lst (os.map V.int))) {s1 with heap:=h3,drawn:=d,toks:=tk3}:=I3.laid (t':=tk3) Ph le (show ZP X.prog X.w _ _ _ (.lst (os.map V.int)) from ⟨?_,out.toList,e,bx isO,?_⟩)
  ·exact ⟨.ref L,_,I4,rfl,k os L (le_lt sorted nd) (λx=>by rw [perm.mem_iff];exact hx x) (I2.hok.fresh le)⟩
  ·rw [Qa,sizeLine_eq];omega
  ·simpa using gL
end
section
variable {X:Cx}
def rMinT (K:PySem.W.Frag):List V->Hp->VK->Prop:=λxs H Q=>∃(p:Addr) (ns:List Int),xs=[.ref p]/\SqT K H p (ns.map V.int)/\0<ns.length/\∀m,m∈ns->(∀x∈ns,m<=x)->Q (.int m) H
theorem cB {its:List Value} {ns:List Int} (hi:IntsAre its ns):∀(i:Nat) (v:Value),its.toArray[i]? =some v->∃t,v= .int ((λi=>ns.getD i 0) i) t:=λi v hv=>PyProof.Rows.IntsAre.int_at hi i v (by simpa using hv)
theorem DH (hc:X.calm=true):Wb X (.builtin "min") (rMinT X.K):=by
 intro pins s σ H xs us Q I r h;obtain ⟨p,ns,rfl,hq,Ma,q⟩:=h;obtain ⟨u,rfl,rx⟩:=UI r;cases rx;obtain ⟨its,rv,ht,hz⟩:=I.tuple hq;have hi:=WV rv;have hl:=hi.length;have below:p≠s.heap.objs.size:=let ⟨_,e,_⟩:=ht;QM (Qt e)
 refine call_min_walk (jan ht ⟨_,_,_,_,_,_,_,rfl,Walks.tuple (A:=X.A.in1) (I.ok.hd hc) _ p below its.toArray,⟨⟨_,Qu _ rfl,rfl,rfl⟩,ht.push _⟩,λb hb=>?_,by simpa using (by omega:0<its.length),CmpOf.ints_lt (λi=>ns.getD i 0) (cB hi),λv h' tk hP hk=>?_⟩)
 ·rw [QU]
  rcases Ql.mp hb with z|z
  ·rw [z];exact Th _
  ·rw [Qq.mp z];obtain ⟨_,e,_⟩:=ht;exact TM (Qt e)
 ·obtain ⟨t,rfl⟩:=cB hi _ v hP;obtain ⟨h1,h2⟩:=argBest_lt (λi=>ns.getD i 0) (its.toArray.size - 1);have szn:its.toArray.size=ns.length:=by simpa using hl
  rw [szn] at h1 h2;rw [szn];refine ⟨.int _,H,I.kept (t':=tk) λb o e=>hk b o (λz=>?_) (Qh _ e),⟨t,rfl⟩,q _ ?_ λx hx=>?_⟩
  ·rw [Qq.mp z] at e;exact absurd (Qt e) (jaw _)
  ·dsimp only;rw [Qo,Qc (by omega)];exact Te _
  ·obtain ⟨j,hj,rfl⟩:=jah hx;have:=h2 j (by omega);rwa [show ns.getD j 0=ns[j] by rw [Qo,Qc hj];rfl] at this
end
theorem bz {m:Nat} {k a b c:zg} (Mw:a.1<b.1) (lk:k.2.length=m) (la:a.2.length=m) (h1:zN k a b) (h2:zN a b c):zN k b c:=λi K B C hK hB hC=>by
 have hi:i<m:=by rw [<-lk];exact (Qf.mp hK).1
 have hA:=Qc (l:=a.2) (i:=i) (by omega);have e1:=h1 i K _ B hK hA hB;have e2:=h2 i _ B C hA hB hC;generalize a.2[i]=A at*;have e3:(B - K)*(b.1 - a.1)=(B - A)*(b.1 - k.1):=by grind
 have e4:(C - K)*(b.1 - a.1)=(B - A)*(c.1 - k.1):=by grind
 have e5:((B - K)*(c.1 - k.1) - (C - K)*(b.1 - k.1))*(b.1 - a.1)=0:=by
  have:((B - K)*(c.1 - k.1) - (C - K)*(b.1 - k.1))*(b.1 - a.1)=((B - K)*(b.1 - a.1))*(c.1 - k.1) - ((C - K)*(b.1 - a.1))*(b.1 - k.1):=by grind
  rw [this,e3,e4];grind
 have:=zJ e5 (xC Mw)
 grind
theorem cD {m:Nat} {c d:zg} {e:Rat} (lc:c.2.length=m) (ld:d.2.length=m):(Yg c d e).length=m:=by
 unfold Yg;rw [QE,lc,ld];exact jaF _
theorem qN {m:Nat} {a b c:zg} {r:List zg} {e:Rat} (Mw:a.1<b.1) (MI:b.1<c.1) (la:a.2.length=m) (lb:b.2.length=m) (lc:c.2.length=m) (st:zN a b c) (PZ:a.1<=e):zh (a::b::c::r) e=zh (a::c::r) e:=by
 have hac:=yW Mw MI
 by_cases h1:e<b.1
 ·rw [zh,QH h1,zh,QH (yW h1 MI)];refine (fG hac (by rw [la,lc]) (by rw [la,cD la lb]) λi p q z hp hq hz=>?_).symm;obtain ⟨p',b',ML,Mu,ez⟩:=Zc hz;rw [hp] at ML;cases ML;have l1:=yB (x:=p) (y:=b') (E:=e) Mw;rw [<-ez] at l1;have s:=st i p b' q hp Mu hq
  have:((z - p)*(c.1 - a.1) - (q - p)*(e - a.1))*(b.1 - a.1)=0:=by
   have:((z - p)*(c.1 - a.1) - (q - p)*(e - a.1))*(b.1 - a.1)=((z - p)*(b.1 - a.1))*(c.1 - a.1) - ((q - p)*(b.1 - a.1))*(e - a.1):=by grind
   rw [this,l1,<-s];grind
  have:=zJ this (xC Mw)
  grind
 ·rw [zB (QX.mp h1)]
  by_cases h2:e<c.1
  ·rw [zh,QH h2,zh,QH h2];refine (fG hac (by rw [la,lc]) (by rw [la,cD lb lc]) λi p q z hp hq hz=>?_).symm;obtain ⟨b',q',Mu,Nc,ez⟩:=Zc hz;rw [hq] at Nc;cases Nc;have l1:=yB (x:=b') (y:=q) (E:=e) MI;rw [<-ez] at l1;have s:=st i p b' q hp Mu hq;have s1:(b' - p)*(c.1 - b.1)=(q - b')*(b.1 - a.1):=by grind
   have:((z - p)*(c.1 - a.1) - (q - p)*(e - a.1))*(c.1 - b.1)=0:=by
    have k1:(z - p)*(c.1 - b.1)=(e - b.1)*(q - b')+(b' - p)*(c.1 - b.1):=by grind
    have k2:((z - p)*(c.1 - a.1) - (q - p)*(e - a.1))*(c.1 - b.1)=((z - p)*(c.1 - b.1))*(c.1 - a.1) - (q - p)*(e - a.1)*(c.1 - b.1):=by grind
    rw [k2,k1,s1]
    grind
   have:=zJ this (xC MI)
   grind
  ·rw [zB (QX.mp h2),zB (QX.mp h2)]
theorem ay {m:Nat} {e:Rat}:∀(r:List zg) (k a b:zg),yl (k::b::r)->(∀x∈k::b::r,x.2.length=m)->k.1<=e->(a=k\/(k.1<a.1/\a.1<b.1/\a.2.length=m/\zN k a b))->
 zh (k::yb a (b::r)) e=zh (k::b::r) e
 |[],k,a,b,_,_,_,_=>by rw [yb]
 |c::r,k,a,b,hr,hl,hk,ha=>by
  obtain ⟨h1,h2⟩:=Qk.mp hr;obtain ⟨h3,h4⟩:=Qk.mp h2;have OC:=h1 b (Qb ..);have MI:=h3 c (Qb ..);have lk:=hl k (Qb ..);have lb:=hl b (Qd _ (Qb ..));have lc:=hl c (Qd _ (Qd _ (Qb ..)));rw [yb]
  split
  ·rename_i st
   have Ml:zN k b c:=by
    rcases ha with rfl|⟨_,Mw,la,s0⟩
    ·exact st
    ·exact bz Mw lk la s0 st
   have rk:yl (k::c::r):=Qk.mpr ⟨λx hx=>h1 x (Qd _ hx),h4⟩
   rw [ay r k b c rk (λx hx=>hl x (by
    rcases Ql.mp hx with rfl|hx
    ·exact Qb ..
    ·exact Qd _ (Qd _ hx))) hk (.inr ⟨OC,MI,lb,Ml⟩),qN OC MI lk lb lc Ml hk]
  ·by_cases h5:e<b.1
   ·rw [zh,QH h5,zh,QH h5]
   ·rw [zB (QX.mp h5),zB (QX.mp h5)];exact ay r b b c h2 (λx hx=>hl x (Qd _ hx)) (QX.mp h5) (.inl rfl)
theorem lh {m:Nat} {e:Rat} {c:zg} {r:List zg} (hr:yl (c::r)) (hl:∀x∈c::r,x.2.length=m) (hc:c.1<=e):zh (yg (c::r)) e=zh (c::r) e:=by
 rw [yg]
 cases r with
 |nil=>rw [yb]
 |cons b r=>exact ay r c c b hr hl hc (.inl rfl)
theorem Wy {e:Rat} {M:List zg}:∀{c:zg} {r:List zg},c.1<=e->e<(lastC (c::r)).1->zh (c::r++M) e=zh (c::r) e
 |c,[],hc,he=>absurd he (QX.mpr hc)
 |c,d::r,hc,he=>by
  rw [Ts,Ts,zh,zh]
  by_cases h:e<d.1
  ·rw [QH h,QH h]
  ·rw [QP h,QP h];rw [yL] at he;exact Wy (c:=d) (r:=r) (QX.mp h) he
theorem ZD {e:Rat} {M:List zg}:∀{c:zg} {r:List zg},yl (c::r)->(lastC (c::r)).1<=e->zh (c::r++M) e=zh (lastC (c::r)::M) e
 |c,[],_,_=>rfl
 |c,d::r,hr,he=>by
  have h2:=(Qk.mp hr).2;rw [yL] at he⊢
  have hd:d.1<=e:=by
   refine Tw ?_ he
   have m:lastC (d::r)∈d::r:=by
    unfold lastC;rw [QW (by simp)];exact List.getLast_mem _
   rcases Ql.mp m with z|z
   ·rw [z];exact QL
   ·exact QJ ((Qk.mp h2).1 _ z)
  rw [Ts,Ts,zB hd];exact ZD h2 he
theorem DK {m:Nat} {c q d:zg} {e:Rat} (lc:c.2.length=m) (lq:q.2.length=m) (ld:d.2.length=m):Yg (Vh c q) (Vh c d) e=List.zipWith (·+·) c.2 (Yg q d (e - c.1)):=by
 have et:(e - (Vh c q).1) / ((Vh c d).1 - (Vh c q).1)=(e - c.1 - q.1) / (d.1 - q.1):=by
  show (e - (c.1+q.1)) / ((c.1+d.1) - (c.1+q.1))=_;rw [show e - (c.1+q.1)=e - c.1 - q.1 by grind,show c.1+d.1 - (c.1+q.1)=d.1 - q.1 by grind]
 unfold Yg;rw [et];generalize (e - c.1 - q.1) / (d.1 - q.1)=t;show List.zipWith (Zr t) (List.zipWith (·+·) c.2 q.2) (List.zipWith (·+·) c.2 d.2)=_
 apply jat
 ·simp only [QE];omega
 ·intro i h1 h2;simp only [Tn];unfold Zr
  grind
theorem dX {m:Nat} {c:zg} {e:Rat} (lc:c.2.length=m):∀{q:zg} {r:List zg},(∀x∈q::r,x.2.length=m)->zh ((q::r).map (Vh c)) e=List.zipWith (·+·) c.2 (zh (q::r) (e - c.1))
 |q,[],_=>rfl
 |q,d::r,h=>by
  rw [Qn,Qn,zh,zh]
  have hd:e<(Vh c d).1↔e - c.1<d.1:=by
   show e<c.1+d.1↔_
   constructor<;>intro h<;>grind
  by_cases h1:e - c.1<d.1
  ·rw [QH h1,QH (hd.mpr h1)];exact DK lc (h q (Qb ..)) (h d (Qd _ (Qb ..)))
  ·rw [QP h1,QP λz=>h1 (hd.mp z)];have:=dX (e:=e) lc (q:=d) (r:=r) λx hx=>h x (Qd _ hx);rw [Qn] at this;exact this
def mn (a l:Rat):Rat:=if a<=l then a else l
theorem dW {m:Nat} {e:Rat}:∀{c:zg} {r:List zg},yl (c::r)->(∀x∈c::r,x.2.length=m/\zX x.2=x.1)->c.1<=e->e<=(lastC (c::r)).1->zX (zh (c::r) e)=e
 |c,[],_,h,hc,hl=>by
  have e1:e=c.1:=jaH hl hc;rw [e1];exact (h c (Qb ..)).2
 |c,d::r,hr,h,hc,hl=>by
  have LW:=(Qk.mp hr).1 d (Qb ..);have LX:=h c (Qb ..);have MG:=h d (Qd _ (Qb ..))
  by_cases hd:d.1<=e
  ·rw [zB hd];exact dW (Qk.mp hr).2 (λx hx=>h x (Qd _ hx)) hd (by rw [<-yL c];exact hl)
  ·have NN:e<d.1:=jaA.mp hd;rw [zh,QH NN];unfold Yg;rw [jD _ _ _ (by rw [LX.1,MG.1]),LX.2,MG.2];have l1:=yB (x:=c.1) (y:=d.1) (E:=e) LW;have:=zJ (a:=Zr ((e - c.1) / (d.1 - c.1)) c.1 d.1 - e) (b:=d.1 - c.1) (by grind) (xC LW)
   grind
theorem dY {c:zg} {r:List zg} {e:Rat} (hr:yl (c::r)) (he:(lastC (c::r)).1<=e):zh (c::r) e=(lastC (c::r)).2:=by
 have:=ZD (M:=[]) hr he;rw [jaC] at this;rw [this];rfl
def yp (h:List Int):zg:=((h.sum:Int),h.map λ(x:Int)=>(x:Rat))
theorem cU:∀h:List Int,zX (h.map λ(x:Int)=>(x:Rat))=((h.sum:Int):Rat)
 |[]=>rfl
 |x::h=>by rw [Qn,zX,cU h,QN,Rat.intCast_add]
theorem UK {f g:Int->Int}:∀{as:List Int},(∀a∈as,f a<=g a)->(as.map f).sum<=(as.map g).sum
 |[],_=>jbT _
 |a::as,h=>by
  have ih:=UK λx hx=>h x (Qd _ hx);have:=h a (Qb ..);rw [Qn,Qn,QN,QN];omega
theorem UJ {f g:Int->Int}:∀{as:List Int} {b:Int},(∀a∈as,f a<=g a)->b∈as->f b<g b->(as.map f).sum<(as.map g).sum
 |[],b,_,hb,_=>by simp at hb
 |a::as,b,h,hb,LS=>by
  rw [Qn,Qn,QN,QN];have ha:=h a (Qb ..)
  rcases Ql.mp hb with rfl|hb
  ·have:=UK λx hx=>h x (Qd _ hx);omega
  ·have:=UJ (λx hx=>h x (Qd _ hx)) hb LS;omega
structure LvOk (as ls:List Int):Prop where
 rise:ls.Pairwise (·<·)
 mem:∀k,k∈ls↔k=0\/k∈as
 nn:∀a∈as,0<=a
def Vi (as:List Int) (l:Int):List Int:=as.map λa=>min a l
def Uw (as:List Int) (l:Int):List Int:=as.map λa=>a - min a l
def evP (as ls:List Int):List zg:=ls.map λl=>yp (Vi as l)
def loP (as ls:List Int):List zg:=ls.reverse.map λl=>yp (Uw as l)
section
variable {as ls:List Int}
theorem LvOk.nnL (h:LvOk as ls):∀l∈ls,0<=l:=λl hl=>by
 rcases (h.mem l).mp hl with rfl|z
 ·exact jbT _
 ·exact h.nn l z
theorem LvOk.zero (h:LvOk as ls):ls[0]? =some 0:=by
 have m0:(0:Int)∈ls:=(h.mem 0).mpr (.inl rfl)
 cases ls with
 |nil=>simp at m0
 |cons a l=>
  have ha:=h.nnL a (Qb ..)
  rcases Ql.mp m0 with e|e
  ·rw [e];rfl
  ·have:=(Qk.mp h.rise).1 0 e;omega
theorem LvOk.sumlt (h:LvOk as ls) {l l':Int} (hl:l∈ls) (Ms:l'∈ls) (lt:l<l'):(Vi as l).sum<(Vi as l').sum:=by
 have m:l'∈as:=((h.mem l').mp Ms).resolve_left (by have:=h.nnL l hl;omega);exact UJ (λa _=>by omega) m (by omega)
theorem tU:∀(as:List Int) (l:Int),(Uw as l).sum=as.sum - (Vi as l).sum
 |[],_=>rfl
 |a::as,l=>by
  have:=tU as l;unfold Uw Vi at*;rw [Qn,Qn,QN,QN,QN,this];omega
theorem LvOk.riseE (h:LvOk as ls):yl (evP as ls):=by
 unfold yl evP;rw [Tb];exact h.rise.imp_of_mem λ{a b} ha hb lt=>jbL.mpr (h.sumlt ha hb lt)
theorem LvOk.top (h:LvOk as ls):∃t,ls.getLast? =some t/\∀a∈as,a<=t:=by
 have ne:ls≠[]:=λe=>by have:=h.zero;rw [e] at this;simp at this
 refine ⟨_,QW ne,λa ha=>?_⟩;have m:=(h.mem a).mpr (.inr ha);rw [<-jac ne] at m;have R:=h.rise;rw [<-jac ne] at R
 rcases QT.mp m with z|z
 ·exact jbO ((Tx.mp R).2.2 a z _ (by simp))
 ·rw [Qq.mp z];exact jbT _
theorem JL {t:Int} (h:∀a∈as,a<=t):Vi as t=as:=by
 unfold Vi
 conv=>rhs;rw [<-List.map_id as]
 exact TR λa ha=>by show min a t=a;have:=h a ha;omega
theorem FJ (h:∀a∈as,0<=a):Vi as 0=XW as.length:=by
 unfold Vi XW;rw [<-jbr];exact TR λa ha=>by have:=h a ha;omega
end
section
variable {as ls:List Int}
theorem Ds (h:LvOk as ls):∃r,evP as ls=yp (XW as.length)::r:=by
 have z:=h.zero
 cases ls with
 |nil=>simp at z
 |cons a l=>
  have:a=0:=by simpa using z
  subst this;exact ⟨_,by unfold evP;rw [Qn,FJ h.nn]⟩
theorem uj (h:LvOk as ls):lastC (evP as ls)=yp as:=by
 obtain ⟨t,ht,top⟩:=h.top;unfold lastC evP;rw [jav,ht];show yp (Vi as t)=_;rw [JL top]
theorem uT:∀(as:List Int) (l:Int),VA (yp as) (yp (Vi as l))=yp (Uw as l):=λas l=>by
 unfold VA yp;refine Prod.ext ?_ ?_
 ·show ((as.sum:Int):Rat) - ((Vi as l).sum:Int)=((Uw as l).sum:Int);rw [tU,jbb]
 ·show List.zipWith (· - ·) (as.map λ(x:Int)=>(x:Rat)) ((Vi as l).map λ(x:Int)=>(x:Rat))=(Uw as l).map λ(x:Int)=>(x:Rat);unfold Vi Uw
  apply jat
  ·simp
  ·intro i h1 h2;simp only [Tn,List.getElem_map];rw [jbb]
theorem cQ (h:LvOk as ls):yj (evP as ls)=loP as ls:=by
 unfold yj;rw [uj h];unfold evP loP;rw [<-List.map_reverse,QR];exact TR λl _=>uT as l
theorem loP_ne (h:LvOk as ls):∃r,loP as ls=yp (XW as.length)::r:=by
 obtain ⟨t,ht,top⟩:=h.top;have ne:ls≠[]:=λe=>by rw [e] at ht;simp at ht
 obtain ⟨ini,ei⟩:=List.getLast?_eq_some_iff.mp ht;refine ⟨ini.reverse.map λl=>yp (Uw as l),?_⟩;unfold loP;rw [ei,List.reverse_append,List.reverse_singleton,List.singleton_append,Qn]
 congr 2
 unfold Uw XW;rw [<-jbr];exact TR λa ha=>by have:=top a ha;omega
theorem VV (h:List Int):(yp h).2.length=h.length/\zX (yp h).2=(yp h).1:=⟨Qa _,cU h⟩
theorem ui (as ls:List Int):∀c∈evP as ls,c.2.length=as.length/\zX c.2=c.1:=λc hc=>by
 obtain ⟨l,_,rfl⟩:=Qj.mp hc;have:=VV (Vi as l);rwa [show (Vi as l).length=as.length by unfold Vi;rw [Qa]] at this
theorem CI (as ls:List Int):∀c∈loP as ls,c.2.length=as.length/\zX c.2=c.1:=λc hc=>by
 obtain ⟨l,_,rfl⟩:=Qj.mp hc;have:=VV (Uw as l);rwa [show (Uw as l).length=as.length by unfold Uw;rw [Qa]] at this
theorem cO (m:Nat):yp (XW m)=(0,List.replicate m 0):=by
 unfold yp;rw [Ag];unfold XW;rw [jbl];rfl
theorem EG {P:List zg} {m:Nat} {e:Rat} (r:List zg) (hP:P=(0,List.replicate m 0)::r) (rise:yl P) (ok:∀c∈P,c.2.length=m/\zX c.2=c.1) (h0:0<=e):zX (zh P e)=mn e (lastC P).1:=by
 subst hP;unfold mn
 split
 ·exact dW rise ok h0 (by assumption)
 ·rename_i z;have hl:=jaA.mp z;rw [dY rise (QJ hl)]
  have m:lastC ((0,List.replicate m 0)::r)∈((0:Rat),List.replicate m (0:Rat))::r:=by
   unfold lastC;rw [QW (by simp)];exact List.getLast_mem _
  exact (ok _ m).2
def hfA (as ls:List Int):List zg:=zP (1 / 2) (evP as ls)
def hfB (as ls:List Int):List zg:=zP (1 / 2) (loP as ls)
theorem tY:(0:Rat)<1 / 2:=by decide+kernel
theorem qh {a:List zg} {p:Rat} (hp:0<p) (h:yl a):yl (zP p a):=by
 unfold yl zP;rw [Tb];exact h.imp λ{x y} lt=>Rat.mul_lt_mul_of_pos_right lt hp
theorem hf_len (as ls:List Int):∀x∈hfA as ls++yx (hfA as ls) (hfB as ls),lastC (hfA as ls)∈hfA as ls->x.2.length=as.length:=λx hx hm=>by
 have lA:∀x∈hfA as ls,x.2.length=as.length:=λx hx=>by
  obtain ⟨c,hc,rfl⟩:=Qj.mp hx;rw [Qa];exact (ui as ls c hc).1
 rcases QT.mp hx with z|z
 ·exact lA x z
 ·obtain ⟨d,hd,rfl⟩:=Qj.mp z
  have ld:d.2.length=as.length:=by
   have:=Tz hd;obtain ⟨c,hc,rfl⟩:=Qj.mp this;rw [Qa];exact (CI as ls c hc).1
  show (List.zipWith _ _ _).length=_;rw [QE,lA _ hm,ld];exact jaF _
theorem rD (h:LvOk as ls):lastC (hfA as ls)∈hfA as ls:=by
 obtain ⟨r,er⟩:=Ds h;have ne:hfA as ls≠[]:=by unfold hfA zP;rw [er];simp
 unfold lastC;rw [QW ne];exact List.getLast_mem _
def hvP (as ls:List Int):List zg:=hfA as ls++yx (hfA as ls) (hfB as ls)
theorem WO (p:Rat):∀l:List Rat,zX (l.map (·*p))=zX l*p
 |[]=>by rw [jao,zX,jbE]
 |x::l=>by rw [Qn,zX,zX,WO p l];grind
theorem jC:∀{x y:List Rat},x.length=y.length->zX (List.zipWith (·+·) x y)=zX x+zX y
 |[],[],_=>by rw [List.zipWith_nil_left,zX];grind
 |a::x,b::y,h=>by rw [jaa,zX,zX,zX,jC (by simpa using h)];grind
 |[],_::_,h=>by simp at h
 |_::_,[],h=>by simp at h
theorem HW (as ls:List Int):∀c∈hfA as ls,c.2.length=as.length/\zX c.2=c.1:=λc hc=>by
 obtain ⟨d,hd,rfl⟩:=Qj.mp hc;have:=ui as ls d hd;exact ⟨by rw [Qa];exact this.1,by rw [WO,this.2]⟩
theorem hfB_ok (as ls:List Int):∀c∈hfB as ls,c.2.length=as.length/\zX c.2=c.1:=λc hc=>by
 obtain ⟨d,hd,rfl⟩:=Qj.mp hc;have:=CI as ls d hd;exact ⟨by rw [Qa];exact this.1,by rw [WO,this.2]⟩
theorem hv_ok (h:LvOk as ls):∀c∈hvP as ls,c.2.length=as.length/\zX c.2=c.1:=λc hc=>by
 refine ⟨hf_len as ls c hc (rD h),?_⟩
 rcases QT.mp hc with z|z
 ·exact (HW as ls c z).2
 ·obtain ⟨d,hd,rfl⟩:=Qj.mp z;have a:=HW as ls _ (rD h);have b:=hfB_ok as ls d (Tz hd);show zX (List.zipWith (·+·) _ _)=_+_;rw [jC (by rw [a.1,b.1]),a.2,b.2]
def shP (as:List Int):List zg:=if as.sum=0 then [yp (XW as.length)] else [yp (XW as.length),yp as]
theorem jA:∀n:Nat,(List.replicate n (0:Int)).sum=0
 |0=>rfl
 |n+1=>by rw [Td,QN,jA n];rfl
theorem cR {as:List Int} (h:∀a∈as,0<=a):0<=as.sum:=by
 have:=UK (f:=λ_=>0) (g:=id) (as:=as) λa ha=>h a ha;rw [List.map_id,jbr,jA] at this
 simpa using this
theorem EF {as:List Int} (h:∀a∈as,0<=a) (z:as.sum=0):∀a∈as,a=0:=λa ha=>by
 rcases Int.lt_or_eq_of_le (h a ha) with lt|e
 ·have:=UJ (f:=λ_=>0) (g:=id) (as:=as) (λa ha=>h a ha) ha lt;rw [List.map_id,jbr,jA,z] at this;simp at this
 ·exact e.symm
end
section
variable {as tk:List Int} {B:Int} {f:Rat->Rat} {z:Rat}
theorem rS {a b:Int} (h:(a:Rat)<=(b:Rat)):a<=b:=jax.mp h
theorem rR {a b:Int} (h:a<b):(a:Rat)<(b:Rat):=jbL.mpr h
theorem rQ {a:Int} (h:0<=a):(0:Rat)<=(a:Rat):=by have:=jax.mpr h;exact this
theorem Ux {a:Int} (h:0<a):(0:Rat)<(a:Rat):=by have:=jbL.mpr h;exact this
theorem Uq {x y b:Rat} (h:x<=y) (hb:0<=b):x*b<=y*b:=by
 have:=jbz (show 0<=y - x by grind) hb
 grind
noncomputable def Kc (as ls:List Int):Nat->List zg
 |0=>shP as
 |1=>evP as ls
 |2=>loP as ls
 |_=>yg (hvP as ls)
end
structure Bl3 (mg:Str->Option Value):Prop where
 sorted:mg "sorted"=none
 set:mg "set"=none
section
variable {X:Cx} {e o:Expr} {es:List Expr} {ta:TE} {t:TA}
def HA (K:PySem.W.Frag) (m:Str) (f:Addr) (sp:Sp) (E:XK) (ta:TE) (t:TA):TE:=λσ H Q=>ta σ H λx H1=>∃a C dx fs,x= .ref a/\H1 a=some (.ins C dx fs)/\Cls K C/\Meth K C m f/\fs.lookup m=none/\t σ H1 λvs H2=>sp (x::vs) H2 Q E
theorem pe_methB {CX:CXT} {k:Nat} {f:Addr} {fd:FuncData} {ps:List Str} {sp:Sp} {E:XK} {m:Str} {apos pos:Pos} {pl:Sem Bool} (he:PE X o ta) (F:FnOk X.prog X.w X.K X.mg X.base CX k f fd ps sp) (hr:Room k X.A) (hb:yD X.K fd ps []) (hx:WK CX X E) (ha:PA X (e::es) t)
 (Mh:starEach (e::es) X.env=(false,eval e X.env)::starEach es X.env:=by rfl) (Mm:(backTo pos (starEach es X.env)).any (·.1)=false:=by rfl)
 (ht:eval (.Call (.Attribute o m apos) (e::es) [] pos) X.env=(do
  let ov<-eval o X.env
  standAt apos.atName
  let (f,first)<-holding [ov] (getMethod ov m pl)
  callWith pos f first (backTo pos (starEach (e::es) X.env)) (backToKw pos (keywordEach [] X.env))):=by rfl):
 PE X (.Call (.Attribute o m apos) (e::es) [] pos) (HA X.K m f sp E ta t):=by
 intro pins s σ H Q I h;refine PySem.W.methodCall_KW (pl:=pl) (thn (he pins s σ H _ I h) λu s1 hh=>?_) ht;obtain ⟨x,H1,I1,rx,a,C,dx,fs,ex,ea,c,hm,l,q⟩:=hh;subst ex;obtain rfl:u=Value.ref a:=rx;refine aA I1 ea c hm l ?_;refine jbk (first:=[.ref a]) (h₀:=X.base) I.ok.mod.kin hm.kp (thn (ha pos pins s1 σ H1 _ I1 q) λus s2 ⟨vs,H2,I2,r,q2⟩=>⟨I2.kIn,?_⟩) Mh Mm;exact nr (us:= .ref a::us) (vs:= .ref a::vs) F hr hb .nil hx I2 (.cons rfl r) (by rw [jaC];exact q2)
end
section
variable {B G0 H:Hp} {cs:yk} {ds:Dat} {Q:VK} {E:XK} {v w u:V} {K:PySem.W.Frag} {C L:Addr} {x:PyData} {σ:L2.St}
def kMB (K:PySem.W.Frag) (m:Str) (f:Addr) (sp:Sp) (E:XK) (t:TA) (σ:L2.St) (Q:VK):VK:=λx H1=>∃a C dx fs,x= .ref a/\H1 a=some (.ins C dx fs)/\Cls K C/\Meth K C m f/\fs.lookup m=none/\t σ H1 λvs H2=>sp (x::vs) H2 Q E
theorem rd_methB {m:Str} {f:Addr} {sp:Sp} {ta:TE} {t:TA} (h:ta σ H (kMB K m f sp E t σ Q)):HA K m f sp E ta t σ H Q:=h
theorem nM {m:Str} {f:Addr} {sp:Sp} {t:TA} (S:Sta B G0 H cs ds) (h:Has ds (Gw C x) v) (cl:Cls K C) (me:Meth K C m f) (hm:(m==("form":Str))=false) (k:t σ H λvs H2=>sp (v::vs) H2 Q E):kMB K m f sp E t σ Q v H:=by
 obtain ⟨p,dx,w,rfl,hp,S'⟩:=S.ins h;exact ⟨p,C,dx,_,rfl,hp,cl,me,by rw [jaJ,hm];rfl,k⟩
def HV (K:PySem.W.Frag) (Q:VK):VK:=λx H1=>BK K x H1 Q
theorem rd_sortS {te:TE} (h:te σ H (HV K Q)):Hz K te σ H Q:=h
theorem dM {ns:List Int} (S:Sta B G0 H cs ds) (h:(L,ns.map PyData.int)∈cs) (few:ns.length<60) (k:∀(os:List Int) (l:Addr) (H':Hp),os.Pairwise (·<·)->(∀z,z∈os↔z∈ns)->zL H H'->Sta B G0 H' ((l,os.map PyData.int)::cs) ds->Q (.ref l) H'):HV K Q (.ref L) H:=by
 obtain ⟨vs,hp,u⟩:=S.vwC h;obtain ⟨G,S'⟩:=id S;rw [yM (u G S')] at hp;exact ⟨L,ns,rfl,SqL.of hp,few,λos l h1 h2 hl=>k os l _ h1 h2 (zL.new hl _) (S.newL hl λG _=>ZL os)⟩
theorem Jf {ns:List Int} (S:Sta B G0 H cs ds) (h:Has ds (.tuple (ns.map PyData.int)) v) (hn:0<ns.length) (k:∀m,m∈ns->(∀x∈ns,m<=x)->Q (.int m) H):rMinT K [v] H Q:=by
 obtain ⟨p,vs,rfl,hp,hl,S',al⟩:=S.tupAll h;obtain ⟨G,S2⟩:=id S';rw [yM (al G S2.2.2.2.2.2.2)] at hp;exact ⟨p,ns,rfl,SqT.of hp,hn,k⟩
theorem qA {α:Type} (a:α):∀n:Nat,(List.replicate n [a]).flatten=List.replicate n a
 |0=>rfl
 |n+1=>by rw [Td,TL,qA a n];rfl
theorem Je {i:Int} {n:Nat} (S:Sta B G0 H cs ds) (h:(L,[PyData.int i])∈cs) (hn:n<=1000) (k:∀l H',zL H H'->Sta B G0 H' ((l,(List.replicate n i).map PyData.int)::cs) ds->Q (.ref l) H'):rRep (.ref L) (.int (n:Int)) H Q:=by
 obtain ⟨vs,hp,u⟩:=S.vwC h;obtain ⟨G,S'⟩:=id S;have e:=yM (ns:=[i]) (u G S');subst e;refine ⟨L,(n:Int),_,rfl,rfl,hp,by omega,by omega,?_,λp ML=>?_⟩
 ·show 1*n<=sizeLine;have:1000<=sizeLine:=by decide
  omega
 ·rw [TV];show Q (.ref p) (upd H p (.lst (List.replicate n [V.int i]).flatten));rw [qA];refine k p _ (zL.new ML _) ?_;have:=S.newL (vs:=(List.replicate n i).map V.int) ML λG _=>ZL (List.replicate n i);rw [jbl] at this;rw [jbl] at this⊢;exact this
end
abbrev Cl:=Int×Int×Int
def yc (c:Cl):PyData:= .tuple [.int c.1, .int c.2.1, .int c.2.2]
def zA (l:List Cl):PyData:= .list (l.map yc)
def amV (l:List Cl):List Int:=l.map λc=>c.1
structure ClOk (n:Nat) (l:List Cl):Prop where
 pos:0<l.length
 few:l.length<=8
 nn:∀c∈l,0<=c.1/\0<=c.2.1/\0<=c.2.2
 sz:∀c∈l,Sz n c.1
theorem xm (l:List Cl):(amV l).length=l.length:=Qa _
theorem hU:∀as:List Int,∃ls:List Int,ls.Pairwise (·<·)/\∀k,k∈ls↔k∈as
 |[]=>⟨[],List.Pairwise.nil,λ_=>Iff.rfl⟩
 |a::as=>by
  obtain ⟨ls,h1,h2⟩:=hU as;refine ⟨ls.filter (·<a)++a::ls.filter (a<·),?_,λk=>?_⟩
  ·refine Tx.mpr ⟨h1.filter _,Qk.mpr ⟨λy hy=>?_,h1.filter _⟩,λx hx y hy=>?_⟩
   ·simpa using (Tu.mp hy).2
   ·have hxa:x<a:=by simpa using (Tu.mp hx).2
    rcases Ql.mp hy with rfl|hy
    ·exact hxa
    ·have:a<y:=by simpa using (Tu.mp hy).2
     omega
  ·rw [QT,Ql,Tu,Tu,Ql,h2];simp only [decide_eq_true_eq]
   constructor
   ·rintro (⟨h,_⟩|h|⟨h,_⟩)
    ·exact .inr h
    ·exact .inl h
    ·exact .inr h
   ·rintro (h|h)
    ·exact .inr (.inl h)
    ·rcases Int.lt_trichotomy k a with c|c|c
     ·exact .inl ⟨h,c⟩
     ·exact .inr (.inl c)
     ·exact .inr (.inr ⟨h,c⟩)
theorem Wi:∀{x y:List Int},x.Pairwise (·<·)->y.Pairwise (·<·)->(∀k,k∈x↔k∈y)->x=y
 |[],[],_,_,_=>rfl
 |[],b::y,_,_,h=>absurd ((h b).mpr (Qb ..)) Qv
 |a::x,[],_,_,h=>absurd ((h a).mp (Qb ..)) Qv
 |a::x,b::y,h1,h2,h=>by
  obtain ⟨a1,a2⟩:=Qk.mp h1;obtain ⟨b1,b2⟩:=Qk.mp h2
  have e:a=b:=by
   rcases Ql.mp ((h a).mp (Qb ..)) with e|e
   ·exact e
   ·rcases Ql.mp ((h b).mpr (Qb ..)) with e'|e'
    ·exact e'.symm
    ·have:=b1 a e;have:=a1 b e';omega
  subst e;rw [Wi a2 b2 λk=>?_];have hk:=h k;rw [Ql,Ql] at hk
  constructor
  ·intro m
   rcases hk.mp (.inr m) with e|e
   ·subst e;exact absurd (a1 k m) (Int.lt_irrefl _)
   ·exact e
  ·intro m
   rcases hk.mpr (.inr m) with e|e
   ·subst e;exact absurd (b1 k m) (Int.lt_irrefl _)
   ·exact e
noncomputable def lvV (as:List Int):List Int:=(hU (0::as)).choose
theorem WB {as:List Int} (nn:∀a∈as,0<=a):LvOk as (lvV as):=
 ⟨(hU (0::as)).choose_spec.1,λk=>by rw [lvV,(hU (0::as)).choose_spec.2 k,Ql],nn⟩
theorem lvV_eq {as os:List Int} (h1:os.Pairwise (·<·)) (h2:∀z,z∈os↔z∈0::as):os=lvV as:=
 Wi h1 (hU (0::as)).choose_spec.1 λk=>by rw [h2,lvV,(hU (0::as)).choose_spec.2 k]
theorem HS:∀{ls as:List Int},ls.Nodup->(∀k∈ls,k∈as)->ls.length<=as.length
 |[],_,_,_=>TH _
 |a::ls,as,nd,h=>by
  obtain ⟨n1,n2⟩:=TK.mp nd;have:=HS (ls:=ls) (as:=as.erase a) n2 λk hk=>(List.mem_erase_of_ne (λ(e:k=a)=>n1 (e▸hk))).mpr (h k (Qd _ hk));have hl:=List.length_erase_of_mem (h a (Qb ..));have:=jaO (h a (Qb ..));rw [Qw];omega
theorem LvOk.few {as ls:List Int} (h:LvOk as ls):ls.length<=as.length+1:=by
 have:=HS (ls:=ls) (as:=0::as) (h.rise.imp λ{a b} (Mw:a<b)=>by omega) λk hk=>by rw [Ql];exact (h.mem k).mp hk
 simpa using this
theorem EE {n:Nat} {x y:Int} (h0:0<=x) (h:x<=y) (z:Sz n y):Sz n x:=by unfold Sz at*;omega
theorem mJ {b:Int} (hb:0<=b):∀{l:List Int},(∀x∈l,0<=x/\x<=b)->0<=l.sum/\l.sum<=l.length*b
 |[],_=>by simp
 |x::l,h=>by
  have h1:=h x (Qb ..);have h2:=mJ hb (l:=l) λy hy=>h y (Qd _ hy);rw [QN,Qw];have e:(((l.length+1:Nat):Int))*b=l.length*b+b:=by rw [Int.natCast_add,Int.add_mul];omega
  omega
def UA (l:List Int):Prop:=l.length<=8/\∀x∈l,0<=x/\Sz 160 x
theorem UA.sum {l:List Int} (h:UA l):0<=l.sum/\Sz 170 l.sum:=by
 have h1:=mJ (b:=2 ^ 160) (by decide) (l:=l) λx hx=>⟨(h.2 x hx).1,by
  have:=(h.2 x hx).2;unfold Sz at this;have:=(h.2 x hx).1
  omega⟩
 refine ⟨h1.1,?_⟩;have l8:=h.1;have:(l.length:Int)*2 ^ 160<=8*2 ^ 160:=Int.mul_le_mul_of_nonneg_right (by omega) (by decide);unfold Sz;have e:(8:Int)*2 ^ 160<2 ^ 170:=by decide+kernel
 omega
theorem sQ {l:List Int} (h:UA l):SzC 170 (yp l):=by
 refine ⟨⟨h.sum.2,by show Sz 170 1;unfold Sz;decide⟩,λq hq=>?_⟩;obtain ⟨x,hx,rfl⟩:=Qj.mp hq;exact ⟨Sz.mono (h.2 x hx).2 (by decide),by show Sz 170 1;unfold Sz;decide⟩
theorem ClOk.am {l:List Cl} (h:ClOk 160 l):UA (amV l):=by
 refine ⟨by rw [xm];exact h.few,λx hx=>?_⟩;obtain ⟨c,hc,rfl⟩:=Qj.mp hx;exact ⟨(h.nn c hc).1,h.sz c hc⟩
theorem UA.min {as:List Int} {l:Int} (h:UA as) (hl:0<=l):UA (Vi as l)/\UA (Uw as l):=by
 refine ⟨⟨by unfold Vi;rw [Qa];exact h.1,λx hx=>?_⟩,⟨by unfold Uw;rw [Qa];exact h.1,λx hx=>?_⟩⟩
 ·obtain ⟨a,ha,rfl⟩:=Qj.mp hx;have:=h.2 a ha;exact ⟨by omega,EE (by omega) (by omega) this.2⟩
 ·obtain ⟨a,ha,rfl⟩:=Qj.mp hx;have:=h.2 a ha;exact ⟨by omega,EE (by omega) (by omega) this.2⟩
section
variable {as ls:List Int}
theorem LvOk.szE (h:LvOk as ls) (i:UA as):∀c∈evP as ls,SzC 170 c:=λc hc=>by
 obtain ⟨l,hl,rfl⟩:=Qj.mp hc;exact sQ (i.min (h.nnL l hl)).1
theorem LvOk.szL (h:LvOk as ls) (i:UA as):∀c∈loP as ls,SzC 170 c:=λc hc=>by
 obtain ⟨l,hl,rfl⟩:=Qj.mp hc;exact sQ (i.min (h.nnL l (jbB.mp hl))).2
theorem LvOk.inE (h:LvOk as ls) (i:UA as):PathIn (evP as ls):=by
 obtain ⟨r,er⟩:=Ds h;have f:=h.few;have i1:=i.1;exact ⟨by rw [er];simp,λc hc=>(h.szE i c hc).mono (by decide),λc hc=>by rw [(ui as ls c hc).1];omega,by unfold evP;rw [Qa];omega⟩
theorem LvOk.inL (h:LvOk as ls) (i:UA as):PathIn (loP as ls):=by
 obtain ⟨r,er⟩:=loP_ne h;have f:=h.few;have i1:=i.1;exact ⟨by rw [er];simp,λc hc=>(h.szL i c hc).mono (by decide),λc hc=>by rw [(CI as ls c hc).1];omega,by unfold loP;rw [Qa,Tj];omega⟩
theorem rE:SzQ 2 ((1:Rat) / 2):=by unfold SzQ Sz;decide+kernel
theorem dq {a:List zg} (h:∀c∈a,SzC 170 c):∀c∈zP (1 / 2) a,SzC 172 c:=λc hc=>by
 obtain ⟨d,hd,rfl⟩:=Qj.mp hc;have:=h d hd;refine ⟨(this.1.mul rE).mono (by decide),λq hq=>?_⟩;obtain ⟨x,hx,rfl⟩:=Qj.mp hq;exact ((this.2 x hx).mul rE).mono (by decide)
theorem mS {a:List zg} (ok:PathIn a) (h:∀c∈a,SzC 170 c):PathIn (zP (1 / 2) a):=by
 refine ⟨λe=>ok.ne (List.map_eq_nil_iff.mp e),λc hc=>(dq h c hc).mono (by decide),λc hc=>?_,by unfold zP;rw [Qa];exact ok.few⟩;obtain ⟨d,hd,rfl⟩:=Qj.mp hc;rw [Qa];exact ok.len d hd
theorem LvOk.szH (h:LvOk as ls) (i:UA as):∀c∈hvP as ls,SzC 400 c:=λc hc=>by
 have sA:=dq (h.szE i);have sB:=dq (h.szL i)
 rcases QT.mp hc with z|z
 ·exact (sA c z).mono (by decide)
 ·obtain ⟨d,hd,rfl⟩:=Qj.mp z;have x:=sA _ (rD h);have y:=sB d (Tz hd);refine ⟨(x.1.add y.1).mono (by decide),λq hq=>?_⟩;obtain ⟨j,hj,e⟩:=jah hq;have Nx:=hj;simp only [Vh,QE] at Nx
  have e2:q=(lastC (hfA as ls)).2[j]'(by omega)+d.2[j]'(by omega):=by
   rw [<-e];simp only [Vh,Tn]
  rw [e2];exact ((x.2 _ (Te _)).add (y.2 _ (Te _))).mono (by decide)
theorem LvOk.okH (h:LvOk as ls) (i:UA as):PathOk as.length (hvP as ls):=by
 have f:=h.few;have i1:=i.1;refine ⟨λc hc=>(h.szH i c hc).mono (by decide),λc hc=>(hv_ok h c hc).1,by omega,?_⟩;unfold hvP hfA hfB yx zP evP loP;simp only [Qy,Qa,jaK,Tj];omega
end
theorem WD:∀(a:zg) (r:List zg),(yb a r).Sublist r
 |a,[]=>by rw [yb];exact jaZ _
 |a,[b]=>by rw [yb];exact jaZ _
 |a,b::c::r=>by
  rw [yb]
  split
  ·exact List.Sublist.cons _ (WD b (c::r))
  ·exact List.Sublist.cons₂ _ (WD b (c::r))
theorem Zs:∀r:List zg,(yg r).Sublist r
 |[]=>jaZ _
 |c::r=>List.Sublist.cons₂ _ (WD c r)
section
variable {as ls:List Int}
end
theorem iteSY {a b:Str} {X Y:Prop} (hc:a=b) (h:X):if decide (a=b)=true then X else Y:=yJ (λ_=>h) λn=>absurd hc n
theorem iteSN {a b:Str} {X Y:Prop} (hc:¬a=b) (h:Y):if decide (a=b)=true then X else Y:=yJ (λy=>absurd y hc) λ_=>h
section
variable {B G0 H:Hp} {cs:yk} {ds:Dat} {Q:VK} {E:XK} {v w u:V} {K:PySem.W.Frag}
def hV:Nat->Rl
 |0=> .shares
 |1=> .evenly
 |2=> .losses
 |_=> .halves
def qf:Sp:=spB (α:=List Cl) (λl=>[zA l]) (ClOk 160) (λ_=> .non)
theorem Fc {l:List Cl} (S:Sta B G0 H cs ds) (h:Has ds (zA l) v) (ok:ClOk 160 l) (k:∀H',zL H H'->Sta B G0 H' cs ds->Q .non H'):qf [v] H Q E:=nB l (S.hpAll (.cons h .nil)) ok λH' e=>k H' e (S.same e)
def spWC:Sp:=spT (α:=List Int) (λl=>[.list (l.map PyData.int)]) (λl=>l.length<=8) (λl=>zu (yp l))
theorem Ja {l:List Int} (S:Sta B G0 H cs ds) (h:Has ds (.list (l.map PyData.int)) v) (ok:l.length<=8) (k:∀w H',zL H H'->Sta B G0 H' cs ((zu (yp l),w)::ds)->Q w H'):spWC [v] H Q E:=Zw l S (.cons h .nil) ok k
def Wh:Sp:=spL (α:=Nat) (λn=>[.int (n:Int)]) (λn=>n<=8) (λn=>[yp (XW n)].map zu)
theorem ag {n:Nat} (S:Sta B G0 H cs ds) (ok:n<=8) (k:∀p H',zL H H'->Sta B G0 H' ((p,[yp (XW n)].map zu)::cs) ds->Q (.ref p) H'):Wh [.int (n:Int)] H Q E:=Zd n S (.cons Has.int .nil) ok k
noncomputable def flV (k:Nat) (l:List Cl):List zg:=Kc (amV l) (lvV (amV l)) k
noncomputable def bB (k:Nat):Sp:=spL (α:=List Cl) (λl=>[zA l]) (ClOk 160) (λl=>(flV k l).map zu)
theorem ai {n:Nat} {l:List Cl} (S:Sta B G0 H cs ds) (h:Has ds (zA l) v) (ok:ClOk 160 l) (k:∀p H',zL H H'->Sta B G0 H' ((p,(flV n l).map zu)::cs) ds->Q (.ref p) H'):bB n [v] H Q E:=Zd l S (.cons h .nil) ok k
theorem ClOk.lv {l:List Cl} (h:ClOk 160 l):LvOk (amV l) (lvV (amV l)):=WB λa ha=>(h.am.2 a ha).1
noncomputable def Xj (p:Rat) (a b:List zg):List zg:=yg (zP p a++yx (zP p a) (zP (1 - p) b))
structure UpOk (p:Rat) (a b:List zg):Prop where
 sz:SzQ 1000 p
 pa:PathIn a
 pb:PathIn b
 sa:PathIn (zP p a)
 sb:PathIn (zP (1 - p) b)
 m:∃m,PathOk m (zP p a++yx (zP p a) (zP (1 - p) b))
noncomputable def AB:Sp:=spL (α:=Rat×List zg×List zg) (λa=>[frD a.1,zE a.2.1,zE a.2.2]) (λa=>UpOk a.1 a.2.1 a.2.2) (λa=>(Xj a.1 a.2.1 a.2.2).map zu)
theorem Bn {p:Rat} {a b:List zg} (S:Sta B G0 H cs ds) (h1:Has ds (frD p) u) (h2:Has ds (zE a) v) (h3:Has ds (zE b) w) (ok:UpOk p a b) (k:∀q H',zL H H'->Sta B G0 H' ((q,(Xj p a b).map zu)::cs) ds->Q (.ref q) H'):AB [u,v,w] H Q E:=Zd (p,a,b) S (.cons h1 (.cons h2 (.cons h3 .nil))) ok k
theorem up_ok {l:List Cl} (h:ClOk 160 l):UpOk (1 / 2) (flV 1 l) (flV 2 l):=by
 have L:=h.lv;have e:(1:Rat) - 1 / 2=1 / 2:=by decide+kernel
 refine ⟨rE.mono (by decide),L.inE h.am,L.inL h.am,mS (L.inE h.am) (L.szE h.am),?_,(amV l).length,?_⟩
 ·rw [e];exact mS (L.inL h.am) (L.szL h.am)
 ·rw [e];exact L.okH h.am
theorem Al (l:List Cl):Xj (1 / 2) (flV 1 l) (flV 2 l)=flV 3 l:=by
 have e:(1:Rat) - 1 / 2=1 / 2:=by decide+kernel
 unfold Xj;rw [e];rfl
end
def kY (n:Int):List Int:=if n % 5=0 then [7,10,2] else if n % 5=1 then [10 ^ 40+5,9,30] else if n % 5=2 then [2024,10 ^ 20,100] else [0,1,2]
theorem CM (n i:Int):∃x,0<=x/\atI ((kY n).map PyData.int) (i % 3)=some (.int x):=by
 have hi:i % 3=0\/i % 3=1\/i % 3=2:=by omega
 unfold kY
 split
 ·rcases hi with h|h|h<;>rw [h]<;>exact ⟨_,by decide,rfl⟩
 ·split
  ·rcases hi with h|h|h<;>rw [h]<;>exact ⟨_,by decide,rfl⟩
  ·split
   ·rcases hi with h|h|h<;>rw [h]<;>exact ⟨_,by decide,rfl⟩
   ·rcases hi with h|h|h<;>rw [h]<;>exact ⟨_,by decide,rfl⟩
section
variable {B G0 H:Hp} {cs:yk} {ds:Dat} {Q:VK} {E:XK} {v w u:V} {K:PySem.W.Frag} {xs ys:List PyData} {R:It->Hp->Prop}
def jP:Sp:=spL (α:=Int) (λn=>[.int n]) (λ_=>True) (λn=>(kY n).map PyData.int)
theorem nL {n:Int} (S:Sta B G0 H cs ds) (k:∀p H',zL H H'->Sta B G0 H' ((p,(kY n).map PyData.int)::cs) ds->Q (.ref p) H'):jP [.int n] H Q E:=Zd n S (.cons Has.int .nil) trivial k
def qb:Sp:=λvs H Q _=>∃(G:Hp) (wh c:Int),vs=[.int wh, .int c]/\zL G H/\(0<=wh/\Sz 180 wh)/\∀v H' G' (e:Rat),Grow G H G' H'->Is G' (frD e) v->0<=e/\SzQ 300 e->Q v H'
theorem EX {wh c:Int} (S:Sta B G0 H cs ds) (hb:0<=wh/\Sz 180 wh) (k:∀v H' (e:Rat),0<=e/\SzQ 300 e->zL H H'->Sta B G0 H' cs ((frD e,v)::ds)->Q v H'):qb [.int wh, .int c] H Q E:=by
 obtain ⟨G,S⟩:=S;refine ⟨G,wh,c,rfl,S.2.1,hb,λv H' G' e gr hv good=>k v H' e good gr.h ?_⟩;obtain ⟨a',b',c',d',e',f',g'⟩:=S.grow gr;exact ⟨G',a',b',c',d',e',f',g'.cons hv⟩
theorem nu {G H':Hp} {e:Rat} (S:Sta H G H' cs ds) (k:∀v H' G' (e:Rat),Grow G H G' H'->Is G' (frD e) v->0<=e/\SzQ 300 e->Q v H') (h:Has ds (frD e) v) (hg:0<=e/\SzQ 300 e):Q v H':=by
 obtain ⟨G',gr,al⟩:=S.leave;exact k v H' G' e gr (h G' al) hg
end
theorem nV {m:Nat} {P:List zg} {j:Nat} {c d:zg} {e:Rat} (hr:yl P) (hl:∀x∈P,x.2.length=m) (hc:P[j]? =some c) (hd:P[j+1]? =some d) (h1:c.1<=e) (h2:e<=d.1):zh P e=Yg c d e:=by
 by_cases lt:e<d.1
 ·have:=Ya (E:=e) hr hc h1 (.inr ⟨d,hd,lt⟩);rw [hd] at this;exact this
 ·have e1:e=d.1:=jaH h2 (QX.mp lt);subst e1;have lc:=hl c (Qe hc);have ld:=hl d (Qe hd)
  have LW:c.1<d.1:=by
   have:=QK.mp hr j (j+1) (Qf.mp hc).1 (Qf.mp hd).1 (by omega);rw [(Qf.mp hc).2,(Qf.mp hd).2] at this;exact this
  rw [cE (by rw [lc,ld]) LW]
  cases hn:P[j+1+1]? with
  |none=>
   have:=Ya (E:=d.1) hr hd QL (.inl (by
    have h1:=(Qf.mp hd).1;have h2:=jbA.mp hn
    omega))
   rw [hn] at this;exact this
  |some f=>
   have MX:d.1<f.1:=by
    have:=QK.mp hr (j+1) (j+1+1) (Qf.mp hd).1 (Qf.mp hn).1 (by omega);rw [(Qf.mp hd).2,(Qf.mp hn).2] at this;exact this
   have:=Ya (E:=d.1) hr hd QL (.inr ⟨f,hn,MX⟩);rw [hn] at this;rw [this];exact Xc (by rw [ld,hl f (Qe hn)])
def Ax (x y:List Rat):List Rat:=List.zipWith (· - ·) x y
def FI (p:Rat) (x:List Rat):List Rat:=x.map (·*p)
theorem Aw {x y:List Rat} {i:Nat} {z:Rat} (h:(Ax x y)[i]? =some z):∃a b,x[i]? =some a/\y[i]? =some b/\z=a - b:=by
 unfold Ax at h;rw [QC] at h
 cases e:x[i]? with
 |none=>rw [e] at h;cases h
 |some a=>
  cases e2:y[i]? with
  |none=>rw [e,e2] at h;cases h
  |some b=>rw [e,e2] at h;exact ⟨a,b,rfl,rfl,(Qz h).symm⟩
theorem jE {x y:List Rat} {i:Nat} {a b:Rat} (h1:x[i]? =some a) (h2:y[i]? =some b):(Ax x y)[i]? =some (a - b):=by
 unfold Ax;rw [QC,h1,h2]
structure Std (m:Nat) (T:Rat) (as:List Rat) (P:List zg):Prop where
 rise:yl P
 ok:∀c∈P,c.2.length=m/\zX c.2=c.1
 head:P[0]? =some (0,List.replicate m 0)
 last:P.getLast? =some (T,as)
section
variable {m:Nat} {T:Rat} {as:List Rat} {P:List zg} {e:Rat}
theorem Std.lastC (h:Std m T as P):lastC P=(T,as):=by unfold S.lastC;rw [h.last];rfl
theorem Std.ne (h:Std m T as P):P≠[]:=λz=>by have:=h.head;rw [z] at this;cases this
theorem Std.cons (h:Std m T as P):∃r,P=(0,List.replicate m 0)::r:=by
 cases P with
 |nil=>exact absurd rfl h.ne
 |cons c r=>have:=h.head;cases this;exact ⟨r,rfl⟩
theorem Std.lenA (h:Std m T as P):as.length=m:=(h.ok _ (jam h.last)).1
theorem Std.sum (h:Std m T as P) (h0:0<=e):zX (zh P e)=mn e T:=by
 obtain ⟨r,er⟩:=h.cons;have:=EG r er h.rise h.ok h0;rw [h.lastC] at this;exact this
theorem Std.len (h:Std m T as P):(zh P e).length=m:=by
 obtain ⟨r,er⟩:=h.cons;have:=h.ok;rw [er] at this⊢;exact xj λx hx=>(this x hx).1
theorem Std.past (h:Std m T as P) (he:T<=e):zh P e=as:=by
 obtain ⟨r,er⟩:=h.cons;have l:=h.lastC;have rr:=h.rise;rw [er] at l rr⊢;rw [dY rr (by rw [l];exact he),l]
theorem Std.turned (h:Std m T as P) (h0:0<=e) (h1:e<=T):zh (yj P) e=Ax as (zh P (T - e)):=by
 have hl:=h.lastC;have MS:∀x∈P,x.2.length=m:=λx hx=>(h.ok x hx).1
 have rise:yl (yj P):=by
  unfold yj yl;rw [Tb,List.pairwise_reverse]
  exact h.rise.imp λ{c d} LW=>by
   show (S.lastC P).1 - d.1<(S.lastC P).1 - c.1
   grind
 have lensT:∀x∈yj P,x.2.length=m:=λx hx=>by
  obtain ⟨c,hc,rfl⟩:=Qj.mp hx;show (List.zipWith _ (S.lastC P).2 c.2).length=m;rw [QE,hl,MS c (jbB.mp hc),h.lenA,jaF]
 have lp:0<P.length:=jaB.mpr h.ne;obtain ⟨j,q,hj,Nm,OA⟩:=Dq (E:=T - e) (M:=P.map λc=>c.1) (z:=0) (by rw [Qi,h.head];rfl) (by grind);rw [Qa] at OA;obtain ⟨c,hc,rfl⟩:=zU hj;have jl:j<P.length:=(Qf.mp hc).1
 have tget:∀(k:Nat) (x:zg),P[k]? =some x->(yj P)[P.length - 1 - k]? =some (VA (T,as) x):=λk x hx=>by
  have kl:k<P.length:=(Qf.mp hx).1;unfold yj;rw [Qi,List.getElem?_reverse (by omega),show P.length - 1 - (P.length - 1 - k)=k by omega,hx,hl];rfl
 by_cases lastj:j+1=P.length
 ·
  have ec:c=(T,as):=by
   have:=h.last;rw [jas,show P.length - 1=j by omega,hc] at this;exact Qz this
  have e0:e=0:=by
   rw [ec] at Nm;have:T<=T - e:=Nm;exact jaH (by grind) h0
  subst e0;rw [show T - (0:Rat)=T by grind,h.past QL];have ht:=tget j c hc;rw [show P.length - 1 - j=0 by omega,ec] at ht
  have hz:VA (T,as) (T,as)=(0,List.replicate m 0):=by
   unfold VA;rw [show T - T=(0:Rat) by grind]
   congr 1
   apply jat
   ·rw [QE,h.lenA,QB,jaF]
   ·intro i _ _;rw [Tn,jab]
    grind
  have e2:Ax as as=List.replicate m 0:=(congrArg Prod.snd hz);rw [e2];rw [hz] at ht
  cases hT:yj P with
  |nil=>rw [hT] at ht;cases ht
  |cons x r=>
   rw [hT] at ht rise lensT;cases ht
   cases r with
   |nil=>rfl
   |cons d r=>
    have lt:=(Qk.mp rise).1 d (Qb ..);rw [zh,QH lt];have:=Xc (c:=((0:Rat),List.replicate m (0:Rat))) (d:=d) (by rw [QB,lensT d (Qd _ (Qb ..))]);exact this
 ·rcases OA with z|⟨r,hr,LS⟩
  ·exact absurd z lastj
  obtain ⟨d,hd,rfl⟩:=zU hr;have lc:=MS c (Qe hc);have ld:=MS d (Qe hd);have LW:c.1<d.1:=by grind
  rw [nV h.rise MS hc hd Nm (QJ LS)];have t1:=tget (j+1) d hd;have t2:=tget j c hc;have dl:j+1<P.length:=(Qf.mp hd).1;rw [show P.length - 1 - j=P.length - 1 - (j+1)+1 by omega] at t2;rw [nV rise lensT t1 t2 (by show T - d.1<=e;grind) (by show e<=T - c.1;grind)];unfold Yg Ax
  apply TY
  intro i
  by_cases hi:i<m
  ·have ia:i<as.length:=by rw [h.lenA];exact hi
   have ic:i<c.2.length:=by omega
   have id':i<d.2.length:=by omega
   have a1:=Qc ia;have c1:=Qc ic;have d1:=Qc id';unfold VA;dsimp only;rw [QC,QC,QC,QC,QC,a1,c1,d1]
   congr 1
   generalize as[i]=A;generalize c.2[i]=C;generalize d.2[i]=D;unfold Zr;have Og:=QZ _ (xC LW);rw [jbd,jbd,show T - c.1 - (T - d.1)=d.1 - c.1 by grind];generalize (d.1 - c.1)⁻¹=v at*
   grind
  ·rw [QF,QF]
   ·simp only [QE,h.lenA,lc,ld];omega
   ·simp only [VA,QE,h.lenA,lc,ld];omega
end
def vN:List Int->Int
 |[]=>0
 |[a]=>a
 |a::l=>min a (vN l)
def amQ (l:List Cl):List Rat:=l.map λc=>(c.1:Rat)
section
variable {l:List Cl} {v:List Rat}
theorem lS (l:List Cl):(amQ l).length=l.length:=Qa _
end
structure Good (r:Rl) (l:List Cl) (P:List zg):Prop where
 std:Std l.length (zX (amQ l)) (amQ l) P
section
variable {r x y:Rl} {l:List Cl} {P P':List zg}
theorem uh {m:Nat} {T:Rat} {as:List Rat} (h:Std m T as P):Std m T as (yj P):=by
 have hl:=h.lastC;have lA:=h.lenA;obtain ⟨r,er⟩:=h.cons
 have tz:VA (T,as) (T,as)=(0,List.replicate m 0):=by
  unfold VA;rw [show T - T=(0:Rat) by grind]
  congr 1
  apply jat
  ·rw [QE,lA,QB,jaF]
  ·intro i _ _;rw [Tn,jab]
   grind
 have t0:VA (T,as) (0,List.replicate m 0)=(T,as):=by
  unfold VA;dsimp only;rw [show T - (0:Rat)=T by grind]
  congr 1
  apply jat
  ·rw [QE,lA,QB,jaF]
  ·intro i _ _;rw [Tn,jab]
   grind
 have sub:∀{x y:List Rat},x.length=y.length->zX (List.zipWith (· - ·) x y)=zX x - zX y:=by
  intro x
  induction x with
  |nil=>intro y h;cases y with
   |nil=>rw [List.zipWith_nil_left,zX];grind
   |cons _ _=>simp at h
  |cons a x ih=>intro y h;cases y with
   |nil=>simp at h
   |cons b y=>rw [jaa,zX,zX,zX,ih (by simpa using h)];grind
 have sT:zX as=T:=(h.ok _ (jam h.last)).2;refine ⟨?_,λc hc=>?_,?_,?_⟩
 ·unfold yj yl;rw [Tb,List.pairwise_reverse]
  exact h.rise.imp λ{c d} LW=>by
   show (S.lastC P).1 - d.1<(S.lastC P).1 - c.1
   grind
 ·obtain ⟨d,hd,rfl⟩:=Qj.mp hc;have ok:=h.ok d (jbB.mp hd);rw [hl];refine ⟨?_,?_⟩
  ·show (List.zipWith _ as d.2).length=m;rw [QE,lA,ok.1,jaF]
  ·show zX (List.zipWith _ as d.2)=T - d.1;rw [sub (by rw [lA,ok.1]),sT,ok.2]
 ·unfold yj;rw [Qi,<-List.head?_eq_getElem?,List.head?_reverse,h.last,hl,<-tz];rfl
 ·unfold yj;rw [jav,List.getLast?_reverse,hl,List.head?_eq_getElem?,h.head];show some (VA (T,as) (0,List.replicate m 0))=_;rw [t0]
theorem Good.other (h:Good r l P):Good (.other r) l (yj P):=⟨uh h.std⟩
theorem Wj {m:Nat} {T:Rat} {as:List Rat} {p:Rat} (hp:0<p) (h:Std m T as P):Std m (T*p) (FI p as) (zP p P):=by
 refine ⟨qh hp h.rise,λc hc=>?_,?_,?_⟩
 ·obtain ⟨d,hd,rfl⟩:=Qj.mp hc;have:=h.ok d hd;exact ⟨by rw [Qa];exact this.1,by rw [WO,this.2]⟩
 ·unfold zP;rw [Qi,h.head];show some ((0:Rat)*p,(List.replicate m (0:Rat)).map (·*p))=_;rw [jbE,jbl,jbE]
 ·unfold zP;rw [jav,h.last];rfl
theorem fM {m:Nat} {T T':Rat} {as Oj:List Rat} (h:Std m T as P) (h':Std m T' Oj P'):Std m (T+T') (List.zipWith (·+·) as Oj) (P++yx P P'):=by
 have hl:=h.lastC;obtain ⟨r',RX⟩:=h'.cons;have lA:=h.lenA;have mem:(T,as)∈P:=jam h.last;have sT:=(h.ok _ mem).2;refine ⟨?_,λc hc=>?_,?_,?_⟩
 ·refine Tx.mpr ⟨h.rise,?_,λc hc d hd=>?_⟩
  ·unfold yx;rw [Tb];refine jbw (λ{a b} Mw=>?_) (jaT (List.tail_sublist P') h'.rise);show (S.lastC P).1+a.1<(S.lastC P).1+b.1
   grind
  ·obtain ⟨d',MG,rfl⟩:=Qj.mp hd
   have c1:c.1<=T:=by
    obtain ⟨i,hi,rfl⟩:=jah hc;have LZ:=h.last;rw [jas] at LZ;obtain ⟨Og,e2⟩:=Qf.mp LZ
    by_cases z:i=P.length - 1
    ·subst z;rw [e2];exact QL
    ·have:=QK.mp h.rise i (P.length - 1) hi Og (by omega);rw [e2] at this;exact QJ this
   have d1:0<d'.1:=by
    have rr:=h'.rise;rw [RX] at rr MG;exact (Qk.mp rr).1 d' MG
   show c.1<(S.lastC P).1+d'.1;rw [hl];show c.1<T+d'.1
   grind
 ·rcases QT.mp hc with z|z
  ·exact h.ok c z
  ·obtain ⟨d,hd,rfl⟩:=Qj.mp z;have ok:=h'.ok d (Tz hd);rw [hl];refine ⟨?_,?_⟩
   ·show (List.zipWith _ as d.2).length=m;rw [QE,lA,ok.1,jaF]
   ·show zX (List.zipWith (·+·) as d.2)=T+d.1;rw [jC (by rw [lA,ok.1]),ok.2];rw [show zX as=T from sT]
 ·rw [TU (jaB.mpr h.ne),h.head]
 ·unfold yx
  have hz:List.zipWith (·+·) as (List.replicate m (0:Rat))=as:=by
   apply jat
   ·rw [QE,lA,QB,jaF]
   ·intro i _ _;rw [Tn,jab]
    grind
  cases r' with
  |nil=>
   have Ms:=h'.last;rw [RX] at Ms⊢;cases Ms;rw [List.tail_cons,jao,jaC,h.last,hz,Rat.add_zero]
  |cons d t=>
   have Ms:=h'.last;rw [RX,TQ] at Ms;rw [RX,List.tail_cons,List.getLast?_append,jav,Ms,hl];rfl
theorem kZ {m:Nat} {T:Rat} {as:List Rat} (h:Std m T as P):Std m T as (yg P)/\∀e:Rat,0<=e->zh (yg P) e=zh P e:=by
 obtain ⟨r,er⟩:=h.cons;have sub:=Zs P
 have kl:(yg P).getLast? =P.getLast? :=by
  rw [er];show ((0,List.replicate m 0)::yb (0,List.replicate m 0) r).getLast? =((0,List.replicate m 0)::r).getLast?
  have:∀(r:List zg) (a:zg),(yb a r).getLast? =r.getLast? :=by
   intro r
   induction r with
   |nil=>intro a;rw [yb]
   |cons b r ih=>
    intro a
    cases r with
    |nil=>rw [yb]
    |cons c r=>
     rw [yb]
     split
     ·rw [ih b,TQ]
     ·rw [jbK,ih b,TQ,jbK];rfl
  rw [jbK,this,<-jbK]
 refine ⟨⟨jaT sub h.rise,λc hc=>h.ok c (sub.subset hc),by rw [er];rfl,by rw [kl];exact h.last⟩,λe h0=>?_⟩;have rr:=h.rise;have ok:=h.ok;rw [er] at rr ok⊢;exact lh rr (λx hx=>(ok x hx).1) h0
theorem oY {m:Nat} {T T':Rat} {as Oj:List Rat} {P P':List zg} (h:Std m T as P) (h':Std m T' Oj P') {e:Rat} (h0:0<=e):zh (yg (P++yx P P')) e=if e<T then zh P e else List.zipWith (·+·) as (zh P' (e - T)):=by
 have s:=fM h h';obtain ⟨_,k2⟩:=kZ s;rw [k2 e h0];obtain ⟨r1,er1⟩:=h.cons;obtain ⟨r2,RW⟩:=h'.cons;have l1:=h.lastC
 split
 ·rename_i c;have lt:e<(S.lastC P).1:=by rw [l1];exact c
  generalize hM:yx P P'=M;rw [er1] at lt⊢;exact Wy h0 lt
 ·rename_i c;have ge:T<=e:=QX.mp c;have le:(S.lastC P).1<=e:=by rw [l1];exact ge
  have rr:=h.rise
  have ev:zh (P++yx P P') e=zh (S.lastC P::yx P P') e:=by
   generalize hM:yx P P'=M;rw [er1] at le rr⊢;exact ZD rr le
  rw [ev,l1]
  have em:((T,as):zg)::yx P P'=P'.map (Vh (T,as)):=by
   unfold yx;rw [l1]
   conv=>rhs;rw [RW]
   rw [Qn]
   congr 1
   ·unfold Vh;dsimp only;rw [Rat.add_zero]
    congr 1
    apply jat
    ·rw [QE,QB,h.lenA,jaF]
    ·intro i _ _;rw [Tn,jab]
     grind
   ·rw [RW];rfl
  rw [em];have pp:=dX (m:=m) (c:=(T,as)) (e:=e) h.lenA (q:=(0,List.replicate m 0)) (r:=r2) (by rw [<-RW];exact λz hz=>(h'.ok z hz).1);rw [<-RW] at pp;exact pp
theorem Good.upto {p:Rat} {t b:Int} (ep:p=Rat.divInt t b) (p0:0<p) (p1:p<1) (nn:∀c∈l,0<=c.1) (hx:Good x l P) (hy:Good y l P'):Good (.upto t b x y) l (Xj p P P'):=by
 have q0:0<1 - p:=by grind
 have s1:=Wj p0 hx.std;have s2:=Wj q0 hy.std;have s3:=fM s1 s2;have eT:zX (amQ l)*p+zX (amQ l)*(1 - p)=zX (amQ l):=by grind
 have eA:List.zipWith (·+·) (FI p (amQ l)) (FI (1 - p) (amQ l))=amQ l:=by
  unfold FI
  apply jat
  ·simp
  ·intro i _ _;simp only [Tn,List.getElem_map]
   grind
 rw [eT,eA] at s3;obtain ⟨k1,_⟩:=kZ s3;exact ⟨k1⟩
end
theorem lT (l:List Cl):amQ l=(amV l).map λ(a:Int)=>(a:Rat):=by unfold amQ amV;rw [QR];rfl
theorem Xk (l:List Cl):zX (amQ l)=(((amV l).sum:Int):Rat):=by rw [lT,cU]
theorem cP (l:List Cl):yp (amV l)=(zX (amQ l),amQ l):=by rw [Xk,lT];rfl
theorem JU {P:List zg} {c:zg} (ne:P≠[]) (h:lastC P=c):P.getLast? =some c:=by
 rw [<-h];unfold lastC;rw [QW ne];rfl
section
variable {l:List Cl} {ls:List Int}
theorem XA (h:LvOk (amV l) ls):Good .evenly l (evP (amV l) ls):=by
 obtain ⟨r,er⟩:=Ds h;refine ⟨⟨h.riseE,λc hc=>by rw [<-xm];exact ui _ _ c hc,by rw [er,cO,xm];rfl,JU (by rw [er];simp) (by rw [uj h,cP])⟩⟩
theorem fo (h:LvOk (amV l) ls):Good .losses l (loP (amV l) ls):=by
 have g:=(XA h).other;rw [cQ h] at g;exact ⟨g.std⟩
theorem fm (nn:∀a∈amV l,0<=a):Good .shares l (shP (amV l)):=by
 have s0:=cR nn
 have std:Std l.length (zX (amQ l)) (amQ l) (shP (amV l)):=by
  have az:(amV l).sum=0->amQ l=List.replicate l.length 0:=λc=>by
   have:=EF nn c;rw [lT,<-xm,<-jbr];exact TR λa ha=>by rw [this a ha];rfl
  unfold shP
  by_cases c:(amV l).sum=0
  ·rw [QH c];refine ⟨jaj _ _,λx hx=>?_,by rw [cO,xm];rfl,?_⟩
   ·rw [Qq.mp hx];have:=VV (XW (amV l).length);rw [cN,xm] at this;rw [xm];exact this
   ·show some _=some _;rw [cO,xm,az c,WN];rfl
  ·rw [QP c];refine ⟨?_,λx hx=>?_,by rw [cO,xm];rfl,?_⟩
   ·refine Qk.mpr ⟨λd hd=>?_,jaj _ _⟩;rw [Qq.mp hd,cO];exact Ux (show 0<(amV l).sum by omega)
   ·rcases Ql.mp hx with rfl|hx
    ·have:=VV (XW (amV l).length);rw [cN,xm] at this;rw [xm];exact this
    ·rw [Qq.mp hx,<-xm];exact VV _
   ·show some _=some _;rw [cP];rfl
 exact ⟨std⟩
theorem rF (h:LvOk (amV l) ls):Good .halves l (yg (hvP (amV l) ls)):=by
 have e2:Rat.divInt 1 2=(1:Rat) / 2:=by decide+kernel
 have g:=Good.upto (p:=1 / 2) (t:=1) (b:=2) e2.symm tY (by decide+kernel) (λc hc=>h.nn _ (Qj.mpr ⟨c,hc,rfl⟩)) (XA h) (fo h)
 have eu:Xj (1 / 2) (evP (amV l) ls) (loP (amV l) ls)=yg (hvP (amV l) ls):=by
  unfold Xj;rw [show (1:Rat) - 1 / 2=1 / 2 by decide+kernel];rfl
 rw [eu] at g;exact ⟨g.std⟩
end
theorem xv {t b:Int} (b0:b≠0):Rat.divInt t b*(b:Rat)=(t:Rat):=by
 have h3:∀z:Int,(z:Rat)=Rat.divInt z 1:=λz=>by rw [<-jbJ (z:Rat)];rfl
 rw [h3 b,h3 t,jbo,Int.mul_one];exact (Rat.divInt_eq_divInt_iff b0 (by decide)).mpr (by rw [Int.mul_one])
theorem dS {t b:Int} (h:WJ t b):0<Rat.divInt t b/\Rat.divInt t b<1:=by
 obtain ⟨_,t0,tb,_⟩:=h;have b0:(0:Rat)<(b:Rat):=Ux (by omega);have e:=xv (t:=t) (b:=b) (by omega);have t0':=Ux t0;have tb':=rR tb;generalize Rat.divInt t b=q at*
 constructor
 ·by_cases z:0<q
  ·exact z
  ·have:=Uq (QX.mp z) (QJ b0)
   grind
 ·by_cases z:q<1
  ·exact z
  ·have:=Uq (QX.mp z) (QJ b0)
   grind
def ZO (D:Int) (x:Rat):Prop:=∃k:Int,x*(D:Rat)=(k:Rat)
section
variable {D D':Int} {x y:Rat} {P P':List zg}
theorem ZO.mul (h:ZO D x) (n:Int):ZO (D*n) x:=by
 obtain ⟨k,hk⟩:=h;exact ⟨k*n,by rw [jag,jag,<-Rat.mul_assoc,hk]⟩
theorem ZO.mulL (h:ZO D x) (n:Int):ZO (n*D) x:=by rw [Int.mul_comm];exact h.mul n
theorem ZO.add (h:ZO D x) (g:ZO D y):ZO D (x+y):=by
 obtain ⟨k,hk⟩:=h;obtain ⟨j,hj⟩:=g;exact ⟨k+j,by rw [Rat.intCast_add,<-hk,<-hj];grind⟩
theorem ZO.sub (h:ZO D x) (g:ZO D y):ZO D (x - y):=by
 obtain ⟨k,hk⟩:=h;obtain ⟨j,hj⟩:=g;exact ⟨k - j,by rw [jbb,<-hk,<-hj];grind⟩
theorem ZO.port {t b:Int} (b0:b≠0) (h:ZO D x):ZO (b*D) (x*Rat.divInt t b):=by
 obtain ⟨k,hk⟩:=h;refine ⟨k*t,?_⟩;have e:=xv (t:=t) b0;rw [jag,jag,<-hk,<-e]
 grind
theorem ZO.int (n:Int) (D:Int):ZO D (n:Rat):=⟨n*D,by rw [jag]⟩
theorem ZO.sz {m n:Nat} {T:Rat} (h:ZO D x) (d0:0<D) (zD:Sz m D) (x0:0<=x) (xT:x<=T) (zT:∃k:Int,T=(k:Rat)/\Sz n k):SzQ (n+m) x:=by
 obtain ⟨k,hk⟩:=h;obtain ⟨t,rfl,zt⟩:=zT;have dp:=Ux d0
 have e:x=Rat.divInt k D:=by
  have h2:=xv (t:=k) (b:=D) (by omega);have:(x - Rat.divInt k D)*(D:Rat)=0:=by grind
  rcases Rat.mul_eq_zero.mp this with z|z
  ·grind
  ·rw [z] at dp;exact absurd dp jbP
 have k0:0<=k:=rS (by rw [<-hk];exact jbz x0 (QJ dp));have kT:k<=t*D:=rS (by rw [<-hk,jag];exact Uq xT (QJ dp));rw [e];exact SzQ.divInt (EE k0 kT (zt.mul zD)) (zD.mono (by omega)) (by omega)
theorem cM {f:Rat->Rat->Rat} {u v:List Rat} {z:Rat} (h:z∈List.zipWith f u v):∃a∈u,∃b∈v,z=f a b:=by
 obtain ⟨i,hi,e⟩:=jah h;have Np:=hi;rw [QE] at Np;rw [Tn] at e;exact ⟨_,Te (by omega),_,Te (by omega),e.symm⟩
theorem oA (ne:P≠[]):lastC P∈P:=by
 unfold lastC;rw [QW ne];exact List.getLast_mem ne
theorem Ju {t b:Int} (b0:b≠0):1 - Rat.divInt t b=Rat.divInt (b - t) b:=by
 have e1:=xv (t:=t) b0;have e2:=xv (t:=b - t) b0;have bn:((b:Int):Rat)≠0:=λz=>b0 (Rat.intCast_inj.mp (by rw [z];rfl))
 have:(1 - Rat.divInt t b - Rat.divInt (b - t) b)*(b:Rat)=0:=by
  rw [jbb] at e2
  grind
 rcases Rat.mul_eq_zero.mp this with z|z
 ·grind
 ·exact absurd z bn
end
section
variable {r x y:Rl} {l:List Cl} {P P':List zg}
theorem Std.at_corner {m:Nat} {T:Rat} {as:List Rat} (h:Std m T as P) {c:zg} (hc:c∈P):zh P c.1=c.2:=by
 obtain ⟨i,hi,rfl⟩:=jah hc;have e1:=Qc hi
 cases hn:P[i+1]? with
 |none=>
  have:=Ya (E:=P[i].1) h.rise e1 QL (.inl (by have:=jbA.mp hn;omega));rw [hn] at this;exact this
 |some d=>
  have hd:=Qf.mp hn;have lt:=QK.mp h.rise i (i+1) hi hd.1 (by omega);rw [hd.2] at lt;have:=Ya (E:=P[i].1) h.rise e1 QL (.inr ⟨d,hn,lt⟩);rw [hn] at this;rw [this];exact Xc (by rw [(h.ok _ (Te hi)).1,(h.ok d (Qe hn)).1])
theorem Std.range {m:Nat} {T:Rat} {as:List Rat} (h:Std m T as P) {c:zg} (hc:c∈P):0<=c.1/\c.1<=T:=by
 have h0:0<=c.1:=by
  obtain ⟨r,er⟩:=h.cons;have rr:=h.rise;rw [er] at rr hc
  rcases Ql.mp hc with rfl|hc
  ·exact QL
  ·exact QJ ((Qk.mp rr).1 c hc)
 refine ⟨h0,?_⟩;have s:=h.sum h0;rw [h.at_corner hc,(h.ok c hc).2] at s;unfold mn at s
 split at s
 ·assumption
 ·rw [s];exact QL
theorem Xz:∀{v:List Rat},(∀q∈v,0<=q)->0<=zX v/\∀q∈v,q<=zX v
 |[],_=>⟨by rw [zX];exact QL,λq hq=>absurd hq Qv⟩
 |a::v,h=>by
  have ha:=h a (Qb ..);obtain ⟨i1,i2⟩:=Xz (v:=v) λq hq=>h q (Qd _ hq);rw [zX];refine ⟨by grind,λq hq=>?_⟩
  rcases Ql.mp hq with rfl|hq
  ·grind
  ·have:=i2 q hq;grind
end
end S
namespace S
open PySem PySem.Spec PyProof.Rows L2
section
variable {r x y:Rl} {t b:Int} {l:List Cl}
theorem Ff (h:WJ t b):PyData.tuple [.int t, .int b]=frD (Rat.divInt t b):=by
 have b0:0<b:=by have:=h.2.1;have:=h.2.2.1;omega
 have l:=VT (a:=t) b0;unfold frD;rw [<-l.1,<-l.2,h.2.2.2];rw [show (((1:Nat):Int))=1 from rfl,Int.fdiv_one,Int.fdiv_one]
theorem Jn (h:WJ t b):SzQ 210 (Rat.divInt t b):=SzQ.divInt h.1.1 h.1.2 (by have:=h.2.1;have:=h.2.2.1;omega)
theorem UQ {P:List zg} {m n:Nat} {p:Rat} (h:∀c∈P,SzC n c) (hp:SzQ m p):∀c∈zP p P,SzC (n+m) c:=λc hc=>by
 obtain ⟨d,hd,rfl⟩:=Qj.mp hc;have:=h d hd;refine ⟨this.1.mul hp,λq hq=>?_⟩;obtain ⟨x,hx,rfl⟩:=Qj.mp hq;exact (this.2 x hx).mul hp
end
section
variable {B G0 H:Hp} {cs:yk} {ds:Dat} {Q:VK} {E:XK} {v w u:V} {K:PySem.W.Frag}
end
end S
namespace S
open PySem PySem.Spec PyProof.Rows L2
structure Small (t b:Int):Prop where
 port:WJ t b
 le:b<=61
section
variable {B G0 H:Hp} {cs:yk} {ds:Dat} {Q:VK} {E:XK} {v w u:V} {K:PySem.W.Frag}
def qd:Sp:=λvs H Q _=>∃(G:Hp) (c:Int),vs=[.int c]/\zL G H/\∀v H' G' (t b:Int),Grow G H G' H'->Is G' (.tuple [.int t, .int b]) v->Small t b->Q v H'
theorem EY {c:Int} (S:Sta B G0 H cs ds) (k:∀v H' (t b:Int),Small t b->zL H H'->Sta B G0 H' cs ((.tuple [.int t, .int b],v)::ds)->Q v H'):qd [.int c] H Q E:=by
 obtain ⟨G,S⟩:=S;refine ⟨G,c,rfl,S.2.1,λv H' G' t b gr hv good=>k v H' t b good gr.h ?_⟩;obtain ⟨a',b',c',d',e',f',g'⟩:=S.grow gr;exact ⟨G',a',b',c',d',e',f',g'.cons hv⟩
theorem Bk {G H':Hp} {t b:Int} (S:Sta H G H' cs ds) (k:∀v H' G' (t b:Int),Grow G H G' H'->Is G' (.tuple [.int t, .int b]) v->Small t b->Q v H') (h:Has ds (.tuple [.int t, .int b]) v) (hg:Small t b):Q v H':=by
 obtain ⟨G',gr,al⟩:=S.leave;exact k v H' G' t b gr (h G' al) hg
end
theorem pT {m:Nat} {a b c y:zg} (MI:b.1<c.1) (lb:b.2.length=m) (lc:c.2.length=m) (h1:zN a b c) (h2:zN b c y):zN a b y:=λi A B Y hA hB hY=>by
 have hi:i<m:=by rw [<-lb];exact (Qf.mp hB).1
 have hC:=Qc (l:=c.2) (i:=i) (by omega);have e1:=h1 i A B _ hA hB hC;have e2:=h2 i B _ Y hB hC hY;generalize c.2[i]=C at*;have e3:(B - A)*(c.1 - b.1)=(C - B)*(b.1 - a.1):=by grind
 have e5:((B - A)*(y.1 - a.1) - (Y - A)*(b.1 - a.1))*(c.1 - b.1)=0:=by
  have:((B - A)*(y.1 - a.1) - (Y - A)*(b.1 - a.1))*(c.1 - b.1)=((B - A)*(c.1 - b.1))*(y.1 - a.1) - ((Y - B)*(c.1 - b.1))*(b.1 - a.1) - ((B - A)*(c.1 - b.1))*(b.1 - a.1):=by grind
  rw [this,e3,<-e2];grind
 have:=zJ e5 (xC MI)
 grind
theorem mK {m:Nat} {k a b c:zg} (OC:k.1<b.1) (la:a.2.length=m) (lk:k.2.length=m) (h1:zN k a b) (h2:zN k b c):zN a b c:=λi A B C hA hB hC=>by
 have hi:i<m:=by rw [<-la];exact (Qf.mp hA).1
 have hK:=Qc (l:=k.2) (i:=i) (by omega);have e1:=h1 i _ A B hK hA hB;have e2:=h2 i _ B C hK hB hC;generalize k.2[i]=K at*;have e3:(B - A)*(b.1 - k.1)=(B - K)*(b.1 - a.1):=by grind
 have e4:(C - A)*(b.1 - k.1)=(B - K)*(c.1 - a.1):=by grind
 have e5:((B - A)*(c.1 - a.1) - (C - A)*(b.1 - a.1))*(b.1 - k.1)=0:=by
  have:((B - A)*(c.1 - a.1) - (C - A)*(b.1 - a.1))*(b.1 - k.1)=((B - A)*(b.1 - k.1))*(c.1 - a.1) - ((C - A)*(b.1 - k.1))*(b.1 - a.1):=by grind
  rw [this,e3,e4];grind
 have:=zJ e5 (xC OC)
 grind
theorem Thn.cons {k:zg} {F:List zg} (h:Thn F) (h0:∀y z t,F=y::z::t->¬zN k y z):Thn (k::F)
 |0,x,y,z,hx,hy,hz=>by
  match F,h0,hy,hz with
  |[],_,hy,_=>simp at hy
  |[_],_,_,hz=>simp at hz
  |a::b::t,h0,hy,hz=>
   simp at hx hy hz;subst hx;subst hy;subst hz;exact h0 _ _ t rfl
 |i+1,x,y,z,hx,hy,hz=>h i x y z (by simpa using hx) (by simpa using hy) (by simpa using hz)
theorem fi {m:Nat}:∀(r:List zg) (k a b:zg),yl (k::b::r)->(∀x∈k::b::r,x.2.length=m)->(a=k\/(k.1<a.1/\a.1<b.1/\a.2.length=m/\zN k a b))->
 Thn (k::yb a (b::r))/\∃y t,yb a (b::r)=y::t/\(y=b\/(b.1<y.1/\y.2.length=m/\zN a b y))
 |[],k,a,b,_,_,_=>by
  rw [yb];exact ⟨λi x y z _ _ hz=>by simp at hz,b,[],rfl, .inl rfl⟩
 |c::r,k,a,b,hr,hl,ha=>by
  obtain ⟨h1,h2⟩:=Qk.mp hr;obtain ⟨h3,h4⟩:=Qk.mp h2;have OC:=h1 b (Qb ..);have MI:=h3 c (Qb ..);have lk:=hl k (Qb ..);have lb:=hl b (Qd _ (Qb ..));have lc:=hl c (Qd _ (Qd _ (Qb ..)));rw [yb]
  split
  ·rename_i st
   have Ml:zN k b c:=by
    rcases ha with rfl|⟨_,Mw,la,s0⟩
    ·exact st
    ·exact bz Mw lk la s0 st
   have rk:yl (k::c::r):=Qk.mpr ⟨λx hx=>h1 x (Qd _ hx),h4⟩
   obtain ⟨i1,y,t,e,i2⟩:=fi r k b c rk (λx hx=>hl x (by
    rcases Ql.mp hx with rfl|hx
    ·exact Qb ..
    ·exact Qd _ (Qd _ hx))) (.inr ⟨OC,MI,lb,Ml⟩)
   refine ⟨i1,y,t,e, .inr ?_⟩
   rcases i2 with rfl|⟨hcy,ly,s⟩
   ·exact ⟨MI,lc,st⟩
   ·exact ⟨yW MI hcy,ly,pT MI lb lc st s⟩
  ·rename_i st;obtain ⟨i1,y,t,e,i2⟩:=fi r b b c h2 (λx hx=>hl x (Qd _ hx)) (.inl rfl);refine ⟨i1.cons λy' z t' ez=>?_,b,_,rfl, .inl rfl⟩;rw [e] at ez;cases ez;intro s
   have s1:zN k b c:=by
    rcases i2 with rfl|⟨hcy,ly,s2⟩
    ·exact s
    ·exact jF (yW MI hcy) lb ly s2 s
   rcases ha with rfl|⟨_,Mw,la,s0⟩
   ·exact st s1
   ·exact st (mK OC la lk s0 s1)
theorem oB {m:Nat} {L:List zg} (hr:yl L) (hl:∀x∈L,x.2.length=m):Thn (yg L):=by
 match L,hr,hl with
 |[],_,_=>exact λi x y z hx=>by simp [yg] at hx
 |[c],_,_=>exact λi x y z _ hy=>by simp [yg,yb] at hy
 |c::b::r,hr,hl=>exact (fi r c c b hr hl (.inl rfl)).1
def Mon (P:List zg):Prop:=P.Pairwise λc d=>LeV c.2 d.2
structure Ful (m:Nat) (T:Rat) (as:List Rat) (P:List zg):Prop where
 std:Std m T as P
 mono:Mon P
 thin:Thn P
section
variable {m:Nat} {T T':Rat} {as Oj:List Rat} {P P':List zg}
theorem Ful.pm (h:Ful m T as P):PathM m P:=⟨⟨h.std.rise,λc hc=>(h.std.ok c hc).1,h.thin⟩,λc hc=>(h.std.ok c hc).2,h.mono⟩
theorem LeV.refl (x:List Rat):LeV x x:=λi a b ha hb=>by rw [ha] at hb;cases hb;exact QL
theorem Std.le_last (h:Std m T as P) (mo:Mon P):∀c∈P,LeV c.2 as:=λc hc=>by
 obtain ⟨i,hi,rfl⟩:=jah hc;have LZ:=h.last;rw [jas] at LZ;obtain ⟨Og,e2⟩:=Qf.mp LZ
 by_cases z:i=P.length - 1
 ·subst z;rw [e2];exact LeV.refl _
 ·have:=QK.mp mo i (P.length - 1) hi Og (by omega);rw [e2] at this;exact this
theorem Std.nn (h:Std m T as P) (mo:Mon P):∀c∈P,∀(i:Nat) (a:Rat),c.2[i]? =some a->0<=a:=λc hc i a ha=>by
 obtain ⟨r,er⟩:=h.cons;have hl:=(h.ok c hc).1;rw [er] at hc mo
 rcases Ql.mp hc with rfl|hc
 ·have:=(Qf.mp ha).2;rw [jab] at this;rw [<-this];exact QL
 ·refine (Qk.mp mo).1 c hc i 0 a ?_ ha;have:=(Qf.mp ha).1;rw [QS,QH (by omega)]
theorem Ful.turned (h:Ful m T as P):Ful m T as (yj P):=by
 have hl:=h.std.lastC;have lA:=h.std.lenA;refine ⟨uh h.std,?_,λi x y z hx hy hz st=>?_⟩
 ·unfold Mon yj;rw [Tb,List.pairwise_reverse];refine jbw (λ{c d} LW=>?_) h.mono;intro i a b ha hb;obtain ⟨a1,a2,e1,e2,rfl⟩:=Aw (x:=(lastC P).2) (y:=d.2) ha;obtain ⟨b1,b2,f1,f2,rfl⟩:=Aw (x:=(lastC P).2) (y:=c.2) hb;rw [e1] at f1;cases f1;have:=LW i b2 a2 f2 e2
  grind
 ·unfold yj at hx hy hz;obtain ⟨x,Mj,rfl⟩:=zU hx;obtain ⟨y,ME,rfl⟩:=zU hy;obtain ⟨z,MJ,rfl⟩:=zU hz;have iz:=(Qf.mp MJ).1;rw [Tj] at iz;rw [List.getElem?_reverse (by omega)] at Mj ME MJ;have lx:=(h.std.ok x (Qe Mj)).1;refine h.thin (P.length - 1 - (i+2)) z y x MJ (by rw [<-ME];congr 1;omega) (by rw [<-Mj];congr 1;omega) ?_;rw [hl] at st;intro j c b a hc hb ha;have hj:j<as.length:=by rw [lA,<-lx];exact (Qf.mp ha).1
  have hA:=Qc hj;have:=st j (as[j] - a) (as[j] - b) (as[j] - c) (jE hA ha) (jE hA hb) (jE hA hc);generalize as[j]=A at*;have e:(A - b - (A - a))*(T - z.1 - (T - x.1))=(A - c - (A - a))*(T - y.1 - (T - x.1)):=this
  grind
theorem Ful.scaled {p:Rat} (hp:0<p) (h:Ful m T as P):Ful m (T*p) (FI p as) (zP p P):=by
 have mget:∀{x:List Rat} {i:Nat} {a:Rat},(x.map (·*p))[i]? =some a->∃b,x[i]? =some b/\a=b*p:=λ{x i a} ha=>by
  rw [Qi] at ha
  cases e:x[i]? with
  |none=>rw [e] at ha;cases ha
  |some b=>rw [e] at ha;cases ha;exact ⟨b,rfl,rfl⟩
 refine ⟨Wj hp h.std,?_,λi x y z hx hy hz st=>?_⟩
 ·unfold Mon zP;rw [Tb];refine jbw (λ{c d} LW=>?_) h.mono;intro i a b ha hb;obtain ⟨a',NA,rfl⟩:=mget ha;obtain ⟨b',Mu,rfl⟩:=mget hb;exact Uq (LW i a' b' NA Mu) (QJ hp)
 ·unfold zP at hx hy hz;obtain ⟨x,Mj,rfl⟩:=zU hx;obtain ⟨y,ME,rfl⟩:=zU hy;obtain ⟨z,MJ,rfl⟩:=zU hz;refine h.thin i x y z Mj ME MJ ?_;intro j a b c ha hb hc;have g:∀{x:List Rat} {a:Rat},x[j]? =some a->(x.map (·*p))[j]? =some (a*p):=λ{x a} h=>by rw [Qi,h];rfl
  have:=st j (a*p) (b*p) (c*p) (g ha) (g hb) (g hc);have e:(b*p - a*p)*(z.1*p - x.1*p)=(c*p - a*p)*(y.1*p - x.1*p):=this
  have pn:p*p≠0:=λz=>by
   have:=jbS hp hp;rw [z] at this;exact absurd this jbP
  have:=zJ (a:=(b - a)*(z.1 - x.1) - (c - a)*(y.1 - x.1)) (b:=p*p) (by grind) pn
  grind
theorem Ho (h:Std m T as P) (mo:Mon P) (h':Std m T' Oj P') (Rt:Mon P'):Mon (P++yx P P'):=by
 have hl:=h.lastC;refine Tx.mpr ⟨mo,?_,λc hc d hd=>?_⟩
 ·unfold yx;rw [Tb];refine jbw (λ{a b} Mw=>?_) (jaT (List.tail_sublist P') Rt);intro i x y hx hy;unfold Vh at hx hy;dsimp only at hx hy;rw [QC] at hx hy
  cases e0:(lastC P).2[i]? with
  |none=>rw [e0] at hx;cases hx
  |some q=>
   cases e1:a.2[i]? with
   |none=>rw [e0,e1] at hx;cases hx
   |some u=>
    cases e2:b.2[i]? with
    |none=>rw [e0,e2] at hy;cases hy
    |some v=>
     rw [e0,e1] at hx;rw [e0,e2] at hy;cases hx;cases hy;have:=Mw i u v e1 e2
     grind
 ·obtain ⟨d',MG,rfl⟩:=Qj.mp hd;have dm:=Tz MG;intro i x y hx hy;unfold Vh at hy;dsimp only at hy;rw [hl,QC] at hy
  cases e0:as[i]? with
  |none=>dsimp only at hy;rw [e0] at hy;cases hy
  |some q=>
   cases e1:d'.2[i]? with
   |none=>dsimp only at hy;rw [e0,e1] at hy;cases hy
   |some u=>
    dsimp only at hy;rw [e0,e1] at hy;cases hy;have h1:=h.le_last mo c hc i x q hx e0;have h2:=h'.nn Rt d' dm i u e1
    grind
theorem je (h:Std m T as P) (mo:Mon P) (h':Std m T' Oj P') (Rt:Mon P'):Ful m (T+T') (List.zipWith (·+·) as Oj) (yg (P++yx P P')):=by
 have s:=fM h h';obtain ⟨k1,_⟩:=kZ s;exact ⟨k1,jaT (Zs _) (Ho h mo h' Rt),oB s.rise λx hx=>(s.ok x hx).1⟩
end
section
variable {l:List Cl} {ls as:List Int}
theorem Kf (as:List Int) {ls:List Int} (h:ls.Pairwise (·<·)):Mon (evP as ls):=by
 unfold Mon evP;rw [Tb];refine jbw (λ{a b} Mw=>?_) h;intro i x y hx hy;unfold yp Vi at hx hy;simp only [QR,Qi] at hx hy
 cases e:as[i]? with
 |none=>rw [e] at hx;cases hx
 |some q=>
  rw [e] at hx hy;cases hx;cases hy;show ((min q a:Int):Rat)<=((min q b:Int):Rat);exact jax.mpr (by omega)
theorem Ke (h:LvOk as ls):Thn (evP as ls):=λi x y z hx hy hz st=>by
 unfold evP at hx hy hz;obtain ⟨a,ha,rfl⟩:=zU hx;obtain ⟨b,hb,rfl⟩:=zU hy;obtain ⟨c,hc,rfl⟩:=zU hz
 have lt:∀{i j:Nat} {a b:Int},ls[i]? =some a->ls[j]? =some b->i<j->a<b:=λ{i j a b} ha hb PF=>by
  obtain ⟨l1,rfl⟩:=Qf.mp ha;obtain ⟨l2,rfl⟩:=Qf.mp hb;exact QK.mp h.rise i j l1 l2 PF
 have ab:=lt ha hb (by omega);have bc:=lt hb hc (by omega);have a0:=h.nnL a (Qe ha)
 have bm:b∈as:=by
  rcases (h.mem b).mp (Qe hb) with z|z
  ·omega
  ·exact z
 obtain ⟨j,hj⟩:=Qr.mp bm
 have g:∀q:Int,(yp (Vi as q)).2[j]? =some ((min b q:Int):Rat):=λq=>by
  unfold yp Vi;simp only [QR,Qi,hj];rfl
 have e:=st j _ _ _ (g a) (g b) (g c);have s1:=h.sumlt (Qe hb) (Qe hc) bc;rw [show min b a=a by omega,show min b b=b by omega,show min b c=b by omega] at e;have e':((b:Rat) - (a:Rat))*((((Vi as c).sum:Int):Rat) - (((Vi as a).sum:Int):Rat))=((b:Rat) - (a:Rat))*((((Vi as b).sum:Int):Rat) - (((Vi as a).sum:Int):Rat)):=e;have ab':=rR ab;have s1':=rR s1;have:=jbS (show (0:Rat)<(b:Rat) - (a:Rat) by grind) (show (0:Rat)<(((Vi as c).sum:Int):Rat) - (((Vi as b).sum:Int):Rat) by grind)
 grind
theorem WY (h:LvOk (amV l) ls):Ful l.length (zX (amQ l)) (amQ l) (evP (amV l) ls):=⟨(XA h).std,Kf _ h.rise,Ke h⟩
theorem ja (h:LvOk (amV l) ls):Ful l.length (zX (amQ l)) (amQ l) (loP (amV l) ls):=by
 have:=(WY h).turned;rwa [cQ h] at this
theorem wt (nn:∀a∈amV l,0<=a):Ful l.length (zX (amQ l)) (amQ l) (shP (amV l)):=by
 have s:=(fm nn).std;refine ⟨s,?_,λi x y z _ _ hz=>?_⟩
 ·obtain ⟨r,er⟩:=s.cons;have ok:=s.ok;unfold shP at er ok⊢
  split
  ·exact jaj _ _
  ·refine Qk.mpr ⟨λd hd=>?_,jaj _ _⟩;rw [Qq.mp hd,cO];intro i a b ha hb;have e1:=(Qf.mp ha).2;rw [jab] at e1;unfold yp at hb;simp only [Qi] at hb
   cases e:(amV l)[i]? with
   |none=>rw [e] at hb;cases hb
   |some q=>
    rw [e] at hb;cases hb;rw [<-e1];exact rQ (nn q (Qe e))
 ·unfold shP at hz
  split at hz<;>simp at hz
theorem ug {P P':List zg} {p:Rat} (p0:0<p) (p1:p<1) (hx:Ful l.length (zX (amQ l)) (amQ l) P) (hy:Ful l.length (zX (amQ l)) (amQ l) P'):Ful l.length (zX (amQ l)) (amQ l) (Xj p P P'):=by
 have s1:=hx.scaled p0;have s2:=hy.scaled (p:=1 - p) (by grind);have:=je s1.std s1.mono s2.std s2.mono;have eT:zX (amQ l)*p+zX (amQ l)*(1 - p)=zX (amQ l):=by grind
 have eA:List.zipWith (·+·) (FI p (amQ l)) (FI (1 - p) (amQ l))=amQ l:=by
  unfold FI
  apply jat
  ·simp
  ·intro i _ _;simp only [Tn,List.getElem_map]
   grind
 rw [eT,eA] at this;exact this
theorem wu (h:LvOk (amV l) ls):Ful l.length (zX (amQ l)) (amQ l) (yg (hvP (amV l) ls)):=by
 have g:=ug (p:=1 / 2) tY (by decide+kernel) (WY h) (ja h)
 have eu:Xj (1 / 2) (evP (amV l) ls) (loP (amV l) ls)=yg (hvP (amV l) ls):=by
  unfold Xj;rw [show (1:Rat) - 1 / 2=1 / 2 by decide+kernel];rfl
 rw [eu] at g;exact g
end
def xH:List (Rat×Nat)->List Rat->List Rat
 |[],w=>w
 |(p,i)::r,w=>xH r (w.set i p)
def yd (pl:List Nat) (n:Nat) (v:List Rat):List Rat:=xH (v.zip pl) (List.replicate n 0)
theorem UP:∀(z:List (Rat×Nat)) (w:List Rat),(xH z w).length=w.length
 |[],w=>rfl
 |(p,i)::r,w=>by rw [xH,UP r,jbG]
theorem VB {j:Nat}:∀(z:List (Rat×Nat)) (w:List Rat),(∀x∈z,x.2≠j)->(xH z w)[j]? =w[j]?
 |[],w,_=>rfl
 |(p,i)::r,w,h=>by
  rw [xH,VB r _ λx hx=>h x (Qd _ hx),jby (h (p,i) (Qb ..))]
theorem iJ {p:Rat} {j:Nat}:∀(z:List (Rat×Nat)) (w:List Rat),(z.map (·.2)).Nodup->(p,j)∈z->j<w.length->(xH z w)[j]? =some p
 |[],w,_,h,_=>absurd h Qv
 |(q,i)::r,w,nd,h,hj=>by
  rw [Qn,TK] at nd;rw [xH]
  rcases Ql.mp h with e|h
  ·cases e;rw [VB r _ λx hx e=>nd.1 (Qj.mpr ⟨x,hx,e⟩),List.getElem?_set_self hj]
  ·exact iJ r _ nd.2 h (by rw [jbG];exact hj)
theorem Ae {v:List Rat} {pl:List Nat} (h:v.length=pl.length):(v.zip pl).map (·.2)=pl:=by
 have:(v.zip pl).map Prod.snd=pl:=List.map_snd_zip (by omega);exact this
structure Pls (n:Nat) (pl:List Nat):Prop where
 nd:pl.Nodup
 lt:∀i∈pl,i<n
section
variable {n m:Nat} {pl:List Nat} {v u:List Rat}
theorem yK (pl:List Nat) (n:Nat) (v:List Rat):(yd pl n v).length=n:=by unfold yd;rw [UP,QB]
theorem iE (h:Pls n pl) (hv:v.length=pl.length) {p:Rat} {i:Nat} (hm:(p,i)∈v.zip pl):(yd pl n v)[i]? =some p:=
 iJ _ _ (by rw [Ae hv];exact h.nd) hm (by rw [QB];exact h.lt i (jbn hm).2)
theorem xU (h:Pls n pl) (hv:v.length=pl.length) {i j:Nat} {p:Rat} (hj:pl[j]? =some i) (hp:v[j]? =some p):(yd pl n v)[i]? =some p:=
 iE h hv (Qe (i:=j) (by rw [Tg];exact ⟨hp,hj⟩))
theorem ZT {i:Nat} (hi:i<n) (hm:i∉pl):(yd pl n v)[i]? =some 0:=by
 unfold yd;rw [VB _ _ λx hx e=>hm (by rw [<-e];exact (jbn (a:=x.1) (b:=x.2) hx).2),QS,QH hi]
theorem xP (h:Pls n pl) (hv:v.length=pl.length) {i:Nat} {p:Rat} (hp:(yd pl n v)[i]? =some p):(∃j:Nat,pl[j]? =some i/\v[j]? =some p)\/(i∉pl/\p=0):=by
 have hi:i<n:=by have:=(Qf.mp hp).1;rwa [yK] at this
 by_cases c:i∈pl
 ·obtain ⟨j,hj⟩:=Qr.mp c;have jl:=(Qf.mp hj).1;have e:=Qc (l:=v) (i:=j) (by omega);have:=xU h hv hj e;rw [hp] at this;cases this;exact .inl ⟨j,hj,e⟩
 ·rw [ZT hi c] at hp;cases hp;exact .inr ⟨c,rfl⟩
theorem sU:∀{w:List Rat} {i:Nat} {q p:Rat},w[i]? =some q->zX (w.set i p)=zX w - q+p
 |[],_,_,_,h=>by simp at h
 |a::w,0,q,p,h=>by
  cases h;rw [List.set_cons_zero,zX,zX];grind
 |a::w,i+1,q,p,h=>by
  rw [List.set_cons_succ,zX,zX,sU (w:=w) (i:=i) (q:=q) (p:=p) (by simpa using h)];grind
theorem iI:∀(z:List (Rat×Nat)) (w:List Rat),(z.map (·.2)).Nodup->(∀x∈z,w[x.2]? =some 0)->zX (xH z w)=zX w+zX (z.map (·.1))
 |[],w,_,_=>by rw [xH,jao,zX];grind
 |(p,i)::r,w,nd,h=>by
  rw [Qn,TK] at nd;have h0:=h (p,i) (Qb ..)
  rw [xH,iI r _ nd.2 λx hx=>by
   rw [jby (λe=>nd.1 (Qj.mpr ⟨x,hx,e.symm⟩))]
   exact h x (Qd _ hx),sU h0,Qn,zX]
  grind
theorem uY (h:Pls n pl) (hv:v.length=pl.length):zX (yd pl n v)=zX v:=by
 unfold yd
 rw [iI _ _ (by rw [Ae hv];exact h.nd) λx hx=>by
  rw [QS,QH (h.lt _ (jbn (a:=x.1) (b:=x.2) hx).2)],WN]
 have:(v.zip pl).map Prod.fst=v:=List.map_fst_zip (by omega);have e:(v.zip pl).map (·.1)=v:=this;rw [e];grind
theorem pU (h:Pls n pl):yd pl n (List.replicate pl.length 0)=List.replicate n 0:=by
 apply TY
 intro i
 by_cases hi:i<n
 ·rw [QS,QH hi];have e:=Qc (l:=yd pl n (List.replicate pl.length 0)) (i:=i) (by rw [yK];exact hi)
  rcases xP h (by rw [QB]) e with ⟨j,hj,hp⟩|⟨_,hp⟩
  ·rw [e];have:=(Qf.mp hp).2;rw [jab] at this;rw [<-this]
  ·rw [e,hp]
 ·rw [QF (by rw [yK];omega),QF (by rw [QB];omega)]
def Yu (pl:List Nat) (n:Nat) (c:zg):zg:=(c.1,yd pl n c.2)
def ym (pl:List Nat) (n:Nat) (P:List zg):List zg:=P.map (Yu pl n)
theorem JK (t:Rat):Zr t 0 0=0:=by unfold Zr;grind
theorem pW {c d:zg} {e:Rat} (h:Pls n pl) (lc:c.2.length=pl.length) (ld:d.2.length=pl.length):Yg (Yu pl n c) (Yu pl n d) e=yd pl n (Yg c d e):=by
 have lb:(Yg c d e).length=pl.length:=cD lc ld
 apply TY
 intro i
 by_cases hi:i<n
 ·have e1:=Qc (l:=yd pl n c.2) (i:=i) (by rw [yK];exact hi);have e2:=Qc (l:=yd pl n d.2) (i:=i) (by rw [yK];exact hi);unfold Yg Yu;dsimp only;rw [QC,e1,e2]
  by_cases hm:i∈pl
  ·obtain ⟨j,hj⟩:=Qr.mp hm;have jl:=(Qf.mp hj).1;have f1:=Qc (l:=c.2) (i:=j) (by omega);have f2:=Qc (l:=d.2) (i:=j) (by omega);have g1:=xU h lc hj f1;have g2:=xU h ld hj f2;rw [e1] at g1;rw [e2] at g2
   have f3:(Yg c d e)[j]? =some (Zr ((e - c.1) / (d.1 - c.1)) c.2[j] d.2[j]):=by
    unfold Yg;rw [QC,f1,f2]
   have g3:=xU h lb hj f3;unfold Yg at g3;rw [g3,Qz g1,Qz g2]
  ·have g1:=ZT (v:=c.2) hi hm;have g2:=ZT (v:=d.2) hi hm;have g3:=ZT (v:=Yg c d e) hi hm;rw [e1] at g1;rw [e2] at g2;unfold Yg at g3;rw [g3,Qz g1,Qz g2];show some (Zr _ 0 0)=_;rw [JK]
 ·rw [QF,QF (by rw [yK];omega)];rw [cD (m:=n) (yK ..) (yK ..)];omega
theorem bA {e:Rat} (h:Pls n pl):∀{c:zg} {r:List zg},(∀x∈c::r,x.2.length=pl.length)->zh (ym pl n (c::r)) e=yd pl n (zh (c::r) e)
 |c,[],_=>rfl
 |c,d::r,hl=>by
  have lc:=hl c (Qb ..);have ld:=hl d (Qd _ (Qb ..));show zh (Yu pl n c::Yu pl n d::ym pl n r) e=_;rw [zh,zh]
  by_cases he:e<d.1
  ·rw [QH he,QH (show e<(Yu pl n d).1 from he),pW h lc ld]
  ·rw [QP he,QP (show ¬e<(Yu pl n d).1 from he)];exact bA h (c:=d) (r:=r) λx hx=>hl x (Qd _ hx)
theorem Std.spread {T:Rat} {as:List Rat} {P:List zg} (h:Std m T as P) (hp:Pls n pl) (hm:pl.length=m):Std n T (yd pl n as) (ym pl n P):=by
 subst hm;refine ⟨?_,λc hc=>?_,?_,?_⟩
 ·unfold ym yl;rw [Tb];exact h.rise
 ·obtain ⟨d,hd,rfl⟩:=Qj.mp hc;have:=h.ok d hd;exact ⟨yK ..,by show zX (yd pl n d.2)=d.1;rw [uY hp this.1,this.2]⟩
 ·unfold ym;rw [Qi,h.head];show some (0,yd pl n _)=_;rw [pU hp]
 ·unfold ym;rw [jav,h.last];rfl
theorem Std.spreadE {T:Rat} {as:List Rat} {P:List zg} (h:Std m T as P) (hp:Pls n pl) (hm:pl.length=m) (e:Rat):zh (ym pl n P) e=yd pl n (zh P e):=by
 obtain ⟨r,er⟩:=h.cons;have ok:=h.ok;rw [er] at ok⊢;exact bA hp λx hx=>by rw [(ok x hx).1,hm]
theorem Ful.spread {T:Rat} {as:List Rat} {P:List zg} (h:Ful m T as P) (hp:Pls n pl) (hm:pl.length=m):Ful n T (yd pl n as) (ym pl n P):=by
 have ls:∀c∈P,c.2.length=pl.length:=λc hc=>by rw [(h.std.ok c hc).1,hm]
 refine ⟨h.std.spread hp hm,?_,λi x y z hx hy hz st=>?_⟩
 ·unfold ym Mon;rw [Tb];refine List.Pairwise.imp_of_mem (λ{c d} hc hd LW=>?_) h.mono;intro i a b ha hb
  rcases xP hp (ls c hc) ha with ⟨j,hj,NA⟩|⟨hn,rfl⟩
  ·rcases xP hp (ls d hd) hb with ⟨j',Nx,Mu⟩|⟨hn,rfl⟩
   ·have jj:j=j':=(List.getElem?_inj (by exact (Qf.mp hj).1) hp.nd).mp (by rw [hj,Nx]);subst jj;exact LW j a b NA Mu
   ·exact absurd (Qe hj) hn
  ·rcases xP hp (ls d hd) hb with ⟨j',Nx,Mu⟩|⟨_,rfl⟩
   ·exact absurd (Qe Nx) hn
   ·exact QL
 ·unfold ym at hx hy hz;obtain ⟨x,Mj,rfl⟩:=zU hx;obtain ⟨y,ME,rfl⟩:=zU hy;obtain ⟨z,MJ,rfl⟩:=zU hz;refine h.thin i x y z Mj ME MJ λj a b c ha hb hc=>?_;have jl:j<pl.length:=by rw [<-ls x (Qe Mj)];exact (Qf.mp ha).1
  have hj:=Qc jl;exact st (pl[j]) a b c (xU hp (ls x (Qe Mj)) hj ha) (xU hp (ls y (Qe ME)) hj hb) (xU hp (ls z (Qe MJ)) hj hc)
end
def xx (p:Cl->Bool) (l:List Cl):List Nat:=(List.range l.length).filter λi=>p (l.getD i (0,0,0))
def VQ {α:Type} (d:α) (pl:List Nat) (v:List α):List α:=pl.map λi=>v.getD i d
section
variable {p:Cl->Bool} {l:List Cl} {v:List Rat}
theorem Vl (p:Cl->Bool) (l:List Cl):Pls l.length (xx p l):=⟨List.Pairwise.filter _ List.nodup_range,λi hi=>jbg.mp (Tu.mp hi).1⟩
theorem ak {i:Nat} {c:Cl} (hc:l[i]? =some c):i∈xx p l↔p c=true:=by
 unfold xx;rw [Tu,jbg,Qo,hc];exact ⟨λh=>h.2,λh=>⟨(Qf.mp hc).1,h⟩⟩
theorem ft {α:Type} (d:α) (p:α->Bool):∀l:List α,l.filter p=((List.range l.length).filter λi=>p (l.getD i d)).map λi=>l.getD i d
 |[]=>rfl
 |a::l=>by
  have ih:=ft d p l;have e0:List.range (a::l).length=0::(List.range l.length).map Nat.succ:=by rw [Qw,List.range_succ_eq_map]
  have e:(List.map Nat.succ ((List.range l.length).filter ((λi=>p ((a::l).getD i d))∘Nat.succ))).map (λi=>(a::l).getD i d)=((List.range l.length).filter λi=>p (l.getD i d)).map λi=>l.getD i d:=by
   rw [QR];rfl
  have z:(a::l).getD 0 d=a:=rfl;rw [e0,jbC (x:=a),jbC (x:=0),List.filter_map,z]
  split
  ·rw [Qn,e,<-ih,z]
  ·rw [e,<-ih]
theorem WG (p:Cl->Bool) (l:List Cl):l.filter p=VQ (0,0,0) (xx p l) l:=ft (0,0,0) p l
theorem YE (p:Cl->Bool) (l:List Cl):(xx p l).length=(l.filter p).length:=by rw [WG];unfold VQ;rw [Qa]
theorem BQ {α:Type} (d:α) (pl:List Nat) (v:List α):(VQ d pl v).length=pl.length:=Qa _
end
structure GF (r:Rl) (l:List Cl) (P:List zg):Prop where
 good:Good r l P
 ful:Ful l.length (zX (amQ l)) (amQ l) P
section
variable {n:Nat} {pl:List Nat} {p:Cl->Bool} {l:List Cl} {v:List Rat}
theorem pV (h:Pls n pl) {i:Nat} (hi:i<n) (hv:v.length=n):(yd pl n (VQ 0 pl v))[i]? =if i∈pl then v[i]? else some 0:=by
 split
 ·rename_i c;obtain ⟨j,hj⟩:=Qr.mp c;have e:=Qc (l:=v) (i:=i) (by omega);refine (xU h (BQ ..) hj (p:=v[i]) ?_).trans e.symm;unfold VQ;rw [Qi,hj];show some (v.getD i 0)=_;rw [Qo,e];rfl
 ·exact ZT hi (by assumption)
theorem jg (p:Cl->Bool) (l:List Cl):amQ (l.filter p)=VQ 0 (xx p l) (amQ l):=by
 rw [WG];unfold amQ VQ;rw [QR];refine TR λi hi=>?_;have hl:=(Vl p l).lt i hi;show (((l.getD i (0,0,0)).1:Int):Rat)=(l.map λc=>((c.1:Int):Rat)).getD i 0;rw [Qo,Qo,Qi,Qc hl];rfl
end
def zY (k:Int):Cl->Bool:=λc=>decide (c.2.1=k)
def zI (k:Int):Cl->Bool:=λc=>decide (c.2.2=k)
noncomputable def zS (l:List Cl):List Int:=(hU (l.map (·.2.1))).choose
noncomputable def zG (l:List Cl):List Int:=(hU (l.map (·.2.2))).choose
theorem yF (l:List Cl):(zS l).Pairwise (·<·)/\∀k,k∈zS l↔k∈l.map (·.2.1):=(hU (l.map λc:Cl=>c.2.1)).choose_spec
theorem yn (l:List Cl):(zG l).Pairwise (·<·)/\∀k,k∈zG l↔k∈l.map (·.2.2):=(hU (l.map λc:Cl=>c.2.2)).choose_spec
def jx (n:Nat):List zg:=[(0,List.replicate n 0)]
noncomputable def ZF (f:List Cl->List zg) (l:List Cl) (P:List zg) (k:Int):List zg:=
 yg (P++yx P (ym (xx (zY k) l) l.length (f (l.filter (zY k)))))
noncomputable def Yp (f:List Cl->List zg) (l:List Cl):List zg:=(zS l).foldl (ZF f l) (jx l.length)
open Classical in
noncomputable def asD (done:List Int) (l:List Cl):List Rat:=l.map λc=>if c.2.1∈done then (c.1:Rat) else 0
section
variable {r:Rl} {l:List Cl} {done:List Int} {P:List zg} {f:List Cl->List zg} {k:Int}
theorem DO (done:List Int) (l:List Cl):(asD done l).length=l.length:=Qa _
theorem DR {i:Nat} {c:Cl} (hc:l[i]? =some c) (h:c.2.1∈done):(asD done l)[i]? =some (c.1:Rat):=by
 unfold asD;rw [Qi,hc,Option.map_some,QH h]
theorem sr {i:Nat} {c:Cl} (hc:l[i]? =some c) (h:c.2.1∉done):(asD done l)[i]? =some 0:=by
 unfold asD;rw [Qi,hc,Option.map_some,QP h]
structure RkI (r:Rl) (l:List Cl) (done:List Int) (P:List zg):Prop where
 ful:Ful l.length (zX (asD done l)) (asD done l) P
theorem sN (n:Nat):Ful n 0 (List.replicate n 0) (jx n):=by
 refine ⟨⟨jaj _ _,λc hc=>?_,rfl,rfl⟩,jaj _ _,λi x y z _ hy=>by simp [jx] at hy⟩;rw [Qq.mp hc];exact ⟨QB,WN n⟩
theorem RkI.nil:RkI r l [] (jx l.length):=by
 have e:asD [] l=List.replicate l.length 0:=by
  unfold asD;rw [<-jbr];exact TR λc _=>QP Qv
 refine ⟨?_⟩;rw [e,WN];exact sN l.length
theorem RkI.step (h:RkI r l done P) (hk:∀k'∈done,k'<k) (hf:GF r (l.filter (zY k)) (f (l.filter (zY k)))):RkI r l (done++[k]) (ZF f l P k):=by
 have pk:=Vl (zY k) l;have lk:=YE (zY k) l;have Sf:=hf.ful.spread pk lk;have st:=h.ful.std;have kn:k∉done:=λz=>absurd (hk k z) (by omega);have NU:=je st h.ful.mono Sf.std Sf.mono;have inl:∀{i:Nat},i<l.length->∃c,l[i]? =some c:=λ{i} hi=>⟨_,Qc hi⟩
 have eA:List.zipWith (·+·) (asD done l) (yd (xx (zY k) l) l.length (amQ (l.filter (zY k))))=asD (done++[k]) l:=by
  apply TY
  intro i
  by_cases hi:i<l.length
  ·obtain ⟨c,hc⟩:=inl hi;rw [QC,jg,pV pk hi (lS l)]
   by_cases h1:c.2.1∈done
   ·have n1:i∉xx (zY k) l:=λz=>by
     have:=QG ((ak hc).mp z);rw [this] at h1;exact kn h1
    rw [DR hc h1,QP n1,DR hc (TZ _ h1)];show some ((c.1:Rat)+0)=_;rw [Rat.add_zero]
   ·by_cases h2:c.2.1=k
    ·have n1:i∈xx (zY k) l:=(ak hc).mpr (QQ h2);rw [sr hc h1,QH n1,DR hc (QA _ (by rw [h2];exact jbf _))];unfold amQ;rw [Qi,hc];show some ((0:Rat)+(c.1:Rat))=_;rw [Rat.zero_add]
    ·have n1:i∉xx (zY k) l:=λz=>h2 (QG ((ak hc).mp z))
     rw [sr hc h1,QP n1,sr hc (λz=>by
      rcases QT.mp z with z|z
      ·exact h1 z
      ·exact h2 (Qq.mp z))]
     show some ((0:Rat)+0)=_;rw [Rat.zero_add]
  ·rw [QF (by rw [QE,DO];omega),QF (by rw [DO];omega)]
 have eT:zX (asD done l)+zX (amQ (l.filter (zY k)))=zX (asD (done++[k]) l):=by
  rw [<-eA];exact (NU.std.ok _ (jam NU.std.last)).2.symm
 rw [eA,eT] at NU;exact ⟨NU⟩
theorem qw:∀(ks done:List Int) (P:List zg),RkI r l done P->(done++ks).Pairwise (·<·)->(∀k∈ks,GF r (l.filter (zY k)) (f (l.filter (zY k))))->RkI r l (done++ks) (ks.foldl (ZF f l) P)
 |[],done,P,h,_,_=>by rw [jaC];exact h
 |k::ks,done,P,h,hp,hf=>by
  have e:done++k::ks=done++[k]++ks:=by rw [TX];rfl
  rw [e] at hp⊢;rw [List.foldl_cons];refine qw ks (done++[k]) _ (h.step (λk' Mt=>?_) (hf k (Qb ..))) hp λk' Mt=>hf k' (Qd _ Mt);exact (Tx.mp (Tx.mp hp).1).2.2 k' Mt k (jbf _)
theorem Fd (hf:∀k∈zS l,GF r (l.filter (zY k)) (f (l.filter (zY k)))):RkI r l (zS l) (Yp f l):=by
 have:=qw (zS l) [] _ RkI.nil (by rw [jaE];exact (yF l).1) hf;rw [jaE] at this;exact this
theorem wq (hf:∀k∈zS l,GF r (l.filter (zY k)) (f (l.filter (zY k)))):GF (.ranks r) l (Yp f l):=by
 have h:=Fd hf;have mem:∀{i:Nat} {c:Cl},l[i]? =some c->c.2.1∈zS l:=λ{i c} hc=>((yF l).2 _).mpr (Qj.mpr ⟨c,Qe hc,rfl⟩)
 have eA:asD (zS l) l=amQ l:=by
  unfold asD amQ;refine TR λc hc=>?_;obtain ⟨i,hi⟩:=Qr.mp hc;rw [QH (mem hi)]
 have ful:=h.ful;rw [eA] at ful;exact ⟨⟨ful.std⟩,ful⟩
end
end S
namespace S
open PySem PySem.Spec PyProof.Rows L2
theorem kO {P:List zg} {Qs:List (List zg)} {T:Rat} {as:List Rat} (h:Nest P Qs) (st:Std Qs.length T as P):Ful (nQ Qs) T (yU Qs as) (yG P Qs):=by
 have hl:=st.lastC;have past:zh P T=as:=st.past QL;refine ⟨⟨h.riseF,λc hc=>?_,?_,?_⟩,?_,λi x y z hx hy hz s=>?_⟩
 ·obtain ⟨i,hi⟩:=Qr.mp hc;obtain ⟨h1,h2⟩:=Nest.F_at hi;have rg:=h.in_range (Qe h1);rw [h2];exact ⟨h.flen _,h.sum rg.1 rg.2⟩
 ·rw [Nest.F_of h.zeroM,h.flat0]
 ·rw [h.getLast,hl,past]
 ·unfold Mon yG;rw [Tb];refine List.Pairwise.imp_of_mem (λ{u v} hu hv Me=>?_) h.rise;have ru:=h.in_range hu;have rv:=h.in_range hv;exact h.rises ru.1 (QJ Me) rv.2
 ·obtain ⟨x1,x2⟩:=Nest.F_at hx;obtain ⟨y1,y2⟩:=Nest.F_at hy;obtain ⟨z1,z2⟩:=Nest.F_at hz;refine h.thin x1 y1 z1 λj p q r hp hq hr=>?_;exact s j p r q (by rw [x2];exact hp) (by rw [y2];exact hr) (by rw [z2];exact hq)
def Jv (g:Int) (l:List Cl):Cl:=((amV l).sum,vN (l.map (·.2.1)),g)
noncomputable def zM (l:List Cl):List Cl:=(zG l).map λg=>Jv g (l.filter (zI g))
noncomputable def zQ (f:List Cl->List zg) (l:List Cl):List (List zg):=(zG l).map λg=>f (l.filter (zI g))
noncomputable def mw (l:List Cl):List (List Nat):=(zG l).map λg=>xx (zI g) l
noncomputable def wZ (l:List Cl):List Nat:=(mw l).flatten
noncomputable def WE (fa fb:List Cl->List zg) (l:List Cl):List zg:=ym (wZ l) l.length (yG (fa (zM l)) (zQ fb l))
theorem bu {q:Rat} {i:Nat}:∀{Vs:List (List Rat)} {Ls:List (List Nat)},Vs.map List.length=Ls.map List.length->∀{k:Nat} {V:List Rat} {L:List Nat},Vs[k]? =some V->Ls[k]? =some L->(q,i)∈V.zip L->(q,i)∈Vs.flatten.zip Ls.flatten
 |[],Ls,_,k,V,L,h,_,_=>by simp at h
 |V'::Vs,[],h,_,_,_,_,_,_=>by simp at h
 |V'::Vs,L'::Ls,h,k,V,L,h1,h2,h3=>by
  rw [Qn,Qn] at h;have hl:V'.length=L'.length:=by injection h
  have ht:Vs.map List.length=Ls.map List.length:=by injection h
  rw [TL,TL,List.zip_append hl]
  cases k with
  |zero=>
   cases h1;cases h2;exact TZ _ h3
  |succ k=>exact QA _ (bu ht (k:=k) (by simpa using h1) (by simpa using h2) h3)
theorem Jq {pl:List Nat} {V v:List Rat} (hl:V.length=pl.length) (h:∀(q:Rat) (i:Nat),(q,i)∈V.zip pl->v[i]? =some q):VQ 0 pl v=V:=by
 apply TY
 intro j;unfold VQ;rw [Qi]
 cases e:pl[j]? with
 |none=>
  have:=jbA.mp e;rw [QF (by omega)];rfl
 |some i=>
  have jl:=(Qf.mp e).1;have f:=Qc (l:=V) (i:=j) (by omega);have:=h V[j] i (Qe (i:=j) (by rw [Tg];exact ⟨f,e⟩));show some (v.getD i 0)=_;rw [Qo,this,f];rfl
section
variable {a b:Rl} {l:List Cl} {fa fb:List Cl->List zg}
theorem jb (l:List Cl):∀gs:List Int,gs.Pairwise (·<·)->(gs.map λg=>xx (zI g) l).flatten.Nodup
 |[],_=>List.nodup_nil
 |g::gs,h=>by
  obtain ⟨h1,h2⟩:=Qk.mp h;rw [Qn,TL,List.nodup_append];refine ⟨(Vl _ l).nd,jb l gs h2,λi hi j hj e=>?_⟩;subst e;obtain ⟨L,hL,Og⟩:=List.mem_flatten.mp hj;obtain ⟨g',OP,rfl⟩:=Qj.mp hL;have lt:=(Vl _ l).lt i hi;have hc:=Qc lt;have e1:=QG ((ak hc).mp hi);have e2:=QG ((ak hc).mp Og);have:=h1 g' OP;omega
theorem kG (l:List Cl):Pls l.length (wZ l):=⟨jb l _ (yn l).1,λi hi=>by
 obtain ⟨L,hL,Og⟩:=List.mem_flatten.mp hi;obtain ⟨g',OP,rfl⟩:=Qj.mp hL
 exact (Vl _ l).lt i Og⟩
theorem Zt (l:List Cl):(zM l).length=(zG l).length:=Qa _
theorem ZR (f:List Cl->List zg) (l:List Cl):(zQ f l).length=(zG l).length:=Qa _
theorem uw {k:Nat} {g:Int} (hg:(zG l)[k]? =some g):(amQ (zM l))[k]? =some (zX (amQ (l.filter (zI g)))):=by
 unfold amQ zM;rw [QR,Qi,hg];show some (((amV (l.filter (zI g))).sum:Int):Rat)=_;rw [<-Xk];rfl
theorem VR (ha:Ful (zM l).length (zX (amQ (zM l))) (amQ (zM l)) (fa (zM l))) (hb:∀g∈zG l,Ful (l.filter (zI g)).length (zX (amQ (l.filter (zI g)))) (amQ (l.filter (zI g))) (fb (l.filter (zI g)))):Nest (fa (zM l)) (zQ fb l):=by
 have e:(zQ fb l).length=(zM l).length:=by rw [Zt,ZR]
 refine ⟨by rw [e];exact ha.pm,by rw [e];exact ha.std.cons,λk Q hk=>?_⟩;unfold zQ at hk;obtain ⟨g,hg,rfl⟩:=zU hk;have h:=hb g (Qe hg);obtain ⟨r,er⟩:=h.std.cons;refine ⟨_,r,er,h.pm,?_⟩;rw [ha.std.lastC,h.std.lastC];exact uw hg
theorem eN (hb:∀g∈zG l,Ful (l.filter (zI g)).length (zX (amQ (l.filter (zI g)))) (amQ (l.filter (zI g))) (fb (l.filter (zI g)))):(wZ l).length=nQ (zQ fb l):=by
 unfold wZ mw zQ;generalize zG l=gs at*
 induction gs with
 |nil=>rfl
 |cons g gs ih=>
  rw [Qn,TL,Qy,ih λg' OP=>hb g' (Qd _ OP),Qn,nQ,YE];obtain ⟨r,er⟩:=(hb g (Qb ..)).std.cons;rw [er]
  congr 1
  show _=(List.replicate _ (0:Rat)).length;rw [QB]
theorem vy (hb:∀g∈zG l,Ful (l.filter (zI g)).length (zX (amQ (l.filter (zI g)))) (amQ (l.filter (zI g))) (fb (l.filter (zI g)))) {ps:List Rat} (My:ps.length=(zG l).length) {k:Nat} {g:Int} {p:Rat} (hg:(zG l)[k]? =some g) (hp:ps[k]? =some p):
 VQ 0 (xx (zI g) l) (yd (wZ l) l.length (yU (zQ fb l) ps))=zh (fb (l.filter (zI g))) p:=by
 have MS:(List.zipWith zh (zQ fb l) ps).map List.length=(mw l).map List.length:=by
  apply TY
  intro j;unfold zQ mw;rw [Qi,Qi,Qi,QC,Qi]
  cases e:(zG l)[j]? with
  |none=>rfl
  |some g'=>
   have jl:=(Qf.mp e).1;rw [Qc (l:=ps) (i:=j) (by omega)];show some (zh (fb (l.filter (zI g'))) ps[j]).length=some (xx (zI g') l).length;rw [(hb g' (Qe e)).std.len,YE]
 have fl:(yU (zQ fb l) ps).length=(wZ l).length:=by
  unfold yU wZ;rw [List.length_flatten,List.length_flatten,MS]
 refine Jq ?_ λq i hm=>?_
 ·rw [(hb g (Qe hg)).std.len,YE]
 ·refine iE (kG l) fl ?_;refine bu MS (k:=k) (V:=zh (fb (l.filter (zI g))) p) (L:=xx (zI g) l) ?_ ?_ hm
  ·unfold zQ;rw [QC,Qi,hg,hp];rfl
  ·unfold mw;rw [Qi,hg];rfl
theorem rG (ha:GF a (zM l) (fa (zM l))) (hb:∀g∈zG l,GF b (l.filter (zI g)) (fb (l.filter (zI g)))):GF (.groups a b) l (WE fa fb l):=by
 have Mu:=λg hg=>(hb g hg).ful;have nest:=VR (fa:=fa) (fb:=fb) ha.ful Mu;have elen:(zQ fb l).length=(zM l).length:=by rw [Zt,ZR]
 have stP:=ha.ful.std;have stP':Std (zQ fb l).length (zX (amQ (zM l))) (amQ (zM l)) (fa (zM l)):=by rw [elen];exact stP
 have W:=kO nest stP';have lk:=eN (fb:=fb) Mu;have pk:=kG l;have R:=W.spread pk lk;have psl:∀e:Rat,(zh (fa (zM l)) e).length=(zG l).length:=λe=>by rw [stP.len,Zt]
 have gmem:∀{i:Nat} {c:Cl},l[i]? =some c->c.2.2∈zG l:=λ{i c} hc=>((yn l).2 _).mpr (Qj.mpr ⟨c,Qe hc,rfl⟩)
 have eA:yd (wZ l) l.length (yU (zQ fb l) (amQ (zM l)))=amQ l:=by
  apply TY
  intro i
  by_cases hi:i<l.length
  ·have hc:=Qc hi;obtain ⟨k,hk⟩:=Qr.mp (gmem hc);have e1:=vy (fb:=fb) Mu (ps:=amQ (zM l)) (by rw [lS,Zt]) hk (uw hk);rw [(Mu _ (Qe hk)).std.past QL,jg] at e1;unfold VQ at e1;have e2:=List.map_inj_left.mp e1 i ((ak hc).mpr (QQ rfl));rw [Qo,Qo] at e2;have f1:=Qc (l:=yd (wZ l) l.length (yU (zQ fb l) (amQ (zM l)))) (i:=i) (by rw [yK];exact hi);have f2:=Qc (l:=amQ l) (i:=i) (by rw [lS];exact hi);rw [f1,f2] at e2;rw [f1,f2];exact congrArg some e2
  ·rw [QF (by rw [yK];omega),QF (by rw [lS];omega)]
 have eT:zX (amQ (zM l))=zX (amQ l):=by
  rw [<-eA];exact (R.std.ok _ (jam R.std.last)).2.symm
 have R':=R;rw [eA,eT] at R';exact ⟨⟨R'.std⟩,R'⟩
end
noncomputable def zo:Rl->List Cl->List zg
 | .shares,l=>shP (amV l)
 | .evenly,l=>evP (amV l) (lvV (amV l))
 | .losses,l=>loP (amV l) (lvV (amV l))
 | .halves,l=>yg (hvP (amV l) (lvV (amV l)))
 | .other r,l=>yj (zo r l)
 | .ranks r,l=>Yp (λl=>zo r l) l
 | .groups a b,l=>WE (λl=>zo a l) (λl=>zo b l) l
 | .upto t b x y,l=>Xj (Rat.divInt t b) (zo x l) (zo y l)
def POk:Rl->Prop
 | .other r=>POk r
 | .upto t b x y=>WJ t b/\POk x/\POk y
 | .ranks r=>POk r
 | .groups a b=>POk a/\POk b
 |_=>True
theorem yO {l:List Cl} (nn:∀c∈l,0<=c.1) (p:Cl->Bool):∀c∈l.filter p,0<=c.1:=λc hc=>nn c (Tu.mp hc).1
theorem XX {l:List Cl} (nn:∀c∈l,0<=c.1):∀a∈amV l,0<=a:=λa ha=>by
 obtain ⟨c,hc,rfl⟩:=Qj.mp ha;exact nn c hc
theorem jz {l:List Cl} (nn:∀c∈l,0<=c.1):∀c∈zM l,0<=c.1:=λc hc=>by
 obtain ⟨g,_,rfl⟩:=Qj.mp hc;exact cR (XX (yO nn _))
theorem yy:∀{r:Rl} {l:List Cl},POk r->(∀c∈l,0<=c.1)->GF r l (zo r l)
 | .shares,l,_,nn=>⟨fm (XX nn),wt (XX nn)⟩
 | .evenly,l,_,nn=>⟨XA (WB (XX nn)),WY (WB (XX nn))⟩
 | .losses,l,_,nn=>⟨fo (WB (XX nn)),ja (WB (XX nn))⟩
 | .halves,l,_,nn=>⟨rF (WB (XX nn)),wu (WB (XX nn))⟩
 | .other r,l,h,nn=>⟨(yy (r:=r) h nn).good.other,(yy (r:=r) h nn).ful.turned⟩
 | .ranks r,l,h,nn=>wq λk _=>yy (r:=r) h (yO nn _)
 | .groups a b,l,h,nn=>rG (yy (r:=a) h.1 (jz nn)) λg _=>yy (r:=b) h.2 (yO nn _)
 | .upto t b x y,l,h,nn=>⟨Good.upto rfl (dS h.1).1 (dS h.1).2 nn (yy h.2.1 nn).good (yy h.2.2 nn).good,ug (dS h.1).1 (dS h.1).2 (yy h.2.1 nn).ful (yy h.2.2 nn).ful⟩
def DQ (d:Nat) (x:Rat):Prop:=∃D:Int,(0<D/\D<=2 ^ d)/\ZO D x
def DC (d:Nat) (c:zg):Prop:=DQ d c.1/\∀x∈c.2,DQ d x
def DP (d:Nat) (P:List zg):Prop:=∀c∈P,DC d c
theorem Um {a b:Int} {m n:Nat} (ha:0<a/\a<=2 ^ m) (hb:0<b/\b<=2 ^ n):0<a*b/\a*b<=2 ^ (m+n):=by
 refine ⟨Int.mul_pos ha.1 hb.1,?_⟩;rw [Int.pow_add];exact Int.mul_le_mul ha.2 hb.2 (jbO hb.1) (jbs (jbO ha.1) ha.2)
theorem Jm {m n:Nat} (h:m<=n):(2:Int) ^ m<=2 ^ n:=by
 have:=Nat.pow_le_pow_right (n:=2) (by decide) h;have e:∀k:Nat,(2:Int) ^ k=((2 ^ k:Nat):Int):=λk=>by rw [Int.natCast_pow];rfl
 rw [e,e];exact Int.ofNat_le.mpr this
section
variable {d d' t:Nat} {x y:Rat} {T:Int}
theorem DQ.mono (h:DQ d x) (hd:d<=d'):DQ d' x:=by
 obtain ⟨D,⟨h1,h2⟩,h3⟩:=h;exact ⟨D,⟨h1,jbs h2 (Jm hd)⟩,h3⟩
theorem DQ.int (n:Int):DQ 0 (n:Rat):=⟨1,⟨by decide,by decide⟩,ZO.int n 1⟩
theorem DQ.zero:DQ 0 0:=DQ.int 0
theorem DQ.add (h:DQ d x) (g:DQ d' y):DQ (d+d') (x+y):=by
 obtain ⟨D,p1,h3⟩:=h;obtain ⟨E,p2,g3⟩:=g;exact ⟨D*E,Um p1 p2,(h3.mul E).add (g3.mulL D)⟩
theorem DQ.sub (h:DQ d x) (g:DQ d' y):DQ (d+d') (x - y):=by
 obtain ⟨D,p1,h3⟩:=h;obtain ⟨E,p2,g3⟩:=g;exact ⟨D*E,Um p1 p2,(h3.mul E).sub (g3.mulL D)⟩
theorem DP.mono {P:List zg} (h:DP d P) (hd:d<=d'):DP d' P:=λc hc=>⟨(h c hc).1.mono hd,λx hx=>((h c hc).2 x hx).mono hd⟩
theorem DQ.mix {de dx dy da db:Nat} {e a b:Rat} (he:DQ de e) (hx:DQ dx x) (hy:DQ dy y) (ha:DQ da a) (hb:DQ db b) (Mw:a<b) (a0:0<=a) (bT:b<=(T:Rat)) (hT:T<=2 ^ t):DQ (de+dx+(dy+(t+(da+db)))) (Zr ((e - a) / (b - a)) x y):=by
 have line:=yB (x:=x) (y:=y) (E:=e) Mw;generalize Zr ((e - a) / (b - a)) x y=m at*;obtain ⟨De,pe,ke,he⟩:=he;obtain ⟨Dx,px,kx,hx⟩:=hx;obtain ⟨Dy,py,ky,hy⟩:=hy;obtain ⟨Da,pa,ka,ha⟩:=ha;obtain ⟨Db,pb,kb,hb⟩:=hb
 have hN:(b - a)*((Da*Db:Int):Rat)=((kb*Da - ka*Db:Int):Rat):=by
  rw [jbb,jag,jag,jag,<-ha,<-hb];grind
 have dab:=Um pa pb;have dabq:=Ux dab.1
 have T0:0<T:=by
  have:(0:Rat)<(T:Rat):=by grind
  exact Int.not_le.mp λz=>by
   have:=jax.mpr z
   grind
 have N0:0<kb*Da - ka*Db:=by
  have:(0:Rat)<((kb*Da - ka*Db:Int):Rat):=by rw [<-hN];exact jbS (by grind) dabq
  exact Int.not_le.mp λz=>by
   have:=jax.mpr z
   grind
 have NT:kb*Da - ka*Db<=T*(Da*Db):=by
  apply rS
  rw [<-hN,jag T];exact Uq (by grind) (QJ dabq)
 have pN:0<kb*Da - ka*Db/\kb*Da - ka*Db<=2 ^ (t+(da+db)):=⟨N0,jbs NT (Um ⟨T0,hT⟩ dab).2⟩;generalize kb*Da - ka*Db=N at*;refine ⟨De*Dx*(Dy*N),Um (Um pe px) (Um py pN),kx*(De*Dy*N)+(ke*Da - ka*De)*(ky*Dx - kx*Dy)*Db,?_⟩;simp only [jag,jbb,Rat.intCast_add] at hN⊢;rw [<-he,<-hx,<-hy,<-ha,<-hN];generalize (De:Rat)=p1 at*;generalize (Dx:Rat)=p2 at*;generalize (Dy:Rat)=p3 at*;generalize (Da:Rat)=p4 at*;generalize (Db:Rat)=p5 at*;have:m*(p1*p2*(p3*((b - a)*(p4*p5)))) - (x*p2*(p1*p3*((b - a)*(p4*p5)))+(e*p1*p4 - a*p4*p1)*(y*p3*p2 - x*p2*p3)*p5)=p1*p2*p3*p4*p5*((m - x)*(b - a) - (e - a)*(y - x)):=by grind
 rw [line] at this
 grind
theorem iR {m de:Nat} {e:Rat} (he:DQ de e) (hT:T<=2 ^ t):∀{P:List zg},yl P->(∀c∈P,0<=c.1/\c.1<=(T:Rat))->DP d P->∀x∈zh P e,DQ (de+4*d+t) x
 |[],_,_,_,x,hx=>by simp [zh] at hx
 |[c],_,_,h,x,hx=>((h c (Qb ..)).2 x hx).mono (by omega)
 |c::f::r,hr,rg,h,x,hx=>by
  rw [zh] at hx
  split at hx
  ·obtain ⟨i,hi⟩:=Qr.mp hx;obtain ⟨p,q,hp,hq,rfl⟩:=Zc hi;have hc:=h c (Qb ..);have hd:=h f (Qd _ (Qb ..));have lt:=(Qk.mp hr).1 f (Qb ..);exact (DQ.mix he (hc.2 p (Qe hp)) (hd.2 q (Qe hq)) hc.1 hd.1 lt (rg c (Qb ..)).1 (rg f (Qd _ (Qb ..))).2 hT).mono (by omega)
  ·exact iR (m:=m) he hT (Qk.mp hr).2 (λc hc=>rg c (Qd _ hc)) (λc hc=>h c (Qd _ hc)) x hx
theorem Nest.den {P:List zg} {Qs:List (List zg)} {a b:Nat} (h:Nest P Qs) (ha:DP a P) (hb:∀Q∈Qs,DP b Q) (hl:(lastC P).1<=(T:Rat)) (hT:T<=2 ^ t) {e:Rat} (he:e∈wpV P Qs):DQ (b+4*a+t) e/\∀p∈zh P e,DQ (b+4*a+t) p:=by
 rcases h.mem.mp he with ⟨c,hc,rfl⟩|⟨k,Q,hk,c,hc,hr⟩
 ·refine ⟨(ha c hc).1.mono (by omega),λp hp=>?_⟩;have pm:=h.pm;obtain ⟨r,eP⟩:=h.p0;rw [eP] at pm hp hc;rw [ya pm.t hc] at hp;exact ((ha c (by rw [eP];exact hc)).2 p hp).mono (by omega)
 ·have hL:=(hb Q (Qe hk) c hc).1;have h0:=(h.qpos hk c hc).1;have pm:=h.pm;have Of:k<Qs.length:=(Qf.mp hk).1
  have le:∀c1∈P,∀(i:Nat) (x:Rat),c1.2[i]? =some x->0<=x/\x<=(T:Rat):=λc1 PV i x hx=>by
   have s:=pm.sums c1 PV
   have e1:zh P c1.1=c1.2:=by
    obtain ⟨r,eP⟩:=h.p0;rw [eP] at PV pm⊢;exact ya pm.t PV
   have mem:c1.1∈wpV P Qs:=h.mem.mpr (.inl ⟨c1,PV,rfl⟩);have rg:=h.in_range mem
   have nn:∀q∈c1.2,0<=q:=λq hq=>by
    obtain ⟨j,hj⟩:=Qr.mp hq;have jl:j<Qs.length:=by rw [<-pm.t.len c1 PV];exact (Qf.mp hj).1
    exact (h.range rg.1 rg.2 (Qc jl) (by rw [e1];exact hj)).1
   have m:=Qe hx;have:=(Xz nn).2 x m;exact ⟨nn x m,by rw [s] at this;grind⟩
  obtain ⟨r,eP⟩:=h.p0;rw [eP] at pm hr ha le⊢
  obtain ⟨i,c1,d1,x,y,g1,g2,g3,g4,hxL,hLy,ee,_,_,_,ep⟩:=VP Of pm (by
   rw [Qo,QS,QH Of];exact h0) hr
  have z1:=ha c1 (Qe g1);have z2:=ha d1 (Qe g2);have rx:=le c1 (Qe g1) k x g3;have ry:=le d1 (Qe g2) k y g4;have zx:=z1.2 x (Qe g3);have zy:=z2.2 y (Qe g4);have Nt:x<y:=by grind
  rw [ep];refine ⟨by rw [ee];exact (DQ.mix hL z1.1 z2.1 zx zy Nt rx.1 ry.2 hT).mono (by omega),λp hp=>?_⟩;obtain ⟨j,hj⟩:=Qr.mp hp;rw [QC] at hj
  cases e1:c1.2[j]? with
  |none=>rw [e1] at hj;cases hj
  |some p1=>
   cases e2:d1.2[j]? with
   |none=>rw [e1,e2] at hj;cases hj
   |some p2=>
    rw [e1,e2] at hj;cases hj;exact (DQ.mix hL (z1.2 p1 (Qe e1)) (z2.2 p2 (Qe e2)) zx zy Nt rx.1 ry.2 hT).mono (by omega)
theorem DP.within {P:List zg} {Qs:List (List zg)} {a b:Nat} (h:Nest P Qs) (ha:DP a P) (hb:∀Q∈Qs,DP b Q) (hq:∀Q∈Qs,yl Q/\∀c∈Q,0<=c.1/\c.1<=(T:Rat)) (hl:(lastC P).1<=(T:Rat)) (hT:T<=2 ^ t):DP (5*b+4*a+2*t) (yG P Qs):=λc hc=>by
 obtain ⟨i,hi⟩:=Qr.mp hc;obtain ⟨h1,h2⟩:=Nest.F_at hi;obtain ⟨z1,z2⟩:=h.den ha hb hl hT (Qe h1);refine ⟨z1.mono (by omega),λx hx=>?_⟩;rw [h2] at hx;obtain ⟨k,Q,p,hk,hp,hxq⟩:=tN hx;have mQ:=Qe hk;exact (iR (m:=0) (z2 p (Qe hp)) hT (hq Q mQ).1 (hq Q mQ).2 (hb Q mQ) x hxq).mono (by omega)
theorem DP.spread {P:List zg} {pl:List Nat} {n m:Nat} (hp:Pls n pl) (hl:∀c∈P,c.2.length=pl.length) (h:DP d P):DP d (ym pl n P):=λc hc=>by
 obtain ⟨c,LX,rfl⟩:=Qj.mp hc;refine ⟨(h c LX).1,λx hx=>?_⟩;obtain ⟨i,hi⟩:=Qr.mp hx
 rcases xP hp (hl c LX) hi with ⟨j,_,hj⟩|⟨_,rfl⟩
 ·exact (h c LX).2 x (Qe hj)
 ·exact DQ.zero.mono (by omega)
theorem DP.keep {P:List zg} (h:DP d P):DP d (yg P):=λc hc=>h c ((Zs P).subset hc)
theorem DP.app {P P':List zg} (ne:P≠[]) (h:DP d P) (hl:DC 0 (lastC P)) (g:DP d P'):DP d (P++yx P P'):=λc hc=>by
 rcases QT.mp hc with z|z
 ·exact h c z
 ·obtain ⟨f,hf,rfl⟩:=Qj.mp z;have hf:=g f (Tz hf);refine ⟨(hl.1.add hf.1).mono (by omega),λx hx=>?_⟩;obtain ⟨a,ha,b,hb,rfl⟩:=cM hx;exact ((hl.2 a ha).add (hf.2 b hb)).mono (by omega)
theorem DP.turned {P:List zg} (hl:DC 0 (lastC P)) (h:DP d P):DP d (yj P):=λc hc=>by
 obtain ⟨f,hf,rfl⟩:=Qj.mp hc;have hf:=h f (jbB.mp hf);refine ⟨(hl.1.sub hf.1).mono (by omega),λx hx=>?_⟩;obtain ⟨a,ha,b,hb,rfl⟩:=cM hx;exact ((hl.2 a ha).sub (hf.2 b hb)).mono (by omega)
def Uv (b:Int):Nat:=b.toNat.log2+1
theorem Gk {b:Int} (hb:0<b):b<=2 ^ Uv b:=by
 have:=Nat.lt_log2_self (n:=b.toNat);have e:(2:Int) ^ Uv b=((2 ^ (b.toNat.log2+1):Nat):Int):=by unfold Uv;rw [Int.natCast_pow];rfl
 rw [e];omega
theorem DP.upto {P P':List zg} {as:List Rat} {p b:Int} {m:Nat} {U:Rat} (b0:0<b) (st:Std m U as P) (hl:DC 0 (U,as)) (h:DP d P) (g:DP d P'):DP (Uv b+d) (Xj (Rat.divInt p b) P P'):=by
 have bn:b≠0:=by omega
 have bb:0<b/\b<=2 ^ Uv b:=⟨b0,Gk b0⟩
 have sc:∀{t:Int} {x:Rat},DQ d x->DQ (Uv b+d) (x*Rat.divInt t b):=λ{t x} hx=>by
  obtain ⟨D,pD,hD⟩:=hx;exact ⟨b*D,Um bb pD,hD.port bn⟩
 have i1:∀{x:Rat},DQ 0 x->ZO 1 x:=λ{x} hx=>by
  obtain ⟨D,pD,hD⟩:=hx;have:D=1:=by have:=pD.2;have:=pD.1;omega
  rwa [this] at hD
 have ml:lastC (zP (Rat.divInt p b) P)=(U*Rat.divInt p b,FI (Rat.divInt p b) as):=by
  unfold lastC zP;rw [jav,st.last];rfl
 have both:∀{x y:Rat} {t:Int},DQ 0 x->DQ d y->DQ (Uv b+d) (x*Rat.divInt p b+y*Rat.divInt t b):=λ{x y t} hx hy=>by
  obtain ⟨D,pD,hD⟩:=hy;have w:=(i1 hx).port (t:=p) bn;rw [Int.mul_one] at w;exact ⟨b*D,Um bb pD,(w.mul D).add (hD.port bn)⟩
 unfold Xj;refine DP.keep λc hc=>?_
 rcases QT.mp hc with z|z
 ·obtain ⟨f,hf,rfl⟩:=Qj.mp z;refine ⟨sc (h f hf).1,λx hx=>?_⟩;obtain ⟨a,ha,rfl⟩:=Qj.mp hx;exact sc ((h f hf).2 a ha)
 ·obtain ⟨f',hf',rfl⟩:=Qj.mp z;have hf'':=Tz hf';obtain ⟨f,hf,rfl⟩:=Qj.mp hf'';rw [ml,Ju bn];refine ⟨both hl.1 (g f hf).1,λx hx=>?_⟩;obtain ⟨a,ha,q,hq,rfl⟩:=cM hx;obtain ⟨a',NA,rfl⟩:=Qj.mp ha;obtain ⟨q',Nc,rfl⟩:=Qj.mp hq;exact both (hl.2 a' NA) ((g f hf).2 q' Nc)
end
def Wc (t:Nat):Rl->Nat
 | .halves=>2
 | .other r=>Wc t r
 | .ranks r=>Wc t r
 | .groups a b=>5*Wc t b+4*Wc t a+2*t
 | .upto _ b x y=>Uv b+max (Wc t x) (Wc t y)
 |_=>0
theorem Yr (h:List Int):DC 0 (yp h):=⟨DQ.int _,λx hx=>by
 obtain ⟨a,_,rfl⟩:=Qj.mp hx
 exact DQ.int a⟩
theorem rL (l:List Cl):DC 0 (zX (amQ l),amQ l):=by rw [<-cP];exact Yr _
theorem CN {x:Int} {w:Int}:∀{gs:List Int},gs.Pairwise (·<·)->(gs.map λg=>if x=g then w else 0).sum=if x∈gs then w else 0
 |[],_=>by simp
 |g::gs,h=>by
  obtain ⟨h1,h2⟩:=Qk.mp h;rw [Qn,QN,CN h2]
  by_cases e:x=g
  ·have:x∉gs:=λz=>by have:=h1 x z;omega
   rw [QH e,QP this,QH (by rw [e];exact Qb ..)];omega
  ·rw [QP e]
   by_cases z:x∈gs
   ·rw [QH z,QH (Qd _ z)];omega
   ·rw [QP z,QP (λm=>(Ql.mp m).elim e z)];omega
theorem As (f g:Int->Int):∀gs:List Int,(gs.map λk=>f k+g k).sum=(gs.map f).sum+(gs.map g).sum
 |[]=>rfl
 |k::gs=>by rw [Qn,Qn,Qn,QN,QN,QN,As f g gs];omega
theorem jB (key w:Cl->Int) {gs:List Int} (hg:gs.Pairwise (·<·)):∀l:List Cl,(∀c∈l,key c∈gs)->(gs.map λg=>((l.filter λc=>decide (key c=g)).map w).sum).sum=(l.map w).sum
 |[],_=>by
  show (gs.map λ_=>(0:Int)).sum=0
  induction gs with
  |nil=>rfl
  |cons g gs ih=>rw [Qn,QN,ih (Qk.mp hg).2 λc hc=>absurd hc Qv];rfl
 |c::l,h=>by
  have ih:=jB key w hg l λx hx=>h x (Qd _ hx)
  have e:(gs.map λg=>(((c::l).filter λc=>decide (key c=g)).map w).sum)=gs.map λg=>(if key c=g then w c else 0)+((l.filter λc=>decide (key c=g)).map w).sum:=by
   refine TR λg _=>?_;rw [jbC]
   by_cases z:key c=g
   ·rw [QH z,QH (QQ z),Qn,QN]
   ·rw [QP z,QP (by rw [QY z];decide)];omega
  rw [e,As,CN hg,QH (h c (Qb ..)),ih,Qn,QN]
theorem cc (l:List Cl):(amV (zM l)).sum=(amV l).sum:=by
 have:=jB (·.2.2) (·.1) (yn l).1 l λc hc=>((yn l).2 _).mpr (Qj.mpr ⟨c,hc,rfl⟩);unfold zM
 have e:amV ((zG l).map λg=>Jv g (l.filter (zI g)))=(zG l).map λg=>((l.filter λc=>decide (c.2.2=g)).map (·.1)).sum:=by
  unfold amV;rw [QR];rfl
 rw [e,this];rfl
theorem YV {l:List Cl} (nn:∀c∈l,0<=c.1) (p:Cl->Bool):(amV (l.filter p)).sum<=(amV l).sum:=by
 induction l with
 |nil=>exact jbT _
 |cons c l ih=>
  have ih:=ih λx hx=>nn x (Qd _ hx);have h0:=nn c (Qb ..);have e:(amV (c::l)).sum=c.1+(amV l).sum:=by unfold amV;rw [Qn,QN]
  rw [jbC]
  split
  ·have e2:(amV (c::l.filter p)).sum=c.1+(amV (l.filter p)).sum:=by unfold amV;rw [Qn,QN]
   rw [e,e2];omega
  ·rw [e];omega
theorem Bf {r:Rl} {l:List Cl} {f:List Cl->List zg} {d:Nat}:∀(ks done:List Int) (P:List zg),RkI r l done P->(done++ks).Pairwise (·<·)->(∀k∈ks,GF r (l.filter (zY k)) (f (l.filter (zY k)))/\DP d (f (l.filter (zY k))))->DP d P->DP d (ks.foldl (ZF f l) P)
 |[],done,P,h,_,_,hd=>hd
 |k::ks,done,P,h,hp,hf,hd=>by
  have e:done++k::ks=done++[k]++ks:=by rw [TX];rfl
  rw [e] at hp;rw [List.foldl_cons];have hk:=hf k (Qb ..);refine Bf ks (done++[k]) _ (h.step (λk' Mt=>?_) hk.1) hp (λk' Mt=>hf k' (Qd _ Mt)) ?_
  ·exact (Tx.mp (Tx.mp hp).1).2.2 k' Mt k (jbf _)
  ·refine DP.keep (DP.app h.ful.std.ne hd ?_ (DP.spread (m:=0) (Vl _ l) (λc hc=>by rw [(hk.1.ful.std.ok c hc).1,YE]) hk.2));rw [h.ful.std.lastC]
   have ia:∀x∈asD done l,DQ 0 x:=λx hx=>by
    unfold asD at hx;obtain ⟨c,_,rfl⟩:=Qj.mp hx
    split
    ·exact DQ.int _
    ·exact DQ.zero
   refine ⟨?_,ia⟩
   have:∀{v:List Rat},(∀x∈v,DQ 0 x)->DQ 0 (zX v):=by
    intro v
    induction v with
    |nil=>intro _;rw [zX];exact DQ.zero
    |cons a v ih=>
     intro h;rw [zX];exact (h a (Qb ..)).add (ih λx hx=>h x (Qd _ hx))
   exact this ia
theorem YG {t:Nat}:∀{r:Rl} {l:List Cl},POk r->(∀c∈l,0<=c.1)->(amV l).sum<=2 ^ t->DP (Wc t r) (zo r l)
 | .shares,l,_,_,_=>λc hc=>by
   simp only [zo,shP] at hc
   split at hc
   ·rw [Qq.mp hc];exact Yr _
   ·rcases Ql.mp hc with rfl|hc
    ·exact Yr _
    ·rw [Qq.mp hc];exact Yr _
 | .evenly,l,_,_,_=>λc hc=>by
   obtain ⟨z,_,rfl⟩:=Qj.mp hc;exact Yr _
 | .losses,l,_,_,_=>λc hc=>by
   obtain ⟨z,_,rfl⟩:=Qj.mp hc;exact Yr _
 | .halves,l,_,nn,_=>by
   have ge:DP 0 (evP (amV l) (lvV (amV l))):=λc hc=>by
    obtain ⟨z,_,rfl⟩:=Qj.mp hc;exact Yr _
   have gl:DP 0 (loP (amV l) (lvV (amV l))):=λc hc=>by
    obtain ⟨z,_,rfl⟩:=Qj.mp hc;exact Yr _
   have st:=(WY (WB (XX nn))).std;have:=DP.upto (p:=1) (b:=2) (by decide) st (rL l) ge gl;have e2:Rat.divInt 1 2=(1:Rat) / 2:=by decide+kernel
   have eu:Xj (1 / 2) (evP (amV l) (lvV (amV l))) (loP (amV l) (lvV (amV l)))=yg (hvP (amV l) (lvV (amV l))):=by
    unfold Xj;rw [show (1:Rat) - 1 / 2=1 / 2 by decide+kernel];rfl
   rw [e2,eu] at this;exact this.mono (by show Uv 2+0<=2;decide)
 | .other r,l,h,nn,hs=>by
   have g:=(yy (r:=r) h nn).ful.std;refine DP.turned ?_ (YG (r:=r) h nn hs);rw [g.lastC];exact rL l
 | .ranks r,l,h,nn,hs=>by
   refine Bf (r:=r) (zS l) [] _ RkI.nil (by rw [jaE];exact (yF l).1) (λk _=>⟨yy (r:=r) h (yO nn _),YG (r:=r) h (yO nn _) (jbs (YV nn _) hs)⟩) λc hc=>?_;rw [Qq.mp hc];refine ⟨DQ.zero.mono (by omega),λx hx=>?_⟩;rw [List.eq_of_mem_replicate hx];exact DQ.zero.mono (by omega)
 | .groups a b,l,h,nn,hs=>by
   have ga:=yy (r:=a) h.1 (jz nn);have gb:=λ(g:Int) (_:g∈zG l)=>yy (r:=b) h.2 (yO nn (zI g));have nest:=VR (fa:=λl=>zo a l) (fb:=λl=>zo b l) ga.ful λg hg=>(gb g hg).ful;have da:=YG (t:=t) (r:=a) h.1 (jz nn) (by rw [cc];exact hs);have W:=kO nest (T:=zX (amQ (zM l))) (as:=amQ (zM l)) (by rw [ZR,<-Zt];exact ga.ful.std);have lk:=eN (fb:=λl=>zo b l) (l:=l) λg hg=>(gb g hg).ful;refine DP.spread (m:=0) (kG l) (λc hc=>by rw [(W.std.ok c hc).1,lk]) (DP.within (T:=(amV l).sum) nest da (λQ hQ=>?_) (λQ hQ=>?_) ?_ hs)
   ·obtain ⟨g,hg,rfl⟩:=Qj.mp hQ;exact YG (r:=b) h.2 (yO nn _) (jbs (YV nn _) hs)
   ·obtain ⟨g,hg,rfl⟩:=Qj.mp hQ;have st:=(gb g hg).ful.std;refine ⟨st.rise,λc hc=>?_⟩;have rg:=st.range hc;have:=jax.mpr (YV nn (zI g));rw [<-Xk] at this;exact ⟨rg.1,Tw rg.2 this⟩
   ·rw [ga.ful.std.lastC];show zX (amQ (zM l))<=_;rw [Xk,cc];exact QL
 | .upto t' b x y,l,h,nn,hs=>by
   have st:=(yy (r:=x) h.2.1 nn).ful.std;exact DP.upto (by have:=h.1.2.1;have:=h.1.2.2.1;omega) st (rL l) ((YG h.2.1 nn hs).mono (Nat.le_max_left ..)) ((YG h.2.2 nn hs).mono (Nat.le_max_right ..))
def WC:Rl->Nat
 | .halves=>2
 | .other r=>WC r
 | .ranks r=>WC r
 | .groups a b=>WC a+WC b+1
 | .upto _ _ x y=>WC x+WC y
 |_=>1
theorem ur (f:Int->Nat):∀ks:List Int,(((ks.map f).sum:Nat):Int)=(ks.map λk=>(f k:Int)).sum
 |[]=>rfl
 |k::ks=>by rw [Qn,QN,Qn,QN,<-ur f ks];omega
theorem kI {α:Type}:∀l:List α,(l.map λ_=>(1:Int)).sum=(l.length:Nat)
 |[]=>rfl
 |a::l=>by rw [Qn,QN,kI l,Qw];omega
theorem cA (key:Cl->Int) {gs:List Int} (hg:gs.Pairwise (·<·)) (l:List Cl) (h:∀c∈l,key c∈gs):(gs.map λg=>(l.filter λc=>decide (key c=g)).length).sum=l.length:=by
 have:=jB key (λ_=>1) hg l h;rw [kI] at this;have e:=ur (λg=>(l.filter λc=>decide (key c=g)).length) gs;have e2:(gs.map λg=>(((l.filter λc=>decide (key c=g)).length:Nat):Int))=gs.map λg=>((l.filter λc=>decide (key c=g)).map λ_=>(1:Int)).sum:=TR λg _=>(kI _).symm;rw [e2,this] at e;omega
theorem Gj (f:List Cl->List zg) (l:List Cl) (P:List zg) (k:Int):(ZF f l P k).length<=P.length+((f (l.filter (zY k))).length - 1):=by
 unfold ZF;refine QI (Zs _).length_le ?_;unfold yx ym;simp only [Qy,Qa,jaK];omega
theorem kX {f:List Cl->List zg} {l:List Cl} {c:Nat}:∀(ks:List Int) (P:List zg),(∀k∈ks,(f (l.filter (zY k))).length<=c*(l.filter (zY k)).length+1)->(ks.foldl (ZF f l) P).length<=P.length+c*(ks.map λk=>(l.filter (zY k)).length).sum
 |[],P,_=>by simp
 |k::ks,P,h=>by
  have h1:=kX (c:=c) ks (ZF f l P k) λk' Mt=>h k' (Qd _ Mt);have h2:=Gj f l P k;have h3:=h k (Qb ..);rw [List.foldl_cons,Qn,QN,Nat.mul_add];omega
theorem CJ {P:List zg}:∀{Qs:List (List zg)} {k:Nat} {M:List Rat},(wpF P k Qs M).length<=M.length+(Qs.map List.length).sum
 |[],k,M=>by rw [wpF];simp
 |Q::Qs,k,M=>by
  rw [wpF];have h1:=CJ (P:=P) (Qs:=Qs) (k:=k+1) (M:=zK M (ZY P k Q));have h2:=Ur M (ZY P k Q)
  have h3:(ZY P k Q).length<=Q.length:=by
   unfold ZY;have:=jba (yS P k) (zm Q);unfold zm at this⊢;rw [Qa] at this;omega
  rw [Qn,QN];omega
theorem tS {f:Int->Nat} {g:Int->Nat} {c:Nat}:∀ks:List Int,(∀k∈ks,f k<=c*g k+1)->(ks.map f).sum<=c*(ks.map g).sum+ks.length
 |[],_=>by simp
 |k::ks,h=>by
  have h1:=tS (c:=c) ks λk' Mt=>h k' (Qd _ Mt);have h2:=h k (Qb ..);rw [Qn,QN,Qn,QN,Qw,Nat.mul_add];omega
theorem iU {g:Int->Nat}:∀ks:List Int,(∀k∈ks,1<=g k)->ks.length<=(ks.map g).sum
 |[],_=>by simp
 |k::ks,h=>by
  have h1:=iU ks λk' Mt=>h k' (Qd _ Mt);have h2:=h k (Qb ..);rw [Qn,QN,Qw];omega
theorem WW {l:List Cl} {g:Int} (hg:g∈zG l):1<=(l.filter (zI g)).length:=by
 obtain ⟨c,hc,rfl⟩:=Qj.mp (((yn l).2 g).mp hg);exact jaO (Tu.mpr ⟨hc,QQ rfl⟩)
theorem dN {l:List Cl} {g:Int} (hg:g∈zS l):1<=(l.filter (zY g)).length:=by
 obtain ⟨c,hc,rfl⟩:=Qj.mp (((yF l).2 g).mp hg);exact jaO (Tu.mpr ⟨hc,QQ rfl⟩)
theorem WX (l:List Cl):(zG l).length<=l.length:=by
 have h1:=cA (·.2.2) (yn l).1 l λc hc=>((yn l).2 _).mpr (Qj.mpr ⟨c,hc,rfl⟩);have h2:=iU (g:=λg=>(l.filter (zI g)).length) (zG l) λk hk=>WW hk;rw [<-h1];exact h2
theorem YF:∀{r:Rl} {l:List Cl},POk r->(∀c∈l,0<=c.1)->(zo r l).length<=WC r*l.length+1
 | .shares,l,_,_=>by
   show (shP (amV l)).length<=1*l.length+1;unfold shP
   split
   ·simp
   ·rename_i c;have:l≠[]:=λz=>c (by rw [z];rfl);have:=jaB.mpr this;simp only [Qw,List.length_nil];omega
 | .evenly,l,_,nn=>by
   have f:=(WB (XX nn)).few;rw [xm] at f;show (evP _ _).length<=1*l.length+1;unfold evP;rw [Qa];omega
 | .losses,l,_,nn=>by
   have f:=(WB (XX nn)).few;rw [xm] at f;show (loP _ _).length<=1*l.length+1;unfold loP;rw [Qa,Tj];omega
 | .halves,l,_,nn=>by
   have f:=(WB (XX nn)).few;rw [xm] at f;show (yg _).length<=2*l.length+1;refine QI (Zs _).length_le ?_;unfold hvP hfA hfB yx zP evP loP;simp only [Qy,Qa,jaK,Tj];omega
 | .other r,l,h,nn=>by
   show (yj _).length<=WC r*l.length+1;unfold yj;rw [Qa,Tj];exact YF (r:=r) h nn
 | .ranks r,l,h,nn=>by
   have h1:=kX (f:=λl=>zo r l) (l:=l) (c:=WC r) (zS l) (jx l.length) λk _=>YF (r:=r) h (yO nn _);have h2:=cA (·.2.1) (yF l).1 l λc hc=>((yF l).2 _).mpr (Qj.mpr ⟨c,hc,rfl⟩);have e:((zS l).map λk=>(l.filter (zY k)).length).sum=l.length:=h2;rw [e] at h1;show (Yp (λl=>zo r l) l).length<=WC r*l.length+1;have z:(jx l.length).length=1:=rfl;unfold Yp;omega
 | .groups a b,l,h,nn=>by
   have ha:=YF (r:=a) h.1 (jz nn);rw [Zt] at ha;have G:=WX l;have h2:=cA (·.2.2) (yn l).1 l λc hc=>((yn l).2 _).mpr (Qj.mpr ⟨c,hc,rfl⟩);have e:((zG l).map λk=>(l.filter (zI k)).length).sum=l.length:=h2;have hb:=tS (f:=λg=>(zo b (l.filter (zI g))).length) (g:=λg=>(l.filter (zI g)).length) (c:=WC b) (zG l) λk _=>YF (r:=b) h.2 (yO nn _);rw [e] at hb;have w:=CJ (P:=zo a (zM l)) (Qs:=zQ (λl=>zo b l) l) (k:=0) (M:=zm (zo a (zM l)))
   have eq:(zQ (λl=>zo b l) l).map List.length=(zG l).map λg=>(zo b (l.filter (zI g))).length:=by
    unfold zQ;rw [QR];rfl
   rw [eq] at w;have pl:(zm (zo a (zM l))).length=(zo a (zM l)).length:=by unfold zm;rw [Qa]
   rw [pl] at w;show (WE (λl=>zo a l) (λl=>zo b l) l).length<=(WC a+WC b+1)*l.length+1;unfold WE ym yG wpV;rw [Qa,Qa];show (wpF (zo a (zM l)) 0 (zQ (λl=>zo b l) l) (zm (zo a (zM l)))).length<=_;have m1:=Nat.mul_le_mul_left (WC a) G;rw [Nat.add_mul,Nat.add_mul,Nat.one_mul];omega
 | .upto t b x y,l,h,nn=>by
   have h1:=YF (r:=x) h.2.1 nn;have h2:=YF (r:=y) h.2.2 nn;show (Xj _ _ _).length<=(WC x+WC y)*l.length+1;unfold Xj;refine QI (Zs _).length_le ?_;unfold yx zP;simp only [Qy,Qa,jaK];rw [Nat.add_mul];omega
structure ClS (t:Nat) (l:List Cl):Prop where
 pos:0<l.length
 few:l.length<=8
 nn:∀c∈l,0<=c.1/\0<=c.2.1/\0<=c.2.2
 sum:(amV l).sum<=2 ^ t
theorem iS:∀{as:List Int},(∀a∈as,0<=a)->∀a∈as,a<=as.sum
 |[],_,a,h=>absurd h Qv
 |b::as,nn,a,h=>by
  have h0:=nn b (Qb ..);have hs:=cR λx hx=>nn x (Qd _ hx);rw [QN]
  rcases Ql.mp h with rfl|h
  ·omega
  ·have:=iS (λx hx=>nn x (Qd _ hx)) a h;omega
section
variable {t:Nat} {l:List Cl} {r:Rl}
theorem Aq {x:Int} (h0:0<=x) (h:x<=2 ^ t):Sz (t+1) x:=by
 unfold Sz;have e:(2:Int) ^ t=((2 ^ t:Nat):Int):=by rw [Int.natCast_pow];rfl
 have p:0<2 ^ t:=Nat.pow_pos (by decide);rw [e] at h;rw [Nat.pow_succ];omega
theorem ClS.n1 (h:ClS t l):∀c∈l,0<=c.1:=λc hc=>(h.nn c hc).1
theorem ClS.ok (h:ClS t l) (ht:t<=150):ClOk 160 l:=⟨h.pos,h.few,h.nn,λc hc=>(Aq (h.nn c hc).1 (jbs (iS (XX h.n1) c.1 (Qj.mpr ⟨c,hc,rfl⟩)) h.sum)).mono (by omega)⟩
theorem ClS.filter (h:ClS t l) (p:Cl->Bool) (pos:1<=(l.filter p).length):ClS t (l.filter p):=⟨pos,QI (List.length_filter_le _ _) h.few,λc hc=>h.nn c (Tu.mp hc).1,jbs (YV h.n1 p) h.sum⟩
theorem CC:∀{l:List Int},(∀x∈l,0<=x)->0<=vN l
 |[],_=>jbT _
 |[a],h=>h a (Qb ..)
 |a::b::l,h=>by
  have h1:=h a (Qb ..);have h2:=CC (l:=b::l) λx hx=>h x (Qd _ hx);rw [vN]
  ·omega
  ·simp
theorem ClS.sums (h:ClS t l):ClS t (zM l):=by
 refine ⟨?_,by rw [Zt];exact QI (WX l) h.few,λc hc=>?_,by rw [cc];exact h.sum⟩
 ·rw [Zt];obtain ⟨c,hc⟩:=List.exists_mem_of_length_pos h.pos;exact jaO (((yn l).2 _).mpr (Qj.mpr ⟨c,hc,rfl⟩))
 ·obtain ⟨g,hg,rfl⟩:=Qj.mp hc;refine ⟨cR (XX (yO h.n1 _)),CC λx hx=>?_,?_⟩
  ·obtain ⟨c,hc,rfl⟩:=Qj.mp hx;exact (h.nn c (Tu.mp hc).1).2.1
  ·obtain ⟨c,LX,rfl⟩:=Qj.mp (((yn l).2 g).mp hg);exact (h.nn c LX).2.2
theorem DQ.sz {d:Nat} {x:Rat} {T:Int} (h:DQ d x) (x0:0<=x) (xT:x<=(T:Rat)) (T0:0<=T) (hT:T<=2 ^ t):SzQ (t+d+2) x:=by
 obtain ⟨D,pD,hD⟩:=h;exact (hD.sz pD.1 (Aq (jbO pD.1) pD.2) x0 xT ⟨T,rfl,Aq T0 hT⟩).mono (by omega)
theorem HZ {m d t:Nat} {T:Rat} {as:List Rat} {P:List zg} {Z:Int} (h:Ful m T as P) (hd:DP d P) (hT:T<=(Z:Rat)) (Z0:0<=Z) (hZ:Z<=2 ^ t):∀c∈P,SzC (t+d+2) c:=λc hc=>by
 have rg:=h.std.range hc;have cT:c.1<=(Z:Rat):=Tw rg.2 hT
 have nn:∀q∈c.2,0<=q:=λq hq=>by
  obtain ⟨i,hi⟩:=Qr.mp hq;exact h.std.nn h.mono c hc i q hi
 have le:=(Xz nn).2;rw [(h.std.ok c hc).2] at le;exact ⟨(hd c hc).1.sz rg.1 cT Z0 hZ,λx hx=>((hd c hc).2 x hx).sz (nn x hx) (Tw (le x hx) cT) Z0 hZ⟩
theorem all_sz (h:POk r) (ok:ClS t l):∀c∈zo r l,SzC (t+Wc t r+2) c:=
 HZ (yy h ok.n1).ful (YG h ok.n1 ok.sum) (by rw [Xk];exact QL) (cR (XX ok.n1)) ok.sum
structure RuS (t:Nat) (r:Rl):Prop where
 pok:POk r
 ht:t<=150
 den:t+Wc t r+2<=700
 len:WC r<=50
theorem RuS.other (h:RuS t (.other r)):RuS t r:=⟨h.pok,h.ht,h.den,h.len⟩
theorem RuS.ranks (h:RuS t (.ranks r)):RuS t r:=⟨h.pok,h.ht,h.den,h.len⟩
theorem RuS.groups {a b:Rl} (h:RuS t (.groups a b)):RuS t a/\RuS t b:=by
 have d:=h.den;have f:=h.len;simp only [Wc] at d;simp only [WC] at f;exact ⟨⟨h.pok.1,h.ht,by omega,by omega⟩,⟨h.pok.2,h.ht,by omega,by omega⟩⟩
theorem RuS.upto {a b:Int} {x y:Rl} (h:RuS t (.upto a b x y)):RuS t x/\RuS t y:=by
 have d:=h.den;have f:=h.len;simp only [Wc] at d;simp only [WC] at f;exact ⟨⟨h.pok.2.1,h.ht,by omega,by omega⟩,⟨h.pok.2.2,h.ht,by omega,by omega⟩⟩
theorem RuS.few (h:RuS t r) (ok:ClS t l):(zo r l).length<=401:=by
 have f:=YF h.pok ok.n1;have m:=Nat.mul_le_mul h.len ok.few;omega
theorem RuS.gf (h:RuS t r) (ok:ClS t l):GF r l (zo r l):=yy h.pok ok.n1
theorem RuS.R (h:RuS t r) (ok:ClS t l):PathR 700 (zo r l):=by
 have g:=(h.gf ok).ful.std;have f:=h.few ok;have e8:=ok.few;refine ⟨g.ne,λc hc=>(all_sz h.pok ok c hc).mono h.den,λc hc=>by rw [(g.ok c hc).1];omega,by omega,g.rise,λc hc=>?_⟩;rw [g.head] at hc;cases hc;rfl
theorem RuS.inn (h:RuS t r) (ok:ClS t l):PathIn (zo r l):=by
 have R:=h.R (l:=l) ok;have f:=h.few ok;exact ⟨R.ne,λc hc=>(R.sz c hc).mono (by decide),R.len,by omega⟩
end
section
variable {X:Cx}
def rMinL (K:PySem.W.Frag):List V->Hp->VK->Prop:=λxs H Q=>∃(p:Addr) (ns:List Int),xs=[.ref p]/\SqL K H p (ns.map V.int)/\0<ns.length/\∀m,m∈ns->(∀x∈ns,m<=x)->Q (.int m) H
theorem call_minL (hc:X.calm=true):Wb X (.builtin "min") (rMinL X.K):=by
 intro pins s σ H xs us Q I r h;obtain ⟨p,ns,rfl,hq,Ma,q⟩:=h;obtain ⟨u,rfl,rx⟩:=UI r;cases rx;obtain ⟨its,rv,pl,hz⟩:=I.list hq;have ht:=pl.isList;have hi:=WV rv;have hl:=hi.length;have below:p≠s.heap.objs.size:=let ⟨_,e,_⟩:=ht;QM (Qt e)
 refine call_min_walk (jaM ht ⟨_,_,_,_,_,_,_,rfl,Walks.list (A:=X.A.in1) (I.ok.hd hc) _ p below its.toArray,⟨⟨_,Qu _ rfl,rfl,rfl⟩,ht.push _⟩,λb hb=>?_,by simpa using (by omega:0<its.length),CmpOf.ints_lt (λi=>ns.getD i 0) (cB hi),λv h' tk hP hk=>?_⟩)
 ·rw [QU]
  rcases Ql.mp hb with z|z
  ·rw [z];exact Th _
  ·rw [Qq.mp z];obtain ⟨_,e,_⟩:=ht;exact TM (Qt e)
 ·obtain ⟨t,rfl⟩:=cB hi _ v hP;obtain ⟨h1,h2⟩:=argBest_lt (λi=>ns.getD i 0) (its.toArray.size - 1);have szn:its.toArray.size=ns.length:=by simpa using hl
  rw [szn] at h1 h2;rw [szn];refine ⟨.int _,H,I.kept (t':=tk) λb o e=>hk b o (λz=>?_) (Qh _ e),⟨t,rfl⟩,q _ ?_ λx hx=>?_⟩
  ·rw [Qq.mp z] at e;exact absurd (Qt e) (jaw _)
  ·dsimp only;rw [Qo,Qc (by omega)];exact Te _
  ·obtain ⟨j,hj,rfl⟩:=jah hx;have:=h2 j (by omega);rwa [show ns.getD j 0=ns[j] by rw [Qo,Qc hj];rfl] at this
end
section
variable {B G0 H:Hp} {cs:yk} {ds:Dat} {Q:VK} {E:XK} {v w u:V} {K:PySem.W.Frag} {L:Addr}
theorem Jg {ns:List Int} (S:Sta B G0 H cs ds) (h:(L,ns.map PyData.int)∈cs) (hn:0<ns.length) (k:∀m,m∈ns->(∀x∈ns,m<=x)->Q (.int m) H):rMinL K [.ref L] H Q:=by
 obtain ⟨vs,hp,u⟩:=S.vwC h;obtain ⟨G,S'⟩:=id S;rw [yM (u G S')] at hp;exact ⟨L,ns,rfl,SqL.of hp,hn,k⟩
end
theorem dZ {n:Nat} {e:Rat}:∀{a:List zg},(∀c∈a,c.2.length<=n)->(zh a e).length<=n
 |[],_=>by simp [zh]
 |[c],h=>h c (Qb ..)
 |c::d::r,h=>by
  rw [zh]
  split
  ·unfold Yg;rw [QE];have:=h c (Qb ..);omega
  ·exact dZ λx hx=>h x (Qd _ hx)
theorem Dp {n:Nat}:∀{Qs:List (List zg)} {ps:List Rat} (i:Nat),(∀Q∈Qs,∀c∈Q,c.2.length<=n)->((List.zipWith zh Qs ps).take i).flatten.length<=n*Qs.length
 |[],ps,i,_=>by simp
 |Q::Qs,[],i,_=>by simp
 |Q::Qs,p::ps,0,_=>by simp
 |Q::Qs,p::ps,i+1,h=>by
  have ih:=Dp (ps:=ps) i λQ' hQ=>h Q' (Qd _ hQ);have:=dZ (e:=p) (h Q (Qb ..));rw [jaa,List.take_succ_cons,TL,Qy,Qw,Nat.mul_succ];omega
theorem getD_some {l:List Rat} {k:Nat} (h:k<l.length):l[k]? =some (l.getD k 0):=by rw [Qo,Qc h];rfl
theorem Ez {P:List zg} {Qs:List (List zg)} {M:List Rat} {i:Nat} {e:Rat} (h:e∈wpF P 0 (Qs.take i) M):e∈wpF P 0 Qs M:=by
 rcases ar.mp h with h|⟨j,Q,h1,h2⟩
 ·exact ar.mpr (.inl h)
 ·refine ar.mpr (.inr ⟨j,Q,?_,h2⟩);rw [List.getElem?_take] at h1
  split at h1
  ·exact h1
  ·cases h1
theorem Hm {α:Type} {G:List α} {x y:α}:atI (G++[x,y]) (-2)=some x:=by
 unfold atI ixN;rw [QP (by decide),QH (by simp;omega)];show (G++[x,y])[_]? =_;rw [show ((-2:Int)+((G++[x,y]).length:Nat)).toNat=G.length by simp;omega]
 simp
section
variable {B G0 H:Hp} {cs:yk} {ds:Dat} {Q:VK} {E:XK} {v w u:V} {K:PySem.W.Frag} {xs ys:List PyData} {vs:List V} {R:It->Hp->Prop}
theorem tu (S:Sta B G0 H cs ds) (h:Has ds (.tuple xs) v) (h2:Has ds (.list ys) w) (k:∀J,Wk B G0 J (ID xs ys) (λcs ds=>Has ds (.tuple xs) v/\(∀x u,Has ds (.list ys) w->Has ((x,u)::ds) (.list ys) w)/\Has ds (.list ys) w)->R J H):kZi false true K R [v,w] H:=by
 obtain ⟨p,vs,rfl,hp,_⟩:=S.tup h;obtain ⟨q,ws,rfl,hq,_⟩:=S.lst h2;exact ⟨p,q,rfl,⟨_,SqT.of hp⟩,⟨_,SqL.of hq⟩,k _ (Hx cX cf)⟩
def jO:Sp:=spT (α:=List zg×Rat) (λa=>[zE a.1,frD a.2]) (λa=>∃m n,PathR0 n a.1/\SzQ m a.2/\m+4*n+1<=8999) (λa=>zO (Yb a.1 a.2))
theorem Uj {a:List zg} {e:Rat} {m n:Nat} (S:Sta B G0 H cs ds) (h1:Has ds (zE a) v) (h2:Has ds (frD e) w) (ok:PathR0 n a) (z:SzQ m e) (hz:m+4*n+1<=8999)
 (k:∀r H',zL H H'->Sta B G0 H' cs ((zO (Yb a e),r)::ds)->Q r H'):jO [v,w] H Q E:=
 Zw (a,e) S (.cons h1 (.cons h2 .nil)) ⟨m,n,ok,z,hz⟩ k
structure ReachOk (m k n b:Nat) (P:List zg) (L:List Rat):Prop where
 pm:PathM m P
 pr:PathR0 n P
 kn:k<m
 lev:∀l∈L,SzQ b l/\∀c,P[0]? =some c->c.2.getD k 0<=l
 sz:b+6*n+4<=8999
 few:L.length<=450
def pZ:Sp:=spL (α:=List zg×Nat×List Rat) (λa=>[zE a.1, .int (a.2.1:Nat), .list (a.2.2.map frD)]) (λa=>∃m n b,ReachOk m a.2.1 n b a.1 a.2.2) (λa=>(a.2.2.filterMap (yS a.1 a.2.1)).map frD)
theorem EW {P:List zg} {k m n b:Nat} {L:List Rat} (S:Sta B G0 H cs ds) (h1:Has ds (zE P) v) (h3:Has ds (.list (L.map frD)) u) (ok:ReachOk m k n b P L)
 (q:∀p H',zL H H'->Sta B G0 H' ((p,(L.filterMap (yS P k)).map frD)::cs) ds->Q (.ref p) H'):pZ [v, .int (k:Nat),u] H Q E:=
 Zd (P,k,L) S (.cons h1 (.cons .int (.cons h3 .nil))) ⟨m,n,b,ok⟩ q
end
section
variable {P:List zg} {Qs:List (List zg)}
theorem PathR.r0 {n:Nat} {a:List zg} (h:PathR n a):PathR0 n a:=⟨h.ne,h.sz,h.len,h.few,h.rise⟩
end
theorem cy:∀(xs ys:List Rat),xs.length<=(zK xs ys).length
 |[],ys=>TH _
 |x::xs,[]=>by rw [zK];exact Qp _
 |x::xs,y::ys=>by
  have h1:=cy xs (y::ys);have h2:=cy xs ys;have h3:=cy (x::xs) ys;rw [zK]
  split
  ·simp only [Qw] at*;omega
  ·split
   ·simp only [Qw] at*;omega
   ·simp only [Qw] at*;omega
termination_by xs ys=>xs.length+ys.length
structure PWO (P:List zg) (Qs:List (List zg)) (e:Rat):Prop where
 p:PathR 700 P
 q:∀Q∈Qs,PathR 700 Q/\∀c∈Q,c.2.length<=8
 len:(zh P e).length=Qs.length
 few:Qs.length<=8
 ez:SzQ 700 e
 e0:0<=e
 part:∀p∈zh P e,SzQ 700 p/\0<=p
structure WithO (P:List zg) (Qs:List (List zg)):Prop where
 nest:Nest P Qs
 pr:PathR 700 P
 qr:∀Q∈Qs,PathR 700 Q/\∀c∈Q,c.2.length<=8
 szM:∀e∈wpV P Qs,SzQ 700 e/\∀p∈zh P e,SzQ 700 p
 ql:∀Q∈Qs,Q.length<=401
 pl:P.length<=401
 few:Qs.length<=8
 lenV:(wpV P Qs).length<=401
section
variable {B G0 H:Hp} {cs:yk} {ds:Dat} {Q:VK} {E:XK} {v w u:V} {K:PySem.W.Frag} {xs ys:List PyData} {vs:List V} {P:List zg} {Qs:List (List zg)}
def UN:Sp:=spT (α:=List zg×List (List zg)×Rat) (λa=>[zE a.1, .list (a.2.1.map zE),frD a.2.2]) (λa=>PWO a.1 a.2.1 a.2.2) (λa=>zO (yU a.2.1 (zh a.1 a.2.2)))
theorem qD {e:Rat} (S:Sta B G0 H cs ds) (h1:Has ds (zE P) v) (h2:Has ds (.list (Qs.map zE)) w) (h3:Has ds (frD e) u) (ok:PWO P Qs e)
 (k:∀r H',zL H H'->Sta B G0 H' cs ((zO (yU Qs (zh P e)),r)::ds)->Q r H'):UN [v,w,u] H Q E:=
 Zw (P,Qs,e) S (.cons h1 (.cons h2 (.cons h3 .nil))) ok k
def VX:Sp:=spL (α:=List zg×List (List zg)) (λa=>[zE a.1, .list (a.2.map zE)]) (λa=>WithO a.1 a.2) (λa=>(yG a.1 a.2).map zu)
theorem vh (S:Sta B G0 H cs ds) (h1:Has ds (zE P) v) (h2:Has ds (.list (Qs.map zE)) w) (ok:WithO P Qs)
 (k:∀p H',zL H H'->Sta B G0 H' ((p,(yG P Qs).map zu)::cs) ds->Q (.ref p) H'):VX [v,w] H Q E:=
 Zd (P,Qs) S (.cons h1 (.cons h2 .nil)) ok k
theorem Gi {P:List zg} {Qs:List (List zg)} {M:List Rat} (i:Nat):(wpF P 0 (Qs.take i) M).length<=(wpF P 0 Qs M).length:=by
 have mono:∀(Qs:List (List zg)) (k:Nat) (M:List Rat),M.length<=(wpF P k Qs M).length:=by
  intro Qs
  induction Qs with
  |nil=>intro k M;rw [wpF];exact Qp _
  |cons Q Qs ih=>
   intro k M;rw [wpF];refine QI ?_ (ih (k+1) _);exact cy M _
 have:∀(Qs:List (List zg)) (i k:Nat) (M:List Rat),(wpF P k (Qs.take i) M).length<=(wpF P k Qs M).length:=by
  intro Qs
  induction Qs with
  |nil=>intro i k M;rw [List.take_nil];exact Qp _
  |cons Q Qs ih=>
   intro i k M
   cases i with
   |zero=>rw [List.take_zero,wpF];exact mono _ k M
   |succ i=>rw [List.take_succ_cons,wpF,wpF];exact ih i (k+1) _
 exact this Qs i 0 M
theorem WithO.len (h:WithO P Qs) (i:Nat):(wpF P 0 (Qs.take i) (zm P)).length<=401:=QI (Gi i) h.lenV
theorem WithO.pw (h:WithO P Qs) {e:Rat} (he:e∈wpV P Qs):PWO P Qs e:=by
 have r:=h.nest.in_range he;refine ⟨h.pr,h.qr,h.nest.plen e,h.few,(h.szM e he).1,r.1,λp hp=>⟨(h.szM e he).2 p hp,?_⟩⟩;obtain ⟨k,hk⟩:=Qr.mp hp;have OO:k<Qs.length:=by rw [<-h.nest.plen e];exact (Qf.mp hk).1
 exact (h.nest.range r.1 r.2 (Qc OO) hk).1
theorem WithO.reach (h:WithO P Qs) {k:Nat} {Q:List zg} (hk:Qs[k]? =some Q):ReachOk Qs.length k 700 700 P (zm Q):=by
 have hQ:=Qe hk;have OO:k<Qs.length:=(Qf.mp hk).1;refine ⟨h.nest.pm,h.pr.r0,OO,λl hl=>?_,by decide,by unfold zm;rw [Qa];have:=h.ql Q hQ;omega⟩;obtain ⟨c,hc,rfl⟩:=Qj.mp hl;refine ⟨((h.qr Q hQ).1.sz c hc).1,λd hd=>?_⟩;obtain ⟨r,e⟩:=h.nest.p0;rw [e] at hd;cases hd;rw [Qo,QS,QH OO];exact (h.nest.qpos hk c hc).1
theorem vo {L:Addr} {ys:List PyData} (S:Sta B G0 H ((L,xs)::cs) ds) (hy:Has ds (.list ys) w) (hz:xs.length+ys.length<=1000) (k:∀H',Sta B G0 H' ((L,xs++ys)::cs) ds->Q .non H'):BM (.ref L) [w] H Q:=by
 obtain ⟨p,us,e,hp,hl,S2,al⟩:=S.lstAll hy;obtain ⟨vs,hL,Mq,put⟩:=S2.put;subst e;refine ⟨L,p,vs,us,rfl,rfl,hL,hp,?_,k _ ((put (xs++ys) (vs++us) λG a b=>b.app (al G a)).weak (jaZ _) λq hq=> .mem (QA _ hq))⟩;rw [<-hl,<-Mq];exact QI hz (jai rfl)
theorem Jd {L:Addr} {d:PyData} {n:Nat} (S:Sta B G0 H cs ds) (h:(L,[d])∈cs) (hn:n<=1000) (k:∀l H',zL H H'->Sta B G0 H' ((l,List.replicate n d)::cs) ds->Q (.ref l) H'):rRep (.ref L) (.int (n:Int)) H Q:=by
 obtain ⟨vs,hp,hl,S2,_⟩:=S.cellAll h;obtain ⟨z,rfl⟩:=List.length_eq_one_iff.mp hl.symm
 ·refine ⟨L,(n:Int),_,rfl,rfl,hp,by omega,by omega,?_,λp ML=>?_⟩
  ·show 1*n<=sizeLine;have:1000<=sizeLine:=by decide
   omega
  ·rw [TV];show Q (.ref p) (upd H p (.lst (List.replicate n [z]).flatten));rw [qA];have S3:Sta B G0 H cs ((d,z)::ds):=S2;refine k p _ (zL.new ML _) ((S3.newL (xs:=List.replicate n d) (vs:=List.replicate n z) ML λG a=>?_).dat λq hq=> .mem (Qd _ hq));have i1:Is G d z:=a (d,z) (Qb ..);clear hn k
   induction n with
   |zero=>rw [List.replicate_zero,List.replicate_zero,zC]
   |succ n ih=>rw [Td,Td,zC];exact ⟨_,_,rfl,i1,ih⟩
theorem dk (p:Rat) (i:Nat):∀(z:List (Rat×Nat)) (w:List Rat),xH (z++[(p,i)]) w=(xH z w).set i p
 |[],w=>rfl
 |(q,j)::z,w=>by rw [Ts,xH,xH,dk p i z]
theorem JW {n j:Nat} (h:j<n):ixN n (j:Int)=some j:=by
 unfold ixN;rw [QH (by omega),QH (by omega),TV]
theorem Dm {α β:Type} (p:α->Bool) (f:α->β):∀xs:List α,xs.filterMap (λj=>if p j=true then some (f j) else none)=(xs.filter p).map f
 |[]=>rfl
 |x::xs=>by
  rw [jaN,jbC,Dm p f xs]
  split
  ·rename_i h
   split at h
   ·cases h
   ·rw [QP (by assumption)]
  ·rename_i h
   split at h
   ·cases h;rw [QH (by assumption),Qn]
   ·cases h
theorem nS (p:Cl->Bool) (l:List Cl):(List.range l.length).filterMap (λj=>if p (l.getD j (0,0,0)) then some (PyData.int (j:Int)) else none)=(xx p l).map λ(i:Nat)=>PyData.int (i:Int):=by
 unfold xx;exact Dm (λj=>p (l.getD j (0,0,0))) (λ(j:Nat)=>PyData.int (j:Int)) _
theorem qT:∀{l:List Int} {x:Int},x∈l->vN l<=x/\vN l∈l
 |[],x,h=>absurd h Qv
 |[a],x,h=>by rw [Qq.mp h,vN];exact ⟨jbT _,jbf _⟩
 |a::b::l,x,h=>by
  have e:vN (a::b::l)=min a (vN (b::l)):=by rw [vN];simp
  have ih:=qT (l:=b::l) (Qb ..);rw [e];refine ⟨?_,?_⟩
  ·rcases Ql.mp h with rfl|h
   ·omega
   ·have:=(qT (l:=b::l) h).1;omega
  ·rcases Int.le_total a (vN (b::l)) with z|z
   ·rw [Int.min_eq_left z];exact Qb ..
   ·rw [Int.min_eq_right z];exact Qd _ ih.2
theorem JM {l:List Int} {m:Int} (h:m∈l) (low:∀x∈l,m<=x):m=vN l:=by
 have:=qT h;have:=low _ this.2;omega
def plD (pl:List Nat):PyData:= .list (pl.map λ(i:Nat)=>PyData.int (i:Int))
def cY:Sp:=spL (α:=List Cl×List Nat) (λa=>[zA a.1,plD a.2]) (λa=>(∀i∈a.2,i<a.1.length)/\a.2.length<=8) (λa=>(VQ (0,0,0) a.2 a.1).map yc)
theorem kC {l:List Cl} {pl:List Nat} (S:Sta B G0 H cs ds) (h1:Has ds (zA l) v) (h2:Has ds (plD pl) w) (lt:∀i∈pl,i<l.length) (few:pl.length<=8) (k:∀p H',zL H H'->Sta B G0 H' ((p,(VQ (0,0,0) pl l).map yc)::cs) ds->Q (.ref p) H'):cY [v,w] H Q E:=
 Zd (l,pl) S (.cons h1 (.cons h2 .nil)) ⟨lt,few⟩ k
def Xl (p:Int->Cl->Bool):Sp:=spL (α:=List Cl×Int) (λa=>[zA a.1, .int a.2]) (λa=>a.1.length<=8) (λa=>(xx (p a.2) a.1).map λ(i:Nat)=>PyData.int (i:Int))
theorem nG {p:Int->Cl->Bool} {l:List Cl} {g:Int} (S:Sta B G0 H cs ds) (h1:Has ds (zA l) v) (few:l.length<=8) (k:∀q H',zL H H'->Sta B G0 H' ((q,(xx (p g) l).map λ(i:Nat)=>PyData.int (i:Int))::cs) ds->Q (.ref q) H'):Xl p [v, .int g] H Q E:=
 Zd (l,g) S (.cons h1 (.cons Has.int .nil)) few k
def EI:Sp:=spT (α:=List Cl×Int) (λa=>[zA a.1, .int a.2]) (λa=>0<a.1.length/\a.1.length<=8) (λa=>yc (Jv a.2 a.1))
theorem rd_one {l:List Cl} {g:Int} (S:Sta B G0 H cs ds) (h1:Has ds (zA l) v) (pos:0<l.length) (few:l.length<=8) (k:∀q H',zL H H'->Sta B G0 H' cs ((yc (Jv g l),q)::ds)->Q q H'):EI [v, .int g] H Q E:=
 Zw (l,g) S (.cons h1 (.cons Has.int .nil)) ⟨pos,few⟩ k
structure SpO (pl:List Nat) (n:Nat) (v:List Rat):Prop where
 pls:Pls n pl
 len:v.length=pl.length
 few:n<=8
def dd:Sp:=spT (α:=List Rat×List Nat×Nat) (λa=>[zO a.1,plD a.2.1, .int (a.2.2:Int)]) (λa=>SpO a.2.1 a.2.2 a.1) (λa=>zO (yd a.2.1 a.2.2 a.1))
theorem vj {pl:List Nat} {n:Nat} {x:List Rat} (S:Sta B G0 H cs ds) (h1:Has ds (zO x) v) (h2:Has ds (plD pl) w) (ok:SpO pl n x) (k:∀q H',zL H H'->Sta B G0 H' cs ((zO (yd pl n x),q)::ds)->Q q H'):dd [v,w, .int (n:Int)] H Q E:=
 Zw (x,pl,n) S (.cons h1 (.cons h2 (.cons Has.int .nil))) ok k
def VY:Sp:=spL (α:=List zg×List Nat×Nat) (λa=>[zE a.1,plD a.2.1, .int (a.2.2:Int)]) (λa=>(∀c∈a.1,SpO a.2.1 a.2.2 c.2)/\a.1.length<=450) (λa=>(ym a.2.1 a.2.2 a.1).map zu)
theorem nA {pl:List Nat} {n:Nat} {x:List zg} (S:Sta B G0 H cs ds) (h1:Has ds (zE x) v) (h2:Has ds (plD pl) w) (ok:∀c∈x,SpO pl n c.2) (few:x.length<=450) (k:∀q H',zL H H'->Sta B G0 H' ((q,(ym pl n x).map zu)::cs) ds->Q (.ref q) H'):VY [v,w, .int (n:Int)] H Q E:=
 Zd (x,pl,n) S (.cons h1 (.cons h2 (.cons Has.int .nil))) ⟨ok,few⟩ k
noncomputable def YK (t n:Nat):Sp:=spL (α:=Rl×List Cl) (λa=>[a.1.shape,zA a.2]) (λa=>(RuS t a.1/\a.1.deep<=n)/\ClS t a.2) (λa=>(zo a.1 a.2).map zu)
theorem Zo {t n:Nat} {r:Rl} {l:List Cl} (S:Sta B G0 H cs ds) (h1:Has ds r.shape v) (h:Has ds (zA l) w) (ru:RuS t r) (hn:r.deep<=n) (ok:ClS t l) (k:∀p H',zL H H'->Sta B G0 H' ((p,(zo r l).map zu)::cs) ds->Q (.ref p) H'):YK t n [v,w] H Q E:=Zd (r,l) S (.cons h1 (.cons h .nil)) ⟨⟨ru,hn⟩,ok⟩ k
noncomputable def jK (t n:Nat):Sp:=spL (α:=Rl×List Cl) (λa=>[a.1.shape,zA a.2]) (λa=>(RuS t a.1/\a.1.deep<=n)/\ClS t a.2) (λa=>(Yp (λl=>zo a.1 l) a.2).map zu)
theorem Br {t n:Nat} {r:Rl} {l:List Cl} (S:Sta B G0 H cs ds) (h1:Has ds r.shape v) (h:Has ds (zA l) w) (ru:RuS t r) (hn:r.deep<=n) (ok:ClS t l) (k:∀p H',zL H H'->Sta B G0 H' ((p,(Yp (λl=>zo r l) l).map zu)::cs) ds->Q (.ref p) H'):jK t n [v,w] H Q E:=Zd (r,l) S (.cons h1 (.cons h .nil)) ⟨⟨ru,hn⟩,ok⟩ k
noncomputable def df (t n:Nat):Sp:=spL (α:=(Rl×Rl)×List Cl) (λa=>[a.1.1.shape,a.1.2.shape,zA a.2]) (λa=>(RuS t (.groups a.1.1 a.1.2)/\a.1.1.deep<=n/\a.1.2.deep<=n)/\ClS t a.2) (λa=>(WE (λl=>zo a.1.1 l) (λl=>zo a.1.2 l) a.2).map zu)
theorem vk {t n:Nat} {a b:Rl} {l:List Cl} (S:Sta B G0 H cs ds) (h1:Has ds a.shape v) (h2:Has ds b.shape u) (h:Has ds (zA l) w) (ru:RuS t (.groups a b)) (ha:a.deep<=n) (hb:b.deep<=n) (ok:ClS t l) (k:∀p H',zL H H'->Sta B G0 H' ((p,(WE (λl=>zo a l) (λl=>zo b l) l).map zu)::cs) ds->Q (.ref p) H'):df t n [v,u,w] H Q E:=Zd ((a,b),l) S (.cons h1 (.cons h2 (.cons h .nil))) ⟨⟨ru,ha,hb⟩,ok⟩ k
noncomputable def jL (A:RAd) (t n:Nat):Sp:=spL (α:=Rl×List Cl) (λa=>[a.1.ins A,zA a.2]) (λa=>(RuS t a.1/\a.1.deep<=n)/\ClS t a.2) (λa=>(zo a.1 a.2).map zu)
theorem kE {A:RAd} {t n:Nat} {r:Rl} {l:List Cl} (S:Sta B G0 H cs ds) (h1:Has ds (r.ins A) v) (h:Has ds (zA l) w) (ru:RuS t r) (hn:r.deep<=n) (ok:ClS t l) (k:∀p H',zL H H'->Sta B G0 H' ((p,(zo r l).map zu)::cs) ds->Q (.ref p) H'):jL A t n [v,w] H Q E:=Zd (r,l) S (.cons h1 (.cons h .nil)) ⟨⟨ru,hn⟩,ok⟩ k
end
theorem Sta.rot3 {B G0 H:Hp} {cs:yk} {ds:Dat} {c1 c2 c3:Addr×List PyData} (S:Sta B G0 H (c1::c2::c3::cs) ds):Sta B G0 H (c3::c1::c2::cs) ds:=S.permC ((List.Perm.cons _ (List.Perm.swap _ _ _)).trans (List.Perm.swap _ _ _))
theorem oF:∀{Ls:List (List Nat)},(∀L∈Ls,L.length<=8)->Ls.flatten.length<=8*Ls.length
 |[],_=>by simp
 |L::Ls,h=>by
  have h1:=h L (Qb ..);have h2:=oF λL' hL=>h L' (Qd _ hL);rw [TL,Qy,Qw];omega
theorem Im {done:List Int}:∀{l:List Cl},(∀c∈l,0<=c.1)->zX (asD done l)<=zX (amQ l)
 |[],_=>QL
 |c::l,nn=>by
  have ih:=Im (done:=done) λx hx=>nn x (Qd _ hx);have h0:=rQ (nn c (Qb ..));have e1:asD done (c::l)=(if c.2.1∈done then (c.1:Rat) else 0)::asD done l:=rfl;have e2:amQ (c::l)=(c.1:Rat)::amQ l:=rfl;rw [e1,e2,zX,zX]
  split<;>grind
noncomputable def rkP (r:Rl) (l:List Cl) (i:Nat):List zg:=((zS l).take i).foldl (ZF (λl=>zo r l) l) (jx l.length)
section
variable {t:Nat} {r a b:Rl} {l:List Cl} {i:Nat} {k:Int}
theorem EU (hk:(zS l)[i]? =some k):rkP r l (i+1)=ZF (λl=>zo r l) l (rkP r l i) k:=by
 unfold rkP;rw [Tt,hk,List.foldl_append];rfl
theorem IX (r:Rl) (l:List Cl):rkP r l (zS l).length=Yp (λl=>zo r l) l:=by
 unfold rkP Yp;rw [List.take_length]
theorem rkP_ok (ru:RuS t r) (ok:ClS t l) (i:Nat):RkI r l ((zS l).take i) (rkP r l i)/\(∀c∈rkP r l i,SzC 700 c)/\(rkP r l i).length<=401:=by
 have pw:([]++(zS l).take i).Pairwise (·<·):=jaT (List.take_sublist _ _) (yF l).1;have gf:∀k∈(zS l).take i,GF r (l.filter (zY k)) (zo r (l.filter (zY k)))/\DP (Wc t r) (zo r (l.filter (zY k))):=λk _=>⟨yy ru.pok (yO ok.n1 _),YG ru.pok (yO ok.n1 _) (jbs (YV ok.n1 _) ok.sum)⟩;have R:=qw (f:=λl=>zo r l) ((zS l).take i) [] _ (RkI.nil (r:=r) (l:=l)) pw λk hk=>(gf k hk).1
 have D:=Bf (d:=Wc t r) (f:=λl=>zo r l) ((zS l).take i) [] _ (RkI.nil (r:=r) (l:=l)) pw gf λc hc=>by
  rw [Qq.mp hc];refine ⟨DQ.zero.mono (by omega),λx hx=>?_⟩;rw [List.eq_of_mem_replicate hx];exact DQ.zero.mono (by omega)
 rw [jaE] at R;refine ⟨R,λc hc=>?_,?_⟩
 ·have T0:=cR (XX ok.n1);have le:=Im (done:=(zS l).take i) ok.n1;rw [Xk] at le;exact (HZ R.ful D le T0 ok.sum c hc).mono ru.den
 ·have f:=kX (f:=λl=>zo r l) (l:=l) (c:=WC r) ((zS l).take i) (jx l.length) λk _=>YF ru.pok (yO ok.n1 _);have h2:=cA (·.2.1) (yF l).1 l λc hc=>((yF l).2 _).mpr (Qj.mpr ⟨c,hc,rfl⟩);have e:((zS l).map λk=>(l.filter (zY k)).length).sum=l.length:=h2
  have sub:(((zS l).take i).map λk=>(l.filter (zY k)).length).sum<=((zS l).map λk=>(l.filter (zY k)).length).sum:=by
   conv=>rhs;rw [<-List.take_append_drop i (zS l)]
   rw [QO,List.sum_append];omega
  rw [e] at sub;have m1:=Nat.mul_le_mul_left (WC r) sub;have m2:=Nat.mul_le_mul ru.len ok.few;have z:(jx l.length).length=1:=rfl;unfold rkP;omega
theorem BS {P:List zg} {m:Nat} {T:Rat} {as:List Rat} (st:Std m T as P) (hm:m<=8) (sz:∀c∈P,SzC 700 c) (few:P.length<=401):PathIn P:=
 ⟨st.ne,λc hc=>(sz c hc).mono (by decide),λc hc=>by rw [(st.ok c hc).1];omega,by omega⟩
theorem Ay {P:List zg} {pl:List Nat} {n:Nat} (hp:Pls n pl) (hl:∀c∈P,c.2.length=pl.length) (h:∀c∈P,SzC 700 c):∀c∈ym pl n P,SzC 700 c:=λc hc=>by
 obtain ⟨c,LX,rfl⟩:=Qj.mp hc;refine ⟨(h c LX).1,λx hx=>?_⟩;obtain ⟨i,hi⟩:=Qr.mp hx
 rcases xP hp (hl c LX) hi with ⟨j,_,hj⟩|⟨_,rfl⟩
 ·exact (h c LX).2 x (Qe hj)
 ·unfold SzQ Sz;decide
theorem Bh (ru:RuS t r) (ok:ClS t l) (hk:(zS l)[i]? =some k):
 PathIn (rkP r l i)/\PathIn (ym (xx (zY k) l) l.length (zo r (l.filter (zY k))))/\PathOk l.length (rkP r l i++yx (rkP r l i) (ym (xx (zY k) l) l.length (zo r (l.filter (zY k))))):=by
 obtain ⟨R,sz,few⟩:=rkP_ok ru ok i;have okk:=ok.filter (zY k) (dN (Qe hk));have g:=(ru.gf okk).ful;have Rk:=ru.R okk;have lk:=YE (zY k) l;have pk:=Vl (zY k) l;have gs:=g.spread pk lk;have szS:=Ay pk (λc hc=>by rw [(g.std.ok c hc).1,lk]) Rk.sz;have lenS:(ym (xx (zY k) l) l.length (zo r (l.filter (zY k)))).length<=401:=by unfold ym;rw [Qa];exact ru.few okk
 have st:=fM R.ful.std gs.std;refine ⟨BS R.ful.std ok.few sz few,BS gs.std ok.few szS lenS,λc hc=>?_,λc hc=>(st.ok c hc).1,by have:=ok.few;omega,?_⟩
 ·rcases QT.mp hc with z|z
  ·exact (sz c z).mono (by decide)
  ·obtain ⟨d,hd,rfl⟩:=Qj.mp z;have z1:=sz _ (oA R.ful.std.ne);have z2:=szS d (Tz hd);refine ⟨(z1.1.add z2.1).mono (by decide),λq hq=>?_⟩;obtain ⟨u,hu,v,hv,rfl⟩:=cM hq;exact ((z1.2 u hu).add (z2.2 v hv)).mono (by decide)
 ·unfold yx;simp only [Qy,Qa,jaK];omega
theorem Dd (ru:RuS t (.groups a b)) (ok:ClS t l):WithO (zo a (zM l)) (zQ (λl=>zo b l) l):=by
 obtain ⟨ra,rb⟩:=ru.groups;have oks:=ok.sums;have okg:∀g∈zG l,ClS t (l.filter (zI g)):=λg hg=>ok.filter (zI g) (WW hg);have ga:=ra.gf oks;have gb:=λg hg=>rb.gf (okg g hg);have nest:=VR (fa:=λl=>zo a l) (fb:=λl=>zo b l) ga.ful λg hg=>(gb g hg).ful;have T0:=cR (XX ok.n1)
 have hl:(lastC (zo a (zM l))).1<=(((amV l).sum:Int):Rat):=by
  rw [ga.ful.std.lastC];show zX (amQ (zM l))<=_;rw [Xk,cc];exact QL
 have dn:=ru.den;simp only [Wc] at dn;have G8:=WX l;have e8:=ok.few;refine ⟨nest,ra.R oks,λQ hQ=>?_,λe he=>?_,λQ hQ=>?_,ra.few oks,by rw [ZR];omega,?_⟩
 ·obtain ⟨g,hg,rfl⟩:=Qj.mp hQ;refine ⟨rb.R (okg g hg),λc hc=>?_⟩;rw [((gb g hg).ful.std.ok c hc).1];exact (okg g hg).few
 ·have D:=nest.den (YG (t:=t) ra.pok oks.n1 oks.sum) (b:=Wc t b) (λQ hQ=>by
   obtain ⟨g,hg,rfl⟩:=Qj.mp hQ
   exact YG rb.pok (okg g hg).n1 (okg g hg).sum) hl ok.sum he
  have rg:=nest.in_range he;refine ⟨(D.1.sz rg.1 (Tw rg.2 hl) T0 ok.sum).mono (by omega),λp hp=>?_⟩
  have nn:∀q∈zh (zo a (zM l)) e,0<=q:=λq hq=>by
   obtain ⟨k,hk⟩:=Qr.mp hq;have OO:k<(zQ (λl=>zo b l) l).length:=by rw [<-nest.plen e];exact (Qf.mp hk).1
   exact (nest.range rg.1 rg.2 (Qc OO) hk).1
  have le:=(Xz nn).2 p hp;rw [ga.ful.std.sum rg.1] at le;have mle:mn e (zX (amQ (zM l)))<=e:=by unfold mn;split<;>grind
  exact ((D.2 p hp).sz (nn p hp) (by have:=rg.2;grind) T0 ok.sum).mono (by omega)
 ·obtain ⟨g,hg,rfl⟩:=Qj.mp hQ;exact rb.few (okg g hg)
 ·have f:=ru.few ok
  have e:(zo (.groups a b) l).length=(wpV (zo a (zM l)) (zQ (λl=>zo b l) l)).length:=by
   show (WE (λl=>zo a l) (λl=>zo b l) l).length=_;unfold WE ym yG;rw [Qa,Qa]
  omega
theorem Df (ru:RuS t (.groups a b)) (ok:ClS t l):(∀c∈yG (zo a (zM l)) (zQ (λl=>zo b l) l),SpO (wZ l) l.length c.2)/\(yG (zo a (zM l)) (zQ (λl=>zo b l) l)).length<=450:=by
 obtain ⟨ra,rb⟩:=ru.groups;have w:=Dd ru ok;have okg:∀g∈zG l,ClS t (l.filter (zI g)):=λg hg=>ok.filter (zI g) (WW hg);have ga:=ra.gf ok.sums;have lk:=eN (fb:=λl=>zo b l) (l:=l) λg hg=>(rb.gf (okg g hg)).ful;have W:=kO w.nest (T:=zX (amQ (zM l))) (as:=amQ (zM l)) (by rw [ZR,<-Zt];exact ga.ful.std);refine ⟨λc hc=>⟨kG l,by rw [(W.std.ok c hc).1,lk],ok.few⟩,?_⟩;have:=w.lenV;unfold yG;rw [Qa];omega
theorem iK {P:List zg} {m:Nat} {p:Rat} (ok:PathIn P) (h:∀c∈P,SzC 700 c) (hp:SzQ m p) (hm:m<=1000):PathIn (zP p P):=by
 refine ⟨λe=>ok.ne (List.map_eq_nil_iff.mp e),λc hc=>(UQ h hp c hc).mono (by omega),λc hc=>?_,by unfold zP;rw [Qa];exact ok.few⟩;obtain ⟨d,hd,rfl⟩:=Qj.mp hc;rw [Qa];exact ok.len d hd
theorem RuS.up {t' b':Int} {x y:Rl} (h:RuS t (.upto t' b' x y)) (ok:ClS t l):UpOk (Rat.divInt t' b') (zo x l) (zo y l):=by
 obtain ⟨hx,hy⟩:=h.upto;have zp:=Jn h.pok.1;have one:SzQ 1 (1:Rat):=by unfold SzQ Sz;decide+kernel
 have zq:SzQ 212 (1 - Rat.divInt t' b'):=(one.sub zp).mono (by decide);have px:=hx.R (l:=l) ok;have py:=hy.R (l:=l) ok;have gx:=(hx.gf ok).ful.std;have gy:=(hy.gf ok).ful.std;have ix:=hx.inn (l:=l) ok;have iy:=hy.inn (l:=l) ok;have pi:=dS h.pok.1;have sx:=UQ px.sz zp;have sy:=UQ py.sz zq;have fx:=YF hx.pok ok.n1;have fy:=YF hy.pok ok.n1;have f:=h.len;simp only [WC] at f;have e8:=ok.few;have m1:=Nat.mul_le_mul (show WC x+WC y<=50 from f) e8;rw [Nat.add_mul] at m1;have st:=fM (Wj pi.1 gx) (Wj (show 0<1 - Rat.divInt t' b' by grind) gy);refine ⟨zp.mono (by decide),ix,iy,iK ix px.sz zp (by decide),iK iy py.sz zq (by decide),l.length,⟨λc hc=>?_,λc hc=>(st.ok c hc).1,by omega,?_⟩⟩
 ·rcases QT.mp hc with z|z
  ·exact (sx c z).mono (by decide)
  ·obtain ⟨d,hd,rfl⟩:=Qj.mp z;have a:=sx _ (oA (λe=>ix.ne (List.map_eq_nil_iff.mp e)));have b:=sy d (Tz hd);refine ⟨(a.1.add b.1).mono (by decide),λq hq=>?_⟩;obtain ⟨u,hu,v,hv,rfl⟩:=cM hq;exact ((a.2 u hu).add (b.2 v hv)).mono (by decide)
 ·unfold yx zP;simp only [Qy,Qa,jaK];omega
end
end S
namespace S
open PySem PySem.Spec PyProof.Rows L2
section
variable {B G0 H:Hp} {cs:yk} {ds:Dat} {Q:VK} {E:XK} {v w u:V} {K:PySem.W.Frag} {n:Nat} {r x y a b':Rl} {l:List Cl} {tk:List Int} {t b:Int} {k g:Int}
end
structure ClZ (size:Int) (l:List Cl):Prop where
 pos:0<l.length
 few:l.length<=8
 nn:∀c∈l,0<=c.1/\0<=c.2.1/\0<=c.2.2
 lt:∀c∈l,c.1<size
theorem cS {size:Int} (h0:0<=size):∀{as:List Int},(∀a∈as,a<size)->as.sum<=(as.length:Int)*size
 |[],_=>by simp
 |a::as,h=>by
  have h1:=h a (Qb ..);have h2:=cS h0 (as:=as) λx hx=>h x (Qd _ hx);rw [QN,Qw,Int.natCast_add,Int.add_mul];omega
theorem ClZ.S {size:Int} {l:List Cl} {s:Nat} (h:ClZ size l) (h0:0<=size) (hs:size<=2 ^ s):ClS (s+3) l:=by
 refine ⟨h.pos,h.few,h.nn,?_⟩
 have h1:=cS h0 (as:=amV l) λa ha=>by
  obtain ⟨c,hc,rfl⟩:=Qj.mp ha;exact h.lt c hc
 rw [xm] at h1;have h2:(l.length:Int)*size<=8*size:=Int.mul_le_mul_of_nonneg_right (by have:=h.few;omega) h0;rw [Int.pow_add];have e:(2:Int) ^ 3=8:=by decide
 rw [e];omega
section
variable {B G0 H:Hp} {cs:yk} {ds:Dat} {Q:VK} {E:XK} {v w u:V} {K:PySem.W.Frag}
def dg (K:PySem.W.Frag):Sp:=λvs H Q _=>∃(G:Hp) (a:Addr) (ns:List Int) (at' many size:Int),vs=[.ref a, .int at', .int many, .int size]/\zL G H/\SqL K H a (ns.map V.int)/\(0<=at'/\1<=many/\many<=8/\10<=size/\size<=10 ^ 46)/\
 ∀(l:List Cl) (p:Addr) (H' G':Hp) (us:List V),l.length=many.toNat->ClZ size l->Grow G H G' H'->H p=none->G' p=none->H' p=some (.lst us)->zC G' (l.map yc) us->Q (.ref p) H'
theorem vq {a:Addr} {ns:List Int} {at' many size:Int} (S:Sta B G0 H cs ds) (hS:SqL K H a (ns.map V.int)) (hb:0<=at'/\1<=many/\many<=8/\10<=size/\size<=10 ^ 46)
 (k:∀(l:List Cl) (p:Addr) (H':Hp),l.length=many.toNat->ClZ size l->zL H H'->Sta B G0 H' ((p,l.map yc)::cs) ds->Q (.ref p) H'):dg K [.ref a, .int at', .int many, .int size] H Q E:=by
 obtain ⟨G,S⟩:=S;exact ⟨G,a,ns,at',many,size,rfl,S.2.1,hS,hb,λl p H' G' us h1 h2 gr hp hg hu hv=>k l p H' h1 h2 gr.h (Sta.put_call S gr hp hg hu hv)⟩
end
def nd:Rl->Nat
 | .other r=>nd r+1
 | .ranks r=>nd r+1
 | .groups a b=>nd a+nd b+1
 | .upto _ _ x y=>nd x+nd y+1
 |_=>1
theorem eE:∀r:Rl,1<=nd r
 | .shares=>Qp _
 | .evenly=>Qp _
 | .losses=>Qp _
 | .halves=>Qp _
 | .other r=>by simp [nd]
 | .ranks r=>by simp [nd]
 | .groups a b=>by simp [nd]
 | .upto _ _ x y=>by simp [nd]
def PS6:Rl->Prop
 | .other r=>PS6 r
 | .ranks r=>PS6 r
 | .groups a b=>PS6 a/\PS6 b
 | .upto t b x y=>(WJ t b/\Uv b<=6)/\PS6 x/\PS6 y
 |_=>True
theorem PS6.pok:∀{r:Rl},PS6 r->POk r
 | .shares,_=>trivial
 | .evenly,_=>trivial
 | .losses,_=>trivial
 | .halves,_=>trivial
 | .other r,h=>PS6.pok (r:=r) h
 | .ranks r,h=>PS6.pok (r:=r) h
 | .groups a b,h=>⟨PS6.pok h.1,PS6.pok h.2⟩
 | .upto _ _ x y,h=>⟨h.1.1,PS6.pok h.2.1,PS6.pok h.2.2⟩
theorem eJ {t:Nat}:∀{r:Rl},PS6 r->(nd r<=2->Wc t r<=2)/\(nd r<=4->Wc t r<=18+2*t)/\(nd r<=6->Wc t r<=98+12*t)
 | .shares,_=>⟨λ_=>by simp only [Wc];omega,λ_=>by simp only [Wc];omega,λ_=>by simp only [Wc];omega⟩
 | .evenly,_=>⟨λ_=>by simp only [Wc];omega,λ_=>by simp only [Wc];omega,λ_=>by simp only [Wc];omega⟩
 | .losses,_=>⟨λ_=>by simp only [Wc];omega,λ_=>by simp only [Wc];omega,λ_=>by simp only [Wc];omega⟩
 | .halves,_=>⟨λ_=>by simp only [Wc];omega,λ_=>by simp only [Wc];omega,λ_=>by simp only [Wc];omega⟩
 | .other r,h=>by
   have ih:=eJ (t:=t) (r:=r) h;simp only [Wc,nd];exact ⟨λz=>ih.1 (by omega),λz=>ih.2.1 (by omega),λz=>ih.2.2 (by omega)⟩
 | .ranks r,h=>by
   have ih:=eJ (t:=t) (r:=r) h;simp only [Wc,nd];exact ⟨λz=>ih.1 (by omega),λz=>ih.2.1 (by omega),λz=>ih.2.2 (by omega)⟩
 | .groups a b,h=>by
   obtain ⟨a1,a2,a3⟩:=eJ (t:=t) (r:=a) h.1;obtain ⟨b1,b2,b3⟩:=eJ (t:=t) (r:=b) h.2;have pa:=eE a;have pb:=eE b;simp only [Wc,nd];refine ⟨λz=>absurd z (by omega),λz=>?_,λz=>?_⟩
   ·have:=a1 (by omega);have:=b1 (by omega);omega
   ·by_cases c:nd a<=2
    ·have:=a1 c
     by_cases d:nd b<=2
     ·have:=b1 d;omega
     ·have:=b2 (by omega);omega
    ·have:=a2 (by omega);have:=b1 (by omega);omega
 | .upto p b x y,h=>by
   obtain ⟨a1,a2,a3⟩:=eJ (t:=t) (r:=x) h.2.1;obtain ⟨b1,b2,b3⟩:=eJ (t:=t) (r:=y) h.2.2;have pa:=eE x;have pb:=eE y;have l6:=h.1.2;simp only [Wc,nd];refine ⟨λz=>absurd z (by omega),λz=>?_,λz=>?_⟩
   ·have:=a1 (by omega);have:=b1 (by omega);omega
   ·have:=a2 (by omega);have:=b2 (by omega);omega
theorem eH:∀r:Rl,WC r<=2*nd r
 | .shares=>by simp [WC,nd]
 | .evenly=>by simp [WC,nd]
 | .losses=>by simp [WC,nd]
 | .halves=>by simp [WC,nd]
 | .other r=>by have:=eH r;simp only [WC,nd];omega
 | .ranks r=>by have:=eH r;simp only [WC,nd];omega
 | .groups a b=>by have:=eH a;have:=eH b;simp only [WC,nd];omega
 | .upto _ _ x y=>by have:=eH x;have:=eH y;simp only [WC,nd];omega
theorem eI:∀r:Rl,r.deep<=nd r
 | .shares=>by simp [nd,Rl.deep]
 | .evenly=>by simp [nd,Rl.deep]
 | .losses=>by simp [nd,Rl.deep]
 | .halves=>by simp [nd,Rl.deep]
 | .other r=>by have:=eI r;simp only [nd,Rl.deep];omega
 | .ranks r=>by have:=eI r;simp only [nd,Rl.deep];omega
 | .groups a b=>by have:=eI a;have:=eI b;simp only [nd,Rl.deep];omega
 | .upto _ _ x y=>by have:=eI x;have:=eI y;simp only [nd,Rl.deep];omega
structure JOk (t k N:Nat) (r:Rl):Prop where
 ps:PS6 r
 pos:1<=N
 den:Wc t r<=98+12*t+6*k
 len:WC r<=2*N
 deep:r.deep<=N
 size:r.size<=N+k
theorem VS:∀r:Rl,r.size=nd r
 | .shares=>rfl
 | .evenly=>rfl
 | .losses=>rfl
 | .halves=>rfl
 | .other r=>by have:=VS r;simp only [Rl.size,nd];omega
 | .ranks r=>by have:=VS r;simp only [Rl.size,nd];omega
 | .groups a b=>by have:=VS a;have:=VS b;simp only [Rl.size,nd];omega
 | .upto _ _ x y=>by have:=VS x;have:=VS y;simp only [Rl.size,nd];omega
theorem JOk.of {t:Nat} {r:Rl} (h:PS6 r) (hn:nd r<=6):JOk t 0 (nd r) r:=
 ⟨h,eE r,by have:=(eJ (t:=t) h).2.2 hn;omega,eH r,eI r,by have:=VS r;omega⟩
theorem JOk.join {t k N M:Nat} {p b:Int} {x y:Rl} (hp:WJ p b) (hb:Uv b<=6) (hx:JOk t 0 M x) (hy:JOk t k N y):JOk t (k+1) (M+N) (.upto p b x y):=by
 have a:=hx.den;have c:=hy.den;have a2:=hx.len;have c2:=hy.len;have a4:=hx.deep;have c4:=hy.deep;have a5:=hx.pos;have c5:=hy.pos;have a6:=hx.size;have c6:=hy.size;exact ⟨⟨⟨hp,hb⟩,hx.ps,hy.ps⟩,by omega,by simp only [Wc];omega,by simp only [WC];omega,by simp only [Rl.deep];omega,by simp only [Rl.size];omega⟩
theorem JOk.ru {t k N:Nat} {r:Rl} (h:JOk t k N r) (ht:t<=36) (hk:k<=6) (hN:N<=7):RuS t r/\True/\r.deep<=7:=by
 have a:=h.den;have b:=h.len;have d:=h.deep;exact ⟨⟨h.ps.pok,by omega,by omega,by omega⟩,trivial,by omega⟩
theorem HU {b:Int} (h0:0<b) (h:b<=61):Uv b<=6:=by
 unfold Uv
 have:b.toNat.log2<=5:=by
  by_cases z:b.toNat=0
  ·rw [z];decide
  ·have:=(Nat.log2_lt z (k:=6)).mpr (by omega);omega
 omega
theorem Small.ps {t b:Int} (h:Small t b):WJ t b/\Uv b<=6:=⟨h.port,HU (by have:=h.port.2.1;have:=h.port.2.2.1;omega) h.le⟩
theorem Dn (n:Nat):PS6 (hV n)/\nd (hV n)=1:=by
 match n with
 |0=>exact ⟨trivial,rfl⟩
 |1=>exact ⟨trivial,rfl⟩
 |2=>exact ⟨trivial,rfl⟩
 |n+3=>exact ⟨trivial,rfl⟩
def ndS (rs:List Rl):Nat:=(rs.map nd).sum
theorem ZK (rs:List Rl) (r:Rl):ndS (rs++[r])=ndS rs+nd r:=by unfold ndS;rw [QO,List.sum_append];rfl
theorem WA:∀rs:List Rl,rs.length<=ndS rs
 |[]=>Qp _
 |r::rs=>by
  have:=WA rs;have:=eE r;unfold ndS at*;rw [Qn,QN,Qw];omega
def Drn (r:Rl):Prop:=∃k N,(∀t,JOk t k N r)/\k<=6/\N<=7
section
variable {B G0 H:Hp} {cs:yk} {ds:Dat} {Q:VK} {E:XK} {v w u:V} {K:PySem.W.Frag}
def qe:Sp:=λvs H Q _=>∃(G:Hp) (c:Int),vs=[.int c]/\zL G H/\∀v H' G' (n:Nat),Grow G H G' H'->Is G' (hV n).shape v->Q v H'
theorem EZ {c:Int} (S:Sta B G0 H cs ds) (k:∀v H' (n:Nat),zL H H'->Sta B G0 H' cs (((hV n).shape,v)::ds)->Q v H'):qe [.int c] H Q E:=by
 obtain ⟨G,S⟩:=S;refine ⟨G,c,rfl,S.2.1,λv H' G' n gr hv=>k v H' n gr.h ?_⟩;obtain ⟨a',b',c',d',e',f',g'⟩:=S.grow gr;exact ⟨G',a',b',c',d',e',f',g'.cons hv⟩
theorem Bm {G H':Hp} {n:Nat} (S:Sta H G H' cs ds) (k:∀v H' G' (n:Nat),Grow G H G' H'->Is G' (hV n).shape v->Q v H') (h:Has ds (hV n).shape v):Q v H':=by
 obtain ⟨G',gr,al⟩:=S.leave;exact k v H' G' n gr (h G' al)
def cj:Sp:=λvs H Q _=>∃(G:Hp) (ns:List Int) (g:Bool) (v:V),vs=[v, .bl g]/\zL G H/\Is G (mr ns) v/\ns.length<=6/\∀w H' G' (r:Rl),Grow G H G' H'->Is G' r.shape w->Drn r->Q w H'
theorem Ui {ns:List Int} {g:Bool} (S:Sta B G0 H cs ds) (h:Has ds (mr ns) v) (hl:ns.length<=6) (k:∀w H' (r:Rl),Drn r->zL H H'->Sta B G0 H' cs ((r.shape,w)::ds)->Q w H'):cj [v, .bl g] H Q E:=by
 obtain ⟨G,S⟩:=S;refine ⟨G,ns,g,v,rfl,S.2.1,h G S.2.2.2.2.2.2,hl,λw H' G' r gr hv good=>k w H' r good gr.h ?_⟩;obtain ⟨a',b',c',d',e',f',g'⟩:=S.grow gr;exact ⟨G',a',b',c',d',e',f',g'.cons hv⟩
theorem iL {G H':Hp} {r:Rl} (S:Sta H G H' cs ds) (k:∀w H' G' (r:Rl),Grow G H G' H'->Is G' r.shape w->Drn r->Q w H') (h:Has ds r.shape w) (hg:Drn r):Q w H':=by
 obtain ⟨G',gr,al⟩:=S.leave;exact k w H' G' r gr (h G' al) hg
end
theorem um (xs:List PyData) (x:PyData):lG (xs++[x]) none (some (-1))=xs:=by
 have e:HT.sIx (xs++[x]).length (xs++[x]).length (some (-1))=xs.length:=by
  rw [Qy,Tv];unfold HT.sIx
  simp
  try omega
 unfold lG;rw [HT.sIx_none,e,List.drop_zero,Nat.sub_zero];exact List.take_left
theorem lF (xs:List PyData) (x y:PyData):lG (xs++[x,y]) none (some (-2))=xs:=by
 have e:HT.sIx (xs++[x,y]).length (xs++[x,y]).length (some (-2))=xs.length:=by
  rw [Qy];unfold HT.sIx
  simp
  try omega
 unfold lG;rw [HT.sIx_none,e,List.drop_zero,Nat.sub_zero];exact List.take_left
theorem RuS.lawAt {t:Nat} {r:Rl} {l:List Cl} (h:RuS t r) (ok:ClS t l) (e:Rat):Yb (zo r l) e=zh (zo r l) e:=
 ow (m:=l.length) (h.gf ok).ful.std.rise λc hc=>((h.gf ok).ful.std.ok c hc).1
section
variable {B G0 H:Hp} {cs:yk} {ds:Dat} {Q:VK} {E:XK} {v w u:V} {K:PySem.W.Frag}
end
theorem if2 {p q:Bool} {A X Y:Prop} (h:(if q=true then X else Y)->A) (h1:p=true->q=true->X) (h2:(p && q)=false->Y):if p=true then A else Y:=by
 cases p
 ·exact h2 rfl
 ·cases q
  ·exact h (h2 rfl)
  ·exact h (h1 rfl rfl)
theorem if3 {p q r:Bool} {A A' X Y:Prop} (h:(if q=true then A' else Y)->A) (h':(if r=true then X else Y)->A') (h1:p=true->q=true->r=true->X) (h2:(p && (q && r))=false->Y):if p=true then A else Y:=by
 cases p
 ·exact h2 rfl
 ·cases q
  ·exact h (h2 rfl)
  ·exact h (h' (by
    cases r
    ·exact h2 rfl
    ·exact h1 rfl rfl rfl))
theorem Ia {m:Nat} {T:Rat} {as:List Rat} {P Q:List zg} (a:Ful m T as P) (b:Ful m T as Q) (h:∀e:Rat,0<=e->zh P e=zh Q e):P=Q:=by
 obtain ⟨ra,ea⟩:=a.std.cons;obtain ⟨rb,eb⟩:=b.std.cons;have pa:=a.pm.t;have pb:=b.pm.t;have la:=a.std.lastC;have lb:=b.std.lastC;have ga:=a.std;have gb:=b.std;rw [ea] at pa la h ga⊢;rw [eb] at pb lb h gb⊢;rw [Kg pa pb (by rw [la,lb]) λe he=>h e ?_]
 rcases he with ⟨x,hx,rfl⟩|⟨x,hx,rfl⟩
 ·exact (ga.range (Qd _ hx)).1
 ·exact (gb.range (Qd _ hx)).1
theorem Au:∀{a b:List Rat},b.length=a.length->Ax a (Ax a b)=b
 |[],[],_=>rfl
 |x::a,y::b,h=>by
  show (x - (x - y))::Ax a (Ax a b)=y::b;rw [Au (Nat.succ.inj h),show x - (x - y)=y by grind]
theorem II {m:Nat} {T:Rat} {as:List Rat} {P:List zg} (a:Ful m T as P):yj (yj P)=P:=by
 refine Ia a.turned.turned a λe h0=>?_
 by_cases h1:e<=T
 ·rw [a.turned.std.turned h0 h1,a.std.turned (by grind) (by grind),show T - (T - e)=e by grind];exact Au (by rw [a.std.len,a.std.lenA])
 ·have h1:T<=e:=by grind
  rw [a.std.past h1,a.turned.turned.std.past h1]
theorem qL {r:Rl} {l:List Cl} (p:POk r) (nn:∀c∈l,0<=c.1):zo (.other (.other r)) l=zo r l:=II (yy p nn).ful
theorem Jp {p:Cl->Bool} {m:List Cl} (h:∀c∈m,p c=true):xx p m=List.range m.length:=List.filter_eq_self.mpr λi hi=>by
 have hi:=jbg.mp hi;rw [Qo,Qc hi];exact h _ (Te hi)
theorem Az {n:Nat} {v:List Rat} (hv:v.length=n):yd (List.range n) n v=v:=by
 have hp:Pls n (List.range n):=⟨List.nodup_range,λi hi=>jbg.mp hi⟩
 apply TY
 intro i
 by_cases hi:i<n
 ·have e:=Qc (l:=v) (i:=i) (by omega);rw [xU hp (by rw [hv,jbu]) (j:=i) (List.getElem?_range hi) e,e]
 ·rw [QF (by rw [yK];omega),QF (by omega)]
theorem sM:∀{n:Nat} {v:List Rat},v.length=n->List.zipWith (·+·) (List.replicate n 0) v=v
 |0,[],_=>rfl
 |n+1,x::v,h=>by
  rw [Td,jaa,sM (Nat.succ.inj h),Rat.zero_add]
theorem BH {f:List Cl->List zg} {m:List Cl} {k:Int} (hm:∀c∈m,c.2.1=k) (pos:0<m.length) (hf:Ful m.length (zX (amQ m)) (amQ m) (f m)) (hr:Ful m.length (zX (amQ m)) (amQ m) (Yp f m)):Yp f m=f m:=by
 have er:zS m=[k]:=Wi (yF m).1 (jaj _ _) λz=>by
  rw [(yF m).2,Qq,Qj];refine ⟨λ⟨c,hc,e⟩=>by rw [<-e];exact hm c hc,λe=>?_⟩;have hc:=Te pos;exact ⟨_,hc,by rw [hm _ hc,e]⟩
 have ef:m.filter (zY k)=m:=List.filter_eq_self.mpr λc hc=>QQ (hm c hc);have pk:=Vl (zY k) m;have lk:=YE (zY k) m;rw [ef] at lk;refine Ia hr hf λe h0=>?_;have z0:=sN m.length;have Sf:=hf.spread pk lk;unfold Yp;rw [er,List.foldl_cons,List.foldl_nil];unfold ZF;rw [ef,oY z0.std Sf.std h0,QP (QX.mpr h0),hf.std.spreadE pk lk,show e - 0=e by grind];rw [Jp (p:=zY k) λc hc=>QQ (hm c hc),Az hf.std.len];exact sM hf.std.len
theorem Bg {f g:List Cl->List zg} {l:List Cl}:∀(ks:List Int) (P:List zg),(∀k∈ks,f (l.filter (zY k))=g (l.filter (zY k)))->ks.foldl (ZF f l) P=ks.foldl (ZF g l) P
 |[],_,_=>rfl
 |k::ks,P,h=>by
  rw [List.foldl_cons,List.foldl_cons];have:ZF f l P k=ZF g l P k:=by unfold ZF;rw [h k (Qb ..)]
  rw [this];exact Bg ks _ λk' Mt=>h k' (Qd _ Mt)
theorem dU {r:Rl} {l:List Cl} (p:POk r) (nn:∀c∈l,0<=c.1):zo (.ranks (.ranks r)) l=zo (.ranks r) l:=by
 show Yp (λl=>zo (.ranks r) l) l=Yp (λl=>zo r l) l;refine Bg _ _ λk hk=>?_;have n':=yO nn (zY k);refine BH (k:=k) (λc hc=>QG (Tu.mp hc).2) (dN hk) (yy p n').ful (yy (r:= .ranks r) p n').ful
theorem qK {r:Rl} {l:List Cl} (p:POk r) (nn:∀c∈l,0<=c.1):zo (.ranks (.ranks (.ranks r))) l=zo (.ranks r) l:=(dU (r:= .ranks r) p nn).trans (dU p nn)
theorem qM (l:List Cl):zo (.upto 1 2 .evenly .losses) l=zo .halves l:=by
 show Xj (Rat.divInt 1 2) (evP (amV l) (lvV (amV l))) (loP (amV l) (lvV (amV l)))=yg (hvP (amV l) (lvV (amV l)));rw [show Rat.divInt 1 2=(1:Rat) / 2 by decide+kernel];unfold Xj;rw [show (1:Rat) - 1 / 2=1 / 2 by decide+kernel];rfl
section
variable {B G0 H:Hp} {cs:yk} {ds:Dat} {Q:VK} {E:XK} {v w u:V} {K:PySem.W.Frag}
noncomputable def jM (A:RAd) (t n:Nat):Sp:=spT (α:=Rl×List Cl×Rat) (λa=>[a.1.ins A,zA a.2.1,frD a.2.2]) (λa=>((RuS t a.1/\a.1.deep<=n)/\ClS t a.2.1)/\SzQ 4000 a.2.2/\0<=a.2.2) (λa=>zO (zh (zo a.1 a.2.1) a.2.2))
theorem nI {A:RAd} {t n:Nat} {r:Rl} {l:List Cl} {e:Rat} (S:Sta B G0 H cs ds) (h1:Has ds (r.ins A) v) (h:Has ds (zA l) w) (h3:Has ds (frD e) u) (ru:RuS t r) (hn:r.deep<=n) (ok:ClS t l) (ze:SzQ 4000 e) (e0:0<=e) (k:∀p H',zL H H'->Sta B G0 H' cs ((zO (zh (zo r l) e),p)::ds)->Q p H'):jM A t n [v,w,u] H Q E:=Zw (r,l,e) S (.cons h1 (.cons h (.cons h3 .nil))) ⟨⟨⟨ru,hn⟩,ok⟩,ze,e0⟩ k
def jQ (n:Nat):Sp:=spB (α:=Rl) (λr=>[r.shape]) (λr=>r.Ok/\r.size<=16/\r.deep<=n) (λr=> .str r.text)
theorem WT {n:Nat} {r:Rl} (S:Sta B G0 H cs ds) (h:Has ds r.shape v) (ok:r.Ok) (hs:r.size<=16) (hd:r.deep<=n) (k:∀H',Sta B G0 H' cs ds->Q (.str r.text) H'):jQ n [v] H Q E:=nB (α:=Rl) r (S.hpAll (zV.cons h zV.nil)) ⟨ok,hs,hd⟩ λH' e=>k H' (S.same e)
def Snd (kind:Int) (r r':Rl):Prop:=(kind=0/\r'= .other (.other r))\/(kind=1/\r'= .ranks (.ranks r))\/(kind≠0/\kind≠1/\Drn r')
def jI (K:PySem.W.Frag):Sp:=λvs H Q _=>∃(G:Hp) (a:Addr) (ns:List Int) (v:V) (r:Rl) (kind:Int),vs=[.ref a,v, .int kind]/\zL G H/\SqL K H a (ns.map V.int)/\Is G r.shape v/\∀w H' G' (r':Rl),Grow G H G' H'->Is G' r'.shape w->Snd kind r r'->Q w H'
theorem Bp {a:Addr} {ns:List Int} {r:Rl} {kind:Int} (S:Sta B G0 H cs ds) (hS:SqL K H a (ns.map V.int)) (h:Has ds r.shape v) (k:∀w H' (r':Rl),Snd kind r r'->zL H H'->Sta B G0 H' cs ((r'.shape,w)::ds)->Q w H'):jI K [.ref a,v, .int kind] H Q E:=by
 obtain ⟨G,S⟩:=S;refine ⟨G,a,ns,v,r,kind,rfl,S.2.1,hS,h G S.2.2.2.2.2.2,λw H' G' r' gr hv good=>k w H' r' good gr.h ?_⟩;obtain ⟨a',b',c',d',e',f',g'⟩:=S.grow gr;exact ⟨G',a',b',c',d',e',f',g'.cons hv⟩
theorem qx {G H':Hp} {r r':Rl} {kind:Int} (S:Sta H G H' cs ds) (k:∀w H' G' (r':Rl),Grow G H G' H'->Is G' r'.shape w->Snd kind r r'->Q w H') (h:Has ds r'.shape w) (hg:Snd kind r r'):Q w H':=by
 obtain ⟨G',gr,al⟩:=S.leave;exact k w H' G' r' gr (h G' al) hg
def mH (s e:Rat) (i:Nat):PyData:= .tuple [frD s,frD e, .int (i:Nat)]
def pX:Sp:=spB (α:=(Rat×Rat×Nat)×Int) (λa=>[mH a.1.1 a.1.2.1 a.1.2.2, .int a.2]) (λa=>SzQ 700 a.1.1/\SzQ 700 a.1.2.1/\a.1.1<a.1.2.1/\(a.1.2.2:Int)<a.2) (λ_=> .bl true)
theorem EV {s e:Rat} {i:Nat} {m:Int} (S:Sta B G0 H cs ds) (h:Has ds (mH s e i) v) (zs:SzQ 700 s) (ze:SzQ 700 e) (hl:s<e) (hi:(i:Int)<m) (k:∀H',Sta B G0 H' cs ds->Q (.bl true) H'):pX [v, .int m] H Q E:=nB (α:=(Rat×Rat×Nat)×Int) ((s,e,i),m) (S.hpAll (.cons h (.cons .int .nil))) ⟨zs,ze,hl,hi⟩ λH' e=>k H' (S.same e)
end
def Fnd (m:Nat) (X Y:List zg) (fd:PyData) (vf:V):Prop:=(fd= .none/\vf= .non/\X=Y)\/∃(rf:Addr) (s e:Rat) (i:Nat) (x y:Rat),fd=mH s e i/\vf= .ref rf/\X≠Y/\(0<=s/\SzQ 700 s)/\(s<e/\SzQ 700 e)/\(∀E:Rat,0<=E->E<=s->zh X E=zh Y E)/\(zh X e)[i]? =some x/\(zh Y e)[i]? =some y/\x≠y/\i<m
theorem GK {m:Nat} {T:Rat} {as:List Rat} {X Y:List zg} (a:Ful m T as X) (b:Ful m T as Y) (h:∀e∈zK (zm X) (zm Y),zh X e=zh Y e):Fnd m X Y .none .non:=by
 refine .inl ⟨rfl,rfl,?_⟩;obtain ⟨ra,ea⟩:=a.std.cons;obtain ⟨rb,eb⟩:=b.std.cons;have pa:=a.pm.t;have pb:=b.pm.t;have la:(lastC X).1=(lastC Y).1:=by rw [a.std.lastC,b.std.lastC]
 rw [ea] at pa la h⊢;rw [eb] at pb la h⊢;exact qP pa pb la h
theorem GJ {m:Nat} {T:Rat} {as:List Rat} {X Y:List zg} (a:Ful m T as X) (b:Ful m T as Y) (rX:PathR 700 X) (rY:PathR 700 Y) {rf:Addr} {k i:Nat} {s e x y:Rat} (hk:(zK (zm X) (zm Y))[k]? =some e) (hj:∀(j:Nat) (d:Rat),j<k->(zK (zm X) (zm Y))[j]? =some d->zh X d=zh Y d) (hs:k=0\/(zK (zm X) (zm Y))[k - 1]? =some s) (hx:(zh X e)[i]? =some x) (hy:(zh Y e)[i]? =some y) (Ma:x≠y):Fnd m X Y (mH s e i) (.ref rf):=by
 have him:=(Qf.mp hx).1;rw [a.std.len] at him;obtain ⟨ra,ea⟩:=a.std.cons;obtain ⟨rb,eb⟩:=b.std.cons;have pa:=a.pm.t;have pb:=b.pm.t
 have szq:∀c∈X++Y,SzQ 700 c.1:=λc hc=>by
  rcases QT.mp hc with h|h
  ·exact (rX.sz c h).1
  ·exact (rY.sz c h).1
 have h:X≠Y/\0<=s/\s<e/\(∀E:Rat,0<=E->E<=s->zh X E=zh Y E)/\(∀c∈X++Y,¬(s<c.1/\c.1<e))/\(∃c∈X++Y,c.1=s)/\(∃c∈X++Y,c.1=e):=by
  rw [ea] at pa hk hj hs hx⊢;rw [eb] at pb hk hj hs hy⊢;exact qO pa pb hk hj hs hx hy Ma
 obtain ⟨h1,h2,h3,h4,_,⟨c1,m1,q1⟩,c2,m2,q2⟩:=h;exact .inr ⟨rf,s,e,i,x,y,rfl,rfl,h1,⟨h2,q1▸szq c1 m1⟩,⟨h3,q2▸szq c2 m2⟩,h4,hx,hy,Ma,him⟩
theorem Rl.ok_of:∀{r:Rl},POk r->r.Ok
 | .shares,_=>trivial
 | .evenly,_=>trivial
 | .losses,_=>trivial
 | .halves,_=>trivial
 | .other r,h=>Rl.ok_of (r:=r) h
 | .ranks r,h=>Rl.ok_of (r:=r) h
 | .groups a b,h=>⟨Rl.ok_of h.1,Rl.ok_of h.2⟩
 | .upto _ _ x y,h=>⟨h.1,Rl.ok_of h.2.1,Rl.ok_of h.2.2⟩
structure Two (r:Rl):Prop where
 ru:RuS 33 r
 deep:r.deep<=10
 size:r.size<=16
theorem iD:Two .halves/\Two (.upto 1 2 .evenly .losses):=⟨⟨⟨trivial,by decide,by decide,by decide⟩,by decide,by decide⟩,⟨⟨⟨⟨⟨by unfold Sz;decide,by unfold Sz;decide⟩,by decide,by decide,by decide⟩,trivial,trivial⟩,by decide,by decide+kernel,by decide⟩,by decide,by decide⟩⟩
theorem Drn.two {r:Rl} (h:Drn r):RuS 33 r/\r.deep<=7/\r.size<=13:=by
 obtain ⟨k,N,hJ,hk,hN⟩:=h;have j:=hJ 33;have:=j.size;exact ⟨(j.ru (by decide) hk hN).1,(j.ru (by decide) hk hN).2.2,by omega⟩
theorem RuS.up1 {t:Nat} {r:Rl} (h:RuS t r):RuS t (.other r)/\RuS t (.ranks r):=⟨⟨h.pok,h.ht,h.den,h.len⟩,⟨h.pok,h.ht,h.den,h.len⟩⟩
theorem all1 {p:List Value->Prop} (h:∀a,p [a]) (us:List Value) (hl:us.length=1):p us:=by
 obtain ⟨a,rfl⟩:=List.length_eq_one_iff.mp hl;exact h a
theorem all2 {p:List Value->Prop} (h:∀a b,p [a,b]) (us:List Value) (hl:us.length=2):p us:=by
 cases us with
 |nil=>cases hl
 |cons a us=>exact all1 (p:=λus=>p (a::us)) (h a) us (Nat.succ.inj hl)
theorem all3 {p:List Value->Prop} (h:∀a b c,p [a,b,c]) (us:List Value) (hl:us.length=3):p us:=by
 cases us with
 |nil=>cases hl
 |cons a us=>exact all2 (p:=λus=>p (a::us)) (h a) us (Nat.succ.inj hl)
theorem all4 {p:List Value->Prop} (h:∀a b c d,p [a,b,c,d]) (us:List Value) (hl:us.length=4):p us:=by
 cases us with
 |nil=>cases hl
 |cons a us=>exact all3 (p:=λus=>p (a::us)) (h a) us (Nat.succ.inj hl)
theorem all5 {p:List Value->Prop} (h:∀a b c d e,p [a,b,c,d,e]) (us:List Value) (hl:us.length=5):p us:=by
 cases us with
 |nil=>cases hl
 |cons a us=>exact all4 (p:=λus=>p (a::us)) (h a) us (Nat.succ.inj hl)
structure DkT (K:PySem.W.Frag) (mg:Str->Option Value) (nm:Str) (st:Stmt) (f:Addr) (fd:FuncData) (ps:List Str):Prop where
 F:Fun K nm nm st f fd
 m:mg nm=some (.ref f)
 b:yD K fd ps []
structure FkT (K:PySem.W.Frag) (x q:Str) (st:Stmt) (f:Addr) (fd:FuncData) (ps:List Str):Prop where
 F:Fun K x q st f fd
 b:yD K fd ps []
 k:PySem.W.keepIn K (.ref f)=true
section
variable {K:PySem.W.Frag} {h:Heap} {mg:Str->Option Value} {x q:Str} {st:Stmt} {f:Addr} {oc:Value} {od an:Option Addr} {osl:Array (Option Value)} {kV doc pm LV ct:Value} {ps:List Str}
theorem fk_mk (l:K.lookup f=some ⟨oc,od, .func (PySem.W.fnOf x q (ZE st) (Zb st) (zk st) .none kV doc pm an LV ct),osl⟩) (c:PySem.W.codeIn K LV q=true) (k:PySem.W.keepIn K (.ref f)=true)
 (b:∀(kV doc pm:Value) (an:Option Addr) (LV ct:Value) (us:List Value),us.length=ps.length->bindArgs (PySem.W.fnOf x q (ZE st) (Zb st) (zk st) .none kV doc pm an LV ct) ⟨us,[]⟩=pure (ps.zip us)):
 FkT K x q st f (PySem.W.fnOf x q (ZE st) (Zb st) (zk st) .none kV doc pm an LV ct) ps:=⟨oC l c k,(oC l c k).binds b,k⟩
theorem dk_mk (X:K.In h) (G:h.Ns mainGlobals mg) (a:PySem.W.nsIn K mainGlobals x=some (some (.ref f))) (l:K.lookup f=some ⟨oc,od, .func (PySem.W.fnOf x x (ZE st) (Zb st) (zk st) .none kV doc pm an LV ct),osl⟩) (c:PySem.W.codeIn K LV x=true) (k:PySem.W.keepIn K (.ref f)=true)
 (b:∀(kV doc pm:Value) (an:Option Addr) (LV ct:Value) (us:List Value),us.length=ps.length->bindArgs (PySem.W.fnOf x x (ZE st) (Zb st) (zk st) .none kV doc pm an LV ct) ⟨us,[]⟩=pure (ps.zip us)):
 DkT K mg x st f (PySem.W.fnOf x x (ZE st) (Zb st) (zk st) .none kV doc pm an LV ct) ps:=⟨oC l c k,jad X G a,(oC l c k).binds b⟩
end
structure CkT (K:PySem.W.Frag) (c fI Ru fS fT fP fQ:Addr):Prop where
 e:PySem.W.findIn K (.ref c) "__init__"=some (some (.ref fI))
 es:PySem.W.findIn K (.ref c) "shape"=some (some (.ref fS))
 et:PySem.W.findIn K (.ref c) "text"=some (some (.ref fT))
 ep:PySem.W.findIn K (.ref c) "path"=some (some (.ref fP))
 eq:PySem.W.findIn K (.ref c) "parts"=some (some (.ref fQ))
 pg:PySem.W.plainGet K c Str.empty=true
 hd:PySem.W.hasDictIn K c=true
 po:PySem.W.plainOver K c=true
 sa:PySem.W.findIn K (.ref c) "__setattr__"=some (some (.builtin "object.__setattr__"))
 na:PySem.W.findIn K (.ref c) "form"=some none
 ha:PySem.W.findIn K (.ref c) "__class__"=some (some (.builtin "object.__class__"))
 mo:PySem.W.mroIn K c (.type "object")=some true
 kt:PySem.W.kitOne K (.ref c) (.ref Ru)=some true
 mq:PySem.W.makesIn K c=true
 nf:PySem.W.isFn K (.ref fI)=true
 kc:PySem.W.keepIn K (.ref c)=true
section
variable {K:PySem.W.Frag} {c fI Ru fS fT fP fQ:Addr}
theorem CkT.ok (Q:CkT K c fI Ru fS fT fP fQ) (n1:PySem.W.isFn K (.ref fS)=true) (k1:PySem.W.keepIn K (.ref fS)=true) (n2:PySem.W.isFn K (.ref fT)=true) (k2:PySem.W.keepIn K (.ref fT)=true) (hn:PySem.W.specialIn K (.builtin "object.__class__") "__get__"=some (some (.builtin "getset_descriptor.__get__"))) (ht:PySem.W.takesIn K (.builtin "object.__class__")=some true):ROk K fS fT Ru c:=
 ⟨⟨Q.pg,Q.hd,Q.po,Q.sa⟩,Q.na,⟨Q.es,n1,k1⟩,⟨Q.et,n2,k2⟩,Q.ha,hn,ht,Q.mo,Q.kt⟩
theorem CkT.MK (Q:CkT K c fI Ru fS fT fP fQ):Mk K c fI:=⟨Q.mq,Q.e,Q.nf,Q.kc⟩
theorem CkT.mp (Q:CkT K c fI Ru fS fT fP fQ) (n:PySem.W.isFn K (.ref fP)=true) (k:PySem.W.keepIn K (.ref fP)=true) (n2:PySem.W.isFn K (.ref fQ)=true) (k2:PySem.W.keepIn K (.ref fQ)=true):Meth K c "path" fP/\Meth K c "parts" fQ:=⟨⟨Q.ep,n,k⟩,⟨Q.eq,n2,k2⟩⟩
end
section
variable {X:Cx}
theorem ps_a (i:Nat) {x:Str} {e:Expr} {te:TE} {pos' pos:Pos} (hN:X.N.Nodup) (he:PE X e te) (hi:X.N[i]? =some x:=by rfl) (hx:Loc X.env.scope x:=by walk_at "o") (hs:swapsWith e (some (.Name x pos')) pos.line X.env=pure false:=by rfl) (hf:X.fn x=true\/X.env.scope.names.lookup x=some .local:=by walk_at "f"):
 PS X (.Assign [.Name x pos'] e pos) (Ky te (lB i)):=ps_set hN hi hx he hs hf
theorem pg_a (i:Nat) {x:Str} {pos:Pos} (hN:X.N.Nodup) (hi:X.N[i]? =some x:=by rfl) (hx:Loc X.env.scope x:=by walk_at "o") (hf:X.fn x=true\/X.env.scope.names.lookup x=some .local:=by walk_at "f"):PG X (.Name x pos) (lB i):=qJ hN hi hx hf
theorem pcl {k j:Nat} {x:Str} {ps:List Str} {sp:Sp} {e:Expr} {es:List Expr} {t:TA} {p pos:Pos} (C:Cal X.prog X.w X.K X.mg X.base CX0 k x ps sp) (hr:Room j X.A) (ha:PA X (e::es) t) (hk:k<=j:=by walk_at "l") (hg:Gl X x:=by rfl) (Nf:(x==("__debug__":Str))=false:=by decide) (he:starEach (e::es) X.env=(false,eval e X.env)::starEach es X.env:=by rfl) (Mm:(backTo pos (starEach es X.env)).any (·.1)=false:=by rfl):
 PE X (.Call (.Name x p) (e::es) [] pos) (uX sp [] E0 t):=pe_cal C hr hk pass0 hg ha Nf he Mm
theorem pix (i:Nat) {x:Str} {k:Int} {j:Nat} {p1 p2 p3:Pos} (hN:X.N[i]? =some x:=by rfl) (hv:Vis X.env.scope x:=by walk_at "v") (hd:(x==("__debug__":Str))=false:=by decide) (hc:(x==("__classdict__":Str))=false:=by decide):PE X (.Subscript (.Name x p1) (.Constant (.int k) j p2) p3) (tOp (rIx X.K) (tVar i) (tC (.int k))):=pe_ix ix_seq (pv i hN hv hd hc) tH (λ_ _=>rfl)
theorem pg_c (i:Nat) {N:List Str} {scope:Scope} {C:Addr} {ex:List Addr} {s:Shared} {H:Hp} {x:Str} {pos:Pos} (hN:N.Nodup:=by decide+kernel) (hi:(xi X N scope C ex s H).N[i]? =some x:=by rfl) (hx:Loc (xi X N scope C ex s H).env.scope x:=by walk_at "o") (hf:(xi X N scope C ex s H).fn x=true\/(xi X N scope C ex s H).env.scope.names.lookup x=some .local:=by walk_at "f"):
 PG (xi X N scope C ex s H) (.Name x pos) (lB i):=qJ hN hi hx hf
theorem pcf (N:List Str) (n:Nat) (fr:List Nat) {scope:Scope} {tg iter elt:Expr} {ifs:List Expr} {pos:Pos} {wi:TI} {g:Blk TG} {tt:Blk TT} {te:Blk TE} (hi:PI X tg iter wi) (hg:∀{C ex s H},PG (xi X N scope C ex s H) tg (g C ex s H)) (ht:∀{C ex s H},PIf (xi X N scope C ex s H) ifs (tt C ex s H)) (he:∀{C ex s H},PE (xi X N scope C ex s H) elt (te C ex s H))
 (hc:X.calm=true:=by rfl) (O:CompOk X N n fr scope:=by exact ⟨rfl,by decide+kernel,rfl,by decide,rfl,rfl,rfl,rfl,rfl⟩) (hs:∀x,foldedSetIterable iter X.env x=pure x:=by intro _;rfl):
 PE X (.ListComp elt [⟨tg,iter,ifs,0⟩] scope pos) (uW n fr wi g tt te):=Js hc O hi (λ_ _ _ _=>hg) (λ_ _ _ _=>ht) (λ_ _ _ _=>he) hs
theorem pscf (i:Nat) (hN:X.N.Nodup) (N:List Str) (n:Nat) (fr:List Nat) {scope:Scope} {x:Str} {px:Pos} {tg iter elt:Expr} {ifs:List Expr} {pos spos:Pos} {wi:TI} {g:Blk TG} {tt:Blk TT} {te:Blk TE} (hi:PI X tg iter wi) (hg:∀{C ex s H},PG (xi X N scope C ex s H) tg (g C ex s H)) (ht:∀{C ex s H},PIf (xi X N scope C ex s H) ifs (tt C ex s H)) (he:∀{C ex s H},PE (xi X N scope C ex s H) elt (te C ex s H))
 (hx:X.N[i]? =some x:=by rfl) (hk:X.env.scope.names.lookup x=some .local:=by rfl) (hc:X.calm=true:=by rfl) (O:CompOk X N n fr scope:=by exact ⟨rfl,by decide+kernel,rfl,by decide,rfl,rfl,rfl,rfl,rfl⟩)
 (SJ:swapsWith (.ListComp elt [⟨tg,iter,ifs,0⟩] scope pos) (some (.Name x px)) spos.line X.env=pure true:=by rfl) (hs:∀x,foldedSetIterable iter X.env x=pure x:=by intro _;rfl):
 PS X (.Assign [.Name x px] (.ListComp elt [⟨tg,iter,ifs,0⟩] scope pos) spos) (Ky (uW n fr wi g tt te) (lB i)):=vv hN hx hk hc O hi (λ_ _ _ _=>hg) (λ_ _ _ _=>ht) (λ_ _ _ _=>he) SJ hs
theorem yR {N P:List Str} {sc:Scope} (a:sc.kind= .function:=by rfl) (b:sc.isCoroutine=false:=by rfl) (c:sc.isGenerator=false:=by rfl) (d:N.Nodup:=by decide+kernel) (e:N.take P.length=P:=by rfl) (f:∀x∈P,sc.names.lookup x=some .local\/sc.names.lookup x=some .cell:=by decide+kernel) (g:∀y∈sc.names,y.2≠ .free:=by decide+kernel):FnScope N P sc:=⟨a,b,c,d,e,f,g⟩
theorem _root_.L2.Fun.oo {P:Program} {w:World} {K:PySem.W.Frag} {mg:Str->Option Value} {base:Heap} {x qual:Str} {st:Stmt} {f:Addr} {fd:FuncData} {N ps:List Str} {k:Nat} {sp:Sp} (F:Fun K x qual st f fd) (s1:FnScope N ps (zk st))
 (MH:∀{LV:Value} {A:Around} {outer:List Env} {s:Shared} (H:Hp) (vs:List V) (Q:VK) (E:XK),Room k (A.deeper (envOfC qual (zk st) s.heap.objs.size f LV))->N.Nodup->sp vs H Q E->
  ∃t,PSs (Ig CX0 P w K mg base N qual (zk st) f LV A outer s H E).nox (Zb st) t/\t {nx:=λ_ H'=>Q .non H',rt:=Q} (jG N vs) H) (len:∀vs H Q E,sp vs H Q E->vs.length=ps.length:=by walk_at "n"):FnOk P w K mg base CX0 (k+1) f fd ps sp:=F.ok s1 len λ_ _ _ _ H vs Q E hr h=>MH H vs Q E hr s1.nd h
theorem xF {B G0 H:Hp} {cs:yk} {ds:Dat} {xs ys:List PyData} {P:yk->Dat->Prop} {J:It} {n:Nat} {fr:List Nat} {g:Blk TG} {tt:Blk TT} {te:Blk TE} {σ:L2.St} {Q:VK} (w:Wk B G0 J xs P) (f:Nat->PyData) (hy:(List.range xs.length).map f=ys) (s1:Sta B G0 H cs ds)
 (hs:∀(i:Nat) (x:PyData) (v:V) {B' G':Hp} {Kd:VK} {Kn:Hp->Prop} {C ex s0 H0},xs[i]? =some x->Turn1 B G0 cs B' G'->Sta B' G' B' [] ((x,v)::ds)->(∀{y:V} {H6:Hp} {cs':yk} {ds':Dat},Sta B' G' H6 cs' ds'->Has ds' (f i) y->Kd y H6)->
  g C ex s0 H0 v (List.replicate n none++frσ σ fr) B' λσ4 H4=>σ4.drop n=frσ σ fr/\tt C ex s0 H0 σ4 H4 λb H5=>if b=true then te C ex s0 H0 σ4 H5 Kd else Kn H5)
 (k:∀D H',zL H H'->Sta B G0 H' ((D,ys)::cs) ds->Q (.ref D) H') (OG:∀D ys,P ((D,ys)::cs) ds:=by intro _ _;exact .mem (by walk_at "mem")) (hn:xs.length<=1000:=by rw [Qa];omega):Gq n fr g tt te σ Q J H:=
 xB w f hy s1 OG hn (λi x v _ _ _ _ a b c d _ _ _ _=>hs i x v a b c d) k
theorem kxx {CX:CXT} {P:Program} {w:World} {K:PySem.W.Frag} {mg:Str->Option Value} {base:Heap} {N:List Str} {q:Str} {sc:Scope} {f:Addr} {cd:Value} {A:Around} {o:List Env} {s:Shared} {H:Hp} {E:XK}:(Ig CX P w K mg base N q sc f cd A o s H E).nox.K=K:=rfl
theorem kyy {N:List Str} {sc:Scope} {C:Addr} {ex:List Addr} {s:Shared} {H:Hp}:(xi X N sc C ex s H).K=X.K:=rfl
end
theorem Has.mm {ds:Dat} {x:PyData} {v:V} (h:(x,v)∈ds:=by walk_at "mem"):Has ds x v:= .mem h
end S
namespace K
open PySem L2 S
abbrev paa:List Str:=["one","two"]
abbrev pab:List Str:=["self"]
abbrev pac:List Str:=["self","form"]
abbrev pae:List Str:=["_law_one","_law_two"]
abbrev paf:List Str:=["ones","twos"]
abbrev pag:List Str:=["self","portion","first","last"]
abbrev pah:List Str:=["_law_script","_law_shape_here","_law_kind"]
abbrev pai:List Str:=["self","inner"]
abbrev paj:List Str:=["claims","group"]
abbrev pak:List Str:=["_law_script","_law_at_here","_law_many","_law_size"]
abbrev pal:List Str:=["top","bottom"]
abbrev pam:List Str:=["self","word"]
abbrev pan:List Str:=["claims"]
abbrev pao:List Str:=["path","places","count"]
abbrev paq:List Str:=["path","second"]
abbrev pas:List Str:=["self","outer","inner"]
abbrev pau:List Str:=["walk"]
abbrev pav:List Str:=["_law_found"]
abbrev paw:List Str:=["start","end","portion"]
abbrev pax:List Str:=["self","claims","purse"]
abbrev pay:List Str:=["start","end","amount"]
abbrev paz:List Str:=["shape","claims"]
abbrev paA:List Str:=["_law_script","_law_k"]
abbrev paB:List Str:=["_law_cells","_law_groups"]
abbrev paC:List Str:=["self","claims"]
abbrev paD:List Str:=["claims","places"]
abbrev paE:List Str:=["portion","first","last"]
abbrev paF:List Str:=["outer","inner","claims"]
abbrev paG:List Str:=["_law_top","_law_bottom"]
abbrev paH:List Str:=["_law_found","_law_many"]
abbrev paI:List Str:=["_law_whole_here","_law_cell"]
abbrev paJ:List Str:=["_law_path","_law_purse_here"]
abbrev paK:List Str:=["ahead","corner","following"]
abbrev paL:List Str:=["_law_cell"]
abbrev paM:List Str:=["_law_shape_here"]
abbrev paN:List Str:=["parts","places","count"]
abbrev paO:List Str:=["_law_cell","_law_place"]
abbrev paP:List Str:=["claims","rank"]
abbrev paQ:List Str:=["amounts","amount"]
abbrev paR:List Str:=["path","place","levels"]
abbrev paS:List Str:=["path","others","purse"]
abbrev paT:List Str:=["path","purse"]
abbrev paU:List Str:=["self","signs"]
abbrev paV:List Str:=["start","end","purse"]
abbrev paW:List Str:=["path","portion"]
abbrev paX:List Str:=["walk","word"]
abbrev paY:List Str:=["inner","claims"]
abbrev paZ:List Str:=["path","others"]
local macro_rules|`(tactic|assumption)=>`(tactic|first|exact .mm|fail)
local macro_rules|`(tactic|right)=>`(tactic|walk_at "mem")
local macro_rules|`(tactic|left)=>`(tactic|walk_at "walk")
local macro_rules|`(tactic|walk_at "l")=>`(tactic|first|decide|exact Qp _|omega)
local macro_rules|`(tactic|walk_at "o")=>`(tactic|first|exact Or.inl rfl|exact Or.inr rfl)
abbrev mtM:=Lean.MacroM (Lean.TSyntax `tactic)
def mwt (s:String):mtM:=`(tactic|walk_at $(Lean.quote s))
def mtU (c:Char):mtM:=match c with
 |'a'=>`(tactic|assumption)
 |'H'=>mwt "has"
 |'M'=>mwt "mem"
 |'A'=>mwt "hasall"
 |'z'=>mwt "szq"
 |'D'=>mwt "dom"
 |'m'=>mwt "mul"
 |'s'=>mwt "sz"
 |'u'=>mwt "sub"
 |'v'=>mwt "dats"
 |'r'=>`(tactic|exact rfl)
 |'o'=>`(tactic|omega)
 |'d'=>`(tactic|decide)
 |'K'=>`(tactic|decide+kernel)
 |'x'=>`(tactic|first|decide|omega)
 |'y'=>`(tactic|first|assumption|omega)
 |'t'=>`(tactic|exact ⟨by decide,by decide⟩)
 |'T'=>`(tactic|exact ⟨by decide,by decide,by decide⟩)
 |'N'=>`(tactic|exact jai rfl)
 |'i'=>`(tactic|(show (0:Int)<_;decide))
 |'j'=>`(tactic|(show (0:Int)<_;omega))
 |'q'=>`(tactic|first|exact kit_tt|exact kit_tl|exact kit_lt|exact kit_ll|exact kit_it|exact kit_il|exact kit_ib|exact kit_ii|exact kit_st|exact kit_sl|exact kit_sb|exact kit_si|exact kit_ss)
 |'L'=>`(tactic|first|assumption|omega|(simp only [xJ];omega)|(simp only [xJ] at*;omega))
 |_=>Lean.Macro.throwUnsupported
def mtY (n:Lean.Name) (s:List Char):mtM:=do
 match s with
 |'!'::c::_=>mtU c
 |'*'::c::_=>Lean.Macro.throwUnsupported
 |'='::r=>do
  let mut a:Array Lean.Term:=#[]
  for c in r do
   if c=='_' then a:=a.push (<-`(_))
   else
    let u<-mtU c
    a:=a.push (<-`(by $u:tactic))
  `(tactic|exact $(Lean.Syntax.mkApp (Lean.mkIdent n) a))
 |_=>do
  let r:=if s.head? ==some '+' then s.tail else s
  let mut a:Array Lean.Term:=#[]
  let mut cs:Array (Lean.TSyntax `tactic):=#[]
  for c in r do
   if c=='_' then a:=a.push (<-`(_))
   else if c.isDigit then
    for _ in List.range (c.toNat - 48) do cs:=cs.push (<-`(tactic|intro _))
   else
    let h:=Lean.mkIdent (<-Lean.Macro.addMacroScope (Lean.Name.mkSimple (if c=='k' then "k" else s!"x{a.size}")))
    a:=a.push (<-`(?$h))
    if c !='k' then
     let u<-mtU c
     cs:=cs.push (<-`(tactic|case $h:ident=>$u:tactic))
  let e:Lean.Term:=Lean.Syntax.mkApp (Lean.mkIdent n) a
  let t<-`(tactic|refine' $e)
  let t<-if s.head? ==some '+' then pure t else `(tactic|with_reducible $t:tactic)
  `(tactic|($t:tactic;$[$cs:tactic];*))
def mtTK:String:="rk:rd_var k:rd_c k:BE k:Bu k:HK k:BG k:zF k:YR k:rd_op k:Wt k:rd_call k:rd_cb k:HH k:rd_fld k:xX k:xI k:ah k:rd_if k:rd_test k:rd_tB k:rd_rI0 k:rd_bm k:rd_rt k:rd_ret k:rd_for k:rd_comp k:rd_drop k:rd_lst k:HL k:rd_make k:rd_sl k:rd_part k:rd_kPart k:rd_un k:rd_and k:rd_or k:rd_not aHrk:rd_ixTS ak:rd_strI k:rd_rev aqkr:rd_isi k:rd_jCons k:rd_fmt k:rd_methA k:rd_kBMs k:rd_addSI k:rd_eqS k:rd_neS Lk:rd_kJ Lk:rd_jNil Lk:rd_kFmtS ak:rd_kFmtI Lk:rd_addS aHHzzdDk4:qC aHHzzdk:nO aok:rd_cell ok:rd_div2 aqk:rd_isi k:rd_noPart k:rd_iRv k:rd_true k:rd_gsub k:rd_mix aHk:rd_sumL aMk:rd_sumC k:rd_addI aHrk:rd_ixTI aHrk2:Ul aHrk:Ww aHrk2:yV mk:rd_mulB xk:rd_modL yk:rd_modN tk:rd_fdivL ak:rd_fdivB Tk:rd_pow k:rd_nxL k:rd_rtL aANk4:qF aANk4:rd_kLst k:rd_isbl k:rd_eqI k:rd_neI k:rd_andV k:rd_orV k:rd_notV k:rd_ifE k:rd_rU k:rd_retN aHk:rd_lenT aHk:rd_lenL aMk:rd_lenC k:rd_abs k:rd_min k:rd_max k:rd_iList k:rd_iTup k:rd_iR1 k:rd_iR2 k:rd_iEn k:rd_iZi aHk3:xW aHk4:rd_kGT3 k:rd_bm0 aMk:rd_kBM aMk:rd_kBM0 aHk4:rd_listL aMk4:rd_listC aHk4:rd_listT aHk4:rd_tupleL aMk4:rd_tupleC k:rd_par k:rd_is2 rk:rd_aug k:rd_ipI k:iteT k:iteF k:iteNF k:iteNT k:rd_nx0 k:rd_ctL k:rd_bkL k:rd_ct k:rd_bk k:rd_eqB k:rd_neB . =_:List.Mem.head +_M:List.Mem.tail . =:Has.int =:Has.bl =:Has.non =:Has.str =:Has.mm . =:zV.nil +HA:zV.cons . !a:- =a:SzQ.num =a:SzQ.den =ss:Sz.mul =ss:Sz.add' =ss:Sz.sub' =d:Sz.lit . !a:- =d:IntMulOk.of_left =d:IntMulOk.of_right =d:mulModOk =ssd:Sz.mulOk . !i:- !j:- !d:- !a:- . =_:List.Sublist.refl =_:List.nil_sublist +_u:List.Sublist.cons₂ +_u:List.Sublist.cons . =:Dats.nil +Hv:Dats.cons . !a:- =zz:SzQ.add =zz:SzQ.sub =zz:SzQ.mul =zz:SzQ.div . =:True.intro !a:- . aHHaak4:rd_gap . rk:iteSY Kk:iteSN k:rd_sortS k:rd_methB . k:tq . k:rd_methB ."
def mtK (k:Nat):String:=(mtTK.splitOn " ").getD k "."
def mtN (c:Char):Nat:=if c.isDigit then c.toNat - 48 else c.toNat - 87
def mtT:String:="`aWz # #`bpv %`ceD`dtH`etF # #`fdR #`gpcl !3 hr #`hpix %`ips_ret #`jps_a % nd0 #`kCw _`lps_if # # #`mEA hr`nBO`oqH # # # #`ppe_str`qpe_tup #`rpe_ix ix_seq # # !1`sop_eqA #`tpe_op op_mulB # #`upg_c %`vpe_op BV # #`wpgs_cons # #`xpe_op op_mod # #`ypg_a % nd0`zps_expr #`Ape_lst #`BqI`CkH #`Dcx oQ rfl B.len Ii #`Epcf $ % & # # # #`Fpo_some #`Gpe_un un_neg #`Hpt_val #`Ips_for PassesOwn.never rfl # # #`Jpe_op op_addS # #`KPW.pt #`Lpg_tup rfl #`Mpgs_nil`Npe_bl`Oop_neA #`Ppe_op op_fdiv # #`Qpt_not #`Rpe_slice sl_list # # #`Spw_or # #`Tpe_op op_sub # #`Upo_none`VdR tG`Wpw_and # #`XqH op_gt # # #`Ype_callTy Kh rfl B.tuple bt_tuple #`Zpe_ccall rfl ZG dI dQ xM # hr xK xN pass0 #`0xO.mono !2`1pw_and1 #`2pe_bm PySem.F.plainAttrs_list PySem.F.slot_list_append PySem.F.type_list_append nZ # #`3pe_op op_modN # #`4qH op_lt # # #`5pw_or1 #`6pe_non`7pe_op op_pow # #`8ps_while PassesOwn.never # #`9pe_methA # # hr xf pass0`+Zy.mono !2`-cx call_isi rfl B.isinstance GQ #`*pe_methA # # hr xw pass0`/Yf.mono !2`<pe_meth # W_ok.cl W_ok.me # hr yo !8 pass0 #`>yQ.mono !2`=pe_callTy KC rfl B.list bt_list #`!pe_fld # rfl`?pe_op op_fdivB # #`@pi_zip false false rfl B.zip #`#pi_enum true rfl B.enumerate #`$pscf % nd0 $ % & # # # #`%pe_and # #`&pe_one #`^cx # rfl B.sum bt_sum #`~call_sumA rfl`|cx call_absA rfl B.abs bt_abs #`:pe_cmpR op_lt # # #`.pif_one #`,pi_tup #`;ps_fld # # rfl`_Jr !5 rfl g_FIGURES rfl`(ps_aug !6 nd0 rfl !7 # ip_add`)ps_asg # #`[pe_methB # # hr XG pass0 #`]VU.mono !2`{qH op_notN # # #`}pe_cmpR # # # #`αpi_enum false rfl B.enumerate #`βpe_bltn !4 rfl B.int bt_int rfl`γpe_not #`δpe_bltn !4 rfl B.bool bt_bool rfl`εps_fldaug # # in_add`ζpe_slice sl_tup # # #`ηpe_callTy call_strI rfl B.str bt_str #`θpe_op op_rep # #`ιpi_zip false true rfl B.zip #`κFi rfl rfl B2.sorted rfl B2.set #`μpe_bltn !4 rfl B.tuple bt_tuple rfl`νpe_methB # # hr bF pass0 #`ξbK.mono !2`πpi_rev rfl B.reversed #`ρpe_slice sl_str # # #`σpi_str #`τqH HP # # rfl`υqH op_in_seq # # rfl`φpe_bm PySem.F.plainAttrs_tuple PySem.F.slot_tuple_index PySem.F.type_tuple_index mt_indexT # #`χqH op_le # # #`ψJr !5 rfl g_WORDS rfl`ωpe_make uy # hr rfl Di Hl !8 pass0 #`ΓHt.mono !2`Δpe_make ux # hr rfl Dh Hk !8 pass0 #`ΘHs.mono !2`Ξpe_make pJ # hr rfl ue Ee !8 pass0 #`ΠEl.mono !2`Σpe_make DV # hr rfl HY Ik !8 pass0 #`ΦIv.mono !2`Ψpe_make0 pG # hr rfl ub Eb !8 pass0`ΩEi.mono !2`аpe_make0 pK # hr rfl uf Ef !8 pass0`бEm.mono !2`вpe_make0 pH # hr rfl uc Ec !8 pass0`гEj.mono !2`дpe_make0 pI # hr rfl ud Ed !8 pass0`еEk.mono !2`жpe_make DU # hr rfl HX Ij !8 pass0 #`зIu.mono !2`иpe_bm PySem.F.plainAttrs_str PySem.F.slot_str_join PySem.F.type_str_join mt_join # #`йpe_bm PySem.F.plainAttrs_list PySem.F.slot_list_extend PySem.F.type_list_extend Kz # #`кcx # rfl B.min Ih #`лcall_minL rfl`мpg_sub # # set_list`нpe_bm PySem.F.plainAttrs_list PySem.F.slot_list_extend PySem.F.type_list_extend mt_extend # #`оps_par !6 !a rfl nd0 rfl rfl !b rfl rfl # rfl`пpe_cmpR op_gt # # #`рpi_range1 rfl B.range #`сpi_range2 rfl B.range #`тpe_cmpR op_ge # # #`уpe_cmpR op_isN # # #`фqH op_isN # # #"
def mtG:Nat->List Char->Lean.MacroM (Lean.Term×List Char)
 |0,_=>Lean.Macro.throwUnsupported
 |_,[]=>Lean.Macro.throwUnsupported
 |k+1,c::r=>do
  let mut a:Array Lean.Term:=#[]
  let mut r:=r
  for w in ((((mtT.splitOn ("`"++c.toString)).getD 1 "").splitOn "`").head!).splitOn " " do
   if w=="#" then
    let p<-mtG k r
    a:=a.push p.1
    r:=p.2
   else if w=="%" then
    a:=a.push (Lean.quote (mtN r.head!))
    r:=r.tail!
   else if w=="$" then
    a:=a.push (Lean.quote ((String.ofList (r.takeWhile (·!=';'))).splitOn ","))
    r:=(r.dropWhile (·!=';')).tail!
   else if w=="&" then
    a:=a.push (Lean.quote ((r.takeWhile (·!=';')).map mtN))
    r:=(r.dropWhile (·!=';')).tail!
   else if w=="_" then a:=a.push (<-`(_))
   else if w=="!1" then a:=a.push (<-`(λ_ _=>rfl))
   else if w=="!2" then a:=a.push (<-`(by walk_at "l"))
   else if w=="!4" then
    a:=a.push ⟨<-`(Lean.Parser.Term.namedArgument|(v:= .ty $(Lean.quote (String.ofList (r.takeWhile (·!=';')))):term))⟩
    r:=(r.dropWhile (·!=';')).tail!
   else if w=="!5" then a:=a.push ⟨<-`(Lean.Parser.Term.namedArgument|(v:= .ref _))⟩
   else if w=="!6" then
    a:=a.push ⟨<-`(Lean.Parser.Term.namedArgument|(i:=$(Lean.quote (mtN r.head!))))⟩
    r:=r.tail!
   else if w=="!7" then a:=a.push (<-`(by walk_at "o"))
   else if w=="!8" then a:=a.push (<-`(.nil))
   else if w=="!9" then a:=a.push (<-`(⟨_,rfl⟩))
   else if w=="!a" then a:=a.push ⟨<-`(Lean.Parser.Term.namedArgument|(j:=1))⟩
   else if w=="!b" then a:=a.push (<-`(by decide))
   else if w=="!3" then a:=a.push (<-`(by assumption))
   else a:=a.push (Lean.mkIdent w.toName)
  return (Lean.Syntax.mkApp a[0]! (a.extract 1 a.size),r)
local macro_rules|`(tactic|walk_at $s:str)=>do
 match s.getString.toList with
 |'='::r=>
  let p<-mtG 999 r
  `(tactic|(refine ⟨_,$(p.1),kD ?_⟩;try dsimp only [kxx,kyy]))
 |_=>Lean.Macro.throwUnsupported
local macro_rules|`(tactic|fail $s:str)=>do
 match s.getString.toList with
 |'&'::r=>
  let k:=(String.ofList r).toNat! +1
  if mtK k=="." then Lean.Macro.throwUnsupported
  else `(tactic|fail $(Lean.quote ("&"++toString k)))
 |_=>Lean.Macro.throwUnsupported
local macro_rules|`(tactic|fail $s:str)=>do
 match s.getString.toList with
 |'&'::r=>
  let w:=mtK (String.ofList r).toNat!
  if w=="." then Lean.Macro.throwUnsupported
  else match w.splitOn ":" with
   |[c,n]=>mtY n.toName c.toList
   |_=>Lean.Macro.throwUnsupported
 |_=>Lean.Macro.throwUnsupported
local macro_rules|`(tactic|walk_at "n")=>`(tactic|(intro _ _ _ _ h;first|(obtain ⟨_,_,_,h,_⟩:=h;rw [<-h.len];rfl)|(obtain ⟨_,h,_⟩:=h;rw [<-h.len];rfl)|(obtain ⟨_,_,h,_⟩:=h;rw [<-h.len];rfl)|(obtain ⟨_,_,_,_,_,_,h,_⟩:=h;rw [<-h.len];rfl)|(obtain ⟨_,_,e,_⟩:=h;subst e;rfl)|(obtain ⟨_,_,_,e,_⟩:=h;subst e;rfl)|(obtain ⟨_,e,_⟩:=h;subst e;rfl)|(obtain ⟨_,_,_,_,e,_⟩:=h;subst e;rfl)|(obtain ⟨_,_,_,_,_,e,_⟩:=h;subst e;rfl)|(obtain ⟨_,_,_,_,_,_,e,_⟩:=h;subst e;rfl)))
local macro_rules|`(tactic|walk_at "mem")=>`(tactic|first|fail "&127"|fail)
local macro_rules|`(tactic|walk_at "has")=>`(tactic|first|fail "&130"|fail)
local macro_rules|`(tactic|walk_at "hasall")=>`(tactic|first|fail "&136"|fail)
local macro_rules|`(tactic|walk_at "sz")=>`(tactic|first|fail "&139"|fail)
local macro_rules|`(tactic|walk_at "mul")=>`(tactic|first|fail "&147"|fail)
local macro_rules|`(tactic|walk_at "div")=>`(tactic|exact ⟨by decide,by decide⟩)
local macro_rules|`(tactic|walk_at "mod")=>`(tactic|first|fail "&153"|fail)
local macro_rules|`(tactic|walk_at "rd")=>`(tactic|first|fail "&0"|fail)
local macro_rules|`(tactic|walk_at "sub")=>`(tactic|first|fail "&158"|fail)
local macro_rules|`(tactic|walk_at "dats")=>`(tactic|first|fail "&163"|fail)
local macro_rules|`(tactic|walk_at "walk")=>`(tactic|repeat walk_at "rd")
local macro_rules|`(tactic|walk_at "szq")=>`(tactic|first|fail "&166"|fail)
local macro_rules|`(tactic|walk_at "dom")=>`(tactic|first|fail "&172"|fail)
def EJ (K:PySem.W.Frag):Sp:=λvs H Q _=>∃(a:Addr) (ns:List Int),vs=[.ref a]/\SqL K H a (ns.map V.int)/\ns.length<=63/\Only H/\∀H',Q (.bl true) H'
theorem fF {P:Program} {w:World} {K:PySem.W.Frag} {mg:Str->Option Value} {base:Heap} {f:Addr} {fd:FuncData} {k:Nat} {x:Str} {st:Stmt} {ps:List Str} {sp:Sp} (F:Fun K x x st f fd) (G:FnOk P w K mg base CX0 k f fd ps sp) (hm:mg x=some (.ref f)) (b:yD K fd ps []):Cal P w K mg base CX0 k x ps sp:=⟨f,fd,G,hm,F.kp,b⟩
section
variable {P:Program} {w:World} {K:PySem.W.Frag} {mg:Str->Option Value} {base:Heap} {f:Addr} {fd:FuncData}
def top (i:Nat):Stmt:=PySem.Challenge.pw_shortpurse_k43_whole_two_rules.main.body.getD i (.Pass ⟨0,0,0,0⟩)
abbrev xV:Stmt:=top 15
theorem VD:FnScope ["one","two","rest"] paa (zk xV):=yR
abbrev km:Stmt:=top 14
theorem AU:FnScope ["top","bottom","divisor"] pal (zk km):=yR
def spGcd:Sp:=λvs H Q _=>∃a b:Int,vs=[.int a, .int b]/\0<=a/\0<=b/\Q (.int (Int.gcd a b:Nat)) H
theorem ok_gcd (F:Fun K "greatest_divisor" "greatest_divisor" xV f fd):FnOk P w K mg base CX0 1 f fd paa spGcd:=by
 refine F.oo VD λH vs Q E hr nd0 h=>?_;obtain ⟨a,b,rfl,ha,hb,q⟩:=h;walk_at "=e8oOmb1dkej23b0b1ej0b1fj1b2fib0";refine jy (λm σ H2=>∃(x y:Int) (v:Option V),σ=[some (.int x),some (.int y),v]/\0<=x/\0<=y/\Int.gcd x y=Int.gcd a b/\H2=H/\m=y.toNat) _ ⟨a,b,none,rfl,ha,hb,rfl,rfl,rfl⟩ ?_
 rintro m σ H2 ⟨x,y,v,rfl,hx,hy,hg,rfl,rfl⟩
 left;refine qB (λc=>?_) (λc=>?_)
 ·have c:y≠0:=by simpa using c
  left;have e:x.fmod y=x % y:=To x hy;have l1:=jaG x c;have l2:=jaq x (show 0<y by omega);refine ⟨(x.fmod y).toNat,by rw [e];omega,y,x.fmod y,_,rfl,hy,by rw [e];exact l1,?_,rfl,rfl⟩;rw [e,tZ,hg]
 ·have c:y=0:=by simpa using c
  subst c;left;have e:x=((Int.gcd a b:Nat):Int):=by rw [<-hg,Int.gcd_zero];omega
  show Q (.int x) H2;rw [e];exact q
theorem Ck (B:Bl mg) (uS:Cal P w K mg base CX0 1 "greatest_divisor" paa spGcd) (F:Fun K "lowest" "lowest" km f fd):FnOk P w K mg base CX0 2 f fd pal Xm:=by
 refine F.oo AU λH vs Q E hr nd0 h=>?_;obtain ⟨G,⟨a,b⟩,eG,hA,⟨hb,sb⟩,k⟩:=h;cases (yM (ns:=[a,b]) hA);have S:Sta H G H [] []:=Sta.enter eG λp hp=>absurd hp Qv;dsimp only at hb sb k;walk_at "=ej2ga|ab0ca|ab1ccel4b1dkfj2Gb2nfiqa?b0b2a?b1b2c";left;refine ⟨_,_,rfl,by omega,by omega,?_⟩;rw [show Int.gcd (a.natAbs:Int) (b.natAbs:Int)=Int.gcd a b by simp;rfl];have gp:0<Int.gcd a b:=Int.gcd_pos_of_ne_zero_right a hb
 have gs:Sz 8999 (Int.gcd a b:Nat):=by
  refine Sz.le sb ?_;have:=Nat.le_of_dvd (by omega) (Int.gcd_dvd_natAbs_right a b);omega
 left;refine yJ (λc=>?_) (λc=>?_)
 ·have hc:CDv a (-((Int.gcd a b:Nat):Int)):=⟨by omega,gs.le (by omega)⟩;left;refine ZJ (by assumption) k (.mem ?_);rw [show frD (Rat.divInt a b)= .tuple [.int (a.fdiv (-((Int.gcd a b:Nat):Int))), .int (b.fdiv (-((Int.gcd a b:Nat):Int)))] by unfold frD;rw [<-(CG c).1,<-(CG c).2]];walk_at "mem"
 ·have hc:CDv a ((Int.gcd a b:Nat):Int):=⟨by omega,gs⟩;left;refine ZJ (by assumption) k (.mem ?_);rw [show frD (Rat.divInt a b)= .tuple [.int (a.fdiv ((Int.gcd a b:Nat):Int)), .int (b.fdiv ((Int.gcd a b:Nat):Int))] by unfold frD;rw [<-(VT (show 0<b by omega)).1,<-(VT (show 0<b by omega)).2]];walk_at "mem"
abbrev Bc:Stmt:=top 8
theorem IU:FnScope paa paa (zk Bc):=yR
theorem JB (Zv:Cal P w K mg base CX0 2 "lowest" pal Xm) (F:Fun K "plus" "plus" Bc f fd):FnOk P w K mg base CX0 3 f fd paa sX:=by
 refine F.oo IU λH vs Q E hr nd0 h=>?_;obtain ⟨G,⟨p,q⟩,eG,hA,⟨⟨m,n,hp,hq,Mz⟩,_⟩,k⟩:=h;obtain ⟨v,w',rfl,al⟩:=yT hA;have S:Sta H G H [] _:=Sta.enter eG al;dsimp only at hp hq k S;have o1:IntMulOk p.num (q.den:Int):=hp.1.mulOk hq.2 (by omega);have o2:IntMulOk q.num (p.den:Int):=hq.1.mulOk hp.2 (by omega);have o3:IntMulOk (p.den:Int) (q.den:Int):=hp.2.mulOk hq.2 (by omega);have o4:IntMulOk p.num q.num:=hp.1.mulOk hq.1 (by omega);walk_at "=figavth0h1th1h0ath0h1c";left;refine Wu (by assumption) (xl p q) ((hp.2.mul hq.2).mono Mz) λr H' e S=>?_;rw [DS] at S;exact ZJ S k ‹_›
abbrev qv:Stmt:=top 9
theorem ET:FnScope paa paa (zk qv):=yR
theorem FC (Zv:Cal P w K mg base CX0 2 "lowest" pal Xm) (F:Fun K "minus" "minus" qv f fd):FnOk P w K mg base CX0 3 f fd paa UO:=by
 refine F.oo ET λH vs Q E hr nd0 h=>?_;obtain ⟨G,⟨p,q⟩,eG,hA,⟨⟨m,n,hp,hq,Mz⟩,_⟩,k⟩:=h;obtain ⟨v,w',rfl,al⟩:=yT hA;have S:Sta H G H [] _:=Sta.enter eG al;dsimp only at hp hq k S;have o1:IntMulOk p.num (q.den:Int):=hp.1.mulOk hq.2 (by omega);have o2:IntMulOk q.num (p.den:Int):=hq.1.mulOk hp.2 (by omega);have o3:IntMulOk (p.den:Int) (q.den:Int):=hp.2.mulOk hq.2 (by omega);have o4:IntMulOk p.num q.num:=hp.1.mulOk hq.1 (by omega);walk_at "=figaTth0h1th1h0ath0h1c";left;refine Wu (by assumption) (xl p q) ((hp.2.mul hq.2).mono Mz) λr H' e S=>?_;rw [Av] at S;exact ZJ S k ‹_›
abbrev qu:Stmt:=top 10
theorem ER:FnScope paa paa (zk qu):=yR
theorem Fo (Zv:Cal P w K mg base CX0 2 "lowest" pal Xm) (F:Fun K "times" "times" qu f fd):FnOk P w K mg base CX0 3 f fd paa pY:=by
 refine F.oo ER λH vs Q E hr nd0 h=>?_;obtain ⟨G,⟨p,q⟩,eG,hA,⟨⟨m,n,hp,hq,Mz⟩,_⟩,k⟩:=h;obtain ⟨v,w',rfl,al⟩:=yT hA;have S:Sta H G H [] _:=Sta.enter eG al;dsimp only at hp hq k S;have o1:IntMulOk p.num (q.den:Int):=hp.1.mulOk hq.2 (by omega);have o2:IntMulOk q.num (p.den:Int):=hq.1.mulOk hp.2 (by omega);have o3:IntMulOk (p.den:Int) (q.den:Int):=hp.2.mulOk hq.2 (by omega);have o4:IntMulOk p.num q.num:=hp.1.mulOk hq.1 (by omega);walk_at "=figath0h1ath0h1c";left;refine Wu (by assumption) (xl p q) ((hp.2.mul hq.2).mono Mz) λr H' e S=>?_;rw [Cy] at S;exact ZJ S k ‹_›
abbrev Bd:Stmt:=top 11
theorem IV:FnScope paa paa (zk Bd):=yR
theorem JC (Zv:Cal P w K mg base CX0 2 "lowest" pal Xm) (F:Fun K "over" "over" Bd f fd):FnOk P w K mg base CX0 3 f fd paa HF:=by
 refine F.oo IV λH vs Q E hr nd0 h=>?_;obtain ⟨G,⟨p,q⟩,eG,hA,⟨⟨m,n,hp,hq,Mz⟩,h0⟩,k⟩:=h;obtain ⟨v,w',rfl,al⟩:=yT hA;have S:Sta H G H [] _:=Sta.enter eG al;dsimp only at hp hq k S h0;have o1:IntMulOk p.num (q.den:Int):=hp.1.mulOk hq.2 (by omega);have o2:IntMulOk (p.den:Int) q.num:=hp.2.mulOk hq.1 (by omega);have h1:=HQ h0;walk_at "=elosmh1dkVnfigath0h1ath0h1c";left;refine yJ (λc=>absurd c h1) (λ_=>?_);left;refine Wu (by assumption) (Int.mul_ne_zero (Int.ne_of_gt (den_pos p)) h1) ((hp.2.mul hq.1).mono Mz) λr H' e S=>?_;rw [Du p q h0] at S;exact ZJ S k ‹_›
abbrev kA:Stmt:=top 12
theorem AZ:FnScope paa paa (zk kA):=yR
theorem Ct (F:Fun K "before" "before" kA f fd):FnOk P w K mg base CX0 1 f fd paa cq:=by
 refine F.oo AZ λH vs Q E hr nd0 h=>?_;obtain ⟨⟨p,q⟩,hA,⟨m,n,hp,hq,Mz⟩,k⟩:=h;obtain ⟨v,w',rfl,al⟩:=yT hA;have S:Sta H H H [] _:=Sta.enter (zL.refl _) al;dsimp only at hp hq k S;have o1:IntMulOk p.num (q.den:Int):=hp.1.mulOk hq.2 (by omega);have o2:IntMulOk q.num (p.den:Int):=hq.1.mulOk hp.2 (by omega);walk_at "=fi:th0h1th1h0k";left;rw [show decide (p<q)=decide (p.num*(q.den:Int)<q.num*(p.den:Int)) from decide_eq_decide.mpr (Rat.lt_iff p q)] at k;exact k
abbrev YA:Stmt:=top 31
theorem dB:FnScope ["amounts","amount","low","high","middle"] paQ (zk YA):=yR
theorem JF (B:Bl mg) (cL:Cal P w K mg base CX0 1 "before" paa cq) (F:Fun K "last_reached" "last_reached" YA f fd):FnOk P w K mg base CX0 2 f fd paQ sY:=by
 refine F.oo dB λH vs Q E hr nd0 h=>?_;obtain ⟨qs,e,n,hA,⟨SM,NO,zq,ze,hn,hfst⟩,k⟩:=h;obtain ⟨va,ve,rfl,al⟩:=yT hA;have S:Sta H H H [] [(.list (qs.map frD),va),(frD e,ve)]:=Sta.enter (zL.refl _) al;have h2n:n+n<=100000000:=by omega
 walk_at "=ej2dej3Dab0ce8XTb3b2dkej4Pvb2b3dflHgab1arb0b4cfj3b4fj2b4fib2";left
 refine jy (λm σ H2=>∃(low high:Nat) (x4:Option V) (q:Rat),σ=[some va,some ve,some (.int (low:Nat)),some (.int (high:Nat)),x4]/\H2=H/\low<high/\high<=qs.length/\qs[low]? =some q/\q<=e/\(high=qs.length\/∃r,qs[high]? =some r/\e<r)/\m=high - low) (qs.length - 0) ⟨0,qs.length,none,qs[0],by
  rw [Qa];rfl,rfl,SM,Qp _,Qc SM,hfst _ (Qc SM), .inl rfl,rfl⟩ ?_
 rintro m σ H2 ⟨low,high,x4,q,rfl,rfl,hlh,hhn,hq,Nm,RH,rfl⟩
 left;refine qB (λc=>?_) (λc=>?_)
 ·have c:1<(high:Int) - low:=by simpa using c
  have em:((low:Int)+high) / 2=(((low+high) / 2:Nat):Int):=by omega
  have hm1:low<(low+high) / 2:=by omega
  have hm2:(low+high) / 2<high:=by omega
  left;rw [em];generalize (low+high) / 2=mid at*;have RF:qs[mid]? =some (qs[mid]'(by omega)):=Qc _;generalize (qs[mid]'(by omega))=p at*;refine yV (xs:=qs.map frD) (x:=frD p) S ‹_› (yC (by rw [Qi,RF];rfl)) λwp S2=>?_;have zp:=zq p (Qe RF);refine nO (m:=n) (n:=n) S2 ‹_› ‹_› ze zp h2n ?_;left;refine yJ (λc1=>?_) (λc1=>?_)
  ·left;exact ⟨mid - low,by omega,low,mid,_,q,rfl,rfl,hm1,by omega,hq,Nm, .inr ⟨p,RF,c1⟩,rfl⟩
  ·left;exact ⟨high - mid,by omega,mid,high,_,p,rfl,rfl,hm2,hhn,RF,QX.mp c1,RH,rfl⟩
 ·have c:¬1<(high:Int) - low:=by simpa using c
  have e1:high=low+1:=by omega
  subst e1;left;exact k low q hq Nm RH
abbrev Zg:Stmt:=top 27
theorem Ud:FnScope pay pay (zk Zg):=yR
theorem vE (YJ:Cal P w K mg base CX0 3 "minus" paa UO) (Iz:Cal P w K mg base CX0 3 "over" paa HF) (F:Fun K "portion_reached" "portion_reached" Zg f fd):FnOk P w K mg base CX0 4 f fd pay VZ:=by
 refine F.oo Ud λH vs Q E hr nd0 h=>?_;obtain ⟨G,⟨s',e',x⟩,eG,hA,⟨⟨m,n,z1,z2,z3,hz⟩,Ma⟩,k⟩:=h;obtain ⟨v1,v2,v3,rfl,al⟩:=XO hA;have S:Sta H G H [] _:=Sta.enter eG al;dsimp only at z1 z2 z3 Ma k S;walk_at "=figagab2ab0cagab1ab0cc";left;refine qC S ‹_› ‹_› z3 z1 (by omega) True.intro λr1 H1 e1 S1=>?_;left;refine qC S1 ‹_› ‹_› z2 z1 (by omega) True.intro λr2 H2 e2 S2=>?_;left;refine qC S2 ‹_› ‹_› (z3.sub z1) (z2.sub z1) (by omega) (λz=>Ma (by grind)) λr3 H3 e3 S3=>?_;exact ZJ S3 k ‹_›
abbrev VM:Stmt:=top 28
theorem ni:FnScope paw paw (zk VM):=yR
theorem Cu (js:Cal P w K mg base CX0 3 "plus" paa sX) (YJ:Cal P w K mg base CX0 3 "minus" paa UO) (mh:Cal P w K mg base CX0 3 "times" paa pY) (F:Fun K "amount_at" "amount_at" VM f fd):FnOk P w K mg base CX0 4 f fd paw cu:=by
 refine F.oo ni λH vs Q E hr nd0 h=>?_;obtain ⟨G,⟨s',e',t⟩,eG,hA,⟨m,n,z1,z2,z3,hz⟩,k⟩:=h;obtain ⟨v1,v2,v3,rfl,al⟩:=XO hA;have S:Sta H G H [] _:=Sta.enter eG al;dsimp only at z1 z2 z3 k S;walk_at "=figab0agab2agab1ab0ccc";left;refine qC S ‹_› ‹_› z2 z1 (by omega) True.intro λr1 H1 e1 S1=>?_;left;refine qC S1 ‹_› ‹_› z3 (z2.sub z1) (by omega) True.intro λr2 H2 e2 S2=>?_;left;refine qC S2 ‹_› ‹_› z1 (z3.mul (z2.sub z1)) (by omega) True.intro λr3 H3 e3 S3=>?_;exact ZJ S3 k ‹_›
abbrev ZU:Stmt:=top 26
theorem bM:FnScope ["start","end","purse","portion"] paV (zk ZU):=yR
theorem vL (B:Bl mg) (bt:Cal P w K mg base CX0 4 "portion_reached" pay VZ) (sL:Cal P w K mg base CX0 4 "amount_at" paw cu) (F:Fun K "parts_between" "parts_between" ZU f fd):FnOk P w K mg base CX0 5 f fd paV dh:=by
 refine F.oo bM λH vs Q E hr nd0 h=>?_;obtain ⟨G,⟨c,d,e⟩,eG,hA,⟨⟨m,n,z1,z2,z3,hz⟩,LS,hl⟩,k⟩:=h;obtain ⟨v1,v2,v3,rfl,al⟩:=XO hA;have S:Sta H G H [] _:=Sta.enter eG al;dsimp only at z1 z2 z3 LS hl k S;walk_at "=ej3gah0ah1ab2cfiYaEone,two,portion;23;@ah0ah1cLwu0wu1MBgab0ab1ab2cc";left;rename_i w1 S1 w2 S2;refine iN S2 ‹_› ‹_› ‹_› z1.1 z2.1 z3 (by omega) (λz=>by rw [z] at LS;exact jbP LS) λr3 H3 e3 S3=>?_;have zt:SzQ (m+3*n+2) ((e - c.1) / (d.1 - c.1)):=((z3.sub z1.1).div (z2.1.sub z1.1)).mono (by omega);left;rename_i w4 S4 w5 S5;unfold Yg at k;generalize (e - c.1) / (d.1 - c.1)=t at*;refine cw (xs:=c.2.map frD) (ys:=d.2.map frD) S5 ‹_› ‹_› λJ wk=>?_;refine xB wk (λj=>frD ((List.zipWith (Zr t) c.2 d.2).getD j 0)) (ys:=(List.zipWith (Zr t) c.2 d.2).map frD) ?_ S5 (λ_ _=>⟨.mem (by right),λ_ _ h=>h.tail, .mem (by right)⟩) (by rw [xS,Qa,Qa];omega) (λj x v B' G' Kd Kn hx t1 S hd C ex s0 H0=>?_) λD H1 e1 S1=>?_
 ·rw [xS,Qa,Qa,show min c.2.length d.2.length=(List.zipWith (Zr t) c.2 d.2).length by rw [QE]];exact zH frD 0 _
 ·obtain ⟨x1,x2,h1,h2,rfl⟩:=Vz hx;obtain ⟨n1,Oe,rfl⟩:=zU h1;obtain ⟨n2,Nd,rfl⟩:=zU h2;refine xX (xW S ‹_› λw1 w2 S=>?_);refine xI (zF (xI (zF (ah ⟨rfl,?_⟩))));left;refine nP S ‹_› ‹_› ‹_› (z1.2 n1 (Qe Oe)) (z2.2 n2 (Qe Nd)) zt (by omega) λr6 H6 e6 S6=>?_;refine hd S6 ?_;rw [yh (n:=Zr t n1 n2) (by rw [QC,Oe,Nd])];exact .mem (by right)
 left;exact ZJ (by assumption) k ‹_›
abbrev UT:Stmt:=top 18
theorem qj:FnScope ["path","purse","place"] paT (zk UT):=yR
theorem vG (B:Bl mg) (iB:Cal P w K mg base CX0 2 "last_reached" paQ sY) (DZ:Cal P w K mg base CX0 5 "parts_between" paV dh) (F:Fun K "parts_at" "parts_at" UT f fd):FnOk P w K mg base CX0 6 f fd paT Wg:=by
 refine F.oo qj λH vs Q E hr nd0 h=>?_;obtain ⟨G,⟨a,e⟩,eG,hA,⟨m,n,ok,ze,hz,h0⟩,k⟩:=h;obtain ⟨v1,v2,rfl,al⟩:=yT hA;have S:Sta H G H [] _:=Sta.enter eG al;dsimp only at ok ze h0 k S;have few:=ok.few
 have NG:¬e.num<0:=by
  have:=Rat.num_nonneg.mpr h0;omega
 have la:0<a.length:=jaB.mpr ok.ne;walk_at "=el4h1dkVnej2gaEcorner;1;Cb0u0Bh0ab1celosmb2TDab0cdkfirrb0b2dnfigarb0b2arb0vb2dab1c";left;refine yJ (λc=>absurd c NG) (λ_=>?_);left;refine yq (xs:=a.map zu) S ‹_› λJ wk=>?_;refine xF wk (λj=>frD ((λc:zg=>c.1) (a.getD j (0,[])))) (ys:=(a.map λc=>c.1).map frD) (by rw [Qa,QR];exact zH (λc:zg=>frD c.1) (0,[]) a) S (λj x v=>λhx t1 S hd=>?_) λD H1 e1 S1=>?_
 ·obtain ⟨c,hc,rfl⟩:=zU hx;refine zF ⟨rfl,?_⟩;left;refine hd (by assumption) ?_;rw [yh hc];exact .mem (by right)
 left;refine Bv (qs:=a.map λc=>c.1) (e:=e) (n:=9000) S1 (S1.hpC (by right)) (S1.hp ‹_›) ⟨by rw [Qa];exact la,by rw [Qa];omega,λq hq=>?_,ze.mono (by omega),by decide,λq hq=>?_⟩ λi q hi Nm OA=>?_
 ·obtain ⟨c,hc,rfl⟩:=Qj.mp hq;exact (ok.sz c hc).1.mono (by omega)
 ·obtain ⟨c,hc,rfl⟩:=zU hq;rw [ok.zero c hc];exact h0
 obtain ⟨c,hc,rfl⟩:=zU hi;have RG:i<a.length:=(Qf.mp hc).1
 have key:=Ya (E:=e) ok.rise hc Nm (by
  rcases OA with h|⟨r,MT,h⟩
  ·exact Or.inl (by simpa using h)
  ·obtain ⟨d,hd,rfl⟩:=zU MT
   exact .inr ⟨d,hd,h⟩)
 left;refine yJ (λc1=>?_) (λc1=>?_)
 ·rw [Qa] at c1;rw [QF (show a.length<=i+1 by omega)] at key;left;refine yV (xs:=a.map zu) (x:=zu c) S1 ‹_› (yC (by rw [Qi,hc];rfl)) λwc S2=>?_;left;rw [key] at k;exact ZJ (by assumption) k ‹_›
 ·rw [Qa] at c1;have LS:i+1<a.length:=by omega
  have hd:=Qc LS;have MT:=ok.rise;unfold yl at MT;rw [QK] at MT;have LW:=MT i (i+1) RG LS (by omega);rw [List.getElem_eq_iff RG|>.mpr hc] at LW;generalize a[i+1]=d at*;rw [hd] at key;left;refine yV (xs:=a.map zu) (x:=zu c) S1 ‹_› (yC (by rw [Qi,hc];rfl)) λwc S2=>?_;left;refine yV (xs:=a.map zu) (x:=zu d) S2 ‹_› (by rw [show ((i:Nat):Int)+1=((i+1:Nat):Int) by omega];exact yC (by rw [Qi,hd];rfl)) λwd S3=>?_;left;refine vt S3 ‹_› ‹_› ‹_› (ok.sz c (Qe hc)) (ok.sz d (Qe hd)) ze hz LW (ok.len c (Qe hc)) λr4 H4 e4 S4=>?_;rw [key] at k;exact ZJ S4 k ‹_›
local macro_rules|`(tactic|walk_at "rd")=>`(tactic|first|fail "&175"|fail)
abbrev IW:Stmt:=top 25
theorem sc_gap:FnScope paa paa (zk IW):=yR
abbrev Xv:Stmt:=top 24
theorem gF:FnScope ["ahead","corner","following","near","far","place","start","rise","whole"] paK (zk Xv):=yR
abbrev dF:Stmt:=top 17
theorem uZ:FnScope ["corners","last"] ["corners"] (zk dF):=yR
theorem ok_gap (F:Fun K "gap" "gap" IW f fd):FnOk P w K mg base CX0 1 f fd paa IM:=by
 refine F.oo sc_gap λH vs Q E hr nd0 h=>?_;obtain ⟨G,⟨p,q⟩,eG,hA,⟨hp,hq⟩,k⟩:=h;obtain ⟨v,w',rfl,al⟩:=yT hA;have S:Sta H G H [] _:=Sta.enter eG al;dsimp only at hp hq k S;have o1:IntMulOk q.num (p.den:Int):=hq.1.mulOk hp.2 (by decide);have o2:IntMulOk p.num (q.den:Int):=hp.1.mulOk hq.2 (by decide);have o3:IntMulOk (p.den:Int) (q.den:Int):=hp.2.mulOk hq.2 (by decide);walk_at "=fiqaTth1h0th0h1ath0h1c";left;exact ZJ (by assumption) k ‹_›
theorem qQ (B:Bl mg) (Lq:Cal P w K mg base CX0 1 "gap" paa IM) (F:Fun K "is_straight" "is_straight" Xv f fd):FnOk P w K mg base CX0 2 f fd paK IK:=by
 refine F.oo gF λH vs Q E hr nd0 h=>?_;obtain ⟨⟨a,b,c⟩,hA,⟨sa,sb,sc,l1,l2,l3⟩,k⟩:=h;obtain ⟨va,vb,vc,rfl,al⟩:=XO hA;have S:Sta H H H [] _:=Sta.enter (zL.refl _) al;dsimp only at sa sb sc l1 l2 l3 k S;have za:=sa.1;have zb:=sb.1;have zc:=sc.1;have zn:=ua za zb;have zf:=ua za zc;walk_at "=ej3gah0ah1cej4gah0ah2ceIαah0cLwy5wy6Mej7gab6arh1b5cej8gab6arh2b5cfloOmttth7h3h8h4ttth8h4h7h3kfiNnfiN";left;rename_i w1 _ w2 _ vn H1 e1 S1 w3 _ w4 _ vf H2 e2 S2 w5 S3;refine Bz (xs:=a.2.map frD) S3 ‹_› λJ wk=>?_;have S4:Sta H H H2 [] [(zO a.2,w5),(KA a.1 b.1,vn),(KA a.1 c.1,vf),(zu a,va),(zu b,vb),(zu c,vc)]:=S3.dat (by walk_at "dats")
 refine Yd wk (λi σ cs ds=>∃(x5 x6 x7 x8:Option V),σ=[some va,some vb,some vc,some vn,some vf,x5,x6,x7,x8]/\cs=[]/\ds=[(zO a.2,w5),(KA a.1 b.1,vn),(KA a.1 c.1,vf),(zu a,va),(zu b,vb),(zu c,vc)]/\
  ∀(j:Nat) (x y z:Rat),j<i->a.2[j]? =some x->b.2[j]? =some y->c.2[j]? =some z->(y - x)*(c.1 - a.1)=(z - x)*(b.1 - a.1)) S4 ⟨none,none,none,none,rfl,rfl,rfl,λj x y z hj=>absurd hj (Nat.not_lt_zero _)⟩ (λi σ cs ds h=>?_) ?_ ?_
 ·obtain ⟨_,_,_,_,_,_,rfl,_⟩:=h;exact .mem (by right)
 ·rintro i x u σ H5 cs ds hx ⟨x5,x6,x7,x8,rfl,rfl,rfl,inv⟩ S5
  obtain ⟨x0,Mi,rfl⟩:=XD hx;obtain ⟨p,hp,rfl⟩:=zU Mi;have hi:i<a.2.length:=(Qf.mp hp).1;have RD:b.2[i]? =some (b.2[i]'(by omega)):=Qc _;have RC:c.2[i]? =some (c.2[i]'(by omega)):=Qc _;generalize (b.2[i]'(by omega))=q at*;generalize (c.2[i]'(by omega))=r at*;have zp:SzQ 2000 p:=sa.2 p (Qe hp);have zq:SzQ 2000 q:=sb.2 q (Qe RD);have zr:SzQ 2000 r:=sc.2 r (Qe RC);have zx:=ua zp zq;have zw:=ua zp zr;have ib:atI (b.2.map frD) ((i:Nat):Int)=some (frD q):=yC (by rw [Qi,RD];rfl);have ic:atI (c.2.map frD) ((i:Nat):Int)=some (frD r):=yC (by rw [Qi,RC];rfl);refine xX (xW S5 ‹_› λu1 u2 S6=>?_);cases S6.int1;left;rename_i u3 S7;refine Ul (xs:=b.2.map frD) S7 ‹_› ib λu4 S8=>?_;left;rename_i vr H9 e9 S9 u5 Mr;refine Ul (xs:=c.2.map frD) Mr ‹_› ic λu6 MC=>?_;have m1:=zx.1.mul zn.2;have m2:=m1.mul zw.2;have m3:=zw.1.mul zf.2;have m4:=m3.mul zx.2;have o1:=zx.1.mulOk zn.2 (by decide);have o2:=m1.mulOk zw.2 (by decide);have o3:=m2.mulOk zf.1 (by decide);have o4:=zw.1.mulOk zf.2 (by decide);have o5:=m3.mulOk zx.2 (by decide);have o6:=m4.mulOk zn.1 (by decide);left
  have cr:=DB (rn:=q.num*(p.den:Int) - p.num*(q.den:Int)) (rd:=(p.den:Int)*(q.den:Int)) (nn:=b.1.num*(a.1.den:Int) - a.1.num*(b.1.den:Int)) (nd:=(a.1.den:Int)*(b.1.den:Int))
   (wn:=r.num*(p.den:Int) - p.num*(r.den:Int)) (wd:=(p.den:Int)*(r.den:Int)) (fn:=c.1.num*(a.1.den:Int) - a.1.num*(c.1.den:Int)) (fd:=(a.1.den:Int)*(c.1.den:Int)) (xl _ _) (xl _ _) (xl _ _) (xl _ _)
  rw [aB,aB,aB,aB] at cr;refine bE (λz=>?_) (λz=>?_)
  ·left;have Mh:¬zN a b c:=λst=>z (cr.mp (st i _ _ _ hp RD RC));rw [show (@decide (zN a b c) (Classical.propDecidable _))=false from @decide_eq_false _ (Classical.propDecidable _) Mh] at k;exact qy (by assumption) k
  ·left;rename_i vw Rn e12 MP;refine xR (MP.dat (by walk_at "dats")) ⟨_,_,_,_,rfl,rfl,rfl,λj x y z' hj Nu Ov SF=>?_⟩
   by_cases PD:j<i
   ·exact inv j x y z' PD Nu Ov SF
   ·have:j=i:=by omega
    subst this;rw [hp] at Nu;rw [RD] at Ov;rw [RC] at SF;cases Nu;cases Ov;cases SF;exact cr.mpr z
 ·rintro σ H5 cs ds ⟨x5,x6,x7,x8,rfl,rfl,rfl,inv⟩ S5
  left
  have Mh:zN a b c:=λi x y z hx hy hz=>inv i x y z (by
   have:=(Qf.mp hx).1
   rw [xu,Qa];exact this) hx hy hz
  rw [show (@decide (zN a b c) (Classical.propDecidable _))=true from @decide_eq_true _ (Classical.propDecidable _) Mh] at k;exact qy S5 k
theorem vA (B:Bl mg) (Hw:Cal P w K mg base CX0 2 "is_straight" paK IK) (F:Fun K "thinned" "thinned" dF f fd):FnOk P w K mg base CX0 3 f fd ["corners"] cZ:=by
 refine F.oo uZ λH vs Q E hr nd0 h=>?_;obtain ⟨G,a,eG,hA,⟨m,ok⟩,k⟩:=h;obtain ⟨v0,rfl,al⟩:=Yq hA;have S:Sta H G H [] _:=Sta.enter eG al;have few:=ok.few;walk_at "=ej1TDab0cdfiEplace,corner,corners,last;201;#ab0cLwu0wu1M.KSosmb0dkSosmb0b3k5QHgarb2Tb0dab1arb2vb0dcb1";left;refine kF (xs:=a.map zu) S ‹_› λJ wk=>?_;refine lH wk (λj=>if Yc a j then (a[j]?).map zu else none) S (λ_ _=> .mem (by right)) (by rw [xu,Qa];omega) (λi x v B' G' Kd Kn hx t1 S hd hn C ex s0 H0=>?_) λD H1 e1 S1=>?_
 ·obtain ⟨x0,Mi,rfl⟩:=XD hx;obtain ⟨c,hc,rfl⟩:=zU Mi;have hi:i<a.length:=(Qf.mp hc).1;refine xX (xW S ‹_› λu1 u2 S2=>?_);cases S2.int1;refine xI (zF (xI (zF (ah ⟨rfl,?_⟩))));rw [hc] at hd hn;have yes:Yc a i=true->∀{H5:Hp} {cs':yk} {ds':Dat},Sta B' G' H5 cs' ds'->Has ds' (zu c) u2->Kd u2 H5:=λhk {H5 cs' ds'} S5 h5=>hd (by rw [hk];rfl) S5 h5;have no:Yc a i=false->∀{H5:Hp} {cs':yk} {ds':Dat},Sta B' G' H5 cs' ds'->Kn H5:=λhk {H5 cs' ds'} S5=>hn (by rw [hk];rfl) S5;left;refine yJ (λc0=>?_) (λc0=>?_)
  ·left;exact yes (YU (.inl (by omega))) S2 ‹_›
  ·left;refine yJ (λc1=>?_) (λc1=>?_)
   ·left;rw [Qa] at c1;exact yes (YU (.inr (.inl (by omega)))) S2 ‹_›
   ·rw [Qa] at c1;have h0:i - 1<a.length:=by omega
    have h2:i+1<a.length:=by omega
    have g0:=Qc h0;have g2:=Qc h2;have y0:=Te h0;have y2:=Te h2;generalize a[i - 1]=c0' at*;generalize a[i+1]=c2' at*;have y1:=Qe hc;left;refine yV (xs:=a.map zu) (x:=zu c0') S2 ‹_› (Il (by omega) (by rw [show ((i:Int) - 1).toNat=i - 1 by omega,Qi,g0];rfl)) λu3 S3=>?_;left;refine yV (xs:=a.map zu) (x:=zu c2') S3 ‹_› (Il (by omega) (by rw [show ((i:Int)+1).toNat=i+1 by omega,Qi,g2];rfl)) λu4 S4=>?_;left;refine rd_str S4 ‹_› ‹_› ‹_› (ok.sz _ y0) (ok.sz _ y1) (ok.sz _ y2) (by rw [ok.len _ y1,ok.len _ y0]) (by rw [ok.len _ y2,ok.len _ y0]) (by rw [ok.len _ y0];exact ok.m) λH5 S5=>?_;left;refine @bE _ _ _ (_) (λz=>?_) (λz=>?_)
    ·left;exact yes (YU (.inr (.inr λq=>z (q _ _ _ g0 hc g2)))) S5 ‹_›
    ·refine no ?_ S5;refine iW ?_
     rintro (q|q|q)
     ·omega
     ·omega
     ·refine q λx y z' hx hy hz=>?_;rw [g0] at hx;rw [hc] at hy;rw [g2] at hz;cases hx;cases hy;cases hz;exact z
 ·left;rw [xu,Qa,wa] at S1;exact xD S1 k
abbrev VF:Stmt:=top 29
theorem mU:FnScope paf paf (zk VF):=yR
theorem nW (B:Bl mg) (js:Cal P w K mg base CX0 3 "plus" paa sX) (F:Fun K "plus_each" "plus_each" VF f fd):FnOk P w K mg base CX0 4 f fd paf (mO λp q=>p+q):=by
 refine F.oo mU λH vs Q E hr nd0 h=>?_;obtain ⟨G,⟨p,q⟩,eG,hA,⟨s1,s2,hl⟩,k⟩:=h;obtain ⟨v,w',rfl,al⟩:=yT hA;have S:Sta H G H [] _:=Sta.enter eG al;dsimp only at s1 s2 hl k S;walk_at "=fiYaEone,two;2;@ab0ab1cLwu0wu1MBgab0ab1cc";left;refine cw (xs:=p.map frD) (ys:=q.map frD) S ‹_› ‹_› λJ wk=>?_;refine xB wk (λj=>frD ((List.zipWith (λp q=>p+q) p q).getD j 0)) (ys:=(List.zipWith (λp q=>p+q) p q).map frD) ?_ S (λ_ _=>⟨.mem (by right),λ_ _ h=>h.tail, .mem (by right)⟩) (by rw [xS,Qa,Qa];omega) (λj x v B' G' Kd Kn hx t1 S hd C ex s0 H0=>?_) λD H1 e1 S1=>?_
 ·rw [xS,Qa,Qa,show min p.length q.length=(List.zipWith (λp q=>p+q) p q).length by rw [QE]];exact zH frD 0 _
 ·obtain ⟨x1,x2,h1,h2,rfl⟩:=Vz hx;obtain ⟨n1,Oe,rfl⟩:=zU h1;obtain ⟨n2,Nd,rfl⟩:=zU h2;have z1:=s1 n1 (Qe Oe);have z2:=s2 n2 (Qe Nd);refine xX (xW S ‹_› λw1 w2 S=>?_);refine xI (zF (xI (zF (ah ⟨rfl,?_⟩))));left;rename_i r H2 e2 S2;refine hd S2 ?_;rw [yh (n:=n1+n2) (by rw [QC,Oe,Nd])];exact .mem (by right)
 left;exact ZJ (by assumption) k ‹_›
abbrev VG:Stmt:=top 30
theorem mV:FnScope paf paf (zk VG):=yR
theorem nX (B:Bl mg) (YJ:Cal P w K mg base CX0 3 "minus" paa UO) (F:Fun K "less_each" "less_each" VG f fd):FnOk P w K mg base CX0 4 f fd paf (mO λp q=>p - q):=by
 refine F.oo mV λH vs Q E hr nd0 h=>?_;obtain ⟨G,⟨p,q⟩,eG,hA,⟨s1,s2,hl⟩,k⟩:=h;obtain ⟨v,w',rfl,al⟩:=yT hA;have S:Sta H G H [] _:=Sta.enter eG al;dsimp only at s1 s2 hl k S;walk_at "=fiYaEone,two;2;@ab0ab1cLwu0wu1MBgab0ab1cc";left;refine cw (xs:=p.map frD) (ys:=q.map frD) S ‹_› ‹_› λJ wk=>?_;refine xB wk (λj=>frD ((List.zipWith (λp q=>p - q) p q).getD j 0)) (ys:=(List.zipWith (λp q=>p - q) p q).map frD) ?_ S (λ_ _=>⟨.mem (by right),λ_ _ h=>h.tail, .mem (by right)⟩) (by rw [xS,Qa,Qa];omega) (λj x v B' G' Kd Kn hx t1 S hd C ex s0 H0=>?_) λD H1 e1 S1=>?_
 ·rw [xS,Qa,Qa,show min p.length q.length=(List.zipWith (λp q=>p - q) p q).length by rw [QE]];exact zH frD 0 _
 ·obtain ⟨x1,x2,h1,h2,rfl⟩:=Vz hx;obtain ⟨n1,Oe,rfl⟩:=zU h1;obtain ⟨n2,Nd,rfl⟩:=zU h2;have z1:=s1 n1 (Qe Oe);have z2:=s2 n2 (Qe Nd);refine xX (xW S ‹_› λw1 w2 S=>?_);refine xI (zF (xI (zF (ah ⟨rfl,?_⟩))));left;rename_i r H2 e2 S2;refine hd S2 ?_;rw [yh (n:=n1 - n2) (by rw [QC,Oe,Nd])];exact .mem (by right)
 left;exact ZJ (by assumption) k ‹_›
abbrev jZ:Stmt:=top 19
theorem AM:FnScope ["path","end"] ["path"] (zk jZ):=yR
theorem BY (B:Bl mg) (YJ:Cal P w K mg base CX0 3 "minus" paa UO) (Kv:Cal P w K mg base CX0 4 "less_each" paf (mO λp q=>p - q)) (F:Fun K "turned" "turned" jZ f fd):FnOk P w K mg base CX0 5 f fd ["path"] cg:=by
 refine F.oo AM λH vs Q E hr nd0 h=>?_;obtain ⟨G,a,eG,hA,ok,k⟩:=h;obtain ⟨v0,rfl,al⟩:=Yq hA;have S:Sta H G H [] _:=Sta.enter eG al;have few:=ok.few;obtain ⟨LZ,Nw⟩:=ok.last;have zl:=ok.sz _ Nw;have zl1:=zl.1;walk_at "=ej1rb0GdfiEcorner,end;11;πab0cu0Bqagah1ah0cagah1ah0cc";left;refine yV (xs:=a.map zu) (x:=zu (lastC a)) S ‹_› (lQ (by rw [jav,LZ];rfl)) λve S1=>?_;left;refine Ji (xs:=a.map zu) S1 ‹_› λJ wk=>?_;refine xB wk (λj=>zu (VA (lastC a) (a.reverse.getD j (0,[])))) (ys:=(yj a).map zu) ?_ S1 (λ_ _=> .mem (by right)) (by rw [Tj,Qa];omega) (λj x v B' G' Kd Kn hx t1 S hd C ex s0 H0=>?_) λD H2 e2 S2=>?_
 ·unfold yj;rw [QR,Tj,Qa,<-Tj];exact zH (λc=>zu (VA (lastC a) c)) (0,[]) _
 ·rw [<-List.map_reverse] at hx;obtain ⟨c,hc,rfl⟩:=zU hx;have cm:c∈a:=jbB.mp (Qe hc);have zc:=ok.sz c cm;have zc1:=zc.1;refine zF ⟨rfl,?_⟩;left;refine BD (p:=(lastC a).2) (q:=c.2) (by assumption) ‹_› ‹_› zl.2 zc.2 (ok.len _ Nw) λr H3 e3 S3=>?_;left;refine hd (by assumption) ?_;rw [yh hc];exact .mem (by right)
 exact xD S2 k
abbrev kg:Stmt:=top 20
theorem AQ:FnScope paW paW (zk kg):=yR
theorem Cd (B:Bl mg) (mh:Cal P w K mg base CX0 3 "times" paa pY) (F:Fun K "scaled" "scaled" kg f fd):FnOk P w K mg base CX0 4 f fd paW jJ:=by
 refine F.oo AQ λH vs Q E hr nd0 h=>?_;obtain ⟨G,⟨a,p⟩,eG,hA,⟨ok,zp⟩,k⟩:=h;obtain ⟨v0,vp,rfl,al⟩:=yT hA;have S:Sta H G H [] _:=Sta.enter eG al;dsimp only at ok zp k S;have few:=ok.few;walk_at "=fiEcorner,portion;11;Cb0u0Bqagah0ab1caYaEpart,portion;11;,h0u0Bgab0ab1ccc";left;refine yq (xs:=a.map zu) S ‹_› λJ wk=>?_;refine xF wk (λj=>zu ((λc:zg=>(c.1*p,c.2.map (·*p))) (a.getD j (0,[])))) (ys:=(zP p a).map zu) ?_ S (λj x v=>λhx t1 S hd=>?_) λD H2 e2 S2=>?_
 ·unfold zP;rw [QR,Qa];exact zH (λc=>zu ((λc:zg=>(c.1*p,c.2.map (·*p))) c)) (0,[]) _
 ·obtain ⟨c,hc,rfl⟩:=zU hx;have zc:=ok.sz c (Qe hc);have zc1:=zc.1;have lc:=ok.len c (Qe hc);refine zF ⟨rfl,?_⟩;left;rename_i w1 S1 r1 H1 e1 S2 w2 S3;refine qG (xs:=c.2.map frD) S3 ‹_› λJ2 NK=>?_;refine xB NK (λj=>frD (c.2.getD j 0*p)) (ys:=(c.2.map (·*p)).map frD) (by rw [Qa,QR];exact zH (λx=>frD (x*p)) 0 c.2) S3 (λ_ _=> .mem (by right)) (by rw [Qa];exact lc) (λj x v B' G' Kd2 Kn2 NX t2 S hd2 C ex s0 H0=>?_) λD2 H4 e4 S4=>?_
  ·obtain ⟨y,hy,rfl⟩:=zU NX;have zy:=zc.2 y (Qe hy);refine zF ⟨rfl,?_⟩;left;rename_i r5 H5 e5 S5;refine hd2 S5 ?_;rw [yh hy];exact .mem (by right)
  left;refine hd (by assumption) ?_;rw [yh hc];exact .mem (by right)
 exact xD S2 k
abbrev kz:Stmt:=top 21
theorem AY:FnScope ["path","second","end","moved"] paq (zk kz):=yR
theorem Cs (B:Bl mg) (js:Cal P w K mg base CX0 3 "plus" paa sX) (Ku:Cal P w K mg base CX0 4 "plus_each" paf (mO λp q=>p+q)) (pO:Cal P w K mg base CX0 3 "thinned" ["corners"] cZ) (F:Fun K "behind" "behind" kz f fd):FnOk P w K mg base CX0 5 f fd paq Ua:=by
 refine F.oo AY λH vs Q E hr nd0 h=>?_;obtain ⟨G,⟨a,b⟩,eG,hA,⟨ok,OM,m,Rr⟩,k⟩:=h;obtain ⟨v0,v1,rfl,al⟩:=yT hA;have S:Sta H G H [] _:=Sta.enter eG al;dsimp only at ok OM Rr k S;have few:=ok.few;have few2:=OM.few;obtain ⟨LZ,Nw⟩:=ok.last;have zl:=ok.sz _ Nw;have zl1:=zl.1;walk_at "=ej2rb0Gde$3corner,end;12;CRb1FdUu0Bqagah1ah0cagah1ah0ccfigavb0b3c";left;refine yV (xs:=a.map zu) (x:=zu (lastC a)) S ‹_› (lQ (by rw [jav,LZ];rfl)) λve S1=>?_;left;refine nD (xs:=b.map zu) S1 ‹_› λl2 H2 e2 S2=>?_
 have ec:lG (b.map zu) (some 1) none=b.tail.map zu:=by
  unfold lG;rw [HT.sIx_none,show (some (1:Int))=some ((1:Nat):Int) from rfl,HT.sIx_nat,Qa];have hb:1<=b.length:=jaB.mpr OM.ne;rw [Nat.min_eq_left hb,Tc (by rw [Ti,Qa];exact Qp _),<-List.map_drop,List.drop_one]
 rw [ec] at S2;refine Bx (xs:=b.tail.map zu) S2 (by right) λJ wk=>?_;refine xB wk (λj=>zu (Vh (lastC a) (b.tail.getD j (0,[])))) (ys:=(yx a b).map zu) ?_ S2 (λ_ _=>Qd _ (by right)) (by rw [Qa,jaK];omega) (λj x v B' G' Kd Kn hx t1 S hd C ex s0 H0=>?_) λD H3 e3 S3=>?_
 ·unfold yx;rw [QR,Qa];exact zH (λc=>zu (Vh (lastC a) c)) (0,[]) _
 ·obtain ⟨c,hc,rfl⟩:=zU hx;have cm:c∈b:=Tz (Qe hc);have zc:=OM.sz c cm;have zc1:=zc.1;refine zF ⟨rfl,?_⟩;left;refine BD (p:=(lastC a).2) (q:=c.2) (by assumption) ‹_› ‹_› zl.2 zc.2 (ok.len _ Nw) λr H3 e3 S3=>?_;left;refine hd (by assumption) ?_;rw [yh hc];exact .mem (by right)
 left;obtain ⟨pa,rfl⟩:=S3.refL (xs:=a.map zu) (v:=v0) ‹_›
 refine Zp S3 (S3.vwL (xs:=a.map zu) ‹_›) (S3.vwC (by right)) (by
  rw [Qa,Qa];unfold yx
  rw [Qa,jaK];omega) λp4 H4 e4 S4=>?_
 rw [<-QO] at S4;have S5:=S4.freeze;left;refine vi (a:=a++yx a b) S5 ‹_› Rr λp6 H6 e6 S6=>?_;exact xD (S6.weak (cs':=[_]) (by walk_at "sub") Dats.nil) k
section
variable {fS fT Ru:Addr} {A:RAd}
abbrev ZX:Stmt:=xE (top 56) 0
theorem XJ:FnScope pac pac (zk ZX):=yR
theorem Ft (F:Fun K "__init__" "Rule.__init__" ZX f fd):FnOk P w K mg base CX0 1 f fd pac (Yv K fS fT Ru):=by
 refine F.ok XJ (λvs H Q E h=>?_) (λLV A outer s H vs Q E hr h=>?_)
 ·obtain ⟨C,ok,G,d,x,dx,us,rfl,_,_,_,hA,_⟩:=h;rw [Qw,<-hA.len];rfl
 obtain ⟨C,ok,G,d,x,dx,us,rfl,eG,gx,hx,hA,k⟩:=h;obtain ⟨v,rfl,al⟩:=Yq hA;have nd0:=XJ.nd;walk_at "=f;b0b1";refine ⟨v,rfl, .ref x,rfl,x,C,dx,[],rfl,hx,ok.cl,ok.na,by decide,?_⟩;refine k _ G v (λp o hp ho=>by rw [zR hp];exact ho) (zL.refl _) (λp o hp=>?_) (λ_ _=>rfl) ?_ (al _ (Qq.mpr rfl))
 ·rw [zR (zW hp gx)];exact eG p o hp
 ·rw [zZ];rfl
abbrev Wr:Stmt:=xE (top 56) 1
theorem jW:FnScope pab pab (zk Wr):=yR
theorem Fq (LY:∀r:Rl,ROk K fS fT Ru (A.cls r)) (F:Fun K "shape" "Rule.shape" Wr f fd):FnOk P w K mg base CX0 1 f fd pab (UM A):=by
 refine F.oo jW λH vs Q E hr nd0 h=>?_;obtain ⟨G,r,eG,hA,_,k⟩:=h;obtain ⟨v,rfl,al⟩:=Yq hA;have S:Sta H G H [] _:=Sta.enter eG al;walk_at "=fi!b0";refine rd_ret (rd_fld ?_);left;refine By S ‹_› (LY r) λw S1=>?_;exact ZJ S1 k ‹_›
abbrev Zj:Stmt:=xE (top 57) 0
theorem Yj:FnScope pab pab (zk Zj):=yR
theorem gI (ZG:mg "Rule"=some (.ref Ru)) (dI:PySem.W.specialIn K (.ref Ru) "__getattribute__"=some (some (.builtin "type.__getattribute__"))) (dQ:PySem.W.readsIn K Ru (.type "type")=true) {fI:Addr} {Mo:FuncData} (xM:PySem.W.findCls K (.ref Ru) (.type "type") "__init__"=some (.val (.ref fI))) (xO:FnOk P w K mg base CX0 1 fI Mo pac (Yv K fS fT Ru)) (xK:PySem.W.keepIn K (.ref fI)=true) (xN:yD K Mo pac []) (ok:ROk K fS fT Ru (A.cls .shares)) (F:Fun K "__init__" "Shares.__init__" Zj f fd):FnOk P w K mg base CX0 2 f fd pab (yw (A.cls .shares) (α:=Unit) (λ_=>[]) (λ_=>Rl.shares.shape)):=by
 refine F.ok Yj (λvs H Q E h=>?_) (λLV A outer s H vs Q E hr h=>?_)
 ·obtain ⟨G,d,x,dx,us,rfl,_,_,_,hA,_⟩:=h;rw [Qw,<-hA.len];rfl
 obtain ⟨G,d,x,dx,us,rfl,eG,gx,hx,hA,k⟩:=h;rw [zC] at hA;subst hA;have S:Sta H G H [] []:=Sta.enter eG λp hp=>absurd hp Qv;have nd0:=Yj.nd;walk_at "=fzZ0ab0aqapcc";left;refine Yo (d:=Rl.shares.shape) (by assumption) gx hx ok ‹_› λH' G' w h1 h2 h3 h4 h5 h6=>?_;exact k H' G' w h1 h2 h3 h4 h5 h6
abbrev Zn:Stmt:=xE (top 58) 0
theorem Yn:FnScope pab pab (zk Zn):=yR
theorem gN (ZG:mg "Rule"=some (.ref Ru)) (dI:PySem.W.specialIn K (.ref Ru) "__getattribute__"=some (some (.builtin "type.__getattribute__"))) (dQ:PySem.W.readsIn K Ru (.type "type")=true) {fI:Addr} {Mo:FuncData} (xM:PySem.W.findCls K (.ref Ru) (.type "type") "__init__"=some (.val (.ref fI))) (xO:FnOk P w K mg base CX0 1 fI Mo pac (Yv K fS fT Ru)) (xK:PySem.W.keepIn K (.ref fI)=true) (xN:yD K Mo pac []) (ok:ROk K fS fT Ru (A.cls .evenly)) (F:Fun K "__init__" "Evenly.__init__" Zn f fd):FnOk P w K mg base CX0 2 f fd pab (yw (A.cls .evenly) (α:=Unit) (λ_=>[]) (λ_=>Rl.evenly.shape)):=by
 refine F.ok Yn (λvs H Q E h=>?_) (λLV A outer s H vs Q E hr h=>?_)
 ·obtain ⟨G,d,x,dx,us,rfl,_,_,_,hA,_⟩:=h;rw [Qw,<-hA.len];rfl
 obtain ⟨G,d,x,dx,us,rfl,eG,gx,hx,hA,k⟩:=h;rw [zC] at hA;subst hA;have S:Sta H G H [] []:=Sta.enter eG λp hp=>absurd hp Qv;have nd0:=Yn.nd;walk_at "=fzZ0ab0aqapcc";left;refine Yo (d:=Rl.evenly.shape) (by assumption) gx hx ok ‹_› λH' G' w h1 h2 h3 h4 h5 h6=>?_;exact k H' G' w h1 h2 h3 h4 h5 h6
abbrev Zk:Stmt:=xE (top 59) 0
theorem Yk:FnScope pab pab (zk Zk):=yR
theorem gJ (ZG:mg "Rule"=some (.ref Ru)) (dI:PySem.W.specialIn K (.ref Ru) "__getattribute__"=some (some (.builtin "type.__getattribute__"))) (dQ:PySem.W.readsIn K Ru (.type "type")=true) {fI:Addr} {Mo:FuncData} (xM:PySem.W.findCls K (.ref Ru) (.type "type") "__init__"=some (.val (.ref fI))) (xO:FnOk P w K mg base CX0 1 fI Mo pac (Yv K fS fT Ru)) (xK:PySem.W.keepIn K (.ref fI)=true) (xN:yD K Mo pac []) (ok:ROk K fS fT Ru (A.cls .losses)) (F:Fun K "__init__" "Losses.__init__" Zk f fd):FnOk P w K mg base CX0 2 f fd pab (yw (A.cls .losses) (α:=Unit) (λ_=>[]) (λ_=>Rl.losses.shape)):=by
 refine F.ok Yk (λvs H Q E h=>?_) (λLV A outer s H vs Q E hr h=>?_)
 ·obtain ⟨G,d,x,dx,us,rfl,_,_,_,hA,_⟩:=h;rw [Qw,<-hA.len];rfl
 obtain ⟨G,d,x,dx,us,rfl,eG,gx,hx,hA,k⟩:=h;rw [zC] at hA;subst hA;have S:Sta H G H [] []:=Sta.enter eG λp hp=>absurd hp Qv;have nd0:=Yk.nd;walk_at "=fzZ0ab0aqapcc";left;refine Yo (d:=Rl.losses.shape) (by assumption) gx hx ok ‹_› λH' G' w h1 h2 h3 h4 h5 h6=>?_;exact k H' G' w h1 h2 h3 h4 h5 h6
abbrev Zl:Stmt:=xE (top 60) 0
theorem Yl:FnScope pab pab (zk Zl):=yR
theorem gK (ZG:mg "Rule"=some (.ref Ru)) (dI:PySem.W.specialIn K (.ref Ru) "__getattribute__"=some (some (.builtin "type.__getattribute__"))) (dQ:PySem.W.readsIn K Ru (.type "type")=true) {fI:Addr} {Mo:FuncData} (xM:PySem.W.findCls K (.ref Ru) (.type "type") "__init__"=some (.val (.ref fI))) (xO:FnOk P w K mg base CX0 1 fI Mo pac (Yv K fS fT Ru)) (xK:PySem.W.keepIn K (.ref fI)=true) (xN:yD K Mo pac []) (ok:ROk K fS fT Ru (A.cls .halves)) (F:Fun K "__init__" "Halves.__init__" Zl f fd):FnOk P w K mg base CX0 2 f fd pab (yw (A.cls .halves) (α:=Unit) (λ_=>[]) (λ_=>Rl.halves.shape)):=by
 refine F.ok Yl (λvs H Q E h=>?_) (λLV A outer s H vs Q E hr h=>?_)
 ·obtain ⟨G,d,x,dx,us,rfl,_,_,_,hA,_⟩:=h;rw [Qw,<-hA.len];rfl
 obtain ⟨G,d,x,dx,us,rfl,eG,gx,hx,hA,k⟩:=h;rw [zC] at hA;subst hA;have S:Sta H G H [] []:=Sta.enter eG λp hp=>absurd hp Qv;have nd0:=Yl.nd;walk_at "=fzZ0ab0aqapcc";left;refine Yo (d:=Rl.halves.shape) (by assumption) gx hx ok ‹_› λH' G' w h1 h2 h3 h4 h5 h6=>?_;exact k H' G' w h1 h2 h3 h4 h5 h6
abbrev ZC:Stmt:=xE (top 61) 0
theorem YN:FnScope pai pai (zk ZC):=yR
theorem kL (ZG:mg "Rule"=some (.ref Ru)) (dI:PySem.W.specialIn K (.ref Ru) "__getattribute__"=some (some (.builtin "type.__getattribute__"))) (dQ:PySem.W.readsIn K Ru (.type "type")=true) {fI:Addr} {Mo:FuncData} (xM:PySem.W.findCls K (.ref Ru) (.type "type") "__init__"=some (.val (.ref fI))) (xO:FnOk P w K mg base CX0 1 fI Mo pac (Yv K fS fT Ru)) (xK:PySem.W.keepIn K (.ref fI)=true) (xN:yD K Mo pac []) {fdS:FuncData} (Zy:FnOk P w K mg base CX0 1 fS fdS pab (UM A)) (xf:yD K fdS pab []) (LY:∀r:Rl,ROk K fS fT Ru (A.cls r)) (F:Fun K "__init__" "Other.__init__" ZC f fd):FnOk P w K mg base CX0 2 f fd pai (yw (A.cls (.other .shares)) (α:=Rl) (λr=>[r.ins A]) (λr=>(Rl.other r).shape)):=by
 refine F.ok YN (λvs H Q E h=>?_) (λLV A' outer s H vs Q E hr h=>?_)
 ·obtain ⟨G,d,x,dx,us,rfl,_,_,_,hA,_⟩:=h;rw [Qw,<-hA.len];rfl
 obtain ⟨G,r,x,dx,us,rfl,eG,gx,hx,hA,k⟩:=h;obtain ⟨v,rfl,al⟩:=Yq hA;have S:Sta H G H [] _:=Sta.enter eG al;have nd0:=YN.nd;walk_at "=fzZ0ab0aqapa9b1+cc";left;refine iP S ‹_› (LY r) ?_;refine WR S ‹_› λw1 H1 e1 S1=>?_;left;refine Yo (d:=(Rl.other r).shape) (by assumption) gx hx (LY (.other .shares)) ‹_› λH' G' w h1 h2 h3 h4 h5 h6=>?_;exact k H' G' w h1 h2 h3 h4 h5 h6
abbrev ZA:Stmt:=xE (top 62) 0
theorem YM:FnScope pai pai (zk ZA):=yR
theorem kK (ZG:mg "Rule"=some (.ref Ru)) (dI:PySem.W.specialIn K (.ref Ru) "__getattribute__"=some (some (.builtin "type.__getattribute__"))) (dQ:PySem.W.readsIn K Ru (.type "type")=true) {fI:Addr} {Mo:FuncData} (xM:PySem.W.findCls K (.ref Ru) (.type "type") "__init__"=some (.val (.ref fI))) (xO:FnOk P w K mg base CX0 1 fI Mo pac (Yv K fS fT Ru)) (xK:PySem.W.keepIn K (.ref fI)=true) (xN:yD K Mo pac []) {fdS:FuncData} (Zy:FnOk P w K mg base CX0 1 fS fdS pab (UM A)) (xf:yD K fdS pab []) (LY:∀r:Rl,ROk K fS fT Ru (A.cls r)) (F:Fun K "__init__" "Ranks.__init__" ZA f fd):FnOk P w K mg base CX0 2 f fd pai (yw (A.cls (.ranks .shares)) (α:=Rl) (λr=>[r.ins A]) (λr=>(Rl.ranks r).shape)):=by
 refine F.ok YM (λvs H Q E h=>?_) (λLV A' outer s H vs Q E hr h=>?_)
 ·obtain ⟨G,d,x,dx,us,rfl,_,_,_,hA,_⟩:=h;rw [Qw,<-hA.len];rfl
 obtain ⟨G,r,x,dx,us,rfl,eG,gx,hx,hA,k⟩:=h;obtain ⟨v,rfl,al⟩:=Yq hA;have S:Sta H G H [] _:=Sta.enter eG al;have nd0:=YM.nd;walk_at "=fzZ0ab0aqapa9b1+cc";left;refine iP S ‹_› (LY r) ?_;refine WR S ‹_› λw1 H1 e1 S1=>?_;left;refine Yo (d:=(Rl.ranks r).shape) (by assumption) gx hx (LY (.ranks .shares)) ‹_› λH' G' w h1 h2 h3 h4 h5 h6=>?_;exact k H' G' w h1 h2 h3 h4 h5 h6
abbrev Zm:Stmt:=xE (top 63) 0
theorem Ym:FnScope pas pas (zk Zm):=yR
theorem gM (ZG:mg "Rule"=some (.ref Ru)) (dI:PySem.W.specialIn K (.ref Ru) "__getattribute__"=some (some (.builtin "type.__getattribute__"))) (dQ:PySem.W.readsIn K Ru (.type "type")=true) {fI:Addr} {Mo:FuncData} (xM:PySem.W.findCls K (.ref Ru) (.type "type") "__init__"=some (.val (.ref fI))) (xO:FnOk P w K mg base CX0 1 fI Mo pac (Yv K fS fT Ru)) (xK:PySem.W.keepIn K (.ref fI)=true) (xN:yD K Mo pac []) {fdS:FuncData} (Zy:FnOk P w K mg base CX0 1 fS fdS pab (UM A)) (xf:yD K fdS pab []) (LY:∀r:Rl,ROk K fS fT Ru (A.cls r)) (F:Fun K "__init__" "Groups.__init__" Zm f fd):FnOk P w K mg base CX0 2 f fd pas (yw (A.cls (.groups .shares .shares)) (α:=Rl×Rl) (λr=>[r.1.ins A,r.2.ins A]) (λr=>(Rl.groups r.1 r.2).shape)):=by
 refine F.ok Ym (λvs H Q E h=>?_) (λLV A' outer s H vs Q E hr h=>?_)
 ·obtain ⟨G,d,x,dx,us,rfl,_,_,_,hA,_⟩:=h;rw [Qw,<-hA.len];rfl
 obtain ⟨G,⟨r,r2⟩,x,dx,us,rfl,eG,gx,hx,hA,k⟩:=h;obtain ⟨v,v2,rfl,al⟩:=yT hA;have S:Sta H G H [] _:=Sta.enter eG al;dsimp only at k S;have nd0:=Ym.nd;walk_at "=fzZ0ab0aqapa9b1+a9b2+cc";left;refine iP S ‹_› (LY r) ?_;refine WR S ‹_› λw1 H1 e1 S1=>?_;left;refine iP S1 ‹_› (LY r2) ?_;refine WR S1 ‹_› λw2 H2 e2 S2=>?_;left;refine Yo (d:=(Rl.groups r r2).shape) (by assumption) gx hx (LY (.groups .shares .shares)) ‹_› λH' G' w h1 h2 h3 h4 h5 h6=>?_;exact k H' G' w h1 h2 h3 h4 h5 h6
abbrev ZW:Stmt:=xE (top 64) 0
theorem XI:FnScope pag pag (zk ZW):=yR
theorem nY (ZG:mg "Rule"=some (.ref Ru)) (dI:PySem.W.specialIn K (.ref Ru) "__getattribute__"=some (some (.builtin "type.__getattribute__"))) (dQ:PySem.W.readsIn K Ru (.type "type")=true) {fI:Addr} {Mo:FuncData} (xM:PySem.W.findCls K (.ref Ru) (.type "type") "__init__"=some (.val (.ref fI))) (xO:FnOk P w K mg base CX0 1 fI Mo pac (Yv K fS fT Ru)) (xK:PySem.W.keepIn K (.ref fI)=true) (xN:yD K Mo pac []) {fdS:FuncData} (Zy:FnOk P w K mg base CX0 1 fS fdS pab (UM A)) (xf:yD K fdS pab []) (LY:∀r:Rl,ROk K fS fT Ru (A.cls r)) (F:Fun K "__init__" "Upto.__init__" ZW f fd):FnOk P w K mg base CX0 2 f fd pag (yw (A.cls (.upto 0 0 .shares .shares)) (α:=(Int×Int)×Rl×Rl) (λr=>[.tuple [.int r.1.1, .int r.1.2],r.2.1.ins A,r.2.2.ins A]) (λr=>(Rl.upto r.1.1 r.1.2 r.2.1 r.2.2).shape)):=by
 refine F.ok XI (λvs H Q E h=>?_) (λLV A' outer s H vs Q E hr h=>?_)
 ·obtain ⟨G,d,x,dx,us,rfl,_,_,_,hA,_⟩:=h;rw [Qw,<-hA.len];rfl
 obtain ⟨G,⟨⟨t,b⟩,r,r2⟩,x,dx,us,rfl,eG,gx,hx,hA,k⟩:=h;obtain ⟨v0,v,v2,rfl,al⟩:=XO hA;have S:Sta H G H [] _:=Sta.enter eG al;dsimp only at k S;have nd0:=XI.nd;walk_at "=fzZ0ab0aqapab1a9b2+a9b3+cc";left;refine iP S ‹_› (LY r) ?_;refine WR S ‹_› λw1 H1 e1 S1=>?_;left;refine iP S1 ‹_› (LY r2) ?_;refine WR S1 ‹_› λw2 H2 e2 S2=>?_;left;refine Yo (d:=(Rl.upto t b r r2).shape) (by assumption) gx hx (LY (.upto 0 0 .shares .shares)) ‹_› λH' G' w h1 h2 h3 h4 h5 h6=>?_;exact k H' G' w h1 h2 h3 h4 h5 h6
end
abbrev dH:Stmt:=xE (top 56) 2
theorem HG:FnScope pab pab (zk dH):=yR
abbrev UZ:Stmt:=top 13
theorem qp:FnScope ["number"] ["number"] (zk UZ):=yR
theorem qR (B:Bl mg) (F:Fun K "is_whole" "is_whole" UZ f fd):FnOk P w K mg base CX0 1 f fd ["number"] UL:=by
 refine F.oo qp λH vs Q E hr nd0 h=>?_;obtain ⟨n,rfl,q⟩:=h;have S:Sta H H H [] []:=Sta.enter (zL.refl _) λp hp=>absurd hp Qv;have hi:Is H (.int n) (.int n):=S.hp Has.int;walk_at "=fi%-ab0aβint;c&γ-ab0aδbool;c";left;exact q
section
variable {fS fE CW:Addr}
abbrev VN:Stmt:=xE (top 70) 1
theorem nj:FnScope pab pab (zk VN):=yR
theorem Jy (W_ok:WOk K fS fE CW) (F:Fun K "sign" "Walk.sign" VN f fd):FnOk P w K mg base CX0 1 f fd pab (iF CW):=by
 refine F.oo nj λH vs Q E hr nd0 h=>?_;obtain ⟨a,T,i,rfl,h,hT,q⟩:=h;walk_at "=fiρ!b0F!b0Fv!b0d";left;refine Bw h W_ok ?_;left;refine HM h W_ok ?_;left;refine HM h W_ok ?_;left;exact ⟨T,rfl,QI hT (by decide),q⟩
abbrev Xw:Stmt:=xE (top 70) 2
theorem gG:FnScope ["self","word","wanted"] pam (zk Xw):=yR
theorem Cp (W_ok:WOk K fS fE CW) {fdS:FuncData} (Yf:FnOk P w K mg base CX0 1 fS fdS pab (iF CW)) (xw:yD K fdS pab []) (F:Fun K "expect" "Walk.expect" Xw f fd):FnOk P w K mg base CX0 2 f fd pam (Xn CW):=by
 refine F.oo gG λH vs Q E hr nd0 h=>?_;obtain ⟨a,T,wd,i,rfl,h,hT,hw,hh,k⟩:=h;walk_at "=fIσb1y2eloOm*b0/b2kVnfεb0d";left;refine Jk ?_;left;refine rd_kIS hw ?_;refine Ka (λn σ H2=>∃x,σ=[some (.ref a),some (.str wd),x]/\Ch a H H2/\At CW H2 a T (i+n)) ⟨none,rfl,Ch.refl,h⟩ ?_ ?_
 ·rintro n c σ H2 hc ⟨x,rfl,ch,h2⟩
  left;refine iO h2 W_ok ?_;refine af h2 hT ?_;rw [hh n c hc];left;refine rB rfl ?_;left;refine BF rfl h2 W_ok λH3 ch3 h3=>?_;left;exact ⟨_,rfl,ch.trans ch3,h3⟩
 ·rintro σ H2 ⟨x,rfl,ch,h2⟩
  exact k H2 ch h2
abbrev Xr:Stmt:=top 76
theorem gB:FnScope ["walk","number"] pau (zk Xr):=yR
theorem JD (W_ok:WOk K fS fE CW) {fdS:FuncData} {c_FIGURES:Addr} (g_FIGURES:mg "FIGURES"=some (.ref c_FIGURES)) (fk:Fg K c_FIGURES) (Yf:FnOk P w K mg base CX0 1 fS fdS pab (iF CW)) (xw:yD K fdS pab []) (F:Fun K "read_number" "read_number" Xr f fd):FnOk P w K mg base CX0 2 f fd pau (AE CW):=by
 refine F.oo gB λH vs Q E hr nd0 h=>?_;obtain ⟨a,T,i,ds,rfl,h,hT,hf,k⟩:=h;walk_at "=elτ*b0/ζ_FdUVnej1de8υ*b0/_ej1vtb1dφ_a*b0/cfεb0dfib1";left;refine iO h W_ok ?_;refine af h hT ?_;left;obtain ⟨d0,e0⟩:∃d,ds[0]? =some d:=⟨ds[0]'hf.pos,Qc hf.pos⟩;have h0:=hf.at_ 0 d0 e0;have n0:=hf.first d0 e0;refine ⟨c_FIGURES,oH.map V.str,rfl,fk.sq,by decide+kernel,λp hp=>?_⟩;have ec:Ad (oH.map V.str) (some 1) none=(oH.drop 1).map V.str:=by decide+kernel
 rw [ec];have hA:=h.same (zL.new hp (.tup ((oH.drop 1).map V.str)));refine ⟨p,(oH.drop 1).map V.str,rfl, .inr (SqT.of zZ),rfl,by decide+kernel,?_⟩
 have hin:sgn T i∈oH.drop 1:=by
  rw [show sgn T i=fg d0 from h0.2,lC];have:d0<10:=h0.1;rw [<-List.map_drop];exact Qj.mpr ⟨d0,by rw [Qr];exact ⟨d0 - 1,by rw [jap,show 1+(d0 - 1)=d0 by omega,List.getElem?_range (by omega)]⟩,rfl⟩
 rw [CV,QQ hin];left;refine jy (λm σ H2=>∃n:Nat,σ=[some (.ref a),some (.int (wX (ds.take n)))]/\n<=ds.length/\Kp a H H2/\At CW H2 a T (i+n)/\m=ds.length - n) _ ⟨0,rfl,TH _,zL.kp (zL.new hp _),hA,rfl⟩ ?_
 rintro m σ H2 ⟨n,rfl,hn,kp,h2,rfl⟩
 left;refine iO h2 W_ok ?_;refine af h2 hT ?_;left;refine ⟨c_FIGURES,oH.map V.str,rfl, .inr fk.sq,rfl,by decide+kernel,?_⟩;rw [QP (by decide),CV];left;refine qB (λc=>?_) (λc=>?_)
 ·have c:sgn T (i+n)∈oH:=QG c
  have LS:n<ds.length:=by
   rcases Nat.lt_or_eq_of_le hn with LS|e
   ·exact LS
   ·rw [e] at c;exact absurd c hf.stop
  have ed:=Qc LS;have hd:=hf.at_ n _ ed;left;refine ⟨fk.ty,?_⟩;left;refine iO h2 W_ok ?_;refine af h2 hT ?_;left;rw [hd.2];refine ⟨c_FIGURES,oH,fg ds[n],ds[n],rfl,rfl,fk.sq,?_,λq hq=>?_,?_⟩
  ·rw [lC,Qi,List.getElem?_range hd.1];rfl
  ·rw [lC,Qi,List.getElem?_range (by omega)];intro e;have:=fg_inj (Qz e);omega
  left;refine BF rfl h2 W_ok λH3 ch3 h3=>?_;left;refine ⟨ds.length - (n+1),by omega,n+1,?_,LS,kp.trans ch3.kp,h3,rfl⟩;rw [Tt,ed,show (some ds[n]).toList=[ds[n]] from rfl,mG];rfl
 ·have c:¬sgn T (i+n)∈oH:=of_decide_eq_false c
  have e:n=ds.length:=by
   rcases Nat.lt_or_eq_of_le hn with LS|e
   ·exfalso
    have hd:=hf.at_ n _ (Qc LS);refine c ?_;rw [hd.2,lC];exact Qj.mpr ⟨_,jbg.mpr hd.1,rfl⟩
   ·exact e
  subst e;rw [List.take_length];left;exact k H2 kp h2
abbrev aa:Stmt:=top 7
theorem qq:FnScope pal pal (zk aa):=yR
theorem FG (jv:Cal P w K mg base CX0 1 "is_whole" ["number"] UL) (Zv:Cal P w K mg base CX0 2 "lowest" pal Xm) (F:Fun K "fraction" "fraction" aa f fd):FnOk P w K mg base CX0 3 f fd pal AF:=by
 refine F.oo qq λH vs Q E hr nd0 h=>?_;obtain ⟨G,⟨a,b⟩,eG,hA,⟨hb,sb⟩,k⟩:=h;cases (yM (ns:=[a,b]) hA);have S:Sta H G H [] []:=Sta.enter eG λp hp=>absurd hp Qv;dsimp only at hb sb k;walk_at "=elKSQHgab0c5QHgab1cVnelosmb1dkVnfigab0ab1c";left;refine tq ?_;left;refine tq ?_;left;refine yJ (λc=>absurd c hb) (λ_=>?_);left;refine Wu (by assumption) hb sb λr H' e S'=>?_;left;exact ZJ S' k ‹_›
abbrev Yy:Stmt:=top 75
theorem dw:FnScope ["walk","top","bottom"] pau (zk Yy):=yR
theorem Fx (W_ok:WOk K fS fE CW) {fdE:FuncData} (yQ:FnOk P w K mg base CX0 2 fE fdE pam (Xn CW)) (yo:yD K fdE pam []) (Hu:Cal P w K mg base CX0 2 "read_number" pau (AE CW)) (jw:Cal P w K mg base CX0 3 "fraction" pal AF) (F:Fun K "read_portion" "read_portion" Yy f fd):FnOk P w K mg base CX0 4 f fd pau (qc CW):=by
 refine F.oo dw λH vs Q E hr nd0 h=>?_;obtain ⟨G,a,T,i,⟨⟨t,b⟩,ds,es⟩,rfl,eG,ga,h,hT,hp,k⟩:=h;dsimp only at hp k;have S:Sw a H G H []:=Sw.enter eG ga h λp hp=>absurd hp Qv;walk_at "=ej1gab0cez<b0>apcej2gab0celKSχb2b1k5oOmgab1ab2cqab1ab2ckVnfiqab1ab2c";left;refine Bt h hT hp.f1 λH1 k1 h1=>?_;have S1:=S.kp k1 h1;rw [hp.v1];left;refine Xx ?_;left;refine Uk h1 (by rfl) ?_;left;refine xY h1 hT (by decide+kernel) hp.sl λH2 c2 h2=>?_;have S2:=S1.ch c2 h2;rw [show ("/":Str).length=1 by decide+kernel] at h2;left;refine Bt h2 hT hp.f2 λH3 k3 h3=>?_;have S3:=S2.kp k3 h3;rw [hp.v2];left;have LS:=hp.lt
 have ef:frD (Rat.divInt t b)= .tuple [.int t, .int b]:=by
  have:=wx (by omega) hp.co;unfold frD;rw [this.1,this.2]
 refine yJ (λc=>absurd c (by omega)) (λ_=>?_);left;refine Jb (α:=Int×Int) (t,b) S3 (zV.cons Has.int (zV.cons Has.int zV.nil)) ⟨by show b≠0;omega,hp.sz.2.mono (by decide)⟩ λv4 H4 e4 S4=>?_;left;refine tw S4 (by walk_at "hasall") (jai rfl) λp5 H5 e5 S5=>?_;refine nJ (x:=frD (Rat.divInt t b)) (y:=frD (Rat.divInt t b)) (S5.hp ‹_›) (by rw [ef];exact S5.hp ‹_›) (xQ _) (xQ _) ?_;rw [aD,QQ rfl];left;refine tw S5 (by walk_at "hasall") (jai rfl) λp6 H6 e6 S6=>?_;left;refine ae S6 k ?_ ‹_›;rw [<-Nat.add_assoc,<-Nat.add_assoc];exact ((h3.same e4).same e5).same e6
abbrev VE:Stmt:=top 73
theorem mT:FnScope paX pau (zk VE):=yR
theorem Jw (W_ok:WOk K fS fE CW) {fdS fdE:FuncData} {c_WORDS:Addr} (g_WORDS:mg "WORDS"=some (.ref c_WORDS)) (wk:Wd K c_WORDS) (Yf:FnOk P w K mg base CX0 1 fS fdS pab (iF CW)) (xw:yD K fdS pab []) (yQ:FnOk P w K mg base CX0 2 fE fdE pam (Xn CW)) (yo:yD K fdE pam []) (F:Fun K "read_word" "read_word" VE f fd):FnOk P w K mg base CX0 3 f fd pau (sV CW):=by
 refine F.oo mT λH vs Q E hr nd0 h=>?_;obtain ⟨a,T,i,n,wd,rfl,h,hT,hn,hh,k⟩:=h;walk_at "=eI,ψy1flosm*b0/h1kez<b0>ab1cfib1nV";left;refine ⟨c_WORDS,rfl,⟨_,wk.sq⟩,?_⟩;refine Dk (λ_=>wk.sq) (λm σ H2=>∃x,σ=[some (.ref a),x]/\m<=n/\H2=H) ⟨none,rfl,TH _,rfl⟩ ?_ ?_
 ·rintro m z σ H2 hz ⟨x,rfl,Mz,rfl⟩
  obtain ⟨c,d,hc,hd,LW,hl,ha⟩:=pQ m n z wd hz hn;have hsg:sgn T i=⟨#[d]⟩:=hh 0 d (by rw [<-Array.getElem?_toList];exact hd);left;refine iO h W_ok ?_;refine af h hT ?_;left;refine Fb hl hc ?_;rw [hsg];left;refine yJ (λe=>?_) (λe=>?_)
  ·have ecd:c=d:=by
    have:=congrArg (λz:Str=>z.cps[0]?) e;simp at this;exact this.symm
   have emn:=LW ecd;subst emn;rw [hz] at hn;cases hn;left;refine Xx ?_;left;refine Uk h (by rfl) ?_;left;refine xY h hT ha hh λH3 c3 h3=>?_;left;exact k H3 c3 h3
  ·left;refine ⟨_,rfl,?_,rfl⟩
   rcases Nat.lt_or_eq_of_le Mz with h1|h1
   ·exact h1
   ·subst h1;rw [hz] at hn;cases hn;rw [hc] at hd;cases hd;exact absurd rfl e
 ·rintro σ H2 ⟨x,rfl,Mz,rfl⟩
  have:=(Qf.mp hn).1;omega
end
section
variable {fS fE CW:Addr} {A:RAd}
abbrev yI:Stmt:=top 74
theorem Xp:FnScope ["walk","word","portion","first","outer"] paX (zk yI):=yR
theorem vC {n:Nat} (W_ok:WOk K fS fE CW) {fdE:FuncData} (yQ:FnOk P w K mg base CX0 2 fE fdE pam (Xn CW)) (yo:yD K fdE pam []) (mOther:ZQ P w K mg base "Other" (A.cls (.other .shares)) pai (yw (A.cls (.other .shares)) (α:=Rl) (λr=>[r.ins A]) (λr=>(Rl.other r).shape))) (mRanks:ZQ P w K mg base "Ranks" (A.cls (.ranks .shares)) pai (yw (A.cls (.ranks .shares)) (α:=Rl) (λr=>[r.ins A]) (λr=>(Rl.ranks r).shape))) (mGroups:ZQ P w K mg base "Groups" (A.cls (.groups .shares .shares)) pas (yw (A.cls (.groups .shares .shares)) (α:=Rl×Rl) (λr=>[r.1.ins A,r.2.ins A]) (λr=>(Rl.groups r.1 r.2).shape))) (mUpto:ZQ P w K mg base "Upto" (A.cls (.upto 0 0 .shares .shares)) pag (yw (A.cls (.upto 0 0 .shares .shares)) (α:=(Int×Int)×Rl×Rl) (λr=>[.tuple [.int r.1.1, .int r.1.2],r.2.1.ins A,r.2.2.ins A]) (λr=>(Rl.upto r.1.1 r.1.2 r.2.1 r.2.2).shape))) (Vx:Cal P w K mg base CX0 4 "read_portion" pau (qc CW)) (sH:Cal P w K mg base CX0 (2*n+5) "read_rule" pau (sW CW A n)) (F:Fun K "read_within_brackets" "read_within_brackets" yI f fd):FnOk P w K mg base CX0 (2*n+6) f fd paX (HE CW A n):=by
 obtain ⟨LM,Ly,uy,Ht,Hl,Di⟩:=mOther;obtain ⟨LL,Lx,ux,Hs,Hk,Dh⟩:=mRanks;obtain ⟨LC,Lj,pJ,El,Ee,ue⟩:=mGroups;obtain ⟨LQ,LK,DV,Iv,Ik,HY⟩:=mUpto;refine F.oo Xp λH vs Q E hr nd0 h=>?_;obtain ⟨G,a,T,i,r,rfl,eG,ga,h,hT,⟨hh,NQ,hok,MB⟩,k⟩:=h;have S:Sw a H G H []:=Sw.enter eG ga h λp hp=>absurd hp Qv;dsimp only at k;walk_at "=elosmb1pkfiωΓagab0ccnelosmb1pkfiΔΘagab0ccnelosmb1pkej4gab0cez<b0>apcfiΞΠab4agab0ccnej2gab0cez<b0>apcej3gab0cez<b0>apcfiΣΦab2ab3agab0cc"
 cases r with
 |shares=>cases NQ
 |evenly=>cases NQ
 |losses=>cases NQ
 |halves=>cases NQ
 |other x=>
  simp only [Rl.deep] at MB;left;refine yJ (λ_=>?_) (λc=>absurd rfl c);left;refine XM (α:=Rl) x S h hT ⟨hh,hok,by omega⟩ λv1 H1 h1 S1=>?_;left;refine Zx x S1 (zV.cons ‹_› zV.nil) λx2 H2 e2 S2=>?_;exact ae S2 k (h1.same e2) ‹_›
 |ranks x=>
  simp only [Rl.deep] at MB;left;refine yJ (λc=>absurd c (by show ¬("ranks(":Str)=("other(":Str);decide+kernel)) (λ_=>?_);left;refine yJ (λ_=>?_) (λc=>absurd rfl c);left;refine XM (α:=Rl) x S h hT ⟨hh,hok,by omega⟩ λv1 H1 h1 S1=>?_;left;refine Zx x S1 (zV.cons ‹_› zV.nil) λx2 H2 e2 S2=>?_;exact ae S2 k (h1.same e2) ‹_›
 |groups x y=>
  simp only [Rl.deep] at MB;have lc:(", ":Str).length=2:=by decide+kernel
  have hh:mB T (x.text++(", ":Str)++y.text) i:=hh;rw [xG] at hh;have g1:=xA hh;have g2:=xA g1.2;rw [lc] at g2;left;refine yJ (λc=>absurd c (by show ¬("groups(":Str)=("other(":Str);decide+kernel)) (λ_=>?_);left;refine yJ (λc=>absurd c (by show ¬("groups(":Str)=("ranks(":Str);decide+kernel)) (λ_=>?_);left;refine yJ (λ_=>?_) (λc=>absurd rfl c);left;refine XM (α:=Rl) x S h hT ⟨g1.1,hok.1,by omega⟩ λv1 H1 h1 S1=>?_;left;refine Xx ?_;left;refine Uk h1 (by rfl) ?_;left;refine xY h1 hT (by decide+kernel) g2.1 λH2 c2 h2=>?_;have S2:=S1.ch c2 h2;rw [lc] at h2;left;refine XM (α:=Rl) y S2 h2 hT ⟨g2.2,hok.2,by omega⟩ λv3 H3 h3 S3=>?_;left;refine Zx (x,y) S3 (zV.cons ‹_› (zV.cons ‹_› zV.nil)) λx4 H4 e4 S4=>?_;refine ae S4 k ?_ ‹_›;rw [show i+(Rl.groups x y).inner.length=i+x.text.length+2+y.text.length by show i+(x.text++(", ":Str)++y.text).length=_;rw [xJ,xJ,lc];omega];exact h3.same e4
 |upto t b x y=>
  simp only [Rl.deep] at MB;have lc:(", ":Str).length=2:=by decide+kernel
  obtain ⟨hpo,ox,oy⟩:=hok;have hh:mB T (itS t++("/":Str)++itS b++(", ":Str)++x.text++(", ":Str)++y.text) i:=hh;have e0:itS t++("/":Str)++itS b++(", ":Str)++x.text++(", ":Str)++y.text=(itS t++("/":Str)++itS b)++((", ":Str)++(x.text++((", ":Str)++y.text))):=by simp only [xG]
  rw [e0] at hh
  obtain ⟨ds,es,Oc,Mm⟩:=Jo hpo hh (by
   show ((", ":Str).cps++_)[0]? =some 44;rw [Array.getElem?_append_left (by decide+kernel)]
   decide+kernel)
  have g0:=xA hh;have g1:=xA g0.2;have g2:=xA g1.2;have g3:=xA g2.2;rw [<-Mm] at g1 g2 g3;rw [lc] at g2 g3;left;refine yJ (λc=>absurd c (by show ¬("upto(":Str)=("other(":Str);decide+kernel)) (λ_=>?_);left;refine yJ (λc=>absurd c (by show ¬("upto(":Str)=("ranks(":Str);decide+kernel)) (λ_=>?_);left;refine yJ (λc=>absurd c (by show ¬("upto(":Str)=("groups(":Str);decide+kernel)) (λ_=>?_);left;refine XM (α:=(Int×Int)×List Nat×List Nat) ((t,b),ds,es) S h hT Oc λv0 H0 h0 S0=>?_;left;refine Xx ?_;left;refine Uk h0 (by rfl) ?_;left;refine xY h0 hT (by decide+kernel) g1.1 λH1 c1 h1=>?_;have S1:=S0.ch c1 h1;rw [lc] at h1;left;refine XM (α:=Rl) x S1 h1 hT ⟨g2.1,ox,by omega⟩ λv2 H2 h2 S2=>?_;left;refine Xx ?_;left;refine Uk h2 (by rfl) ?_;left;refine xY h2 hT (by decide+kernel) g3.1 λH3 c3 h3=>?_;have S3:=S2.ch c3 h3;rw [lc] at h3;left;refine XM (α:=Rl) y S3 h3 hT ⟨g3.2,oy,by omega⟩ λv4 H4 h4 S4=>?_;left;refine Zx ((t,b),x,y) S4 (zV.cons ‹_› (zV.cons ‹_› (zV.cons ‹_› zV.nil))) λx5 H5 e5 S5=>?_;refine ae S5 k ?_ ‹_›
  rw [show i+(Rl.upto t b x y).inner.length=i+(ds.length+1+es.length)+2+x.text.length+2+y.text.length by
   show i+(itS t++("/":Str)++itS b++(", ":Str)++x.text++(", ":Str)++y.text).length=_
   rw [e0,xJ,<-Mm];simp only [xJ,lc];omega]
  exact h4.same e5
abbrev Xq:Stmt:=top 72
theorem bC:FnScope ["walk","word","rule"] pau (zk Xq):=yR
theorem Fs {n:Nat} (W_ok:WOk K fS fE CW) {fdE:FuncData} (yQ:FnOk P w K mg base CX0 2 fE fdE pam (Xn CW)) (yo:yD K fdE pam []) (mShares:ZQ P w K mg base "Shares" (A.cls .shares) pab (yw (A.cls .shares) (α:=Unit) (λ_=>[]) (λ_=>Rl.shares.shape))) (mEvenly:ZQ P w K mg base "Evenly" (A.cls .evenly) pab (yw (A.cls .evenly) (α:=Unit) (λ_=>[]) (λ_=>Rl.evenly.shape))) (mLosses:ZQ P w K mg base "Losses" (A.cls .losses) pab (yw (A.cls .losses) (α:=Unit) (λ_=>[]) (λ_=>Rl.losses.shape))) (mHalves:ZQ P w K mg base "Halves" (A.cls .halves) pab (yw (A.cls .halves) (α:=Unit) (λ_=>[]) (λ_=>Rl.halves.shape))) (gA:Cal P w K mg base CX0 3 "read_word" pau (sV CW)) (mC:Cal P w K mg base CX0 (2*n+6) "read_within_brackets" paX (HE CW A n)) (F:Fun K "read_rule" "read_rule" Xq f fd):FnOk P w K mg base CX0 (2*n+7) f fd pau (sW CW A (n+1)):=by
 obtain ⟨Lz,Lg,pG,Ei,Eb,ub⟩:=mShares;obtain ⟨LD,Lk,pK,Em,Ef,uf⟩:=mEvenly;obtain ⟨LA,Lh,pH,Ej,Ec,uc⟩:=mLosses;obtain ⟨LB,Li,pI,Ek,Ed,ud⟩:=mHalves;refine F.oo bC λH vs Q E hr nd0 h=>?_;obtain ⟨G,a,T,i,r,rfl,eG,ga,h,hT,⟨hh,hok,MB⟩,k⟩:=h;have S:Sw a H G H []:=Sw.enter eG ga h λp hp=>absurd hp Qv;dsimp only at k;obtain ⟨q,hq⟩:=r.word_at;have lp:(")":Str).length=1:=by decide+kernel
 have hw:mB T r.word i:=by
  cases NQ:r.leaf with
  |true=>cases r<;>first|exact hh|cases NQ
  |false=>
   rw [r.text_in NQ,xG] at hh;exact (xA hh).1
 walk_at "=ej1gab0celosmb1pkfiΨΩnelosmb1pkfiабnelosmb1pkfiвгnelosmb1pkfiдеnej2gab0ab1cez<b0>apcfib2";left;refine IZ h hT hq hw λH1 c1 h1=>?_;have S1:=S.ch c1 h1
 have more:r.leaf=false->mB T r.inner (i+r.word.length)/\mB T (")":Str) (i+r.word.length+r.inner.length)/\i+r.text.length=i+r.word.length+r.inner.length+1:=λNQ=>by
  have e:=r.text_in NQ;rw [e,xG] at hh;have g1:=xA hh;have g2:=xA g1.2;refine ⟨g2.1,g2.2,?_⟩;rw [e,xJ,xJ,lp];omega
 cases r with
 |shares=>
  left;refine yJ (λ_=>?_) (λc=>absurd rfl c);left;refine Zx () S1 zV.nil λx2 H2 e2 S2=>?_;exact ae S2 k (h1.same e2) ‹_›
 |evenly=>
  left;refine yJ (λc=>absurd c (by decide+kernel)) (λ_=>?_);left;refine yJ (λ_=>?_) (λc=>absurd rfl c);left;refine Zx () S1 zV.nil λx2 H2 e2 S2=>?_;exact ae S2 k (h1.same e2) ‹_›
 |losses=>
  left;refine yJ (λc=>absurd c (by decide+kernel)) (λ_=>?_);left;refine yJ (λc=>absurd c (by decide+kernel)) (λ_=>?_);left;refine yJ (λ_=>?_) (λc=>absurd rfl c);left;refine Zx () S1 zV.nil λx2 H2 e2 S2=>?_;exact ae S2 k (h1.same e2) ‹_›
 |halves=>
  left;refine yJ (λc=>absurd c (by decide+kernel)) (λ_=>?_);left;refine yJ (λc=>absurd c (by decide+kernel)) (λ_=>?_);left;refine yJ (λc=>absurd c (by decide+kernel)) (λ_=>?_);left;refine yJ (λ_=>?_) (λc=>absurd rfl c);left;refine Zx () S1 zV.nil λx2 H2 e2 S2=>?_;exact ae S2 k (h1.same e2) ‹_›
 |other x=>
  obtain ⟨m1,m2,m3⟩:=more rfl;left;refine yJ (λc=>absurd c (by show ¬("other(":Str)=("shares":Str);decide+kernel)) (λ_=>?_);left;refine yJ (λc=>absurd c (by show ¬("other(":Str)=("evenly":Str);decide+kernel)) (λ_=>?_);left;refine yJ (λc=>absurd c (by show ¬("other(":Str)=("losses":Str);decide+kernel)) (λ_=>?_);left;refine yJ (λc=>absurd c (by show ¬("other(":Str)=("halves":Str);decide+kernel)) (λ_=>?_);left;refine XM (α:=Rl) (Rl.other x) S1 h1 hT ⟨m1,rfl,hok,MB⟩ λv2 H2 h2 S2=>?_;left;refine Xx ?_;left;refine Uk h2 (by rfl) ?_;left;refine xY h2 hT (by decide+kernel) m2 λH3 c3 h3=>?_;have S3:=S2.ch c3 h3;left;refine ae S3 k ?_ ‹_›;rw [lp] at h3;rw [m3];exact h3
 |ranks x=>
  obtain ⟨m1,m2,m3⟩:=more rfl;left;refine yJ (λc=>absurd c (by show ¬("ranks(":Str)=("shares":Str);decide+kernel)) (λ_=>?_);left;refine yJ (λc=>absurd c (by show ¬("ranks(":Str)=("evenly":Str);decide+kernel)) (λ_=>?_);left;refine yJ (λc=>absurd c (by show ¬("ranks(":Str)=("losses":Str);decide+kernel)) (λ_=>?_);left;refine yJ (λc=>absurd c (by show ¬("ranks(":Str)=("halves":Str);decide+kernel)) (λ_=>?_);left;refine XM (α:=Rl) (Rl.ranks x) S1 h1 hT ⟨m1,rfl,hok,MB⟩ λv2 H2 h2 S2=>?_;left;refine Xx ?_;left;refine Uk h2 (by rfl) ?_;left;refine xY h2 hT (by decide+kernel) m2 λH3 c3 h3=>?_;have S3:=S2.ch c3 h3;left;refine ae S3 k ?_ ‹_›;rw [lp] at h3;rw [m3];exact h3
 |groups x y=>
  obtain ⟨m1,m2,m3⟩:=more rfl;left;refine yJ (λc=>absurd c (by show ¬("groups(":Str)=("shares":Str);decide+kernel)) (λ_=>?_);left;refine yJ (λc=>absurd c (by show ¬("groups(":Str)=("evenly":Str);decide+kernel)) (λ_=>?_);left;refine yJ (λc=>absurd c (by show ¬("groups(":Str)=("losses":Str);decide+kernel)) (λ_=>?_);left;refine yJ (λc=>absurd c (by show ¬("groups(":Str)=("halves":Str);decide+kernel)) (λ_=>?_);left;refine XM (α:=Rl) (Rl.groups x y) S1 h1 hT ⟨m1,rfl,hok,MB⟩ λv2 H2 h2 S2=>?_;left;refine Xx ?_;left;refine Uk h2 (by rfl) ?_;left;refine xY h2 hT (by decide+kernel) m2 λH3 c3 h3=>?_;have S3:=S2.ch c3 h3;left;refine ae S3 k ?_ ‹_›;rw [lp] at h3;rw [m3];exact h3
 |upto t b x y=>
  obtain ⟨m1,m2,m3⟩:=more rfl;left;refine yJ (λc=>absurd c (by show ¬("upto(":Str)=("shares":Str);decide+kernel)) (λ_=>?_);left;refine yJ (λc=>absurd c (by show ¬("upto(":Str)=("evenly":Str);decide+kernel)) (λ_=>?_);left;refine yJ (λc=>absurd c (by show ¬("upto(":Str)=("losses":Str);decide+kernel)) (λ_=>?_);left;refine yJ (λc=>absurd c (by show ¬("upto(":Str)=("halves":Str);decide+kernel)) (λ_=>?_);left;refine XM (α:=Rl) (Rl.upto t b x y) S1 h1 hT ⟨m1,rfl,hok,MB⟩ λv2 H2 h2 S2=>?_;left;refine Xx ?_;left;refine Uk h2 (by rfl) ?_;left;refine xY h2 hT (by decide+kernel) m2 λH3 c3 h3=>?_;have S3:=S2.ch c3 h3;left;refine ae S3 k ?_ ‹_›;rw [lp] at h3;rw [m3];exact h3
theorem Jz (W_ok:WOk K fS fE CW) {fdE:FuncData} (yQ:FnOk P w K mg base CX0 2 fE fdE pam (Xn CW)) (yo:yD K fdE pam []) (mShares:ZQ P w K mg base "Shares" (A.cls .shares) pab (yw (A.cls .shares) (α:=Unit) (λ_=>[]) (λ_=>Rl.shares.shape))) (mEvenly:ZQ P w K mg base "Evenly" (A.cls .evenly) pab (yw (A.cls .evenly) (α:=Unit) (λ_=>[]) (λ_=>Rl.evenly.shape))) (mLosses:ZQ P w K mg base "Losses" (A.cls .losses) pab (yw (A.cls .losses) (α:=Unit) (λ_=>[]) (λ_=>Rl.losses.shape))) (mHalves:ZQ P w K mg base "Halves" (A.cls .halves) pab (yw (A.cls .halves) (α:=Unit) (λ_=>[]) (λ_=>Rl.halves.shape))) (mOther:ZQ P w K mg base "Other" (A.cls (.other .shares)) pai (yw (A.cls (.other .shares)) (α:=Rl) (λr=>[r.ins A]) (λr=>(Rl.other r).shape))) (mRanks:ZQ P w K mg base "Ranks" (A.cls (.ranks .shares)) pai (yw (A.cls (.ranks .shares)) (α:=Rl) (λr=>[r.ins A]) (λr=>(Rl.ranks r).shape))) (mGroups:ZQ P w K mg base "Groups" (A.cls (.groups .shares .shares)) pas (yw (A.cls (.groups .shares .shares)) (α:=Rl×Rl) (λr=>[r.1.ins A,r.2.ins A]) (λr=>(Rl.groups r.1 r.2).shape))) (mUpto:ZQ P w K mg base "Upto" (A.cls (.upto 0 0 .shares .shares)) pag (yw (A.cls (.upto 0 0 .shares .shares)) (α:=(Int×Int)×Rl×Rl) (λr=>[.tuple [.int r.1.1, .int r.1.2],r.2.1.ins A,r.2.2.ins A]) (λr=>(Rl.upto r.1.1 r.1.2 r.2.1 r.2.2).shape))) (gA:Cal P w K mg base CX0 3 "read_word" pau (sV CW)) (Vx:Cal P w K mg base CX0 4 "read_portion" pau (qc CW)) {fr fw:Addr} {fdr fdw:FuncData} (F:Fun K "read_rule" "read_rule" Xq fr fdr) (hm:mg "read_rule"=some (.ref fr)) (b:yD K fdr pau []) (Fw:Fun K "read_within_brackets" "read_within_brackets" yI fw fdw) (hmw:mg "read_within_brackets"=some (.ref fw)) (bw:yD K fdw paX []):∀n,FnOk P w K mg base CX0 (2*n+5) fr fdr pau (sW CW A n):=by
 intro n
 induction n with
 |zero=>
  refine F.ok bC (λvs H Q E h=>?_) (λLV A' outer s H vs Q E hr h=>?_)
  ·obtain ⟨_,_,_,_,_,rfl,_⟩:=h;rfl
  obtain ⟨G,a,T,i,r,rfl,eG,ga,h,hT,⟨hh,hok,MB⟩,k⟩:=h;exact absurd MB (by cases r<;>simp [Rl.deep])
 |succ n ih=>
  have C1:=fF F ih hm b;have C2:=fF Fw (vC W_ok yQ yo mOther mRanks mGroups mUpto Vx C1 Fw) hmw bw;exact Fs W_ok yQ yo mShares mEvenly mLosses mHalves gA C2 F
end
section
variable {fS fE CW:Addr} {A:RAd}
abbrev ZV:Stmt:=xE (top 70) 0
theorem bN:FnScope paU paU (zk ZV):=yR
theorem Fl (W_ok:WOk K fS fE CW) (F:Fun K "__init__" "Walk.__init__" ZV f fd):FnOk P w K mg base CX0 1 f fd paU (AA CW):=by
 refine F.oo bN λH vs Q E hr nd0 h=>?_;obtain ⟨x,dx,T,rfl,hx,k⟩:=h;walk_at "=e;b0b1f;b0d";refine HK ?_;refine ⟨.str T,rfl, .ref x,rfl,x,CW,dx,[],rfl,hx,W_ok.cl,W_ok.na,by decide,?_⟩;refine YR ?_;refine ⟨.ref x,rfl,x,CW,dx,_,rfl,zZ,W_ok.cl,W_ok.nb,by show 1<1000;decide,?_⟩;refine k _ (Ch.upd.trans Ch.upd) ⟨dx,?_⟩;rw [zZ];rfl
abbrev Bb:Stmt:=top 71
theorem IT:FnScope ["text","walk","rule"] ["text"] (zk Bb):=yR
theorem JA {n:Nat} (W_ok:WOk K fS fE CW) {fdS fWI:FuncData} {fI:Addr} (Yf:FnOk P w K mg base CX0 1 fS fdS pab (iF CW)) (xw:yD K fdS pab []) (HX:mg "Walk"=some (.ref CW)) (DU:Mk K CW fI) (Iu:FnOk P w K mg base CX0 1 fI fWI paU (AA CW)) (Ij:yD K fWI paU []) (sH:Cal P w K mg base CX0 (2*n+5) "read_rule" pau (sW CW A n)) (F:Fun K "read" "read" Bb f fd):FnOk P w K mg base CX0 (2*n+6) f fd ["text"] (AD A n):=by
 refine F.oo IT λH vs Q E hr nd0 h=>?_;obtain ⟨G,r,eG,hA,⟨hok,MW,MB⟩,k⟩:=h;obtain ⟨v,rfl,al⟩:=Yq hA;cases (Is.str_of (al _ (Qq.mpr rfl)));dsimp only at k;have hT:r.text.length<=100000:=QI (r.text_len hok) (by omega);walk_at "=ej1жзab0cej2gab1celoOm*b1/pkVnfib2";left;intro x dx Mi hd0 Ma;refine ⟨x,dx,r.text,rfl,zZ,λH2 c2 h2=>⟨rfl,?_⟩⟩
 have old:∀p o,H p=some o->H2 p=some o:=λp o hp=>by
  rw [c2 p (zW hp Mi),zR (zW hp Mi),zR (zW hp hd0)];exact hp
 have S:Sw x H2 G H2 []:=Sw.enter (λp o hp=>old p o (eG p o hp)) (eG.free Mi) h2 λp hp=>absurd hp Qv;left;refine XM (α:=Rl) r S h2 hT ⟨GH _,hok,MB⟩ λv3 H3 h3 S3=>?_;rw [jbc] at h3;left;refine iO h3 W_ok ?_;refine af h3 hT ?_;rw [IP];left;refine rB (by decide+kernel) ?_;left;obtain ⟨G3,m,al3⟩:=S3.leave;refine k _ H3 G3 ⟨λp o hp=>m.k p o (zW hp Mi) (old p o hp),m.g,m.s,λp hp=>m.o p ?_⟩ (al3 _ (Qq.mpr rfl))
 cases e:H p with
 |none=>exact absurd e hp
 |some o=>rw [old p o e];simp
end
abbrev UW:Stmt:=top 89
theorem VC:FnScope ["_law_shape_here","_law_portion_here","_law_rules"] paM (zk UW):=yR
theorem FD (B:Bl mg) (F:Fun K "_law_text" "_law_text" UW f fd) (hm:mg "_law_text"=some (.ref f)) (b:yD K fd paM []):∀n:Nat,FnOk P w K mg base CX0 (n+1) f fd paM (jQ n):=by
 intro n
 induction n with
 |zero=>
  refine F.ok VC (λvs H Q E h=>?_) (λLV A outer s H vs Q E hr h=>?_)
  ·obtain ⟨r,h,_⟩:=h;rw [<-h.len];rfl
  obtain ⟨r,_,⟨_,_,hd⟩,_⟩:=h;exact absurd hd (by cases r<;>simp [Rl.deep])
 |succ n ih=>
  have wV:Cal P w K mg base CX0 (n+1) "_law_text" paM (jQ n):=fF F ih hm b;refine F.ok VC (λvs H Q E h=>?_) (λLV A outer s H vs Q E hr h=>?_)
  ·obtain ⟨r,h,_⟩:=h;rw [<-h.len];rfl
  obtain ⟨r,hA,⟨hok,MW,MB⟩,k⟩:=h;obtain ⟨v,rfl,al⟩:=Yq hA;dsimp only at k;have S:Sta H H H [] [(r.shape,v)]:=Sta.enter (zL.refl _) al;have l3:("(":Str).length=1:=by decide+kernel
  have l4:("/":Str).length=1:=by decide+kernel
  have l5:(")":Str).length=1:=by decide+kernel
  have l6:(", ":Str).length=2:=by decide+kernel
  have nd0:=VC.nd;walk_at "=elosmDab0cdkfih0nelosmh0pkej1JJηarh0dcpηarh0dcej2JJgah0cpgah0cfiJJJJpb1pb2pnfiJJJh0pиpaE_law_part;1;,ζb0FdUu0Bgab0ccp"
  rcases (show (∃wd:Str,r.shape= .tuple [.str wd]/\r.text=wd)\/(∃(wd:Str) (x:Rl),r.shape= .tuple [.str wd,x.shape]/\wd≠"upto"/\wd.length<=10/\(x.Ok/\x.size<=16/\x.deep<=n)/\r.text=wd++("(":Str)++x.text++(")":Str))\/(∃x y,r= .groups x y)\/∃(t b:Int) (x y:Rl),r= .upto t b x y from by
   cases r with
   |shares=>exact .inl ⟨_,rfl,rfl⟩
   |evenly=>exact .inl ⟨_,rfl,rfl⟩
   |losses=>exact .inl ⟨_,rfl,rfl⟩
   |halves=>exact .inl ⟨_,rfl,rfl⟩
   |other x=>
    simp only [Rl.size,Rl.deep] at MW MB;refine .inr (.inl ⟨"other",x,rfl,by decide+kernel,by decide+kernel,⟨hok,by omega,by omega⟩,?_⟩);rw [Rl.text,show ("other(":Str)=("other":Str)++("(":Str) by decide+kernel]
   |ranks x=>
    simp only [Rl.size,Rl.deep] at MW MB;refine .inr (.inl ⟨"ranks",x,rfl,by decide+kernel,by decide+kernel,⟨hok,by omega,by omega⟩,?_⟩);rw [Rl.text,show ("ranks(":Str)=("ranks":Str)++("(":Str) by decide+kernel]
   |groups x y=>exact .inr (.inr (.inl ⟨x,y,rfl⟩))
   |upto t b x y=>exact .inr (.inr (.inr ⟨t,b,x,y,rfl⟩))) with ⟨wd,e1,e2⟩|⟨wd,x,e1,hw,Rw,⟨ox,sx,dx⟩,e2⟩|⟨x,y,rfl⟩|⟨t,b,x,y,rfl⟩
  ·rw [e1] at S;rw [e2] at k;left;refine yJ (λ_=>?_) (λc=>absurd rfl c);left;exact qy S k
  ·rw [e1] at S;rw [e2] at k;have lx:x.text.length<=64000:=QI (x.text_len ox) (by omega);left;refine yJ (λc=>by simp at c) (λ_=>?_);left;refine yJ (λc=>absurd c hw) (λ_=>?_);left;refine HJ (xs:=[.str wd,x.shape]) S ‹_› (by show ¬(HT.sIx 2 0 (some 1)=0/\HT.sIx 2 2 none=2);decide) λl2 H2 e2 S2=>?_;refine qG (xs:=[x.shape]) S2 ‹_› λJ wk=>?_;refine xB wk (λ_=> .str x.text) (ys:=[x.text].map PyData.str) rfl S2 (λ_ _=> .mem (by right)) (by show 1<=1000;decide) (λj u v B' G' Kd Kn hx t1 S hd C ex s0 H0=>?_) λD H3 e3 S3=>?_
   ·obtain rfl:u=x.shape:=by
     match j,hx with
     |0,hx=>exact (Qz hx).symm
    refine zF ⟨rfl,?_⟩;left;refine WT S ‹_› ox sx dx λH4 S4=>?_;exact hd S4 Has.str
   left;refine BA (ys:=[x.text]) S3 (by right) (Gs (by omega)) ?_;rw [glued1];left;exact qy S3 k
  ·simp only [Rl.size,Rl.deep] at MW MB;have ox:=hok.1;have oy:=hok.2;have sx:x.size<=16:=by omega
   have sy:y.size<=16:=by omega
   have lx:x.text.length<=64000:=QI (x.text_len ox) (by omega);have ly:y.text.length<=64000:=QI (y.text_len oy) (by omega);have S:Sta H H H [] [(.tuple [.str "groups",x.shape,y.shape],v)]:=S;rw [Rl.text,show ("groups(":Str)=("groups":Str)++("(":Str) by decide+kernel] at k;have lg:("groups":Str).length=6:=by decide+kernel
   left;refine yJ (λc=>by simp at c) (λ_=>?_);left;refine yJ (λc=>absurd c (by decide+kernel)) (λ_=>?_);left;refine HJ (xs:=[.str "groups",x.shape,y.shape]) S ‹_› (by show ¬(HT.sIx 3 0 (some 1)=0/\HT.sIx 3 3 none=3);decide) λl2 H2 e2 S2=>?_;refine qG (xs:=[x.shape,y.shape]) S2 ‹_› λJ wk=>?_;refine xB wk (λj=> .str ([x,y].getD j x).text) (ys:=[x.text,y.text].map PyData.str) rfl S2 (λ_ _=> .mem (by right)) (by show 2<=1000;decide) (λj u v B' G' Kd Kn hx t1 S hd C ex s0 H0=>?_) λD H3 e3 S3=>?_
   ·have hj:u=([x,y].getD j x).shape/\([x,y].getD j x).Ok/\([x,y].getD j x).size<=16/\([x,y].getD j x).deep<=n:=by
     match j,hx with
     |0,hx=>exact ⟨(Qz hx).symm,ox,sx,by show x.deep<=n;omega⟩
     |1,hx=>exact ⟨(Qz hx).symm,oy,sy,by show y.deep<=n;omega⟩
    obtain ⟨rfl,o1,o2,o3⟩:=hj;refine zF ⟨rfl,?_⟩;left;refine WT S ‹_› o1 o2 o3 λH4 S4=>?_;exact hd S4 Has.str
   left;refine BA (ys:=[x.text,y.text]) S3 (by right) (Gr (by omega) (by omega)) ?_;rw [glued2];have lg2:(x.text++(", ":Str)++y.text).length<=200000:=by simp only [xJ];omega
   left;simp only [xG] at k⊢;exact qy S3 k
  ·simp only [Rl.size,Rl.deep] at MW MB;obtain ⟨⟨⟨ht,hb⟩,_⟩,ox,oy⟩:=hok;have sx:x.size<=16:=by omega
   have sy:y.size<=16:=by omega
   have lx:x.text.length<=64000:=QI (x.text_len ox) (by omega);have ly:y.text.length<=64000:=QI (y.text_len oy) (by omega);have lt:=lr ht;have lb:=lr hb;have S:Sta H H H [] [(.tuple [.str "upto", .tuple [.int t, .int b],x.shape,y.shape],v)]:=S;rw [Rl.text] at k;have lg:("upto(":Str).length=5:=by decide+kernel
   left;refine yJ (λc=>by simp at c) (λ_=>?_);left;refine yJ (λ_=>?_) (λc=>absurd rfl c);left;refine WT (r:=x) (by assumption) ‹_› ox sx (by omega) λH4 S4=>?_;left;refine WT (r:=y) (by assumption) ‹_› oy sy (by omega) λH5 S5=>?_;left;simp only [xG] at k⊢;exact qy S5 k
local macro_rules|`(tactic|walk_at "rd")=>`(tactic|first|fail "&177"|fail)
section
variable {A:RAd}
abbrev YC:Stmt:=top 38
theorem Wl:FnScope ["claims","claim"] pan (zk YC):=yR
theorem FH (B:Bl mg) (g_MOST:mg "MOST"=some (.int 8 tM)) (F:Fun K "check_claims" "check_claims" YC f fd):FnOk P w K mg base CX0 1 f fd pan qf:=by
 refine F.oo Wl λH vs Q E hr nd0 h=>?_;obtain ⟨l,hA,ok,k⟩:=h;obtain ⟨v,rfl,al⟩:=Yq hA;have S:Sta H H H [] [(zA l,v)]:=Sta.enter (zL.refl _) al;have pos:=ok.pos;have few:=ok.few;refine ⟨_,(tF (ps_if (PW.pt (pw_or (qH (op_eqA (EA hr)) (cx oQ rfl B.len Ii (Wz (pv 0) eD)) tH (Cw _)) (pw_or1 (qH op_gt (cx oQ rfl B.len Ii (Wz (pv 0) eD)) (Jr (v:= .int 8) rfl g_MOST ⟨_,rfl⟩) (Cw _))))) (dR tG) BO) (dR (ps_for PassesOwn.never rfl (kH (pv 0)) (pg_a 1 Wl.nd) (dR (ps_if (qH op_lt (cx (DH rfl) rfl B.min Ih (Wz (pv 1) eD)) tH (Cw _)) (dR tG) BO))))),kD ?_⟩;left;refine yJ (λc=>absurd c (by rw [Qa];omega)) (λ_=>?_);left;refine yJ (λc=>absurd c (by rw [Qa];omega)) (λ_=>?_);left;refine yq (xs:=l.map yc) S ‹_› λJ wk=>?_;refine Yd wk (λi σ cs ds=>(∃x,σ=[some v,x])/\cs=[]/\ds=[(zA l,v)]) S ⟨⟨none,rfl⟩,rfl,rfl⟩ (λi σ cs ds h=>?_) ?_ ?_
 ·obtain ⟨_,rfl,rfl⟩:=h;exact .mem (by right)
 ·rintro i x u σ H2 cs ds hx ⟨⟨x1,rfl⟩,rfl,rfl⟩ S2
  obtain ⟨c,hc,rfl⟩:=zU hx;have nn:=ok.nn c (Qe hc);left;refine Jf (ns:=[c.1,c.2.1,c.2.2]) S2 ‹_› (Nat.zero_lt_succ _) λm hm _=>?_
  have m0:¬m<0:=by
   simp only [Ql,Qv,or_false] at hm
   rcases hm with rfl|rfl|rfl<;>omega
  left;refine yJ (λc=>absurd c m0) (λ_=>?_);left;exact xR (S2.dat (by walk_at "dats")) ⟨⟨_,rfl⟩,rfl,rfl⟩
 ·rintro σ H2 cs ds ⟨⟨x1,rfl⟩,rfl,rfl⟩ S2
  exact k _ S2.base
abbrev Yw:Stmt:=top 52
theorem du:FnScope ["parts"] ["parts"] (zk Yw):=yR
theorem ok_wc (B:Bl mg) (F:Fun K "whole_corner" "whole_corner" Yw f fd):FnOk P w K mg base CX0 1 f fd ["parts"] spWC:=by
 refine F.oo du λH vs Q E hr nd0 h=>?_;obtain ⟨G,l,eG,hA,ok,k⟩:=h;obtain ⟨v,rfl,al⟩:=Yq hA;have S:Sta H G H [] _:=Sta.enter eG al;walk_at "=fiqaqa^~ab0cadcaYaEpart;1;Cb0u0Bqab0adccc";left;rename_i p1 H1 e1 S1;refine yq (xs:=l.map PyData.int) S1 ‹_› λJ wk=>?_;refine xF wk (λj=>frD ((l.getD j 0:Int):Rat)) (ys:=(yp l).2.map frD) (by unfold yp;rw [Qa,QR];exact zH (λx:Int=>frD ((x:Int):Rat)) 0 l) S1 (λj x v=>λhx t1 S hd=>?_) λD H2 e2 S2=>?_
 ·obtain ⟨y,hy,rfl⟩:=zU hx;cases S.int1;refine zF ⟨rfl,?_⟩;left;refine hd (by assumption) ?_;rw [yh hy];exact .mem (by right)
 left;exact ZJ (by assumption) k ‹_›
abbrev dG:Stmt:=top 51
theorem vd:FnScope ["count"] ["count"] (zk dG):=yR
theorem vH (YI:Cal P w K mg base CX0 1 "whole_corner" ["parts"] spWC) (F:Fun K "nothing" "nothing" dG f fd):FnOk P w K mg base CX0 2 f fd ["count"] Wh:=by
 refine F.oo vd λH vs Q E hr nd0 h=>?_;obtain ⟨G,n,eG,hA,ok,k⟩:=h;cases (yM (ns:=[(n:Int)]) hA);have S:Sta H G H [] []:=Sta.enter eG λp hp=>absurd hp Qv;walk_at "=fiAagaθAadcb0cc";left;rename_i p1 H1 e1 S1;refine Je S1 (by right) (by omega) λl2 H2 e2 S2=>?_;have S3:Sta H G H2 [] [(.list ((XW n).map PyData.int), .ref l2)]:=S2.freeze.weak (by walk_at "sub") (by walk_at "dats");refine Ja S3 ‹_› (by rw [cN];exact ok) λw4 H4 e4 S4=>?_;left;exact xD (by assumption) k
abbrev kf:Stmt:=top 45
theorem AO:FnScope ["claims","amounts"] pan (zk kf):=yR
theorem Ca (B:Bl mg) (Xi:Cal P w K mg base CX0 2 "nothing" ["count"] Wh) (YI:Cal P w K mg base CX0 1 "whole_corner" ["parts"] spWC) (F:Fun K "shares" "shares" kf f fd):FnOk P w K mg base CX0 3 f fd pan (bB 0):=by
 refine F.oo AO λH vs Q E hr nd0 h=>?_;obtain ⟨G,l,eG,hA,ok,k⟩:=h;obtain ⟨v,rfl,al⟩:=Yq hA;have S:Sta H G H [] _:=Sta.enter eG al;have few:=ok.few;walk_at "=e$1claim;1;Cb0u0Bh0elosm^~ab1cdkfigaDab1ccnfivgaDab1ccAagab1cc";left;refine yq (xs:=l.map yc) S ‹_› λJ wk=>?_;refine xF wk (λj=> .int (l.getD j (0,0,0)).1) (ys:=(amV l).map PyData.int) (by unfold amV;rw [Qa,QR];exact zH (λc:Cl=>PyData.int c.1) (0,0,0) l) S (λj x v=>λhx t1 S hd=>?_) λD H1 e1 S1=>?_
 ·obtain ⟨c,hc,rfl⟩:=zU hx;refine zF ⟨rfl,?_⟩;left;refine hd (by assumption) ?_;rw [yh hc];exact Has.int
 have S2:Sta H G H1 [] [(.list ((amV l).map PyData.int), .ref D)]:=S1.freeze.weak (by walk_at "sub") (by walk_at "dats");clear S1;have l8:(amV l).length<=8:=by rw [xm];omega
 dsimp only at k;unfold flV at k;have ek:Kc (amV l) (lvV (amV l)) 0=shP (amV l):=rfl;rw [ek] at k;generalize amV l=as at*;unfold shP at k;left;refine yJ (λc=>?_) (λc=>?_)
 ·rw [QH c] at k;left;rw [Qa];refine ag S2 l8 λp3 H3 e3 S3=>?_;exact xD S3 k
 ·rw [QP c] at k;left;rw [Qa];refine ag S2 l8 λp3 H3 e3 S3=>?_;left;refine Ja S3 ‹_› l8 λw4 H4 e4 S4=>?_;left;rename_i p5 H5 e5 S5;refine Zp S5 (S5.vwC (by right)) (S5.vwC (by right)) (by show 1+1<=1000;decide) λp6 H6 e6 S6=>?_;exact xD S6 k
abbrev ku:Stmt:=top 46
theorem nh:FnScope ["claims","amounts"] pan (zk ku):=yR
theorem Cq (B:Bl mg) (B2:Bl3 mg) (YI:Cal P w K mg base CX0 1 "whole_corner" ["parts"] spWC) (F:Fun K "evenly" "evenly" ku f fd):FnOk P w K mg base CX0 2 f fd pan (bB 1):=by
 refine F.oo nh λH vs Q E hr nd0 h=>?_;obtain ⟨G,l,eG,hA,ok,k⟩:=h;obtain ⟨v,rfl,al⟩:=Yq hA;have S:Sta H G H [] _:=Sta.enter eG al;have few:=ok.few;refine ⟨_,(tF (ps_a 1 nh.nd (pcf ["claim"] 1 [] (kH (pv 0)) (pg_c 0) qI (pix 0))) (dR (ps_ret (Fj (N:=["level","amounts"]) (n:=1) (fr:=[1]) (y:="level") rfl ⟨rfl,by decide+kernel,rfl,by decide,rfl,rfl,λ_ _=>rfl,λ_=>rfl,rfl,rfl,rfl,rfl⟩ (kH (Fi rfl rfl B2.sorted rfl B2.set (pe_op BV (pe_lst (Wz tH eD)) (pv 1)))) (λ_ _ _ _=>(qJ (i:=0) (show (["level","amounts"]:List Str).Nodup from by decide+kernel) rfl (by walk_at "o"))) (λ_ _ _ _=>qI) (λ_ _ _ _=>(pcl YI hr (Wz (pcf ["amount","level"] 1 [0] (kH (pv 1)) (pg_c 0) qI (cx (DI rfl) rfl B.min Ih (Wz (pv 0) (Wz (pv 1) eD)))) eD))))))),kD ?_⟩;left;refine yq (xs:=l.map yc) S ‹_› λJ wk=>?_;refine xF wk (λj=> .int (l.getD j (0,0,0)).1) (ys:=(amV l).map PyData.int) (by unfold amV;rw [Qa,QR];exact zH (λc:Cl=>PyData.int c.1) (0,0,0) l) S (λj x v=>λhx t1 S hd=>?_) λD H1 e1 S1=>?_
 ·obtain ⟨c,hc,rfl⟩:=zU hx;refine zF ⟨rfl,?_⟩;left;refine hd (by assumption) ?_;rw [yh hc];exact Has.int
 have S2:Sta H G H1 [] [(.list ((amV l).map PyData.int), .ref D)]:=S1.freeze.weak (by walk_at "sub") (by walk_at "dats");clear S1;have l8:(amV l).length<=8:=by rw [xm];omega
 have L:=ok.lv;have Lf:=L.few;dsimp only at k;unfold flV at k;have ek:Kc (amV l) (lvV (amV l)) 1=evP (amV l) (lvV (amV l)):=rfl;rw [ek] at k;generalize amV l=as at*;left;rename_i p3 H3 e3 S3;refine Zp S3 (S3.vwC (by right)) (S3.vwL ‹_›) (by rw [Qa];show 1+_<=1000;omega) λp4 H4 e4 S4=>?_;rw [show [PyData.int 0]++as.map PyData.int=(0::as).map PyData.int from rfl] at S4;refine dM S4 (by right) (by rw [Qw];omega) λos l5 H5 h1 h2 e5 S5=>?_;cases lvV_eq h1 h2;generalize lvV as=ls at*;refine Bx (xs:=ls.map PyData.int) S5 (by right) λJ2 NK=>?_;refine xB NK (λj=>zu (yp (Vi as (ls.getD j 0)))) (ys:=(evP as ls).map zu) (by unfold evP;rw [Qa,QR];exact zH (λz:Int=>zu (yp (Vi as z))) 0 ls) S5 (λ_ _=>Qd _ (by right)) (by rw [Qa];omega) (λj x v B' G' Kd Kn hx t1 S hd C ex s0 H0=>?_) λD6 H6 e6 S6=>?_
 ·obtain ⟨z,hz,rfl⟩:=zU hx;cases S.int1;refine zF ⟨rfl,?_⟩;left;refine yq (xs:=as.map PyData.int) S ‹_› λJ3 wk3=>?_;refine xB wk3 (λi=> .int (min (as.getD i 0) z)) (ys:=(Vi as z).map PyData.int) (by unfold Vi;rw [Qa,QR];exact zH (λa:Int=>PyData.int (min a z)) 0 as) S (λ_ _=> .mem (by right)) (by rw [Qa];omega) (λi x u B3 G3 Kd2 Kn2 NX t2 S2 hd2 C2 ex2 s2 H2=>?_) λD7 H7 e7 S7=>?_
  ·obtain ⟨a,ha,rfl⟩:=zU NX;cases S2.int1;refine zF ⟨rfl,?_⟩;left;refine hd2 S2 ?_;rw [yh ha];exact Has.int
  left;refine Ja S7.freeze ‹_› (by unfold Vi;rw [Qa];exact l8) λw8 H8 e8 S8=>?_;refine hd S8 ?_;rw [yh hz];exact .mem (by right)
 exact xD S6 k
abbrev ko:Stmt:=top 47
theorem AV:FnScope pan pan (zk ko):=yR
theorem Cm (cK:Cal P w K mg base CX0 2 "evenly" pan (bB 1)) (cH:Cal P w K mg base CX0 5 "turned" ["path"] cg) (F:Fun K "losses" "losses" ko f fd):FnOk P w K mg base CX0 6 f fd pan (bB 2):=by
 refine F.oo AV λH vs Q E hr nd0 h=>?_;obtain ⟨G,l,eG,hA,ok,k⟩:=h;obtain ⟨v,rfl,al⟩:=Yq hA;have S:Sta H G H [] _:=Sta.enter eG al;walk_at "=figagab0cc";left;refine ai S ‹_› ok λp1 H1 e1 S1=>?_;left;refine ny (a:=flV 1 l) S1.freeze ‹_› (ok.lv.inE ok.am) λp2 H2 e2 S2=>?_;rw [show yj (flV 1 l)=flV 2 l from cQ ok.lv] at S2;exact xD S2 k
abbrev Ba:Stmt:=top 50
theorem IS:FnScope paE paE (zk Ba):=yR
theorem Jx (Vg:Cal P w K mg base CX0 5 "behind" paq Ua) (uP:Cal P w K mg base CX0 4 "scaled" paW jJ) (YJ:Cal P w K mg base CX0 3 "minus" paa UO) (F:Fun K "upto" "upto" Ba f fd):FnOk P w K mg base CX0 6 f fd paE AB:=by
 refine F.oo IS λH vs Q E hr nd0 h=>?_;obtain ⟨G,⟨p,a,b⟩,eG,hA,ok,k⟩:=h;obtain ⟨v0,v1,v2,rfl,al⟩:=XO hA;have S:Sta H G H [] _:=Sta.enter eG al;dsimp only at ok k S;have zp:=ok.sz;have one:SzQ 1 (1:Rat):=by unfold SzQ Sz;decide+kernel
 obtain ⟨m,pm⟩:=ok.m;walk_at "=figagab1ab0cagab2agaqadadcab0ccc";left;refine nF (a:=a) (p:=p) S ‹_› ‹_› ok.pa (zp.mono (by decide)) λp1 H1 e1 S1=>?_;have S2:=S1.freeze;left;rename_i p3 H3 e3 S3;refine qC (p:=(1:Rat)) (q:=p) S3 ‹_› ‹_› one zp (by decide) True.intro λw4 H4 e4 S4=>?_;left;refine nF (a:=b) (p:=1 - p) S4 ‹_› ‹_› ok.pb ((one.sub zp).mono (by decide)) λp5 H5 e5 S5=>?_;left;refine nN (a:=zP p a) (b:=zP (1 - p) b) S5.freeze ‹_› ‹_› ok.sa ok.sb pm λp6 H6 e6 S6=>?_;exact xD S6 k
abbrev kv:Stmt:=top 44
theorem dD:FnScope ["shape","claims","word"] paz (zk kv):=yR
abbrev VO:Stmt:=xE (top 56) 3
theorem nk:FnScope paC paC (zk VO):=yR
abbrev Ws:Stmt:=xE (top 56) 4
theorem jX:FnScope pax pax (zk Ws):=yR
end
abbrev kj:Stmt:=top 34
theorem AS:FnScope ["ones","twos","numbers","one","two"] paf (zk kj):=yR
theorem Cj (B:Bl mg) (cL:Cal P w K mg base CX0 1 "before" paa cq) (F:Fun K "merged" "merged" kj f fd):FnOk P w K mg base CX0 2 f fd paf ck:=by
 refine F.oo AS λH vs Q E hr nd0 h=>?_;obtain ⟨G,⟨p,q⟩,eG,hA,⟨⟨n,z1,z2,hn⟩,l1,l2⟩,k⟩:=h;obtain ⟨v1,v2,rfl,al⟩:=yT hA;have S:Sta H G H [] [(.list (p.map frD),v1),(.list (q.map frD),v2)]:=Sta.enter eG al;dsimp only at z1 z2 l1 l2 k;have h2n:n+n<=100000000:=by omega
 walk_at "=ej2Acej3dej4de8KW4b3Dab0ck14b4Dab1ckflHgarb0b3arb1b4cez2b2arb0b3cf(3delosmrb0b3rb1b4kf(3dnez2b2arb1b4cf(4dfivvb2Rb0Fb3URb1Fb4U";left;rename_i pn H1 e1 S1;refine mE (λm σ cs ds=>∃(i j:Nat) (ns:List Rat),σ=[some v1,some v2,some (.ref pn),some (.int (i:Nat)),some (.int (j:Nat))]/\cs=[(pn,ns.map frD)]/\ds=[(.list (p.map frD),v1),(.list (q.map frD),v2)]/\i<=p.length/\j<=q.length/\ns.length<=i+j/\ns++zK (p.drop i) (q.drop j)=zK p q/\m=(p.length - i)+(q.length - j)) ((p.length - 0)+(q.length - 0)) S1 ⟨0,0,[],rfl,rfl,rfl,TH _,TH _,TH _,rfl,rfl⟩ ?_
 rintro m σ H2 cs ds ⟨i,j,ns,rfl,rfl,rfl,hi,hj,Nn,MA,rfl⟩ S2
 have cd:∀(l:List Rat) (t:Nat),t<=l.length->lG (l.map frD) (some ((t:Nat):Int)) none=(l.drop t).map frD:=by
  intro l t ht;unfold lG;rw [HT.sIx_none,HT.sIx_nat,Qa,Nat.min_eq_left ht,Tc (by rw [Ti,Qa];exact Qp _),<-List.map_drop]
 left;refine yJ (λc1=>?_) (λc1=>?_)
 ·rw [Qa] at c1;left;refine qB (λc2=>?_) (λc2=>?_)
  ·rw [Qa,decide_eq_true_eq] at c2;have Np:i<p.length:=by omega
   have Nx:j<q.length:=by omega
   have gi:=Qc Np;have gj:=Qc Nx;have di:=List.drop_eq_getElem_cons Np;have dj:=List.drop_eq_getElem_cons Nx;have zi:=z1 _ (Te Np);have zj:=z2 _ (Te Nx);generalize p[i]=x at*;generalize q[j]=y at*;have ix:atI (p.map frD) ((i:Nat):Int)=some (frD x):=yC (by rw [Qi,gi];rfl);have iy:atI (q.map frD) ((j:Nat):Int)=some (frD y):=yC (by rw [Qi,gj];rfl);rw [di,dj,zK] at MA;left;refine yV (xs:=p.map frD) (x:=frD x) S2 ‹_› ix λw3 S3=>?_;left;refine yV (xs:=q.map frD) (x:=frD y) S3 ‹_› iy λw4 S4=>?_;left;refine nO S4 ‹_› ‹_› zi zj h2n ?_;left;refine yJ (λc3=>?_) (λc3=>?_)
   ·rw [QH c3] at MA;left;refine yV (xs:=p.map frD) (x:=frD x) S4 ‹_› ix λw5 S5=>?_;left;refine xh (y:=frD x) S5 ‹_› (by rw [Qa];omega) λH6 S6=>?_;left;refine ⟨_,?_,_,_,S6.dat (by walk_at "dats"),i+1,j,ns++[x],rfl,by rw [QO];rfl,rfl,Np,hj,by rw [Qy,Tv];omega,?_,rfl⟩
    ·omega
    ·rw [<-MA,dj,TX];rfl
   ·rw [QP c3] at MA;left;refine yV (xs:=p.map frD) (x:=frD x) S4 ‹_› ix λw5 S5=>?_;left;refine yV (xs:=q.map frD) (x:=frD y) S5 ‹_› iy λw6 S6=>?_;refine BC (x:=frD x) (y:=frD y) (S6.hp ‹_›) (S6.hp ‹_›) (xQ _) (xQ _) ?_;rw [aD];left;refine yJ (λc4=>?_) (λc4=>?_)
    ·rw [QH c4] at MA;left;refine yV (xs:=q.map frD) (x:=frD y) S6 ‹_› iy λw7 S7=>?_;left;refine xh (y:=frD y) S7 ‹_› (by rw [Qa];omega) λH8 S8=>?_;left;refine ⟨_,?_,_,_,S8.dat (by walk_at "dats"),i+1,j+1,ns++[y],rfl,by rw [QO];rfl,rfl,Np,Nx,by rw [Qy,Tv];omega,?_,rfl⟩
     ·omega
     ·rw [<-MA,TX];rfl
    ·rw [QP c4] at MA;left;refine yV (xs:=q.map frD) (x:=frD y) S6 ‹_› iy λw7 S7=>?_;left;refine xh (y:=frD y) S7 ‹_› (by rw [Qa];omega) λH8 S8=>?_;left;refine ⟨_,?_,_,_,S8.dat (by walk_at "dats"),i,j+1,ns++[y],rfl,by rw [QO];rfl,rfl,hi,Nx,by rw [Qy,Tv];omega,?_,rfl⟩
     ·omega
     ·rw [<-MA,di,TX];rfl
  ·rw [Qa,decide_eq_false_iff_not] at c2;have MU:p.length<=i\/q.length<=j:= .inr (by omega);left;refine nD (xs:=p.map frD) S2 ‹_› λl3 H3 e3 S3=>?_;rw [cd p i hi] at S3;refine Zp S3 (S3.vwC (by right)) (S3.vwC (by right)) (by rw [Qa,Qa,Ti];omega) λp4 H4 e4 S4=>?_;left;refine nD (xs:=q.map frD) S4 ‹_› λl5 H5 e5 S5=>?_;rw [cd q j hj] at S5;refine Zp S5 (S5.vwC (by right)) (S5.vwC (by right)) (by rw [Qy,Qa,Qa,Qa,Ti,Ti];omega) λp6 H6 e6 S6=>?_;refine HL ?_
   have em:(ns.map frD++(p.drop i).map frD)++(q.drop j).map frD=(zK p q).map frD:=by
    rw [<-MA,QO,TX]
    congr 1
    rcases MU with h|h
    ·rw [jbj h,zK];simp
    ·rw [jbj h,eO];simp
   rw [em] at S6;exact xD (S6.weak (cs':=[_]) (by walk_at "sub") Dats.nil) k
 ·rw [Qa] at c1;have MU:p.length<=i\/q.length<=j:= .inl (by omega);refine qB (λh=>by cases h) (λ_=>?_);left;refine nD (xs:=p.map frD) S2 ‹_› λl3 H3 e3 S3=>?_;rw [cd p i hi] at S3;refine Zp S3 (S3.vwC (by right)) (S3.vwC (by right)) (by rw [Qa,Qa,Ti];omega) λp4 H4 e4 S4=>?_;left;refine nD (xs:=q.map frD) S4 ‹_› λl5 H5 e5 S5=>?_;rw [cd q j hj] at S5;refine Zp S5 (S5.vwC (by right)) (S5.vwC (by right)) (by rw [Qy,Qa,Qa,Qa,Ti,Ti];omega) λp6 H6 e6 S6=>?_;refine HL ?_
  have em:(ns.map frD++(p.drop i).map frD)++(q.drop j).map frD=(zK p q).map frD:=by
   rw [<-MA,QO,TX]
   congr 1
   rcases MU with h|h
   ·rw [jbj h,zK];simp
   ·rw [jbj h,eO];simp
  rw [em] at S6;exact xD (S6.weak (cs':=[_]) (by walk_at "sub") Dats.nil) k
abbrev Zf:Stmt:=top 32
theorem Uc:FnScope ["path","place","levels","amounts","purses","level","reached","portion"] paR (zk Zf):=yR
theorem Fu (B:Bl mg) (iB:Cal P w K mg base CX0 2 "last_reached" paQ sY) (bt:Cal P w K mg base CX0 4 "portion_reached" pay VZ) (sL:Cal P w K mg base CX0 4 "amount_at" paw cu) (F:Fun K "purses_reaching" "purses_reaching" Zf f fd):FnOk P w K mg base CX0 5 f fd paR pZ:=by
 refine F.oo Uc λH vs Q E hr nd0 h=>?_;obtain ⟨G,⟨a,kk,L⟩,eG,hA,⟨m,n,b,ok⟩,k⟩:=h;obtain ⟨v1,v2,v3,rfl,al⟩:=XO hA;have S:Sta H G H [] [(zE a,v1),(.int (kk:Nat),v2),(.list (L.map frD),v3)]:=Sta.enter eG al;dsimp only at ok k;cases (S.hp (x:= .int (kk:Nat)) (v:=v2) ‹_›).int_of;have la:0<a.length:=jaB.mpr ok.pr.ne;have fa:=ok.pr.few;have fl:=ok.few;have hz:=ok.sz;walk_at "=e$3corner,place;11;Cb0u0Brh0b1ej4AceICb2y5ej6gab3ab5cfl4b6TDab0cdkej7garb3b6arb3vb6dab5cfz2b4agarrb0b6darrb0vb6ddab7ccnfib4";left;refine yq (xs:=a.map zu) S ‹_› λJ wk=>?_;refine xF wk (λj=>frD ((λc:zg=>c.2.getD kk 0) (a.getD j (0,[])))) (ys:=(a.map λc=>c.2.getD kk 0).map frD) (by rw [Qa,QR];exact zH (λc:zg=>frD (c.2.getD kk 0)) (0,[]) a) S (λj x v=>λhx t1 S hd=>?_) λD H1 e1 S1=>?_
 ·obtain ⟨c,hc,rfl⟩:=zU hx;have gc:=getD_some (l:=c.2) (k:=kk) (by rw [ok.pm.t.len c (Qe hc)];exact ok.kn);refine zF ⟨rfl,?_⟩;left;rename_i w2 S2;refine Ul (xs:=c.2.map frD) (x:=frD (c.2.getD kk 0)) S2 ‹_› (yC (by rw [Qi,gc];rfl)) λw3 S3=>?_;refine hd S3 ?_;rw [yh hc];exact .mem (by right)
 have S2:=S1.freeze;clear S1;left;rename_i pp H3 e3 S3;have S4:Sta H G H3 [(pp,[])] [(.list ((a.map λc=>c.2.getD kk 0).map frD), .ref D),(zE a,v1),(.list (L.map frD),v3)]:=S3.dat (by walk_at "dats");refine yq (xs:=L.map frD) S4 ‹_› λJ wk=>?_;refine Yd wk (λi σ cs ds=>∃(x5 x6 x7:Option V),σ=[some v1,some (.int (kk:Nat)),some v3,some (.ref D),some (.ref pp),x5,x6,x7]/\cs=[(pp,((L.take i).filterMap (yS a kk)).map frD)]/\ds=[(.list ((a.map λc=>c.2.getD kk 0).map frD), .ref D),(zE a,v1),(.list (L.map frD),v3)]) S4 ⟨none,none,none,rfl,rfl,rfl⟩ (λi σ cs ds h=>?_) ?_ ?_
 ·obtain ⟨_,_,_,_,_,rfl⟩:=h;exact .mem (by right)
 ·rintro i x u σ H5 cs ds hx ⟨x5,x6,x7,rfl,rfl,rfl⟩ S5
  obtain ⟨l,hl,rfl⟩:=zU hx;obtain ⟨zl,l0⟩:=ok.lev l (Qe hl);have RG:i<L.length:=(Qf.mp hl).1;have zq:∀c∈a,SzQ n (c.2.getD kk 0):=λc hc=>(ok.pr.sz c hc).2 _ (Qe (getD_some (l:=c.2) (k:=kk) (by rw [ok.pm.t.len c hc];exact ok.kn)))
  have stepL:∀o:Option Rat,yS a kk l=o->((L.take (i+1)).filterMap (yS a kk)).map frD=((L.take i).filterMap (yS a kk)).map frD++(o.toList.map frD):=λo ho=>by
   rw [Tt,hl,List.filterMap_append,QO]
   congr 1
   cases o with
   |none=>simp [ho]
   |some y=>simp [ho]
  left;refine Bv (qs:=a.map λc=>c.2.getD kk 0) (e:=l) (n:=9000) S5 (S5.hp ‹_›) (S5.hp ‹_›) ⟨by rw [Qa];exact la,by rw [Qa];omega,λq hq=>?_,zl.mono (by omega),by decide,λq hq=>?_⟩ λr q hi Nm OA=>?_
  ·obtain ⟨c,hc,rfl⟩:=Qj.mp hq;exact (zq c hc).mono (by omega)
  ·obtain ⟨c,hc,rfl⟩:=zU hq;exact l0 c hc
  obtain ⟨c,hc,rfl⟩:=zU hi;have hra:r<a.length:=(Qf.mp hc).1;rw [Qa] at OA;left;refine yJ (λc1=>?_) (λc1=>?_)
  ·rw [Qa] at c1
   obtain ⟨y,hy,SU⟩:∃y,(a.map λc=>c.2.getD kk 0)[r+1]? =some y/\l<y:=by
    rcases OA with h|h
    ·omega
    ·exact h
   obtain ⟨d,hd,rfl⟩:=zU hy
   have key:yS a kk l=some (Zr ((l - c.2.getD kk 0) / (d.2.getD kk 0 - c.2.getD kk 0)) c.1 d.1):=by
    have pm:=ok.pm;have okk:=ok.kn
    obtain ⟨c0,r0,e0⟩:∃c r,a=c::r:=by
     cases a with
     |nil=>simp at hra
     |cons c r=>exact ⟨c,r,rfl⟩
    rw [e0] at pm hc hd⊢;exact nv okk pm hc hd Nm SU
   have zc:=zq c (Qe hc);have zd:=zq d (Qe hd);have z1:=(ok.pr.sz c (Qe hc)).1;have z2:=(ok.pr.sz d (Qe hd)).1;have er:((r:Nat):Int)+1=((r+1:Nat):Int):=by omega
   have Ma:d.2.getD kk 0≠c.2.getD kk 0:=λz=>by rw [z] at SU;exact jaA.mpr SU Nm
   have zt:=SzQ.port zl zc zd;have st:=stepL _ key;left;refine yV (xs:=(a.map λc=>c.2.getD kk 0).map frD) (x:=frD (c.2.getD kk 0)) S5 ‹_› (yC (by rw [Qi,hi];rfl)) λw6 S6=>?_;left;refine yV (xs:=(a.map λc=>c.2.getD kk 0).map frD) (x:=frD (d.2.getD kk 0)) S6 ‹_› (by rw [er];exact yC (by rw [Qi,hy];rfl)) λw7 S7=>?_;left;generalize c.2.getD kk 0=x0 at*;generalize d.2.getD kk 0=y0 at*;refine iN S7 ‹_› ‹_› ‹_› zc zd zl (by omega) Ma λr8 H8 e8 S8=>?_;generalize (l - x0) / (y0 - x0)=t at*;left;refine yV (xs:=a.map zu) (x:=zu c) S8 ‹_› (yC (by rw [Qi,hc];rfl)) λw9 S9=>?_;left;rename_i NV Mr;refine yV (xs:=a.map zu) (x:=zu d) Mr ‹_› (by rw [er];exact yC (by rw [Qi,hd];rfl)) λMQ MC=>?_;left;rename_i w12 MP;refine nP MP ‹_› ‹_› ‹_› z1 z2 zt (by omega) λr13 Sg e13 MO=>?_;left;refine xh (y:=frD (Zr t c.1 d.1)) MO ‹_› ?_ λOX Nh=>?_
   ·rw [Qa];have:=jba (yS a kk) (L.take i);rw [Tq] at this;omega
   left;exact xR (Nh.dat (by walk_at "dats")) ⟨_,_,_,rfl,by rw [st];rfl,rfl⟩
  ·rw [Qa] at c1;have hrl:r+1=a.length:=by omega
   have key:yS a kk l=none:=by
    have pm:=ok.pm;have okk:=ok.kn
    obtain ⟨c0,r0,e0⟩:∃c r,a=c::r:=by
     cases a with
     |nil=>simp at hra
     |cons c r=>exact ⟨c,r,rfl⟩
    rw [e0] at pm hc hrl⊢;refine iM okk pm λl' Ms=>?_;rw [jas,<-hrl,Nat.add_sub_cancel,hc] at Ms;cases Ms;exact Nm
   have st:=stepL _ key;left;exact xR (S5.dat (by walk_at "dats")) ⟨_,_,_,rfl,by rw [st];simp,rfl⟩
 ·rintro σ H5 cs ds ⟨x5,x6,x7,rfl,rfl,rfl⟩ S5
  rw [Qa,List.take_length] at S5;left;exact xD S5 k
abbrev Yz:Stmt:=top 33
theorem dA:FnScope ["path","others","purse","parts","part","other"] paS (zk Yz):=yR
theorem vD (B:Bl mg) (jt:Cal P w K mg base CX0 6 "parts_at" paT Wg) (F:Fun K "parts_within" "parts_within" Yz f fd):FnOk P w K mg base CX0 7 f fd paS UN:=by
 refine F.oo dA λH vs Q E hr nd0 h=>?_;obtain ⟨G,⟨a,Qs,e⟩,eG,hA,ok,k⟩:=h;obtain ⟨v1,v2,v3,rfl,al⟩:=XO hA;have S:Sta H G H [] [(zE a,v1),(.list (Qs.map zE),v2),(frD e,v3)]:=Sta.enter eG al;dsimp only at ok k;unfold yU at k;have few:=ok.few;have len:=ok.len;have part:=ok.part;walk_at "=ej3AceIιagab0ab2cab1cLwy4wy5Mfzйb3agab5ab4ccfiYab3c";left;rename_i pp H1 e1 S1;refine YQ (a:=a) (e:=e) (m:=700) (n:=700) S1 ‹_› ‹_› ok.p ok.ez (by decide) ok.e0 λr2 H2 e2 S2=>?_;left;generalize zh a e=ps at*;have S3:Sta H G H2 [(pp,[])] [(zO ps,r2),(.list (Qs.map zE),v2)]:=S2.dat (by walk_at "dats");refine tu (xs:=ps.map frD) (ys:=Qs.map zE) S3 ‹_› ‹_› λJ wk=>?_;refine Yd wk (λi σ cs ds=>∃(x4 x5:Option V),σ=[some v1,some v2,some v3,some (.ref pp),x4,x5]/\cs=[(pp,(((List.zipWith zh Qs ps).take i).flatten).map frD)]/\ds=[(zO ps,r2),(.list (Qs.map zE),v2)]) S3 ⟨none,none,rfl,rfl,rfl⟩ (λi σ cs ds h=>?_) ?_ ?_
 ·obtain ⟨_,_,_,_,rfl⟩:=h;exact ⟨.mem (by right),λ_ _ h=>h.tail, .mem (by right)⟩
 ·rintro i z u σ H4 cs ds hz ⟨x4,x5,rfl,rfl,rfl⟩ S4
  obtain ⟨z1,z2,h1,h2,rfl⟩:=Vz hz;obtain ⟨p,hp,rfl⟩:=zU h1;obtain ⟨Q',hQ,rfl⟩:=zU h2;have op:=part p (Qe hp);obtain ⟨oq,ql⟩:=ok.q Q' (Qe hQ);refine xX (xW S4 ‹_› λw4 w5 S5=>?_);left;refine YQ (a:=Q') (e:=p) (m:=700) (n:=700) S5 ‹_› ‹_› oq op.1 (by decide) op.2 λr6 H6 e6 S6=>?_;left;refine vm (ys:=(zh Q' p).map frD) S6 ‹_› ?_ λH7 S7=>?_
  ·rw [Qa,Qa];have l1:=Dp (ps:=ps) i λQ hQ c hc=>(ok.q Q hQ).2 c hc;have l2:=dZ (e:=p) ql;omega
  left;refine xR (S7.dat (by walk_at "dats")) ⟨_,_,rfl,?_,rfl⟩;rw [Tt,QC,hQ,hp]
  simp
 ·rintro σ H4 cs ds ⟨x4,x5,rfl,rfl,rfl⟩ S4
  rw [xS,Qa,Qa,Tc (by rw [QE];omega)] at S4;left;exact ZJ (by assumption) k ‹_›
abbrev jY:Stmt:=top 22
theorem AL:FnScope ["path","others","purses","place","other"] paZ (zk jY):=yR
theorem BW (B:Bl mg) (cJ:Cal P w K mg base CX0 2 "merged" paf ck) (wU:Cal P w K mg base CX0 5 "purses_reaching" paR pZ) (Eo:Cal P w K mg base CX0 7 "parts_within" paS UN) (F:Fun K "within" "within" jY f fd):FnOk P w K mg base CX0 8 f fd paZ VX:=by
 refine F.oo AL λH vs Q E hr nd0 h=>?_;obtain ⟨G,⟨a,Qs⟩,eG,hA,ok,k⟩:=h;obtain ⟨v1,v2,rfl,al⟩:=yT hA;have S:Sta H G H [] [(zE a,v1),(.list (Qs.map zE),v2)]:=Sta.enter eG al;dsimp only at ok k;have pl:=ok.pl;have few:=ok.few;walk_at "=e$2corner;1;Cb0u0Bh0eI#ab1cLwy3wy4Mfj2gab2agab0ab3aEcorner;1;Cb4u0Bh0ccfiEpurse,path,others;101;Cb2u0Bqab0agab1ab2ab0cc";left;refine yq (xs:=a.map zu) S ‹_› λJ wk=>?_;refine xF wk (λj=>frD ((λc:zg=>c.1) (a.getD j (0,[])))) (ys:=(zm a).map frD) (by unfold zm;rw [Qa,QR];exact zH (λc:zg=>frD c.1) (0,[]) a) S (λj x v=>λhx t1 S hd=>?_) λD H1 e1 S1=>?_
 ·obtain ⟨c,hc,rfl⟩:=zU hx;refine zF ⟨rfl,?_⟩;left;refine hd (by assumption) ?_;rw [yh hc];exact .mem (by right)
 have S2:=S1.freeze;clear S1;left;refine kF (xs:=Qs.map zE) S2 ‹_› λJ wk=>?_;refine Yd wk (λi σ cs ds=>∃(pp:Addr) (x3 x4:Option V),σ=[some v1,some v2,some (.ref pp),x3,x4]/\cs=[]/\ds=[(.list ((wpF a 0 (Qs.take i) (zm a)).map frD), .ref pp),(zE a,v1),(.list (Qs.map zE),v2)]) S2 ⟨D,none,none,rfl,rfl,rfl⟩ (λi σ cs ds h=>?_) ?_ ?_
 ·obtain ⟨_,_,_,_,_,rfl⟩:=h;exact .mem (by right)
 ·rintro i x u σ H3 cs ds hx ⟨pp,x3,x4,rfl,rfl,rfl⟩ S3
  obtain ⟨x0,Mi,rfl⟩:=XD hx;obtain ⟨Q',hQ,rfl⟩:=zU Mi;have RG:i<Qs.length:=(Qf.mp hQ).1;have ql:=ok.ql Q' (Qe hQ);refine xX (xW S3 ‹_› λw3 w4 S4=>?_);cases S4.int1;left;refine yq (xs:=Q'.map zu) S4 ‹_› λJ2 NK=>?_;refine xF NK (λj=>frD ((λc:zg=>c.1) (Q'.getD j (0,[])))) (ys:=(zm Q').map frD) (by unfold zm;rw [Qa,QR];exact zH (λc:zg=>frD c.1) (0,[]) Q') S4 (λj x v=>λhx t1 S hd=>?_) λD5 H5 e5 S5=>?_
  ·obtain ⟨c,hc,rfl⟩:=zU hx;refine zF ⟨rfl,?_⟩;left;refine hd (by assumption) ?_;rw [yh hc];exact .mem (by right)
  have S6:=S5.freeze;clear S5;left;refine EW (P:=a) (k:=i) (L:=zm Q') S6 ‹_› ‹_› (ok.reach hQ) λp7 H7 e7 S7=>?_;have S8:Sta H G H7 [] [(.list ((ZY a i Q').map frD), .ref p7),(.list ((wpF a 0 (Qs.take i) (zm a)).map frD), .ref pp),(zE a,v1),(.list (Qs.map zE),v2)]:=S7.freeze.dat (by walk_at "dats");clear S7;left;refine nK (p:=wpF a 0 (Qs.take i) (zm a)) (q:=ZY a i Q') (n:=700) S8 ‹_› ‹_› (λq hq=>(ok.szM _ (Ez hq)).1) (λq hq=>(ok.szM _ (ar.mpr (.inr ⟨i,Q',hQ,by rw [jbc];exact hq⟩))).1) (by decide) (by have:=ok.len i;omega) ?_ λpm H9 e9 S9=>?_
  ·unfold ZY;have:=jba (yS a i) (zm Q');have e:(zm Q').length=Q'.length:=by unfold zm;rw [Qa]
   omega
  left;have et:Qs.take (i+1)=Qs.take i++[Q']:=by rw [Tt,hQ];rfl
  have ew:wpF a 0 (Qs.take (i+1)) (zm a)=zK (wpF a 0 (Qs.take i) (zm a)) (ZY a i Q'):=by
   rw [et,sO,jbc,Tq,Nat.min_eq_left (by omega)]
  refine xR (S9.freeze.dat (ds':=[(.list ((zK (wpF a 0 (Qs.take i) (zm a)) (ZY a i Q')).map frD), .ref pm),(zE a,v1),(.list (Qs.map zE),v2)]) (by walk_at "dats")) ⟨pm,_,_,rfl,rfl,by rw [ew]⟩
 ·rintro σ H3 cs ds ⟨pp,x3,x4,rfl,rfl,rfl⟩ S3
  rw [xu,Qa,List.take_length] at S3;left;refine yq (xs:=(wpV a Qs).map frD) S3 ‹_› λJ2 NK=>?_;refine xB NK (λj=>zu ((λe:Rat=>(e,yU Qs (zh a e))) ((wpV a Qs).getD j 0))) (ys:=(yG a Qs).map zu) (by unfold yG;rw [Qa,QR];exact zH (λe:Rat=>zu (e,yU Qs (zh a e))) 0 (wpV a Qs)) S3 (λ_ _=> .mem (by right)) (by rw [Qa];have:=ok.lenV;omega) (λj x v B' G' Kd Kn hx t1 S hd C ex s0 H0=>?_) λD5 H5 e5 S5=>?_
  ·obtain ⟨e,he,rfl⟩:=zU hx;refine zF ⟨rfl,?_⟩;left;refine qD (P:=a) (Qs:=Qs) (e:=e) S ‹_› ‹_› ‹_› (ok.pw (Qe he)) λr6 H6 e6 S6=>?_;left;refine hd (by assumption) ?_;rw [yh he];exact .mem (by right)
  left;exact xD S5 k
abbrev US:Stmt:=top 39
theorem qi:FnScope paD paD (zk US):=yR
theorem Fp (F:Fun K "those_at" "those_at" US f fd):FnOk P w K mg base CX0 1 f fd paD cY:=by
 refine F.oo qi λH vs Q E hr nd0 h=>?_;obtain ⟨G,⟨l,pl⟩,eG,hA,⟨lt,few⟩,k⟩:=h;obtain ⟨v0,v1,rfl,al⟩:=yT hA;have S:Sta H G H [] [(zA l,v0),(plD pl,v1)]:=Sta.enter eG al;dsimp only at lt few k;walk_at "=fiEplace,claims;10;Cb1u0Brb1b0";left;refine yq (xs:=pl.map λ(i:Nat)=>PyData.int (i:Int)) S ‹_› λJ wk=>?_;refine xF wk (λj=>yc (l.getD (pl.getD j 0) (0,0,0))) (ys:=(VQ (0,0,0) pl l).map yc) (by unfold VQ;rw [Qa,QR];exact zH (λi:Nat=>yc (l.getD i (0,0,0))) 0 pl) S (λj x v=>λhx t1 S hd=>?_) λD H1 e1 S1=>?_
 ·obtain ⟨i,hi,rfl⟩:=zU hx;cases S.int1;have il:=lt i (Qe hi);have hc:=Qc il;refine zF ⟨rfl,?_⟩;left;refine yV (xs:=l.map yc) (x:=yc l[i]) S ‹_› (yC (by rw [Qi,hc];rfl)) λw2 S2=>?_;refine hd S2 ?_;rw [yh hi,yh hc];exact .mem (by right)
 exact xD S1 k
abbrev Zz:Stmt:=top 40
theorem UR:FnScope paP paP (zk Zz):=yR
theorem Cf (B:Bl mg) (F:Fun K "places_of_rank" "places_of_rank" Zz f fd):FnOk P w K mg base CX0 1 f fd paP (Xl zY):=by
 refine F.oo UR λH vs Q E hr nd0 h=>?_;obtain ⟨G,⟨l,g⟩,eG,hA,few,k⟩:=h;obtain ⟨v0,v1,rfl,al⟩:=yT hA;have S0:Sta H G H [] [(.int g,v1),(zA l,v0)]:=(Sta.enter eG al).dat (by walk_at "dats");cases S0.int1;have S:Sta H G H [] [(zA l,v0)]:=S0.dat (by walk_at "dats");dsimp only at few k;walk_at "=fiEplace,claim,rank;21;#ab0cLwu0wu1M.osmh1b2kb0";left;refine kF (xs:=l.map yc) S ‹_› λJ wk=>?_;refine lH wk (λj=>if zY g (l.getD j (0,0,0)) then some (.int (j:Int)) else none) S (λ_ _=> .mem (by right)) (by rw [xu,Qa];omega) (λi x v B' G' Kd Kn hx t1 S hd hn C ex s0 H0=>?_) λD H1 e1 S1=>?_
 ·obtain ⟨x0,Mi,rfl⟩:=XD hx;obtain ⟨c,hc,rfl⟩:=zU Mi;refine xX (xW S ‹_› λu1 u2 S2=>?_);cases S2.int1;refine xI (zF (xI (zF (ah ⟨rfl,?_⟩))));rw [yh hc] at hd hn;left;refine yJ (λz=>?_) (λz=>?_)
  ·left;exact hd (QH (QQ z)) S2 Has.int
  ·exact hn (QP λy=>z (QG y)) S2
 rw [xu,Qa,nS] at S1;exact xD S1 k
abbrev Zh:Stmt:=top 41
theorem Ue:FnScope paj paj (zk Zh):=yR
theorem vF (B:Bl mg) (F:Fun K "places_of_group" "places_of_group" Zh f fd):FnOk P w K mg base CX0 1 f fd paj (Xl zI):=by
 refine F.oo Ue λH vs Q E hr nd0 h=>?_;obtain ⟨G,⟨l,g⟩,eG,hA,few,k⟩:=h;obtain ⟨v0,v1,rfl,al⟩:=yT hA;have S0:Sta H G H [] [(.int g,v1),(zA l,v0)]:=(Sta.enter eG al).dat (by walk_at "dats");cases S0.int1;have S:Sta H G H [] [(zA l,v0)]:=S0.dat (by walk_at "dats");dsimp only at few k;walk_at "=fiEplace,claim,group;21;#ab0cLwu0wu1M.osmh1b2kb0";left;refine kF (xs:=l.map yc) S ‹_› λJ wk=>?_;refine lH wk (λj=>if zI g (l.getD j (0,0,0)) then some (.int (j:Int)) else none) S (λ_ _=> .mem (by right)) (by rw [xu,Qa];omega) (λi x v B' G' Kd Kn hx t1 S hd hn C ex s0 H0=>?_) λD H1 e1 S1=>?_
 ·obtain ⟨x0,Mi,rfl⟩:=XD hx;obtain ⟨c,hc,rfl⟩:=zU Mi;refine xX (xW S ‹_› λu1 u2 S2=>?_);cases S2.int1;refine xI (zF (xI (zF (ah ⟨rfl,?_⟩))));rw [yh hc] at hd hn;left;refine yJ (λz=>?_) (λz=>?_)
  ·left;exact hd (QH (QQ z)) S2 Has.int
  ·exact hn (QP λy=>z (QG y)) S2
 rw [xu,Qa,nS] at S1;exact xD S1 k
abbrev YD:Stmt:=top 42
theorem dE:FnScope paj paj (zk YD):=yR
theorem ok_one (B:Bl mg) (F:Fun K "as_one_claim" "as_one_claim" YD f fd):FnOk P w K mg base CX0 1 f fd paj EI:=by
 refine F.oo dE λH vs Q E hr nd0 h=>?_;obtain ⟨G,⟨l,g⟩,eG,hA,⟨pos,few⟩,k⟩:=h;obtain ⟨v0,v1,rfl,al⟩:=yT hA;have S0:Sta H G H [] [(.int g,v1),(zA l,v0)]:=(Sta.enter eG al).dat (by walk_at "dats");cases S0.int1;have S:Sta H G H [] [(zA l,v0)]:=S0.dat (by walk_at "dats");dsimp only at pos few k;walk_at "=fiqa^~aEclaim;1;Cb0u0Bh0caклaEclaim;1;Cb0u0Bh0cab1c";left;refine yq (xs:=l.map yc) S ‹_› λJ wk=>?_;refine xF wk (λj=> .int (l.getD j (0,0,0)).1) (ys:=(amV l).map PyData.int) (by unfold amV;rw [Qa,QR];exact zH (λc:Cl=>PyData.int c.1) (0,0,0) l) S (λj x v=>λhx t1 S hd=>?_) λD H1 e1 S1=>?_
 ·obtain ⟨c,hc,rfl⟩:=zU hx;refine zF ⟨rfl,?_⟩;left;refine hd (by assumption) ?_;rw [yh hc];exact Has.int
 left;have S2:Sta H G H1 [] [(zA l,v0)]:=S1.dropC;clear S1;refine yq (xs:=l.map yc) S2 ‹_› λJ wk=>?_;refine xF wk (λj=> .int (l.getD j (0,0,0)).2.1) (ys:=(l.map (·.2.1)).map PyData.int) (by rw [Qa,QR];exact zH (λc:Cl=>PyData.int c.2.1) (0,0,0) l) S2 (λj x v=>λhx t1 S hd=>?_) λD3 H3 e3 S3=>?_
 ·obtain ⟨c,hc,rfl⟩:=zU hx;refine zF ⟨rfl,?_⟩;left;refine hd (by assumption) ?_;rw [yh hc];exact Has.int
 left;refine Jg (ns:=l.map (·.2.1)) S3 (by right) (by rw [Qa];exact pos) λm hm low=>?_;have em:m=vN (l.map (·.2.1)):=JM hm low;subst em;left;exact ZJ (by assumption) k ‹_›
abbrev Yx:Stmt:=top 54
theorem dv:FnScope ["parts","places","count","wide","part","place"] paN (zk Yx):=yR
theorem vB (B:Bl mg) (F:Fun K "spread_parts" "spread_parts" Yx f fd):FnOk P w K mg base CX0 1 f fd paN dd:=by
 refine F.oo dv λH vs Q E hr nd0 h=>?_;obtain ⟨G,⟨x,pl,n⟩,eG,hA,ok,k⟩:=h;obtain ⟨v0,v1,v2,rfl,al⟩:=XO hA;have S0:Sta H G H [] [(.int (n:Int),v2),(zO x,v0),(plD pl,v1)]:=(Sta.enter eG al).dat (by walk_at "dats");cases S0.int1;have S:Sta H G H [] [(zO x,v0),(plD pl,v1)]:=S0.dat (by walk_at "dats");dsimp only at ok k;have few:=ok.few;walk_at "=ej3θAaqadadccb2eIιab0ab1cLwy4wy5Mf)b4мb3b5fiYab3c";left;rename_i q1 H1 e1 S1 q2 H2 e2 S2;refine Jd (n:=n) S2 (by right) (by omega) λq3 H3 e3 S3=>?_;left
 have ez:List.replicate n (PyData.tuple [.int 0, .int 1])=(xH ((x.zip pl).take 0) (List.replicate n 0)).map frD:=by
  rw [List.take_zero,xH,jbl];rfl
 rw [ez] at S3;have S4:Sta H G H3 [(q3,(xH ((x.zip pl).take 0) (List.replicate n 0)).map frD)] [(zO x,v0),(plD pl,v1)]:=S3.weak (by walk_at "sub") (by walk_at "dats");clear S3 S2 S1;refine tu (xs:=x.map frD) (ys:=pl.map λ(i:Nat)=>PyData.int (i:Int)) S4 ‹_› ‹_› λJ wk=>?_;refine Yd wk (λi σ cs ds=>∃(x4 x5:Option V),σ=[some v0,some v1,some (.int (n:Int)),some (.ref q3),x4,x5]/\cs=[(q3,(xH ((x.zip pl).take i) (List.replicate n 0)).map frD)]/\ds=[(zO x,v0),(plD pl,v1)]) S4 ⟨none,none,rfl,rfl,rfl⟩ (λi σ cs ds h=>?_) ?_ ?_
 ·obtain ⟨_,_,_,_,rfl⟩:=h;exact ⟨.mem (by right),λ_ _ h=>h.tail, .mem (by right)⟩
 ·rintro i z u σ H5 cs ds hz ⟨x4,x5,rfl,rfl,rfl⟩ S5
  obtain ⟨z1,z2,h1,h2,rfl⟩:=Vz hz;obtain ⟨p,hp,rfl⟩:=zU h1;obtain ⟨j,hj,rfl⟩:=zU h2;have jl:=ok.pls.lt j (Qe hj);refine xX (xW S5 ‹_› λw4 w5 S6=>?_);have S7:Sta H G H5 [(q3,(xH ((x.zip pl).take i) (List.replicate n 0)).map frD)] [(.int (j:Int),w5),(frD p,w4),(zO x,v0),(plD pl,v1)]:=S6.dat (by walk_at "dats");cases S7.int1;left;refine Jc (j:=j) (y:=frD p) S7 ‹_› (JW (by rw [Qa,UP,QB];exact jl)) λH8 S8=>?_;left;refine xR (S8.dat (by walk_at "dats")) ⟨_,_,rfl,?_,rfl⟩;have Ou:(x.zip pl)[i]? =some (p,j):=by rw [Tg];exact ⟨hp,hj⟩
  rw [Tt,Ou];show [(q3,_)]=[(q3,(xH ((x.zip pl).take i++[(p,j)]) (List.replicate n 0)).map frD)];rw [dk,List.map_set]
 ·rintro σ H5 cs ds ⟨x4,x5,rfl,rfl,rfl⟩ S5
  rw [xS,Qa,Qa,Tc (by rw [List.length_zip];exact Qp _)] at S5;left;exact ZJ (by assumption) k ‹_›
abbrev kd:Stmt:=top 53
theorem AN:FnScope pao pao (zk kd):=yR
theorem BZ (En:Cal P w K mg base CX0 1 "spread_parts" paN dd) (F:Fun K "spread" "spread" kd f fd):FnOk P w K mg base CX0 2 f fd pao VY:=by
 refine F.oo AN λH vs Q E hr nd0 h=>?_;obtain ⟨G,⟨x,pl,n⟩,eG,hA,⟨ok,few⟩,k⟩:=h;obtain ⟨v0,v1,v2,rfl,al⟩:=XO hA;have S0:Sta H G H [] [(.int (n:Int),v2),(zE x,v0),(plD pl,v1)]:=(Sta.enter eG al).dat (by walk_at "dats");cases S0.int1;have S:Sta H G H [] [(zE x,v0),(plD pl,v1)]:=S0.dat (by walk_at "dats");dsimp only at ok few k;walk_at "=fiEcorner,places,count;112;Cb0u0Bqah0agah0ab1ab2cc";left;refine yq (xs:=x.map zu) S ‹_› λJ wk=>?_;refine xB wk (λj=>zu (Yu pl n (x.getD j (0,[])))) (ys:=(ym pl n x).map zu) (by unfold ym;rw [Qa,QR];exact zH (λc:zg=>zu (Yu pl n c)) (0,[]) x) S (λ_ _=> .mem (by right)) (by rw [Qa];omega) (λj x' v B' G' Kd Kn hx t1 S hd C ex s0 H0=>?_) λD H1 e1 S1=>?_
 ·obtain ⟨c,hc,rfl⟩:=zU hx;refine zF ⟨rfl,?_⟩;left;refine vj (x:=c.2) (pl:=pl) (n:=n) (by assumption) ‹_› ‹_› (ok c (Qe hc)) λw3 H3 e3 S3=>?_;left;refine hd (by assumption) ?_;rw [yh hc];exact .mem (by right)
 exact xD S1 k
section
variable {A:RAd} {t:Nat}
abbrev kh:Stmt:=top 48
theorem ES:FnScope ["inner","claims","path","rank","places","paid"] paY (zk kh):=yR
theorem Ce {n:Nat} (B:Bl mg) (B2:Bl3 mg) (Xi:Cal P w K mg base CX0 2 "nothing" ["count"] Wh) (XU:Cal P w K mg base CX0 1 "places_of_rank" paP (Xl zY)) (Vf:Cal P w K mg base CX0 1 "those_at" paD cY) (XH:Cal P w K mg base CX0 (2*n+8) "course" paz (YK t n)) (cI:Cal P w K mg base CX0 2 "spread" pao VY) (Vg:Cal P w K mg base CX0 5 "behind" paq Ua) (F:Fun K "ranks" "ranks" kh f fd):FnOk P w K mg base CX0 (2*n+9) f fd paY (jK t n):=by
 refine F.oo ES λH vs Q E hr nd0 h=>?_;obtain ⟨G,⟨r,l⟩,eG,hA,⟨⟨ru,hd⟩,ok⟩,k⟩:=h;obtain ⟨v0,v1,rfl,al⟩:=yT hA;have S:Sta H G H [] [(r.shape,v0),(zA l,v1)]:=Sta.enter eG al;dsimp only at ru hd ok k;have few:=ok.few;walk_at "=ej2gaDab1cceICκEclaim;1;Cb1u0Bh0y3ej4gab1ab3cej5gab0agab1ab4ccfj2gab2agab5ab4aDab1cccfib2";left;rw [Qa];refine ag S few λp1 H1 e1 S1=>?_;have ez:[yp (XW l.length)]=rkP r l 0:=by rw [cO];rfl
 rw [ez] at S1;left;refine yq (xs:=l.map yc) S1 ‹_› λJ wk=>?_;refine xF wk (λj=> .int (l.getD j (0,0,0)).2.1) (ys:=(l.map (·.2.1)).map PyData.int) (by rw [Qa,QR];exact zH (λc:Cl=>PyData.int c.2.1) (0,0,0) l) S1 (λj x v=>λhx t1 S hd=>?_) λD2 H2 e2 S2=>?_
 ·obtain ⟨c,hc,rfl⟩:=zU hx;refine zF ⟨rfl,?_⟩;left;refine hd (by assumption) ?_;rw [yh hc];exact Has.int
 refine dM S2 (by right) (by rw [Qa];omega) λos l3 H3 h1 h2 e3 S3=>?_;have eo:os=zS l:=Wi h1 (yF l).1 λz=>by rw [h2,(yF l).2]
 subst eo;have S4:Sta H G H3 [(p1,(rkP r l 0).map zu)] [(.list ((zS l).map PyData.int), .ref l3),(r.shape,v0),(zA l,v1)]:=S3.freeze.weak (by walk_at "sub") (by walk_at "dats");clear S1 S2 S3;left;refine yq (xs:=(zS l).map PyData.int) S4 ‹_› λJ wk=>?_;refine Yd wk (λi σ cs ds=>∃(pp:Addr) (x3 x4 x5:Option V),σ=[some v0,some v1,some (.ref pp),x3,x4,x5]/\cs=[(pp,(rkP r l i).map zu)]/\ds=[(.list ((zS l).map PyData.int), .ref l3),(r.shape,v0),(zA l,v1)]) S4 ⟨p1,none,none,none,rfl,rfl,rfl⟩ (λi σ cs ds h=>?_) ?_ ?_
 ·obtain ⟨_,_,_,_,_,_,rfl⟩:=h;exact .mem (by right)
 ·rintro i x u σ H5 cs ds hx ⟨pp,x3,x4,x5,rfl,rfl,rfl⟩ S5
  obtain ⟨kk,hk,rfl⟩:=zU hx;cases S5.int1;have okk:=ok.filter (zY kk) (dN (Qe hk));obtain ⟨b1,b2,b3⟩:=Bh ru ok hk;have pk:=Vl (zY kk) l;have lk:=YE (zY kk) l;have fk:=okk.few;have gk:=(ru.gf okk).ful.std;have fw:=ru.few okk;left;refine nG (p:=zY) (l:=l) (g:=kk) S5 ‹_› few λp6 H6 e6 S6=>?_;have S7:=S6.freeze;left;refine kC (l:=l) (pl:=xx (zY kk) l) S7 ‹_› ‹_› pk.lt (by omega) λp8 H8 e8 S8=>?_;rw [<-WG] at S8;have S9:=S8.freeze;left;refine Zo (r:=r) (l:=l.filter (zY kk)) S9 ‹_› ‹_› ru hd okk λp10 Nq e10 Mr=>?_;have MC:=Mr.freeze;left;rw [Qa];refine nA (x:=zo r (l.filter (zY kk))) (pl:=xx (zY kk) l) (n:=l.length) MC ‹_› ‹_› (λc hc=>⟨pk,by rw [(gk.ok c hc).1,lk],few⟩) (by omega) λPf Rn e12 MP=>?_;have MO:Sta H G Rn [(pp,(rkP r l i).map zu)] [(zE (ym (xx (zY kk) l) l.length (zo r (l.filter (zY kk)))), .ref Pf),(.list ((zS l).map PyData.int), .ref l3),(r.shape,v0),(zA l,v1)]:=MP.freeze.dat (by walk_at "dats");have Nh:=MO.freeze;clear S6 S7 S8 S9 Mr MC MP MO;left;refine nN (a:=rkP r l i) (b:=ym (xx (zY kk) l) l.length (zo r (l.filter (zY kk)))) Nh ‹_› ‹_› b1 b2 b3 λp15 H15 e15 Ol=>?_;left;refine xR (Ol.dat (ds':=[(.list ((zS l).map PyData.int), .ref l3),(r.shape,v0),(zA l,v1)]) (by walk_at "dats")) ⟨p15,_,_,_,rfl,?_,rfl⟩;rw [EU hk];rfl
 ·rintro σ H5 cs ds ⟨pp,x3,x4,x5,rfl,rfl,rfl⟩ S5
  rw [Qa,IX] at S5;left;exact xD S5 k
abbrev cv:Stmt:=top 49
theorem AX:FnScope ["outer","inner","claims","sums","others","places","group","members"] paF (zk cv):=yR
theorem vI {n:Nat} (B:Bl mg) (B2:Bl3 mg) (Xh:Cal P w K mg base CX0 1 "places_of_group" paj (Xl zI)) (Vf:Cal P w K mg base CX0 1 "those_at" paD cY) (Vy:Cal P w K mg base CX0 1 "as_one_claim" paj EI) (XH:Cal P w K mg base CX0 (2*n+8) "course" paz (YK t n)) (cI:Cal P w K mg base CX0 2 "spread" pao VY) (cG:Cal P w K mg base CX0 8 "within" paZ VX) (F:Fun K "groups" "groups" cv f fd):FnOk P w K mg base CX0 (2*n+9) f fd paF (df t n):=by
 refine F.oo AX λH vs Q E hr nd0 h=>?_;obtain ⟨G,⟨⟨a,b⟩,l⟩,eG,hA,⟨⟨ru,da,db⟩,ok⟩,k⟩:=h;obtain ⟨v0,v1,v2,rfl,al⟩:=XO hA;have S:Sta H G H [] [(a.shape,v0),(b.shape,v1),(zA l,v2)]:=Sta.enter eG al;dsimp only at ru da db ok k;obtain ⟨ra,rb⟩:=ru.groups;have few:=ok.few;have gfew:=WX l;walk_at "=ej3Acej4Acej5AceICκEclaim;1;Cb2u0Bh0y6ej7gab2ab6cez2b3agagab2ab7cab6ccez2b4agab1agab2ab7cccfzнb5ab7cfigagagab0ab3cab4cab5aDab2cc";left;rename_i p1 H1 e1 S1 p2 H2 e2 S2 p3 H3 e3 S3;refine yq (xs:=l.map yc) S3 ‹_› λJ wk=>?_;refine xF wk (λj=> .int (l.getD j (0,0,0)).2.2) (ys:=(l.map (·.2.2)).map PyData.int) (by rw [Qa,QR];exact zH (λc:Cl=>PyData.int c.2.2) (0,0,0) l) S3 (λj x v=>λhx t1 S hd=>?_) λD4 H4 e4 S4=>?_
 ·obtain ⟨c,hc,rfl⟩:=zU hx;refine zF ⟨rfl,?_⟩;left;refine hd (by assumption) ?_;rw [yh hc];exact Has.int
 refine dM S4 (by right) (by rw [Qa];omega) λos l5 H5 h1 h2 e5 S5=>?_;have eo:os=zG l:=Wi h1 (yn l).1 λz=>by rw [h2,(yn l).2]
 subst eo;have S6:Sta H G H5 [(p3,((mw l).take 0).flatten.map λ(i:Nat)=>PyData.int (i:Int)),(p2,((zQ (λl=>zo b l) l).take 0).map zE),(p1,((zM l).take 0).map yc)] [(.list ((zG l).map PyData.int), .ref l5),(a.shape,v0),(b.shape,v1),(zA l,v2)]:=S5.freeze.weak (by walk_at "sub") (by walk_at "dats");clear S1 S2 S3 S4 S5;left;refine yq (xs:=(zG l).map PyData.int) S6 ‹_› λJ wk=>?_;refine Yd wk (λi σ cs ds=>∃(x6 x7:Option V),σ=[some v0,some v1,some v2,some (.ref p1),some (.ref p2),some (.ref p3),x6,x7]/\cs=[(p3,((mw l).take i).flatten.map λ(i:Nat)=>PyData.int (i:Int)),(p2,((zQ (λl=>zo b l) l).take i).map zE),(p1,((zM l).take i).map yc)]/\ds=[(.list ((zG l).map PyData.int), .ref l5),(a.shape,v0),(b.shape,v1),(zA l,v2)]) S6 ⟨none,none,rfl,rfl,rfl⟩ (λi σ cs ds h=>?_) ?_ ?_
 ·obtain ⟨_,_,_,_,rfl⟩:=h;exact .mem (by right)
 ·rintro i x u σ H7 cs ds hx ⟨x6,x7,rfl,rfl,rfl⟩ S7
  obtain ⟨g,hg,rfl⟩:=zU hx;cases S7.int1;have gl:=(Qf.mp hg).1;have okg:=ok.filter (zI g) (WW (Qe hg));have pk:=Vl (zI g) l;have lk:=YE (zI g) l;have fk:=okg.few
  have t1:(zM l).take (i+1)=(zM l).take i++[Jv g (l.filter (zI g))]:=by
   rw [Tt];unfold zM;rw [Qi,hg];rfl
  have t2:(zQ (λl=>zo b l) l).take (i+1)=(zQ (λl=>zo b l) l).take i++[zo b (l.filter (zI g))]:=by
   rw [Tt];unfold zQ;rw [Qi,hg];rfl
  have t3:((mw l).take (i+1)).flatten=((mw l).take i).flatten++xx (zI g) l:=by
   rw [Tt,List.flatten_append];unfold mw;rw [Qi,hg];show _++(xx (zI g) l++[])=_;rw [jaC]
  have fl:((mw l).take i).flatten.length<=64:=by
   have:∀L∈(mw l).take i,L.length<=8:=λL hL=>by
    obtain ⟨g',OP,rfl⟩:=Qj.mp (List.mem_of_mem_take hL);rw [YE];exact QI (List.length_filter_le _ _) few
   have h1:=oF this;have h2:((mw l).take i).length<=8:=by rw [Tq];unfold mw;rw [Qa];omega
   omega
  left;refine nG (p:=zI) (l:=l) (g:=g) S7 ‹_› few λp8 H8 e8 S8=>?_;have S9:=S8.freeze;left;refine kC (l:=l) (pl:=xx (zI g) l) S9 ‹_› ‹_› pk.lt (by omega) λp10 Nq e10 Mr=>?_;rw [<-WG] at Mr;have MC:=Mr.freeze;left;refine rd_one (l:=l.filter (zI g)) (g:=g) MC ‹_› okg.pos fk λq12 Rn e12 MP=>?_;have MO:Sta H G Rn [(p1,((zM l).take i).map yc),(p3,((mw l).take i).flatten.map λ(i:Nat)=>PyData.int (i:Int)),(p2,((zQ (λl=>zo b l) l).take i).map zE)] [(yc (Jv g (l.filter (zI g))),q12),(plD (xx (zI g) l), .ref p8),(.list ((zG l).map PyData.int), .ref l5),(a.shape,v0),(b.shape,v1),(zA l,v2)]:=(MP.dat (by walk_at "dats")).rot3;left;refine xh (y:=yc (Jv g (l.filter (zI g)))) MO ‹_› (by rw [Qa,Tq];unfold zM;rw [Qa];omega) λOX Nh=>?_;left;refine kC (l:=l) (pl:=xx (zI g) l) Nh ‹_› ‹_› pk.lt (by omega) λp15 H15 e15 Ol=>?_;rw [<-WG] at Ol;have Rm:=Ol.freeze;left;refine Zo (r:=b) (l:=l.filter (zI g)) Rm ‹_› ‹_› rb db okg λNk H17 e17 Rj=>?_;have S18:=Rj.freeze.rot3;clear S8 S9 Mr MC MP MO Nh Ol Rm Rj;left;refine xh (y:=zE (zo b (l.filter (zI g)))) S18 ‹_› (by rw [Qa,Tq];unfold zQ;rw [Qa];omega) λH19 S19=>?_;have MN:=S19.rot3;left;refine vo (ys:=(xx (zI g) l).map λ(i:Nat)=>PyData.int (i:Int)) MN ‹_› (by rw [Qa,Qa];omega) λH21 S21=>?_;left;refine xR (S21.dat (ds':=[(.list ((zG l).map PyData.int), .ref l5),(a.shape,v0),(b.shape,v1),(zA l,v2)]) (by walk_at "dats")) ⟨_,_,rfl,?_,rfl⟩;rw [t1,t2,t3,QO,QO,QO];rfl
 ·rintro σ H7 cs ds ⟨x6,x7,rfl,rfl,rfl⟩ S7
  have e1:(zM l).take (zG l).length=zM l:=Tc (by rw [Zt];exact Qp _);have e2:(zQ (λl=>zo b l) l).take (zG l).length=zQ (λl=>zo b l) l:=Tc (by rw [ZR];exact Qp _);have e3:(mw l).take (zG l).length=mw l:=Tc (by unfold mw;rw [Qa];exact Qp _);rw [Qa,e1,e2,e3] at S7;have S8:Sta H G H7 [] [(zA (zM l), .ref p1),(.list ((zQ (λl=>zo b l) l).map zE), .ref p2),(plD (wZ l), .ref p3),(a.shape,v0),(zA l,v2)]:=S7.freeze.freeze.freeze.dat (by walk_at "dats");clear S7;obtain ⟨g1,g2⟩:=Df ru ok;left;refine Zo (r:=a) (l:=zM l) S8 ‹_› ‹_› ra da ok.sums λp9 H9 e9 S9=>?_;left;refine vh (P:=zo a (zM l)) (Qs:=zQ (λl=>zo b l) l) S9.freeze ‹_› ‹_› (Dd ru ok) λp10 Nq e10 Mr=>?_;left;rw [Qa];refine nA (x:=yG (zo a (zM l)) (zQ (λl=>zo b l) l)) (pl:=wZ l) (n:=l.length) Mr.freeze ‹_› ‹_› g1 g2 λp11 OL OU MC=>?_;exact xD MC k
theorem vK (B:Bl mg) (B2:Bl3 mg) (uO:Cal P w K mg base CX0 3 "shares" pan (bB 0)) (cK:Cal P w K mg base CX0 2 "evenly" pan (bB 1)) (uR:Cal P w K mg base CX0 6 "losses" pan (bB 2)) (Iw:Cal P w K mg base CX0 6 "upto" paE AB) (cH:Cal P w K mg base CX0 5 "turned" ["path"] cg)
 (Xi:Cal P w K mg base CX0 2 "nothing" ["count"] Wh) (XU:Cal P w K mg base CX0 1 "places_of_rank" paP (Xl zY)) (Xh:Cal P w K mg base CX0 1 "places_of_group" paj (Xl zI)) (Vf:Cal P w K mg base CX0 1 "those_at" paD cY) (Vy:Cal P w K mg base CX0 1 "as_one_claim" paj EI) (cI:Cal P w K mg base CX0 2 "spread" pao VY) (Vg:Cal P w K mg base CX0 5 "behind" paq Ua) (cG:Cal P w K mg base CX0 8 "within" paZ VX)
 {fr fg:Addr} {fdr fdg:FuncData} (Fr:Fun K "ranks" "ranks" kh fr fdr) (hmr:mg "ranks"=some (.ref fr)) (br:yD K fdr paY []) (Fg:Fun K "groups" "groups" cv fg fdg) (MA:mg "groups"=some (.ref fg)) (bg:yD K fdg paF [])
 (F:Fun K "course" "course" kv f fd) (hm:mg "course"=some (.ref f)) (b:yD K fd paz []):∀n:Nat,FnOk P w K mg base CX0 (2*n+8) f fd paz (YK t n):=by
 intro n
 induction n with
 |zero=>
  refine F.ok dD (λvs H Q E h=>?_) (λLV A outer s H vs Q E hr h=>?_)
  ·obtain ⟨G,a,_,h,_⟩:=h;rw [<-h.len];rfl
  obtain ⟨G,⟨r,l⟩,_,_,⟨⟨_,hd⟩,_⟩,_⟩:=h;exact absurd hd (by cases r<;>simp [Rl.deep])
 |succ n ih=>
  have XH:Cal P w K mg base CX0 (2*n+8) "course" paz (YK t n):=fF F ih hm b;have LP:Cal P w K mg base CX0 (2*n+9) "ranks" paY (jK t n):=fF Fr (Ce B B2 Xi XU Vf XH cI Vg Fr) hmr br;have LG:Cal P w K mg base CX0 (2*n+9) "groups" paF (df t n):=fF Fg (vI B B2 Xh Vf Vy XH cI cG Fg) MA bg;refine F.ok dD (λvs H Q E h=>?_) (λLV A outer s H vs Q E hr h=>?_)
  ·obtain ⟨G,a,_,h,_⟩:=h;rw [<-h.len];rfl
  obtain ⟨G,⟨r,l⟩,eG,hA,⟨⟨ru,hd⟩,Mc⟩,k⟩:=h;obtain ⟨v0,v1,rfl,al⟩:=yT hA;have S:Sta H G H [] _:=Sta.enter eG al;dsimp only at ru hd Mc k S;have ok:=Mc.ok ru.ht;have nd0:=dD.nd;walk_at "=ej2h0elosmb2pkfigab1cnelosmb2pkfigab1cnelosmb2pkfigab1cnelosmb2pkfigaqadadcagab1cagab1ccnelosmb2pkfigagah0ab1ccnelosmb2pkfigah0ab1cnelosmb2pkfigah0ah0ab1cnfigah0agah0ab1cagah0ab1cc"
  cases r with
  |shares=>
   simp only [Rl.shape] at S;left;refine ai (n:=0) S ‹_› ok λp1 H1 e1 S1=>?_;exact xD S1 k
  |evenly=>
   simp only [Rl.shape] at S;left;refine ai (n:=1) S ‹_› ok λp1 H1 e1 S1=>?_;exact xD S1 k
  |losses=>
   simp only [Rl.shape] at S;left;refine ai (n:=2) S ‹_› ok λp1 H1 e1 S1=>?_;exact xD S1 k
  |halves=>
   simp only [Rl.shape] at S;left;rename_i p0 H0 e0 S0
   have eh:PyData.tuple [.int 1, .int 2]=frD (1 / 2):=by
    unfold frD;rw [show ((1:Rat) / 2).num=1 by decide+kernel,show ((1:Rat) / 2).den=2 by decide+kernel];rfl
   rw [eh] at S0;refine ai (n:=1) S0 ‹_› ok λp1 H1 e1 S1=>?_;have S2:=S1.freeze;left;refine ai (n:=2) S2 ‹_› ok λp3 H3 e3 S3=>?_;have S4:=S3.freeze;left;refine Bn (p:=1 / 2) (a:=flV 1 l) (b:=flV 2 l) S4 ‹_› ‹_› ‹_› (up_ok ok) λp5 H5 e5 S5=>?_;rw [Al] at S5;exact xD S5 k
  |other r=>
   simp only [Rl.shape] at S;left;rename_i w1 S1;refine Zo (r:=r) S1 ‹_› ‹_› ru.other (by simp only [Rl.deep] at hd;omega) Mc λp2 H2 e2 S2=>?_;left;refine ny (a:=zo r l) S2.freeze ‹_› (ru.other.inn Mc) λp3 H3 e3 S3=>?_;exact xD S3 k
  |upto t b x y=>
   obtain ⟨px,py⟩:=ru.upto;have dx:x.deep<=n:=by simp only [Rl.deep] at hd;omega
   have dy:y.deep<=n:=by simp only [Rl.deep] at hd;omega
   have hp:PyData.tuple [.int t, .int b]=frD (Rat.divInt t b):=Ff ru.pok.1;simp only [Rl.shape] at S;rw [hp] at S;left;rename_i w1 S1 w2 S2;refine Zo (r:=x) S2 ‹_› ‹_› px dx Mc λp3 H3 e3 S3=>?_;have S4:=S3.freeze;left;rename_i w5 S5;refine Zo (r:=y) S5 ‹_› ‹_› py dy Mc λp6 H6 e6 S6=>?_;have S7:=S6.freeze;left;refine Bn (p:=Rat.divInt t b) (a:=zo x l) (b:=zo y l) S7 ‹_› ‹_› ‹_› (ru.up Mc) λp8 H8 e8 S8=>?_;exact xD S8 k
  |ranks r=>
   simp only [Rl.shape] at S;left;rename_i w1 S1;refine Br (r:=r) S1 ‹_› ‹_› ru.ranks (by simp only [Rl.deep] at hd;omega) Mc λp2 H2 e2 S2=>?_;exact xD S2 k
  |groups a b=>
   simp only [Rl.shape] at S;left;rename_i w1 S1 w2 S2;refine vk (a:=a) (b:=b) S2 ‹_› ‹_› ‹_› ru (by simp only [Rl.deep] at hd;omega) (by simp only [Rl.deep] at hd;omega) Mc λp3 H3 e3 S3=>?_;exact xD S3 k
theorem Fz {fS fT Ru:Addr} {n:Nat} (LY:∀r:Rl,ROk K fS fT Ru (A.cls r)) (Er:Cal P w K mg base CX0 1 "check_claims" pan qf) (XH:Cal P w K mg base CX0 (2*n+8) "course" paz (YK t n)) (F:Fun K "path" "Rule.path" VO f fd):FnOk P w K mg base CX0 (2*n+9) f fd paC (jL A t n):=by
 refine F.oo nk λH vs Q E hr nd0 h=>?_;obtain ⟨G,⟨r,l⟩,eG,hA,⟨⟨pl,hn⟩,Mc⟩,k⟩:=h;obtain ⟨v0,v1,rfl,al⟩:=yT hA;have S:Sta H G H [] _:=Sta.enter eG al;dsimp only at pl hn Mc k S;have ok:=Mc.ok pl.ht;walk_at "=ezgab1cfiga!b0ab1c";left;refine Fc S ‹_› ok λH1 e1 S1=>?_;left;refine By S1 ‹_› (LY r) λw2 S2=>?_;left;refine Zo S2 ‹_› ‹_› pl hn Mc λp3 H3 e3 S3=>?_;exact xD S3 k
end
section
variable {A:RAd} {t:Nat}
theorem Cg {fS fT Ru fP:Addr} {fdP:FuncData} {n:Nat} (LY:∀r:Rl,ROk K fS fT Ru (A.cls r)) (NF:∀r:Rl,Meth K (A.cls r) "path" fP) (VU:FnOk P w K mg base CX0 (2*n+9) fP fdP paC (jL A t n)) (XG:yD K fdP paC []) (jt:Cal P w K mg base CX0 6 "parts_at" paT Wg) (F:Fun K "parts" "Rule.parts" Ws f fd):FnOk P w K mg base CX0 (2*n+10) f fd pax (jM A t n):=by
 refine F.oo jX λH vs Q E hr nd0 h=>?_;obtain ⟨G,⟨r,l,e⟩,eG,hA,⟨⟨⟨pl,hn⟩,Mc⟩,ze,e0⟩,k⟩:=h;obtain ⟨v0,v1,v2,rfl,al⟩:=XO hA;have S:Sta H G H [] _:=Sta.enter eG al;dsimp only at pl hn Mc ze e0 k S;walk_at "=figa[b0]ab1cab2c";left;refine nM (C:=A.cls r) S ‹_› (LY r).cl (NF r) (by decide+kernel) ?_;left;refine kE (r:=r) S ‹_› ‹_› pl hn Mc λp1 H1 e1 S1=>?_;left;refine YQ (a:=zo r l) (e:=e) (m:=4000) (n:=700) S1.freeze ‹_› ‹_› (pl.R Mc) ze (by decide) e0 λw2 H2 e2 S2=>?_;exact ZJ S2 k ‹_›
end
abbrev YB:Stmt:=top 35
theorem dC:FnScope ["ones","twos","place","one"] paf (zk YB):=yR
theorem BX (B:Bl mg) (F:Fun K "first_unlike" "first_unlike" YB f fd):FnOk P w K mg base CX0 1 f fd paf jH:=by
 refine F.oo dC λH vs Q E hr nd0 h=>?_;obtain ⟨p,q,hA,⟨hl,Mq⟩,k⟩:=h;obtain ⟨v1,v2,rfl,al⟩:=yT hA;have S:Sta H H H [] [(zO p,v1),(zO q,v2)]:=Sta.enter (zL.refl _) al;walk_at "=eIαab0cLwy2wy3MfloOmb3rb1b2kfib2nfi6";left;refine Bz (xs:=p.map frD) S ‹_› λJ wk=>?_;refine Yd wk (λi σ cs ds=>∃(x2 x3:Option V),σ=[some v1,some v2,x2,x3]/\cs=[]/\ds=[(zO p,v1),(zO q,v2)]/\p.take i=q.take i) S ⟨none,none,rfl,rfl,rfl,rfl⟩ (λi σ cs ds h=>?_) ?_ ?_
 ·obtain ⟨_,_,_,_,rfl,_⟩:=h;exact .mem (by right)
 ·rintro i x u σ H2 cs ds hx ⟨x2,x3,rfl,rfl,rfl,inv⟩ S2
  obtain ⟨x0,Mi,rfl⟩:=XD hx;obtain ⟨a,ha,rfl⟩:=zU Mi;have hi:i<p.length:=(Qf.mp ha).1;have hb:q[i]? =some (q[i]'(by omega)):=Qc _;generalize (q[i]'(by omega))=b at*;refine xX (xW S2 ‹_› λw3 w4 S3=>?_);cases S3.int1;left;refine Ul (xs:=q.map frD) (x:=frD b) S3 ‹_› (yC (by rw [Qi,hb];rfl)) λw5 S4=>?_;refine nJ (x:=frD a) (y:=frD b) (S4.hp ‹_›) (S4.hp ‹_›) (xQ _) (xQ _) ?_;rw [aD];left;refine bE (λc=>?_) (λc=>?_)
  ·left;exact (k _ S4.base).2 i a b ha hb c
  ·subst c;left;refine xR (S4.dat (by walk_at "dats")) ⟨_,_,rfl,rfl,rfl,?_⟩;rw [Tt,Tt,inv,ha,hb]
 ·rintro σ H2 cs ds ⟨x2,x3,rfl,rfl,rfl,inv⟩ S2
  rw [xu,Qa,List.take_length,Tc (by omega)] at inv;left;exact (k _ S2.base).1 inv
abbrev ki:Stmt:=top 23
theorem AR:FnScope ["path","second","same","purse","place"] paq (zk ki):=yR
theorem Ci (B:Bl mg) (cJ:Cal P w K mg base CX0 2 "merged" paf ck) (jt:Cal P w K mg base CX0 6 "parts_at" paT Wg) (Ep:Cal P w K mg base CX0 1 "first_unlike" paf jH) (F:Fun K "parted" "parted" ki f fd):FnOk P w K mg base CX0 7 f fd paq jN:=by
 refine F.oo AR λH vs Q E hr nd0 h=>?_;obtain ⟨G,a,b,n,m,eG,hA,⟨oka,okb,hn,la,lb,fa,fb⟩,k1,k2⟩:=h;obtain ⟨v1,v2,rfl,al⟩:=yT hA;have S:Sta H G H [] [(zE a,v1),(zE b,v2)]:=Sta.enter eG al
 obtain ⟨ca,ra,rfl⟩:∃c r,a=c::r:=by
  cases a with
  |nil=>exact absurd rfl oka.ne
  |cons c r=>exact ⟨c,r,rfl⟩
 obtain ⟨cb,rb,rfl⟩:∃c r,b=c::r:=by
  cases b with
  |nil=>exact absurd rfl okb.ne
  |cons c r=>exact ⟨c,r,rfl⟩
 have hm:m<=1000:=by rw [<-la ca (Qb ..)];exact oka.len ca (Qb ..)
 have pz:∀q∈zm (ca::ra),SzQ n q:=λq hq=>by
  obtain ⟨c,hc,rfl⟩:=Qj.mp hq;exact (oka.sz c hc).1
 have qz:∀q∈zm (cb::rb),SzQ n q:=λq hq=>by
  obtain ⟨c,hc,rfl⟩:=Qj.mp hq;exact (okb.sz c hc).1
 have p0:∀q∈zK (zm (ca::ra)) (zm (cb::rb)),SzQ n q/\0<=q:=by
  intro q hq
  have nn:∀{c:zg} {r:List zg},PathR n (c::r)->∀q∈zm (c::r),0<=q:=λ{c r} ok q hq=>by
   obtain ⟨d,hd,rfl⟩:=Qj.mp hq;have hc:=ok.zero c rfl
   rcases Ql.mp hd with rfl|hd
   ·rw [hc];exact QL
   ·have:=(Qk.mp ok.rise).1 d hd;rw [hc] at this;exact QJ this
  rcases xq.mp hq with h|h
  ·exact ⟨pz q h,nn oka q h⟩
  ·exact ⟨qz q h,nn okb q h⟩
 walk_at "=ej2rh0deICgaEcorner;1;Cb0u0Bh0aEcorner;1;Cb1u0Bh0cy3ej4gagab0ab3cagab1ab3ccel{b46kfiqab2ab3ab4cnfj2b3fi6";left;refine yV (xs:=(ca::ra).map zu) (x:=zu ca) S ‹_› (yC (j:=0) rfl) λw3 S3=>?_;left;rename_i w4 S4;refine yq (xs:=(ca::ra).map zu) S4 ‹_› λJ wk=>?_;refine xF wk (λj=>frD ((λc:zg=>c.1) ((ca::ra).getD j (0,[])))) (ys:=(zm (ca::ra)).map frD) (by unfold zm;rw [Qa,QR];exact zH (λc:zg=>frD c.1) (0,[]) (ca::ra)) S4 (λj x v=>λhx t1 S hd=>?_) λD5 H5 e5 S5=>?_
 ·obtain ⟨c,hc,rfl⟩:=zU hx;refine zF ⟨rfl,?_⟩;left;refine hd (by assumption) ?_;rw [yh hc];exact .mem (by right)
 left;refine yq (xs:=(cb::rb).map zu) S5 ‹_› λJ wk=>?_;refine xF wk (λj=>frD ((λc:zg=>c.1) ((cb::rb).getD j (0,[])))) (ys:=(zm (cb::rb)).map frD) (by unfold zm;rw [Qa,QR];exact zH (λc:zg=>frD c.1) (0,[]) (cb::rb)) S5 (λj x v=>λhx t1 S hd=>?_) λD6 H6 e6 S6=>?_
 ·obtain ⟨c,hc,rfl⟩:=zU hx;refine zF ⟨rfl,?_⟩;left;refine hd (by assumption) ?_;rw [yh hc];exact .mem (by right)
 have S7:=S6.freeze.freeze;left;refine nK (p:=zm (ca::ra)) (q:=zm (cb::rb)) (n:=n) S7 ‹_› ‹_› pz qz (by omega) (by unfold zm;rw [Qa];exact fa) (by unfold zm;rw [Qa];exact fb) λpm H8 e8 S8=>?_;generalize zK (zm (ca::ra)) (zm (cb::rb))=M at*;have S9:Sta H G H8 [] [(.list (M.map frD), .ref pm),(frD ca.1,w4),(zE (ca::ra),v1),(zE (cb::rb),v2)]:=S8.freeze.dat (by walk_at "dats");refine yq (xs:=M.map frD) S9 ‹_› λJ wk=>?_;refine Yd wk (λi σ cs ds=>∃(s:Rat) (ws:V) (x3 x4:Option V),σ=[some v1,some v2,some ws,x3,x4]/\cs=[]/\ds=[(frD s,ws),(.list (M.map frD), .ref pm),(zE (ca::ra),v1),(zE (cb::rb),v2)]/\(i=0\/M[i - 1]? =some s)/\∀(j:Nat) (d:Rat),j<i->M[j]? =some d->zh (ca::ra) d=zh (cb::rb) d) (S9.dat (ds':=[(frD ca.1,w4),(.list (M.map frD), .ref pm),(zE (ca::ra),v1),(zE (cb::rb),v2)]) (by walk_at "dats")) ⟨ca.1,w4,none,none,rfl,rfl,rfl, .inl rfl,λj d hj=>absurd hj (Nat.not_lt_zero _)⟩ (λi σ cs ds h=>?_) ?_ ?_
 ·obtain ⟨_,_,_,_,_,_,rfl,_⟩:=h;exact .mem (by right)
 ·rintro i x u σ Nq cs ds hx ⟨s',ws,x3,x4,rfl,rfl,rfl,hs,inv⟩ Mr
  obtain ⟨e,he,rfl⟩:=zU hx;obtain ⟨ze,e0⟩:=p0 e (Qe he);left;refine YQ (a:=ca::ra) (m:=n) (n:=n) Mr ‹_› ‹_› oka ze (by omega) e0 λr11 OL OU MC=>?_;left;refine YQ (a:=cb::rb) (m:=n) (n:=n) MC ‹_› ‹_› okb ze (by omega) e0 λr12 Rn e12 MP=>?_;have l1:(zh (ca::ra) e).length=m:=xj la;have l2:(zh (cb::rb) e).length=m:=xj lb;left;refine Bo MP ‹_› ‹_› ⟨by rw [l1,l2],by omega⟩ (λSg MO heq=>?_) (λSg MO j x y hx hy Ma=>?_)
  ·left;refine ⟨rfl,?_⟩;left;refine rB rfl ?_;left;refine xR (MO.dat (ds':=[(frD e,u),(.list (M.map frD), .ref pm),(zE (ca::ra),v1),(zE (cb::rb),v2)]) (by walk_at "dats")) ⟨e,u,_,_,rfl,rfl,rfl, .inr (by simpa using he),λj d hj hd=>?_⟩
   by_cases PD:j<i
   ·exact inv j d PD hd
   ·have:j=i:=by omega
    subst this;rw [he] at hd;cases hd;exact heq
  ·left;refine ⟨rfl,?_⟩;left;refine bE (λ_=>?_) (λz=>by cases z);left;rename_i pt OX e14 Nh;obtain ⟨G',gr,al'⟩:=Nh.leave;exact k2 _ OX G' i j s' e x y gr (al' _ (by right)) he inv hs hx hy Ma
 ·rintro σ Nq cs ds ⟨s',ws,x3,x4,rfl,rfl,rfl,hs,inv⟩ Mr
  left;obtain ⟨G',gr,_⟩:=Mr.leave;refine k1 Nq G' gr λe he=>?_;obtain ⟨j,hj⟩:=Qr.mp he;exact inv j e (by rw [Qa];exact (Qf.mp hj).1) hj
abbrev Xu:Stmt:=top 78
theorem gE:FnScope paA paA (zk Xu):=yR
theorem JH (B:Bl mg) (F:Fun K "_law_cell_at" "_law_cell_at" Xu f fd):FnOk P w K mg base CX0 1 f fd paA (td K):=by
 refine F.oo gE λH vs Q E hr nd0 h=>?_;obtain ⟨a,ns,k,rfl,hS,h0,q⟩:=h;walk_at "=el4b1Dab0ckfirb0b1nfid";left;refine Jh hS ?_;left;refine yJ (λc=>?_) (λc=>?_)
 ·left;refine rd_ixS hS h0 c ?_;unfold fD at q;rw [QH c] at q;exact q
 ·left;unfold fD at q;rw [QP c] at q;exact q
abbrev VL:Stmt:=top 79
theorem ng:FnScope ["_law_cell","_law_place","_law_number"] paO (zk VL):=yR
theorem FA (F:Fun K "_law_mixed" "_law_mixed" VL f fd):FnOk P w K mg base CX0 1 f fd paO IL:=by
 refine F.oo ng λH vs Q E hr nd0 h=>?_;obtain ⟨c,p,rfl,q⟩:=h;walk_at "=ej2xvvtxb0ddtdb1ddej2xvvtb2b2tdb1ddfixtb2dd";left;exact q
abbrev Xt:Stmt:=top 80
theorem gD:FnScope pae pae (zk Xt):=yR
theorem vJ (B:Bl mg) (F:Fun K "_law_divisor" "_law_divisor" Xt f fd):FnOk P w K mg base CX0 1 f fd pae sZ:=by
 refine F.oo gD λH vs Q E hr nd0 h=>?_;obtain ⟨a,b,rfl,hb,q⟩:=h;walk_at "=e8oOmb1dkfо0ab1a3b0b1cfi|ab0c";refine jy (λm σ H2=>∃(x y:Int),σ=[some (.int x),some (.int y)]/\0<=y/\Int.gcd x y=Int.gcd a b/\H2=H/\m=y.toNat) _ ⟨a,b,rfl,hb,rfl,rfl,rfl⟩ ?_
 rintro m σ H2 ⟨x,y,rfl,hy,hg,rfl,rfl⟩
 left;refine qB (λc=>?_) (λc=>?_)
 ·have c:y≠0:=by simpa using c
  left;have e:x.fmod y=x % y:=To x hy;have l1:=jaG x c;have l2:=jaq x (show 0<y by omega);refine ⟨(x.fmod y).toNat,by rw [e];omega,y,x.fmod y,rfl,by rw [e];exact l1,?_,rfl,rfl⟩;rw [e,tZ,hg]
 ·have c:y=0:=by simpa using c
  subst c;left
  have e:(x.natAbs:Int)=((Int.gcd a b:Nat):Int):=by
   rw [<-hg,Int.gcd_zero]
  rw [e];exact q
abbrev Wn:Stmt:=top 81
theorem jT:FnScope ["_law_top","_law_bottom","_law_by"] paG (zk Wn):=yR
theorem Cn (mi:Cal P w K mg base CX0 1 "_law_divisor" pae sZ) (F:Fun K "_law_lowest" "_law_lowest" Wn f fd):FnOk P w K mg base CX0 2 f fd paG cn:=by
 refine F.oo jT λH vs Q E hr nd0 h=>?_;obtain ⟨G,⟨a,b⟩,eG,hA,⟨hb,sb⟩,k⟩:=h;cases (yM (ns:=[a,b]) hA);have S:Sta H G H [] []:=Sta.enter eG λp hp=>absurd hp Qv;dsimp only at hb sb k;have gp:0<Int.gcd a b:=Int.gcd_pos_of_ne_zero_right a (by omega)
 have hc:CDv a ((Int.gcd a b:Nat):Int):=⟨by omega,by
  refine Sz.le sb ?_;have:=Nat.le_of_dvd (by omega) (Int.gcd_dvd_natAbs_right a b)
  omega⟩
 walk_at "=ej2gab0ab1cfiqa?b0b2a?b1b2c";left;refine ZJ (by assumption) k (.mem ?_);rw [show frD (Rat.divInt a b)= .tuple [.int (a.fdiv ((Int.gcd a b:Nat):Int)), .int (b.fdiv ((Int.gcd a b:Nat):Int))] by unfold frD;rw [<-(VT hb).1,<-(VT hb).2]];walk_at "mem"
local macro_rules|`(tactic|walk_at "rd")=>`(tactic|first|fail "&182"|fail)
abbrev VH:Stmt:=top 82
theorem mW:FnScope pav pav (zk VH):=yR
theorem Fm (B:Bl mg) (F:Fun K "_law_whole" "_law_whole" VH f fd):FnOk P w K mg base CX0 1 f fd pav UL:=by
 refine F.oo mW λH vs Q E hr nd0 h=>?_;obtain ⟨n,rfl,q⟩:=h;have S:Sta H H H [] []:=Sta.enter (zL.refl _) λp hp=>absurd hp Qv;have hi:Is H (.int n) (.int n):=S.hp Has.int;walk_at "=fi%-ab0aβint;c&γ-ab0aδbool;c";left;exact q
abbrev Zi:Stmt:=top 83
theorem Ug:FnScope pav pav (zk Zi):=yR
theorem JG (B:Bl mg) (sI:Cal P w K mg base CX0 1 "_law_whole" pav UL) (mi:Cal P w K mg base CX0 1 "_law_divisor" pae sZ) (F:Fun K "_law_is_fraction" "_law_is_fraction" Zi f fd):FnOk P w K mg base CX0 2 f fd pav AG:=by
 refine F.oo Ug λH vs Q E hr nd0 h=>?_;obtain ⟨a,hA,_,k⟩:=h;obtain ⟨v,rfl,al⟩:=Yq hA;have S:Sta H H H [] [(frD a,v)]:=Sta.enter (zL.refl _) al;have hv:=S.hp (x:=frD a) (v:=v) ‹_›;walk_at "=elKSQH-ab0aμtuple;cSoOmDab0cdkSQHgah0c5QHgah0cfiNnfi%пh0dk&}smgah0ah0cdk";left;refine rB rfl ?_;left;refine yJ (λ_=>?_) (λc=>absurd (by have:=a.den_pos;omega) c);left
 have hg:((a.num.gcd (a.den:Int):Nat):Int)=1:=by
  have:=a.reduced;unfold Nat.Coprime at this;rw [Int.gcd,Int.natAbs_natCast,this];rfl
 rw [QQ hg];exact k H (zL.refl _)
abbrev Wo:Stmt:=top 84
theorem jU:FnScope ["_law_number"] ["_law_number"] (zk Wo):=yR
theorem Co (F:Fun K "_law_labels" "_law_labels" Wo f fd):FnOk P w K mg base CX0 1 f fd ["_law_number"] jP:=by
 refine F.oo jU λH vs Q E hr nd0 h=>?_;obtain ⟨G,n,eG,hA,_,k⟩:=h;cases (yM (ns:=[n]) hA);have S:Sta H G H [] []:=Sta.enter eG λp hp=>absurd hp Qv;dsimp only at k;unfold kY at k;walk_at "=elosmxb0ddkfiAadadadcnelosmxb0ddkfiAav7dddadadcnelosmxb0ddkfiAada7ddadcnfiAadadadc";left;refine yJ (λc=>?_) (λc=>?_)
 ·rw [QH c] at k;left;exact xD (by assumption) k
 rw [QP c] at k;left;refine yJ (λc=>?_) (λc=>?_)
 ·rw [QH c] at k;left;exact xD (by assumption) k
 rw [QP c] at k;left;refine yJ (λc=>?_) (λc=>?_)
 ·rw [QH c] at k;left;exact xD (by assumption) k
 rw [QP c] at k;left;exact xD (by assumption) k
section
variable {A:RAd}
abbrev Wq:Stmt:=top 85
theorem jV:FnScope ["_law_script","_law_at_here","_law_many","_law_size","_law_labels_here","_law_ranks","_law_groups","_law_claims_here","_law_k","_law_cell","_law_amount"] pak (zk Wq):=yR
theorem Cr (B:Bl mg) (mj:Cal P w K mg base CX0 1 "_law_cell_at" paA (td K)) (Kx:Cal P w K mg base CX0 1 "_law_mixed" paO IL) (IB:Cal P w K mg base CX0 1 "_law_labels" ["_law_number"] jP) (F:Fun K "_law_claims" "_law_claims" Wq f fd):FnOk P w K mg base CX0 2 f fd pak (dg K):=by
 refine F.oo jV λH vs Q E hr nd0 h=>?_;obtain ⟨G,a,ns,at',many,size,rfl,eG,hS,⟨RS,hm1,hm8,hs0,Pr⟩,k⟩:=h;have S:Sta H G H [] []:=Sta.enter eG λp hp=>absurd hp Qv;walk_at "=ej4gagab0ab1cadcej5gab4cej6gaPb4dcej7AceIрab2cy8ej9gab0avb1b8ceja3Pb9db3elosmxb9ddkfjaxPb9ddnelKWosmxb9ddk1Xb8dkfjarrb73Pb9db8dnfz2b7aqabaarb5xgab9adcdarb6xgab9adcdccfib7";left;generalize mixV (fD ns at') 3=Mx at*;refine nL S λp1 H1 e1 S1=>?_;have S1':=S1.freeze;left;refine nL S1' λp2 H2 e2 S2=>?_;have S2':=S2.freeze;left;rename_i p3 H3 e3 S3;refine rd_kR1 H G (by omega) (by omega) λJ wk=>?_
 refine Yd wk (λi σ cs ds=>∃(l:List Cl) (x8 x9 Nr:Option V),σ=[some (.ref a),some (.int at'),some (.int many),some (.int size),some (.int Mx),some (.ref p1),some (.ref p2),some (.ref p3),x8,x9,Nr]/\cs=[(p3,l.map yc)]/\ds=[(mr (kY (Mx / 5)), .ref p2),(mr (kY Mx), .ref p1)]/\l.length=i/\∀c∈l,(0<=c.1/\0<=c.2.1/\0<=c.2.2)/\c.1<size) S3
  ⟨[],none,none,none,rfl,rfl,rfl,rfl,λc hc=>absurd hc Qv⟩ (λ_ _ _ _ _=>trivial) ?_ ?_
 ·rintro i x v σ H4 cs ds hx ⟨l,x8,x9,Nr,rfl,rfl,rfl,hlen,hok⟩ S4
  obtain ⟨hi,rfl⟩:=dO hx;cases S4.int1;have hS4:SqL K H4 a (ns.map V.int):=S4.base.seq hS;have S4:=S4.drop1;left;generalize fD ns (at'+(0+(i:Int)))=c at*
  have fin:∀(am:Int) (y8 y9 OY:Option V) (r g:Int) (H5:Hp),0<=am->am<size->0<=r->0<=g->Sta H G H5 [(p3,l.map yc++[yc (am,r,g)])] [(mr (kY (Mx / 5)), .ref p2),(mr (kY Mx), .ref p1)]->
   AtP H G (λσ cs ds=>∃(l:List Cl) (x8 x9 Nr:Option V),σ=[some (.ref a),some (.int at'),some (.int many),some (.int size),some (.int Mx),some (.ref p1),some (.ref p2),some (.ref p3),x8,x9,Nr]/\cs=[(p3,l.map yc)]/\ds=[(mr (kY (Mx / 5)), .ref p2),(mr (kY Mx), .ref p1)]/\l.length=i+1/\∀c∈l,(0<=c.1/\0<=c.2.1/\0<=c.2.2)/\c.1<size) [some (.ref a),some (.int at'),some (.int many),some (.int size),some (.int Mx),some (.ref p1),some (.ref p2),some (.ref p3),y8,y9,OY] H5:=by
   intro am y8 y9 OY r g H5 h0 hz hr hg S5;refine xR S5 ⟨l++[(am,r,g)],y8,y9,OY,rfl,by rw [QO];rfl,rfl,by rw [Qy,hlen];rfl,λc hc=>?_⟩
   rcases QT.mp hc with z|z
   ·exact hok c z
   ·rw [Qq.mp z];exact ⟨⟨h0,hr,hg⟩,hz⟩
  have lmem:(l.map yc).length<=1000:=by rw [Qa];omega
  obtain ⟨r,RB,RA⟩:=CM Mx (mixV c 1);obtain ⟨g,RJ,RI⟩:=CM (Mx / 5) (mixV c 2);have sz0:size≠0:=by omega
  have f0:(c / 9).fmod size=c / 9 % size:=To _ (by omega);have m1:=jaG (c / 9) sz0;have m2:=jaq (c / 9) (show 0<size by omega);left;refine yJ (λc1=>?_) (λc1=>?_)
  ·left;refine yJ (λc2=>absurd c2 (by omega)) (λ_=>?_);left;refine Ww (xs:=(kY Mx).map PyData.int) S4 ‹_› RA ?_;left;refine Ww (xs:=(kY (Mx / 5)).map PyData.int) S4 ‹_› RI ?_;left;rename_i q5 H5 e5 S5;refine xh (y:=yc (c / 9 % 5,r,g)) S5 ‹_› lmem λH6 S6=>?_;left;exact fin (c / 9 % 5) _ _ _ r g H6 (by omega) (by omega) RB RJ (S6.dat (by walk_at "dats"))
  ·have q0:0<=(c / 9).fmod size:=by rw [f0];exact m1
   have qz:(c / 9).fmod size<size:=by rw [f0];exact m2
   left;refine yJ (λc2=>?_) (λ_=>?_)
   ·left;refine yJ (λc3=>?_) (λ_=>?_)
    ·have i0:0+(i:Int)≠0:=by omega
     have e1:=To (c / 9) (show 0<=0+(i:Int) by omega);have n1:=jaG (c / 9) i0;have n2:=jaq (c / 9) (show 0<0+(i:Int) by omega);rw [<-e1] at n1 n2;left;have hj:((c / 9).fmod (0+(i:Int))).toNat<l.length:=by omega
     have LX:=Qc hj
     have RQ:atI (l.map yc) ((c / 9).fmod (0+(i:Int)))=some (yc (l[((c / 9).fmod (0+(i:Int))).toNat])):=by
      have:=yC (xs:=l.map yc) (j:=((c / 9).fmod (0+(i:Int))).toNat) (v:=yc (l[((c / 9).fmod (0+(i:Int))).toNat])) (by rw [Qi,LX];rfl);rwa [Int.toNat_of_nonneg n1] at this
     have okc:=hok _ (Te hj);generalize l[((c / 9).fmod (0+(i:Int))).toNat]=c' at*;refine XN (x:=yc c') S4 (by right) RQ λw7 S7=>?_;left;refine Ww (xs:=(kY Mx).map PyData.int) S7 ‹_› RA ?_;left;refine Ww (xs:=(kY (Mx / 5)).map PyData.int) S7 ‹_› RI ?_;left;rename_i q5 H5 e5 S5;refine xh (y:=yc (c'.1,r,g)) S5 ‹_› lmem λH6 S6=>?_;left;exact fin (c'.1) _ _ _ r g H6 okc.1.1 okc.2 RB RJ (S6.dat (by walk_at "dats"))
    ·skip
     left;refine Ww (xs:=(kY Mx).map PyData.int) S4 ‹_› RA ?_;left;refine Ww (xs:=(kY (Mx / 5)).map PyData.int) S4 ‹_› RI ?_;left;rename_i q5 H5 e5 S5;refine xh (y:=yc ((c / 9).fmod size,r,g)) S5 ‹_› lmem λH6 S6=>?_;left;exact fin ((c / 9).fmod size) _ _ _ r g H6 q0 qz RB RJ (S6.dat (by walk_at "dats"))
   ·skip
    left;refine Ww (xs:=(kY Mx).map PyData.int) S4 ‹_› RA ?_;left;refine Ww (xs:=(kY (Mx / 5)).map PyData.int) S4 ‹_› RI ?_;left;rename_i q5 H5 e5 S5;refine xh (y:=yc ((c / 9).fmod size,r,g)) S5 ‹_› lmem λH6 S6=>?_;left;exact fin ((c / 9).fmod size) _ _ _ r g H6 q0 qz RB RJ (S6.dat (by walk_at "dats"))
 ·rintro σ H4 cs ds ⟨l,x8,x9,Nr,rfl,rfl,rfl,hlen,hok⟩ S4
  left;rw [YS] at hlen;obtain ⟨G',a',b',c',d',e',f',g'⟩:=S4;obtain ⟨z1,z2,us,z3,z4⟩:=e' _ (Qb ..);exact k l p3 H4 G' us hlen ⟨by omega,by omega,λc hc=>(hok c hc).1,λc hc=>(hok c hc).2⟩ ⟨c',a',b',d'⟩ z1 z2 z3 z4
abbrev VJ:Stmt:=top 90
theorem mZ:FnScope ["_law_whole_here","_law_cell","_law_kind","_law_number"] paI (zk VJ):=yR
theorem Fv (pP:Cal P w K mg base CX0 2 "_law_lowest" paG cn) (F:Fun K "_law_purse" "_law_purse" VJ f fd):FnOk P w K mg base CX0 3 f fd paI qb:=by
 refine F.oo mZ λH vs Q E hr nd0 h=>?_;obtain ⟨G,wh,c,rfl,eG,⟨w0,wz⟩,k⟩:=h;have S:Sta H G H [] []:=Sta.enter eG λp hp=>absurd hp Qv;have good:∀(i j:Int),0<=i->0<j->Sz 300 i->Sz 300 j->0<=Rat.divInt i j/\SzQ 300 (Rat.divInt i j):=λi j h1 h2 z1 z2=>⟨Rat.divInt_nonneg h1 (by omega),SzQ.divInt z1 z2 (by omega)⟩;have n3:wh+3≠0:=by omega
 have n5:2*wh+5≠0:=by omega
 have b0:wh<2 ^ 180:=by unfold Sz at wz;omega
 have Pf:(0:Int)<10 ^ Int.toNat 12:=by decide
 walk_at "=ej2xb1dej3Pb1delosmb2dkfiqa3b3vb0dadcnelosmb2dkfigab0adcnelosmb2dkfiga3b3vtdb0dadcnelosmb2dkfigatb0xb3dadcnfiga3b3tvb0d7dda7ddc";left;refine yJ (λ_=>?_) (λ_=>?_)
 ·left;rename_i p1 H1 e1 S1;have e:=To (c / 5) (show 0<=wh+3 by omega);have m1:=jaG (c / 5) n3;have m2:=jaq (c / 5) (show 0<wh+3 by omega);rw [<-e] at m1 m2;have hq:PyData.tuple [.int ((c / 5).fmod (wh+3)), .int 1]=frD (((c / 5).fmod (wh+3):Int):Rat):=rfl;rw [hq] at S1;exact nu S1 k ‹_› ⟨rQ m1,by show Sz 300 ((c / 5).fmod (wh+3));unfold Sz;omega,by show Sz 300 1;unfold Sz;decide⟩
 left;refine yJ (λ_=>?_) (λ_=>?_)
 ·left;refine Wv S (by decide) (by unfold Sz;decide+kernel) λr H1 e1 S1=>?_;exact nu S1 k ‹_› (good _ _ w0 (by decide) (wz.mono (by decide)) (by unfold Sz;decide))
 left;refine yJ (λ_=>?_) (λ_=>?_)
 ·left;have e:=To (c / 5) (show 0<=2*wh+5 by omega);have m1:=jaG (c / 5) n5;have m2:=jaq (c / 5) (show 0<2*wh+5 by omega);rw [<-e] at m1 m2;refine Wv S (by decide) (by unfold Sz;decide+kernel) λr H1 e1 S1=>?_;exact nu S1 k ‹_› (good _ _ m1 (by decide) (by unfold Sz;omega) (by unfold Sz;decide))
 left;refine yJ (λ_=>?_) (λ_=>?_)
 ·have o:IntMulOk wh (c / 5 % 1009):=wz.mulOk (n:=10) (by unfold Sz;omega) (by decide);left;refine Wv S (by decide) (by unfold Sz;decide+kernel) λr H1 e1 S1=>?_;exact nu S1 k ‹_› (good _ _ (Int.mul_nonneg w0 (by omega)) (by decide) ((wz.mul (n:=10) (by unfold Sz;omega)).mono (by decide)) (by unfold Sz;decide))
 have z1:Sz 181 (wh+1):=by unfold Sz;omega
 have z2:Sz 60 ((10:Int) ^ Int.toNat 12):=by unfold Sz;decide
 have o2:IntMulOk (wh+1) (10 ^ Int.toNat 12):=z1.mulOk z2 (by decide);have zz:=z1.mul z2;have pp:0<(wh+1)*(10:Int) ^ Int.toNat 12:=Int.mul_pos (by omega) Pf;have nz:(wh+1)*(10:Int) ^ Int.toNat 12≠0:=by omega
 have e:=To (c / 5) (show 0<=(wh+1)*(10:Int) ^ Int.toNat 12 by omega);have m1:=jaG (c / 5) nz;have m2:=jaq (c / 5) pp;rw [<-e] at m1 m2;left;refine Wv S Pf (z2.mono (by decide)) λr H1 e1 S1=>?_;exact nu S1 k ‹_› (good _ _ m1 Pf ((EE m1 (jbO m2) zz).mono (by decide)) (z2.mono (by decide)))
end
abbrev UX:Stmt:=top 92
theorem qm:FnScope pae pae (zk UX):=yR
theorem JE (F:Fun K "_law_less" "_law_less" UX f fd):FnOk P w K mg base CX0 1 f fd pae mN:=by
 refine F.oo qm λH vs Q E hr nd0 h=>?_;obtain ⟨⟨p,q⟩,hA,⟨m,n,hp,hq,Mz⟩,k⟩:=h;obtain ⟨v,w',rfl,al⟩:=yT hA;have S:Sta H H H [] _:=Sta.enter (zL.refl _) al;dsimp only at hp hq k S;have o1:IntMulOk p.num (q.den:Int):=hp.1.mulOk hq.2 (by omega);have o2:IntMulOk q.num (p.den:Int):=hq.1.mulOk hp.2 (by omega);walk_at "=fi:th0h1th1h0k";left;rw [show decide (p<q)=decide (p.num*(q.den:Int)<q.num*(p.den:Int)) from decide_eq_decide.mpr (Rat.lt_iff p q)] at k;exact k
abbrev kq:Stmt:=top 93
theorem AW:FnScope ["_law_path","_law_purse_here","_law_k","_law_low","_law_here","_law_high","_law_there","_law_up","_law_long","_law_found","_law_one","_law_two","_law_top"] paJ (zk kq):=yR
theorem FF (B:Bl mg) (ju:Cal P w K mg base CX0 1 "_law_less" pae mN) (pP:Cal P w K mg base CX0 2 "_law_lowest" paG cn) (F:Fun K "_law_at" "_law_at" kq f fd):FnOk P w K mg base CX0 3 f fd paJ jO:=by
 refine F.oo AW λH vs Q E hr nd0 h=>?_;obtain ⟨G,⟨a,e⟩,eG,hA,⟨m,n,ok,ze,hz⟩,k⟩:=h;obtain ⟨v1,v2,rfl,al⟩:=yT hA;have S:Sta H G H [] [(zE a,v1),(frD e,v2)]:=Sta.enter eG al;dsimp only at ok ze k;have few:=ok.few;have la:0<a.length:=jaB.mpr ok.ne;have SS:n+m<=100000000:=by omega
 walk_at "=eIсadaDab0ccy2flQHgarrb0b2dab1ce)rb0Tb2dLwy3wy4Me)rb0b2Lwy5wy6Mej7tTth1h3th3h1h5ej8tTth5h3th3h5h1ej9AceI@ab4ab6cLwyawybMejcvtthahbTb8b7tthbhab7fz2b9agabcatthahbb8ccfiYab9cnfirrb0Gdd";left;refine rd_kR2 H G ⟨by omega,by omega⟩ ⟨by rw [Qa];omega,by rw [Qa];omega⟩ λJ wk=>?_;refine Yd wk (λi σ cs ds=>∃(x2 x3 x4 x5 x6 x7 x8 x9 Nr Pa OZ:Option V),σ=[some v1,some v2,x2,x3,x4,x5,x6,x7,x8,x9,Nr,Pa,OZ]/\cs=[]/\ds=[(zE a,v1),(frD e,v2)]/\∀(j:Nat) (x:zg),j<i->a[j+1]? =some x->x.1<e) S ⟨none,none,none,none,none,none,none,none,none,none,none,rfl,rfl,rfl,λj x hj=>absurd hj (Nat.not_lt_zero _)⟩ (λ_ _ _ _ _=>trivial) ?_ ?_
 ·rintro i x u σ H2 cs ds hx ⟨x2,x3,x4,x5,x6,x7,x8,x9,Nr,Pa,OZ,rfl,rfl,rfl,inv⟩ S2
  obtain ⟨hi,rfl⟩:=dO hx;cases S2.int1;rw [Qa] at hi;have hi1:i+1<a.length:=by omega
  have hi0:i<a.length:=by omega
  have hd:=Qc hi1;have hc:=Qc hi0;have MT:=ok.rise;unfold yl at MT;rw [QK] at MT;have LW:=MT i (i+1) hi0 hi1 (by omega);generalize a[i]=c at*;generalize a[i+1]=d at*;have zc:=ok.sz c (Qe hc);have zd:=ok.sz d (Qe hd);have lc:=ok.len c (Qe hc);have i1:atI (a.map zu) (1+(i:Int))=some (zu d):=by rw [show 1+(i:Int)=((i+1:Nat):Int) by omega];exact yC (by rw [Qi,hd];rfl)
  have i0:atI (a.map zu) (1+(i:Int) - 1)=some (zu c):=by rw [show 1+(i:Int) - 1=((i:Nat):Int) by omega];exact yC (by rw [Qi,hc];rfl)
  left;refine yV (xs:=a.map zu) (x:=zu d) S2 ‹_› i1 λw3 S3=>?_;left;rename_i w4 S4;refine qE S4 ‹_› ‹_› zd.1 ze SS ?_;left;refine bE (λc1=>?_) (λc1=>?_)
  rotate_left
  ·left;refine xR (S4.dat (by walk_at "dats")) ⟨_,_,_,_,_,_,_,_,_,_,_,rfl,rfl,rfl,λj x hj Nu=>?_⟩
   by_cases PD:j<i
   ·exact inv j x PD Nu
   ·have:j=i:=by omega
    subst this;rw [hd] at Nu;cases Nu;exact c1
  have key:=oz (E:=e) inv hc hd (QX.mp c1);rw [key] at k;left;refine yV (xs:=a.map zu) (x:=zu c) S4 ‹_› i0 λw5 S5=>?_;refine xX (xW S5 ‹_› λw6 w7 S6=>?_);left;refine yV (xs:=a.map zu) (x:=zu d) S6 ‹_› i1 λw8 S7=>?_;refine xX (xW S7 ‹_› λw9 NV S8=>?_);have q1:=ze.1.mul zc.1.2;have q2:=zc.1.1.mul ze.2;have q3:=zd.1.1.mul zc.1.2;have q4:=zc.1.1.mul zd.1.2;have o1:IntMulOk e.num (c.1.den:Int):=ze.1.mulOk zc.1.2 (by omega);have o2:IntMulOk c.1.num (e.den:Int):=zc.1.1.mulOk ze.2 (by omega);have o3:IntMulOk d.1.num (c.1.den:Int):=zd.1.1.mulOk zc.1.2 (by omega);have o4:IntMulOk c.1.num (d.1.den:Int):=zc.1.1.mulOk zd.1.2 (by omega);have q5:Sz (m+n+1) (e.num*(c.1.den:Int) - c.1.num*(e.den:Int)):=q1.sub (q2.mono (by omega));have q6:Sz (n+n+1) (d.1.num*(c.1.den:Int) - c.1.num*(d.1.den:Int)):=q3.sub q4;have o5:IntMulOk (e.num*(c.1.den:Int) - c.1.num*(e.den:Int)) (d.1.den:Int):=q5.mulOk zd.1.2 (by omega);have o6:IntMulOk (d.1.num*(c.1.den:Int) - c.1.num*(d.1.den:Int)) (e.den:Int):=q6.mulOk ze.2 (by omega);have q7:=q5.mul zd.1.2;have q8:=q6.mul ze.2;have q9:Sz (m+n+1+n+(n+n+1+m)+1) ((d.1.num*(c.1.den:Int) - c.1.num*(d.1.den:Int))*(e.den:Int) - (e.num*(c.1.den:Int) - c.1.num*(e.den:Int))*(d.1.den:Int)):=(q8.mono (by omega)).sub (q7.mono (by omega));left;rename_i pf H9 e9 S9;unfold Yg at k;have lm:=λx y:Rat=>JT (x:=x) (y:=y) (e:=e) LW;have MF:=(lm 0 0).2;generalize (d.1.num*(c.1.den:Int) - c.1.num*(d.1.den:Int))*(e.den:Int)=long at*;generalize (e.num*(c.1.den:Int) - c.1.num*(e.den:Int))*(d.1.den:Int)=up at*;generalize (e - c.1) / (d.1 - c.1)=t at*;refine cw (xs:=c.2.map frD) (ys:=d.2.map frD) S9 ‹_› ‹_› λJ2 NK=>?_;have Mr:Sta H G H9 [(pf,[])] [(zO c.2,w7),(zO d.2,NV),(zE a,v1),(frD e,v2)]:=S9.dat (by walk_at "dats");refine Yd NK (λi2 σ cs ds=>∃(Nr Pa OZ:Option V),σ=[some v1,some v2,some (.int (1+(i:Int))),some w6,some w7,some w9,some NV,some (.int up),some (.int long),some (.ref pf),Nr,Pa,OZ]/\cs=[(pf,((List.zipWith (Zr t) c.2 d.2).take i2).map frD)]/\ds=[(zO c.2,w7),(zO d.2,NV),(zE a,v1),(frD e,v2)]) Mr ⟨_,_,_,rfl,rfl,rfl⟩ (λi2 σ cs ds h=>?_) ?_ ?_
  ·obtain ⟨_,_,_,_,_,rfl⟩:=h;exact ⟨.mem (by right),λ_ _ h=>h.tail, .mem (by right)⟩
  ·rintro i2 x u σ OL cs ds NX ⟨OY,y11,y12,rfl,rfl,rfl⟩ MC
   obtain ⟨xa,xb,h1,h2,rfl⟩:=Vz NX;obtain ⟨p,hp,rfl⟩:=zU h1;obtain ⟨q,hq,rfl⟩:=zU h2;have zp:=zc.2 p (Qe hp);have zq:=zd.2 q (Qe hq);have Ou:(List.zipWith (Zr t) c.2 d.2)[i2]? =some (Zr t p q):=by rw [QC,hp,hq]
   have r1:=zp.1.mul zq.2;have r2:=zq.1.mul zp.2;have r3:=zp.2.mul zq.2;have o7:IntMulOk p.num (q.den:Int):=zp.1.mulOk zq.2 (by omega);have o8:IntMulOk (p.num*(q.den:Int)) (long - up):=r1.mulOk q9 (by omega);have o9:IntMulOk q.num (p.den:Int):=zq.1.mulOk zp.2 (by omega);have o10:IntMulOk (q.num*(p.den:Int)) up:=r2.mulOk q7 (by omega);have o11:IntMulOk (p.den:Int) (q.den:Int):=zp.2.mulOk zq.2 (by omega);have o12:IntMulOk ((p.den:Int)*(q.den:Int)) long:=r3.mulOk q8 (by omega);refine xX (xW MC ‹_› λw12 w13 MP=>?_);left;refine Wv MP (Int.mul_pos (Int.mul_pos (den_pos p) (den_pos q)) MF) ((r3.mul q8).mono (by omega)) λr13 Sg e13 MO=>?_;rw [(lm p q).1] at MO;left;refine xh (y:=frD (Zr t p q)) MO ‹_› (by rw [Qa,Tq,QE];omega) λOX Nh=>?_;left;refine xR (Nh.dat (by walk_at "dats")) ⟨_,_,_,rfl,?_,rfl⟩;rw [Tt,Ou]
   simp
  ·rintro σ OL cs ds ⟨OY,y11,y12,rfl,rfl,rfl⟩ MC
   rw [xS,Qa,Qa,Tc (by rw [QE];exact Qp _)] at MC;left;exact ZJ (by assumption) k ‹_›
 ·rintro σ H2 cs ds ⟨x2,x3,x4,x5,x6,x7,x8,x9,Nr,Pa,OZ,rfl,rfl,rfl,inv⟩ S2
  rw [YS,Qa] at inv;obtain ⟨l,hl⟩:∃l,a.getLast? =some l:=⟨_,QW ok.ne⟩
  have key:=iV (E:=e) (λj x hx=>inv j x (by
   have:=(Qf.mp hx).1
   omega) hx) hl
  rw [key] at k;left;refine yV (xs:=a.map zu) (x:=zu l) S2 ‹_› (lQ (by rw [jav,hl];rfl)) λw3 S3=>?_;left;exact ZJ (by assumption) k ‹_›
abbrev Xs:Stmt:=top 86
theorem gC:FnScope ["_law_cell","_law_number"] paL (zk Xs):=yR
theorem Fy (F:Fun K "_law_portion" "_law_portion" Xs f fd):FnOk P w K mg base CX0 1 f fd paL qd:=by
 refine F.oo gC λH vs Q E hr nd0 h=>?_;obtain ⟨G,c,rfl,eG,k⟩:=h;have S:Sta H G H [] []:=Sta.enter eG λp hp=>absurd hp Qv;walk_at "=ej1xb07ddelosmxb1ddkfiqadavdxPb1ddcnelosmxb1ddkfiqavdxPb1ddadcnfiqavdxPb1ddavdxPb1ddc";left;generalize c % 10 ^ Int.toNat 9=m at*;have hm:0<=m / 3 % 60/\m / 3 % 60<60:=by omega
 have sm:∀t b:Int,0<t->t<b->b<=61->Int.gcd t b=1->Small t b:=λt b h1 h2 h3 h4=>⟨⟨⟨by unfold Sz;omega,by unfold Sz;omega⟩,h1,h2,h4⟩,h3⟩;refine yJ (λ_=>?_) (λ_=>?_)
 ·left;exact Bk (by assumption) k ‹_› (sm _ _ (by decide) (by omega) (by omega) (by rw [Int.gcd_one_left]))
 left;refine yJ (λ_=>?_) (λ_=>?_)
 ·left;refine Bk (by assumption) k ‹_› (sm _ _ (by omega) (by omega) (by omega) ?_);obtain ⟨i,hi,e⟩:∃i:Nat,i<60/\m / 3 % 60=(i:Int):=⟨(m / 3 % 60).toNat,by omega,by omega⟩;rw [e];clear e hm
  revert hi
  revert i
  decide+kernel
 left;refine Bk (by assumption) k ‹_› (sm _ _ (by omega) (by omega) (by omega) ?_);obtain ⟨i,hi,e⟩:∃i:Nat,i<60/\m / 3 % 60=(i:Int):=⟨(m / 3 % 60).toNat,by omega,by omega⟩;rw [e];clear e hm
 revert hi
 revert i
 decide+kernel
abbrev UY:Stmt:=top 87
theorem qo:FnScope paL paL (zk UY):=yR
theorem FE (F:Fun K "_law_leaf" "_law_leaf" UY f fd):FnOk P w K mg base CX0 1 f fd paL qe:=by
 refine F.oo qo λH vs Q E hr nd0 h=>?_;obtain ⟨G,c,rfl,eG,k⟩:=h;have S:Sta H G H [] []:=Sta.enter eG λp hp=>absurd hp Qv;walk_at "=firAaqapcaqapcaqapcaqapccxb0d";left;rename_i q1 G1 i1 T1 q2 G2 i2 T2 q3 G3 i3 T3 q4 G4 i4 T4 q5 G5 i5 T5
 obtain ⟨n,hn⟩:∃n,atI [PyData.tuple [.str "shares"], .tuple [.str "evenly"], .tuple [.str "losses"], .tuple [.str "halves"]] (c % 4)=some (hV n).shape:=by
  rcases (by omega:c % 4=0\/c % 4=1\/c % 4=2\/c % 4=3) with h|h|h|h<;>rw [h]
  ·exact ⟨0,rfl⟩
  ·exact ⟨1,rfl⟩
  ·exact ⟨2,rfl⟩
  ·exact ⟨3,rfl⟩
 refine XN (x:=(hV n).shape) T5 (by right) hn λw6 T6=>?_;exact Bm (n:=n) T6 k ‹_›
abbrev VI:Stmt:=top 88
theorem mY:FnScope ["_law_cells","_law_groups","_law_pile","_law_cell","_law_more","_law_kind"] paB (zk VI):=yR
theorem Cb (B:Bl mg) (Hv:Cal P w K mg base CX0 1 "_law_portion" paL qd) (KG:Cal P w K mg base CX0 1 "_law_leaf" paL qe) (F:Fun K "_law_shape" "_law_shape" VI f fd):FnOk P w K mg base CX0 2 f fd paB cj:=by
 refine F.oo mY λH vs Q E hr nd0 h=>?_;obtain ⟨G,ns,g,v,rfl,eG,hv,hl6,k⟩:=h;have S:Sta H G H [] [(mr ns,v)]:=Sta.enter eG λp hp=>by rw [Qq.mp hp];exact hv
 have two:∀rs:List Rl,1<rs.length->∃ls ra rb,rs=ls++[ra,rb]:=λrs h=>by
  refine ⟨rs.dropLast.dropLast,rs.dropLast.getLast (λz=>?_),rs.getLast (λz=>?_),?_⟩
  ·have:=congrArg List.length z;rw [List.length_dropLast,List.length_nil] at this;omega
  ·rw [z,List.length_nil] at h;omega
  ·rw [show ∀a b:Rl,[a,b]=[a]++[b] from λ_ _=>rfl,<-TX,jac,jac]
 have one:∀rs:List Rl,0<rs.length->∃ls ra,rs=ls++[ra]:=λrs h=>by
  refine ⟨rs.dropLast,rs.getLast (λz=>?_),?_⟩
  ·rw [z,List.length_nil] at h;omega
  ·rw [jac]
 have at1:∀(ls:List Rl) (r:Rl),atI ((ls++[r]).map Rl.shape) (-1)=some r.shape:=λls r=>by
  rw [QO];exact uv _ _
 have at2:∀(ls:List Rl) (r q:Rl),atI ((ls++[r,q]).map Rl.shape) (-2)=some r.shape/\atI ((ls++[r,q]).map Rl.shape) (-1)=some q.shape:=λls r q=>⟨by rw [QO];exact Hm,by rw [show ls++[r,q]=ls++[r]++[q] by simp];exact at1 _ _⟩;walk_at "=ej2AceICb0y3ej4xPb3d7ddej5xb3dflKWosmb5dk1XDab2cdkfj2JRb2UFGdAaqaparb2GdccflKWosmb5dk1XDab2cdkfj2JRb2UFGdAaqaparb2GdccflKWosmb5dkWXDab2cdk1Hb1fj2JRb2UFGdAaqaparb2Gdarb2GdccflKWXb5dk1XDab2cdkfj2JRb2UFGdAaqapagab4carb2Gdarb2Gdccfz2b2agab4ccelosmDab2cdkfiqapcne8XDab2cdkfj2JRb2UFGdAaqapaqadavdDab2ccarb2Gdarb2Gdccfih2";left;rename_i p1 H1 e1 S1;refine yq (xs:=ns.map PyData.int) S1 ‹_› λJ wk=>?_;refine Yd wk (λi σ cs ds=>∃(rs:List Rl) (p:Addr) (x3 x4 x5:Option V),σ=[some v,some (.bl g),some (.ref p),x3,x4,x5]/\cs=[(p,rs.map Rl.shape)]/\ds=[(mr ns,v)]/\(∀r∈rs,PS6 r)/\ndS rs<=i) S1 ⟨[],p1,none,none,none,rfl,rfl,rfl,λr hr=>absurd hr Qv,Qp _⟩ (λi σ cs ds h=>?_) ?_ ?_
 ·obtain ⟨_,_,_,_,_,_,_,rfl,_⟩:=h;exact .mem (by right)
 ·rintro i x u σ H2 cs ds hx ⟨rs,p,x3,x4,x5,rfl,rfl,rfl,My,Px⟩ S2
  obtain ⟨c,hc,rfl⟩:=zU hx;have hi:=(Qf.mp hc).1;cases S2.int1;have S2:=S2.drop1;have ll:=WA rs
  have fin:∀(q:Addr) (ls:List Rl) (r:Rl) (y3 y4 y5:Option V) (H5:Hp),(∀r∈ls,PS6 r)->PS6 r->ndS ls+nd r<=i+1->Sta H G H5 [(q,ls.map Rl.shape++[r.shape])] [(mr ns,v)]->
   AtP H G (λσ cs ds=>∃(rs:List Rl) (p:Addr) (x3 x4 x5:Option V),σ=[some v,some (.bl g),some (.ref p),x3,x4,x5]/\cs=[(p,rs.map Rl.shape)]/\ds=[(mr ns,v)]/\(∀r∈rs,PS6 r)/\ndS rs<=i+1) [some v,some (.bl g),some (.ref q),y3,y4,y5] H5:=by
   intro q ls r y3 y4 y5 H5 h1 h2 h3 S5;refine xR S5 ⟨ls++[r],q,y3,y4,y5,rfl,by rw [QO];rfl,rfl,λz hz=>?_,by rw [ZK];exact h3⟩
   rcases QT.mp hz with z'|z'
   ·exact h1 z z'
   ·rw [Qq.mp z'];exact h2
  left;refine' if2 ?gh1 ?gk1 ?gn1
  case gh1=>
   intro z;left;exact z
  case gk1=>
   intro c1 c2;have c2:=QG c2;rw [Qa] at c2;left;obtain ⟨ls,ra,rfl⟩:=one rs (by omega);have oa:=My ra (by simp);have nn:=ZK ls ra;refine nE S2 (by right) λq3 H3 e3 S3=>?_;rw [show lG ((ls++[ra]).map Rl.shape) none (some (-1))=ls.map Rl.shape by rw [QO];exact um _ _] at S3;left;refine XN (x:=ra.shape) S3 (by right) (at1 ls ra) λw4 S4=>?_;left;rename_i q5 H5 e5 S5 q6 H6 e6 S6;refine .inl (Zp (xs:=ls.map Rl.shape) (zs:=[(Rl.other ra).shape]) S6 (S6.vwC (by right)) (S6.vwC (by right)) (by have:=WA ls;rw [Qa];show _+1<=1000;omega) λq7 H7 e7 S7=>?_);left;exact fin q7 ls (Rl.other ra) _ _ _ H7 (λr hr=>My r (by simp [hr])) oa (by simp only [nd];omega) (S7.weak (by walk_at "sub") (by walk_at "dats"))
  intro _;left;refine' if2 ?gh2 ?gk2 ?gn2
  case gh2=>
   intro z;left;exact z
  case gk2=>
   intro c1 c2;have c2:=QG c2;rw [Qa] at c2;left;obtain ⟨ls,ra,rfl⟩:=one rs (by omega);have oa:=My ra (by simp);have nn:=ZK ls ra;refine nE S2 (by right) λq3 H3 e3 S3=>?_;rw [show lG ((ls++[ra]).map Rl.shape) none (some (-1))=ls.map Rl.shape by rw [QO];exact um _ _] at S3;left;refine XN (x:=ra.shape) S3 (by right) (at1 ls ra) λw4 S4=>?_;left;rename_i q5 H5 e5 S5 q6 H6 e6 S6;refine .inl (Zp (xs:=ls.map Rl.shape) (zs:=[(Rl.ranks ra).shape]) S6 (S6.vwC (by right)) (S6.vwC (by right)) (by have:=WA ls;rw [Qa];show _+1<=1000;omega) λq7 H7 e7 S7=>?_);left;exact fin q7 ls (Rl.ranks ra) _ _ _ H7 (λr hr=>My r (by simp [hr])) oa (by simp only [nd];omega) (S7.weak (by walk_at "sub") (by walk_at "dats"))
  intro _;left;refine' if3 ?gh3 ?gi3 ?gk3 ?gn3
  case gh3=>
   intro z;left;exact z
  case gi3=>
   intro z;left;exact z
  case gk3=>
   intro c1 c2 _;have c2:=QG c2;rw [Qa] at c2;left;obtain ⟨ls,ra,rb,rfl⟩:=two rs (by omega);have oa:=My ra (by simp);have ob:=My rb (by simp);have nn:ndS (ls++[ra,rb])=ndS ls+nd ra+nd rb:=by rw [show ls++[ra,rb]=ls++[ra]++[rb] by simp,ZK,ZK]
   refine nE S2 (by right) λq3 H3 e3 S3=>?_;rw [show lG ((ls++[ra,rb]).map Rl.shape) none (some (-2))=ls.map Rl.shape by rw [QO];exact lF _ _ _] at S3;left;refine XN (x:=ra.shape) S3 (by right) (at2 ls ra rb).1 λw4 S4=>?_;left;refine XN (x:=rb.shape) S4 (by right) (at2 ls ra rb).2 λw5 S5=>?_;left;rename_i q6 H6 e6 S6 q7 H7 e7 S7;refine .inl (Zp (xs:=ls.map Rl.shape) (zs:=[(Rl.groups ra rb).shape]) S7 (S7.vwC (by right)) (S7.vwC (by right)) (by have:=WA ls;rw [Qa];show _+1<=1000;omega) λq8 H8 e8 S8=>?_);left;exact fin q8 ls (Rl.groups ra rb) _ _ _ H8 (λr hr=>My r (by simp [hr])) ⟨oa,ob⟩ (by simp only [nd];omega) (S8.weak (by walk_at "sub") (by walk_at "dats"))
  intro _;left;refine' if2 ?gh4 ?gk4 ?gn4
  case gh4=>
   intro z;left;exact z
  case gk4=>
   intro c1 c2;have c2:=QG c2;rw [Qa] at c2;left;obtain ⟨ls,ra,rb,rfl⟩:=two rs (by omega);have oa:=My ra (by simp);have ob:=My rb (by simp);have nn:ndS (ls++[ra,rb])=ndS ls+nd ra+nd rb:=by rw [show ls++[ra,rb]=ls++[ra]++[rb] by simp,ZK,ZK]
   refine nE S2 (by right) λq3 H3 e3 S3=>?_;rw [show lG ((ls++[ra,rb]).map Rl.shape) none (some (-2))=ls.map Rl.shape by rw [QO];exact lF _ _ _] at S3;left;refine EY S3 λwp Hp t b sm ep Sp=>?_;left;refine XN (x:=ra.shape) Sp (by right) (at2 ls ra rb).1 λw4 S4=>?_;left;refine XN (x:=rb.shape) S4 (by right) (at2 ls ra rb).2 λw5 S5=>?_;left;rename_i q6 H6 e6 S6 q7 H7 e7 S7;refine .inl (Zp (xs:=ls.map Rl.shape) (zs:=[(Rl.upto t b ra rb).shape]) S7 (S7.vwC (by right)) (S7.vwC (by right)) (by have:=WA ls;rw [Qa];show _+1<=1000;omega) λq8 H8 e8 S8=>?_);left;exact fin q8 ls (Rl.upto t b ra rb) _ _ _ H8 (λr hr=>My r (by simp [hr])) ⟨sm.ps,oa,ob⟩ (by simp only [nd];omega) (S8.weak (by walk_at "sub") (by walk_at "dats"))
  intro _;left;refine EZ S2 λw3 H3 n e3 S3=>?_;left;refine xh (y:=(hV n).shape) S3 ‹_› (by rw [Qa];omega) λH4 S4=>?_;left;exact fin p rs (hV n) _ _ _ H4 My (Dn n).1 (by rw [(Dn n).2];omega) (S4.dat (by walk_at "dats"))
 ·rintro σ H2 cs ds ⟨rs,p,x3,x4,x5,rfl,rfl,rfl,My,Px⟩ S2
  rw [Qa] at Px;have ll:=WA rs;left;rw [Qa];refine yJ (λc1=>?_) (λc1=>?_)
  ·left;exact iL (r:= .halves) (by assumption) k ‹_› ⟨0,1,λt=>JOk.of (r:= .halves) trivial (by decide),by decide,by decide⟩
  obtain ⟨ls,y,rfl⟩:=one rs (by omega);have nn:=ZK ls y;left;refine mE (λm σ cs ds=>∃(ls:List Rl) (y:Rl) (p:Addr) (j N:Nat),σ=[some v,some (.bl g),some (.ref p),x3,x4,x5]/\cs=[(p,(ls++[y]).map Rl.shape)]/\ds=[(mr ns,v)]/\(∀r∈ls,PS6 r)/\(∀t,JOk t j N y)/\j+ls.length<=5/\N+ndS ls<=6/\m=ls.length) _ S2 ⟨ls,y,p,0,nd y,rfl,rfl,rfl,λr hr=>My r (by simp [hr]),λt=>JOk.of (My y (by simp)) (by omega),by rw [Qy,Tv] at ll;omega,by omega,rfl⟩ ?_;clear My Px S2 ll nn c1
  rintro m σ H3 cs ds ⟨ls,y,p,j,N,rfl,rfl,rfl,My,hy,hj,hN,rfl⟩ S3
  left;rw [Qa,Qy,Tv];refine qB (λc=>?_) (λc=>?_)
  ·have c:0<ls.length:=by
    have:=QG c;omega
   obtain ⟨ls,ra,rfl⟩:=one ls c;have oa:=My ra (by simp);have nn:=ZK ls ra;have pa:=eE ra;have ll:=WA ls;rw [Qy,Tv] at hj;rw [show ls++[ra]++[y]=ls++[ra,y] by simp] at S3;have hb:(((ls++[ra,y]).map Rl.shape).length:Int)=ls.length+2:=by rw [Qa,Qy];rfl
   left;refine nE S3 (by right) λq4 H4 e4 S4=>?_;rw [show lG ((ls++[ra,y]).map Rl.shape) none (some (-2))=ls.map Rl.shape by rw [QO];exact lF _ _ _] at S4;left;rename_i q5 H5 e5 S5;rw [hb] at S5;refine XN (x:=ra.shape) S5 (by right) (at2 ls ra y).1 λw6 S6=>?_;left;refine XN (x:=y.shape) S6 (by right) (at2 ls ra y).2 λw7 S7=>?_;left;rename_i q8 H8 e8 S8 q9 H9 e9 S9;refine .inl (Zp (xs:=ls.map Rl.shape) (zs:=[(Rl.upto 1 (1+((ls.length:Int)+2)) ra y).shape]) S9 (S9.vwC (by right)) (S9.vwC (by right)) (by rw [Qa];show _+1<=1000;omega) λqa Ha ea Sa=>?_);left;have po:WJ 1 (1+((ls.length:Int)+2)):=⟨⟨by unfold Sz;omega,by unfold Sz;omega⟩,by omega,by omega,Int.gcd_one_left _⟩;refine ⟨ls.length,by simp,_,_,Sa.weak (cs':=[(qa,ls.map Rl.shape++[(Rl.upto 1 (1+((ls.length:Int)+2)) ra y).shape])]) (ds':=[(mr ns,v)]) (by walk_at "sub") (by walk_at "dats"),ls,_,qa,j+1,nd ra+N,rfl,by rw [QO];rfl,rfl,λr hr=>My r (by simp [hr]),λt=>JOk.join po (HU (by omega) (by omega)) (JOk.of oa (by omega)) (hy t),by omega,by omega,rfl⟩
  ·have c:ls=[]:=by
    have:=of_decide_eq_false c;exact List.length_eq_zero_iff.mp (by omega)
   subst c;left;refine XN (x:=y.shape) S3 (by right) rfl λw4 S4=>?_;exact iL (r:=y) S4 k ‹_› ⟨j,N,hy,by omega,by omega⟩
abbrev Wm:Stmt:=top 91
theorem jS:FnScope pah pah (zk Wm):=yR
theorem Cc (sJ:Cal P w K mg base CX0 2 "_law_shape" paB cj) (F:Fun K "_law_second" "_law_second" Wm f fd):FnOk P w K mg base CX0 3 f fd pah (jI K):=by
 refine F.oo jS λH vs Q E hr nd0 h=>?_;obtain ⟨G,a,ns,v,r,kind,rfl,eG,hS,hv,k⟩:=h;have S:Sta H G H [] [(r.shape,v)]:=Sta.enter eG λp hp=>by rw [Qq.mp hp];exact hv
 walk_at "=elosmb2dkfiqapaqapab1ccnelosmb2dkfiqapaqapab1ccnfigaRb0FdFdaNc";left;refine yJ (λz=>?_) (λz0=>?_)
 ·left;exact qx (r:=r) (r':= .other (.other r)) (by assumption) k ‹_› (.inl ⟨z,rfl⟩)
 left;refine yJ (λz=>?_) (λz1=>?_)
 ·left;exact qx (r:=r) (r':= .ranks (.ranks r)) (by assumption) k ‹_› (.inr (.inl ⟨z,rfl⟩))
 left;refine nC S hS λp5 H5 e5 S5=>?_
 have Nz:(Ea ns (some 7) (some 13)).length<=6:=by
  unfold Ea;rw [Tq,show HT.sIx ns.length ns.length (some 13)=min 13 ns.length from HT.sIx_nat _ _ 13,show HT.sIx ns.length 0 (some 7)=min 7 ns.length from HT.sIx_nat _ _ 7];omega
 left;refine Ui S5.freeze ‹_› Nz λw6 H6 r' dr e6 S6=>?_;exact qx (r:=r) (r':=r') S6 k ‹_› (.inr (.inr ⟨z0,z1,dr⟩))
abbrev UU:Stmt:=top 94
theorem qk:FnScope paH paH (zk UU):=yR
theorem Fn (B:Bl mg) (wW:Cal P w K mg base CX0 2 "_law_is_fraction" pav AG) (ju:Cal P w K mg base CX0 1 "_law_less" pae mN) (sI:Cal P w K mg base CX0 1 "_law_whole" pav UL) (F:Fun K "_law_told" "_law_told" UU f fd):FnOk P w K mg base CX0 3 f fd paH pX:=by
 refine F.oo qk λH vs Q E hr nd0 h=>?_;obtain ⟨⟨⟨s1,e1,i⟩,m⟩,hA,⟨zs,ze,hl,hi⟩,k⟩:=h;obtain ⟨v0,v1,rfl,al⟩:=yT hA;have S0:Sta H H H [] [(.int m,v1),(mH s1 e1 i,v0)]:=(Sta.enter (zL.refl _) al).dat (by walk_at "dats");cases S0.int1;have S:Sta H H H [] [(.tuple [frD s1,frD e1, .int (i:Nat)],v0)]:=S0.dat (by walk_at "dats");dsimp only at zs ze hl hi k;have hv:=S.hp (x:= .tuple [frD s1,frD e1, .int (i:Nat)]) (v:=v0) ‹_›;walk_at "=elKSQH-ab0aμtuple;cSoOmDab0cdk5QHgah0cfiNnelKSQHgah0cSQHgah0ah0c5QHgah0cfiNnfi%тh0dk&:h0b1k";left;refine rB rfl ?_;left;refine BB (q:=s1) (by assumption) ‹_› λH1 S1=>?_;left;refine BB (q:=e1) (by assumption) ‹_› λH2 S2=>?_;left;refine qE (p:=s1) (q:=e1) (by assumption) ‹_› ‹_› zs ze (by decide) ?_;rw [QQ hl];left;refine yJ (λ_=>?_) (λh=>absurd (by omega) h);left;rw [QQ hi];exact qy S2 k
local macro_rules|`(tactic|walk_at "rd")=>`(tactic|first|fail "&184"|fail)
section
variable {A:RAd}
abbrev kr:Stmt:=top 95
theorem sc_law:FnScope ["_law_script","_law_first","_law_many","_law_claims_here","_law_kind","_law_shape_here","_law_second_here","_law_one","_law_two","_law_here","_law_there","_law_found","_law_whole_here","_law_cell","_law_purse_here"] ["_law_script"] (zk kr):=yR
theorem ok_law {fS fT fP fQ ZH:Addr} {fdP fdQ:FuncData} (B:Bl mg) (LY:∀r:Rl,ROk K fS fT ZH (A.cls r)) (NF:∀r:Rl,Meth K (A.cls r) "path" fP/\Meth K (A.cls r) "parts" fQ) (VU:FnOk P w K mg base CX0 29 fP fdP paC (jL A 33 10)) (XG:yD K fdP paC []) (bK:FnOk P w K mg base CX0 30 fQ fdQ pax (jM A 33 10)) (bF:yD K fdQ pax [])
 (mj:Cal P w K mg base CX0 1 "_law_cell_at" paA (td K)) (IC:Cal P w K mg base CX0 2 "_law_claims" pak (dg K)) (sJ:Cal P w K mg base CX0 2 "_law_shape" paB cj) (IA:Cal P w K mg base CX0 3 "_law_second" pah (jI K)) (wV:Cal P w K mg base CX0 11 "_law_text" paM (jQ 10)) (Iy:Cal P w K mg base CX0 26 "read" ["text"] (AD A 10)) (uQ:Cal P w K mg base CX0 7 "parted" paq jN) (Kw:Cal P w K mg base CX0 3 "_law_purse" paI qb) (ju:Cal P w K mg base CX0 1 "_law_less" pae mN) (LF:Cal P w K mg base CX0 3 "_law_at" paJ jO) (KD:Cal P w K mg base CX0 3 "_law_told" paH pX)
 (F:Fun K "law" "law" kr f fd):FnOk P w K mg base CX0 31 f fd ["_law_script"] (EJ K):=by
 refine F.oo sc_law λH vs Q E hr nd0 h=>?_;obtain ⟨a,ns,rfl,hS,hlen,_,q⟩:=h;have S:Sta H H H [] []:=Sta.enter (zL.refl _) λp hp=>absurd hp Qv;walk_at "=ej1gab0adcej2vdxb1dej3gab0adab2arAada7ddcxPb1ddcej4xPb1ddej5gaRb0FdFdaNcelosmb4dkfj5gaRb0FdFdaNcnelosmb4dkfj5qapagaRb0FdFdaNccnej6gab0ab5ab4celosmb4dkej5qapcfj6qapaqadadcaqapcaqapccnej7gagab5ccej8gagab6ccej9[b7]a=ab3cceja[b8]a=ab3ccejbga=ab9ca=abaccelKSoOmуbb6k}smb9bakk5KW4b4dk1{bb6kfiNnejc^~aE_law_claim;1;Cb3u0Bh0ceICvAadcRb0Fvdb2Fvdb2ydejegabcabdcelKW{bb6k1HgahbabecfjehbnfloOmgab9abecgabaabeckfiNnelфbb6kfiNnelQHgabbab2cfiNneloOmνb7ξa=ab3cahbcgab9ahbckfiNnfi}Omrνb8ξa=ab3cahbchbrgab9ahbchbk";left;generalize fD ns 0=c at*;rename_i p1 H1 e1 S1
 obtain ⟨size,RQ,Pr,Nl⟩:∃n:Int,atI [PyData.int 10, .int (10 ^ Int.toNat 9)] (c / 5 % 2)=some (.int n)/\10<=n/\n<=10 ^ 9:=by
  rcases (by omega:c / 5 % 2=0\/c / 5 % 2=1) with h|h<;>rw [h]
  ·exact ⟨10,rfl,by decide,by decide⟩
  ·exact ⟨10 ^ Int.toNat 9,rfl,by decide,by decide⟩
 refine Jj S1 (by right) RQ ?_;have S2:Sta H H H1 [] []:=S1.dropC;clear S1;have hS1:SqL K H1 a (ns.map V.int):=S2.base.seq hS;left;have p46:(10:Int) ^ 9<=10 ^ 46:=by decide+kernel
 refine vq S2 hS1 ⟨by decide,by omega,by omega,Pr,by omega⟩ λl p3 H3 hl Sy e3 S3=>?_
 have Mc:ClS 33 l:=Sy.S (s:=30) (by omega) (by
  have:(10:Int) ^ 9<=2 ^ 30:=by decide+kernel
  omega)
 have few:=Sy.few;have em:1+c % 5=((l.length:Nat):Int):=by omega
 rw [em];clear hl RQ Sy p46 Pr Nl;have S4:Sta H H H3 [] [(zA l, .ref p3)]:=S3.freeze;clear S3 S2;have hS3:SqL K H3 a (ns.map V.int):=S4.base.seq hS
 have Nz:∀k:Nat,k<=7->(Ea ns (some 1) (some (k:Int))).length<=6:=λk hk=>by
  unfold Ea;rw [Tq,show HT.sIx ns.length ns.length (some (k:Int))=min k ns.length from HT.sIx_nat _ _ k,show HT.sIx ns.length 0 (some 1)=min 1 ns.length from HT.sIx_nat _ _ 1];omega
 left;refine nC S4 hS3 λp5 H5 e5 S5=>?_;left;refine Ui S5.freeze ‹_› (Nz 7 (by decide)) λw6 H6 r0 NJ e6 S6'=>?_;have S6:Sta H H H6 [] [(r0.shape,w6),(zA l, .ref p3)]:=S6'.dat (by walk_at "dats");clear S6' S5 S4;have hk:0<=c / 10 % 5/\c / 10 % 5<5:=by omega
 generalize c / 10 % 5=kind at*;refine zF (YR ?_);refine WQ (AtP H H (λσ cs ds=>∃(w:V) (r:Rl),σ=[some (.ref a),some (.int c),some (.int (l.length:Nat)),some (.ref p3),some (.int kind),some w,none,none,none,none,none,none,none,none,none]/\cs=[]/\ds=[(r.shape,w),(zA l, .ref p3)]/\Drn r)) ?_ (λnxt=>?_)
 rotate_left
 ·left;refine yJ (λz=>?_) (λz=>?_)
  ·left;refine nC S6 (S6.base.seq hS) λp7 H7 e7 S7=>?_;left;refine Ui S7.freeze ‹_› (Nz 6 (by decide)) λw8 H8 r8 dr8 e8 S8=>?_;refine zF (YR ?_);exact nxt _ _ (xR (S8.dat (by walk_at "dats")) ⟨w8,r8,rfl,rfl,rfl,dr8⟩)
  ·refine Wt (YR ?_);exact nxt _ _ (xR S6 ⟨w6,r0,rfl,rfl,rfl,NJ⟩)
 clear S6 NJ r0 w6
 rintro σ H6 ⟨cs,ds,S6,w6,r0,rfl,rfl,rfl,NJ⟩
 refine WQ (AtP H H (λσ cs ds=>∃(w:V) (r:Rl),σ=[some (.ref a),some (.int c),some (.int (l.length:Nat)),some (.ref p3),some (.int kind),some w,none,none,none,none,none,none,none,none,none]/\cs=[]/\ds=[(r.shape,w),(zA l, .ref p3)]/\((kind=1/\∃r',r= .ranks r'/\Drn r')\/(kind≠1/\Drn r)))) ?_ (λnxt=>?_)
 rotate_left
 ·left;refine yJ (λz=>?_) (λz=>?_)
  ·left;refine nC S6 (S6.base.seq hS) λp7 H7 e7 S7=>?_;left;refine Ui S7.freeze ‹_› (Nz 6 (by decide)) λw8 H8 r8 dr8 e8 S8=>?_;refine Bu (qF S8 (by walk_at "hasall") (jai rfl) λw9 H9 e9 S9=>zF (YR ?_));exact nxt _ _ (xR (S9.dat (by walk_at "dats")) ⟨_, .ranks r8,rfl,rfl,rfl, .inl ⟨z,r8,rfl,dr8⟩⟩)
  ·refine Wt (YR ?_);exact nxt _ _ (xR S6 ⟨w6,r0,rfl,rfl,rfl, .inr ⟨z,NJ⟩⟩)
 clear S6 NJ r0 w6
 rintro σ H6 ⟨cs,ds,S6,w6,r0,rfl,rfl,rfl,NJ⟩
 left;refine Bp S6 (S6.base.seq hS) ‹_› λw7 H7 r1 sn e7 S7'=>?_;have S7:Sta H H H7 [] [(r1.shape,w7),(r0.shape,w6),(zA l, .ref p3)]:=S7'.dat (by walk_at "dats");clear S7' S6
 have hT:kind≠2->Two r0/\Two r1/\(kind<3->zo r0 l=zo r1 l):=λn2=>by
  rcases sn with ⟨k0,rfl⟩|⟨k1,rfl⟩|⟨n0,n1,d1⟩
  ·rcases NJ with ⟨z,_⟩|⟨_,d0⟩
   ·omega
   ·obtain ⟨ru,dp,sz⟩:=d0.two;exact ⟨⟨ru,by omega,by omega⟩,⟨ru.up1.1.up1.1,by simp only [Rl.deep];omega,by simp only [Rl.size];omega⟩,λ_=>(qL ru.pok Mc.n1).symm⟩
  ·rcases NJ with ⟨_,r',rfl,d0⟩|⟨z,_⟩
   ·obtain ⟨ru,dp,sz⟩:=d0.two;exact ⟨⟨ru.up1.2,by simp only [Rl.deep];omega,by simp only [Rl.size];omega⟩,⟨ru.up1.2.up1.2.up1.2,by simp only [Rl.deep];omega,by simp only [Rl.size];omega⟩,λ_=>(qK ru.pok Mc.n1).symm⟩
   ·exact absurd k1 z
  ·rcases NJ with ⟨z,_⟩|⟨_,d0⟩
   ·exact absurd z n1
   ·obtain ⟨ru,dp,sz⟩:=d0.two;obtain ⟨ru',dp',sz'⟩:=d1.two;exact ⟨⟨ru,by omega,by omega⟩,⟨ru',by omega,by omega⟩,λz=>absurd z (by omega)⟩
 refine zF (YR ?_);refine WQ (AtP H H (λσ cs ds=>∃(w w':V) (r r':Rl),σ=[some (.ref a),some (.int c),some (.int (l.length:Nat)),some (.ref p3),some (.int kind),some w,some w',none,none,none,none,none,none,none,none]/\cs=[]/\ds=[(r'.shape,w'),(r.shape,w),(zA l, .ref p3)]/\Two r/\Two r'/\(kind<3->zo r l=zo r' l))) ?_ (λnxt=>?_)
 rotate_left
 ·left;refine yJ (λz=>?_) (λz=>?_)
  ·refine HK ?_
   repeat (first|with_reducible refine' BG ?_|with_reducible refine' HH ?_|with_reducible refine' BE ?_|with_reducible refine' Bu ?_|with_reducible refine' rd_c ?_|(refine qF (by assumption) (by walk_at "hasall") (jai rfl) λp H' e S=>?_))
   refine zF (YR ?_)
   repeat (first|with_reducible refine' BG ?_|with_reducible refine' HH ?_|with_reducible refine' BE ?_|with_reducible refine' Bu ?_|with_reducible refine' rd_c ?_|(refine qF (by assumption) (by walk_at "hasall") (jai rfl) λp H' e S=>?_))
   refine zF (YR ?_);rename_i pa Ha ea Sa pb Hb eb Sb pc Hc ec Sc pd Hd ed Sd;exact nxt _ _ (xR (S.dat (by walk_at "dats")) ⟨.ref pa, .ref p, .halves, .upto 1 2 .evenly .losses,rfl,rfl,rfl,iD.1,iD.2,λ_=>(qM l).symm⟩)
  ·refine Wt (YR ?_);exact nxt _ _ (xR S7 ⟨w6,w7,r0,r1,rfl,rfl,rfl,hT z⟩)
 clear hT sn NJ S7 r0 r1 w6 w7
 rintro σ H7 ⟨cs,ds,S7,w6,w7,r0,r1,rfl,rfl,rfl,t0,t1,Pp⟩
 left;refine WT (r:=r0) S7 ‹_› (Rl.ok_of t0.ru.pok) t0.size t0.deep λH8 S8=>?_;left;refine Bq (A:=A) (r:=r0) S8 (Rl.ok_of t0.ru.pok) t0.size t0.deep λw9 H9 e9 S9=>?_;left;refine WT (r:=r1) S9 ‹_› (Rl.ok_of t1.ru.pok) t1.size t1.deep λNq Mr=>?_;left;refine Bq (A:=A) (r:=r1) Mr (Rl.ok_of t1.ru.pok) t1.size t1.deep λMQ OL OU MC=>?_;left;have MP:Sta H H OL [] [(r1.ins A,MQ),(r0.ins A,w9),(zA l, .ref p3)]:=MC.dat (by walk_at "dats");clear S7 S8 S9 Mr MC;refine nM (C:=A.cls r0) MP ‹_› (LY r0).cl (NF r0).1 (by decide+kernel) ?_;left;rename_i q13 Sg e13 MO;refine kE (r:=r0) (l:=l) MO.freeze ‹_› ‹_› t0.ru t0.deep Mc λNa OX e14 Nh=>?_;have Ol:Sta H H OX [] [(zE (zo r0 l), .ref Na),(r1.ins A,MQ),(r0.ins A,w9),(zA l, .ref p3)]:=Nh.freeze.dat (by walk_at "dats");clear MP MO Nh;left;refine nM (C:=A.cls r1) Ol ‹_› (LY r1).cl (NF r1).1 (by decide+kernel) ?_;left;rename_i q16 H16 e16 Rm;refine kE (r:=r1) (l:=l) Rm.freeze ‹_› ‹_› t1.ru t1.deep Mc λNk H17 e17 Rj=>?_;have S18:Sta H H H17 [] [(zE (zo r1 l), .ref Nk),(zE (zo r0 l), .ref Na),(r1.ins A,MQ),(r0.ins A,w9),(zA l, .ref p3)]:=Rj.freeze.dat (by walk_at "dats");clear Ol Rm Rj;have gX:=(t0.ru.gf Mc).ful;have gY:=(t1.ru.gf Mc).ful;have rX:=t0.ru.R Mc;have rY:=t1.ru.R Mc;have lX:=t0.ru.few Mc;have lY:=t1.ru.few Mc;have aX:∀e,Yb (zo r0 l) e=zh (zo r0 l) e:=t0.ru.lawAt Mc;have aY:∀e,Yb (zo r1 l) e=zh (zo r1 l) e:=t1.ru.lawAt Mc;refine zF (YR ?_);refine WQ (AtP H H (λσ cs ds=>∃(fd:PyData) (vf:V),σ=[some (.ref a),some (.int c),some (.int (l.length:Nat)),some (.ref p3),some (.int kind),some w6,some w7,some w9,some MQ,some (.ref Na),some (.ref Nk),some vf,none,none,none]/\cs=[]/\ds=[(fd,vf),(zE (zo r1 l), .ref Nk),(zE (zo r0 l), .ref Na),(r1.ins A,MQ),(r0.ins A,w9),(zA l, .ref p3)]/\Fnd l.length (zo r0 l) (zo r1 l) fd vf)) ?_ (λnxt=>?_)
 rotate_left
 ·left;rename_i p19 H19 e19 S19 p20 Se e20 MN;refine Bs (a:=zo r0 l) (b:=zo r1 l) (n:=700) (m:=l.length) MN.freeze.freeze ‹_› ‹_› ⟨rX,rY,by decide,λc hc=>(gX.std.ok c hc).1,λc hc=>(gY.std.ok c hc).1,by omega,by omega⟩ (λH22 e22 RZ OF=>?_) (λvf H22 k i s' e x y e22 RZ Mt hj hs hx hy Ma=>?_)
  ·refine zF (YR ?_);exact nxt _ _ (xR (RZ.dat (by walk_at "dats")) ⟨.none, .non,rfl,rfl,rfl,GK gX gY OF⟩)
  ·have hvf:=RZ.hp (x:= .tuple [frD s',frD e, .int (i:Nat)]) (v:=vf) ‹_›
   obtain ⟨rf,hrf⟩:∃r,vf= .ref r:=by
    rw [Is] at hvf;obtain ⟨p,_,h,_⟩:=hvf;exact ⟨p,h⟩
   subst hrf;refine zF (YR ?_);exact nxt _ _ (xR (RZ.dat (by walk_at "dats")) ⟨mH s' e i, .ref rf,rfl,rfl,rfl,GJ gX gY rX rY Mt hj hs hx hy Ma⟩)
 clear S18
 rintro σ Se ⟨cs,ds,MN,fd,vf,rfl,rfl,rfl,hfd⟩
 refine WQ (AtP H H (λσ cs ds=>σ=[some (.ref a),some (.int c),some (.int (l.length:Nat)),some (.ref p3),some (.int kind),some w6,some w7,some w9,some MQ,some (.ref Na),some (.ref Nk),some vf,none,none,none]/\cs=[]/\ds=[(fd,vf),(zE (zo r1 l), .ref Nk),(zE (zo r0 l), .ref Na),(r1.ins A,MQ),(r0.ins A,w9),(zA l, .ref p3)])) ?_ (λnxt=>?_)
 rotate_left
 ·rcases hfd with ⟨rfl,rfl,NR⟩|⟨rf,s',e,i,x,y,rfl,rfl,NR,_⟩
  ·left;refine ⟨rfl,?_⟩;left;refine BC (x:=zE (zo r0 l)) (y:=zE (zo r1 l)) (MN.hp ‹_›) (MN.hp ‹_›) (Xo _) (Xo _) ?_;rw [oI,QQ NR];left;refine rB (QQ rfl) ?_;left;refine yJ (λ_=>?_) (λ_=>?_)
   ·left;refine ⟨rfl,?_⟩;left;refine bE (λh=>absurd rfl h) (λ_=>Wt (YR ?_));exact nxt _ _ (xR MN ⟨rfl,rfl,rfl⟩)
   ·exact iteF (Wt (YR (nxt _ _ (xR MN ⟨rfl,rfl,rfl⟩))))
  ·left;refine ⟨rfl,?_⟩;left;refine BC (x:=zE (zo r0 l)) (y:=zE (zo r1 l)) (MN.hp ‹_›) (MN.hp ‹_›) (Xo _) (Xo _) ?_;rw [oI,QY NR];left;refine rB (QY (by intro h;cases h)) ?_;left;refine yJ (λz=>absurd (Pp z) NR) (λ_=>?_);exact iteF (Wt (YR (nxt _ _ (xR MN ⟨rfl,rfl,rfl⟩))))
 clear MN
 rintro σ Se ⟨cs,ds,MN,rfl,rfl,rfl⟩
 left;refine yq (xs:=l.map yc) MN ‹_› λJ9 wk9=>?_;refine xF wk9 (λj=> .int (l.getD j (0,0,0)).1) (ys:=(amV l).map PyData.int) (by unfold amV;rw [Qa,QR];exact zH (λc:Cl=>PyData.int c.1) (0,0,0) l) MN (λj x v=>λhx t1 S hd=>?_) λD10 H15 e15 U15=>?_
 ·obtain ⟨c,hc,rfl⟩:=zU hx;refine zF ⟨rfl,?_⟩;left;refine hd (by assumption) ?_;rw [yh hc];exact Has.int
 have ok:ClOk 160 l:=Mc.ok (by decide);have sum:=ok.am.sum;left;generalize (amV l).sum=wh at*;rename_i p16 H16 e16 U16;clear MN;have hS16:SqL K H16 a (ns.map V.int):=U16.base.seq hS;refine nC U16 hS16 λPe H17 e17 RY=>?_;have NH:(Ea ns (some (13+(l.length:Int))) (some (21+(l.length:Int)))).length<=63:=by unfold Ea;rw [Tq,Ti];omega
 generalize Ea ns (some (13+(l.length:Int))) (some (21+(l.length:Int)))=cells at*;refine Zp RY (RY.vwC (by right)) (RY.vwC (by right)) (by rw [Qa];show 1+_<=1000;omega) λPe H18 e18 U18=>?_;rw [show [PyData.int 0]++cells.map PyData.int=(0::cells).map PyData.int from rfl] at U18;have U19:Sta H H H18 [] [(mr (0::cells), .ref Pe),(fd,vf),(zE (zo r1 l), .ref Nk),(zE (zo r0 l), .ref Na),(r1.ins A,MQ),(r0.ins A,w9),(zA l, .ref p3)]:=U18.freeze.weak (by walk_at "sub") (by walk_at "dats");clear U15 U16 RY U18;refine yq (xs:=(0::cells).map PyData.int) U19 ‹_› λJ wk=>?_;refine Yd wk (λi σ cs ds=>(∃Si Sh,σ=[some (.ref a),some (.int c),some (.int (l.length:Nat)),some (.ref p3),some (.int kind),some w6,some w7,some w9,some MQ,some (.ref Na),some (.ref Nk),some vf,some (.int wh),Si,Sh])/\cs=[]/\ds=[(mr (0::cells), .ref Pe),(fd,vf),(zE (zo r1 l), .ref Nk),(zE (zo r0 l), .ref Na),(r1.ins A,MQ),(r0.ins A,w9),(zA l, .ref p3)]) U19 ⟨⟨_,_,rfl⟩,rfl,rfl⟩ (λi σ cs ds h=>?_) ?_ ?_
 ·obtain ⟨_,rfl,rfl⟩:=h;exact .mem (by right)
 ·rintro i x u σ Se cs ds hx ⟨⟨Si,Sh,rfl⟩,rfl,rfl⟩ OW
  obtain ⟨y,hy,rfl⟩:=zU hx;cases OW.int1;left;refine EX OW ⟨sum.1,sum.2.mono (by decide)⟩ λSk H21 e ⟨g0,gz⟩ e21 U21'=>?_;have Ri:Sta H H H21 [] [(frD e,Sk),(mr (0::cells), .ref Pe),(fd,vf),(zE (zo r1 l), .ref Nk),(zE (zo r0 l), .ref Na),(r1.ins A,MQ),(r0.ins A,w9),(zA l, .ref p3)]:=U21'.dat (by walk_at "dats");clear OW U21';refine zF (YR ?_);refine WQ (AtP H H (λσ cs ds=>∃(e:Rat) (w:V),σ=[some (.ref a),some (.int c),some (.int (l.length:Nat)),some (.ref p3),some (.int kind),some w6,some w7,some w9,some MQ,some (.ref Na),some (.ref Nk),some vf,some (.int wh),some (.int y),some w]/\cs=[]/\ds=[(frD e,w),(mr (0::cells), .ref Pe),(fd,vf),(zE (zo r1 l), .ref Nk),(zE (zo r0 l), .ref Na),(r1.ins A,MQ),(r0.ins A,w9),(zA l, .ref p3)]/\SzQ 700 e/\zh (zo r0 l) e=zh (zo r1 l) e)) ?_ (λnxt=>?_)
  rotate_left
  ·rcases hfd with ⟨rfl,rfl,NR⟩|⟨rf,s',e',i',x',y',rfl,rfl,NR,⟨s0,zs⟩,_,SH,_⟩
   ·left;refine ⟨rfl,?_⟩;left;refine bE (λh=>absurd rfl h) (λ_=>?_);exact iteF (Wt (YR (nxt _ _ (xR Ri ⟨e,Sk,rfl,rfl,rfl,gz.mono (by decide),by rw [NR]⟩))))
   ·left;refine ⟨rfl,?_⟩;left;refine bE (λ_=>?_) (λh=>by cases h);left;rename_i w22 OK;refine qE (p:=s') (q:=e) OK ‹_› ‹_› zs gz (by decide) ?_;left;refine yJ (λz=>?_) (λz=>?_)
    ·refine BG (rd_op (rd_var rfl (rd_c ?_)));refine Ul (xs:=[frD s',frD e', .int (i':Nat)]) (x:=frD s') OK ‹_› rfl λSj OV=>zF (YR ?_);exact nxt _ _ (xR (OV.dat (by walk_at "dats")) ⟨s',Sj,rfl,rfl,rfl,zs,SH s' s0 QL⟩)
    ·refine Wt (YR ?_);exact nxt _ _ (xR (OK.dat (by walk_at "dats")) ⟨e,Sk,rfl,rfl,rfl,gz.mono (by decide),SH e g0 (QX.mp z)⟩)
  clear Ri gz g0
  rintro σ H22 ⟨cs,ds,OK,e,w22,rfl,rfl,rfl,ze,heq⟩
  left;refine Uj (e:=e) OK ‹_› ‹_› rX.r0 ze (by decide) λSj H23 e23 OV=>?_;left;refine Uj (e:=e) OV ‹_› ‹_› rY.r0 ze (by decide) λw24 H24 e24 Rh=>?_;left;refine nJ (x:=zO (Yb (zo r0 l) e)) (y:=zO (Yb (zo r1 l) e)) (Rh.hp ‹_›) (Rh.hp ‹_›) (ZI _) (ZI _) ?_;rw [jc,QQ (by rw [aX,aY];exact heq)];left;exact xR (Rh.dat (by walk_at "dats")) ⟨⟨_,_,rfl⟩,rfl,rfl⟩
 rintro σ Se cs ds ⟨⟨Si,Sh,rfl⟩,rfl,rfl⟩ OW
 rcases hfd with ⟨rfl,rfl,NR⟩|⟨rf,s',e,i,x,y,rfl,rfl,NR,⟨s0,zs⟩,⟨Po,ze⟩,SH,hx,hy,Ma,him⟩
 ·left;refine ⟨rfl,?_⟩;left;refine yJ (λ_=>?_) (λh=>absurd rfl h);left;exact q _
 ·left;refine ⟨rfl,?_⟩;left;refine yJ (λh=>by cases h) (λ_=>?_);left;refine EV (s:=s') (e:=e) (i:=i) OW ‹_› zs ze Po (by omega) λH21 Ri=>?_;left;refine nM (C:=A.cls r0) Ri ‹_› (LY r0).cl (NF r0).2 (by decide+kernel) ?_;left;rename_i p22 H22 e22 OK Sj OV;have e0:0<=e:=Tw s0 (QJ Po);refine nI (r:=r0) (l:=l) (e:=e) OV.freeze ‹_› ‹_› ‹_› t0.ru t0.deep Mc (ze.mono (by decide)) e0 λw24 H24 e24 Rh=>?_;clear OW Ri OK OV;left;rename_i w25 U25;refine Uj (e:=e) U25 ‹_› ‹_› rX.r0 ze (by decide) λw26 H26 e26 Rg=>?_;rw [aX] at Rg;left;refine nJ (x:=zO (zh (zo r0 l) e)) (y:=zO (zh (zo r0 l) e)) (Rg.hp ‹_›) (Rg.hp ‹_›) (ZI _) (ZI _) ?_;rw [SeqAt.eqv_refl _ (fe _)];have U27:Sta H H H26 [] [(mH s' e i, .ref rf),(zE (zo r0 l), .ref Na),(r1.ins A,MQ),(zA l, .ref p3)]:=Rg.dat (by walk_at "dats");clear Rh U25 Rg;unfold mH at U27;left;refine nM (C:=A.cls r1) U27 ‹_› (LY r1).cl (NF r1).2 (by decide+kernel) ?_;left;rename_i p28 H28 e28 U28 w29 U29;refine nI (r:=r1) (l:=l) (e:=e) U29.freeze ‹_› ‹_› ‹_› t1.ru t1.deep Mc (ze.mono (by decide)) e0 λw30 H30 e30 U30=>?_;clear U27 U28 U29;left;refine Ul (xs:=(zh (zo r1 l) e).map frD) (x:=frD y) U30 ‹_› (yC (by rw [Qi,hy];rfl)) λw31 U31=>?_;left;rename_i w32 U32;refine Uj (e:=e) U32 ‹_› ‹_› rX.r0 ze (by decide) λw33 H33 e33 U33=>?_;rw [aX] at U33;left;refine Ul (xs:=(zh (zo r0 l) e).map frD) (x:=frD x) U33 ‹_› (yC (by rw [Qi,hx];rfl)) λw34 U34=>?_;left;refine nJ (x:=frD y) (y:=frD x) (U34.hp ‹_›) (U34.hp ‹_›) (xQ _) (xQ _) ?_;rw [aD,QY (Ne.symm Ma)];left;exact q _
end
end
theorem all_mk {l:PySem.W.OpenLaw} {w:World} {K:PySem.W.Frag} {h:Heap} {mg:Str->Option Value} {fa:Addr} (X:K.In h) (G:h.Ns mainGlobals mg) (hfa:mg "law"=some (.ref fa))
 {f1 f2 f3 f4 f5 f6 f7 f8 f9 f10 f11 f12 f13 f14 f15 f16 f17 f18 f19 f20 f21 f22 f23 f24 f25 f26 f27 f28 f29 f30 f31 f32 f33 f34 f35 f36 f37 f38 f39 f40 f41 f42 f43 f44 f45 f46 f47 f48 f49 f50 f51 f52 f53 f54 f55 f56 f57 f58 f59 f60 f61 f62 f63 f64 f65 f66 f67 f68:Addr} {d1 d2 d3 d4 d5 d6 d7 d8 d9 d10 d11 d12 d13 d14 d15 d16 d17 d18 d19 d20 d21 d22 d23 d24 d25 d26 d27 d28 d29 d30 d31 d32 d33 d34 d35 d36 d37 d38 d39 d40 d41 d42 d43 d44 d45 d46 d47 d48 d49 d50 d51 d52 d53 d54 d55 d56 d57 d58 d59 d60 d61 d62 d63 d64 d65 d66 d67:FuncData} {od68 an68:Option Addr} {sl68:Array (Option Value)} {oc68 kV68 dc68 pm68 cd68 ct68:Value}
 (D1:DkT K mg "check_claims" YC f1 d1 pan)
 (D2:DkT K mg "those_at" US f2 d2 paD)
 (D3:DkT K mg "places_of_rank" Zz f3 d3 paP)
 (D4:DkT K mg "places_of_group" Zh f4 d4 paj)
 (D5:DkT K mg "as_one_claim" YD f5 d5 paj)
 (D6:DkT K mg "fraction" aa f6 d6 pal)
 (D7:DkT K mg "plus" Bc f7 d7 paa)
 (D8:DkT K mg "minus" qv f8 d8 paa)
 (D9:DkT K mg "times" qu f9 d9 paa)
 (D10:DkT K mg "over" Bd f10 d10 paa)
 (D11:DkT K mg "before" kA f11 d11 paa)
 (D12:DkT K mg "is_whole" UZ f12 d12 ["number"])
 (D13:DkT K mg "lowest" km f13 d13 pal)
 (D14:DkT K mg "greatest_divisor" xV f14 d14 paa)
 (D15:DkT K mg "thinned" dF f15 d15 ["corners"])
 (D16:DkT K mg "parts_at" UT f16 d16 paT)
 (D17:DkT K mg "turned" jZ f17 d17 ["path"])
 (D18:DkT K mg "scaled" kg f18 d18 paW)
 (D19:DkT K mg "behind" kz f19 d19 paq)
 (D20:DkT K mg "within" jY f20 d20 paZ)
 (D21:DkT K mg "parted" ki f21 d21 paq)
 (D22:DkT K mg "is_straight" Xv f22 d22 paK)
 (D23:DkT K mg "gap" IW f23 d23 paa)
 (D24:DkT K mg "parts_between" ZU f24 d24 paV)
 (D25:DkT K mg "portion_reached" Zg f25 d25 pay)
 (D26:DkT K mg "amount_at" VM f26 d26 paw)
 (D27:DkT K mg "plus_each" VF f27 d27 paf)
 (D28:DkT K mg "less_each" VG f28 d28 paf)
 (D29:DkT K mg "last_reached" YA f29 d29 paQ)
 (D30:DkT K mg "purses_reaching" Zf f30 d30 paR)
 (D31:DkT K mg "parts_within" Yz f31 d31 paS)
 (D32:DkT K mg "merged" kj f32 d32 paf)
 (D33:DkT K mg "first_unlike" YB f33 d33 paf)
 (D34:DkT K mg "course" kv f34 d34 paz)
 (D35:DkT K mg "shares" kf f35 d35 pan)
 (D36:DkT K mg "evenly" ku f36 d36 pan)
 (D37:DkT K mg "losses" ko f37 d37 pan)
 (D38:DkT K mg "ranks" kh f38 d38 paY)
 (D39:DkT K mg "groups" cv f39 d39 paF)
 (D40:DkT K mg "upto" Ba f40 d40 paE)
 (D41:DkT K mg "nothing" dG f41 d41 ["count"])
 (D42:DkT K mg "whole_corner" Yw f42 d42 ["parts"])
 (D43:DkT K mg "spread" kd f43 d43 pao)
 (D44:DkT K mg "spread_parts" Yx f44 d44 paN)
 (D45:DkT K mg "read" Bb f45 d45 ["text"])
 (D46:DkT K mg "read_rule" Xq f46 d46 pau)
 (D47:DkT K mg "read_word" VE f47 d47 pau)
 (D48:DkT K mg "read_within_brackets" yI f48 d48 paX)
 (D49:DkT K mg "read_portion" Yy f49 d49 pau)
 (D50:DkT K mg "read_number" Xr f50 d50 pau)
 (D51:DkT K mg "_law_cell_at" Xu f51 d51 paA)
 (D52:DkT K mg "_law_mixed" VL f52 d52 paO)
 (D53:DkT K mg "_law_divisor" Xt f53 d53 pae)
 (D54:DkT K mg "_law_lowest" Wn f54 d54 paG)
 (D55:DkT K mg "_law_whole" VH f55 d55 pav)
 (D56:DkT K mg "_law_is_fraction" Zi f56 d56 pav)
 (D57:DkT K mg "_law_labels" Wo f57 d57 ["_law_number"])
 (D58:DkT K mg "_law_claims" Wq f58 d58 pak)
 (D59:DkT K mg "_law_portion" Xs f59 d59 paL)
 (D60:DkT K mg "_law_leaf" UY f60 d60 paL)
 (D61:DkT K mg "_law_shape" VI f61 d61 paB)
 (D62:DkT K mg "_law_text" UW f62 d62 paM)
 (D63:DkT K mg "_law_purse" VJ f63 d63 paI)
 (D64:DkT K mg "_law_second" Wm f64 d64 pah)
 (D65:DkT K mg "_law_less" UX f65 d65 pae)
 (D66:DkT K mg "_law_at" kq f66 d66 paJ)
 (D67:DkT K mg "_law_told" UU f67 d67 paH)
 (a68:PySem.W.nsIn K mainGlobals "law"=some (some (.ref f68))) (l68:K.lookup f68=some ⟨oc68,od68, .func (PySem.W.fnOf "law" "law" (ZE kr) (Zb kr) (zk kr) .none kV68 dc68 pm68 an68 cd68 ct68),sl68⟩) (c68:PySem.W.codeIn K cd68 "law"=true) (k68:PySem.W.keepIn K (.ref f68)=true)
 {ZH WZ Vd Va Vb aL aK Vc jd WI yi yA yH yt YW Xa YX YY XS XR YZ WH:Addr} {fB oK rN rO oM aF aJ aG aH bR bQ aI fA:FuncData} {t_MOST:Tok} (KJ:PySem.W.nsIn K mainGlobals "Rule"=some (some (.ref ZH))) (yu:PySem.W.findCls K (.ref ZH) (.type "type") "__init__"=some (.val (.ref WI)))
 (Et:PySem.W.nsIn K mainGlobals "Shares"=some (some (.ref WZ)))
 (Ey:PySem.W.nsIn K mainGlobals "Evenly"=some (some (.ref Vd)))
 (Eu:PySem.W.nsIn K mainGlobals "Losses"=some (some (.ref Va)))
 (Ew:PySem.W.nsIn K mainGlobals "Halves"=some (some (.ref Vb)))
 (IF:PySem.W.nsIn K mainGlobals "Other"=some (some (.ref aL)))
 (IE:PySem.W.nsIn K mainGlobals "Ranks"=some (some (.ref aK)))
 (Ex:PySem.W.nsIn K mainGlobals "Groups"=some (some (.ref Vc)))
 (KI:PySem.W.nsIn K mainGlobals "Upto"=some (some (.ref jd)))
 (lV:CkT K WZ YW ZH yi yA yH yt)
 (mf:CkT K Vd Xa ZH yi yA yH yt)
 (lW:CkT K Va YX ZH yi yA yH yt)
 (lZ:CkT K Vb YY ZH yi yA yH yt)
 (sF:CkT K aL XS ZH yi yA yH yt)
 (sE:CkT K aK XR ZH yi yA yH yt)
 (md:CkT K Vc YZ ZH yi yA yH yt)
 (DT:CkT K jd WH ZH yi yA yH yt)
 (fU:FkT K "__init__" "Rule.__init__" ZX WI fB pac)
 (pC:FkT K "shape" "Rule.shape" Wr yi oK pab)
 (sC:FkT K "text" "Rule.text" dH yA rN pab)
 (sD:FkT K "path" "Rule.path" VO yH rO paC)
 (pF:FkT K "parts" "Rule.parts" Ws yt oM pax)
 (aV:FkT K "__init__" "Shares.__init__" Zj YW aF pab)
 (bf:FkT K "__init__" "Evenly.__init__" Zn Xa aJ pab)
 (aW:FkT K "__init__" "Losses.__init__" Zk YX aG pab)
 (aZ:FkT K "__init__" "Halves.__init__" Zl YY aH pab)
 (bX:FkT K "__init__" "Other.__init__" ZC XS bR pai)
 (bW:FkT K "__init__" "Ranks.__init__" ZA XR bQ pai)
 (ba:FkT K "__init__" "Groups.__init__" Zm YZ aI pas)
 (fR:FkT K "__init__" "Upto.__init__" ZW WH fA pag)
 (yX:PySem.W.isFn K (.ref yi)=true) (xo:PySem.W.isFn K (.ref yA)=true) (xp:PySem.W.isFn K (.ref yH)=true) (yY:PySem.W.isFn K (.ref yt)=true) (x_MOST:PySem.W.nsIn K mainGlobals "MOST"=some (some (.int 8 t_MOST)))
 (Wf:PySem.W.specialIn K (.ref ZH) "__getattribute__"=some (some (.builtin "type.__getattribute__"))) (Wx:PySem.W.readsIn K ZH (.type "type")=true) (NG:PySem.W.specialIn K (.builtin "object.__class__") "__get__"=some (some (.builtin "getset_descriptor.__get__"))) (NZ:PySem.W.takesIn K (.builtin "object.__class__")=some true)
 {Ys c_WORDS c_FIGURES Za XC ZM:Addr} {fv rM lE:FuncData} {tWORDS0 tWORDS1 tWORDS2 tWORDS3 tWORDS4 tWORDS5 tWORDS6 tWORDS7 tFIGURES0 tFIGURES1 tFIGURES2 tFIGURES3 tFIGURES4 tFIGURES5 tFIGURES6 tFIGURES7 tFIGURES8 tFIGURES9:Tok} {n_WORDS n_FIGURES:Nat} {sl_WORDS sl_FIGURES:Array (Option Value)} (KH:PySem.W.nsIn K mainGlobals "Walk"=some (some (.ref Ys))) (x_WORDS:PySem.W.nsIn K mainGlobals "WORDS"=some (some (.ref c_WORDS))) (x_FIGURES:PySem.W.nsIn K mainGlobals "FIGURES"=some (some (.ref c_FIGURES)))
 (l_WORDS:K.lookup c_WORDS=some ⟨.type "tuple",none, .seq #[.str "shares" tWORDS0, .str "evenly" tWORDS1, .str "losses" tWORDS2, .str "halves" tWORDS3, .str "other(" tWORDS4, .str "ranks(" tWORDS5, .str "groups(" tWORDS6, .str "upto(" tWORDS7] n_WORDS,sl_WORDS⟩)
 (l_FIGURES:K.lookup c_FIGURES=some ⟨.type "tuple",none, .seq #[.str "0" tFIGURES0, .str "1" tFIGURES1, .str "2" tFIGURES2, .str "3" tFIGURES3, .str "4" tFIGURES4, .str "5" tFIGURES5, .str "6" tFIGURES6, .str "7" tFIGURES7, .str "8" tFIGURES8, .str "9" tFIGURES9] n_FIGURES,sl_FIGURES⟩)
 (fu:PySem.W.findIn K (.ref Ys) "__init__"=some (some (.ref Za))) (rJ:PySem.W.findIn K (.ref Ys) "sign"=some (some (.ref XC))) (lD:PySem.W.findIn K (.ref Ys) "expect"=some (some (.ref ZM)))
 (fO:FkT K "__init__" "Walk.__init__" ZV Za fv paU) (eM:PySem.W.isFn K (.ref Za)=true)
 (sv:FkT K "sign" "Walk.sign" VN XC rM pab) (qS:PySem.W.isFn K (.ref XC)=true)
 (lU:FkT K "expect" "Walk.expect" Xw ZM lE pam) (kP:PySem.W.isFn K (.ref ZM)=true)
 (pg_Walk:PySem.W.plainGet K Ys Str.empty=true) (hd_Walk:PySem.W.hasDictIn K Ys=true) (po_Walk:PySem.W.plainOver K Ys=true) (sa_Walk:PySem.W.findIn K (.ref Ys) "__setattr__"=some (some (.builtin "object.__setattr__"))) (na_Walk:PySem.W.findIn K (.ref Ys) "signs"=some none) (nb_Walk:PySem.W.findIn K (.ref Ys) "at"=some none) (mk_Walk:PySem.W.makesIn K Ys=true) (kc_Walk:PySem.W.keepIn K (.ref Ys)=true) (B:Bl mg) (B2:Bl3 mg):
 ∃fd:FuncData,(∀(s:Shared) (v:Value),BindsTo s fd ⟨[v],[]⟩ [("_law_script",v)])/\∀base:Heap,K.In base->base.Ns mainGlobals mg->FnOk l.prog w K mg base CX0 31 fa fd ["_law_script"] (EJ K):=by
 have e:=hfa.symm.trans (jad X G a68);cases e;obtain ⟨Vu,gW,iu⟩:=D1;obtain ⟨jh,vT,wJ⟩:=D2;obtain ⟨XT,bP,bS⟩:=D3;obtain ⟨Xf,aw,aO⟩:=D4;obtain ⟨Vv,gZ,iw⟩:=D5;obtain ⟨jr,vZ,wQ⟩:=D6;obtain ⟨Iq,Lb,Ln⟩:=D7;obtain ⟨DY,JP,Kk⟩:=D8;obtain ⟨DX,JN,Ki⟩:=D9;obtain ⟨Ir,Lc,Lo⟩:=D10;obtain ⟨uN,Ga,Hj⟩:=D11;obtain ⟨jq,vY,wO⟩:=D12;obtain ⟨uH,FU,GZ⟩:=D13;obtain ⟨Yt,Uu,Uy⟩:=D14;obtain ⟨pL,CD,DL⟩:=D15;obtain ⟨ji,vU,wK⟩:=D16;obtain ⟨uB,FN,GS⟩:=D17;obtain ⟨uE,FQ,GW⟩:=D18;obtain ⟨uM,FZ,Hi⟩:=D19;obtain ⟨uA,FL,GR⟩:=D20;obtain ⟨uF,FR,GX⟩:=D21;obtain ⟨UG,kW,lP⟩:=D22;obtain ⟨Lp,LJ,LN⟩:=D23;obtain ⟨WM,eS,fJ⟩:=D24;obtain ⟨Xe,av,aN⟩:=D25;obtain ⟨gq,rj,sk⟩:=D26;obtain ⟨fX,qV,rZ⟩:=D27;obtain ⟨fZ,qW,se⟩:=D28;obtain ⟨Vr,gT,iq⟩:=D29;obtain ⟨Xd,au,aM⟩:=D30;obtain ⟨Vq,gR,ip⟩:=D31;obtain ⟨uG,FT,GY⟩:=D32;obtain ⟨Vt,gU,ir⟩:=D33;obtain ⟨uL,tO,uu⟩:=D34;obtain ⟨uD,FP,GV⟩:=D35;obtain ⟨uK,FY,Hh⟩:=D36;obtain ⟨uI,FV,He⟩:=D37;obtain ⟨Ks,JO,Kj⟩:=D38;obtain ⟨Hr,FX,Hg⟩:=D39;obtain ⟨Io,KZ,Ll⟩:=D40;obtain ⟨pM,CF,DM⟩:=D41;obtain ⟨Vn,gO,ig⟩:=D42;obtain ⟨uC,FO,GU⟩:=D43;obtain ⟨Vo,gP,ij⟩:=D44;obtain ⟨Ip,La,Lm⟩:=D45;obtain ⟨fW,eR,fH⟩:=D46;obtain ⟨fV,qU,rW⟩:=D47;obtain ⟨Wa,XY,XZ⟩:=D48;obtain ⟨Vp,gQ,ik⟩:=D49;obtain ⟨UB,kQ,lL⟩:=D50;obtain ⟨UE,kU,lO⟩:=D51;obtain ⟨gn,rh,sj⟩:=D52;obtain ⟨UD,kS,lN⟩:=D53;obtain ⟨bH,oi,ph⟩:=D54;obtain ⟨gg,qX,sf⟩:=D55;obtain ⟨Xg,ax,aP⟩:=D56;obtain ⟨bI,oj,pA⟩:=D57;obtain ⟨bJ,om,pB⟩:=D58;obtain ⟨UC,kR,lM⟩:=D59;obtain ⟨jo,vX,wN⟩:=D60;obtain ⟨gh,qY,sg⟩:=D61;obtain ⟨jm,iT,jf⟩:=D62;obtain ⟨gm,qZ,si⟩:=D63;obtain ⟨bG,oh,oZ⟩:=D64;obtain ⟨jn,vW,wM⟩:=D65;obtain ⟨uJ,FW,Hf⟩:=D66;obtain ⟨jk,vV,wL⟩:=D67;have LO:=oC (st:=kr) l68 c68 k68;refine ⟨PySem.W.fnOf "law" "law" (ZE kr) (Zb kr) (zk kr) .none kV68 dc68 pm68 an68 cd68 ct68,λs v=> .of_eq rfl,λbase XB GB=>?_⟩;obtain ⟨gw,yv,yr⟩:=fU;obtain ⟨Zy,xf,yZ⟩:=pC;obtain ⟨Kt,Kl,xr⟩:=sC;obtain ⟨VU,XG,xt⟩:=sD;obtain ⟨bK,bF,xc⟩:=pF;obtain ⟨bh,aQ,wb⟩:=aV;obtain ⟨bq,aU,wm⟩:=bf;obtain ⟨bj,aR,we⟩:=aW;obtain ⟨bo,aS,wg⟩:=aZ;obtain ⟨bZ,bV,Ac⟩:=bX;obtain ⟨bY,bU,Ab⟩:=bW;obtain ⟨bp,aT,wj⟩:=ba;obtain ⟨gv,fL,CP⟩:=fR;obtain ⟨gu,fK,CO⟩:=fO;obtain ⟨Yf,xw,rA⟩:=sv;obtain ⟨yQ,yo,lj⟩:=lU;have HX:=jad XB GB KH;have g_WORDS:=jad XB GB x_WORDS;have g_FIGURES:=jad XB GB x_FIGURES;have W_ok:WOk K XC ZM Ys:=⟨⟨pg_Walk,hd_Walk,po_Walk,sa_Walk⟩,na_Walk,nb_Walk,⟨rJ,qS,rA⟩,⟨lD,kP,lj⟩⟩;have DU:Mk K Ys Za:=⟨mk_Walk,fu,eM,kc_Walk⟩;have fk:Fg K c_FIGURES:=⟨⟨_,_,_,l_FIGURES,by show 10<=sizeLine;decide,(.cons ⟨_,rfl⟩ (.cons ⟨_,rfl⟩ (.cons ⟨_,rfl⟩ (.cons ⟨_,rfl⟩ (.cons ⟨_,rfl⟩ (.cons ⟨_,rfl⟩ (.cons ⟨_,rfl⟩ (.cons ⟨_,rfl⟩ (.cons ⟨_,rfl⟩ (.cons ⟨_,rfl⟩ .nil))))))))))⟩⟩;have wk:Wd K c_WORDS:=⟨⟨_,_,_,l_WORDS,by show 8<=sizeLine;decide,(.cons ⟨_,rfl⟩ (.cons ⟨_,rfl⟩ (.cons ⟨_,rfl⟩ (.cons ⟨_,rfl⟩ (.cons ⟨_,rfl⟩ (.cons ⟨_,rfl⟩ (.cons ⟨_,rfl⟩ (.cons ⟨_,rfl⟩ .nil))))))))⟩⟩;have ZG:=jad XB GB KJ;have g_MOST:=jad XB GB x_MOST;have ub:=jad XB GB Et;have pG:=lV.MK;have KL:=lV.ok yX yZ xo xr NG NZ;have KR:=lV.mp xp xt yY xc;have uf:=jad XB GB Ey;have pK:=mf.MK;have KQ:=mf.ok yX yZ xo xr NG NZ;have KY:=mf.mp xp xt yY xc;have uc:=jad XB GB Eu;have pH:=lW.MK;have KN:=lW.ok yX yZ xo xr NG NZ;have KS:=lW.mp xp xt yY xc;have ud:=jad XB GB Ew;have pI:=lZ.MK;have KO:=lZ.ok yX yZ xo xr NG NZ;have KU:=lZ.mp xp xt yY xc;have Di:=jad XB GB IF;have uy:=sF.MK;have Lu:=sF.ok yX yZ xo xr NG NZ;have Lw:=sF.mp xp xt yY xc;have Dh:=jad XB GB IE;have ux:=sE.MK;have Lr:=sE.ok yX yZ xo xr NG NZ;have Lv:=sE.mp xp xt yY xc;have ue:=jad XB GB Ex;have pJ:=md.MK;have KP:=md.ok yX yZ xo xr NG NZ;have KW:=md.mp xp xt yY xc;have HY:=jad XB GB KI;have DV:=DT.MK;have LH:=DT.ok yX yZ xo xr NG NZ;have LI:=DT.mp xp xt yY xc;have LY:∀r:Rl,ROk K yi yA ZH ((⟨WZ,Vd,Va,Vb,aL,aK,Vc,jd⟩:RAd).cls r):=λr=>by cases r<;>assumption
 have NF:∀r:Rl,Meth K ((⟨WZ,Vd,Va,Vb,aL,aK,Vc,jd⟩:RAd).cls r) "path" yH/\Meth K ((⟨WZ,Vd,Va,Vb,aL,aK,Vc,jd⟩:RAd).cls r) "parts" yt:=λr=>by cases r<;>assumption
 generalize Oi:(⟨WZ,Vd,Va,Vb,aL,aK,Vc,jd⟩:RAd)=A at LY NF;have F_rinit:=Ft (P:=l.prog) (w:=w) (mg:=mg) (base:=base) (fS:=yi) (fT:=yA) (Ru:=ZH) gw;have F_shape:=Fq (P:=l.prog) (w:=w) (mg:=mg) (base:=base) LY Zy;have Gx:=gI (A:=A) ZG Wf Wx yu F_rinit yr yv (LY .shares) bh
 have Gb:ZQ l.prog w K mg base "Shares" (A.cls .shares) pab (yw (A.cls .shares) (α:=Unit) (λ_=>[]) (λ_=>Rl.shares.shape)):=by
  subst Oi;exact ⟨_,_,pG,Gx,aQ,ub⟩
 have GC:=gN (A:=A) ZG Wf Wx yu F_rinit yr yv (LY .evenly) bq
 have Gg:ZQ l.prog w K mg base "Evenly" (A.cls .evenly) pab (yw (A.cls .evenly) (α:=Unit) (λ_=>[]) (λ_=>Rl.evenly.shape)):=by
  subst Oi;exact ⟨_,_,pK,GC,aU,uf⟩
 have Gy:=gJ (A:=A) ZG Wf Wx yu F_rinit yr yv (LY .losses) bj
 have Gd:ZQ l.prog w K mg base "Losses" (A.cls .losses) pab (yw (A.cls .losses) (α:=Unit) (λ_=>[]) (λ_=>Rl.losses.shape)):=by
  subst Oi;exact ⟨_,_,pH,Gy,aR,uc⟩
 have Gz:=gK (A:=A) ZG Wf Wx yu F_rinit yr yv (LY .halves) bo
 have Ge:ZQ l.prog w K mg base "Halves" (A.cls .halves) pab (yw (A.cls .halves) (α:=Unit) (λ_=>[]) (λ_=>Rl.halves.shape)):=by
  subst Oi;exact ⟨_,_,pI,Gz,aS,ud⟩
 have JY:=kL (A:=A) ZG Wf Wx yu F_rinit yr yv F_shape xf LY bZ
 have JR:ZQ l.prog w K mg base "Other" (A.cls (.other .shares)) pai (yw (A.cls (.other .shares)) (α:=Rl) (λr=>[r.ins A]) (λr=>(Rl.other r).shape)):=by
  subst Oi;exact ⟨_,_,uy,JY,bV,Di⟩
 have JX:=kK (A:=A) ZG Wf Wx yu F_rinit yr yv F_shape xf LY bY
 have JQ:ZQ l.prog w K mg base "Ranks" (A.cls (.ranks .shares)) pai (yw (A.cls (.ranks .shares)) (α:=Rl) (λr=>[r.ins A]) (λr=>(Rl.ranks r).shape)):=by
  subst Oi;exact ⟨_,_,ux,JX,bU,Dh⟩
 have GA:=gM (A:=A) ZG Wf Wx yu F_rinit yr yv F_shape xf LY bp
 have Gf:ZQ l.prog w K mg base "Groups" (A.cls (.groups .shares .shares)) pas (yw (A.cls (.groups .shares .shares)) (α:=Rl×Rl) (λr=>[r.1.ins A,r.2.ins A]) (λr=>(Rl.groups r.1 r.2).shape)):=by
  subst Oi;exact ⟨_,_,pJ,GA,aT,ue⟩
 have Le:=nY (A:=A) ZG Wf Wx yu F_rinit yr yv F_shape xf LY gv
 have Ld:ZQ l.prog w K mg base "Upto" (A.cls (.upto 0 0 .shares .shares)) pag (yw (A.cls (.upto 0 0 .shares .shares)) (α:=(Int×Int)×Rl×Rl) (λr=>[.tuple [.int r.1.1, .int r.1.2],r.2.1.ins A,r.2.2.ins A]) (λr=>(Rl.upto r.1.1 r.1.2 r.2.1 r.2.2).shape)):=by
  subst Oi;exact ⟨_,_,DV,Le,fL,HY⟩
 have cm {f:Addr} {fd:FuncData} {k:Nat} {x:Str} {st:Stmt} {ps:List Str} {sp:Sp} (F:Fun K x x st f fd) (a:FnOk l.prog w K mg base CX0 k f fd ps sp) (hm:mg x=some (.ref f)) (b:yD K fd ps []):Cal l.prog w K mg base CX0 k x ps sp:=fF F a hm b;have C_gcd:=cm Yt (ok_gcd Yt) Uu Uy;have Zv:=cm uH (Ck B C_gcd uH) FU GZ;have js:=cm Iq (JB Zv Iq) Lb Ln;have YJ:=cm DY (FC Zv DY) JP Kk;have mh:=cm DX (Fo Zv DX) JN Ki;have Iz:=cm Ir (JC Zv Ir) Lc Lo;have cL:=cm uN (Ct uN) Ga Hj;have C_last:=cm Vr (JF B cL Vr) gT iq;have C_portion:=cm Xe (vE YJ Iz Xe) av aN;have C_amount:=cm gq (Cu js YJ mh gq) rj sk;have C_between:=cm WM (vL B C_portion C_amount WM) eS fJ;have C_partsat:=cm ji (vG B C_last C_between ji) vU wK;have Lq:=cm Lp (ok_gap Lp) LJ LN;have C_straight:=cm UG (qQ B Lq UG) kW lP;have pO:=cm pL (vA B C_straight pL) CD DL;have C_pe:=cm fX (nW B js fX) qV rZ;have C_le:=cm fZ (nX B YJ fZ) qW se;have cH:=cm uB (BY B YJ C_le uB) FN GS;have uP:=cm uE (Cd B mh uE) FQ GW;have Vg:=cm uM (Cs B js C_pe pO uM) FZ Hi;have C_check:=cm Vu (FH B g_MOST Vu) gW iu;have C_wc:=cm Vn (ok_wc B Vn) gO ig;have Xi:=cm pM (vH C_wc pM) CF DM;have uO:=cm uD (Ca B Xi C_wc uD) FP GV;have cK:=cm uK (Cq B B2 C_wc uK) FY Hh;have uR:=cm uI (Cm cK cH uI) FV He;have Iw:=cm Io (Jx Vg uP YJ Io) KZ Ll;have C_reach:=cm Xd (Fu B C_last C_portion C_amount Xd) au aM;have C_pwith:=cm Vq (vD B C_partsat Vq) gR ip;have cJ:=cm uG (Cj B cL uG) FT GY;have cG:=cm uA (BW B cJ C_reach C_pwith uA) FL GR;have C_those:=cm jh (Fp jh) vT wJ;have C_plr:=cm XT (Cf B XT) bP bS;have C_plg:=cm Xf (vF B Xf) aw aO;have C_one:=cm Vv (ok_one B Vv) gZ iw;have C_sprv:=cm Vo (vB B Vo) gP ij;have C_spr:=cm uC (BZ C_sprv uC) FO GU;have XH:=cm uL (vK (t:=33) B B2 uO cK uR Iw cH Xi C_plr C_plg C_those C_one C_spr Vg cG Ks JO Kj Hr FX Hg uL tO uu 10) tO uu;have F_path:=Fz (A:=A) (t:=33) (n:=10) LY C_check XH VU;have F_parts:=Cg (A:=A) (t:=33) (n:=10) LY (λr=>(NF r).1) F_path XG C_partsat bK;have C_unlike:=cm Vt (BX B Vt) gU ir;have uQ:=cm uF (Ci B cJ C_partsat C_unlike uF) FR GX;have jv:=cm jq (qR B jq) vY wO;have jw:=cm jr (FG jv Zv jr) vZ wQ;have F_sign:=Jy (P:=l.prog) (w:=w) (mg:=mg) (base:=base) W_ok Yf;have F_expect:=Cp (P:=l.prog) (w:=w) (mg:=mg) (base:=base) W_ok F_sign xw yQ;have F_winit:=Fl (P:=l.prog) (w:=w) (mg:=mg) (base:=base) W_ok gu;have C_numr:=cm UB (JD W_ok g_FIGURES fk F_sign xw UB) kQ lL;have C_portr:=cm Vp (Fx W_ok F_expect yo C_numr jw Vp) gQ ik;have C_word:=cm fV (Jw W_ok g_WORDS wk F_sign xw F_expect yo fV) qU rW;have C_rrule:=cm fW (Jz (A:=A) W_ok F_expect yo Gb Gg Gd Ge JR JQ Gf Ld C_word C_portr fW eR fH Wa XY XZ 10) eR fH;have Iy:=cm Ip (JA (n:=10) W_ok F_sign xw HX DU F_winit fK C_rrule Ip) La Lm;have C_cell:=cm UE (JH B UE) kU lO;have C_mix:=cm gn (FA gn) rh sj;have C_div:=cm UD (vJ B UD) kS lN;have C_low:=cm bH (Cn C_div bH) oi ph;have C_whole:=cm gg (Fm B gg) qX sf;have C_frac:=cm Xg (JG B C_whole C_div Xg) ax aP;have C_labels:=cm bI (Co bI) oj pA;have C_claims:=cm bJ (Cr B C_cell C_mix C_labels bJ) om pB;have C_less:=cm jn (JE jn) vW wM;have C_at:=cm uJ (FF B C_less C_low uJ) FW Hf;have C_por:=cm UC (Fy UC) kR lM;have C_leaf:=cm jo (FE jo) vX wN;have C_shape:=cm gh (Cb B C_por C_leaf gh) qY sg;have C_purse:=cm gm (Fv C_low gm) qZ si;have C_ltext:=cm jm (FD B jm iT jf 10) iT jf;have C_second:=cm bG (Cc C_shape bG) oh oZ;have C_told:=cm jk (Fn B C_frac C_less C_whole jk) vV wL;exact ok_law B LY NF F_path XG F_parts bF C_cell C_claims C_shape C_second C_ltext Iy uQ C_purse C_less C_at C_told LO
theorem walk {l:PySem.W.OpenLaw} {q:Program} {loose:List Str} {XP:(Str->Option Value)->Heap->Prop} {YP:World->Heap->Prop} {d:DefRec} {K:Params->PySem.W.Frag} (hn:l.most=some 63) (MX:d.params.defaults=[])
 (hY:∀(w:World) (h:Heap),YP w h->(K w.params).In h)
 (F:∀(w:World) (mg:Str->Option Value) (fa:Addr) (h:Heap),(K w.params).In h->h.Ns mainGlobals mg->mg d.name=some (.ref fa)->
  ∃fd:FuncData,(∀(s:Shared) (u:Value),BindsTo s fd ⟨[u],[]⟩ [("_law_script",u)])/\∀base:Heap,(K w.params).In base->base.Ns mainGlobals mg->FnOk l.prog w (K w.params) mg base CX0 31 fa fd ["_law_script"] (EJ (K w.params))):
 PySem.W.WalkO q loose XP YP l.row.toRowW d [] (λf vs=>PySem.call f vs):=
 L2.IG (n:=63) (k:=31) (x:="_law_script") (CX:=λ_=>CX0) (sp:=λw=>EJ (K w.params)) hn (by decide) MX ⟨rfl,by decide,by decide⟩ hY F (λ_ _ a ns hl hO hS=>⟨a,ns,rfl,hS,hl,hO,λ_=>rfl⟩) λ_ _ _ _ _ z=>z
end K
structure PySem.W.Fast:Prop where(tw17723568395967579145 tw3759600668847028970 tw390446659628153341 tw14477120780532761821 tw4336035901888495949 tw14655847698872799368 tw3107372708437372223 tw14902758079379898283 tw17677874737432962904 tw13962917344717934543 tw7771415985398572920 tw15639741207788934363 tw12398455109265170849 tw8028183109800890882 tw16901577592981755524 tw1578279402493896296 tw15279271890572242377 tw10581729364544701252 tw14248098565332610859 tw17835171449331866742 tw5034110046795599748 tw6787525510544019206 tw9544371639389618925 tw13960805631815212136 tw2634110528709775529 tw5180160619109628693 tw15217456950281804707 tw1468374565360998548 tw1493154183897240266 tw1266625718024066123 tw17326304625888994738 tw3168302527240482048 tw12940894980513536623 tw11123467835446332562 tw5829848337877738995 tw13742479229613810267 tw1079790890401961054 tw8723395121176872868 tw6161837308582139657 tw11865280885608698782 tw5549034319155652856 tw5180112869154310632 tw3836760643654196639 tw3042771125345629036 tw8250965042255283080 tw11382016912973007927 tw5381237477373462233 tw207902060142599348 tw6577244682490643184 tw17726829085372800976 tw16594178266811165710 tw16504241386887210541 tw12008044464036034800 tw11956890313946675866 tw16691313396326266405 tw1647915866113525222 tw2756231435542697916 tw4009449883877892150 tw14199653885811387701 tw15891378330772250991 tw7100255875995052694 tw13896913230434848939 tw2737956370167297050 tw14709878392624566834 tw4170497389060351848 tw11472915322380563039 tw7761031533475678535 tw3524552229282731532 tw17268043294459456532 tw5090327900823923831 tw7764355675626520406 tw16674384402673098434 tw7134824625082238523 tw2907223970300597101 tw9340612292658870553 tw16126205717956542018 tw8736019231773266863 tw3603046413612268538 tw13077765652256381915 tw12891145906549340503 tw8900134092976594922 tw777677382999272385 tw12763895896788020188 tw10164022234382756338 tw5323608762601290554 tw6499042500481177090 tw642875443420571292 tw3404826178693385210 tw16187750667999026931 tw10551351458953442104 tw7328491167350414280 tw3683806416754567409 tw9618024832164780686 tw771094712414258584 tw17894817368975237601 tw8689312342994073167 tw334055699603341719 tw13895799267201873764 tw6936399730325271498 tw7093782032138353678 tw5731169254130255247 tw1518918516326053939 tw17048511445285111072 tw3955247712220813820 tw3150623870621261001 tw15531176011105974897 tw263188279057331708 tw4143775556607995018 tw3168786210324468283 tw14093751847826440848 tw12260541667005308796 tw10165458465064940633 tw5917078092174261774 tw14587992091328511774 tw2956170423194077432 tw8148782704788087360 tw12840155352836798089 tw16111148493184992759 tw5001120116185163182 tw16460713152493012476 tw12705323593477207081 tw8381930862298225412 tw10170887925393986706 tw5055229621648063276 tw12926972134155881197 tw3573320285386265578 tw2031834168864015215 tw16638125860176007158 tw13924098335944016457 tw14808631321727889055 tw17321906501516333485 tw7128981604600517780 tw5198890973993197911 tw6664224909970790012 tw9906774830189357463 tw7710972848997606473 tw2392130348131369900 tw13797837468724822242 tw2777177194996400246 tw15811917456773299629 tw3252729828429718285 tw16329245744987707134 tw9271345951555108726 tw10829446924134006450 tw3627091923025691589 tw5810585555442064872 tw5750525455942636646 tw17384841062944446356 tw3443865295281690480 tw6563139139566534689 tw13492026620151875380 tw4976969222550631808 tw5662148157597888415 tw5018148429006328543 tw14832100576824986716 tw15930396625441871590 tw6653601475663520360 tw2002062753710642472 tw8669248258283836007 tw12471906808003249793 tw5032281017750696998 tw12789150339902162809 tw3565672063243151127 tw8088851164205354708 tw94969229669988934 tw7176837246843634174 tw5367828735733343719 tw17904124625966947816 tw1306405422003991111 tw12848896480749536093 tw9065799390773084653 tw9335894878463508470 tw11448691960806608259 tw14962338505514208088 tw12194002027212169114 tw12072342626372938789 tw17441227965733671541 tw18441492616100414532 tw11220854644636463436 tw9057166050265655551 tw9732576321894387347 tw3673276295797870218 tw1490342615242454083 tw5445069072120732162 tw14592170148243268630 tw9630390122344800472 tw10694975880862488899 tw4432425832952289325 tw3641072878996149575 tw9640326667706327052 tw8143530891367878369 tw17422530211451437387 tw1247194110281339761 tw13228576968400293769 tw7122826698625159799 tw15739668098684265113 tw9201493905173810808 tw13409957370002016925 tw74902344797852789 tw14203265016818097363 tw9639344432843890448 tw12292392804090674149 tw7216189767818878788 tw4716688683306849409 tw12221992128311054576 tw758803560442702933 tw5465217699628216653 tw10131706243411365169 tw14414908312830926283 tw10372905635083105234 tw10123969334149624320 tw10830411661509555746 tw12134665376889225820 tw13257078624733063263 tw4556835770001296894 tw11238659445841906060 tw17905721574290549483 tw7364530874065475504 tw10078762042346203742 tw7143746111174490689 tw12302041594187088017 tw5122892412208794660 tw4108678065054493153 tw1597231550497429911 tw8745819937026037533 tw14047313523516157789 tw14407831705818653708 tw14017818083924613661 tw15146631976756754761 tw6723606358859962998 tw17778050290946646258 tw3190825873173483057 tw12765707451383843416 tw16477125256788182562 tw6219319128768919939 tw4589886883466142326 tw12093898281770659724 tw1190910163310727749 tw16923543742912525778 tw16149457535418567898 tw14342800395489080426 tw1339143737301495012 tw8296875551337418865 tw5473000235078518528 tw1467960288446142673 tw204211054770473955 tw1591919752074083757 tw5413045610214972053 tw15710526143185581952 tw8366242669452941626 tw13617142687139897519 tw17720805498688813517 tw14341085096116758775 tw13599075837731475040 tw6123246230453482401 tw1331921107424192741 tw5949548375252255334 tw16539554243582121681 tw14838662638844013295 tw8555732448452157053 tw6757446559347058756 tw13828101619826944483 tw12002328794573058003 tw15385883157105348342 tw12253851682698378166 tw11468539257119817513 tw651121611831812692 tw10981891061874712213 tw15912309452603350427 tw1692584824378492328 tw2586478842195186580 tw3739481642838518540 tw16860125623863532836 tw5587013164536621517 tw9801785957229738424 tw17047770509632484841 tw3751724749246091174 tw12390221965227044575 tw3223117642174650976 tw5430959364380249789 tw17352659658553042923:True)
open PySem PySem.W PyProof.Rows
set_option maxRecDepth 100000 in
set_option maxHeartbeats 0 in
theorem PySem.Challenge.cw_shortpurse_k43_whole_two_rules_holds : PySem.Challenge.rw_shortpurse_k43_whole_two_rules.Holds := by
 w_on;o_law;k_head;(case hw=>w_witness2)
 k_fill
 refine K.walk (l:=PySem.Challenge.rw_shortpurse_k43_whole_two_rules) rfl rfl (λw h Y=>PySem.W.kIn_of Y) ?F
 case F=>
  intro w mg fa h KX G MA;refine' K.all_mk KX G MA ?_ ?_ ?_ ?_ ?_ ?_ ?_ ?_ ?_ ?_ ?_ ?_ ?_ ?_ ?_ ?_ ?_ ?_ ?_ ?_ ?_ ?_ ?_ ?_ ?_ ?_ ?_ ?_ ?_ ?_ ?_ ?_ ?_ ?_ ?_ ?_ ?_ ?_ ?_ ?_ ?_ ?_ ?_ ?_ ?_ ?_ ?_ ?_ ?_ ?_ ?_ ?_ ?_ ?_ ?_ ?_ ?_ ?_ ?_ ?_ ?_ ?_ ?_ ?_ ?_ ?_ ?_ ?_ ?_ ?_ ?_ ?_ ?_ ?_ ?_ ?_ ?_ ?_ ?_ ?_ ?_ ?_ ?_ ?_ ?_ ?_ ?_ ?_ ?_ ?_ ?_ ?_ ?_ ?_ ?_ ?_ ?_ ?_ ?_ ?_ ?_ ?_ ?_ ?_ ?_ ?_ ?_ ?_ ?_ ?_ ?_ ?_ ?_ ?_ ?_ ?_ ?_ ?_ ?_ ?_ ?_ ?_ ?_ ?_ ?_ ?_ ?_ ?_ ?_ ?_ ?_ ?_ ?_ ?_ ?_
  all_goals try first
   |(refine' S.dk_mk KX G ?a ?l ?c ?k ?b;(case a=>k_is);(case l=>k_is);(case c=>k_is);(case k=>k_is);(case b=>first|(exact λ_ _ _ _ _ _=>S.all1 λ_=>rfl)|(exact λ_ _ _ _ _ _=>S.all2 λ_ _=>rfl)|(exact λ_ _ _ _ _ _=>S.all3 λ_ _ _=>rfl)|(exact λ_ _ _ _ _ _=>S.all4 λ_ _ _ _=>rfl)))
   |(refine' S.fk_mk ?l ?c ?k ?b;(case l=>k_is);(case c=>k_is);(case k=>k_is);(case b=>first|(exact λ_ _ _ _ _ _=>S.all1 λ_=>rfl)|(exact λ_ _ _ _ _ _=>S.all2 λ_ _=>rfl)|(exact λ_ _ _ _ _ _=>S.all3 λ_ _ _=>rfl)|(exact λ_ _ _ _ _ _=>S.all4 λ_ _ _ _=>rfl)))
   |(exact S.CkT.mk (by k_is) (by k_is) (by k_is) (by k_is) (by k_is) (by k_is) (by k_is) (by k_is) (by k_is) (by k_is) (by k_is) (by k_is) (by kit_is) (by k_is) (by k_is) (by k_is))
   |(refine' S.Bl.mk ?_ ?_ ?_ ?_ ?_ ?_ ?_ ?_ ?_ ?_ ?_ ?_ ?_ ?_ ?_ ?_;all_goals exact PySem.W.mg_none_of KX G (by k_is))
   |(refine' S.Bl3.mk ?_ ?_;all_goals exact PySem.W.mg_none_of KX G (by k_is))
   |k_is
