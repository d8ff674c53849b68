import PyProof.Rows.All
import Wide.All
import OpenK.KLine
import OpenK.KWalk
import OpenK.KOwn
import KE.RegKIsAll
import KE.IntBitsLaws
import KE.KItem
import Wide.FinOn
import Lean
import PyProof.EqAt
import PyProof.EqKinds
import PyProof.TupleCall
import PyProof.Draws
import PyProof.EnumMake
import PyProof.ZipIter
import PyProof.Rows.SumAny
import KE.KRevIter
import PyProof.StrCalls2
import KE.KRevSl
import KE.LcSums
import PyProof.Rows.SetFrom
import PyProof.DictIter
import PyProof.CollectWalk
import PyProof.Rows.SortRev
import PySem.Challenge.RW_shortpurse_k27_the_path_of_a_rule
set_option autoImplicit true
set_option relaxedAutoImplicit true
set_option compiler.extract_closed false
set_option Elab.async false
set_option linter.all false
set_option maxRecDepth 100000
set_option maxHeartbeats 4000000
abbrev Qa:=@List.length_map
abbrev Qb:=@List.getElem?_eq_getElem
abbrev Qc:=@List.mem_of_getElem?
abbrev Qd:=@List.getElem?_eq_some_iff
abbrev Qe:=@List.mem_cons_self
abbrev Qf:=@List.mem_cons_of_mem
abbrev Qg:=@PySem.wpAny_bind
abbrev Qh:=@List.getElem?_map
abbrev Qi:=@PySem.Heap.get?_push_of_some
abbrev Qj:=@List.mem_map
abbrev Qk:=@List.getD_eq_getElem?_getD
abbrev Ql:=@List.pairwise_cons
abbrev Qm:=@List.mem_cons
abbrev Qn:=@List.not_mem_nil
abbrev Qo:=@List.map_cons
abbrev Qp:=@PySem.wpAny_pure
abbrev Qq:=@List.mem_singleton
abbrev Qr:=@List.map_map
abbrev Qt:=@List.getElem?_zipWith
abbrev Qu:=@PySem.Heap.lt_size
abbrev Qv:=@Nat.le_refl
abbrev Qw:=@PySem.Heap.get?_push_size
abbrev Qx:=@List.mem_iff_getElem?
abbrev Qy:=@List.length_zipWith
abbrev Qz:=@List.length_append
abbrev QA:=@List.length_cons
abbrev QB:=@of_decide_eq_true
abbrev QC:=@Rat.le_of_lt
abbrev QD:=@List.length_replicate
abbrev QE:=@List.mem_append_right
abbrev QF:=@List.getElem?_eq_none
abbrev QG:=@List.size_toArray
abbrev QH:=@if_pos
abbrev QI:=@List.map_congr_left
abbrev QJ:=@List.pairwise_iff_getElem
abbrev QK:=@Bool.false_ne_true
abbrev QL:=@Option.some.inj
abbrev QM:=@Nat.ne_of_lt
abbrev QN:=@List.sum_cons
abbrev QO:=@if_neg
abbrev QP:=@List.map_append
abbrev QQ:=@Rat.le_refl
abbrev QR:=@List.getElem_of_mem
abbrev QS:=@List.mem_append
abbrev QT:=@Rat.mul_inv_cancel
abbrev QU:=@Nat.le_trans
abbrev QV:=@Rat.intCast_mul
abbrev QW:=@PySem.Heap.size_push
abbrev QX:=@decide_eq_true
abbrev QY:=@Nat.lt_of_lt_of_le
abbrev QZ:=@List.getElem?_replicate
abbrev Ta:=@Rat.mul_nonneg
abbrev Tb:=@List.getElem_zipWith
abbrev Tc:=@List.getLast?_eq_some_getLast
abbrev Td:=@List.getElem_mem
abbrev Te:=@Rat.intCast_le_intCast
abbrev Tf:=@Rat.not_lt
abbrev Tg:=@Int.toNat_natCast
abbrev Th:=@decide_eq_false
abbrev Ti:=@List.take_of_length_le
abbrev Tj:=@List.ext_getElem?
abbrev Tn:=@List.pairwise_map
abbrev To:=@Nat.lt_succ_self
abbrev Tp:=@Int.fmod_eq_emod_of_nonneg
abbrev Tq:=@List.mem_filter
abbrev Tr:=@List.getElem?_zip_eq_some
abbrev Ts:=@List.length_drop
abbrev Tt:=@List.ext_getElem
abbrev Tu:=@List.replicate_succ
abbrev Tv:=@List.length_reverse
abbrev Tw:=@List.getElem_replicate
abbrev Tx:=@Int.fdiv_eq_ediv_of_nonneg
abbrev Tz:=@List.getElem?_append_right
abbrev TB:=@List.length_take
abbrev TC:=@Nat.lt_succ_of_lt
abbrev TF:=@List.cons_append
abbrev TH:=@List.take_add_one
abbrev TJ:=@List.length_singleton
abbrev TK:=@PySem.wpAny_callSpecial?_slot
abbrev TL:=@Rat.le_trans
abbrev TM:=@List.getLast?_cons_cons
abbrev TN:=@Nat.min_self
abbrev TQ:=@List.pairwise_append
abbrev TR:=@List.mem_of_mem_tail
abbrev TU:=@List.all_eq_true
abbrev TV:=@PyProof.Rows.callWith_type1
abbrev TX:=@List.nodup_cons
abbrev TY:=@List.flatten_cons
abbrev TZ:=@Rat.div_def
abbrev jaa:=@PySem.Heap.SameBut.update
abbrev jab:=@List.pairwise_singleton
abbrev jac:=@PySem.wpAny_call_entry
abbrev jad:=@PySem.wpAny_newObj_type
abbrev jae:=@List.append_assoc
abbrev jaf:=@Rat.not_le
abbrev jag:=@List.drop_eq_getElem_cons
abbrev jah:=@List.mem_append_left
abbrev jai:=@List.mem_of_getLast?
abbrev jaj:=@Int.emod_lt_of_pos
abbrev jak:=@List.dropLast_concat_getLast
abbrev jal:=@Nat.zero_le
abbrev jam:=@PySem.wpAny_pyIter_list
abbrev jan:=@List.getLast?_map
abbrev jao:=@Nat.le_succ
abbrev jap:=@PySem.wpAny_pyIter_tuple
abbrev jaq:=@List.map_nil
abbrev jar:=@List.getElem?_drop
abbrev jas:=@List.zipWith_cons_cons
abbrev jat:=@PySem.W.kia_one
abbrev jau:=@List.getElem?_append_left
abbrev jav:=@List.getLast?_eq_getElem?
abbrev jaw:=@Nat.lt_irrefl
abbrev jax:=@PySem.wpAny_holding
abbrev jay:=@Array.length_toList
abbrev jaz:=@List.length_pos_iff
abbrev jaA:=@List.length_filter_le
abbrev jaB:=@Int.emod_nonneg
abbrev jaC:=@Rat.le_antisymm
abbrev jaD:=@PySem.W.mg_of
abbrev jaE:=@Bool.and_eq_true
abbrev jaF:=@List.getElem_map
abbrev jaG:=@PySem.mem_of_lookup
abbrev jaH:=@PySem.Heap.get?_update_self
abbrev jaI:=@List.nil_append
abbrev jaJ:=@Rat.intCast_sub
abbrev jaK:=@List.map_const'
abbrev jaL:=@PySem.wpAny_Call_Name_kw
abbrev jaM:=@Option.isSome_iff_exists
abbrev jaN:=@Rat.num_divInt_den
abbrev jaO:=@List.map_replicate
abbrev jaP:=@List.lookup_cons
abbrev jaQ:=@PySem.wpAny_field
abbrev jaR:=@List.length_tail
abbrev jaS:=@Rat.lt_irrefl
abbrev jaT:=@List.mem_singleton_self
abbrev jaU:=@PyProof.Rows.F.plain_set_update_loop
abbrev jaV:=@beq_eq_false_iff_ne
abbrev jaW:=@List.filterMap_cons
abbrev jaX:=@List.append_nil
abbrev jaY:=@List.length_pos_of_mem
abbrev jaZ:=@PySem.F.slot_tuple_iterator_next
abbrev jba:=@Array.getElem?_eq_some_iff
abbrev jbb:=@Nat.ne_of_gt
abbrev jbc:=@PySem.wpAny_setField_rec
abbrev jbd:=@Rat.divInt_mul_divInt
abbrev jbe:=@Rat.zero_mul
abbrev jbf:=@List.Pairwise.sublist
abbrev jbg:=@PySem.wpAny_seqItems
abbrev jbh:=@PySem.wpAny_setField
abbrev jbi:=@List.getElem?_eq_none_iff
abbrev jbj:=@PySem.Around.under_plainId
abbrev jbk:=@PySem.wpAny_passesOwn
abbrev jbl:=@List.Sublist.refl
abbrev jbm:=@List.length_filterMap_le
abbrev jbn:=@Int.le_of_lt
abbrev jbo:=@Int.mul_le_mul_of_nonneg_right
abbrev jbp:=@PySem.wpAny_setEntries_of
abbrev jbq:=@PySem.Heap.get?_update_other
abbrev jbr:=@PySem.SeqAt.canLay_of_shaped
abbrev jbs:=@Rat.intCast_lt_intCast
abbrev jbt:=@List.drop_eq_nil_of_le
abbrev jbu:=@Int.gcd_pos_of_ne_zero_right
abbrev jbv:=@List.of_mem_zip
abbrev jbw:=@PySem.wpAny_loadPart'
abbrev jbx:=@Rat.mul_pos
abbrev jby:=@PySem.codeAny_builtin
abbrev jbz:=@PySem.F.called_set
abbrev jbA:=@Int.le_trans
abbrev jbB:=@PySem.wpAny_truthy_bool
abbrev jbC:=@PySem.wpAny_attempt
abbrev jbD:=@List.length_range
abbrev jbE:=@PySem.wpAny_setState_of
abbrev jbF:=@List.Pairwise.imp
abbrev jbG:=@List.getElem?_set_ne
abbrev jbH:=@List.mem_reverse
abbrev jbI:=@List.zipWith_map
abbrev jbJ:=@List.map_zipWith
abbrev jbK:=@List.filter_cons
abbrev jbL:=@Int.le_refl
abbrev jbM:=@Nat.le_of_lt
abbrev jbN:=@PySem.wpAny_comprehension_free
abbrev jbO:=@Rat.divInt_eq_divInt_iff
abbrev jbP:=@Nat.zero_add
abbrev jbQ:=@Int.gcd_dvd_natAbs_right
abbrev jbR:=@List.mem_filterMap
abbrev jbS:=@Bool.eq_iff_iff
abbrev jbT:=@PySem.W.callWith_K
abbrev jbU:=@List.length_set
abbrev jbV:=@Bool.false_eq_true
abbrev jbW:=@PySem.Obj.data_mapFields
abbrev jbX:=@Int.natCast_pow
abbrev jbY:=@List.getLast?_cons
abbrev jbZ:=@Int.mul_one
abbrev jca:=@List.mem_range
abbrev jcb:=@PySem.codeAny_mono
abbrev jcc:=@Nat.le_of_ble_eq_true
abbrev jcd:=@PySem.wpAny_rule
abbrev Frg:=PySem.W.Frag
local macro_rules|`(tactic|walk_at "f")=>`(tactic|first|exact .inl rfl|exact .inr rfl|assumption)
local macro_rules|`(tactic|walk_at "o")=>`(tactic|first|exact Or.inl rfl|exact Or.inr rfl)
local macro_rules|`(tactic|walk_at "v")=>`(tactic|first|exact Or.inl rfl|exact Or.inr (Or.inl rfl)|exact Or.inr (Or.inr rfl))
local macro_rules|`(tactic|walk_at "l")=>`(tactic|first|decide|exact Nat.le_refl _|omega)
set_option exponentiation.threshold 2000
namespace L2
open PySem PySem.Spec PyProof.Rows
abbrev Key:=Sum Int Str
def keyIs:Key->Value->Bool
 | .inl k,v=>Value.isInt k v
 | .inr x,v=>Value.isStrOf x v
def keyH (w:World):Key->Int
 | .inl k=>hashInt k
 | .inr x=>hashStr w x
theorem xq:∀{k:Key} {v:Value},keyIs k v=true->(∃i t,k=Sum.inl i/\v=Value.int i t)\/(∃x t,k=Sum.inr x/\v=Value.str x t)
 | .inl i,v,h=>by
   obtain ⟨t,e⟩:=Value.isInt_shape (k:=i) (v:=v) h;exact .inl ⟨i,t,rfl,e⟩
 | .inr x,v,h=>by
   obtain ⟨t,e⟩:=Value.isStrOf_shape (x:=x) (v:=v) h;exact .inr ⟨x,t,rfl,e⟩
theorem key_ll (a b:Int):decide ((Sum.inl a:Key)=Sum.inl b)=(a==b):=by
 by_cases e:a=b
 ·subst e;simp
 ·have h:¬(Sum.inl a:Key)=Sum.inl b:=λq=>e (Sum.inl.inj q);rw [Th h];exact (jaV.mpr e).symm
theorem key_rr (a b:Str):decide ((Sum.inr a:Key)=Sum.inr b)=decide (a=b):=by
 by_cases e:a=b
 ·subst e;simp
 ·have h:¬(Sum.inr a:Key)=Sum.inr b:=λq=>e (Sum.inr.inj q);rw [Th h,Th e]
theorem key_lr (a:Int) (b:Str):decide ((Sum.inl a:Key)=Sum.inr b)=false:=Th (λq=>nomatch q)
theorem key_rl (a:Str) (b:Int):decide ((Sum.inr a:Key)=Sum.inl b)=false:=Th (λq=>nomatch q)
def BA (prog:Program) (w:World):PySem.KeyKind prog w Key where
 is:=keyIs
 hash:=keyH w
 inj:=λv a b ha hb=>by
  rcases xq ha with ⟨i,t,rfl,rfl⟩|⟨x,t,rfl,rfl⟩
  ·rcases xq hb with ⟨j,u,rfl,e⟩|⟨y,u,rfl,e⟩
   ·injection e with e1 _;rw [e1]
   ·exact nomatch e
  ·rcases xq hb with ⟨j,u,rfl,e⟩|⟨y,u,rfl,e⟩
   ·exact nomatch e
   ·injection e with e1 _;rw [e1]
 byValue:=λk v h=>by
  rcases xq h with ⟨i,t,rfl,rfl⟩|⟨x,t,rfl,rfl⟩<;>rfl
 pyHash:=λhv h=>by
  rcases xq hv with ⟨i,t,rfl,rfl⟩|⟨x,t,rfl,rfl⟩
  ·exact wpAny_pyHash_int h
  ·exact wpAny_pyHash_str h
 eqBool:=λhu hv h=>by
  rcases xq hu with ⟨i,t,rfl,rfl⟩|⟨x,t,rfl,rfl⟩
  ·rcases xq hv with ⟨j,u,rfl,rfl⟩|⟨y,u,rfl,rfl⟩
   ·rw [key_ll] at h;exact wpAny_eqBool_int h
   ·rw [key_lr] at h;exact SeqAt.EqAt.int_str i t y u _ _ _ _ h
  ·rcases xq hv with ⟨j,u,rfl,rfl⟩|⟨y,u,rfl,rfl⟩
   ·rw [key_rl] at h;exact SeqAt.EqAt.str_int x t j u _ _ _ _ h
   ·rw [key_rr] at h;exact wpAny_eqBool_str h
 «strs»:=λk x t v h=>by
  rcases xq h with ⟨i,u,rfl,e⟩|⟨y,u,rfl,e⟩
  ·exact nomatch e
  ·injection e with e1 _
   subst e1;cases v<;>rfl
end L2
namespace L2
open PySem PySem.Spec PyProof.Rows
inductive V where
 |non|bl (b:Bool)|int (i:Int)|str (x:Str)|byt (b:Array UInt8)|flt (b:UInt64)|ref (a:Addr)|ty (n:String)
 deriving DecidableEq
def ZU:V->Value->Prop
 | .non,u=>u=Value.none
 | .bl b,u=>u=Value.bool b
 | .int i,u=>∃t,u=Value.int i t
 | .str x,u=>∃t,u=Value.str x t
 | .byt b,u=>∃t,u=Value.bytes b t
 | .flt b,u=>∃t,u=Value.float b t
 | .ref a,u=>u=Value.ref a
 | .ty n,u=>u=Value.type n
abbrev xx:List V->List Value->Prop:=Paired ZU
theorem xx.length {xs:List V} {us:List Value} (r:xx xs us):xs.length=us.length:=Paired.length r
theorem xx.get:∀{xs:List V} {us:List Value} {i:Nat} {x:V},xx xs us->xs[i]? =some x->∃u,us[i]? =some u/\ZU x u
 |_,_,_,_, .nil,e=>by simp at e
 |_,_,0,_, .cons r _,e=>by simp at e;subst e;exact ⟨_,rfl,r⟩
 |_,_,i+1,x, .cons _ t,e=>by
  obtain ⟨u,h1,h2⟩:=xx.get (i:=i) (x:=x) t (by simpa using e);exact ⟨u,by simpa using h1,h2⟩
theorem xx.set {x:V} {u:Value} (r:ZU x u):∀{xs:List V} {us:List Value} (i:Nat),xx xs us->xx (xs.set i x) (us.set i u)
 |_,_,_, .nil=> .nil
 |_,_,0, .cons _ t=> .cons r t
 |_,_,i+1, .cons q t=> .cons q (xx.set r i t)
theorem xx.append {xs ys:List V} {us ws:List Value} (h:xx xs us) (s:xx ys ws):xx (xs++ys) (us++ws):=by
 induction h with
 |nil=>exact s
 |cons r t ih=>exact .cons r ih
theorem xx.take:∀{xs:List V} {us:List Value} (n:Nat),xx xs us->xx (xs.take n) (us.take n)
 |_,_,0,_=> .nil
 |_,_,_+1, .nil=> .nil
 |_,_,n+1, .cons r t=> .cons r (xx.take n t)
theorem xx.drop:∀{xs:List V} {us:List Value} (n:Nat),xx xs us->xx (xs.drop n) (us.drop n)
 |_,_,0,r=>r
 |_,_,_+1, .nil=> .nil
 |_,_,n+1, .cons _ t=>xx.drop n t
def Dg:Option V->Option Value->Prop
 |some v,some u=>ZU v u
 |none,none=>True
 |_,_=>False
def KV {κ:Type}:List (κ×V)->List (κ×Value)->Prop:=Paired λ(p:κ×V) (q:κ×Value)=>p.1=q.1/\ZU p.2 q.2
def kV:Key->V
 | .inl i=> .int i
 | .inr x=> .str x
inductive HO where
 |lst (xs:List V)
 |tup (xs:List V)
 |dK (kvs:List (Key×V))|dT (kvs:List (List Key×V))
 |set (S:Int->Bool) (n:Nat)
 |ins (C dx:Addr) (fs:List (Str×V))
 |own (x:Addr)
 |xd (fs:List (Str×V))
 |met (f x:Addr)
 |rng (lo hi:Int)
 |frz (o:Obj) (u:HO)
 |tbl (ps:Array Value)
 |ext (φ:Heap->Prop)
abbrev Hp:=Addr->Option HO
def upd (H:Hp) (a:Addr) (o:HO):Hp:=λb=>if b=a then some o else H b
theorem yM {H:Hp} {a:Addr} {o:HO}:upd H a o a=some o:=by unfold upd;rw [QH rfl]
theorem yg {H:Hp} {a b:Addr} {o:HO} (h:b≠a):upd H a o b=H b:=by unfold upd;rw [QO h]
theorem yk {H:Hp} {a b:Addr} {o:HO} (h:H a=some o) (h':H b=none):a≠b:=by
 intro e;subst e;rw [h] at h';cases h'
section
variable (P:Program) (w:World)
def Yd (H:Hp) (h:Heap) (a:Addr):HO->Prop
 | .lst xs=>xs.length<=sizeLine/\∃(its:List Value) (n:Nat),xx xs its/\h.get? a=some {cls:= .type "list",data:= .seq its.toArray n}
 | .tup xs=>xs.length<=sizeLine/\∃its:List Value,xx xs its/\IsTup h a its.toArray
 | .dK kvs=>kvs.length<=sizeLine/\(a==sysModules)=false/\∃vs,KV kvs vs/\h.DictOf (BA P w) a vs
 | .dT kvs=>kvs.length<=sizeLine/\(a==sysModules)=false/\∃xs:List (List Key×Addr×Value),
  Paired (λ(p:List Key×V) (q:List Key×Addr×Value)=>p.1=q.1/\H q.2.1=some (.tup (p.1.map kV))/\ZU p.2 q.2.2) kvs xs/\
  ∃o es ep,h.get? a=some o/\o.ExactDict/\o.data= .dict es ep/\es.toList=xs.map (entryOfKey (tupleKind (BA P w)))/\(xs.map (·.1)).Nodup
 | .set S n=>h.SetOf (intKind P w) a S n
 | .ins C dx fs=>H dx=some (.own a)/\fs.length<=1000/\dx≠a/\h.get? a=some (PySem.W.instObj C dx)/\
  ∃mA,h.Ns1 dx mA/\(∀f,Dg (fs.lookup f) (mA f))/\PySem.Within mA (fs.map (·.1))
 | .own _=>∃o,h.get? a=some o
 | .xd fs=>∃mA,h.Ns1 a mA/\∀f,Dg (fs.lookup f) (mA f)
 | .rng lo hi=>∃t u v,h.get? a=some {cls:= .type "range",data:= .fields #[.int lo t, .int hi u, .int 1 v]}
 | .frz o u=>h.get? a=some o/\Yd H h a u
 | .tbl ps=>h.get? a=some {cls:= .none,data:= .fields ps}
 | .met f x=>h.get? a=some (PySem.W.methodObj (.ref f) (.ref x))
 | .ext φ=>φ h/\(∃o,h.get? a=some o)/\∀h1 h2:Heap,φ h1->(∀o,h1.get? a=some o->h2.get? a=some o)->φ h2
def HOk (H:Hp) (h:Heap):Prop:=∀a o,H a=some o->Yd P w H h a o
end
section
variable {P:Program} {w:World} {H H':Hp} {h h':Heap} {a:Addr} {o:HO}
theorem Yd.lt (x:Yd P w H h a o):a<h.objs.size:=by
 cases o with
 |lst xs=>obtain ⟨_,_,_,_,e⟩:=x;exact Qu e
 |tup xs=>obtain ⟨_,_,_,p⟩:=x;exact p.lt
 |dK kvs=>obtain ⟨_,_,_,_,o,_,_,e,_⟩:=x;exact Qu e
 |dT kvs=>obtain ⟨_,_,_,_,o,_,_,e,_⟩:=x;exact Qu e
 |set S n=>obtain ⟨o,_,_,_,e,_⟩:=x;exact Qu e
 |ins C dx fs=>obtain ⟨_,_,_,e,_⟩:=x;exact Qu e
 |own y=>obtain ⟨_,e⟩:=x;exact Qu e
 |xd fs=>obtain ⟨_,⟨_,_,_,e,_⟩,_⟩:=x;exact Qu e
 |rng lo hi=>obtain ⟨_,_,_,e⟩:=x;exact Qu e
 |frz ob u=>obtain ⟨e,_⟩:=x;exact Qu e
 |tbl ps=>exact Qu (show h.get? a=some _ from x)
 |met f y=>exact Qu (show h.get? a=some _ from x)
 |ext φ=>obtain ⟨_,⟨_,e⟩,_⟩:=x;exact Qu e
theorem Paired.mapP {α β:Type} {F G:α->β->Prop}:∀{l₁:List α} {l₂:List β},Paired F l₁ l₂->(∀a b,F a b->G a b)->Paired G l₁ l₂
 |_,_, .nil,_=> .nil
 |_,_, .cons r t,f=> .cons (f _ _ r) (Paired.mapP t f)
theorem Yd.stay (x:Yd P w H h a o) (k:∀b u,(b=a\/H b=some (.own a))->h.get? b=some u->h'.get? b=some u)
 (ho:∀b,H b=some (.own a)->H' b=some (.own a)) (ht:∀b xs,H b=some (.tup xs)->H' b=some (.tup xs)):Yd P w H' h' a o:=by
 induction o with
 |lst xs=>obtain ⟨z,its,n,r,e⟩:=x;exact ⟨z,its,n,r,k _ _ (.inl rfl) e⟩
 |tup xs=>obtain ⟨z,its,r,ob,e,c⟩:=x;exact ⟨z,its,r,ob,k _ _ (.inl rfl) e,c⟩
 |dK kvs=>obtain ⟨z,y,vs,r,ob,es,ep,e,c⟩:=x;exact ⟨z,y,vs,r,ob,es,ep,k _ _ (.inl rfl) e,c⟩
 |dT kvs=>
  obtain ⟨z,y,xs,r,ob,es,ep,e,c⟩:=x;exact ⟨z,y,xs,Paired.mapP r λp q z=>⟨z.1,ht _ _ z.2.1,z.2.2⟩,ob,es,ep,k _ _ (.inl rfl) e,c⟩
 |set S n=>obtain ⟨ob,es,ep,t,e,c⟩:=x;exact ⟨ob,es,ep,t,k _ _ (.inl rfl) e,c⟩
 |ins C dx fs=>
  obtain ⟨d,z,ne,e,mA,⟨od,es,ep,e2,c⟩,r⟩:=x;exact ⟨ho _ d,z,ne,k _ _ (.inl rfl) e,mA,⟨od,es,ep,k _ _ (.inr d) e2,c⟩,r⟩
 |own y=>obtain ⟨ob,e⟩:=x;exact ⟨ob,k _ _ (.inl rfl) e⟩
 |xd fs=>obtain ⟨mA,⟨od,es,ep,e,c⟩,r⟩:=x;exact ⟨mA,⟨od,es,ep,k _ _ (.inl rfl) e,c⟩,r⟩
 |rng lo hi=>obtain ⟨t,u,v,e⟩:=x;exact ⟨t,u,v,k _ _ (.inl rfl) e⟩
 |frz ob u ih=>obtain ⟨e,q⟩:=x;exact ⟨k _ _ (.inl rfl) e,ih q⟩
 |tbl ps=>
  have e:h.get? a=some {cls:= .none,data:= .fields ps}:=x;show h'.get? a=some {cls:= .none,data:= .fields ps};exact k a _ (.inl rfl) e
 |met f y=>
  have e:h.get? a=some (PySem.W.methodObj (.ref f) (.ref y)):=x;show h'.get? a=some (PySem.W.methodObj (.ref f) (.ref y));exact k a _ (.inl rfl) e
 |ext φ=>obtain ⟨p,⟨o,e⟩,st⟩:=x;exact ⟨st _ _ p λo q=>k _ _ (.inl rfl) q,⟨o,k _ _ (.inl rfl) e⟩,st⟩
theorem HOk.lt (x:HOk P w H h) (e:H a=some o):a<h.objs.size:=(x a o e).lt
theorem HOk.fresh (x:HOk P w H h) (e:h.objs.size<=a):H a=none:=by
 cases q:H a with
 |none=>rfl
 |some u=>exact absurd (QY (x.lt q) e) (jaw _)
theorem HOk.kept (x:HOk P w H h) (k:∀b u,h.get? b=some u->h'.get? b=some u):HOk P w H h':=λa o e=>
 (x a o e).stay (λb u _ q=>k b u q) (λ_ q=>q) λ_ _ q=>q
theorem HOk.laid (x:HOk P w H h) (k:∀b u,h.get? b=some u->h'.get? b=some u) (hp:h.objs.size<=a) (new:Yd P w (upd H a o) h' a o):HOk P w (upd H a o) h':=λb u e=>by
 have hn:=x.fresh hp
 by_cases hb:b=a
 ·subst hb;rw [yM] at e;cases e;exact new
 ·rw [yg hb] at e;exact (x b u e).stay (λc v _ q=>k c v q) (λc q=>by rw [yg (yk q hn)];exact q) λc xs q=>by rw [yg (yk q hn)];exact q
end
def Rd (H:Hp) (a:Addr) (u:HO):Prop:=H a=some u\/∃o,H a=some (.frz o u)
theorem Rd.ok {P:Program} {w:World} {H:Hp} {h:Heap} {a:Addr} {u:HO} (r:Rd H a u) (x:HOk P w H h):Yd P w H h a u:=by
 rcases r with r|⟨o,r⟩
 ·exact x a u r
 ·obtain ⟨_,q⟩:=x a _ r;exact q
def Mut:Option HO->Prop
 |some (.lst _)=>True
 |some (.dK _)=>True
 |some (.dT _)=>True
 |some (.set _ _)=>True
 |some (.ins _ _ _)=>True
 |some (.ext _)=>True
 |_=>False
section
variable {P:Program} {w:World} {H:Hp} {h h':Heap} {x e:Addr} {o':HO}
theorem HOk.write (ok:HOk P w H h) (mu:Mut (H x)) (he:e=x\/H e=some (.own x)) (k:∀b u,b≠e->h.get? b=some u->h'.get? b=some u) (Nx:∃u,h'.get? e=some u)
 (new:Yd P w (upd H x o') h' x o'):HOk P w (upd H x o') h':=λb u q=>by
 have nown:∀c y,H c=some (.own y)->c≠x:=λc y r z=>by subst z;rw [r] at mu;exact mu
 have ntup:∀c xs,H c=some (.tup xs)->c≠x:=λc xs r z=>by subst z;rw [r] at mu;exact mu
 by_cases hb:b=x
 ·subst hb;rw [yM] at q;cases q;exact new
 ·rw [yg hb] at q
  by_cases Ng:b=e
  ·have q':H b=some (.own x):=by
    rcases he with z|z
    ·exact absurd (Ng.trans z) hb
    ·rw [Ng];exact z
   rw [q] at q';cases q';obtain ⟨v,hv⟩:=Nx;exact ⟨v,by rw [Ng];exact hv⟩
  ·refine (ok b u q).stay (λc v hc r=>k c v ?_ r) (λc r=>by rw [yg (nown c b r)];exact r) λc xs r=>by rw [yg (ntup c xs r)];exact r
   rcases hc with rfl|hc
   ·exact Ng
   ·rintro rfl
    rcases he with z|z
    ·exact nown c b hc z
    ·rw [hc] at z;cases z;exact hb rfl
end
structure Un (fs ex:List Addr) (H H':Hp) (h h':Heap):Prop where
 keep:∀b o,h.get? b=some o->H b=none->b∉fs->b∉ex->h'.get? b=some o
 slot:∀b o,h.get? b=some o->H b=none->b∈fs->b∉ex->∃sl,h'.get? b=some {o with slots:=sl}
 free:∀b o,h.get? b=some o->H b=none->b∉ex->H' b=none
 there:∀b o,h.get? b=some o->b∉ex->∃o',h'.get? b=some o'
 tups:∀b xs,H b=some (.tup xs)->H' b=some (.tup xs)
 frzs:∀b o u,H b=some (.frz o u)->H' b=some (.frz o u)
 tbls:∀b ps,H b=some (.tbl ps)->∃more,H' b=some (.tbl (ps++more))
section
variable {fs fs' ex ex':List Addr} {H H1 H2:Hp} {h h1 h2 h':Heap} {a x e:Addr} {o:HO}
theorem Un.any (u:Un fs ex H H1 h h1) {b:Addr} {ob:Obj} (q:h.get? b=some ob) (n:H b=none) (hx:b∉ex):∃sl,h1.get? b=some {ob with slots:=sl}:=by
 by_cases hb:b∈fs
 ·exact u.slot b ob q n hb hx
 ·exact ⟨ob.slots,u.keep b ob q n hb hx⟩
theorem Un.trans (a:Un fs ex H H1 h h1) (b:Un fs ex H1 H2 h1 h2):Un fs ex H H2 h h2 where
 keep:=λc ob q n hc hx=>b.keep c ob (a.keep c ob q n hc hx) (a.free c ob q n hx) hc hx
 slot:=λc ob q n hc hx=>by
  obtain ⟨sl,e1⟩:=a.slot c ob q n hc hx;obtain ⟨PD,e2⟩:=b.slot c _ e1 (a.free c ob q n hx) hc hx;exact ⟨PD,e2⟩
 free:=λc ob q n hx=>by
  obtain ⟨o',e1⟩:=a.there c ob q hx;exact b.free c o' e1 (a.free c ob q n hx) hx
 there:=λc ob q hx=>by
  obtain ⟨o',e1⟩:=a.there c ob q hx;exact b.there c o' e1 hx
 tups:=λc xs q=>b.tups c xs (a.tups c xs q)
 frzs:=λc ob xs q=>b.frzs c ob xs (a.frzs c ob xs q)
 tbls:=λc ps q=>by
  obtain ⟨m1,e1⟩:=a.tbls c ps q;obtain ⟨m2,e2⟩:=b.tbls c _ e1;exact ⟨m1++m2,by rw [e2,Array.append_assoc]⟩
theorem Un.kept (k:∀b u,h.get? b=some u->h'.get? b=some u):Un fs ex H H h h':=
 ⟨λb ob q _ _ _=>k b ob q,λb ob q _ _ _=>⟨ob.slots,k b ob q⟩,λ_ _ _ n _=>n,λb ob q _=>⟨ob,k b ob q⟩,λ_ _ q=>q,λ_ _ _ q=>q,λ_ ps q=>⟨#[],by rw [q];simp⟩⟩
theorem Un.refl:Un fs ex H H h h:=Un.kept λ_ _ q=>q
theorem Un.laid (k:∀b u,h.get? b=some u->h'.get? b=some u) (hp:h.objs.size<=a) (hn:H a=none):Un fs ex H (upd H a o) h h' where
 keep:=λb u q _ _ _=>k b u q
 slot:=λb u q _ _ _=>⟨u.slots,k b u q⟩
 free:=λb u q n _=>by rw [yg (QM (QY (Qu q) hp))];exact n
 there:=λb u q _=>⟨u,k b u q⟩
 tups:=λb xs q=>by rw [yg (yk q hn)];exact q
 frzs:=λb u xs q=>by rw [yg (yk q hn)];exact q
 tbls:=λb ps q=>⟨#[],by rw [yg (yk q hn),q];simp⟩
theorem Un.write (mu:Mut (H x)) (he:e=x\/H e=some (.own x)) (k:∀b u,b≠e->h.get? b=some u->h'.get? b=some u) (Nx:∃u,h'.get? e=some u):Un fs ex H (upd H x o) h h':=by
 have hx:∀b,H b=none->b≠x:=λb n z=>by subst z;rw [n] at mu;exact mu
 have hb:∀b,H b=none->b≠e:=λb n z=>by
  subst z
  rcases he with r|r
  ·exact hx b n r
  ·rw [n] at r;cases r
 have hm:∀b u,H b=some u->¬Mut (some u)->b≠x:=λb u q nm z=>by subst z;rw [q] at mu;exact nm mu
 refine ⟨λb u q n _ _=>k b u (hb b n) q,λb u q n _ _=>⟨u.slots,k b u (hb b n) q⟩,λb u q n _=>by rw [yg (hx b n)];exact n,λb u q _=>?_,
  λb xs q=>by rw [yg (hm b _ q λz=>z)];exact q,λb u xs q=>by rw [yg (hm b _ q λz=>z)];exact q,λb ps q=>⟨#[],by rw [yg (hm b _ q λz=>z),q];simp⟩⟩
 by_cases Ng:b=e
 ·subst Ng;exact Nx
 ·exact ⟨u,k b u Ng q⟩
end
def trk (h:Heap) (H:Hp):List Addr:=(List.range h.objs.size).filter λa=>(H a).isSome
def Fq (h:Heap) (H:Hp):Heap:=PySem.W.hideAll h (trk h H)
theorem BY (h:Heap) (H:Hp):(Fq h H).objs.size=h.objs.size:=PySem.W.hideAll_size _ _
theorem Fp {h:Heap} {H:Hp} {b:Addr} {o:Obj} (e:h.get? b=some o) (n:H b=none):(Fq h H).get? b=some o:=
 PySem.W.hideAll_get _ e λhm=>by
  have q:(H b).isSome=true:=(Tq.mp hm).2;rw [n] at q;simp at q
theorem Ih {h:Heap} {H:Hp} {b:Addr} {o:Obj} (e:(Fq h H).get? b=some o):h.get? b=some o/\H b=none:=by
 have e':h.get? b=some o:=PySem.W.of_hideAll (trk h H) e;refine ⟨e',?_⟩
 cases q:H b with
 |none=>rfl
 |some x=>
  have hm:b∈trk h H:=Tq.mpr ⟨jca.mpr (Qu e'),by simp [q]⟩;have z:(Fq h H).get? b=none:=PySem.W.hideAll_none (trk h H) hm;rw [z] at e;cases e
def IV (g h:Heap) (L:Addr):List (Addr×Obj):=(List.range h.objs.size).filterMap λa=>if a=L\/(g.get? a).isSome=true then none else (h.get? a).map λo=>(a,o)
def rest (g h:Heap) (L d:Addr):List (Addr×Obj):=(IV g h L).filter λp=>decide (p.1≠d)
end L2
namespace L2
open PySem PySem.Spec PyProof.Rows
structure Mod (K:Frg) (mg:Str->Option Value) (base:Heap):Prop where
 kin:K.In base
 glob:base.Ns mainGlobals mg
 blt:∃mb,base.Ns builtinsNs mb/\∀x:Str,x≠"__name__"->mb x=bootBuiltins x
 nolimit:base.NoLimit
structure Cx where
 prog:Program
 w:World
 K:Frg
 mg:Str->Option Value
 base:Heap
 A:Around
 N:List Str
 s₀:Shared
 H₀:Hp
 env:Env
 outer:List Env
 stack:List Env
 ex:List Addr
 fn:Str->Bool
 calm:Bool
 pn:List (Addr×Obj)
 xe:Value->Shared->Prop
def frs (l:List Env):List Addr:=l.filterMap (·.frame)
abbrev Cx.fs (X:Cx):List Addr:=frs X.outer
def Vis (sc:Scope) (x:Str):Prop:=sc.names.lookup x=some .local\/sc.names.lookup x=some .cell\/sc.names.lookup x=some .free
def Loc (sc:Scope) (x:Str):Prop:=sc.names.lookup x=some .local\/sc.names.lookup x=some .cell
def Look (env:Env) (h:Heap) (m:Str->Option Value) (x:Str) (u:Value):Prop:=
 (env.kindOf x=some .local/\m x=some u)\/((env.kindOf x=some .cell\/env.kindOf x=some .free)/\∃c,env.cells.lookup x=some c/\h.IsCell c (some u))
structure Cx.Ok (X:Cx):Prop where
 mod:Mod X.K X.mg X.base
 kind:X.env.scope.kind= .function
 glob:X.env.globals=mainGlobals
 blt:X.env.builtins=builtinsNs
 above:X.s₀.heap.objs.size<=X.env.locals
 inj:∀x y c,X.env.cells.lookup x=some c->X.env.cells.lookup y=some c->x=y
 has:∀x,(X.env.kindOf x=some .cell\/X.env.kindOf x=some .free)->∃c,X.env.cells.lookup x=some c
 cab:∀x c,X.fn x=true->X.env.cells.lookup x=some c->X.s₀.heap.objs.size<=c
 hd:X.calm=true->X.A.handled=none
 frames:X.A.frames=some X.stack
 stk:X.stack=X.outer\/(X.stack=X.env::X.outer/\X.env.frame=some X.env.locals)
 exf:∀b∈X.ex,b≠X.env.locals/\∀x c,X.env.cells.lookup x=some c->c≠b
 bs:∀b o,X.base.get? b=some o->X.s₀.heap.get? b=some o/\X.H₀ b=none
 bsz:X.base.objs.size<=X.s₀.heap.objs.size
 noex:∀b o,X.base.get? b=some o->b∉X.ex
 exfs:∀b∈X.ex,b∉X.fs
 funs:X.s₀.heap.FunFrames X.base X.outer
 frf:∀b∈X.fs,X.H₀ b=none
structure Inv (X:Cx) (pins:List (Addr×Obj)) (σ:List (Option V)) (H:Hp) (s:Shared):Prop where
 ok:X.Ok
 os:s.os=X.s₀.os
 bare:AllBare s.gens
 base:Un X.fs X.ex X.H₀ H X.s₀.heap s.heap
 loc:∃m,s.heap.Ns X.env.locals m/\∀(i:Nat) (x:Str) (v:V),X.N[i]? =some x->σ[i]? =some (some v)->Vis X.env.scope x->∃u,ZU v u/\Look X.env s.heap m x u
 cell:∀x c,X.env.cells.lookup x=some c->∃v,s.heap.IsCell c v
 free:H X.env.locals=none
 freeC:∀x c,X.env.cells.lookup x=some c->H c=none
 pin:∀p∈X.pn++pins,s.heap.get? p.1=some p.2/\H p.1=none/\p.1≠X.env.locals/\p.1∉X.fs/\∀v,p.2.data≠ .cell v
 hok:HOk X.prog X.w H s.heap
 len:σ.length=X.N.length
section
variable {X:Cx} {pins:List (Addr×Obj)} {σ:List (Option V)} {H H':Hp} {s:Shared} {h':Heap}
theorem Cx.Ok.nofr (ok:X.Ok) {b:Addr} {o:Obj} (e:X.base.get? b=some o):b∉X.fs:=λhb=>by
 have:=(ok.funs.mem hb).1;rw [e] at this;cases this
theorem Inv.bs (I:Inv X pins σ H s):∀b o,X.base.get? b=some o->s.heap.get? b=some o/\H b=none:=λb o e=>
 ⟨I.base.keep b o (I.ok.bs b o e).1 (I.ok.bs b o e).2 (I.ok.nofr e) (I.ok.noex b o e),I.base.free b o (I.ok.bs b o e).1 (I.ok.bs b o e).2 (I.ok.noex b o e)⟩
theorem Inv.bk (I:Inv X pins σ H s):∀b o,X.base.get? b=some o->s.heap.get? b=some o:=λb o e=>(I.bs b o e).1
theorem Inv.mod (I:Inv X pins σ H s):Mod X.K X.mg X.base:=I.ok.mod
theorem Inv.kIn (I:Inv X pins σ H s):X.K.In s.heap:=I.ok.mod.kin.keeps I.bk
theorem Inv.lt (I:Inv X pins σ H s):X.env.locals<s.heap.objs.size:=by
 obtain ⟨_,hn,_⟩:=I.loc;exact hn.lt
theorem Inv.sz (I:Inv X pins σ H s):X.s₀.heap.objs.size<=s.heap.objs.size:=QU I.ok.above (jbM I.lt)
theorem Inv.nofs (I:Inv X pins σ H s) {a:Addr} (h:s.heap.objs.size<=a):a∉X.fs:=λhb=>by
 obtain ⟨_,o,ho,_⟩:=I.ok.funs.mem hb;exact absurd (QY (Qu ho) (QU I.sz h)) (jaw _)
theorem Inv.cne (I:Inv X pins σ H s):∀x c,X.env.cells.lookup x=some c->c≠X.env.locals:=λx c e z=>by
 obtain ⟨v,o,ho,hd⟩:=I.cell x c e;obtain ⟨m,⟨o',es,ep,MY,KS,_⟩,_⟩:=I.loc;rw [z,MY] at ho;cases ho;rw [KS] at hd;cases hd
theorem Inv.funs (I:Inv X pins σ H s):s.heap.FunFrames X.base X.outer:=by
 have all:∀(l:List Env),(∀b∈frs l,b∈X.fs)->X.s₀.heap.FunFrames X.base l->s.heap.FunFrames X.base l:=by
  intro l
  induction l with
  |nil=>intro _ _;trivial
  |cons env r ih=>
   intro hs hl;obtain ⟨hk,⟨L,o,hf,hn,ho,hd⟩,hr⟩:=hl;have hL:L∈X.fs:=hs L (by unfold frs;rw [jaW,hf];exact Qe);obtain ⟨sl,e⟩:=I.base.slot L o ho (I.ok.frf L hL) hL λz=>I.ok.exfs L z hL;exact ⟨hk,⟨L,_,hf,hn,e,hd⟩,ih (λb hb=>hs b (by unfold frs;rw [jaW,hf];exact Qf _ hb)) hr⟩
 exact all X.outer (λ_ hb=>hb) I.ok.funs
theorem Inv.stack (I:Inv X pins σ H s):s.heap.FunFrames X.base X.stack:=by
 rcases I.ok.stk with e|⟨e,hf⟩
 ·rw [e];exact I.funs
 ·rw [e];obtain ⟨m,hn,_⟩:=I.loc;refine .cons (by rw [I.ok.kind];decide) hf hn ?_ I.funs;exact Heap.get?_none_of_le (QU I.ok.bsz I.ok.above)
theorem Inv.stkSub (I:Inv X pins σ H s):∀b∈frs X.stack,b∈X.env.locals::X.fs:=λb hb=>by
 rcases I.ok.stk with e|⟨e,hf⟩
 ·rw [e] at hb;exact Qf _ hb
 ·rw [e] at hb;unfold frs at hb;rw [jaW,hf] at hb;exact hb
theorem Inv.stkFree (I:Inv X pins σ H s):∀b∈frs X.stack,H b=none:=λb hb=>by
 rcases Qm.mp (I.stkSub b hb) with e|hb
 ·rw [e];exact I.free
 ·obtain ⟨_,o,ho,_⟩:=I.ok.funs.mem hb;exact I.base.free b o ho (I.ok.frf b hb) λz=>I.ok.exfs b z hb
theorem Inv.step {g':Array GenState} {t':Nat} {d':Drawn} {ch:List Addr} (I:Inv X pins σ H s)
 (Ms:∀b∈ch,(b∈X.ex\/X.s₀.heap.objs.size<=b)/\b≠X.env.locals/\(∀x c,X.env.cells.lookup x=some c->c≠b)/\∀p∈X.pn++pins,p.1≠b)
 (keep:∀b o,b≠X.env.locals->b∉X.fs->b∉ch->s.heap.get? b=some o->H b=none->h'.get? b=some o)
 (slot:∀b o,b≠X.env.locals->b∈X.fs->b∉ch->s.heap.get? b=some o->H b=none->∃sl,h'.get? b=some {o with slots:=sl}) (free:∀b o,b∉ch->s.heap.get? b=some o->H b=none->H' b=none)
 (there:∀b o,b∉ch->s.heap.get? b=some o->∃o',h'.get? b=some o')
 (tups:∀b xs,H b=some (.tup xs)->H' b=some (.tup xs)) (frzs:∀b o u,H b=some (.frz o u)->H' b=some (.frz o u)) (tbls:∀b ps,H b=some (.tbl ps)->∃more,H' b=some (.tbl (ps++more)))
 (ns:∀m,s.heap.Ns X.env.locals m->h'.Ns X.env.locals m) (hok:HOk X.prog X.w H' h') (hg:AllBare g'):
 Inv X pins σ H' {s with heap:=h',gens:=g',drawn:=d',toks:=t'}:=by
 have neL:∀b o,X.s₀.heap.get? b=some o->b≠X.env.locals:=λb o e=>QM (QY (Qu e) I.ok.above)
 have neC:∀b o,X.s₀.heap.get? b=some o->b∉X.ex->b∉ch:=λb o e hx hb=>by
  rcases (Ms b hb).1 with z|z
  ·exact hx z
  ·exact absurd (QY (Qu e) z) (jaw _)
 have cellK:∀x c,X.env.cells.lookup x=some c->∀v,s.heap.IsCell c v->h'.IsCell c v:=λx c e v ⟨o,ho,hd⟩=>by
  have nch:c∉ch:=λz=>(Ms c z).2.2.1 x c e rfl
  by_cases hc:c∈X.fs
  ·obtain ⟨sl,q⟩:=slot c o (I.cne x c e) hc nch ho (I.freeC x c e);exact ⟨_,q,hd⟩
  ·exact ⟨o,keep c o (I.cne x c e) hc nch ho (I.freeC x c e),hd⟩
 refine ⟨I.ok,I.os,hg,⟨λb o e n hb hx=>?_,λb o e n hb hx=>?_,λb o e n hx=>?_,λb o e hx=>?_,λb xs e=>tups b xs (I.base.tups b xs e),λb o xs e=>frzs b o xs (I.base.frzs b o xs e),λb ps e=>?_⟩,?_,λx c e=>?_,?_,λx c e=>?_,λp hp=>?_,hok,I.len⟩
 ·exact keep b o (neL b o e) hb (neC b o e hx) (I.base.keep b o e n hb hx) (I.base.free b o e n hx)
 ·obtain ⟨sl,e1⟩:=I.base.slot b o e n hb hx;obtain ⟨PD,e2⟩:=slot b _ (neL b o e) hb (neC b o e hx) e1 (I.base.free b o e n hx);exact ⟨PD,e2⟩
 ·obtain ⟨o',e1⟩:=I.base.there b o e hx;exact free b o' (neC b o e hx) e1 (I.base.free b o e n hx)
 ·obtain ⟨o',e1⟩:=I.base.there b o e hx;exact there b o' (neC b o e hx) e1
 ·obtain ⟨m1,e1⟩:=I.base.tbls b ps e;obtain ⟨m2,e2⟩:=tbls b _ e1;exact ⟨m1++m2,by rw [e2,Array.append_assoc]⟩
 ·obtain ⟨m,hn,hl⟩:=I.loc;refine ⟨m,ns m hn,λi x v e1 e2 e3=>?_⟩;obtain ⟨u,r,l⟩:=hl i x v e1 e2 e3;refine ⟨u,r,?_⟩
  rcases l with l|⟨k,c,e,z⟩
  ·exact .inl l
  ·exact .inr ⟨k,c,e,cellK x c e _ z⟩
 ·obtain ⟨v,z⟩:=I.cell x c e;exact ⟨v,cellK x c e v z⟩
 ·obtain ⟨m,⟨o,_,_,ho,_⟩,_⟩:=I.loc;exact free _ o (λz=>(Ms _ z).2.1 rfl) ho I.free
 ·obtain ⟨v,o,ho,hd⟩:=I.cell x c e;exact free c o (λz=>(Ms c z).2.2.1 x c e rfl) ho (I.freeC x c e)
 ·obtain ⟨e,n,ne,nf,d⟩:=I.pin p hp;have nch:p.1∉ch:=λz=>(Ms p.1 z).2.2.2 p hp rfl;exact ⟨keep p.1 p.2 ne nf nch e n,free p.1 p.2 nch e n,ne,nf,d⟩
theorem Inv.un {t':Nat} (I:Inv X pins σ H s) (u:Un X.fs [] H H' s.heap h') (hok:HOk X.prog X.w H' h'):Inv X pins σ H' {s with heap:=h',toks:=t'}:=by
 obtain ⟨m,⟨o,es,ep,ho,r⟩,_⟩:=id I.loc;obtain ⟨sl,hL⟩:=u.any ho I.free (by simp)
 exact I.step (g':=s.gens) (d':=s.drawn) (ch:=[]) (λ_ z=>nomatch z) (λb o _ hb _ e n=>u.keep b o e n hb (by simp)) (λb o _ hb _ e n=>u.slot b o e n hb (by simp)) (λb o _ e n=>u.free b o e n (by simp)) (λb o _ e=>u.there b o e (by simp)) u.tups u.frzs u.tbls (λm' hm=>by
  obtain ⟨o',Sk,NB,MY,r'⟩:=hm;rw [ho] at MY;cases MY
  exact ⟨_,Sk,NB,hL,r'⟩) hok I.bare
theorem Inv.call {g':Array GenState} {t':Nat} {d':Drawn} {ch:List Addr} (I:Inv X pins σ H s) (u:Un (frs X.stack) ch H H' s.heap h') (hok:HOk X.prog X.w H' h') (hg:AllBare g')
 (Ms:∀b∈ch,(b∈X.ex\/X.s₀.heap.objs.size<=b)/\b≠X.env.locals/\(∀x c,X.env.cells.lookup x=some c->c≠b)/\∀p∈X.pn++pins,p.1≠b):
 Inv X pins σ H' {s with heap:=h',gens:=g',drawn:=d',toks:=t'}:=by
 obtain ⟨m,⟨o,es,ep,ho,r⟩,_⟩:=id I.loc;obtain ⟨sl,hL⟩:=u.any ho I.free λz=>(Ms _ z).2.1 rfl
 exact I.step (ch:=ch) Ms (λb o hL hb hc e n=>u.keep b o e n (λz=>(Qm.mp (I.stkSub b z)).elim hL hb) hc) (λb o _ _ hc e n=>u.any e n hc) (λb o hc e n=>u.free b o e n hc) (λb o hc e=>u.there b o e hc) u.tups u.frzs u.tbls (λm' hm=>by
  obtain ⟨o',Sk,NB,MY,r'⟩:=hm;rw [ho] at MY;cases MY
  exact ⟨_,Sk,NB,hL,r'⟩) hok hg
theorem Inv.turned {t':Nat} {it:Addr} (I:Inv X pins σ H s) (k:∀b o,b≠it->s.heap.get? b=some o->h'.get? b=some o) (hn:H it=none) (hL:it≠X.env.locals)
 (h1:it∈X.ex\/X.s₀.heap.objs.size<=it) (h2:∀x c,X.env.cells.lookup x=some c->c≠it) (h3:∀p∈X.pn++pins,p.1≠it):Inv X pins σ H {s with heap:=h',toks:=t'}:=by
 have nit:∀b u,H b=some u->b≠it:=λb u e z=>by rw [z,hn] at e;cases e
 refine I.step (g':=s.gens) (d':=s.drawn) (ch:=[it]) (λb hb=>?_) (λb o _ _ hc e _=>k b o (λz=>hc (by simp [z])) e) (λb o _ _ hc e _=>⟨o.slots,k b o (λz=>hc (by simp [z])) e⟩) (λ_ _ _ _ n=>n)
  (λb o hc e=>⟨o,k b o (λz=>hc (by simp [z])) e⟩) (λ_ _ e=>e) (λ_ _ _ e=>e) (λb ps e=>⟨#[],by rw [e];simp⟩) (λm hm=>?_) (λb u e=>?_) I.bare
 ·have e:b=it:=by simpa using hb
  subst e;exact ⟨h1,hL,h2,h3⟩
 ·obtain ⟨o,es,ep,ho,r⟩:=hm;exact ⟨o,es,ep,k _ o (Ne.symm hL) ho,r⟩
 ·refine (I.hok b u e).stay (λc v hc q=>k c v ?_ q) (λ_ q=>q) λ_ _ q=>q
  rcases hc with z|z
  ·rw [z];exact nit b u e
  ·exact nit c _ z
theorem Inv.tok (I:Inv X pins σ H s) (t:Nat):Inv X pins σ H {s with toks:=t}:=I.un (h':=s.heap) (t':=t) Un.refl I.hok
theorem Inv.kept {t':Nat} (I:Inv X pins σ H s) (k:∀b u,s.heap.get? b=some u->h'.get? b=some u):Inv X pins σ H {s with heap:=h',toks:=t'}:=I.un (Un.kept k) (I.hok.kept k)
theorem Inv.laid {a:Addr} {o:HO} {t':Nat} (I:Inv X pins σ H s) (k:∀b u,s.heap.get? b=some u->h'.get? b=some u) (hp:s.heap.objs.size<=a) (new:Yd X.prog X.w (upd H a o) h' a o):
 Inv X pins σ (upd H a o) {s with heap:=h',toks:=t'}:=I.un (Un.laid k hp (I.hok.fresh hp)) (I.hok.laid k hp new)
theorem Inv.write {x e:Addr} {o:HO} {t':Nat} (I:Inv X pins σ H s) (mu:Mut (H x)) (he:e=x\/H e=some (.own x)) (k:∀b u,b≠e->s.heap.get? b=some u->h'.get? b=some u) (Nx:∃u,h'.get? e=some u)
 (new:Yd X.prog X.w (upd H x o) h' x o):Inv X pins σ (upd H x o) {s with heap:=h',toks:=t'}:=I.un (Un.write mu he k Nx) (I.hok.write mu he k Nx new)
theorem Inv.weak {σ':List (Option V)} (I:Inv X pins σ H s) (hl:σ'.length=σ.length) (w:∀(i:Nat) v,σ'[i]? =some (some v)->σ[i]? =some (some v)):Inv X pins σ' H s:=
 ⟨I.ok,I.os,I.bare,I.base,let ⟨m,hn,KJ⟩:=I.loc;⟨m,hn,λi x v e1 e2 e3=>KJ i x v e1 (w i v e2) e3⟩,I.cell,I.free,I.freeC,I.pin,I.hok,hl.trans I.len⟩
theorem Inv.pins_of {MA:List (Addr×Obj)} (I:Inv X pins σ H s) (h:∀p∈MA,s.heap.get? p.1=some p.2/\H p.1=none/\p.1≠X.env.locals/\p.1∉X.fs/\∀v,p.2.data≠ .cell v):Inv X MA σ H s:=
 ⟨I.ok,I.os,I.bare,I.base,I.loc,I.cell,I.free,I.freeC,λp hp=>(QS.mp hp).elim (λz=>I.pin p (jah _ z)) (h p),I.hok,I.len⟩
theorem sF {N:List Str} (hN:N.Nodup) {i j:Nat} {x:Str} (a:N[i]? =some x) (b:N[j]? =some x):i=j:=by
 obtain ⟨h1,e1⟩:=Qd.mp a;obtain ⟨h2,e2⟩:=Qd.mp b;exact (List.getElem_inj hN).mp (e1.trans e2.symm)
theorem mF {M:Model} {A:Around} {E:Value->Shared->Prop} {i:Nat} {x:Str} {v:V} {u:Value} {Q:Unit->Shared->Prop} (I:Inv X pins σ H s) (hN:X.N.Nodup) (hi:X.N[i]? =some x) (hx:Loc X.env.scope x) (r:ZU v u)
 (h:∀s',Inv X pins (σ.set i (some v)) H s'->(∃a,Heap.SameBut a s.heap s'.heap/\(a=X.env.locals\/X.env.cells.lookup x=some a))->Q () s') (hf:X.fn x=true\/X.env.scope.names.lookup x=some .local:=by walk_at "f"):wpAny M A (storeName X.env x u) Q E s:=by
 obtain ⟨m,hn,hl⟩:=id I.loc;have RS:(X.env.scope.kind== .class||(X.env.scope.kind== .module && X.env.locals !=X.env.globals))=false:=by rw [I.ok.kind];rfl
 have hiσ:i<σ.length:=by rw [I.len];exact (Qd.mp hi).1
 have cne:=I.cne
 have tracked:∀{a:Addr} {h':Heap},(∃o,s.heap.get? a=some o/\H a=none)->Heap.SameBut a s.heap h'->HOk X.prog X.w H h':=λ{a h'} ha hs b ob e=>by
  obtain ⟨_,_,MH⟩:=ha;refine (I.hok b ob e).stay (λc w' hc q=>(hs.2 c ?_).trans q) (λ_ q=>q) λ_ _ q=>q
  rintro rfl
  rcases hc with rfl|hc
  ·rw [MH] at e;cases e
  ·rw [MH] at hc;cases hc
 rcases hx with hk|hk
 ·refine wpAny_storeName_local hk hn (λh' hn' hs=>?_) RS;obtain ⟨oL,_,_,hoL,_⟩:=id hn;refine h _ ⟨I.ok,I.os,I.bare,⟨λb o e n hb hx=>?_,λb o e n hb hx=>?_,I.base.free,λb o e hx=>?_,I.base.tups,I.base.frzs,I.base.tbls⟩,⟨_,hn',λj y v' e1 e2 e3=>?_⟩,λy c e=>?_,I.free,I.freeC,λp hp=>?_,tracked ⟨oL,hoL,I.free⟩ hs,by simpa using I.len⟩ ⟨_,hs, .inl rfl⟩
  ·exact (hs.2 b (QM (QY (Qu e) I.ok.above))).trans (I.base.keep b o e n hb hx)
  ·obtain ⟨sl,e1⟩:=I.base.slot b o e n hb hx;exact ⟨sl,(hs.2 b (QM (QY (Qu e) I.ok.above))).trans e1⟩
  ·obtain ⟨o',e1⟩:=I.base.there b o e hx;exact ⟨o',(hs.2 b (QM (QY (Qu e) I.ok.above))).trans e1⟩
  ·by_cases hj:j=i
   ·subst hj;rw [hi] at e1;cases e1;rw [List.getElem?_set_self hiσ] at e2;cases e2;exact ⟨u,r, .inl ⟨hk,by simp⟩⟩
   ·rw [jbG (Ne.symm hj)] at e2;obtain ⟨u',r',q⟩:=hl j y v' e1 e2 e3;refine ⟨u',r',?_⟩
    rcases q with ⟨k,e⟩|⟨k,c,e,z⟩
    ·refine .inl ⟨k,?_⟩;have:y≠x:=λe=>hj (sF hN e1 (e▸hi));simp [this,e]
    ·exact .inr ⟨k,c,e,z.sameBut hs (cne y c e)⟩
  ·obtain ⟨w',z⟩:=I.cell y c e;exact ⟨w',z.sameBut hs (cne y c e)⟩
  ·obtain ⟨e,n,ne,nf,d⟩:=I.pin p hp;exact ⟨(hs.2 p.1 ne).trans e,n,ne,nf,d⟩
 ·have RH:X.fn x=true:=by
   rcases hf with z|z
   ·exact z
   ·rw [z] at hk;cases hk
  obtain ⟨c,hc⟩:=I.ok.has x (.inl hk);obtain ⟨w',z⟩:=I.cell x c hc;refine wpAny_storeName_cell I.ok.kind hk hc z (λh' Kx hs=>?_);obtain ⟨oc,hoc,Rn⟩:=id z;refine h {s with heap:=h'} ⟨I.ok,I.os,I.bare,⟨λb o e n hb hx=>?_,λb o e n hb hx=>?_,I.base.free,λb o e hx=>?_,I.base.tups,I.base.frzs,I.base.tbls⟩,⟨m,hn.sameBut hs (Ne.symm (cne x c hc)),λj y v' e1 e2 e3=>?_⟩,λy c' e=>?_,I.free,I.freeC,λp hp=>?_,tracked ⟨oc,hoc,I.freeC x c hc⟩ hs,by simpa using I.len⟩ ⟨c,hs, .inr hc⟩
  ·exact (hs.2 b (QM (QY (Qu e) (I.ok.cab x c RH hc)))).trans (I.base.keep b o e n hb hx)
  ·obtain ⟨sl,e1⟩:=I.base.slot b o e n hb hx;exact ⟨sl,(hs.2 b (QM (QY (Qu e) (I.ok.cab x c RH hc)))).trans e1⟩
  ·obtain ⟨o',e1⟩:=I.base.there b o e hx;exact ⟨o',(hs.2 b (QM (QY (Qu e) (I.ok.cab x c RH hc)))).trans e1⟩
  ·by_cases hj:j=i
   ·subst hj;rw [hi] at e1;cases e1;rw [List.getElem?_set_self hiσ] at e2;cases e2;exact ⟨u,r, .inr ⟨.inl hk,c,hc,Kx⟩⟩
   ·rw [jbG (Ne.symm hj)] at e2;obtain ⟨u',r',q⟩:=hl j y v' e1 e2 e3;refine ⟨u',r',?_⟩
    rcases q with q|⟨k,c',e,z'⟩
    ·exact .inl q
    ·refine .inr ⟨k,c',e,z'.sameBut hs ?_⟩
     rintro rfl
     exact hj (sF hN e1 (I.ok.inj _ _ _ e hc▸hi))
  ·by_cases Pa:c'=c
   ·subst Pa;exact ⟨_,Kx⟩
   ·obtain ⟨w2,z2⟩:=I.cell y c' e;exact ⟨w2,z2.sameBut hs Pa⟩
  ·obtain ⟨e,n,ne,nf,d⟩:=I.pin p hp;refine ⟨(hs.2 p.1 ?_).trans e,n,ne,nf,d⟩;intro q;rw [q,hoc] at e;have q':oc=p.2:=QL e;exact d w' (by rw [<-q'];exact Rn)
theorem Ul {M:Model} {A:Around} {E:Value->Shared->Prop} {i:Nat} {x:Str} {v:V} {u:Value} {Q:Unit->Shared->Prop} (I:Inv X pins σ H s) (hN:X.N.Nodup) (hi:X.N[i]? =some x) (hx:Loc X.env.scope x) (r:ZU v u)
 (h:∀s',Inv X pins (σ.set i (some v)) H s'->Q () s') (hf:X.fn x=true\/X.env.scope.names.lookup x=some .local:=by walk_at "f"):wpAny M A (storeName X.env x u) Q E s:=
 mF I hN hi hx r (λs' I' _=>h s' I') hf
theorem Inv.call' {s':Shared} {ch:List Addr} (I:Inv X pins σ H s) (ho:s'.os=s.os) (u:Un (frs X.stack) ch H H' s.heap s'.heap) (hok:HOk X.prog X.w H' s'.heap) (hg:AllBare s'.gens)
 (Ms:∀b∈ch,(b∈X.ex\/X.s₀.heap.objs.size<=b)/\b≠X.env.locals/\(∀x c,X.env.cells.lookup x=some c->c≠b)/\∀p∈X.pn++pins,p.1≠b):Inv X pins σ H' s':=by
 obtain ⟨h',g',d',t',o'⟩:=s';have e:o'=s.os:=ho;subst e;exact I.call (g':=g') (t':=t') (d':=d') u hok hg Ms
end
abbrev XK:=Value->Option Addr->Hp->Prop
abbrev St:=List (Option V)
abbrev VK:=V->Hp->Prop
abbrev TE:=St->Hp->VK->Prop
abbrev TT:=St->Hp->(Bool->Hp->Prop)->Prop
abbrev TA:=St->Hp->(List V->Hp->Prop)->Prop
structure Ends where
 nx:St->Hp->Prop
 rt:VK
 bk:St->Hp->Prop:=λ_ _=>False
 ct:St->Hp->Prop:=λ_ _=>False
abbrev TS:=Ends->St->Hp->Prop
def EP (X:Cx) (pins:List (Addr×Obj)) (σ:St) (Q:VK) (u:Value) (s':Shared):Prop:=∃v H',Inv X pins σ H' s'/\ZU v u/\Q v H'
def TP (X:Cx) (pins:List (Addr×Obj)) (σ:St) (Q:Bool->Hp->Prop) (b:Bool) (s':Shared):Prop:=∃H',Inv X pins σ H' s'/\Q b H'
def AP (X:Cx) (pins:List (Addr×Obj)) (σ:St) (Q:List V->Hp->Prop) (us:List Value) (s':Shared):Prop:=∃vs H',Inv X pins σ H' s'/\xx vs us/\Q vs H'
def SP (X:Cx) (pins:List (Addr×Obj)) (D:Ends) (f:Flow) (s':Shared):Prop:=
 match f with
 | .next=>∃σ' H',Inv X pins σ' H' s'/\D.nx σ' H'
 | .brk=>∃σ' H',Inv X pins σ' H' s'/\D.bk σ' H'
 | .cont=>∃σ' H',Inv X pins σ' H' s'/\D.ct σ' H'
 | .ret u=>∃v σ' H',Inv X pins σ' H' s'/\ZU v u/\D.rt v H'
def PE (X:Cx) (e:Expr) (t:TE):Prop:=
 ∀(pins:List (Addr×Obj)) (s:Shared) (σ:St) (H:Hp) (Q:VK),Inv X pins σ H s->t σ H Q->wpAny (model X.prog X.w) X.A (eval e X.env) (EP X pins σ Q) X.xe s
def PT (X:Cx) (e:Expr) (t:TT):Prop:=
 ∀(pins:List (Addr×Obj)) (s:Shared) (σ:St) (H:Hp) (Q:Bool->Hp->Prop),Inv X pins σ H s->t σ H Q->wpAny (model X.prog X.w) X.A (isTrue e X.env (eval e X.env)) (TP X pins σ Q) X.xe s
def PW (X:Cx) (e:Expr) (t:TT):Prop:=
 ∀(whole:Sem Value) (pins:List (Addr×Obj)) (s:Shared) (σ:St) (H:Hp) (Q:Bool->Hp->Prop),Inv X pins σ H s->t σ H Q->wpAny (model X.prog X.w) X.A (isTrue e X.env whole) (TP X pins σ Q) X.xe s
theorem PW.pt {X:Cx} {e:Expr} {t:TT} (h:PW X e t):PT X e t:=h _
def PA (X:Cx) (es:List Expr) (t:TA):Prop:=
 ∀(pos:Pos) (pins:List (Addr×Obj)) (s:Shared) (σ:St) (H:Hp) (Q:List V->Hp->Prop),Inv X pins σ H s->t σ H Q->wpAny (model X.prog X.w) X.A (spliced (backTo pos (starEach es X.env))) (AP X pins σ Q) X.xe s
def PS (X:Cx) (st:Stmt) (t:TS):Prop:=
 ∀(pins:List (Addr×Obj)) (s:Shared) (σ:St) (H:Hp) (D:Ends),Inv X pins σ H s->t D σ H->wpAny (model X.prog X.w) X.A (exec st X.env) (SP X pins D) X.xe s
def PSs (X:Cx) (st:List Stmt) (t:TS):Prop:=
 ∀(pins:List (Addr×Obj)) (s:Shared) (σ:St) (H:Hp) (D:Ends),Inv X pins σ H s->t D σ H->wpAny (model X.prog X.w) X.A (execs st X.env) (SP X pins D) X.xe s
theorem thn {α:Type} {t:Sem α} {Q Q':α->Shared->Prop} {M:Model} {A:Around} {E:Value->Shared->Prop} {s:Shared} (h:wpAny M A t Q E s) (hQ:∀a s,Q a s->Q' a s):wpAny M A t Q' E s:=wpAny_mono h hQ λ_ _ x=>x
end L2
namespace L2
open PySem PySem.Spec PyProof.Rows
section
variable {X:Cx}
def tVar (i:Nat):TE:=λσ H Q=>∃v,σ[i]? =some (some v)/\Q v H
def tC (v:V):TE:=λ_ H Q=>Q v H
theorem pe_var {i:Nat} {x:Str} {pos:Pos} (hN:X.N[i]? =some x) (hv:Vis X.env.scope x) (hd:(x==("__debug__":Str))=false:=by decide) (Ku:(x==("__classdict__":Str))=false:=by decide):PE X (.Name x pos) (tVar i):=by
 intro pins s σ H Q I h;obtain ⟨v,e,h⟩:=h;obtain ⟨m,hn,hl⟩:=I.loc;obtain ⟨u,r,l⟩:=hl i x v hN e hv;have fin:EP X pins σ Q u s:=⟨v,H,I,r,h⟩
 rcases l with ⟨hk,hm⟩|⟨hk,c,hc,LG⟩
 ·exact wpAny_Name (wpAny_loadName_local I.ok.kind hk hn hm fin) hd
 ·rcases hk with hk|hk
  ·exact wpAny_Name (wpAny_loadName_cell I.ok.kind hk hc LG fin) hd
  ·exact wpAny_Name (wpAny_loadName_free I.ok.kind hk hc LG fin Ku) hd
theorem sE {i j pos}:PE X (.Constant (.int i) j pos) (tC (.int i)):=λ_ _ _ H _ I h=>wpAny_Constant_int ⟨.int i,H,I.tok _,⟨_,rfl⟩,h⟩
theorem pe_bl {b j pos}:PE X (.Constant (.bool b) j pos) (tC (.bl b)):=λ_ _ _ H _ I h=>Constant_bool ⟨.bl b,H,I,rfl,h⟩
theorem pe_str {x j pos}:PE X (.Constant (.str x) j pos) (tC (.str x)):=λ_ _ _ H _ I h=>Calls.Constant_str ⟨.str x,H,I.tok _,⟨_,rfl⟩,h⟩
def Gl (X:Cx) (x:Str):Prop:=X.env.kindOf x=some .globalImplicit
theorem fF {E:Value->Shared->Prop} {pins:List (Addr×Obj)} {s:Shared} {σ:St} {H:Hp} {x:Str} {u:Value} {pos:Pos} {Q:Value->Shared->Prop} (I:Inv X pins σ H s) (hg:Gl X x) (hm:X.mg x=some u) (h:Q u s)
 (hd:(x==("__debug__":Str))=false:=by decide):wpAny (model X.prog X.w) X.A (eval (.Name x pos) X.env) Q E s:=
 Calls.Name_function_global I.ok.kind hg (Calls.loadGlobal_global (by rw [I.ok.glob];exact I.mod.glob.keeps I.bk) hm h) hd
theorem Vx {E:Value->Shared->Prop} {pins:List (Addr×Obj)} {s:Shared} {σ:St} {H:Hp} {x:Str} {u:Value} {pos:Pos} {Q:Value->Shared->Prop} (I:Inv X pins σ H s) (hg:Gl X x) (hm:X.mg x=none) (hv:bootBuiltins x=some u) (h:Q u s)
 (hn:x≠"__name__":=by decide) (hd:(x==("__debug__":Str))=false:=by decide):wpAny (model X.prog X.w) X.A (eval (.Name x pos) X.env) Q E s:=by
 obtain ⟨mb,h1,h2⟩:=I.mod.blt;exact Calls.Name_function_global I.ok.kind hg (Calls.loadGlobal_builtin (by rw [I.ok.glob];exact I.mod.glob.keeps I.bk) hm (by rw [I.ok.blt];exact h1.keeps I.bk) ((h2 x hn).trans hv) h) hd
theorem HQ {x:Str} {v:V} {u:Value} {pos:Pos} (hg:Gl X x) (hm:X.mg x=some u) (r:ZU v u) (hd:(x==("__debug__":Str))=false:=by decide):PE X (.Name x pos) (tC v):=
 λ_ _ _ H _ I h=>fF I hg hm ⟨v,H,I,r,h⟩ hd
theorem pe_bltn {x:Str} {v:V} {u:Value} {pos:Pos} (hg:Gl X x) (hm:X.mg x=none) (hv:bootBuiltins x=some u) (r:ZU v u) (hn:x≠"__name__":=by decide) (hd:(x==("__debug__":Str))=false:=by decide):PE X (.Name x pos) (tC v):=
 λ_ _ _ H _ I h=>Vx I hg hm hv ⟨v,H,I,r,h⟩ hn hd
variable {a b:Expr} {ta tb:TE} {pos:Pos}
def tB (t:TE):TT:=λσ H Q=>t σ H λx H1=>∃c,x= .bl c/\Q c H1
theorem pt_val {e:Expr} {t:TE} (h:PE X e t) (he:∀whole,isTrue e X.env whole=(do let v<-whole;standAt e.pos;holding [v] (truthy v)):=by intro _;rfl):PT X e (tB t):=by
 intro pins s σ H Q I hw;refine isTrue_plain (thn (h pins s σ H _ I hw) λv s1 ⟨x,H1,I1,r1,q1⟩=>?_) (he _);obtain ⟨d,rfl,q⟩:=q1;cases r1;exact jbB ⟨H1,I1,q⟩
variable {tA tB':TT} {rest:List Expr}
def tAnd (t u:TT):TT:=λσ H Q=>t σ H λc H1=>if c=true then u σ H1 Q else Q false H1
def tOr (t u:TT):TT:=λσ H Q=>t σ H λc H1=>if c=true then Q true H1 else u σ H1 Q
def tNot (t:TT):TT:=λσ H Q=>t σ H λc H1=>Q (!c) H1
theorem pw_and1 (ha:PT X a tA):PW X (.BoolOp .And [a] pos) tA:=by
 intro wh pins s σ H Q I h;refine isTrue_and (thn (ha pins s σ H Q I h) λc s1 e=>?_)
 cases c with
 |true=>exact isTrue_and_nil e
 |false=>exact e
theorem pw_or1 (ha:PT X a tA):PW X (.BoolOp .Or [a] pos) tA:=by
 intro wh pins s σ H Q I h;refine isTrue_or (thn (ha pins s σ H Q I h) λc s1 e=>?_)
 cases c with
 |false=>exact isTrue_or_nil e
 |true=>exact e
theorem pw_and (ha:PT X a tA) (hb:PW X (.BoolOp .And (b::rest) pos) tB'):PW X (.BoolOp .And (a::b::rest) pos) (tAnd tA tB'):=by
 intro wh pins s σ H Q I h;refine isTrue_and (thn (ha pins s σ H _ I h) λc s1 hh=>?_);obtain ⟨H1,I1,q1⟩:=hh
 cases c with
 |true=>exact hb wh pins s1 σ H1 Q I1 q1
 |false=>exact ⟨H1,I1,q1⟩
theorem pw_or (ha:PT X a tA) (hb:PW X (.BoolOp .Or (b::rest) pos) tB'):PW X (.BoolOp .Or (a::b::rest) pos) (tOr tA tB'):=by
 intro wh pins s σ H Q I h;refine isTrue_or (thn (ha pins s σ H _ I h) λc s1 hh=>?_);obtain ⟨H1,I1,q1⟩:=hh
 cases c with
 |true=>exact ⟨H1,I1,q1⟩
 |false=>exact hb wh pins s1 σ H1 Q I1 q1
theorem pt_not (ha:PT X a tA):PT X (.UnaryOp .Not a pos) (tNot tA):=by
 intro pins s σ H Q I h;exact isTrue_not (ha pins s σ H (λc H1=>Q (!c) H1) I h)
def tAndV (ta tb:TE):TE:=λσ H Q=>ta σ H λx H1=>∃c,x= .bl c/\if c=true then tb σ H1 Q else Q (.bl false) H1
def tNotV (ta:TE):TE:=λσ H Q=>ta σ H λx H1=>∃c,x= .bl c/\Q (.bl (!c)) H1
theorem pe_one {op} {t:TE} (h:PE X a t):PE X (.BoolOp op [a] pos) t:=λpins s σ H Q I hw=>BoolOp_one (h pins s σ H Q I hw)
theorem pe_and (ha:PE X a ta) (hb:PE X (.BoolOp .And (b::rest) pos) tb):PE X (.BoolOp .And (a::b::rest) pos) (tAndV ta tb):=by
 intro pins s σ H Q I h;refine BoolOp_and (thn (ha pins s σ H _ I h) λv s1 hh=>?_);obtain ⟨x,H1,I1,r1,q1⟩:=hh;obtain ⟨c,rfl,q1⟩:=q1;cases r1;refine jbB ?_
 cases c with
 |true=>exact hb pins s1 σ H1 Q I1 q1
 |false=>exact ⟨.bl false,H1,I1,rfl,q1⟩
theorem pe_not (ha:PE X a ta):PE X (.UnaryOp .Not a pos) (tNotV ta):=by
 intro pins s σ H Q I h;refine UnaryOp_ (thn (ha pins s σ H _ I h) λv s1 hh=>?_);obtain ⟨x,H1,I1,r1,q1⟩:=hh;obtain ⟨c,rfl,q1⟩:=q1;cases r1;exact not_of (jbB ⟨.bl (!c),H1,I1,rfl,q1⟩)
end
end L2
namespace L2
open PySem PySem.Spec PyProof.Rows
def SqL (K:Frg) (H:Hp) (a:Addr) (xs:List V):Prop:=
 Rd H a (.lst xs)\/
  ∃(o:Obj) (its:Array Value) (n:Nat),K.lookup a=some o/\o.cls= .type "list"/\o.dict=none/\o.data= .seq its n/\its.size<=sizeLine/\xx xs its.toList
def SqT (K:Frg) (H:Hp) (a:Addr) (xs:List V):Prop:=
 Rd H a (.tup xs)\/
  ∃(o:Obj) (its:Array Value) (n:Nat),K.lookup a=some o/\o.cls= .type "tuple"/\o.data= .seq its n/\its.size<=sizeLine/\xx xs its.toList
def absV:Value->Option V
 | .none=>some .non
 | .bool b=>some (.bl b)
 | .int i _=>some (.int i)
 | .str x _=>some (.str x)
 | .bytes b _=>some (.byt b)
 | .float b _=>some (.flt b)
 | .ref a=>some (.ref a)
 | .type n=>some (.ty n)
 |_=>none
theorem ZU.abs {x:V} {u:Value} (r:ZU x u):absV u=some x:=by
 cases x with
 |non=>cases r;rfl
 |bl _=>cases r;rfl
 |int _=>obtain ⟨t,rfl⟩:=r;rfl
 |str _=>obtain ⟨t,rfl⟩:=r;rfl
 |byt _=>obtain ⟨t,rfl⟩:=r;rfl
 |flt _=>obtain ⟨t,rfl⟩:=r;rfl
 |ref _=>cases r;rfl
 |ty _=>cases r;rfl
theorem ZU.inj {x y:V} {u:Value} (r:ZU x u) (q:ZU y u):x=y:=QL (r.abs.symm.trans q.abs)
theorem xx.inj {xs ys:List V} {us:List Value} (h:xx xs us) (g:xx ys us):xs=ys:=by
 induction h generalizing ys with
 |nil=>cases g;rfl
 |cons r t ih=>cases g with|cons r' t'=>rw [r.inj r',ih t']
section
variable {X:Cx} {pins:List (Addr×Obj)} {σ:St} {H:Hp} {s:Shared} {a:Addr} {xs ys:List V}
theorem SqL.of {K:Frg} (h:H a=some (.lst xs)):SqL K H a xs:= .inl (.inl h)
theorem SqT.of {K:Frg} (h:H a=some (.tup xs)):SqT K H a xs:= .inl (.inl h)
theorem Inv.list (I:Inv X pins σ H s) (h:SqL X.K H a xs):∃its:List Value,xx xs its/\PlainL s.heap a its.toArray/\xs.length<=sizeLine:=by
 rcases h with h|⟨o,its,n,hk,hc,hd,hs,hz,r⟩
 ·obtain ⟨z,its,n,r,e⟩:=h.ok I.hok;exact ⟨its,r,⟨_,n,e,rfl,rfl,rfl⟩,z⟩
 ·refine ⟨its.toList,r,⟨o,n,I.kIn a o hk,hc,hd,by simpa using hs⟩,?_⟩;have e:=r.length;simp only [jay] at e;omega
theorem Inv.tuple (I:Inv X pins σ H s) (h:SqT X.K H a xs):∃its:List Value,xx xs its/\IsTup s.heap a its.toArray/\xs.length<=sizeLine:=by
 rcases h with h|⟨o,its,n,hk,hc,hs,hz,r⟩
 ·obtain ⟨z,its,r,p⟩:=h.ok I.hok;exact ⟨its,r,p,z⟩
 ·refine ⟨its.toList,r,⟨o,I.kIn a o hk,hc,n,by simpa using hs⟩,?_⟩;have e:=r.length;simp only [jay] at e;omega
theorem Inv.list_inj (I:Inv X pins σ H s) (h:SqL X.K H a xs) (h':SqL X.K H a ys):xs=ys:=by
 obtain ⟨its,r,⟨o,n,e,_,_,d⟩,_⟩:=I.list h;obtain ⟨its',r',⟨o',n',e',_,_,d'⟩,_⟩:=I.list h';rw [e] at e';cases e';rw [d] at d'
 injection d' with d1 _
 have:its=its':=by simpa using congrArg Array.toList d1
 subst this;exact r.inj r'
theorem Inv.tuple_inj (I:Inv X pins σ H s) (h:SqT X.K H a xs) (h':SqT X.K H a ys):xs=ys:=by
 obtain ⟨its,r,⟨o,e,_,n,d⟩,_⟩:=I.tuple h;obtain ⟨its',r',⟨o',e',_,n',d'⟩,_⟩:=I.tuple h';rw [e] at e';cases e';rw [d] at d'
 injection d' with d1 _
 have:its=its':=by simpa using congrArg Array.toList d1
 subst this;exact r.inj r'
end
abbrev Cx.wish (X:Cx) (E:Value->Shared->Prop):Cx:={X with xe:=E}
abbrev Cx.nox (X:Cx):Cx:=X.wish λ_ _=>False
theorem Cx.Ok.wish {X:Cx} (ok:X.Ok) (E:Value->Shared->Prop):(X.wish E).Ok:=
 ⟨ok.mod,ok.kind,ok.glob,ok.blt,ok.above,ok.inj,ok.has,ok.cab,ok.hd,ok.frames,ok.stk,ok.exf,ok.bs,ok.bsz,ok.noex,ok.exfs,ok.funs,ok.frf⟩
theorem Cx.Ok.unwish {X:Cx} {E:Value->Shared->Prop} (ok:(X.wish E).Ok):X.Ok:=
 ⟨ok.mod,ok.kind,ok.glob,ok.blt,ok.above,ok.inj,ok.has,ok.cab,ok.hd,ok.frames,ok.stk,ok.exf,ok.bs,ok.bsz,ok.noex,ok.exfs,ok.funs,ok.frf⟩
section
variable {X:Cx} {pins:List (Addr×Obj)} {σ:St} {H:Hp} {s:Shared} {E:Value->Shared->Prop}
theorem Inv.wish (I:Inv X pins σ H s) (E:Value->Shared->Prop):Inv (X.wish E) pins σ H s:=⟨I.ok.wish E,I.os,I.bare,I.base,I.loc,I.cell,I.free,I.freeC,I.pin,I.hok,I.len⟩
theorem Inv.unwish (I:Inv (X.wish E) pins σ H s):Inv X pins σ H s:=⟨I.ok.unwish,I.os,I.bare,I.base,I.loc,I.cell,I.free,I.freeC,I.pin,I.hok,I.len⟩
theorem SP.unwish {D:Ends} {f:Flow} {s':Shared} (h:SP (X.wish E) pins D f s'):SP X pins D f s':=by
 cases f with
 |next=>obtain ⟨σ',H',I,q⟩:=h;exact ⟨σ',H',I.unwish,q⟩
 |brk=>obtain ⟨σ',H',I,q⟩:=h;exact ⟨σ',H',I.unwish,q⟩
 |cont=>obtain ⟨σ',H',I,q⟩:=h;exact ⟨σ',H',I.unwish,q⟩
 |ret u=>obtain ⟨v,σ',H',I,r,q⟩:=h;exact ⟨v,σ',H',I.unwish,r,q⟩
theorem PSs.nox {st:List Stmt} {t:TS} (h:PSs X.nox st t):PSs X st t:=λpins s σ H D I hw=>
 wpAny_mono (h pins s σ H D (I.wish _) hw) (λ_ _ q=>q.unwish) λ_ _ z=>False.elim z
end
section
variable {X:Cx} {st:Stmt} {rest:List Stmt} {t u:TS} {e:Expr} {te:TE} {pos:Pos}
def tNext:TS:=λD σ H=>D.nx σ H
def tSeq (t u:TS):TS:=λD σ H=>t {D with nx:=u D} σ H
theorem AU:PSs X [] tNext:=λ_ _ σ H _ I h=>wpAny_execs_nil ⟨σ,H,I,h⟩
theorem sC (h1:PS X st t) (h2:PSs X rest u):PSs X (st::rest) (tSeq t u):=by
 intro pins s σ H D I h;refine wpAny_execs_cons (thn (h1 pins s σ H {D with nx:=u D} I h) λf s1 q=>?_)
 cases f with
 |next=>
  obtain ⟨σ',H',I',q⟩:=q;exact h2 pins s1 σ' H' D I' q
 |ret v=>exact q
 |brk=>exact q
 |cont=>exact q
theorem eR (h1:PS X st t):PSs X [st] t:=by
 intro pins s σ H D I h;refine wpAny_execs_cons (thn (h1 pins s σ H D I h) λf s1 q=>?_)
 cases f with
 |next=>exact wpAny_execs_nil q
 |ret v=>exact q
 |brk=>exact q
 |cont=>exact q
theorem Inv.quiet {pins:List (Addr×Obj)} {σ:St} {H:Hp} {s:Shared} (I:Inv X pins σ H s):interactive X.env=false:=by simp [interactive,I.ok.kind]
def tDrop (te:TE):TS:=λD σ H=>te σ H λ_ H1=>D.nx σ H1
theorem ps_expr (he:PE X e te) (hs:swapsWith e none pos.line X.env=pure false:=by rfl):PS X (.Expr e pos) (tDrop te):=by
 intro pins s σ H D I h;exact wpAny_Expr_any (thn (he pins s σ H _ I h) λv s1 ⟨x,H1,I1,r1,q1⟩=>⟨σ,H1,I1,q1⟩) I.quiet hs
def tRet (te:TE):TS:=λD σ H=>te σ H D.rt
theorem ps_ret (he:PE X e te):PS X (.Return (some e) pos) (tRet te):=by
 intro pins s σ H D I h;exact wpAny_Return_some (thn (he pins s σ H _ I h) λv s1 ⟨x,H1,I1,r1,q1⟩=>⟨x,σ,H1,I1,r1,q1⟩)
def tIfS (c:TT) (t u:TS):TS:=λD σ H=>c σ H λb H1=>if b=true then t D σ H1 else u D σ H1
theorem ps_if {c:Expr} {a b:List Stmt} {tc:TT} (hc:PT X c tc) (ha:PSs X a t) (hb:PSs X b u):PS X (.If c a b pos) (tIfS tc t u):=by
 intro pins s σ H D I h;refine wpAny_If (thn (hc pins s σ H _ I h) λd s1 hh=>?_);obtain ⟨H1,I1,q1⟩:=hh
 cases d with
 |true=>exact ha pins s1 σ H1 D I1 q1
 |false=>exact hb pins s1 σ H1 D I1 q1
def tNever:TS:=λ_ _ _=>False
theorem sD:PS X st tNever:=λ_ _ _ _ _ _ h=>h.elim
end
abbrev TG:=V->St->Hp->(St->Hp->Prop)->Prop
abbrev TGs:=List V->St->Hp->(St->Hp->Prop)->Prop
def PG (X:Cx) (target:Expr) (t:TG):Prop:=
 ∀(pins:List (Addr×Obj)) (s:Shared) (σ:St) (H:Hp) (v:V) (u:Value) (Q:St->Hp->Prop),Inv X pins σ H s->ZU v u->t v σ H Q->
  wpAny (model X.prog X.w) X.A (assign target X.env u) (λ_ s'=>∃σ' H',Inv X pins σ' H' s'/\Q σ' H') X.xe s
def PGs (X:Cx) (ts:List Expr) (t:TGs):Prop:=
 ∀(pins:List (Addr×Obj)) (s:Shared) (σ:St) (H:Hp) (vs:List V) (us:List Value) (Q:St->Hp->Prop),Inv X pins σ H s->xx vs us->t vs σ H Q->
  wpAny (model X.prog X.w) X.A (assignInOrder ((assignEach ts X.env).map (·.2)) us) (λ_ s'=>∃σ' H',Inv X pins σ' H' s'/\Q σ' H') X.xe s
abbrev TSet:=V->V->V->Hp->(Hp->Prop)->Prop
def PSet (X:Cx) (t:TSet):Prop:=
 ∀(pins:List (Addr×Obj)) (s:Shared) (σ:St) (H:Hp) (o i v:V) (ov iv u:Value) (Q:Hp->Prop),Inv X pins σ H s->ZU o ov->ZU i iv->ZU v u->t o i v H Q->
  wpAny (model X.prog X.w) X.A (setItem ov iv u) (λ_ s'=>∃H',Inv X pins σ H' s'/\Q H') X.xe s
abbrev TIp:=V->V->Hp->VK->Prop
def PIp (X:Cx) (op:Operator) (t:TIp):Prop:=
 ∀(pins:List (Addr×Obj)) (s:Shared) (σ:St) (H:Hp) (x y:V) (v u:Value) (Q:VK),Inv X pins σ H s->ZU x v->ZU y u->t x y H Q->
  wpAny (model X.prog X.w) X.A (inplaceOp op v u) (EP X pins σ Q) X.xe s
section
variable {X:Cx} {pos:Pos}
def lE (i:Nat):TG:=λv σ H Q=>Q (σ.set i (some v)) H
theorem qt {i:Nat} {x:Str} (hN:X.N.Nodup) (hi:X.N[i]? =some x) (hx:Loc X.env.scope x) (hf:X.fn x=true\/X.env.scope.names.lookup x=some .local:=by walk_at "f"):PG X (.Name x pos) (lE i):=by
 intro pins s σ H v u Q I r h;exact wpAny_assign_Name (Ul I hN hi hx r (λs' I'=>⟨_,H,I',h⟩) hf)
def gNil:TGs:=λvs σ H Q=>vs=[]/\Q σ H
def gCons (t:TG) (u:TGs):TGs:=λvs σ H Q=>∃v r,vs=v::r/\t v σ H λσ' H'=>u r σ' H' Q
theorem pgs_nil:PGs X [] gNil:=by
 intro pins s σ H vs us Q I r h;obtain ⟨e,h⟩:=h;subst e;cases r;exact assignInOrder_nil ⟨σ,H,I,h⟩
theorem pgs_cons {e:Expr} {es:List Expr} {t:TG} {u:TGs} (h1:PG X e t) (h2:PGs X es u)
 (hs:(assignEach (e::es) X.env).map (·.2)=assign e X.env::(assignEach es X.env).map (·.2):=by rfl):PGs X (e::es) (gCons t u):=by
 intro pins s σ H vs us Q I r h;obtain ⟨v,vr,e1,h⟩:=h;subst e1
 cases r with
 |cons r rr=>
  rw [hs];refine assignInOrder_cons (thn (h1 pins s σ H _ _ _ I r h) λ_ s1 hh=>?_);obtain ⟨σ1,H1,I1,q1⟩:=hh;exact h2 pins s1 σ1 H1 _ _ Q I1 rr q1
def gTup (K:Frg) (n:Nat) (t:TGs):TG:=λv σ H Q=>∃a xs,v= .ref a/\SqT K H a xs/\xs.length=n/\t xs σ H Q
theorem pg_tup {es:List Expr} {k:Nat} {t:TGs} {n:Nat} (hc:X.calm=true) (h:PGs X es t)
 (hn:(assignEach es X.env).length=n:=by rfl) (KD:(assignEach es X.env).findIdx? (·.1)=none:=by rfl):PG X (.Tuple es k pos) (gTup X.K n t):=by
 intro pins s σ H v u Q I r hw;obtain ⟨a,xs,e1,hq,hl,hw⟩:=hw;subst e1;cases r;obtain ⟨its,rv,ht,hz⟩:=I.tuple hq;refine assign_Tuple_tuple (I.ok.hd hc) ht (by simp [hn,<-hl,rv.length]) KD λh' hx=>?_;have I1:Inv X pins σ H {s with heap:=h'}:=I.kept (t':=s.toks) λb o e=>hx b o (QM (Qu e)) e;exact h pins _ σ H xs _ Q I1 (by simpa using rv) hw
def gSub (to ti:TE) (t:TSet):TG:=λv σ H Q=>to σ H λo H1=>ti σ H1 λi H2=>t o i v H2 λH3=>Q σ H3
theorem pg_sub {o i:Expr} {to ti:TE} {t:TSet} (ho:PE X o to) (hi:PE X i ti) (hs:PSet X t)
 (ha:∀v,assign (.Subscript o i pos) X.env v=(do
  let ov<-holding [v] (eval o X.env)
  let iv<-holding [v,ov] (eval i X.env)
  standAt pos
  holding [v,ov,iv] (setItem ov iv v)
  release [v,ov,iv] []):=by intro _;rfl):PG X (.Subscript o i pos) (gSub to ti t):=by
 intro pins s σ H v u Q I r h;rw [ha];refine Qg (jax (thn (ho pins s σ H _ I h) λov s1 hh=>?_));obtain ⟨x,H1,I1,r1,q1⟩:=hh;refine Qg (jax (thn (hi pins s1 σ H1 _ I1 q1) λiv s2 hh=>?_));obtain ⟨y,H2,I2,r2,q2⟩:=hh;refine Qg (wpAny_standAt (Qg (jax (thn (hs pins s2 σ H2 x y v ov iv u _ I2 r1 r2 r q2) λ_ s3 hh=>?_))));obtain ⟨H3,I3,q3⟩:=hh;exact wpAny_release ⟨σ,H3,I3,q3⟩
def Jj (te:TE) (g:TG):TS:=λD σ H=>te σ H λx H1=>g x σ H1 D.nx
theorem ps_asg {tg e:Expr} {te:TE} {g:TG} (he:PE X e te) (hg:PG X tg g) (hs:swapsWithSole [tg] e pos.line X.env=pure false:=by rfl) (hw:swappedStores [tg] e X.env=pure none:=by rfl)
 (h1:(assignEach [tg] X.env).map (·.2)=[assign tg X.env]:=by rfl):PS X (.Assign [tg] e pos) (Jj te g):=by
 intro pins s σ H D I h;refine wpAny_Assign_stores (thn (he pins s σ H _ I h) λv s1 ⟨x,H1,I1,r1,q1⟩=>?_) hs hw;rw [h1];exact thn (hg pins s1 σ H1 x v _ I1 r1 q1) λ_ s2 q=>q
theorem ps_set {i:Nat} {x:Str} {e:Expr} {te:TE} {pos':Pos} (hN:X.N.Nodup) (hi:X.N[i]? =some x) (hx:Loc X.env.scope x) (he:PE X e te) (hs:swapsWith e (some (.Name x pos')) pos.line X.env=pure false:=by rfl) (hf:X.fn x=true\/X.env.scope.names.lookup x=some .local:=by walk_at "f"):
 PS X (.Assign [.Name x pos'] e pos) (Jj te (lE i)):=by
 intro pins s σ H D I h;refine wpAny_Assign_Name (thn (he pins s σ H _ I h) λv s1 ⟨y,H1,I1,r1,q1⟩=>?_) hs;exact Ul I1 hN hi hx r1 (λs2 I2=>⟨_,H1,I2,q1⟩) hf
def tPar (i j:Nat) (ta:TA):TS:=λD σ H=>ta σ H λvs H1=>∃v w,vs=[v,w]/\D.nx ((σ.set i (some v)).set j (some w)) H1
theorem ps_par {i j:Nat} {x y:Str} {a b:Expr} {ta:TA} {px py pt:Pos} {kt k2 PL} (hc:X.calm=true) (hN:X.N.Nodup) (hi:X.N[i]? =some x) (hj:X.N[j]? =some y) (RF:i≠j)
 (hx:X.env.scope.names.lookup x=some .local) (hy:X.env.scope.names.lookup y=some .local) (ha:PA X [a,b] ta)
 (hw:swappedStores [.Tuple [.Name x px, .Name y py] kt pt] (.Tuple [a,b] k2 PL) X.env=pure (some [x,y]))
 (hs:swapsWithSole [.Tuple [.Name x px, .Name y py] kt pt] (.Tuple [a,b] k2 PL) pos.line X.env=pure false:=by rfl):
 PS X (.Assign [.Tuple [.Name x px, .Name y py] kt pt] (.Tuple [a,b] k2 PL) pos) (tPar i j ta):=by
 intro pins s σ H D I h;rw [exec_Assign_arm];refine Qg (wpAny_standAt ?_);rw [hs];refine Qg (Qp ?_);rw [QO (by decide)];refine Qg (Tuple_ (thn (ha _ pins s σ H _ I h) λus s1 hh=>?_));obtain ⟨vs,H1,I1,r1,q1⟩:=hh;obtain ⟨v,w,e1,q1⟩:=q1;subst e1
 obtain ⟨u1,u2,rfl,rv,LP⟩:∃u1 u2,us=[u1,u2]/\ZU v u1/\ZU w u2:=by
  cases r1 with
  |cons p q=>
   cases q with
   |cons p' q'=>
    cases q';exact ⟨_,_,rfl,p,p'⟩
 refine jad ?_ (by show 2<=sizeLine;decide);have I2:Inv X pins σ H1 {s1 with heap:=s1.heap.push {cls:= .type "tuple",data:= .seq [u1,u2].toArray}}:=I1.kept (t':=s1.toks) λb o e=>Qi _ e;rw [hw];refine Qg (Qp ?_);show wpAny (model X.prog X.w) X.A (do rule "assign.swapped-stores";let items<-unpackItems (.ref s1.heap.objs.size) 2 none;assignInOrder [λv=>bindName X.env y v,λv=>bindName X.env x v] items.reverse;pure Flow.next) _ _ _;refine Qg (jcd (Qg (unpackItems_tuple (items:=#[u1,u2]) (I.ok.hd hc) (IsTup.new s1.heap _) λh' KH=>?_)));have I3:=I2.kept (h':=h') (t':=s1.toks) λb o e=>KH b o (QM (Qu e)) e;show wpAny _ _ (assignInOrder [λv=>bindName X.env y v,λv=>bindName X.env x v] [u2,u1]>>=λ_=>pure Flow.next) _ _ _;refine Qg (assignInOrder_cons (wpAny_bindName (Ul I3 hN hj (.inl hy) LP (λs2 I4=>?_) (.inr hy))));refine assignInOrder_cons (wpAny_bindName (Ul I4 hN hi (.inl hx) rv (λs3 I5=>assignInOrder_nil (Qp ?_)) (.inr hx)));rw [List.set_comm _ _ (Ne.symm RF)] at I5;exact ⟨_,H1,I5,q1⟩
def tAug (i:Nat) (te:TE) (ti:TIp):TS:=λD σ H=>∃x,σ[i]? =some (some x)/\te σ H λy H1=>ti x y H1 λz H2=>D.nx (σ.set i (some z)) H2
theorem ps_aug {i:Nat} {x:Str} {e:Expr} {te:TE} {op:Operator} {ti:TIp} {pos':Pos} (hN:X.N.Nodup) (hi:X.N[i]? =some x) (hx:Loc X.env.scope x) (he:PE X e te) (ho:PIp X op ti) (hf:X.fn x=true\/X.env.scope.names.lookup x=some .local:=by walk_at "f"):
 PS X (.AugAssign (.Name x pos') op e pos) (tAug i te ti):=by
 intro pins s σ H D I h;obtain ⟨v,e1,h⟩:=h;obtain ⟨m,hn,hl⟩:=I.loc
 have vis:Vis X.env.scope x:=by rcases hx with k|k;exact .inl k;exact .inr (.inl k)
 obtain ⟨u,r,l⟩:=hl i x v hi e1 vis;refine wpAny_AugAssign_Name ?_
 have go:wpAny (model X.prog X.w) X.A (eval e X.env) (λw s₂=>wpAny (model X.prog X.w) X.A (inplaceOp op u w) (λr s₃=>wpAny (model X.prog X.w) X.A (storeName X.env x r) (λ_=>SP X pins D .next) X.xe s₃) X.xe s₂) X.xe s:=by
  refine thn (he pins s σ H _ I h) λw s1 hh=>?_;obtain ⟨y,H1,I1,r1,q1⟩:=hh;refine thn (ho pins s1 σ H1 v y u w _ I1 r r1 q1) λz s2 hh=>?_;obtain ⟨zv,H2,I2,r2,q2⟩:=hh;exact Ul I2 hN hi hx r2 (λs3 I3=>⟨_,H2,I3,q2⟩) hf
 rcases l with ⟨hk,hm⟩|⟨hk,c,hc,LG⟩
 ·exact wpAny_loadName_local I.ok.kind hk hn hm go
 ·rcases hk with hk|hk
  ·exact wpAny_loadName_cell I.ok.kind hk hc LG go
  ·rcases hx with k|k
   ·have:X.env.scope.names.lookup x=some .free:=hk;rw [k] at this;cases this
   ·have:X.env.scope.names.lookup x=some .free:=hk;rw [k] at this;cases this
def ipI (f:Int->Int->Int):TIp:=λx y H Q=>∃i j,x= .int i/\y= .int j/\Q (.int (f i j)) H
theorem ip_add:PIp X .Add (ipI λi j=>i+j):=by
 intro pins s σ H x y v u Q I r1 r2 h;obtain ⟨i,j,e1,e2,q⟩:=h;subst e1;subst e2;obtain ⟨t,rfl⟩:=r1;obtain ⟨t',rfl⟩:=r2;exact iadd_int ⟨.int _,H,I.tok _,⟨_,rfl⟩,q⟩
end
section
variable {X:Cx} {pos:Pos}
def wL (c:TT) (tb:TS):TS:=λD σ H=>∃W:Nat->St->Hp->Prop,(∃m,W m σ H)/\∀m σ H,W m σ H->
 c σ H λb H1=>if b=true then ∃N:St->Hp->Prop,(∀σ' H',N σ' H'->∃m',m'<m/\W m' σ' H')/\tb {D with nx:=N,ct:=N,bk:=D.nx} σ H1 else D.nx σ H1
theorem ps_while {c:Expr} {body:List Stmt} {tc:TT} {tb:TS} (hp:PassesOwn (model X.prog X.w) X.A X.env X.xe) (hc:PT X c tc) (hb:PSs X body tb):PS X (.While c body [] pos) (wL tc tb):=by
 intro pins s σ H D I h;obtain ⟨W,⟨m0,w0⟩,turn⟩:=h;refine wpAny_While (codeAny_whileLoop (λn s'=>∃σ' H',Inv X pins σ' H' s'/\W n σ' H') ?_ m0 ⟨σ,H,I,w0⟩)
 rintro n s1 ⟨σ1,H1,I1,w1⟩
 refine jbk hp (thn (hc pins s1 σ1 H1 _ I1 (turn n σ1 H1 w1)) λb s2 hh=>?_);obtain ⟨H2,I2,q2⟩:=hh
 cases b with
 |true=>
  obtain ⟨N,hN,q2⟩:=q2;rw [QH rfl];refine jbk hp (thn (hb pins s2 σ1 H2 _ I2 q2) λf s3 q3=>?_)
  cases f with
  |next=>
   obtain ⟨σ3,H3,I3,n3⟩:=q3;obtain ⟨m',hm,w3⟩:=hN σ3 H3 n3;exact ⟨m',hm,σ3,H3,I3,w3⟩
  |cont=>
   obtain ⟨σ3,H3,I3,n3⟩:=q3;obtain ⟨m',hm,w3⟩:=hN σ3 H3 n3;exact ⟨m',hm,σ3,H3,I3,w3⟩
  |brk=>exact q3
  |ret v=>exact q3
 |false=>
  rw [QO QK];exact wpAny_execs_nil ⟨σ1,H2,I2,q2⟩
end
structure It where
 go:Nat->Hp->Prop
 yld:Nat->Hp->V->Hp->Prop
 stop:Nat->Hp->Prop
def rG (X:Cx) (pins:List (Addr×Obj)) (H:Hp) (b:Addr):Prop:=
 H b=none/\b≠X.env.locals/\b∉X.fs/\(b∈X.ex\/X.s₀.heap.objs.size<=b)/\(∀x c,X.env.cells.lookup x=some c->c≠b)/\∀p∈X.pn++pins,p.1≠b
theorem Inv.fpOk {X:Cx} {pins:List (Addr×Obj)} {σ:St} {H H':Hp} {s:Shared} {b:Addr} (I:Inv X pins σ H s) (hb:s.heap.objs.size<=b) (hn:H' b=none):rG X pins H' b:=by
 refine ⟨hn,jbb (QY I.lt hb),I.nofs hb, .inr (QU I.sz hb),λx c e z=>?_,λp hp z=>?_⟩
 ·obtain ⟨v,q⟩:=I.cell x c e;exact absurd (QY q.lt (by rw [z];exact hb)) (jaw _)
 ·exact absurd (QY (Qu (I.pin p hp).1) (by rw [z];exact hb)) (jaw _)
structure Turn (P:Program) (w:World) (K:Frg) (tg:Expr) (J:It) (fp:List Addr) (it:Addr) (tn:Nat->Heap->Prop):Prop where
 mem:it∈fp
 obj:∀i h,tn i h->∀b∈fp,∃o,h.get? b=some o/\∀v,o.data≠ .cell v
 keep:∀i h h',tn i h->(∀b∈fp,∀o,h.get? b=some o->h'.get? b=some o)->tn i h'
 item:∀(X:Cx),X.prog=P->X.w=w->X.K=K->X.calm=true->∀(i:Nat) (pins:List (Addr×Obj)) (s:Shared) (σ:St) (H:Hp) (E:Value->Shared->Prop),Inv X pins σ H s->(∀b∈fp,rG X pins H b)->tn i s.heap->J.go i H->
  wpAny (model P w) X.A (pyNext (.ref it)) (λr s1=>∃u,r=some u/\
   wpAny (model P w) X.A (letOwnedTupleGo tg (.ref it) u) (λ_ s2=>∃x H',Inv X pins σ H' s2/\ZU x u/\J.yld i H x H'/\tn (i+1) s2.heap/\∀b∈fp,H' b=none) E s1) E s
 done:∀(X:Cx),X.prog=P->X.w=w->X.K=K->X.calm=true->∀(i:Nat) (pins:List (Addr×Obj)) (s:Shared) (σ:St) (H:Hp) (E:Value->Shared->Prop),Inv X pins σ H s->(∀b∈fp,rG X pins H b)->tn i s.heap->J.stop i H->
  wpAny (model P w) X.A (pyNext (.ref it)) (λr s1=>r=none/\Inv X pins σ H s1) E s
 self:∀(A:Around) (i:Nat) (s:Shared) (Q:Value->Shared->Prop) (E:Value->Shared->Prop),tn i s.heap->Q (.ref it) s->wpAny (model P w) A (pyIter (.ref it)) Q E s
abbrev TI:=St->Hp->(It->Hp->Prop)->Prop
def PIE (X:Cx) (pins:List (Addr×Obj)) (σ:St) (tg:Expr) (R:It->Hp->Prop) (itv:Value) (s2:Shared):Prop:=
 ∃(it:Addr) (fp:List Addr) (tn:Nat->Heap->Prop) (J:It) (H':Hp),itv= .ref it/\Inv X pins σ H' s2/\Turn X.prog X.w X.K tg J fp it tn/\tn 0 s2.heap/\(∀b∈fp,rG X pins H' b)/\R J H'
def PI (X:Cx) (tg iter:Expr) (wi:TI):Prop:=
 ∀(pins:List (Addr×Obj)) (s:Shared) (σ:St) (H:Hp) (R:It->Hp->Prop),Inv X pins σ H s->wi σ H R->
  wpAny (model X.prog X.w) X.A (eval iter X.env) (λv s1=>wpAny (model X.prog X.w) X.A (pyIter v) (PIE X pins σ tg R) X.xe s1) X.xe s
theorem Fs {M:Model} {A:Around} {E:Value->Shared->Prop} {s:Shared} {tg:Expr} {it:Addr} {u:Value} {o:Obj} {n:String} {vs:Array Value} {Q:Unit->Shared->Prop} (ho:s.heap.get? it=some o) (hc:o.cls= .type n) (hd:o.data= .fields vs)
 (hn:["enumerate","zip","dict_itemiterator","dict_reverseitemiterator","odict_iterator","itertools.zip_longest","itertools.pairwise"].contains n=false) (hQ:Q () s):wpAny M A (letOwnedTupleGo tg (.ref it) u) Q E s:=by
 unfold letOwnedTupleGo
 cases tg<;>first
  |exact Qp hQ
  |(cases u<;>first
   |exact Qp hQ
   |(refine Qg (wpAny_load ho ?_)
     rw [hc,hd];show wpAny M A (if (["enumerate","zip","dict_itemiterator","dict_reverseitemiterator","odict_iterator","itertools.zip_longest","itertools.pairwise"].contains n && vs[0]? ==some (rawInt _))=true then _ else _) Q E s;rw [QO (by intro h;rw [hn,Bool.false_and] at h;cases h)]
     exact Qp hQ))
def Itl (K:Frg) (a:Addr):It:=
 ⟨λi H=>∃xs x,SqL K H a xs/\xs[i]? =some x,λi H x H'=>H'=H/\∀xs,SqL K H a xs->xs[i]? =some x,λi H=>∃xs,SqL K H a xs/\xs.length<=i⟩
def Itt (K:Frg) (a:Addr):It:=
 ⟨λi H=>∃xs x,SqT K H a xs/\xs[i]? =some x,λi H x H'=>H'=H/\∀xs,SqT K H a xs->xs[i]? =some x,λi H=>∃xs,SqT K H a xs/\xs.length<=i⟩
def Itr (lo:Int) (n:Nat):It:=⟨λi _=>i<n,λi H x H'=>H'=H/\x= .int (lo+i),λi _=>n<=i⟩
theorem wJ {P:Program} {w:World} {K:Frg} {tg:Expr} (a it:Addr):Turn P w K tg (Itl K a) [it] it (λi h=>h.IsListIter it a i) where
 mem:=by simp
 obj:=λi h st b hb=>by
  have e:b=it:=by simpa using hb
  subst e;obtain ⟨o,e,c,d⟩:=st;exact ⟨o,e,λv z=>by rw [d] at z;cases z⟩
 keep:=λi h h' st k=>st.at λo e=>k it (by simp) o e
 item:=by
  intro X hP hw hK hc i pins s σ H E I hf st hg;subst hP hw hK;obtain ⟨xs,x,hq,hx⟩:=hg;obtain ⟨its,rv,p,hz⟩:=I.list hq;obtain ⟨u,hu,ru⟩:=rv.get hx;obtain ⟨f0,f1,f2,f3,f4,f5⟩:=hf it (by simp);refine wpAny_pyNext_list_item st p.isList (x:=u) (by simpa using hu) λh' Lb sb=>?_;have I1:Inv X pins σ H {s with heap:=h'}:=I.turned (t':=s.toks) (λb o hb e=>(sb.2 b hb).trans e) f0 f1 f3 f4 f5;obtain ⟨o,e,c,d⟩:=id Lb;exact ⟨u,rfl,Fs (s:={s with heap:=h'}) e c d (by decide) ⟨x,H,I1,ru,⟨rfl,λys hy=>by rw [I.list_inj hy hq];exact hx⟩,Lb,λb hb=>(hf b hb).1⟩⟩
 done:=by
  intro X hP hw hK hc i pins s σ H E I hf st hg;subst hP hw hK;obtain ⟨xs,hq,hx⟩:=hg;obtain ⟨its,rv,p,hz⟩:=I.list hq;obtain ⟨f0,f1,f2,f3,f4,f5⟩:=hf it (by simp);have hl:=rv.length;exact wpAny_pyNext_list_end (I.ok.hd hc) st p.isList (by simp;omega) λh' eb=>⟨rfl,I.turned (t':=s.toks) (λb o hb e=>eb b o hb e) f0 f1 f3 f4 f5⟩
 self:=λ_ _ _ _ _ st h=>wpAny_pyIter_listiter st h
theorem um {P:Program} {w:World} {K:Frg} {tg:Expr} (a it:Addr):Turn P w K tg (Itt K a) [it] it (λi h=>h.IsTupleIter it a i) where
 mem:=by simp
 obj:=λi h st b hb=>by
  have e:b=it:=by simpa using hb
  subst e;obtain ⟨o,e,c,d⟩:=st;exact ⟨o,e,λv z=>by rw [d] at z;cases z⟩
 keep:=λi h h' st k=>st.at λo e=>k it (by simp) o e
 item:=by
  intro X hP hw hK hc i pins s σ H E I hf st hg;subst hP hw hK;obtain ⟨xs,x,hq,hx⟩:=hg;obtain ⟨its,rv,p,hz⟩:=I.tuple hq;obtain ⟨u,hu,ru⟩:=rv.get hx;obtain ⟨f0,f1,f2,f3,f4,f5⟩:=hf it (by simp);refine wpAny_pyNext_tuple_item st (show s.heap.IsTuple a its.toArray from p) (x:=u) (by simpa using hu) λh' Lb sb=>?_;have I1:Inv X pins σ H {s with heap:=h'}:=I.turned (t':=s.toks) (λb o hb e=>(sb.2 b hb).trans e) f0 f1 f3 f4 f5;obtain ⟨o,e,c,d⟩:=id Lb;exact ⟨u,rfl,Fs (s:={s with heap:=h'}) e c d (by decide) ⟨x,H,I1,ru,⟨rfl,λys hy=>by rw [I.tuple_inj hy hq];exact hx⟩,Lb,λb hb=>(hf b hb).1⟩⟩
 done:=by
  intro X hP hw hK hc i pins s σ H E I hf st hg;subst hP hw hK;obtain ⟨xs,hq,hx⟩:=hg;obtain ⟨its,rv,p,hz⟩:=I.tuple hq;obtain ⟨f0,f1,f2,f3,f4,f5⟩:=hf it (by simp);have hl:=rv.length;exact wpAny_pyNext_tuple_end (I.ok.hd hc) st (show s.heap.IsTuple a its.toArray from p) (by simp;omega) λh' eb=>⟨rfl,I.turned (t':=s.toks) (λb o hb e=>eb b o hb e) f0 f1 f3 f4 f5⟩
 self:=λ_ _ _ _ _ st h=>wpAny_pyIter_tupleiter st h
theorem uo {P:Program} {w:World} {K:Frg} {tg:Expr} (it:Addr) (lo:Int) (n:Nat):Turn P w K tg (Itr lo n) [it] it (λi h=>IsRangeIter h it (lo+(i:Nat)*1) ((n:Int) - (i:Nat)) 1) where
 mem:=by simp
 obj:=λi h st b hb=>by
  have e:b=it:=by simpa using hb
  subst e
  exact ⟨_,st,λv z=>by
   have z':Data.fields _=Data.cell v:=z
   cases z'⟩
 keep:=λi h h' st k=>k it (by simp) _ st
 item:=by
  intro X hP hw hK hc i pins s σ H E I hf st hg;subst hP hw hK;obtain ⟨f0,f1,f2,f3,f4,f5⟩:=hf it (by simp);have W:=Walks.range (prog:=X.prog) (w:=X.w) (I.ok.hd hc) it lo 1 n;refine W.item i s _ _ hg st λv h' tk hv Lb kk=>?_;obtain ⟨t,rfl⟩:=hv;have I1:Inv X pins σ H {s with heap:=h',toks:=tk}:=I.turned (λb o hb e=>kk b o (by simpa using hb) e) f0 f1 f3 f4 f5;refine ⟨_,rfl,Fs (s:={s with heap:=h',toks:=tk}) (n:="range_iterator") Lb rfl rfl (by decide) ⟨.int (lo+i),H,I1,⟨t,?_⟩,⟨rfl,rfl⟩,Lb,λb hb=>(hf b hb).1⟩⟩;rw [jbZ]
 done:=by
  intro X hP hw hK hc i pins s σ H E I hf st hg;subst hP hw hK;obtain ⟨f0,f1,f2,f3,f4,f5⟩:=hf it (by simp);exact wpAny_pyNext_range_end (I.ok.hd hc) st (by have:n<=i:=hg;omega) λh' eb=>⟨rfl,I.turned (t':=s.toks) (λb o hb e=>eb b o hb e) f0 f1 f3 f4 f5⟩
 self:=λ_ _ _ _ _ st h=>wpAny_pyIter_rangeiter st h
end L2
namespace L2
open PySem PySem.Spec PyProof.Rows
section
variable {X:Cx} {tg:Expr}
def iList (K:Frg) (tl:TE):TI:=λσ H R=>tl σ H λx H1=>∃a,x= .ref a/\(∃xs,SqL K H1 a xs)/\R (Itl K a) H1
def iTup (K:Frg) (tl:TE):TI:=λσ H R=>tl σ H λx H1=>∃a,x= .ref a/\(∃xs,SqT K H1 a xs)/\R (Itt K a) H1
theorem kL {l:Expr} {tl:TE} (hl:PE X l tl):PI X tg l (iList X.K tl):=by
 intro pins s σ H R I h;refine thn (hl pins s σ H _ I h) λv s1 hh=>?_;obtain ⟨x,H1,I1,r1,q1⟩:=hh;obtain ⟨a,e,⟨xs,hq⟩,q⟩:=q1;subst e;cases r1;obtain ⟨its,rv,p,hz⟩:=I1.list hq;refine jam p.isList ?_;refine ⟨s1.heap.objs.size,[s1.heap.objs.size],_,_,H1,rfl,I1.kept (t':=s1.toks) λb o e=>Qi _ e,wJ a _,⟨_,Qw _ rfl,rfl,rfl⟩,λb hb=>?_,q⟩;have e:b=s1.heap.objs.size:=by simpa using hb
 subst e;exact I1.fpOk (Qv _) (I1.hok.fresh (Qv _))
theorem pi_tup {l:Expr} {tl:TE} (hl:PE X l tl):PI X tg l (iTup X.K tl):=by
 intro pins s σ H R I h;refine thn (hl pins s σ H _ I h) λv s1 hh=>?_;obtain ⟨x,H1,I1,r1,q1⟩:=hh;obtain ⟨a,e,⟨xs,hq⟩,q⟩:=q1;subst e;cases r1;obtain ⟨its,rv,p,hz⟩:=I1.tuple hq;refine jap (show s1.heap.IsTuple a its.toArray from p) ?_;refine ⟨s1.heap.objs.size,[s1.heap.objs.size],_,_,H1,rfl,I1.kept (t':=s1.toks) λb o e=>Qi _ e,um a _,⟨_,Qw _ rfl,rfl,rfl⟩,λb hb=>?_,q⟩;have e:b=s1.heap.objs.size:=by simpa using hb
 subst e;exact I1.fpOk (Qv _) (I1.hok.fresh (Qv _))
theorem sr {pins:List (Addr×Obj)} {σ:St} {H:Hp} {s:Shared} {R:It->Hp->Prop} {E:Value->Shared->Prop} {lo hi:Int} {t u v:Tok} {tk:Nat} (I:Inv X pins σ H s) (h1: -(2 ^ 62)<=lo) (h2:lo<2 ^ 62) (h3: -(2 ^ 62)<=hi) (h4:hi<2 ^ 62)
 (q:R (Itr lo (hi - lo).toNat) H):wpAny (model X.prog X.w) X.A (pyIter (.ref s.heap.objs.size)) (PIE X pins σ tg R) E {s with heap:=s.heap.push {cls:= .type "range",data:= .fields #[.int lo t, .int hi u, .int 1 v]},toks:=tk}:=by
 refine wpAny_pyIter_range (IsRange.new ..) (small_one h1 h2 h3 h4) ?_;have I1:Inv X pins σ H {s with heap:=s.heap.push {cls:= .type "range",data:= .fields #[.int lo t, .int hi u, .int 1 v]},toks:=tk}:=I.kept λb o e=>Qi _ e
 refine ⟨(s.heap.push {cls:= .type "range",data:= .fields #[.int lo t, .int hi u, .int 1 v]}).objs.size,[(s.heap.push {cls:= .type "range",data:= .fields #[.int lo t, .int hi u, .int 1 v]}).objs.size],_,_,H,rfl,
  I1.kept (t':=tk) λb o e=>Qi _ e,uo _ lo (hi - lo).toNat,?_,λb hb=>?_,q⟩
 ·have e1:lo+((0:Nat):Int)*1=lo:=by simp
  have e2:(((hi - lo).toNat:Nat):Int) - ((0:Nat):Int)=Builtin.Range.rangeSize lo hi 1:=by rw [rangeSize_one];split<;>omega
  show IsRangeIter _ _ (lo+((0:Nat):Int)*1) ((((hi - lo).toNat:Nat):Int) - ((0:Nat):Int)) 1;rw [e1,e2];exact Qw _ rfl
 ·have e:b=(s.heap.push {cls:= .type "range",data:= .fields #[.int lo t, .int hi u, .int 1 v]}).objs.size:=by simpa using hb
  subst e;exact I1.fpOk (Qv _) (I1.hok.fresh (Qv _))
def iRng1 (ta:TA):TI:=λσ H R=>ta σ H λvs H1=>∃j:Int,vs=[.int j]/\ -(2 ^ 62)<=j/\j<2 ^ 62/\R (Itr 0 j.toNat) H1
def iRng2 (ta:TA):TI:=λσ H R=>ta σ H λvs H1=>∃i j:Int,vs=[.int i, .int j]/\(-(2 ^ 62)<=i/\i<2 ^ 62/\ -(2 ^ 62)<=j/\j<2 ^ 62)/\R (Itr i (j - i).toNat) H1
theorem pi_range1 {a:Expr} {ta:TA} {p pos:Pos} (hg:Gl X "range") (hm:X.mg "range"=none) (ha:PA X [a] ta) (hs:starEach [a] X.env=[(false,eval a X.env)]:=by rfl):PI X tg (.Call (.Name "range" p) [a] [] pos) (iRng1 ta):=by
 intro pins s σ H R I h;refine Call_ (Vx I hg hm boot_range (TV (thn (ha pos pins s σ H _ I h) λus s1 ⟨vs,H1,I1,r1,q1⟩=>?_) hs rfl));obtain ⟨j,e,q1,q2,q⟩:=q1;subst e
 cases r1 with
 |cons r rr=>
  cases rr;obtain ⟨t,rfl⟩:=r;exact call_range_1 (sr I1 (by omega) (by omega) q1 q2 (by simpa using q))
theorem pi_range2 {a b:Expr} {ta:TA} {p pos:Pos} (hg:Gl X "range") (hm:X.mg "range"=none) (ha:PA X [a,b] ta) (hs:starEach [a,b] X.env=[(false,eval a X.env),(false,eval b X.env)]:=by rfl) (LS:starEach [b] X.env=[(false,eval b X.env)]:=by rfl):
 PI X tg (.Call (.Name "range" p) [a,b] [] pos) (iRng2 ta):=by
 intro pins s σ H R I h;refine Call_ (Vx I hg hm boot_range (TV (thn (ha pos pins s σ H _ I h) λus s1 ⟨vs,H1,I1,r1,q1⟩=>?_) (by rw [hs,LS]) (by rw [LS];rfl)));obtain ⟨i,j,e,⟨q1,q2,q3,q4⟩,q⟩:=q1;subst e
 cases r1 with
 |cons r rr=>
  cases rr with
  |cons r' rr=>
   cases rr;obtain ⟨t,rfl⟩:=r;obtain ⟨t',rfl⟩:=r';exact call_range_2 (sr I1 q1 q2 q3 q4 q)
def tFor (wi:TI) (g:TG) (tb:TS):TS:=λD σ H=>wi σ H λJ H1=>∃W:Nat->Nat->St->Hp->Prop,(∃m,W 0 m σ H1)/\∀i m σ H,W i m σ H->
 (J.stop i H/\D.nx σ H)\/(J.go i H/\∃N:St->Hp->Prop,(∀σ' H',N σ' H'->∃m',m'<m/\W (i+1) m' σ' H')/\∀x H',J.yld i H x H'->g x σ H' λσ2 H2=>tb {D with nx:=N,ct:=N,bk:=D.nx} σ2 H2)
def iZ (fp:List Addr) (h:Heap):List (Addr×Obj):=fp.filterMap λb=>(h.get? b).map λo=>(b,o)
theorem Yg {fp:List Addr} {h:Heap} {b:Addr} {o:Obj} (hb:b∈fp) (e:h.get? b=some o):(b,o)∈iZ fp h:=jbR.mpr ⟨b,hb,by rw [e];rfl⟩
theorem Bv {fp:List Addr} {h:Heap} {p:Addr×Obj} (hp:p∈iZ fp h):p.1∈fp/\h.get? p.1=some p.2:=by
 obtain ⟨b,hb,e⟩:=jbR.mp hp
 cases q:h.get? b with
 |none=>rw [q] at e;cases e
 |some o=>
  rw [q] at e;have e':(b,o)=p:=QL e;subst e';exact ⟨hb,q⟩
theorem Inv.pinned {pins:List (Addr×Obj)} {σ:St} {H:Hp} {s:Shared} {fp:List Addr} (I:Inv X pins σ H s) (hf:∀b∈fp,rG X pins H b) (ho:∀b∈fp,∃o,s.heap.get? b=some o/\∀v,o.data≠ .cell v):Inv X (pins++iZ fp s.heap) σ H s:=
 I.pins_of λp hp=>(QS.mp hp).elim (λz=>I.pin p (QE _ z)) λz=>by
  obtain ⟨hb,e⟩:=Bv z;obtain ⟨f0,f1,f2,_⟩:=hf p.1 hb;obtain ⟨o,e',d⟩:=ho p.1 hb;rw [e] at e';cases e';exact ⟨e,f0,f1,f2,d⟩
theorem Inv.unpinned {pins pl:List (Addr×Obj)} {σ:St} {H:Hp} {s:Shared} (I:Inv X (pins++pl) σ H s):Inv X pins σ H s:=I.pins_of λp hp=>I.pin p (QE _ (jah _ hp))
theorem ps_for {iter:Expr} {body:List Stmt} {wi:TI} {g:TG} {tb:TS} {pos:Pos} (hp:PassesOwn (model X.prog X.w) X.A X.env X.xe) (hc:X.calm=true) (hi:PI X tg iter wi) (hg:PG X tg g) (hb:PSs X body tb)
 (hs:∀x,foldedSetIterable iter X.env x=pure x:=by intro _;rfl):PS X (.For tg iter body [] pos) (tFor wi g tb):=by
 intro pins s σ H D I h;refine wpAny_For (thn (hi pins s σ H _ I h) λv s1 h1=>thn h1 λitv s2 h2=>?_) hs;obtain ⟨it,fp,tn,J,H2,e,I2,T,La,f2,W,⟨m0,w0⟩,turn⟩:=h2;subst e;have stat:∀{H':Hp},(∀b∈fp,H' b=none)->∀b∈fp,rG X pins H' b:=λhn b hb=>⟨hn b hb,(f2 b hb).2⟩;refine codeAny_forLoop_any (λn s'=>∃i σ' H',Inv X pins σ' H' s'/\tn i s'.heap/\(∀b∈fp,H' b=none)/\W i n σ' H') ?_ m0 ⟨0,σ,H2,I2,La,λb hb=>(f2 b hb).1,w0⟩
 rintro n s3 ⟨i,σ3,H3,I3,SQ,fr3,w3⟩
 rcases turn i n σ3 H3 w3 with ⟨stop,qn⟩|⟨go,N,hN,step⟩
 ·refine jbk hp (thn (T.done X rfl rfl rfl hc i pins s3 σ3 H3 X.xe I3 (stat fr3) SQ stop) λr s4 hh=>?_);obtain ⟨hr,I4⟩:=hh;subst hr;exact wpAny_execs_nil ⟨σ3,H3,I4,qn⟩
 ·refine jbk hp (thn (T.item X rfl rfl rfl hc i pins s3 σ3 H3 X.xe I3 (stat fr3) SQ go) λr s4 hh=>?_);obtain ⟨u,hr,h4⟩:=hh;subst hr;refine jbk hp (thn h4 λ_ s5 hh=>?_);obtain ⟨x,H5,I5,r5,y5,Mu,Nk⟩:=hh;have I5':=I5.pinned (stat Nk) (T.obj _ _ Mu);refine jbk hp (thn (hg _ s5 σ3 H5 x u _ I5' r5 (step x H5 y5)) λ_ s6 hh=>?_);obtain ⟨σ6,H6,I6,q6⟩:=hh;refine jbk hp (thn (hb _ s6 σ6 H6 _ I6 q6) λf s7 q7=>?_)
  have again:∀{σ7:St} {H7:Hp},Inv X (pins++iZ fp s5.heap) σ7 H7 s7->N σ7 H7->∃m,m<n/\∃i σ' H',Inv X pins σ' H' s7/\tn i s7.heap/\(∀b∈fp,H' b=none)/\W i m σ' H':=λ{σ7 H7} I7 n7=>by
   obtain ⟨m',hm,w7⟩:=hN σ7 H7 n7;refine ⟨m',hm,i+1,σ7,H7,I7.unpinned,T.keep _ _ _ Mu λb hb o e=>(I7.pin (b,o) (QE _ (QE _ (Yg hb e)))).1,λb hb=>?_,w7⟩;obtain ⟨o,e,d⟩:=T.obj _ _ Mu b hb;exact (I7.pin (b,o) (QE _ (QE _ (Yg hb e)))).2.1
  cases f with
  |next=>obtain ⟨σ7,H7,I7,n7⟩:=q7;exact again I7 n7
  |cont=>obtain ⟨σ7,H7,I7,n7⟩:=q7;exact again I7 n7
  |brk=>obtain ⟨σ7,H7,I7,q7⟩:=q7;exact ⟨σ7,H7,I7.unpinned,q7⟩
  |ret v=>obtain ⟨x7,σ7,H7,I7,r7,q7⟩:=q7;exact ⟨x7,σ7,H7,I7.unpinned,r7,q7⟩
end
end L2
namespace L2
open PySem PySem.Spec PyProof.Rows
abbrev R2:=V->V->Hp->VK->Prop
def OpR (X:Cx) (f:Value->Value->Sem Value) (r:R2):Prop:=
 ∀(pins:List (Addr×Obj)) (s:Shared) (σ:St) (H:Hp) (x y:V) (v u:Value) (Q:VK),Inv X pins σ H s->ZU x v->ZU y u->r x y H Q->
  wpAny (model X.prog X.w) X.A (f v u) (EP X pins σ Q) X.xe s
def UnR (X:Cx) (f:Value->Sem Value) (r:V->Hp->VK->Prop):Prop:=
 ∀(pins:List (Addr×Obj)) (s:Shared) (σ:St) (H:Hp) (x:V) (v:Value) (Q:VK),Inv X pins σ H s->ZU x v->r x H Q->
  wpAny (model X.prog X.w) X.A (f v) (EP X pins σ Q) X.xe s
def XY (X:Cx) (f:Value) (r:List V->Hp->VK->Prop):Prop:=
 ∀(pins:List (Addr×Obj)) (s:Shared) (σ:St) (H:Hp) (xs:List V) (us:List Value) (Q:VK),Inv X pins σ H s->xx xs us->r xs H Q->
  wpAny (model X.prog X.w) X.A (call f us) (EP X pins σ Q) X.xe s
def tOp (r:R2) (ta tb:TE):TE:=λσ H Q=>ta σ H λx H1=>tb σ H1 λy H2=>r x y H2 Q
def tUn (r:V->Hp->VK->Prop) (ta:TE):TE:=λσ H Q=>ta σ H λx H1=>r x H1 Q
def rI (C:Int->Int->Prop) (g:Int->Int->V):R2:=λx y H Q=>∃i j,x= .int i/\y= .int j/\C i j/\Q (g i j) H
def rI0 (g:Int->Int->V):R2:=λx y H Q=>∃i j,x= .int i/\y= .int j/\Q (g i j) H
def rU (g:Int->V):V->Hp->VK->Prop:=λx H Q=>∃i,x= .int i/\Q (g i) H
section
variable {X:Cx} {a b c:Expr} {ta tb tc:TE} {pos:Pos}
theorem binT (ha:PE X a ta) (hb:PE X b tb) {pins:List (Addr×Obj)} {s:Shared} {σ:St} {H:Hp} {R:V->V->Hp->Prop} (I:Inv X pins σ H s)
 (h:ta σ H λx H1=>tb σ H1 λy H2=>R x y H2) {Q:Value->Shared->Prop} {f:Value->Value->Sem Value}
 (hf:∀v u s2 x y H2,Inv X pins σ H2 s2->ZU x v->ZU y u->R x y H2->wpAny (model X.prog X.w) X.A (f v u) Q X.xe s2):
 wpAny (model X.prog X.w) X.A (eval a X.env) (λv s₁=>wpAny (model X.prog X.w) X.A (eval b X.env) (λu s₂=>wpAny (model X.prog X.w) X.A (f v u) Q X.xe s₂) X.xe s₁) X.xe s:=by
 refine thn (ha pins s σ H _ I h) λv s1 hh=>?_;obtain ⟨x,H1,I1,r1,q1⟩:=hh;refine thn (hb pins s1 σ H1 _ I1 q1) λu s2 hh=>?_;obtain ⟨y,H2,I2,r2,q2⟩:=hh;exact hf v u s2 x y H2 I2 r1 r2 q2
theorem pe_op {op:Operator} {r:R2} (ho:OpR X (binaryOp op) r) (ha:PE X a ta) (hb:PE X b tb):PE X (.BinOp a op b pos) (tOp r ta tb):=by
 intro pins s σ H Q I h;exact wpAny_BinOp (binT ha hb I h λv u s2 x y H2 I2 rx ry q=>ho pins s2 σ H2 x y v u Q I2 rx ry q)
theorem pe_un {op:UnaryOp} {r:V->Hp->VK->Prop} (ho:UnR X (unaryOp op) r) (ha:PE X a ta):PE X (.UnaryOp op a pos) (tUn r ta):=by
 intro pins s σ H Q I h;exact UnaryOp_ (thn (ha pins s σ H _ I h) λv s1 ⟨x,H1,I1,r1,q1⟩=>ho pins s1 σ H1 x v Q I1 r1 q1)
theorem opI {f:Value->Value->Sem Value} {C:Int->Int->Prop} {g:Int->Int->Int}
 (rule:∀(i j:Int) (t u:Tok) (s:Shared) (Q:Value->Shared->Prop) (E:Value->Shared->Prop),C i j->Q (.int (g i j) s.toks) {s with toks:=s.toks+1}->wpAny (model X.prog X.w) X.A (f (.int i t) (.int j u)) Q E s):
 OpR X f (rI C λi j=> .int (g i j)):=by
 intro pins s σ H x y v u Q I rx ry h;obtain ⟨i,j,rfl,rfl,hc,q⟩:=h;obtain ⟨t,rfl⟩:=rx;obtain ⟨t',rfl⟩:=ry;exact rule i j t t' s _ _ hc ⟨.int (g i j),H,I.tok _,⟨_,rfl⟩,q⟩
theorem opI0 {f:Value->Value->Sem Value} {g:Int->Int->Int}
 (rule:∀(i j:Int) (t u:Tok) (s:Shared) (Q:Value->Shared->Prop) (E:Value->Shared->Prop),Q (.int (g i j) s.toks) {s with toks:=s.toks+1}->wpAny (model X.prog X.w) X.A (f (.int i t) (.int j u)) Q E s):
 OpR X f (rI0 λi j=> .int (g i j)):=by
 intro pins s σ H x y v u Q I rx ry h;obtain ⟨i,j,rfl,rfl,q⟩:=h;obtain ⟨t,rfl⟩:=rx;obtain ⟨t',rfl⟩:=ry;exact rule i j t t' s _ _ ⟨.int (g i j),H,I.tok _,⟨_,rfl⟩,q⟩
theorem opB0 {f:Value->Value->Sem Value} {g:Int->Int->Bool}
 (rule:∀(i j:Int) (t u:Tok) (s:Shared) (Q:Value->Shared->Prop) (E:Value->Shared->Prop),Q (.bool (g i j)) s->wpAny (model X.prog X.w) X.A (f (.int i t) (.int j u)) Q E s):
 OpR X f (rI0 λi j=> .bl (g i j)):=by
 intro pins s σ H x y v u Q I rx ry h;obtain ⟨i,j,rfl,rfl,q⟩:=h;obtain ⟨t,rfl⟩:=rx;obtain ⟨t',rfl⟩:=ry;exact rule i j t t' s _ _ ⟨.bl (g i j),H,I,rfl,q⟩
def CDiv (i j:Int):Prop:=0<j/\j<1073741824
def CPow (i j:Int):Prop:=0<=j/\j<=1000000/\i.natAbs<2 ^ 64
def CMul (i j:Int):Prop:=(-(2 ^ 64)<i/\i<2 ^ 64)\/(-(2 ^ 64)<j/\j<2 ^ 64)
theorem CMul.ok {i j:Int} (h:CMul i j):IntMulOk i j:=by
 rcases h with ⟨h1,h2⟩|⟨h1,h2⟩
 ·exact .of_left (intBits_le_64 h1 h2)
 ·exact .of_right (intBits_le_64 h1 h2)
theorem op_add:OpR X (binaryOp .Add) (rI0 λi j=> .int (i+j)):=opI0 λ_ _ _ _ _ _ _ q=>add_int q
theorem op_sub:OpR X (binaryOp .Sub) (rI0 λi j=> .int (i - j)):=opI0 λ_ _ _ _ _ _ _ q=>sub_int q
theorem op_fdiv:OpR X (binaryOp .FloorDiv) (rI CDiv λi j=> .int (i / j)):=opI λi j _ _ _ _ _ hc q=>by
 have h1:(0:Int)<j:=hc.1;have h2:j<1073741824:=hc.2;exact floordiv_int (by omega) (by rw [Tx i (by omega)];exact q) (.inl (PyProof.noPylong_small (by omega)))
theorem op_mod:OpR X (binaryOp .Mod) (rI (λ_ j=>0<j) λi j=> .int (i % j)):=opI λi j _ _ _ _ _ hc q=>by
 have h1:(0:Int)<j:=hc;exact mod_int' (by omega) (by rw [Tp i (by omega)];exact q)
theorem op_modN:OpR X (binaryOp .Mod) (rI (λ_ j=>j≠0) λi j=> .int (i.fmod j)):=opI λ_ _ _ _ _ _ _ hc q=>mod_int' hc q
theorem op_pow:OpR X (binaryOp .Pow) (rI CPow λi j=> .int (i ^ j.toNat)):=opI λ_ _ _ _ _ _ _ hc q=>pow_int_small hc.1 hc.2.1 hc.2.2 q
theorem unI {f:Value->Sem Value} {g:Int->Int}
 (rule:∀(i:Int) (t:Tok) (s:Shared) (Q:Value->Shared->Prop) (E:Value->Shared->Prop),Q (.int (g i) s.toks) {s with toks:=s.toks+1}->wpAny (model X.prog X.w) X.A (f (.int i t)) Q E s):
 UnR X f (rU λi=> .int (g i)):=by
 intro pins s σ H x v Q I rx h;obtain ⟨i,rfl,q⟩:=h;obtain ⟨t,rfl⟩:=rx;exact rule i t s _ _ ⟨.int (g i),H,I.tok _,⟨_,rfl⟩,q⟩
theorem un_neg:UnR X (unaryOp .USub) (rU λi=> .int (-i)):=unI λ_ _ _ _ _ q=>neg_int q
end
def scal:V->V->Bool
 | .non, .non=>true| .non, .int _=>true| .int _, .non=>true| .non, .bl _=>true| .bl _, .non=>true| .non, .str _=>true| .str _, .non=>true
 | .int _, .int _=>true| .bl _, .bl _=>true| .str _, .str _=>true| .byt _, .byt _=>true
 | .int _, .str _=>true| .str _, .int _=>true| .bl _, .str _=>true| .str _, .bl _=>true
 |_,_=>false
def rEq:R2:=λx y H Q=>scal x y=true/\Q (.bl (decide (x=y))) H
def rNe:R2:=λx y H Q=>scal x y=true/\Q (.bl (!decide (x=y))) H
theorem Cv {i j:Int}:decide (V.int i=V.int j)=(i==j):=by
 rw [jbS]
 simp
theorem GK {i j:Bool}:decide (V.bl i=V.bl j)=(i==j):=by
 rw [jbS]
 simp
theorem Cu {i j:Str}:decide (V.str i=V.str j)=(i==j):=by
 rw [jbS]
 simp
theorem Cw {i j:Array UInt8}:decide (V.byt i=V.byt j)=(i.toList==j.toList):=by
 rw [jbS];cases i;cases j
 simp
section
variable {X:Cx} {a b c:Expr} {ta tb tc:TE} {pos:Pos}
theorem yP {pins:List (Addr×Obj)} {σ:St} {H:Hp} {s:Shared} {Q:VK} {k k':Bool} (I:Inv X pins σ H s) (q:Q (.bl k) H) (e:k=k'):EP X pins σ Q (.bool k') s:=by
 subst e;exact ⟨.bl k,H,I,rfl,q⟩
theorem op_eq:OpR X (compareOp .Eq) rEq:=by
 intro pins s σ H x y v u Q I rx ry h;obtain ⟨hs,q⟩:=h
 cases x with
 |non=>
  cases rx
  cases y with
  |non=>cases ry;exact PySem.EqNone.eq_none_none (yP I q (by simp))
  |bl j=>cases ry;exact PySem.EqNone.eq_none_bool (yP I q (by simp))
  |int j=>obtain ⟨t',rfl⟩:=ry;exact PySem.EqNone.eq_none_int (yP I q (by simp))
  |str j=>obtain ⟨t',rfl⟩:=ry;exact PySem.EqNone.eq_none_str (yP I q (by simp))
  |_=>exact absurd (show false=true from hs) QK
 |bl i=>
  cases rx
  cases y with
  |non=>cases ry;exact PySem.EqNone.eq_bool_none (yP I q (by simp))
  |bl j=>cases ry;exact eq_bool (yP I q GK)
  |str j=>obtain ⟨t',rfl⟩:=ry;exact PySem.EqMixed.eq_bool_str (yP I q (by simp))
  |_=>exact absurd (show false=true from hs) QK
 |int i=>
  obtain ⟨t,rfl⟩:=rx
  cases y with
  |non=>cases ry;exact PySem.EqNone.eq_int_none (yP I q (by simp))
  |int j=>obtain ⟨t',rfl⟩:=ry;exact eq_int (yP I q Cv)
  |str j=>obtain ⟨t',rfl⟩:=ry;exact PySem.EqMixed.eq_int_str (yP I q (by simp))
  |_=>exact absurd (show false=true from hs) QK
 |str i=>
  obtain ⟨t,rfl⟩:=rx
  cases y with
  |non=>cases ry;exact PySem.EqNone.eq_str_none (yP I q (by simp))
  |bl j=>cases ry;exact PySem.EqMixed.eq_str_bool (yP I q (by simp))
  |int j=>obtain ⟨t',rfl⟩:=ry;exact PySem.EqMixed.eq_str_int (yP I q (by simp))
  |str j=>obtain ⟨t',rfl⟩:=ry;exact eq_str (yP I q Cu)
  |_=>exact absurd (show false=true from hs) QK
 |byt i=>
  obtain ⟨t,rfl⟩:=rx
  cases y with
  |byt j=>obtain ⟨t',rfl⟩:=ry;exact PySem.W.eq_bytes (yP I q Cw)
  |_=>exact absurd (show false=true from hs) QK
 |_=>cases y<;>exact absurd (show false=true from hs) QK
theorem op_ne:OpR X (compareOp .NotEq) rNe:=by
 intro pins s σ H x y v u Q I rx ry h;obtain ⟨hs,q⟩:=h
 cases x with
 |non=>
  cases rx
  cases y with
  |non=>cases ry;exact PySem.EqNone.ne_none_none (yP I q (by simp))
  |bl j=>cases ry;exact PySem.EqNone.ne_none_bool (yP I q (by simp))
  |int j=>obtain ⟨t',rfl⟩:=ry;exact PySem.EqNone.ne_none_int (yP I q (by simp))
  |str j=>obtain ⟨t',rfl⟩:=ry;exact PySem.EqNone.ne_none_str (yP I q (by simp))
  |_=>exact absurd (show false=true from hs) QK
 |bl i=>
  cases rx
  cases y with
  |non=>cases ry;exact PySem.EqNone.ne_bool_none (yP I q (by simp))
  |bl j=>cases ry;exact ne_bool (yP I q (congrArg not GK))
  |str j=>obtain ⟨t',rfl⟩:=ry;exact PySem.EqMixed.ne_bool_str (yP I q (by simp))
  |_=>exact absurd (show false=true from hs) QK
 |int i=>
  obtain ⟨t,rfl⟩:=rx
  cases y with
  |non=>cases ry;exact PySem.EqNone.ne_int_none (yP I q (by simp))
  |int j=>obtain ⟨t',rfl⟩:=ry;exact ne_int (yP I q (congrArg not Cv))
  |str j=>obtain ⟨t',rfl⟩:=ry;exact PySem.EqMixed.ne_int_str (yP I q (by simp))
  |_=>exact absurd (show false=true from hs) QK
 |str i=>
  obtain ⟨t,rfl⟩:=rx
  cases y with
  |non=>cases ry;exact PySem.EqNone.ne_str_none (yP I q (by simp))
  |bl j=>cases ry;exact PySem.EqMixed.ne_str_bool (yP I q (by simp))
  |int j=>obtain ⟨t',rfl⟩:=ry;exact PySem.EqMixed.ne_str_int (yP I q (by simp))
  |str j=>obtain ⟨t',rfl⟩:=ry;exact ne_str (yP I q (congrArg not Cu))
  |_=>exact absurd (show false=true from hs) QK
 |byt i=>
  obtain ⟨t,rfl⟩:=rx
  cases y with
  |byt j=>obtain ⟨t',rfl⟩:=ry;exact PySem.W.ne_bytes (yP I q (congrArg not Cw))
  |_=>exact absurd (show false=true from hs) QK
 |_=>cases y<;>exact absurd (show false=true from hs) QK
theorem op_lt:OpR X (compareOp .Lt) (rI0 λi j=> .bl (decide (i<j))):=opB0 λ_ _ _ _ _ _ _ q=>lt_int q
theorem op_le:OpR X (compareOp .LtE) (rI0 λi j=> .bl (decide (i<=j))):=opB0 λ_ _ _ _ _ _ _ q=>le_int q
theorem op_gt:OpR X (compareOp .Gt) (rI0 λi j=> .bl (decide (j<i))):=opB0 λ_ _ _ _ _ _ _ q=>gt_int q
theorem OpR.or {f:Value->Value->Sem Value} {r r':R2} (h:OpR X f r) (h':OpR X f r'):OpR X f (λx y H Q=>r x y H Q\/r' x y H Q):=by
 intro pins s σ H x y v u Q I rx ry q
 rcases q with q|q
 ·exact h pins s σ H x y v u Q I rx ry q
 ·exact h' pins s σ H x y v u Q I rx ry q
theorem Bw (b:Expr) {op:CmpOp} (h:op≠ .In:=by decide) (h2:op≠ .NotIn:=by decide):behindInMarks op b=false:=by
 have e1:(op==CmpOp.In)=false:=by cases op<;>first|rfl|exact absurd rfl h
 have e2:(op==CmpOp.NotIn)=false:=by cases op<;>first|rfl|exact absurd rfl h2
 cases b<;>simp [behindInMarks,e1,e2]
theorem pe_cmpR {op:CmpOp} {r:R2} (ho:OpR X (compareOp op) r) (ha:PE X a ta) (hb:PE X b tb) (hm:behindInMarks op b=false):PE X (.Compare a [op] [b] pos) (tOp r ta tb):=by
 intro pins s σ H Q I h;exact wpAny_Compare1 (binT ha hb I h λv u s2 x y H2 I2 rx ry q=>ho pins s2 σ H2 x y v u Q I2 rx ry q) hm
def tTest (t:TE):TT:=λσ H Q=>t σ H λx H'=>∃k,x= .bl k/\Q k H'
theorem qo {op:CmpOp} {r:R2} (ho:OpR X (compareOp op) r) (ha:PE X a ta) (hb:PE X b tb) (hm:behindInMarks op b=false):PT X (.Compare a [op] [b] pos) (tTest (tOp r ta tb)):=by
 intro pins s σ H Q I h
 refine wpAny_isTrue_Compare1 (thn (ha pins s σ H _ I h) λv s1 ⟨x,H1,I1,r1,q1⟩=>thn (hb pins s1 σ H1 _ I1 q1) λu s2 ⟨y,H2,I2,r2,q2⟩=>
  thn (ho pins s2 σ H2 x y v u _ I2 r1 r2 q2) λc s3 ⟨z,H3,I3,r3,k,e,q3⟩=>?_) hm
 subst e;cases r3;exact jbB ⟨H3,I3,q3⟩
theorem nV:(sizeLine:Nat)<2 ^ 63:=by rw [sizeLine_eq];decide
theorem uO:OpR X (binaryOp .Add) (λx y H Q=>∃i j,x= .str i/\y= .str j/\i.length+j.length<=sizeLine/\Q (.str (i++j)) H):=by
 intro pins s σ H x y v u Q I rx ry h;obtain ⟨i,j,rfl,rfl,hz,q⟩:=h;obtain ⟨t,rfl⟩:=rx;obtain ⟨t',rfl⟩:=ry;exact add_str (λt' tk=>⟨.str (i++j),H,I.tok _,⟨_,rfl⟩,q⟩) hz
theorem cy {x:V} {us:List Value} (r:xx [x] us):∃u,us=[u]/\ZU x u:=by
 cases r with
 |cons r1 r2=>cases r2;exact ⟨_,rfl,r1⟩
theorem DE {x y:V} {us:List Value} (r:xx [x,y] us):∃u w',us=[u,w']/\ZU x u/\ZU y w':=by
 cases r with
 |cons r1 r2=>
  cases r2 with
  |cons r3 r4=>cases r4;exact ⟨_,_,rfl,r1,r3⟩
theorem Fz:XY X (.builtin "abs") (λxs H Q=>∃i,xs=[.int i]/\Q (.int (if i<0 then -i else i)) H):=by
 intro pins s σ H xs us Q I r h;obtain ⟨i,rfl,q⟩:=h;obtain ⟨u,rfl,t,rfl⟩:=cy r;exact call_abs_int λu tk=>⟨.int (if i<0 then -i else i),H,I.tok _,⟨_,rfl⟩,q⟩
theorem CF (hc:X.calm=true):XY X (.builtin "min") (λxs H Q=>∃i j,xs=[.int i, .int j]/\Q (.int (if j<i then j else i)) H):=by
 intro pins s σ H xs us Q I r h;obtain ⟨i,j,rfl,q⟩:=h;obtain ⟨u,w',rfl,⟨t,rfl⟩,⟨t',rfl⟩⟩:=DE r;refine min_two_ints (I.ok.hd hc) λh' tk k=>⟨_,H,I.kept k,?_,q⟩
 by_cases hj:j<i
 ·rw [QH hj,QH hj];exact ⟨_,rfl⟩
 ·rw [QO hj,QO hj];exact ⟨_,rfl⟩
end
end L2
namespace L2
open PySem PySem.Spec PyProof.Rows
structure ObjM (h:Heap) (x dx C:Addr) (mA:Str->Option Value):Prop where
 obj:h.get? x=some (PySem.W.instObj C dx)
 ns:h.Ns1 dx mA
 ne:dx≠x
theorem BH {h:Heap} {dx:Addr} {mA:Str->Option Value} (n:h.Ns1 dx mA):∃od,h.get? dx=some od/\∀name,PySem.W.lookIn name od=some (mA name):=by
 obtain ⟨o,es,ep,ho,hd,hk,_,hm⟩:=n;refine ⟨o,ho,λname=>?_⟩;have e:=hm name;unfold nsFind findBy at e;rw [<-Array.find?_toList] at e;unfold PySem.W.lookIn;rw [hd];dsimp only
 split
 ·rename_i y q;rw [q] at e;exact congrArg some e
 ·rename_i q;rw [q] at e
  have a:es.toList.any (·.refKey)=false:=by
   rw [List.any_eq_false];intro y hy;obtain ⟨z,t,Rz⟩:=hk y (Array.mem_toList_iff.mp hy);simp [DictEntry.refKey,Rz]
  have a':¬es.toList.any (·.refKey)=true:=by rw [a];exact QK
  rw [QO a'];exact congrArg some e
theorem ObjM.look {h:Heap} {x dx C:Addr} {mA:Str->Option Value} (I:ObjM h x dx C mA):∃od,PySem.W.InstAt h x (PySem.W.instObj C dx) C (some od)/\∀name,PySem.W.lookIn name od=some (mA name):=
 let ⟨od,ho,hl⟩:=BH I.ns
 ⟨od,⟨I.obj,rfl,rfl,ho⟩,hl⟩
section
variable {prog:Program} {w:World} {A:Around} {E:Value->Shared->Prop} {s:Shared} {K:Frg} {x dx C f:Addr} {mA:Str->Option Value} {name:Str} {v:Value}
theorem IE {expr:Bool} {Q:Value->Shared->Prop} (X:K.In s.heap) (I:ObjM s.heap x dx C mA) (hg:PySem.W.plainGet K C name=true) (hh:PySem.W.hasDictIn K C=true)
 (ha:PySem.W.findIn K (.ref C) name=some none) (hv:mA name=some v) (OM:PySem.W.handedIn v=true) (h:Q v {s with toks:=s.toks+1}):
 wpAny (model prog w) A (getAttr (.ref x) name expr) Q E s:=by
 obtain ⟨od,J,hl⟩:=I.look;exact PySem.W.get_value X J (PySem.W.plainGet_of hg).1 (PySem.W.findObj_own hh ha rfl (by rw [hl,hv])) OM h
theorem Ft {pl:Sem Bool} {Q:Value×List Value->Shared->Prop} (X:K.In s.heap) (I:ObjM s.heap x dx C mA) (hg:PySem.W.plainGet K C name=true)
 (hf:PySem.W.findIn K (.ref C) name=some (some (.ref f))) (ht:PySem.W.isFn K (.ref f)=true) (hv:mA name=none) (h:Q (.ref f,[.ref x]) s):
 wpAny (model prog w) A (getMethod (.ref x) name pl) Q E s:=by
 obtain ⟨od,J,hl⟩:=I.look;exact PySem.W.method_fn X J (PySem.W.plainGet_of hg).1 (PySem.W.plainGet_of hg).2 hf (beq_iff_eq.mp ht) (by show (PySem.W.lookIn name od).map (·.isSome)=some false;rw [hl,hv];rfl) h
theorem Hn {ns:List Str} {Q:Unit->Shared->Prop} (X:K.In s.heap) (I:ObjM s.heap x dx C mA)
 (hs:PySem.W.findIn K (.ref C) "__setattr__"=some (some (.builtin "object.__setattr__"))) (hp:PySem.W.plainOver K C=true) (ht:PySem.W.takerIn K C name=some none) (hh:PySem.W.hasDictIn K C=true)
 (hw:PySem.Within mA ns) (LR:ns.length<=sizeLine)
 (h:∀h',ObjM h' x dx C (λy=>if y=name then some v else mA y)->Heap.SameBut dx s.heap h'->Q () {s with heap:=h',toks:=s.toks+2}):
 wpAny (model prog w) A (setAttr (.ref x) name v) Q E s:=by
 obtain ⟨od,J,hl⟩:=I.look;refine PySem.W.set_plain X J hs (PySem.W.osa_open (s:={s with toks:=s.toks+1}) (r:=none) X J hp ht λb=>?_);obtain ⟨cd,hc,KS⟩:=PySem.W.any_some hh;have hx:s.heap.get? x=some ⟨.ref C,some dx, .plain,#[]⟩:=I.obj;refine Qg (Qp (Qg (Qg (wpAny_loadPart hx (Qg (PySem.W.Looks.here (s:={s with toks:=s.toks+1}) (PySem.W.looks_clsIn X hc) ?_))))));rw [KS];refine Qp (a:=some dx) (Qg (Qp (Qg ?_)));refine wpAny_nsSet1 (s:={s with toks:=s.toks+1}) I.ns λh' Lp LS=>?_;obtain ⟨oD,esD,epD,hoD,hdD,hcD⟩:=Lp.count (PySem.Within.cons name v hw);refine Qg (wpAny_lookBehind hoD (by rw [hdD];exact pastItsLine_dict (QU hcD (by rw [QA];omega))) ?_);exact Qp (h _ ⟨(LS.2 _ (Ne.symm I.ne)).trans I.obj,Lp,I.ne⟩ LS)
theorem EC {R:Result->Shared->Prop} {vs:List Value} {kw:List (Str×Value)} (X:K.In s.heap) (hm:PySem.W.makesIn K C=true)
 (hi:PySem.W.findIn K (.ref C) "__init__"=some (some (.ref f))) (hf:PySem.W.typeIn K (.ref f)=some (.type "function"))
 (h:codeAny (model prog w) (A.under (.builtin "type.__call__" ⟨.ref C::vs,kw⟩)) (.call (.ref f) ⟨.ref (s.heap.objs.size+1)::vs,kw⟩) (PySem.W.InitBack (s.heap.objs.size+1) R)
  {s with heap:=(s.heap.push PySem.W.emptyDict).push (PySem.W.instObj C s.heap.objs.size)}):
 codeAny (model prog w) A (.call (.ref C) ⟨vs,kw⟩) R s:=by
 obtain ⟨hh,g,d,t,os⟩:=s;exact PySem.W.make_core (PySem.W.makes_of X hm) (PySem.W.looks_findIn X hi) (λself=>PySem.W.bind_fn X self hf) (.inl rfl) h
end
def pA (f:Str) (v:V):List (Str×V)->List (Str×V)
 |[]=>[(f,v)]
 |(g,x)::r=>if g=f then (g,v)::r else (g,x)::pA f v r
theorem fB (f g:Str) (v:V):∀fs:List (Str×V),(pA f v fs).lookup g=if g=f then some v else fs.lookup g
 |[]=>by
  show List.lookup g [(f,v)]=_
  by_cases h:g=f
  ·have hb:(g==f)=true:=beq_iff_eq.mpr h;simp only [List.lookup,hb,QH h]
  ·have hb:(g==f)=false:=jaV.mpr h;simp only [List.lookup,hb,QO h]
 |(k,x)::r=>by
  have ih:=fB f g v r;rw [show pA f v ((k,x)::r)=(if k=f then (k,v)::r else (k,x)::pA f v r) from rfl]
  by_cases hk:k=f
  ·rw [QH hk]
   by_cases h:g=k
   ·have hb:(g==k)=true:=beq_iff_eq.mpr h;simp only [List.lookup,hb,QH (h.trans hk)]
   ·have hb:(g==k)=false:=jaV.mpr h;simp only [List.lookup,hb,QO (λe:g=f=>h (e.trans hk.symm))]
  ·rw [QO hk]
   by_cases h:g=k
   ·have hb:(g==k)=true:=beq_iff_eq.mpr h;simp only [List.lookup,hb,QO (λe:g=f=>hk (h.symm.trans e))]
   ·have hb:(g==k)=false:=jaV.mpr h;simp only [List.lookup,hb];exact ih
theorem fK (f:Str) (v:V):∀fs:List (Str×V),f∈(pA f v fs).map (·.1)/\∀g,g∈fs.map (·.1)->g∈(pA f v fs).map (·.1)
 |[]=>⟨by simp [pA],λg h=>by simp at h⟩
 |(k,x)::r=>by
  obtain ⟨i1,i2⟩:=fK f v r;rw [show pA f v ((k,x)::r)=(if k=f then (k,v)::r else (k,x)::pA f v r) from rfl]
  by_cases hk:k=f
  ·rw [QH hk];subst hk;exact ⟨by simp,λg h=>by simpa using h⟩
  ·rw [QO hk];refine ⟨?_,λg h=>?_⟩
   ·rw [Qo];exact Qf _ i1
   ·rw [Qo] at h⊢
    rcases Qm.mp h with e|e
    ·exact Qm.mpr (.inl e)
    ·exact Qf _ (i2 g e)
theorem fE (f:Str) (v:V):∀fs:List (Str×V),(pA f v fs).length<=fs.length+1
 |[]=>by simp [pA]
 |(k,x)::r=>by
  have ih:=fE f v r;rw [show pA f v ((k,x)::r)=(if k=f then (k,v)::r else (k,x)::pA f v r) from rfl]
  by_cases hk:k=f
  ·rw [QH hk,QA,QA];omega
  ·rw [QO hk,QA,QA];omega
theorem Dg.some_of {v:V} {o:Option Value} (r:Dg (some v) o):∃u,o=some u/\ZU v u:=by
 cases o with
 |none=>exact (show False from r).elim
 |some u=>exact ⟨u,rfl,r⟩
theorem Dg.none_of {o:Option Value} (r:Dg none o):o=none:=by
 cases o with
 |none=>rfl
 |some u=>exact (show False from r).elim
theorem Ca {v:V} {u:Value} (r:ZU v u):PySem.W.handedIn u=true:=by
 cases v with
 |non=>cases (show u=Value.none from r);rfl
 |bl b=>cases (show u=Value.bool b from r);rfl
 |int i=>obtain ⟨t,e⟩:=(show ∃t,u=Value.int i t from r);cases e;rfl
 |str x=>obtain ⟨t,e⟩:=(show ∃t,u=Value.str x t from r);cases e;rfl
 |byt b=>obtain ⟨t,e⟩:=(show ∃t,u=Value.bytes b t from r);cases e;rfl
 |flt b=>obtain ⟨t,e⟩:=(show ∃t,u=Value.float b t from r);cases e;rfl
 |ref a=>cases (show u=Value.ref a from r);rfl
 |ty n=>cases (show u=Value.type n from r);rfl
section
variable {P:Program} {w:World} {H H':Hp} {h h':Heap} {a C dx:Addr} {fs fs':List (Str×V)}
theorem lD (hok:HOk P w H h) (e:H a=some (.ins C dx fs)):∃mA,ObjM h a dx C mA/\(∀f,Dg (fs.lookup f) (mA f))/\PySem.Within mA (fs.map (·.1))/\fs.length<=1000/\H dx=some (.own a):=by
 obtain ⟨d,z,ne,ob,mA,n,r,q⟩:=(show Yd P w H h a (.ins C dx fs) from hok a _ e);exact ⟨mA,⟨ob,n,ne⟩,r,q,z,d⟩
end
structure Cls (K:Frg) (C:Addr):Prop where
 pg:PySem.W.plainGet K C Str.empty=true
 hd:PySem.W.hasDictIn K C=true
 po:PySem.W.plainOver K C=true
 sa:PySem.W.findIn K (.ref C) "__setattr__"=some (some (.builtin "object.__setattr__"))
theorem Cls.get {K:Frg} {C:Addr} (c:Cls K C) (f:Str):PySem.W.plainGet K C f=true:=c.pg
def cq (K:Frg) (C:Addr) (f:Str):Prop:=PySem.W.findIn K (.ref C) f=some none
theorem cq.taker {K:Frg} {C:Addr} {f:Str} (n:cq K C f):PySem.W.takerIn K C f=some none:=by
 unfold PySem.W.takerIn;rw [show PySem.W.findIn K (.ref C) f=some none from n];rfl
structure Meth (K:Frg) (C:Addr) (m:Str) (f:Addr):Prop where
 at_:PySem.W.findIn K (.ref C) m=some (some (.ref f))
 fn:PySem.W.isFn K (.ref f)=true
 kp:PySem.W.keepIn K (.ref f)=true
section
variable {X:Cx} {pins:List (Addr×Obj)} {σ:St} {H:Hp} {s:Shared} {a C dx:Addr} {fs:List (Str×V)} {f:Str} {v:V} {A:Around} {E:Value->Shared->Prop}
theorem vI {b:Bool} {Q:Value->Shared->Prop} (I:Inv X pins σ H s) (e:H a=some (.ins C dx fs)) (c:Cls X.K C) (n:cq X.K C f) (l:fs.lookup f=some v)
 (h:∀u s',Inv X pins σ H s'->ZU v u->Q u s'):wpAny (model X.prog X.w) A (getAttr (.ref a) f b) Q E s:=by
 obtain ⟨mA,O,r,_,_,_⟩:=lD I.hok e;obtain ⟨u,hu,ru⟩:=Dg.some_of (v:=v) (o:=mA f) (by rw [<-l];exact r f);exact IE I.kIn O (c.get f) c.hd n hu (Ca ru) (h u _ (I.tok _) ru)
theorem jn {m:Str} {g:Addr} {pl:Sem Bool} {Q:Value×List Value->Shared->Prop} (I:Inv X pins σ H s) (e:H a=some (.ins C dx fs)) (c:Cls X.K C) (k:Meth X.K C m g) (l:fs.lookup m=none)
 (h:Q (.ref g,[.ref a]) s):wpAny (model X.prog X.w) A (getMethod (.ref a) m pl) Q E s:=by
 obtain ⟨mA,O,r,_,_,_⟩:=lD I.hok e;have hn:mA m=none:=Dg.none_of (by rw [<-l];exact r m);exact Ft I.kIn O (c.get m) k.at_ k.fn hn h
theorem uw {y:V} {u:Value} {Q:Unit->Shared->Prop} (I:Inv X pins σ H s) (e:H a=some (.ins C dx fs)) (c:Cls X.K C) (n:cq X.K C f) (hl:fs.length<1000) (ry:ZU y u)
 (h:∀s',Inv X pins σ (upd H a (.ins C dx (pA f y fs))) s'->Q () s'):wpAny (model X.prog X.w) A (setAttr (.ref a) f u) Q E s:=by
 obtain ⟨mA,O,r,wi,_,ho⟩:=lD I.hok e;have hz:(fs.map (·.1)).length<=sizeLine:=by rw [Qa,sizeLine_eq];omega
 refine Hn I.kIn O c.sa c.po n.taker c.hd wi hz λh' O' sb=>h _ ?_;have hd:∃o,h'.get? dx=some o:=let ⟨o,_,_,e',_⟩:=O'.ns;⟨o,e'⟩
 refine I.write (x:=a) (e:=dx) (by rw [e];exact True.intro) (.inr ho) (λb q hb z=>(sb.2 b hb).trans z) hd ?_;refine ⟨by rw [yg O.ne];exact ho,?_,O.ne,O'.obj,_,O'.ns,λg=>?_,λg hg=>?_⟩
 ·have:=fE f y fs;omega
 ·show Dg ((pA f y fs).lookup g) (if g=f then some u else mA g);rw [fB]
  by_cases q:g=f
  ·rw [QH q,QH q];exact ry
  ·rw [QO q,QO q];exact r g
 ·by_cases q:g=f
  ·rw [q];exact (fK f y fs).1
  ·refine (fK f y fs).2 g (wi g λz=>hg ?_);show (if g=f then some u else mA g)=none;rw [QO q];exact z
theorem Inv.made (I:Inv X pins σ H s):Inv X pins σ (upd (upd H s.heap.objs.size (.own (s.heap.objs.size+1))) (s.heap.objs.size+1) (.ins C s.heap.objs.size []))
 {s with heap:=(s.heap.push PySem.W.emptyDict).push (PySem.W.instObj C s.heap.objs.size)}:=by
 have e1:(s.heap.push PySem.W.emptyDict).get? s.heap.objs.size=some PySem.W.emptyDict:=Qw s.heap rfl
 have e2:((s.heap.push PySem.W.emptyDict).push (PySem.W.instObj C s.heap.objs.size)).get? (s.heap.objs.size+1)=some (PySem.W.instObj C s.heap.objs.size):=by
  have:=Qw (s.heap.push PySem.W.emptyDict) (o:=PySem.W.instObj C s.heap.objs.size) rfl;rwa [QW] at this
 have e3:(s.heap.push PySem.W.emptyDict).Ns s.heap.objs.size (λ_=>none):=⟨PySem.W.emptyDict,#[],_,e1,rfl,(λe he=>absurd he (by simp)),λ_=>rfl⟩;have I1:=I.laid (a:=s.heap.objs.size) (o:= .own (s.heap.objs.size+1)) (h':=s.heap.push PySem.W.emptyDict) (t':=s.toks) (λb u q=>Qi _ q) (Qv _) ⟨_,e1⟩;refine I1.laid (a:=s.heap.objs.size+1) (o:= .ins C s.heap.objs.size []) (t':=s.toks) (λb u q=>Qi _ q) (Nat.le_of_eq (QW _ _)) ?_;have ne:s.heap.objs.size≠s.heap.objs.size+1:=QM (To _);refine ⟨by rw [yg ne,yM],jal _,ne,e2,λ_=>none,(Heap.Ns1.of_empty e3).at λo q=>Qi _ q,λ_=>True.intro,λy hy=>absurd rfl hy⟩
theorem IU {prog:Program} {w:World} {env:Env} {e:Expr} {f:Str} {pos:Pos} {s:Shared} {Q:Value->Shared->Prop} (hb:attributeBase e f env (eval e env)=eval e env)
 (h:wpAny (model prog w) A (eval e env) (λo s₁=>wpAny (model prog w) A (getAttr o f true) Q E s₁) E s):wpAny (model prog w) A (eval (.Attribute e f pos) env) Q E s:=
 Attribute_any_ h (by rw [arm_eval_Attribute,hb])
end
def tFld (K:Frg) (ta:TE) (f:Str):TE:=λσ H Q=>ta σ H λx H1=>∃a C dx fs v,x= .ref a/\H1 a=some (.ins C dx fs)/\Cls K C/\cq K C f/\fs.lookup f=some v/\Q v H1
def sFld (K:Frg) (ta tv:TE) (f:Str):TS:=λD σ H=>tv σ H λy H1=>ta σ H1 λx H2=>∃a C dx fs,x= .ref a/\H2 a=some (.ins C dx fs)/\Cls K C/\cq K C f/\fs.length<1000/\
 D.nx σ (upd H2 a (.ins C dx (pA f y fs)))
section
variable {X:Cx} {o e value:Expr} {f:Str} {pos pos' tpos:Pos} {ta tv:TE}
theorem pe_fld (he:PE X e ta) (hb:attributeBase e f X.env (eval e X.env)=eval e X.env):PE X (.Attribute e f pos) (tFld X.K ta f):=by
 intro pins s σ H Q I h;refine IU hb (thn (he pins s σ H _ I h) λu s1 hh=>?_);obtain ⟨x,H1,I1,rx,a,C,dx,fs,v,ex,ea,c,n,l,q⟩:=hh;subst ex;obtain rfl:u=Value.ref a:=rx;exact vI I1 ea c n l λu' s2 I2 ru=>⟨v,H1,I2,ru,q⟩
theorem ps_fld (ha:PE X o ta) (hv:PE X value tv) (hs:swapsWith value (some (.Attribute o f pos')) pos.line X.env=pure false):PS X (.Assign [.Attribute o f pos'] value pos) (sFld X.K ta tv f):=by
 intro pins s σ H D I h;refine plainObj_wpAny_Assign_Attribute (thn (hv pins s σ H _ I h) λu s1 ⟨y,H1,I1,ry,q⟩=>thn (ha pins s1 σ H1 _ I1 q) λov s2 hh=>?_) hs;obtain ⟨x,H2,I2,rx,a,C,dx,fs,ex,ea,c,n,l,q2⟩:=hh;subst ex;obtain rfl:ov=Value.ref a:=rx;exact uw I2 ea c n l ry λs3 I3=>⟨σ,_,I3,q2⟩
end
section
variable {X:Cx} {pins:List (Addr×Obj)} {σ:St} {H:Hp} {s:Shared} {A:Around} {E:Value->Shared->Prop} {Q:Value->Shared->Prop} {c:Value} {b:Bool}
inductive TyOf (K:Frg) (H:Hp):V->Value->Prop where
 |non:TyOf K H .non (.type "NoneType")
 |bl (x:Bool):TyOf K H (.bl x) (.type "bool")
 |int (i:Int):TyOf K H (.int i) (.type "int")
 |str (x:Str):TyOf K H (.str x) (.type "str")
 |flt (x:UInt64):TyOf K H (.flt x) (.type "float")
 |lst {a:Addr} {xs:List V} (e:H a=some (.lst xs)):TyOf K H (.ref a) (.type "list")
 |frz {a:Addr} {o:Obj} {xs:List V} (e:H a=some (.frz o (.lst xs))):TyOf K H (.ref a) (.type "list")
 |tup {a:Addr} {xs:List V} (e:H a=some (.tup xs)):TyOf K H (.ref a) (.type "tuple")
 |dK {a:Addr} {kvs:List (Key×V)} (e:H a=some (.dK kvs)):TyOf K H (.ref a) (.type "dict")
 |dT {a:Addr} {kvs:List (List Key×V)} (e:H a=some (.dT kvs)):TyOf K H (.ref a) (.type "dict")
 |ins {a C dx:Addr} {fs:List (Str×V)} (e:H a=some (.ins C dx fs)) (cl:Cls K C) (ha:PySem.W.findIn K (.ref C) "__class__"=some (some (.builtin "object.__class__")))
  (hn:PySem.W.specialIn K (.builtin "object.__class__") "__get__"=some (some (.builtin "getset_descriptor.__get__"))) (htk:PySem.W.takesIn K (.builtin "object.__class__")=some true)
  (hm:PySem.W.mroIn K C (.type "object")=some true):TyOf K H (.ref a) (.ref C)
theorem nZ {x:V} {u t:Value} (I:Inv X pins σ H s) (rx:ZU x u) (ty:TyOf X.K H x t) (e:PySem.W.kitOne X.K t c=some b) (h:∀tk,Q (.bool b) {s with toks:=tk}):
 wpAny (model X.prog X.w) A (call (.builtin "isinstance") [u,c]) Q E s:=by
 cases ty with
 |non=>cases (show u=Value.none from rx);exact jat PySem.W.kitx_none I.kIn True.intro e (λz=>nomatch z) h
 |bl y=>cases (show u=Value.bool y from rx);exact jat PySem.W.kitx_bool I.kIn True.intro e (λz=>nomatch z) h
 |int i=>obtain ⟨t,q⟩:=(show ∃t,u=Value.int i t from rx);cases q;exact jat PySem.W.kitx_int I.kIn True.intro e (λz=>nomatch z) h
 |str y=>obtain ⟨t,q⟩:=(show ∃t,u=Value.str y t from rx);cases q;exact jat PySem.W.kitx_str I.kIn True.intro e (λz=>nomatch z) h
 |flt y=>obtain ⟨t,q⟩:=(show ∃t,u=Value.float y t from rx);cases q;exact jat PySem.W.kitx_float I.kIn True.intro e (λz=>nomatch z) h
 |@lst a xs ea=>
  cases (show u=Value.ref a from rx);obtain ⟨_,_,n,_,h1⟩:=(show Yd X.prog X.w H s.heap a (.lst xs) from I.hok a _ ea);exact jat PySem.W.kitx_list I.kIn ⟨_,h1,rfl⟩ e (λz=>nomatch z) h
 |@frz a ob xs ea=>
  cases (show u=Value.ref a from rx);obtain ⟨_,_,_,n,_,h1⟩:=(show Yd X.prog X.w H s.heap a (.frz ob (.lst xs)) from I.hok a _ ea);exact jat PySem.W.kitx_list I.kIn ⟨_,h1,rfl⟩ e (λz=>nomatch z) h
 |@tup a xs ea=>
  cases (show u=Value.ref a from rx);obtain ⟨_,_,_,p⟩:=(show Yd X.prog X.w H s.heap a (.tup xs) from I.hok a _ ea);obtain ⟨o,h1,h2,_⟩:=p;exact jat PySem.W.kitx_tuple I.kIn ⟨o,h1,h2⟩ e (λz=>nomatch z) h
 |@dK a kvs ea=>
  cases (show u=Value.ref a from rx);obtain ⟨_,_,vs,_,p⟩:=(show Yd X.prog X.w H s.heap a (.dK kvs) from I.hok a _ ea);obtain ⟨o,es,ep,h1,h2,_⟩:=p;exact jat PySem.W.kitx_dict I.kIn ⟨o,h1,h2.1⟩ e (λz=>nomatch z) h
 |@dT a kvs ea=>
  cases (show u=Value.ref a from rx);obtain ⟨_,_,xs,_,o,es,ep,h1,h2,_⟩:=(show Yd X.prog X.w H s.heap a (.dT kvs) from I.hok a _ ea);exact jat PySem.W.kitx_dict I.kIn ⟨o,h1,h2.1⟩ e (λz=>nomatch z) h
 |@ins a C dx fs ea cl ha hn htk hm=>
  cases (show u=Value.ref a from rx);obtain ⟨mA,O,_⟩:=lD I.hok ea;obtain ⟨od,J,_⟩:=O.look;exact jat (PySem.W.kitx_own (cl.get _) cl.hd ha hn htk hm) I.kIn J e (λz=>nomatch z) h
end
end L2
namespace L2
open PySem PySem.Spec PyProof.Rows
structure Room (k:Nat) (A:Around):Prop where
 hd:A.handled=none
 dp:A.depth+3*k+5<recursionLimit
 un:A.units+16*k+200<cLine
theorem Room.mono {j k:Nat} {A:Around} (r:Room k A) (h:j<=k):Room j A:=⟨r.hd,by have:=r.dp;omega,by have:=r.un;omega⟩
theorem Room.deeper {k:Nat} {A:Around} (r:Room (k+1) A) (env:Env):Room k (A.deeper env):=
 ⟨r.hd,by have:=r.dp;show A.depth+1+3*k+5<_;omega,by have:=r.un;show A.units+3+16*k+200<_;omega⟩
theorem vj {A:Around} {C:Addr} {us:List Value} {kw:List (Str×Value)}:(A.under (.builtin "type.__call__" ⟨.ref C::us,kw⟩)).depth=A.depth+1:=by
 first|rfl|simp [Around.under,Code.weight,Code.isCreation,Code.isGuard,Code.isCaller,Code.frames,Code.isFrame,guardIds]
theorem vi {A:Around} {C:Addr} {us:List Value} {kw:List (Str×Value)}:(A.under (.builtin "type.__call__" ⟨.ref C::us,kw⟩)).units=A.units+1:=by
 first|rfl|simp [Around.under,Code.cUnits,Code.frames,Code.isFrame]
theorem Room.make {k:Nat} {A:Around} (r:Room (k+1) A) (C:Addr) (us:List Value) (kw:List (Str×Value)):Room k (A.under (.builtin "type.__call__" ⟨.ref C::us,kw⟩)):=
 ⟨r.hd,by have:=r.dp;rw [vj];omega,by have:=r.un;rw [vi];omega⟩
theorem Room.depth {k:Nat} {A:Around} (r:Room k A):A.depth<recursionLimit:=by have:=r.dp;omega
theorem Room.units {k:Nat} {A:Around} (r:Room k A):A.units+64<cLine:=by have:=r.un;omega
def tNil:TA:=λ_ H Q=>Q [] H
def tCons (ta:TE) (tr:TA):TA:=λσ H Q=>ta σ H λx H1=>tr σ H1 λxs H2=>Q (x::xs) H2
section
variable {X:Cx} {e:Expr} {es:List Expr} {te:TE} {t:TA} {pos:Pos}
theorem fh:PA X [] tNil:=λ_ _ _ _ H Q I h=>Calls.spliced_nil ⟨[],H,I, .nil,h⟩
theorem WI (ha:PE X e te) (hr:PA X es t) (hs:starEach (e::es) X.env=(false,eval e X.env)::starEach es X.env:=by rfl):PA X (e::es) (tCons te t):=by
 intro pos pins s σ H Q I h;rw [hs];show wpAny _ _ (spliced ((false,eval e X.env)::backTo pos (starEach es X.env))) _ _ s;refine Calls.spliced_cons (thn (ha pins s σ H _ I h) λu s1 hh=>?_);obtain ⟨x,H1,I1,r1,q1⟩:=hh;exact thn (hr pos pins s1 σ H1 _ I1 q1) λus s2 ⟨xs,H2,I2,r2,q2⟩=>⟨x::xs,H2,I2, .cons r1 r2,q2⟩
def tTup (t:TA):TE:=λσ H Q=>t σ H λxs H1=>xs.length<=sizeLine/\∀p,H1 p=none->Q (.ref p) (upd H1 p (.tup xs))
def tLst (t:TA):TE:=λσ H Q=>t σ H λxs H1=>xs.length<=sizeLine/\∀p,H1 p=none->Q (.ref p) (upd H1 p (.lst xs))
theorem pe_tup {x1} (h:PA X es t):PE X (.Tuple es x1 pos) (tTup t):=by
 intro pins s σ H Q I hq;refine wpAny_Tuple_spliced (thn (h pos pins s σ H _ I hq) λus s1 ⟨xs,H1,I1,r,z,q⟩=>⟨by rw [<-r.length];exact z,?_⟩);have hf:H1 s1.heap.objs.size=none:=I1.hok.fresh (Qv _);refine ⟨.ref s1.heap.objs.size,upd H1 s1.heap.objs.size (.tup xs),I1.laid (t':=s1.toks) (λb u e=>Qi _ e) (Qv _) ?_,rfl,q _ hf⟩;exact ⟨z,us,r,⟨_,Qw _ rfl,rfl,_,rfl⟩⟩
theorem pe_lst (h:PA X es t):PE X (.List es pos) (tLst t):=by
 intro pins s σ H Q I hq;refine wpAny_List_spliced (thn (h pos pins s σ H _ I hq) λus s1 ⟨xs,H1,I1,r,z,q⟩=>⟨by rw [<-r.length];exact z,?_⟩);have hf:H1 s1.heap.objs.size=none:=I1.hok.fresh (Qv _);refine ⟨.ref s1.heap.objs.size,upd H1 s1.heap.objs.size (.lst xs),I1.laid (t':=s1.toks) (λb u e=>Qi _ e) (Qv _) ?_,rfl,q _ hf⟩;exact ⟨z,us,0,r,Qw _ rfl⟩
end
abbrev Sp:=List V->Hp->VK->XK->Prop
abbrev CXT:=List Env->Hp->Shared->XK->Value->Shared->Prop
structure Env0 (P:Program) (w:World) (K:Frg) (mg:Str->Option Value) (base:Heap) (A:Around) (outer:List Env) (s:Shared) (H:Hp):Prop where
 frames:A.frames=some outer
 mod:Mod K mg base
 bs:∀b o,base.get? b=some o->s.heap.get? b=some o/\H b=none
 bsz:base.objs.size<=s.heap.objs.size
 funs:s.heap.FunFrames base outer
 frf:∀b∈frs outer,H b=none
 hok:HOk P w H s.heap
 bare:AllBare s.gens
def CE (outer:List Env) (P:Program) (w:World) (H:Hp) (s:Shared) (Q:VK) (u:Value) (s':Shared):Prop:=
 ∃v H',s'.os=s.os/\AllBare s'.gens/\Un (frs outer) [] H H' s.heap s'.heap/\HOk P w H' s'.heap/\ZU v u/\Q v H'
def CR (CX:CXT) (outer:List Env) (P:Program) (w:World) (H:Hp) (s:Shared) (Q:VK) (E:XK) (r:Result) (s':Shared):Prop:=
 match r with
 | .ok (.ret u)=>CE outer P w H s Q u s'
 | .ok _=>False
 | .error e=>CX outer H s E e s'
structure FnOk (P:Program) (w:World) (K:Frg) (mg:Str->Option Value) (base:Heap) (CX:CXT) (k:Nat) (f:Addr) (fd:FuncData) (ps:List Str) (sp:Sp):Prop where
 len:∀vs H Q E,sp vs H Q E->vs.length=ps.length
 run:∀(A:Around) (outer:List Env) (s:Shared) (H:Hp) (args:Args) (us:List Value) (vs:List V) (Q:VK) (E:XK),Room k A->Env0 P w K mg base A outer s H->BindsTo s fd args (ps.zip us)->xx vs us->sp vs H Q E->
  codeAny (model P w) A (.call (.ref f) args) (CR CX outer P w H s Q E) s
theorem FnOk.mono {P:Program} {w:World} {K:Frg} {mg:Str->Option Value} {base:Heap} {CX:CXT} {j k:Nat} {f:Addr} {fd:FuncData} {ps:List Str} {sp:Sp} (F:FnOk P w K mg base CX j f fd ps sp) (h:j<=k):
 FnOk P w K mg base CX k f fd ps sp:=⟨F.len,λA outer s H args us vs Q E hr=>F.run A outer s H args us vs Q E (hr.mono h)⟩
theorem Env0.make {P:Program} {w:World} {K:Frg} {mg:Str->Option Value} {base:Heap} {A:Around} {outer:List Env} {s:Shared} {H:Hp} (e:Env0 P w K mg base A outer s H) (C:Addr) (us:List Value) (kw:List (Str×Value)):
 Env0 P w K mg base (A.under (.builtin "type.__call__" ⟨.ref C::us,kw⟩)) outer s H:=⟨by first|exact e.frames|(simpa [Around.under,Code.envs,Code.isFrame,pushEnvs] using e.frames),e.mod,e.bs,e.bsz,e.funs,e.frf,e.hok,e.bare⟩
section
variable {X:Cx} {pins:List (Addr×Obj)} {σ:St} {H:Hp} {s s':Shared}
theorem Inv.env0 (I:Inv X pins σ H s):Env0 X.prog X.w X.K X.mg X.base X.A X.stack s H:=
 ⟨I.ok.frames,I.ok.mod,I.bs,QU I.ok.bsz I.sz,I.stack,I.stkFree,I.hok,I.bare⟩
theorem Inv.after {Q:VK} {u:Value} (I:Inv X pins σ H s) (h:CE X.stack X.prog X.w H s Q u s'):EP X pins σ Q u s':=by
 obtain ⟨v,H',os,bare,un,hok,r,q⟩:=h;obtain ⟨hh,g,d,t,MS⟩:=s';obtain rfl:MS=s.os:=os;exact ⟨v,H',I.call (h':=hh) (g':=g) (d':=d) (t':=t) (ch:=[]) un hok bare (λb z=>absurd z (by simp)),r,q⟩
end
def ur (sp:Sp) (dvs:List V) (E:XK) (t:TA):TE:=λσ H Q=>t σ H λvs H1=>sp (vs++dvs) H1 Q E
def Hg (C:Addr) (sp:Sp) (dvs:List V) (E:XK) (t:TA):TE:=λσ H Q=>t σ H λvs H1=>∀x dx,H1 x=none->H1 dx=none->dx≠x->
 sp (.ref x::(vs++dvs)) (upd (upd H1 dx (.own x)) x (.ins C dx [])) (λv H2=>v= .non/\Q (.ref x) H2) E
def xi (K:Frg) (fd:FuncData) (ps:List Str) (ds:List Value):Prop:=
 ∀(s:Shared) (us:List Value),K.In s.heap->(us++ds).length=ps.length->BindsTo s fd ⟨us,[]⟩ (ps.zip (us++ds))
theorem xi.all {K:Frg} {fd:FuncData} {ps:List Str} (h:∀us:List Value,us.length=ps.length->bindArgs fd ⟨us,[]⟩=pure (ps.zip us)):xi K fd ps []:=λs us _ hl=>by
 rw [jaX] at hl⊢;exact .of_eq (h us hl)
def Vz (CX:CXT) (X:Cx) (E:XK):Prop:=∀(pins:List (Addr×Obj)) (σ:St) (H:Hp) (s:Shared) (e:Value) (s':Shared),Inv X pins σ H s->CX X.stack H s E e s'->X.xe e s'
section
variable {X:Cx} {CX:CXT} {k:Nat} {f C:Addr} {fd:FuncData} {ps:List Str} {sp:Sp} {dvs:List V} {ds:List Value} {E:XK} {x m:Str} {p pos apos:Pos} {e o:Expr} {es:List Expr} {ta:TE} {t:TA}
theorem sg {pins:List (Addr×Obj)} {σ:St} {H:Hp} {s:Shared} {Q:VK} {us:List Value} {vs:List V} (F:FnOk X.prog X.w X.K X.mg X.base CX k f fd ps sp) (hr:Room k X.A) (hb:xi X.K fd ps ds) (hd:xx dvs ds) (hx:Vz CX X E)
 (I:Inv X pins σ H s) (r:xx vs us) (h:sp (vs++dvs) H Q E):wpAny (model X.prog X.w) X.A (call (.ref f) us) (EP X pins σ Q) X.xe s:=by
 have r2:xx (vs++dvs) (us++ds):=r.append hd;have hl:(us++ds).length=ps.length:=by rw [<-r2.length];exact F.len _ _ _ _ h
 refine wpAny_call (jcb (F.run X.A X.stack s H ⟨us,[]⟩ (us++ds) (vs++dvs) Q E hr I.env0 (hb s us I.kIn hl) r2 h) λr s' hq=>?_)
 cases r with
 |error e=>exact hx pins σ H s e s' I hq
 |ok fl=>
  cases fl with
  |ret u=>exact I.after hq
  |next=>exact False.elim hq
  |brk=>exact False.elim hq
  |cont=>exact False.elim hq
theorem HS (F:FnOk X.prog X.w X.K X.mg X.base CX k f fd ps sp) (hr:Room k X.A) (hg:Gl X x) (hm:X.mg x=some (.ref f)) (hk:PySem.W.keepIn X.K (.ref f)=true) (hb:xi X.K fd ps ds) (hd:xx dvs ds) (hx:Vz CX X E)
 (ha:PA X (e::es) t) (LL:(x==("__debug__":Str))=false:=by decide) (he:starEach (e::es) X.env=(false,eval e X.env)::starEach es X.env:=by rfl) (Ln:(backTo pos (starEach es X.env)).any (·.1)=false:=by rfl):
 PE X (.Call (.Name x p) (e::es) [] pos) (ur sp dvs E t):=by
 intro pins s σ H Q I h;refine jaL (fF I hg hm ?_ LL);refine jbT (h₀:=X.base) I.ok.mod.kin hk (thn (ha pos pins s σ H _ I h) λus s1 ⟨vs,H1,I1,r,q⟩=>⟨I1.kIn,?_⟩) he Ln;exact sg F hr hb hd hx I1 r q
structure Mk (K:Frg) (C f:Addr):Prop where
 makes:PySem.W.makesIn K C=true
 init:PySem.W.findIn K (.ref C) "__init__"=some (some (.ref f))
 fn:PySem.W.isFn K (.ref f)=true
 kp:PySem.W.keepIn K (.ref C)=true
theorem sf {pins:List (Addr×Obj)} {σ:St} {H:Hp} {s:Shared} {Q:VK} {us:List Value} {vs:List V} (M:Mk X.K C f) (F:FnOk X.prog X.w X.K X.mg X.base CX k f fd ps sp) (hr:Room (k+1) X.A) (hb:xi X.K fd ps ds) (hd:xx dvs ds)
 (hx:Vz CX X E) (I:Inv X pins σ H s) (r:xx vs us)
 (h:∀x dx,H x=none->H dx=none->dx≠x->sp (.ref x::(vs++dvs)) (upd (upd H dx (.own x)) x (.ins C dx [])) (λv H2=>v= .non/\Q (.ref x) H2) E):
 wpAny (model X.prog X.w) X.A (call (.ref C) us) (EP X pins σ Q) X.xe s:=by
 have hq:=h (s.heap.objs.size+1) s.heap.objs.size (I.hok.fresh (jao _)) (I.hok.fresh (Qv _)) (QM (To _));have I2:=Inv.made (C:=C) I;have r2:xx (V.ref (s.heap.objs.size+1)::(vs++dvs)) (Value.ref (s.heap.objs.size+1)::(us++ds)):= .cons rfl (r.append hd)
 have hl:(Value.ref (s.heap.objs.size+1)::us++ds).length=ps.length:=by
  have e:=r2.length;rw [F.len _ _ _ _ hq] at e;exact e.symm
 refine wpAny_call (EC (f:=f) I.kIn M.makes M.init (beq_iff_eq.mp M.fn) (jcb (F.run _ X.stack _ _ ⟨Value.ref (s.heap.objs.size+1)::us,[]⟩ (Value.ref (s.heap.objs.size+1)::(us++ds)) _ _ E (hr.make C us [])
  (I2.env0.make C us []) (hb _ (Value.ref (s.heap.objs.size+1)::us) I2.kIn hl) r2 hq) λr s' LA=>?_))
 cases r with
 |error e=>exact hx pins σ _ _ e s' I2 LA
 |ok fl=>
  cases fl with
  |ret u=>
   obtain ⟨v,H',I3,rv,ev,q3⟩:=I2.after LA;subst ev;exact ⟨rv,⟨V.ref (s.heap.objs.size+1),H',I3,rfl,q3⟩⟩
  |next=>exact False.elim LA
  |brk=>exact False.elim LA
  |cont=>exact False.elim LA
theorem pe_make (M:Mk X.K C f) (F:FnOk X.prog X.w X.K X.mg X.base CX k f fd ps sp) (hr:Room (k+1) X.A) (hg:Gl X x) (hm:X.mg x=some (.ref C)) (hb:xi X.K fd ps ds) (hd:xx dvs ds) (hx:Vz CX X E)
 (ha:PA X (e::es) t) (LL:(x==("__debug__":Str))=false:=by decide) (he:starEach (e::es) X.env=(false,eval e X.env)::starEach es X.env:=by rfl) (Ln:(backTo pos (starEach es X.env)).any (·.1)=false:=by rfl):
 PE X (.Call (.Name x p) (e::es) [] pos) (Hg C sp dvs E t):=by
 intro pins s σ H Q I h;refine jaL (fF I hg hm ?_ LL);refine jbT (h₀:=X.base) I.ok.mod.kin M.kp (thn (ha pos pins s σ H _ I h) λus s1 ⟨vs,H1,I1,r,q⟩=>⟨I1.kIn,?_⟩) he Ln;exact sf M F hr hb hd hx I1 r q
theorem pe_make0 (M:Mk X.K C f) (F:FnOk X.prog X.w X.K X.mg X.base CX k f fd ps sp) (hr:Room (k+1) X.A) (hg:Gl X x) (hm:X.mg x=some (.ref C)) (hb:xi X.K fd ps ds) (hd:xx dvs ds) (hx:Vz CX X E)
 (LL:(x==("__debug__":Str))=false:=by decide):PE X (.Call (.Name x p) [] [] pos) (Hg C sp dvs E tNil):=by
 intro pins s σ H Q I h;refine jaL (fF I hg hm ?_ LL);exact PySem.W.callWith_K0 I.kIn M.kp (sf (us:=[]) M F hr hb hd hx I .nil h)
end
section
variable {X:Cx} {CX:CXT} {k:Nat} {f C:Addr} {fd:FuncData} {ps ks:List Str} {sp:Sp} {E:XK} {x m:Str} {p pos apos kpos:Pos} {e o:Expr} {es:List Expr} {kws:List Keyword} {te ta:TE} {t tk:TA} {nm:Option Str}
variable {g:List Value->List Value->List Value} {gV:List V->List V->List V}
end
structure FnScope (N P:List Str) (sc:Scope):Prop where
 kind:sc.kind= .function
 co:sc.isCoroutine=false
 gen:sc.isGenerator=false
 nd:N.Nodup
 pre:N.take P.length=P
 par:∀x∈P,sc.names.lookup x=some .local\/sc.names.lookup x=some .cell
 nofree:∀y∈sc.names,y.2≠ .free
theorem oA {kindOf:Str->Option NameKind} {x:Str}:∀{binds:List (Str×Value)} {m:Str->Option Value},(∀v,(x,v)∉binds)->bindL kindOf binds m x=m x
 |[],_,_=>rfl
 |(n,v)::r,m,h=>by
  unfold bindL;rw [oA λw hw=>h w (Qf _ hw)]
  split
  ·have:x≠n:=by rintro rfl;exact h v Qe
   simp [this]
  ·rfl
theorem oC {kindOf:Str->Option NameKind} {x:Str}:∀{binds:List (Str×Value)} {m:Str->Option Value},(∀v,(x,v)∉binds)->bindC kindOf binds m x=m x
 |[],_,_=>rfl
 |(n,v)::r,m,h=>by
  unfold bindC;rw [oC λw hw=>h w (Qf _ hw)]
  split
  ·rfl
  ·have:x≠n:=by rintro rfl;exact h v Qe
   simp [this]
theorem oB {kindOf:Str->Option NameKind} {x:Str} {v:Value}:∀{P:List Str} {vs:List Value} {i:Nat} {m:Str->Option Value},P.Nodup->P[i]? =some x->vs[i]? =some v->kindOf x=some .local->
 bindL kindOf (P.zip vs) m x=some v
 |[],_,_,_,_,h,_,_=>by simp at h
 |_::_,[],_,_,_,_,h,_=>by simp at h
 |p::P,w::vs,0,m,nd,h1,h2,hk=>by
  simp at h1 h2;subst h1;subst h2;show bindL kindOf ((p,w)::P.zip vs) m p=_;unfold bindL;rw [oA λv hv=>(TX.mp nd).1 (jbv hv).1,QH hk]
  simp
 |p::P,w::vs,i+1,m,nd,h1,h2,hk=>by
  show bindL kindOf ((p,w)::P.zip vs) m x=_;unfold bindL;exact oB (i:=i) (TX.mp nd).2 (by simpa using h1) (by simpa using h2) hk
theorem oE {kindOf:Str->Option NameKind} {x:Str} {v:Value}:∀{P:List Str} {vs:List Value} {i:Nat} {m:Str->Option Value},P.Nodup->P[i]? =some x->vs[i]? =some v->kindOf x≠some .local->
 bindC kindOf (P.zip vs) m x=some v
 |[],_,_,_,_,h,_,_=>by simp at h
 |_::_,[],_,_,_,_,h,_=>by simp at h
 |p::P,w::vs,0,m,nd,h1,h2,hk=>by
  simp at h1 h2;subst h1;subst h2;show bindC kindOf ((p,w)::P.zip vs) m p=_;unfold bindC;rw [oC λv hv=>(TX.mp nd).1 (jbv hv).1,QO hk]
  simp
 |p::P,w::vs,i+1,m,nd,h1,h2,hk=>by
  show bindC kindOf ((p,w)::P.zip vs) m x=_;unfold bindC;exact oE (i:=i) (TX.mp nd).2 (by simpa using h1) (by simpa using h2) hk
def jN (N:List Str) (vs:List V):St:=vs.map some++List.replicate (N.length - vs.length) none
def GL (CX:CXT) (P:Program) (w:World) (K:Frg) (mg:Str->Option Value) (base:Heap) (N:List Str) (qual:Str) (scope:Scope) (f:Addr) (cd:Value) (A:Around) (outer:List Env) (s:Shared) (H:Hp) (E:XK):Cx where
 prog:=P
 w:=w
 K:=K
 mg:=mg
 base:=base
 A:=A.deeper (envOfC qual scope s.heap.objs.size f cd)
 N:=N
 s₀:=s
 H₀:=H
 env:=envOfC qual scope s.heap.objs.size f cd
 outer:=outer
 stack:=envOfC qual scope s.heap.objs.size f cd::outer
 ex:=[]
 calm:=true
 fn:=λ_=>true
 pn:=[]
 xe:=λe s'=>wpAny (model P w) (A.deeper (envOfC qual scope s.heap.objs.size f cd)) (leaving (envOfC qual scope s.heap.objs.size f cd) e) (λ_ NM=>CX outer H s E e NM) (λe' NM=>CX outer H s E e' NM) s'
theorem tI {sc:Scope} {n:Nat} {x:Str} (h:sc.names.lookup x=some .cell):∃c,(cellsFrom n sc.names []).lookup x=some c:=by
 have q:=PySem.W.cellsFrom_some sc.names n [] (.inl h);exact jaM.mp q
theorem BW {CX:CXT} {P:Program} {w:World} {K:Frg} {mg:Str->Option Value} {base:Heap} {N ps:List Str} {qual:Str} {scope:Scope} {f:Addr} {cd:Value} {A:Around} {outer:List Env} {s s1:Shared} {H:Hp} {E:XK} {us:List Value} {vs:List V}
 (S:FnScope N ps scope) (hd:A.handled=none) (e0:Env0 P w K mg base A outer s H) (hl:vs.length=ps.length) (r:xx vs us)
 (x:InCallC s s.heap.objs.size (bindL (envOfC qual scope s.heap.objs.size f cd).kindOf (ps.zip us) λ_=>none) (cellsFrom (s.heap.objs.size+1) scope.names []) (bindC (envOfC qual scope s.heap.objs.size f cd).kindOf (ps.zip us) λ_=>none) s1):
 Inv (GL CX P w K mg base N qual scope f cd A outer s H E) [] (jN N vs) H s1:=by
 have Ln:ps.length<=N.length:=by have:=congrArg List.length S.pre;rw [TB] at this;omega
 obtain ⟨h1,tk,rfl,hk⟩:=x.done;have noA:∀b:Addr,b∉(GL CX P w K mg base N qual scope f cd A outer s H E).ex:=λb z=>absurd (show b∈([]:List Addr) from z) (by simp)
 refine ⟨⟨e0.mod,S.kind,rfl,rfl,Qv _,λy z c h1 h2=>?_,λy hy=>?_,λy c _ h=>?_,λ_=>hd,Around.frames_deeper e0.frames, .inr ⟨rfl,rfl⟩,λb z=>absurd z (noA b),e0.bs,e0.bsz,λb _ _=>noA b,λb z=>absurd z (noA b),e0.funs,e0.frf⟩,
  rfl,e0.bare,Un.kept hk,⟨_,x.toInCall.ns,λi y v h1 h2 h3=>?_⟩,λy c h=>⟨_,x.cell y c h⟩,e0.hok.fresh (Qv _),λy c h=>?_,λp hp=>absurd (show p∈([]:List (Addr×Obj)) from hp) (by simp),e0.hok.kept hk,?_⟩
 ·exact name_of_addr x.apart (jaG h1) (jaG h2)
 ·have hy:scope.names.lookup y=some .cell\/scope.names.lookup y=some .free:=hy
  rcases hy with hy|hy
  ·exact tI hy
  ·exact absurd rfl (S.nofree _ (jaG hy))
 ·exact jbM (x.above y c (jaG h))
 ·have hi:i<vs.length:=by
   unfold jN at h2
   by_cases hi:i<vs.length
   ·exact hi
   ·rw [Tz (by simpa using hi)] at h2;rw [QZ] at h2
    split at h2<;>cases h2
  have ha:vs[i]? =some v:=by
   unfold jN at h2;rw [jau (by simpa using hi),Qh] at h2
   cases e:vs[i]? with
   |none=>rw [e] at h2;cases h2
   |some a=>rw [e] at h2;cases h2;rfl
  obtain ⟨u,hu,rv⟩:=r.get ha
  have hp:ps[i]? =some y:=by
   rw [<-S.pre,List.getElem?_take_of_lt (by omega)];exact h1
  have ndP:ps.Nodup:=by rw [<-S.pre];exact S.nd.sublist (List.take_sublist _ _)
  refine ⟨u,rv,?_⟩
  rcases S.par y (Qc hp) with k|k
  ·exact .inl ⟨k,oB ndP hp hu k⟩
  ·obtain ⟨c,e⟩:=tI (n:=s.heap.objs.size+1) k;refine .inr ⟨.inl k,c,e,?_⟩;have q:=x.cell y c e;rw [oE ndP hp hu (by show scope.names.lookup y≠_;rw [k];decide)] at q;exact q
 ·exact e0.hok.fresh (jbM (x.above y c (jaG h)))
 ·unfold jN;show _=N.length;rw [Qz,Qa,QD];omega
theorem fn_of {CX:CXT} {P:Program} {w:World} {K:Frg} {mg:Str->Option Value} {base:Heap} {k:Nat} {f:Addr} {name qual:Str} {params:Arguments} {body:List Stmt} {scope:Scope} {dV kV doc pm Kt ct oc:Value} {an od:Option Addr}
 {osl:Array (Option Value)} {N ps:List Str} {sp:Sp} (lk:K.lookup f=some ⟨oc,od, .func (PySem.W.fnOf name qual params body scope dV kV doc pm an Kt ct),osl⟩) (Ku:PySem.W.codeIn K Kt qual=true) (S:FnScope N ps scope)
 (len:∀vs H Q E,sp vs H Q E->vs.length=ps.length)
 (Lr:∀(A:Around) (outer:List Env) (s:Shared) (H:Hp) (vs:List V) (Q:VK) (E:XK),Room k (A.deeper (envOfC qual scope s.heap.objs.size f Kt))->sp vs H Q E->
  ∃t,PSs (GL CX P w K mg base N qual scope f Kt A outer s H E) body t/\t {nx:=λ_ H'=>Q .non H',rt:=Q} (jN N vs) H):
 FnOk P w K mg base CX (k+1) f (PySem.W.fnOf name qual params body scope dV kV doc pm an Kt ct) ps sp:=by
 refine ⟨len,λA outer s H args us vs Q E hr e0 hb r ME=>?_⟩;have hl:=len _ _ _ _ ME;have KX:K.In s.heap:=e0.mod.kin.keeps λb o e=>(e0.bs b o e).1;have lim:s.heap.NoLimit:=e0.mod.nolimit.keeps λb o e=>(e0.bs b o e).1
 have Ob:∀y∈ps.zip us,scope.names.lookup y.1=some .local\/(scope.names.lookup y.1=some .cell/\((cellsFrom (s.heap.objs.size+1) scope.names []).lookup y.1).isSome=true):=λ⟨n,v⟩ hy=>by
  rcases S.par n (jbv hy).1 with q|q
  ·exact .inl q
  ·exact .inr ⟨q,PySem.W.cellsFrom_some _ _ _ (.inl q)⟩
 refine codeAny_call_function hr.depth (KX _ _ lk) rfl S.co S.gen rfl (PySem.W.codeRec_of KX Ku) (hb _ _ _ _ ?_);refine wpAny_newFunctionEnv_cells S.kind Ob λenv he s1 x=>?_;subst he;refine ⟨lim.keeps x.toInCall.keep,codeAny_func ?_⟩;obtain ⟨t,ht,hq⟩:=Lr A outer s H vs Q E (hr.deeper _) ME;have I:Inv (GL CX P w K mg base N qual scope f Kt A outer s H E) [] (jN N vs) H s1:=BW S hr.hd e0 hl r x;refine wpAny_mono (ht [] s1 (jN N vs) H _ I hq) (λfl s' hs=>?_) λe s' hs=>hs
 have fin:∀{σ':St} {H':Hp} {v:V} {u:Value},Inv (GL CX P w K mg base N qual scope f Kt A outer s H E) [] σ' H' s'->ZU v u->Q v H'->CE outer P w H s Q u s':=
  λ{σ' H' v u} J rv q=>⟨v,H',J.os,J.bare,J.base,J.hok,rv,q⟩
 cases fl with
 |ret u=>
  obtain ⟨v,σ',H',J,rv,q⟩:=hs;exact fin J rv q
 |next=>
  obtain ⟨σ',H',J,q⟩:=hs;exact fin (v:=V.non) (u:=Value.none) J rfl q
 |brk=>
  obtain ⟨_,_,_,q⟩:=hs;exact False.elim q
 |cont=>
  obtain ⟨_,_,_,q⟩:=hs;exact False.elim q
end L2
namespace L2
open PySem PySem.Spec PyProof.Rows
section
variable {X:Cx} {x:Str} {p pos:Pos} {e:Expr} {es:List Expr} {t:TA} {id T:String} {r:List V->Hp->VK->Prop}
def tCB (r:List V->Hp->VK->Prop) (t:TA):TE:=λσ H Q=>t σ H λvs H1=>r vs H1 Q
theorem cY (hc:XY X (.builtin id) r) (hg:Gl X x) (hm:X.mg x=none) (hv:bootBuiltins x=some (.builtin id)) (ha:PA X (e::es) t) (hn:x≠"__name__":=by decide) (LL:(x==("__debug__":Str))=false:=by decide)
 (he:starEach (e::es) X.env=(false,eval e X.env)::starEach es X.env:=by rfl) (Ln:(backTo pos (starEach es X.env)).any (·.1)=false:=by rfl):PE X (.Call (.Name x p) (e::es) [] pos) (tCB r t):=by
 intro pins s σ H Q I h;refine jaL (Vx I hg hm hv ?_ hn LL);exact PyProof.Rows.callWith_builtin1 (thn (ha pos pins s σ H _ I h) λus s1 ⟨vs,H1,I1,r1,q1⟩=>hc pins s1 σ H1 vs us Q I1 r1 q1) he Ln
theorem pe_callTy (hc:XY X (.type T) r) (hg:Gl X x) (hm:X.mg x=none) (hv:bootBuiltins x=some (.type T)) (ha:PA X (e::es) t) (hn:x≠"__name__":=by decide) (LL:(x==("__debug__":Str))=false:=by decide)
 (he:starEach (e::es) X.env=(false,eval e X.env)::starEach es X.env:=by rfl) (Ln:(backTo pos (starEach es X.env)).any (·.1)=false:=by rfl):PE X (.Call (.Name x p) (e::es) [] pos) (tCB r t):=by
 intro pins s σ H Q I h;refine jaL (Vx I hg hm hv ?_ hn LL);exact TV (thn (ha pos pins s σ H _ I h) λus s1 ⟨vs,H1,I1,r1,q1⟩=>hc pins s1 σ H1 vs us Q I1 r1 q1) he Ln
end
end L2
namespace HT
open PySem PyProof.Rows
section
open PySem.SeqAt
open PySem.AutoSeq1 (wpAny_loadPart')
open PySem.MeetsSeq PySem.MeetsSeq2 PySem.MeetsSeq3
end
section
variable {prog:Program} {w:World} {A:Around} {E:Value->Shared->Prop} {s:Shared}
def sIx (n d:Nat):Option Int->Nat
 |none=>d
 |some v=>if v<0 then (v+(n:Int)).toNat else min v.toNat n
theorem sIx_none (n d:Nat):sIx n d none=d:=rfl
theorem sIx_nat (n d k:Nat):sIx n d (some (k:Int))=min k n:=by
 show (if (k:Int)<0 then ((k:Int)+(n:Int)).toNat else min (k:Int).toNat n)=min k n;rw [QO (by omega),Tg]
end
end HT
namespace L2
open PySem PySem.Spec PyProof.Rows
abbrev TO:=St->Hp->(Option Int->Hp->Prop)->Prop
def PO (X:Cx) (e:Option Expr) (t:TO):Prop:=
 ∀(pins:List (Addr×Obj)) (s:Shared) (σ:St) (H:Hp) (Q:Option Int->Hp->Prop),Inv X pins σ H s->t σ H Q->
  wpAny (model X.prog X.w) X.A (evalPart e X.env) (λu s'=>∃o H',Inv X pins σ H' s'/\IsPart u o/\Q o H') X.xe s
def wM:TO:=λ_ H Q=>Q none H
def tPart (t:TE):TO:=λσ H Q=>t σ H λx H1=>∃i,x= .int i/\Q (some i) H1
theorem Xm {ns:List Int}:∀{us:List Value},xx (ns.map V.int) us->IntsAre us ns:=by
 induction ns with
 |nil=>intro us r;rw [jaq] at r;cases r;exact .nil
 |cons n ns ih=>
  intro us r;rw [Qo] at r
  cases r with
  |cons r1 r2=>
   obtain ⟨t,e⟩:=r1;subst e;exact .cons n t (ih r2)
section
variable {X:Cx} {e:Expr} {te:TE} {lo hi:Option Expr} {tl th:TO} {pos p2:Pos}
theorem po_none:PO X none wM:=by
 intro pins s σ H Q I h;rw [evalPart_none];exact Qp ⟨none,H,I, .none,h⟩
theorem po_some (h:PE X e te):PO X (some e) (tPart te):=by
 intro pins s σ H Q I hw;rw [evalPart_some];refine thn (h pins s σ H _ I hw) λu s1 hh=>?_;obtain ⟨x,H1,I1,r1,q1⟩:=hh;obtain ⟨i,rfl,q⟩:=q1;obtain ⟨t,rfl⟩:=r1;exact ⟨some i,H1,I1, .int i t,q⟩
def SlR (X:Cx) (r:V->Option Int->Option Int->Hp->VK->Prop):Prop:=
 ∀(pins:List (Addr×Obj)) (s:Shared) (σ:St) (H:Hp) (x:V) (v vl vu:Value) (lo hi:Option Int) (sl:Addr) (Q:VK),Inv X pins σ H s->ZU x v->s.heap.IsSliceOf sl vl vu .none->IsPart vl lo->IsPart vu hi->r x lo hi H Q->
  ∃T id,typeLookup (.type T) "__getitem__"=pure (some (.builtin id))/\s.TypeIs v T/\wpAny (model X.prog X.w) X.A (getItem v (.ref sl)) (EP X pins σ Q) X.xe s
def tSl (r:V->Option Int->Option Int->Hp->VK->Prop) (te:TE) (tl th:TO):TE:=λσ H Q=>te σ H λx H1=>tl σ H1 λl H2=>th σ H2 λu H3=>r x l u H3 Q
theorem pe_slice {r:V->Option Int->Option Int->Hp->VK->Prop} (hr:SlR X r) (he:PE X e te) (hl:PO X lo tl) (hu:PO X hi th):PE X (.Subscript e (.Slice lo hi none p2) pos) (tSl r te tl th):=by
 intro pins s σ H Q I h;refine Subscript_ (thn (he pins s σ H _ I h) λv s1 hh=>?_);obtain ⟨x,H1,I1,r1,q1⟩:=hh;refine wpAny_Slice (thn (hl pins s1 σ H1 _ I1 q1) λvl s2 ⟨l,H2,I2,pl,q2⟩=>thn (hu pins s2 σ H2 _ I2 q2) λvu s3 hh=>?_);obtain ⟨u,H3,I3,pu,q3⟩:=hh;rw [evalPart_none];refine Qp ?_;have I4:Inv X pins σ H3 {s3 with heap:=s3.heap.push {cls:= .type "slice",data:= .fields #[vl,vu, .none]}}:=I3.kept (t':=s3.toks) λb ob q=>Qi _ q;obtain ⟨T,id,hT,ht,hg⟩:=hr pins {s3 with heap:=s3.heap.push {cls:= .type "slice",data:= .fields #[vl,vu, .none]}} σ H3 x v vl vu l u s3.heap.objs.size Q I4 r1 (Heap.IsSliceOf.new ..) pl pu q3;show wpAny (model X.prog X.w) X.A (subscriptTail e (.Slice lo hi none p2) v (.ref s3.heap.objs.size)) (EP X pins σ Q) X.xe {s3 with heap:=s3.heap.push {cls:= .type "slice",data:= .fields #[vl,vu, .none]}};exact tail_any (ops:=[.ref s3.heap.objs.size,v]) ht hT hg (by with_unfolding_all rfl)
def GN (xs:List V) (lo hi:Option Int):List V:=(xs.drop (HT.sIx xs.length 0 lo)).take (HT.sIx xs.length xs.length hi - HT.sIx xs.length 0 lo)
theorem qU (xs:List V) (lo hi:Option Int):(GN xs lo hi).length<=xs.length:=by
 unfold GN;rw [TB,Ts];omega
end
end L2
namespace L2
open PySem PySem.Spec PyProof.Rows
def ixN (n:Nat) (i:Int):Option Nat:=if 0<=i then (if i<n then some i.toNat else none) else if -(n:Int)<=i then some (i+n).toNat else none
def atI {α:Type} (xs:List α) (i:Int):Option α:=(ixN xs.length i).bind λj=>xs[j]?
theorem BS {n:Nat} {i:Int} {j:Nat} (h:ixN n i=some j):seqIndex? i n=some j/\j<n/\ -(n:Int)<=i/\i<n:=by
 unfold ixN at h
 by_cases h0:0<=i
 ·rw [QH h0] at h
  by_cases h1:i<n
  ·rw [QH h1] at h;have e:i.toNat=j:=QL h;exact ⟨by rw [seqIndex_of h0 h1,e],by omega,by omega,h1⟩
  ·rw [QO h1] at h;cases h
 ·rw [QO h0] at h
  by_cases h1: -(n:Int)<=i
  ·rw [QH h1] at h;have e:(i+n).toNat=j:=QL h;exact ⟨by rw [seqIndex_neg (by omega) h1,e],by omega,h1,by omega⟩
  ·rw [QO h1] at h;cases h
theorem rA {α:Type} {xs:List α} {i:Int} {v:α} (h:atI xs i=some v):∃j,seqIndex? i xs.length=some j/\xs[j]? =some v/\j<xs.length/\ -(xs.length:Int)<=i/\i<xs.length:=by
 unfold atI at h
 cases e:ixN xs.length i with
 |none=>rw [e] at h;cases h
 |some j=>
  rw [e] at h;obtain ⟨h1,h2,h3,h4⟩:=BS e;exact ⟨j,h1,h,h2,h3,h4⟩
theorem yi {α:Type} {xs:List α} {j:Nat} {v:α} (h:xs[j]? =some v):atI xs (j:Int)=some v:=by
 have hj:j<xs.length:=(Qd.mp h).1
 have e:ixN xs.length (j:Int)=some j:=by
  unfold ixN;rw [QH (by omega),QH (by omega)];simp
 unfold atI;rw [e];exact h
theorem tL {α:Type} (xs:List α) (v:α):atI (xs++[v]) (-1)=some v:=by
 have hl:(xs++[v]).length=xs.length+1:=by simp
 have e:ixN (xs++[v]).length (-1)=some xs.length:=by
  unfold ixN;rw [hl,QO (by decide),QH (by omega)]
  congr 1
  omega
 unfold atI;rw [e];show (xs++[v])[xs.length]? =some v
 simp
def IZ (b:Expr):Prop:=∀o i,subscripted b false o i=operate [o,i] (getItem o i)
def IxR (X:Cx) (r:R2):Prop:=
 ∀(value slice:Expr) (pins:List (Addr×Obj)) (s:Shared) (σ:St) (H:Hp) (x y:V) (v u:Value) (Q:VK),Inv X pins σ H s->ZU x v->ZU y u->r x y H Q->
  subscripted slice false v u=operate [v,u] (getItem v u)->wpAny (model X.prog X.w) X.A (subscriptTail value slice v u) (EP X pins σ Q) X.xe s
def MtR (X:Cx) (id:String) (r:V->List V->Hp->VK->Prop):Prop:=
 ∀(pins:List (Addr×Obj)) (s:Shared) (σ:St) (H:Hp) (x:V) (xs:List V) (v:Value) (us:List Value) (Q:VK),Inv X pins σ H s->ZU x v->xx xs us->r x xs H Q->
  wpAny (model X.prog X.w) X.A (call (.builtin id) (v::us)) (EP X pins σ Q) X.xe s
section
variable {X:Cx} {a b:Expr} {ta tb:TE} {pos:Pos}
theorem IxR.or {r r':R2} (h:IxR X r) (h':IxR X r'):IxR X (λx y H Q=>r x y H Q\/r' x y H Q):=by
 intro value slice pins s σ H x y v u Q I rx ry q hs
 rcases q with q|q
 ·exact h value slice pins s σ H x y v u Q I rx ry q hs
 ·exact h' value slice pins s σ H x y v u Q I rx ry q hs
theorem pe_ix {r:R2} (hr:IxR X r) (ha:PE X a ta) (hb:PE X b tb) (hs:IZ b):PE X (.Subscript a b pos) (tOp r ta tb):=by
 intro pins s σ H Q I h;exact Subscript_ (binT ha hb I h λv u s2 x y H2 I2 rx ry q=>hr a b pins s2 σ H2 x y v u Q I2 rx ry q (hs _ _))
def rIxL (K:Frg):R2:=λx y H Q=>∃p xs i v,x= .ref p/\y= .int i/\SqL K H p xs/\atI xs i=some v/\Q v H
def rIxT (K:Frg):R2:=λx y H Q=>∃p xs i v,x= .ref p/\y= .int i/\SqT K H p xs/\atI xs i=some v/\Q v H
def rIxS:R2:=λx y H Q=>∃z i c,x= .str z/\y= .int i/\z.length<=sizeLine/\atI z.cps.toList i=some c/\Q (.str ⟨#[c]⟩) H
theorem Iz:IxR X (rIxL X.K):=by
 intro value slice pins s σ H x y v u Q I rx ry h hs;obtain ⟨p,xs,i,z,rfl,rfl,hq,he,q⟩:=h;cases rx;obtain ⟨t,rfl⟩:=ry;obtain ⟨its,r,pl,hz⟩:=I.list hq;obtain ⟨j,h1,h2,h3,h4,h5⟩:=rA he;obtain ⟨w,ew,LP⟩:=r.get h2;have hl:=r.length;have hn:=nV;have fin:EP X pins σ Q w s:=⟨z,H,I,LP,q⟩
 by_cases h0:0<=i
 ·have hj:i.toNat=j:=by
   rw [seqIndex_of h0 h5] at h1;exact QL h1
  exact item_listR pl.isList h0 (by omega) (by rw [hj];simpa using ew) fin hs
 ·have hj:(i+(its.toArray.size:Int)).toNat=j:=by
   rw [seqIndex_neg (by omega) h4] at h1;rw [QG,<-hl];exact QL h1
  exact subscriptTail_builtinR (x:=w) pl.isList.typeIs slot_list_getitem.lookup
   (wpAny_getItem_list_neg (Q:=λr s'=>r=w/\EP X pins σ Q r s') pl.isList (by omega) (by rw [QG]<;>omega) (by omega) (by rw [hj];simpa using ew) ⟨rfl,fin⟩) hs
theorem ix_tup:IxR X (rIxT X.K):=by
 intro value slice pins s σ H x y v u Q I rx ry h hs;obtain ⟨p,xs,i,z,rfl,rfl,hq,he,q⟩:=h;cases rx;obtain ⟨t,rfl⟩:=ry;obtain ⟨its,r,pl,hz⟩:=I.tuple hq;obtain ⟨j,h1,h2,h3,h4,h5⟩:=rA he;obtain ⟨w,ew,LP⟩:=r.get h2;have hl:=r.length;have hn:=nV;have fin:EP X pins σ Q w s:=⟨z,H,I,LP,q⟩
 exact subscriptTail_builtinR (x:=w) pl.typeIs slot_tuple_getitem.lookup
  (getItem_tuple (j:=j) (Q:=λr s'=>r=w/\EP X pins σ Q r s') pl (by omega) (by omega) (by rw [QG,<-hl];exact h1) (by simpa using ew) ⟨rfl,fin⟩) hs
theorem ix_str:IxR X rIxS:=by
 intro value slice pins s σ H x y v u Q I rx ry h hs;obtain ⟨z,i,c,rfl,rfl,hz,he,q⟩:=h;obtain ⟨t,rfl⟩:=rx;obtain ⟨t',rfl⟩:=ry;obtain ⟨j,h1,h2,h3,h4,h5⟩:=rA he;have hl:z.cps.toList.length=z.length:=by simp [Str.length]
 rw [hl] at h1 h4 h5;have hn:=nV
 exact tail_any (typeIs_str s z t) slot_str_getitem.lookup (getItem_str (c:=c) (by
  have e1:decide (i< -(2 ^ 63:Int))=false:=Th (by omega);have e2:decide (i≥2 ^ 63)=false:=Th (by omega)
  rw [e1,e2,Bool.or_false]) (by rw [h1];simpa using h2) ⟨.str ⟨#[c]⟩,H,I.tok _,⟨_,rfl⟩,q⟩) hs
def rIx (K:Frg):R2:=λx y H Q=>rIxL K x y H Q\/rIxT K x y H Q\/rIxS x y H Q
theorem ix_seq:IxR X (rIx X.K):=Iz.or (ix_tup.or ix_str)
theorem vh (its:List Value) (n j:Nat) (u:Value):Obj.mapSeq (·.setIfInBounds j u) {cls:= .type "list",data:= .seq its.toArray n}={cls:= .type "list",data:= .seq (its.set j u).toArray n}:=by
 simp [Obj.mapSeq]
theorem Inv.lst {pins:List (Addr×Obj)} {σ:St} {H:Hp} {s:Shared} {p:Addr} {xs:List V} (I:Inv X pins σ H s) (h:H p=some (.lst xs)):
 ∃(its:List Value) (n:Nat),xx xs its/\s.heap.get? p=some {cls:= .type "list",data:= .seq its.toArray n}/\xs.length<=sizeLine:=by
 obtain ⟨z,its,n,r,e⟩:=I.hok p _ h;exact ⟨its,n,r,e,z⟩
theorem Inv.lstUpd {pins:List (Addr×Obj)} {σ:St} {H:Hp} {s:Shared} {p:Addr} {xs ys:List V} {its its':List Value} {n n':Nat} {f:Obj->Obj} (I:Inv X pins σ H s) (h:H p=some (.lst xs))
 (ho:s.heap.get? p=some {cls:= .type "list",data:= .seq its.toArray n}) (hf:f {cls:= .type "list",data:= .seq its.toArray n}={cls:= .type "list",data:= .seq its'.toArray n'}) (r:xx ys its') (hz:ys.length<=sizeLine) (t:Nat):
 Inv X pins σ (upd H p (.lst ys)) {s with heap:=s.heap.update p f,toks:=t}:=by
 have e:(s.heap.update p f).get? p=some {cls:= .type "list",data:= .seq its'.toArray n'}:=by
  rw [jaH f ho (by rw [hf]<;>rfl),hf]
 refine I.write (x:=p) (e:=p) (by rw [h];trivial) (.inl rfl) (λb u hb q=>(jbq _ _ (Ne.symm hb)).trans q) ⟨_,e⟩ ?_;exact ⟨hz,its',n',r,e⟩
def rSetL:V->V->V->Hp->(Hp->Prop)->Prop:=λo i v H Q=>∃p xs k j,o= .ref p/\i= .int k/\H p=some (.lst xs)/\ixN xs.length k=some j/\Q (upd H p (.lst (xs.set j v)))
theorem set_list:PSet X rSetL:=by
 intro pins s σ H o i v ov iv u Q I ro ri rv h;obtain ⟨p,xs,k,j,rfl,rfl,hp,hj,q⟩:=h;cases ro;obtain ⟨t,rfl⟩:=ri;obtain ⟨its,n,r,ho,hz⟩:=I.lst hp;obtain ⟨h1,h2,h3,h4⟩:=BS hj;have hl:=r.length;have hn:=nV
 have I':Inv X pins σ (upd H p (.lst (xs.set j v))) {s with heap:=s.heap.update p (Obj.mapSeq (·.setIfInBounds j u))}:=
  I.lstUpd hp ho (vh its n j u) (r.set rv j) (by rw [jbU];exact hz) s.toks
 by_cases h0:0<=k
 ·have hk:k.toNat=j:=by
   rw [seqIndex_of h0 h4] at h1;exact QL h1
  exact PySem.W.ki_setAt ho h0 (by omega) (by rw [QG,<-hl];exact h4) (by rw [hk];exact ⟨_,I',q⟩)
 ·have hk:(k+(its.toArray.size:Int)).toNat=j:=by
   rw [seqIndex_neg (by omega) h3] at h1;rw [QG,<-hl];exact QL h1
  exact PySem.W.ki_setBack ho (by omega) (by rw [QG,<-hl];exact h3) (by omega) (by rw [hk];exact ⟨_,I',q⟩)
theorem mK (lo hi:Option Int) (n:Nat):(sliceBounds lo hi none n).1=((HT.sIx n 0 lo:Nat):Int)/\(sliceBounds lo hi none n).2.1=((HT.sIx n n hi:Nat):Int)/\(sliceBounds lo hi none n).2.2=1:=by
 refine ⟨?_,?_,rfl⟩
 ·cases lo with
  |none=>simp [sliceBounds,HT.sIx]
  |some i=>
   simp only [sliceBounds,HT.sIx,Option.getD_none,show (1:Int)>0 by decide,if_true]
   by_cases h:i<0
   ·simp only [h,if_true]<;>omega
   ·simp only [h,if_false]<;>omega
 ·cases hi with
  |none=>simp [sliceBounds,HT.sIx]
  |some i=>
   simp only [sliceBounds,HT.sIx,Option.getD_none,show (1:Int)>0 by decide,if_true]
   by_cases h:i<0
   ·simp only [h,if_true]<;>omega
   ·simp only [h,if_false]<;>omega
theorem jX (its:List Value) (lo hi:Option Int):slicePick its.toArray lo hi none=((its.drop (HT.sIx its.length 0 lo)).take (HT.sIx its.length its.length hi - HT.sIx its.length 0 lo)).toArray:=by
 obtain ⟨h1,h2,h3⟩:=mK lo hi its.toArray.size;unfold slicePick;rw [h1,h2,h3];simp only [sliceRange_one,pick_run,QG]<;>rfl
def rSlL (K:Frg):V->Option Int->Option Int->Hp->VK->Prop:=λx lo hi H Q=>∃a xs,x= .ref a/\SqL K H a xs/\∀p,H p=none->Q (.ref p) (upd H p (.lst (GN xs lo hi)))
theorem sl_list:SlR X (rSlL X.K):=by
 intro pins s σ H x v vl vu lo hi sl Q I rx hs pl pu h;obtain ⟨a,xs,rfl,hx,q⟩:=h;cases rx;obtain ⟨its,r,ht,hz⟩:=I.list hx;have hlen:=r.length;refine ⟨"list",_,slot_list_getitem.lookup,ht.isList.typeIs,?_⟩;refine wpAny_getItem_list_slice ht.isList hs pl pu .none (by simp) ?_ (by rw [QG]<;>omega);rw [jX,<-hlen];refine ⟨.ref s.heap.objs.size,_,I.laid (t':=s.toks) (o:= .lst (GN xs lo hi)) (λb ob q=>Qi _ q) (Qv _) ?_,rfl,q _ (I.hok.fresh (Qv _))⟩;exact ⟨QU (qU xs lo hi) hz,_,0,(r.drop (HT.sIx xs.length 0 lo)).take (HT.sIx xs.length xs.length hi - HT.sIx xs.length 0 lo),Qw _ rfl⟩
theorem ox:XY X (.builtin "len") (λxs H Q=>∃p ys,xs=[.ref p]/\(SqL X.K H p ys\/SqT X.K H p ys)/\Q (.int ys.length) H):=by
 intro pins s σ H xs us Q I r h;obtain ⟨p,ys,rfl,hq,q⟩:=h;obtain ⟨u,rfl,rx⟩:=cy r;cases rx;have hn:=nV
 rcases hq with hq|hq
 ·obtain ⟨its,r',pl,hz⟩:=I.list hq;have hlen:=r'.length;exact Calls.call_len_list pl.isList (by simp only [QG]<;>omega) ⟨.int ys.length,H,I.tok _,⟨s.toks+1,by rw [QG,hlen]⟩,q⟩
 ·obtain ⟨its,r',pl,hz⟩:=I.tuple hq;have hlen:=r'.length;exact len_tuple pl (by simp only [QG]<;>omega) ⟨.int ys.length,H,I.tok _,⟨s.toks+1,by rw [QG,hlen]⟩,q⟩
theorem ow:XY X (.type "list") (λxs H Q=>∃p ys,xs=[.ref p]/\(SqL X.K H p ys\/SqT X.K H p ys)/\∀l,H l=none->Q (.ref l) (upd H l (.lst ys))):=by
 intro pins s σ H xs us Q I r h;obtain ⟨p,ys,rfl,hq,q⟩:=h;obtain ⟨u,rfl,rx⟩:=cy r;cases rx
 have fin:∀(its:List Value),xx ys its->ys.length<=sizeLine->∀(h':Heap) (c':Nat),(∀b o',s.heap.get? b=some o'->h'.get? b=some o')->
  h'.get? s.heap.objs.size=some {cls:= .type "list",dict:=none,data:= .seq its.toArray c',slots:=#[]}->EP X pins σ Q (.ref s.heap.objs.size) {s with heap:=h'}:=λits r' hz h' c' kp e=>
  ⟨.ref s.heap.objs.size,_,I.laid (t':=s.toks) kp (Qv _) (show Yd X.prog X.w _ h' _ (.lst ys) from ⟨hz,its,c',r',e⟩),rfl,q _ (I.hok.fresh (Qv _))⟩
 rcases hq with hq|hq
 ·obtain ⟨its,r',pl,hz⟩:=I.list hq;have hlen:=r'.length;obtain ⟨o,ho,hc,n,hd⟩:=pl.isList;exact call_list_seq p (.inl rfl) ho hc hd (λh' c' kp e=>fin its r' hz h' c' kp e) (by simp only [QG]<;>omega)
 ·obtain ⟨its,r',pl,hz⟩:=I.tuple hq;have hlen:=r'.length;obtain ⟨o,ho,hc,n,hd⟩:=pl;exact call_list_seq p (.inr rfl) ho hc hd (λh' c' kp e=>fin its r' hz h' c' kp e) (by simp only [QG]<;>omega)
theorem lL:XY X (.type "tuple") (λxs H Q=>∃p ys,xs=[.ref p]/\((SqL X.K H p ys/\∀l,H l=none->Q (.ref l) (upd H l (.tup ys)))\/(SqT X.K H p ys/\Q (.ref p) H))):=by
 intro pins s σ H xs us Q I r h;obtain ⟨p,ys,rfl,h⟩:=h;obtain ⟨u,rfl,rx⟩:=cy r;cases rx
 rcases h with ⟨hq,q⟩|⟨hq,q⟩
 ·obtain ⟨its,r',pl,hz⟩:=I.list hq;have hlen:=r'.length;refine call_tuple_list pl.isList (λh' kp=>?_) (by simp only [QG]<;>omega);have I1:Inv X pins σ H {s with heap:=h'}:=I.kept (t':=s.toks) kp
  have I2:Inv X pins σ (upd H h'.objs.size (.tup ys)) {s with heap:=h'.push {cls:= .type "tuple",data:= .seq its.toArray}}:=
   I1.laid (t':=s.toks) (λb o e=>Qi _ e) (Qv _) (show Yd X.prog X.w _ _ _ (.tup ys) from ⟨hz,its,r',IsTup.new _ _⟩)
  exact ⟨.ref h'.objs.size,_,I2,rfl,q _ (I1.hok.fresh (Qv _))⟩
 ·obtain ⟨its,r',pl,hz⟩:=I.tuple hq;exact call_tuple_same pl ⟨.ref p,H,I,rfl,q⟩
def tyV (K:Frg) (T:String) (x:V) (H:Hp):Prop:=match x with
 | .str _=>T="str"
 | .int _=>T="int"
 | .ref p=>(T="list"/\∃xs,SqL K H p xs)\/(T="tuple"/\∃o,K.lookup p=some o/\o.cls= .type "tuple"/\o.dict=none)\/
  (T="dict"/\((∃kvs,H p=some (.dK kvs))\/∃kvs,H p=some (.dT kvs)))\/(T="set"/\∃S n,H p=some (.set S n))
 |_=>False
theorem Gh {pins:List (Addr×Obj)} {σ:St} {H:Hp} {s:Shared} {T:String} {x:V} {v:Value} (I:Inv X pins σ H s) (r:ZU x v) (ty:tyV X.K T x H):
 s.TypeIs v T/\∀a,v= .ref a->∃ob,s.heap.get? a=some ob/\ob.dict=none:=by
 cases x with
 |str z=>
  obtain ⟨t,rfl⟩:=r;cases (show T="str" from ty);exact ⟨typeIs_str s z t,λ_ e=>nomatch e⟩
 |int i=>
  obtain ⟨t,rfl⟩:=r;cases (show T="int" from ty);exact ⟨typeIs_int s i t,λ_ e=>nomatch e⟩
 |ref p=>
  cases r
  rcases ty with ⟨rfl,xs,hq⟩|⟨rfl,o,hk,hc,hd⟩|⟨rfl,hk⟩|⟨rfl,S,n,hk⟩
  ·obtain ⟨its,_,pl,_⟩:=I.list hq;refine ⟨pl.isList.typeIs,λa e=>?_⟩;cases e;obtain ⟨o,n,e,c,hd,_⟩:=pl;exact ⟨o,e,hd⟩
  ·refine ⟨⟨o,I.kIn p o hk,hc⟩,λa e=>?_⟩;cases e;exact ⟨o,I.kIn _ o hk,hd⟩
  ·have z:∃o,s.heap.get? p=some o/\o.ExactDict:=by
    rcases hk with ⟨kvs,hk⟩|⟨kvs,hk⟩
    ·obtain ⟨_,_,_,_,o,_,_,e,ex,_⟩:=I.hok p _ hk;exact ⟨o,e,ex⟩
    ·obtain ⟨_,_,_,_,o,_,_,e,ex,_⟩:=I.hok p _ hk;exact ⟨o,e,ex⟩
   obtain ⟨o,e,ex⟩:=z;refine ⟨⟨o,e,ex.1⟩,λa e2=>?_⟩;cases e2;exact ⟨o,e,ex.2.1⟩
  ·obtain ⟨o,_,_,_,e,ex,_⟩:=I.hok p _ hk;refine ⟨⟨o,e,ex.1⟩,λa e2=>?_⟩;cases e2;exact ⟨o,e,ex.2.1⟩
 |_=>exact False.elim ty
def tBM0 (K:Frg) (T:String) (r:V->List V->Hp->VK->Prop) (to:TE):TE:=λσ H Q=>to σ H λx H1=>tyV K T x H1/\r x [] H1 Q
def tBM (K:Frg) (T:String) (r:V->List V->Hp->VK->Prop) (to:TE) (t:TA):TE:=λσ H Q=>to σ H λx H1=>tyV K T x H1/\t σ H1 λxs H2=>r x xs H2 Q
variable {o e:Expr} {es:List Expr} {to:TE} {t:TA} {name:Str} {apos cpos:Pos} {T id:String} {r:V->List V->Hp->VK->Prop}
theorem pe_bm0 (pa:PlainAttrs T) (slot:Slot T name id) (Rc:typeOf (.builtin id)=pure (.type "method_descriptor")) (hm:MtR X id r) (ho:PE X o to)
 (Mf:attributeBase o name X.env (eval o X.env)=eval o X.env:=by rfl) (Mc:(apos.endLine==cpos.line)=true:=by rfl):PE X (.Call (.Attribute o name apos) [] [] cpos) (tBM0 X.K T r to):=by
 intro pins s σ H Q I h;refine wpAny_Call_method0_late Mf Mc (thn (ho pins s σ H _ I h) λv s1 hh=>?_);obtain ⟨x,H1,I1,r1,ty,q1⟩:=hh;obtain ⟨h1,h2⟩:=Gh I1 r1 ty;exact ⟨T,id,pa,slot,Rc,h1,h2,Calls.callWith_builtin rfl (PySem.evalArgs_none (hm pins s1 σ H1 x [] v [] Q I1 r1 .nil q1))⟩
theorem pe_bm (pa:PlainAttrs T) (slot:Slot T name id) (Rc:typeOf (.builtin id)=pure (.type "method_descriptor")) (hm:MtR X id r) (ho:PE X o to) (ha:PA X (e::es) t)
 (Mf:attributeBase o name X.env (eval o X.env)=eval o X.env:=by rfl)
 (RJ:((backTo cpos (starEach (e::es) X.env)).all (λx=>!x.1) && (backToKw cpos (keywordEach [] X.env)).all (λx=>x.1.isSome)
  && decide ((e::es).length+([]:List Keyword).length+(if ([]:List Keyword).isEmpty then 0 else 1)<30))=true:=by rfl)
 (Mc:(apos.endLine==cpos.line)=true:=by rfl) (hs:starEach (e::es) X.env=(false,eval e X.env)::starEach es X.env:=by rfl) (MV:(backTo cpos (starEach es X.env)).any (·.1)=false:=by rfl):
 PE X (.Call (.Attribute o name apos) (e::es) [] cpos) (tBM X.K T r to t):=by
 intro pins s σ H Q I h;refine wpAny_Call_method_late Mf RJ Mc rfl (thn (ho pins s σ H _ I h) λv s1 hh=>?_);obtain ⟨x,H1,I1,r1,ty,q1⟩:=hh;obtain ⟨h1,h2⟩:=Gh I1 r1 ty;refine ⟨T,id,pa,slot,Rc,h1,h2,?_⟩;have hA:=ha cpos pins s1 σ H1 _ I1 q1;rw [hs] at hA⊢;refine Calls.callWith_builtin (by show (false||(backTo cpos (starEach es X.env)).any (·.1))=false;rw [MV]<;>rfl) (Calls.evalArgs_plain ?_);exact thn hA λus s2 ⟨vs,H2,I2,r2,q2⟩=>hm pins s2 σ H2 x vs v us Q I2 r1 r2 q2
end
end L2
namespace L2
open PySem PySem.Spec PyProof.Rows
def MtM (X:Cx) (id:String) (r:V->List V->Hp->VK->Prop):Prop:=
 ∀(pins:List (Addr×Obj)) (s:Shared) (σ:St) (H:Hp) (x:V) (xs:List V) (v:Value) (us:List Value) (Q:VK),Inv X pins σ H s->ZU x v->xx xs us->r x xs H Q->
  wpAny (model X.prog X.w) X.A (call (.builtin id) (v::us)) (EP X pins σ Q) X.xe s
theorem xx.one {x:V} {us:List Value} (h:xx [x] us):∃u,us=[u]/\ZU x u:=by
 cases h with|cons r t=>cases t;exact ⟨_,rfl,r⟩
theorem xx.zero:∀{us:List Value},xx [] us->us=[]
 |_, .nil=>rfl
theorem xx.rep {xs:List V} {us:List Value} (h:xx xs us):∀k:Nat,xx (List.replicate k xs).flatten (List.replicate k us).flatten
 |0=> .nil
 |k+1=>by
  rw [Tu,Tu,TY,TY];exact xx.append h (xx.rep h k)
theorem oh (its:List Value):∀(k:Nat) (acc:List Value),
 List.foldl (λx1 x2=>x1++x2) acc.toArray (List.replicate k its.toArray)=(acc++(List.replicate k its).flatten).toArray
 |0,acc=>by simp
 |k+1,acc=>by
  have e:acc.toArray++its.toArray=(acc++its).toArray:=by simp
  have e2:(acc++its)++(List.replicate k its).flatten=acc++(List.replicate (k+1) its).flatten:=by
   rw [Tu,TY,jae]
  rw [<-e2,<-oh its k (acc++its),<-e,Tu,List.foldl_cons]
section
variable {X:Cx} {pins:List (Addr×Obj)} {σ:St} {H:Hp} {s:Shared} {l b:Addr} {xs ys zs:List V}
theorem Inv.lset {its its':List Value} {n:Nat} {f:Array Value->Array Value} {t':Nat} (I:Inv X pins σ H s) (hH:H l=some (.lst xs))
 (e:s.heap.get? l=some {cls:= .type "list",data:= .seq its.toArray n}) (hf:f its.toArray=its'.toArray) (hv:xx ys its') (hz:ys.length<=sizeLine):
 Inv X pins σ (upd H l (.lst ys)) {s with heap:=s.heap.update l (Obj.mapSeq f),toks:=t'}:=by
 have q:=PySem.IsL.update e f;rw [hf] at q;refine I.write (x:=l) (e:=l) (by rw [hH];exact trivial) (.inl rfl) (λb' u hb hu=>(jbq s.heap (Obj.mapSeq f) (Ne.symm hb)).trans hu) ⟨_,q⟩ ?_;exact ⟨hz,its',_,hv,q⟩
theorem Inv.lnew {its:List Value} {t':Nat} (I:Inv X pins σ H s) (hv:xx ys its) (hz:ys.length<=sizeLine):
 Inv X pins σ (upd H s.heap.objs.size (.lst ys)) {s with heap:=s.heap.push {cls:= .type "list",data:= .seq its.toArray},toks:=t'}:=
 I.laid (λ_ _ q=>Qi _ q) (Qv _) ⟨hz,its,0,hv,Qw _ rfl⟩
theorem Inv.fresh (I:Inv X pins σ H s):H s.heap.objs.size=none:=I.hok.fresh (Qv _)
theorem Inv.lstM (I:Inv X pins σ H s) (hH:H l=some (.lst xs)):xs.length<=sizeLine/\∃(its:List Value) (n:Nat),xx xs its/\xs.length=its.length/\s.heap.get? l=some {cls:= .type "list",data:= .seq its.toArray n}:=by
 obtain ⟨z,its,n,r,e⟩:=I.hok l _ hH;exact ⟨z,its,n,r,r.length,e⟩
theorem kP {n:Nat} (h:n<=sizeLine):Builtin.List.listTooLong n=false:=by
 unfold Builtin.List.listTooLong;exact Th (by omega)
end
section
variable {X:Cx}
def AS:V->List V->Hp->VK->Prop:=λx vs H Q=>∃l xs y,x= .ref l/\vs=[y]/\H l=some (.lst xs)/\xs.length<sizeLine/\Q .non (upd H l (.lst (xs++[y])))
theorem nN:MtM X "list.append" AS:=by
 intro pins s σ H x vs v us Q I rx rv h;obtain ⟨l,xs,y,rfl,rfl,hH,hz,q⟩:=h;cases rx;obtain ⟨u,rfl,ru⟩:=rv.one;obtain ⟨z,its,n,r,hl,e⟩:=I.lstM hH;refine call_meets F.slot_list_append ⟨_,e,rfl⟩ F.entry_list_append (F.args_list_append_2 _ _) (PySem.list_append l its.toArray n u (by rw [QG];omega)) ⟨e,?_⟩;refine ⟨.non,_,I.lset (its':=its++[u]) hH e (by simp) (r.append (.cons ru .nil)) ?_,rfl,q⟩;rw [Qz,TJ];omega
def AR:V->List V->Hp->VK->Prop:=λx vs H Q=>∃l b xs zs,x= .ref l/\vs=[.ref b]/\H l=some (.lst xs)/\H b=some (.lst zs)/\xs.length+zs.length<=sizeLine/\Q .non (upd H l (.lst (xs++zs)))
theorem mt_extend:MtM X "list.extend" AR:=by
 intro pins s σ H x vs v us Q I rx rv h;obtain ⟨l,b,xs,zs,rfl,rfl,hH,hB,hz,q⟩:=h;cases rx;obtain ⟨u,rfl,ru⟩:=rv.one;cases ru;obtain ⟨z,its,n,r,hl,e⟩:=I.lstM hH;obtain ⟨z2,KC,n2,r2,Le,e2⟩:=I.lstM hB;have LR:its.toArray.size+KC.toArray.size<=sizeLine:=by rw [QG,QG];omega
 have Lq:¬(!its.toArray.isEmpty && Builtin.List.listTooLong (its.toArray.size+KC.toArray.size))=true:=by
  rw [kP LR,Bool.and_false];exact QK
 refine call_meets F.slot_list_extend ⟨_,e,rfl⟩ F.entry_list_extend (F.args_list_extend_2 _ _)
  (AutoSeq1.list_extend_list_list_0 l its.toArray n b KC.toArray n2 Lq (by rw [QG];omega) (by omega)) ⟨e,e2,?_⟩
 refine ⟨.non,_,I.lset (its':=its++KC) hH e (by simp) (r.append r2) ?_,rfl,q⟩;rw [Qz];omega
def Gx:V->List V->Hp->VK->Prop:=λx vs H Q=>∃l xs,x= .ref l/\vs=[]/\H l=some (.lst xs)/\Q .non (upd H l (.lst []))
theorem mt_clear:MtM X "list.clear" Gx:=by
 intro pins s σ H x vs v us Q I rx rv h;obtain ⟨l,xs,rfl,rfl,hH,q⟩:=h;cases rx;have hus:=rv.zero;subst hus;obtain ⟨z,its,n,r,hl,e⟩:=I.lstM hH;refine call_meets F.slot_list_clear ⟨_,e,rfl⟩ F.entry_list_clear (F.args_list_clear_1 _) (AutoSeq1.list_clear_list_0 l its.toArray n (by rw [QG];omega)) ⟨e,?_⟩;exact ⟨.non,_,I.lset (its':=[]) (ys:=[]) hH e rfl .nil (jal _),rfl,q⟩
def rCat:R2:=λx y H Q=>∃l b xs zs,x= .ref l/\y= .ref b/\H l=some (.lst xs)/\H b=some (.lst zs)/\xs.length+zs.length<=sizeLine/\∀p,H p=none->Q (.ref p) (upd H p (.lst (xs++zs)))
theorem op_cat:OpR X (binaryOp .Add) rCat:=by
 intro pins s σ H x y v u Q I rx ry h;obtain ⟨l,b,xs,zs,rfl,rfl,hH,hB,hz,q⟩:=h;cases rx;cases ry;obtain ⟨z,its,n,r,hl,e⟩:=I.lstM hH;obtain ⟨z2,KC,n2,r2,Le,e2⟩:=I.lstM hB;refine PySem.P.add_list e e2 ?_ (by rw [QG,QG];omega);have ea:its.toArray++KC.toArray=(its++KC).toArray:=by simp
 rw [ea];exact ⟨.ref _,_,I.lnew (t':=s.toks) (r.append r2) (by rw [Qz];omega),rfl,q _ I.fresh⟩
def rRep:R2:=λx y H Q=>∃l k xs,x= .ref l/\y= .int k/\H l=some (.lst xs)/\ -(2 ^ 63)<=k/\k<2 ^ 63/\xs.length*k.toNat<=sizeLine/\
 ∀p,H p=none->Q (.ref p) (upd H p (.lst (List.replicate k.toNat xs).flatten))
theorem Ir {α:Type} (xs:List α) (k:Nat):(List.replicate k xs).flatten.length=k*xs.length:=by
 induction k with
 |zero=>simp
 |succ k ih=>rw [Tu,TY,Qz,ih,Nat.succ_mul,Nat.add_comm]
theorem op_rep:OpR X (binaryOp .Mult) rRep:=by
 intro pins s σ H x y v u Q I rx ry h;obtain ⟨l,k,xs,rfl,rfl,hH,h1,h2,hz,q⟩:=h;cases rx;obtain ⟨t,rfl⟩:=ry;obtain ⟨z,its,n,r,hl,e⟩:=I.lstM hH;have hlen:its.toArray.size*k.toNat<=sizeLine:=by rw [QG,<-hl];exact hz
 have RU:¬its.toArray.size*k.toNat>(2 ^ 63 - 1) / 8:=by
  have:(sizeLine:Nat)<=(2 ^ 63 - 1) / 8:=by decide
  omega
 have RI:¬(!Builtin.List.listFitsIndex k)=true:=by
  rw [fitsIndex_both h1 h2];exact QK
 have Lq:¬Builtin.List.listTooLong (its.toArray.size*k.toNat)=true:=by
  rw [kP hlen];exact QK
 have Rp:List.foldl (λx1 x2=>x1++x2) #[] (List.replicate (if its.toArray.isEmpty=true then 0 else k.toNat) its.toArray)=(List.replicate k.toNat its).flatten.toArray:=by
  have f0:∀m:Nat,List.foldl (λx1 x2=>x1++x2) #[] (List.replicate m its.toArray)=(List.replicate m its).flatten.toArray:=λm=>by
   have:=oh its m [];rw [jaI] at this;exact this
  rw [f0]
  cases its with
  |nil=>simp
  |cons a r'=>rw [QO (by simp)]
 refine wpAny_binaryOp_repeat_ref (T:="list") (U:="int") (by decide) ⟨_,e,rfl⟩ (λs'=>typeIs_int s' k t) noFill_list_mul F.fills_int_mul F.slot_int_rmul repeat_list F.slot_int_index.lookup
  (call_meets F.slot_int_rmul (typeIs_int s k t) F.entry_int_rmul (F.args_int_rmul_2 _ _) (int___rmul___int_list k t l its.toArray n)
   ⟨e,rfl,⟨_,e,rfl⟩,call_meets F.slot_list_mul ⟨_,e,rfl⟩ F.entry_list_mul (F.args_list_mul_2 _ _) (AutoListH.list___mul___list_int_3 l its.toArray n k t RI RU Lq) ⟨e,?_⟩⟩)
 rw [Rp];exact ⟨.ref _,_,I.lnew (t':=s.toks) (r.rep k.toNat) (by rw [Ir,Nat.mul_comm];exact hz),rfl,q _ I.fresh⟩
end
section
variable {prog:Program} {w:World} {A:Around} {E:Value->Shared->Prop} {s:Shared}
set_option maxRecDepth 100000 in
end
section
variable {X:Cx}
end
end L2
namespace Att
open PySem PySem.W PySem.Calls PyProof.Rows
theorem fN {P:Params} {h:Heap}:∀(ns:List Int) (vs:List Value),WellAll P h vs (ns.map WData.int)->IntsAre vs ns:=by
 intro ns
 induction ns with
 |nil=>
  intro vs w;rw [jaq] at w;cases w;exact .nil
 |cons n ns ih=>
  intro vs w;rw [Qo] at w
  cases w with
  |cons a b=>
   cases a;exact .cons _ _ (ih _ b)
theorem Af {l:OpenLaw} {n:Nat} (hn:l.most=some n) {P:Params} {h:Heap} {args:List WData} {vals:List Value}
 (Mx:l.row.toRowW.claim.pre args=true) (PZ:WellAll P h vals args):
 ∃a vs ns,vals=[Value.ref a]/\args=[WData.list (ns.map WData.int)]/\h.get? a=some {cls:= .type "list",data:= .seq vs.toArray}/\IntsAre vs ns/\ns.length<=n:=by
 have hsh:WShape.hasAll [] args [.list .int]=true:=(pre_splitW Mx).1;have hc:l.pre.holds [] {args:=args}=true:=(pre_splitW Mx).2;obtain ⟨d,r,rfl,h1,h2⟩:=hasAllW_cons hsh;obtain rfl:=hasAllW_nil h2;obtain ⟨xs,rfl,h3⟩:=hasW_list h1;obtain ⟨ns,rfl⟩:=items_int h3
 have hlen:ns.length<=n:=by
  unfold OpenLaw.pre at hc
  have h4:(WTm.not (.lt (.lit (.int (n:Int))) (.len (.arg 0)))).holds [] {args:=[.list (ns.map .int)]}=true:=by
   have h4:=(holds_andW hc).1;rw [hn] at h4;exact h4
  have h5:=condW_of h4 (w_not (w_lt w_lit (w_len_list (w_arg rfl))));rw [Qa] at h5;refine Nat.le_of_not_lt λq=>?_;have q':(n:Int)<((ns.length:Nat):Int):=by omega
  first
   |(rw [QX q'] at h5;exact absurd h5 (by decide))
   |(simp at h5;omega)
 cases PZ with
 |cons w1 w2=>
  cases w2
  cases w1 with
  |list ho RW=>exact ⟨_,_,ns,rfl,rfl,ho,fN ns _ RW,hlen⟩
theorem AV (l:OpenLaw) (args:List WData):l.row.toRowW.claim.post args (.bool true) args=true:=
 postW_of (r:=l.row.toRowW) (X:=(true==true))
  (show WShape.has [] (.bool true) .bool=true by first|rfl|decide|simp [WShape.has,WShape.arms,WShape.armsAll])
  (show (WTm.eq .res (.lit (.bool true))).value [] {args:=args,res:=some (.bool true),after:=args}=some (.bool (true==true)) from w_eq_bool (w_res rfl) w_lit) rfl
theorem attach_call {l:OpenLaw} {n:Nat} {q:Program} {loose:List Str} {XP:(Str->Option Value)->Heap->Prop} {YP:World->Heap->Prop} {d:DefRec}
 (hn:l.most=some n) (LV:d.params.defaults=[])
 (call:∀(w:World) (s₀ s₁:Shared) (mg mb:Str->Option Value) (fa:Addr) (o:Obj) (pm cd doc:Value) (a:Addr) (vs:List Value) (ns:List Int),
  Ground q loose [] XP w s₀ mg mb s₁.heap->YP w s₁.heap->
  s₁.heap.get? fa=some o->o.data= .func (docDef d.name d.params d.body d.scope pm cd doc)->s₁.heap.CodeRec cd d.name->mg d.name=some (.ref fa)->
  s₁.heap.get? a=some {cls:= .type "list",data:= .seq vs.toArray}->IntsAre vs ns->ns.length<=n->s₁.gens=#[]->
  codeAny (model l.prog w) callerA (.call (.ref fa) ⟨[.ref a],[]⟩) (λr s'=>r= .ok (.ret (.bool true))/\OldK s₁.heap s'.heap/\s'.os=s₁.os/\AllBare s'.gens) s₁):
 WalkO q loose XP YP l.row.toRowW d [] (λf vs=>PySem.call f vs):=by
 intro w s₀ s₁ mg mb G Y fa o pm cd doc dV kV ho hd Ku hD Lh hg args vals as Mx hlay hrd PZ hlo;obtain rfl:dV= .none:=Dflts.none hD LV;obtain rfl:kV= .none:=Dflts.noKw hD;obtain ⟨a,vs,ns,rfl,rfl,MX,hints,hlen⟩:=Af hn Mx PZ;refine enter_call (jcb (call w s₀ s₁ mg mb fa o pm cd doc a vs ns G Y ho (fd_plain hd) Ku Lh MX hints hlen hg) λr s' hq=>?_);obtain ⟨rfl,h2,h3,h4⟩:=hq;exact ⟨.inl ⟨.bool true, .bool true,[],rfl,λ_=>rfl, .bool true,AV l _,λ_=>⟨List.Pairwise.nil,λ_ hm=>(nomatch hm)⟩⟩,h2,h3,h4⟩
section
variable {prog:Program} {w:World} {A:Around} {E:Value->Shared->Prop} {s:Shared} {K:Frag}
def ledger (h:Heap) (L d:Addr):List (Addr×Obj):=(List.range h.objs.size).filterMap λa=>if a=L\/a=d then none else (h.get? a).map λo=>(a,o)
end
end Att
namespace L2
open PySem PySem.Spec PyProof.Rows
theorem mB:∀{vs:List Value} {ns:List Int},IntsAre vs ns->xx (ns.map V.int) vs
 |_,_, .nil=> .nil
 |_,_, .cons n t h=> .cons ⟨t,rfl⟩ (mB h)
def Only (H:Hp):Prop:=∀b,H b=none\/∃o xs,H b=some (.frz o (.lst xs))
theorem Fe {P:Program} {w:World} {K:Frg} {mg mb:Str->Option Value} {CX:CXT} {k:Nat} {fa a:Addr} {fd:FuncData} {x:Str} {sp:Sp} {s₁:Shared} {vs:List Value} {ns:List Int}
 (KX:K.In s₁.heap) (LU:s₁.heap.Ns mainGlobals mg) (hb:s₁.heap.Ns builtinsNs mb) (hbb:∀x:Str,x≠"__name__"->mb x=bootBuiltins x) (Rw:s₁.heap.NoLimit) (hg:s₁.gens=#[])
 (ha:s₁.heap.get? a=some {cls:= .type "list",data:= .seq vs.toArray}) (hi:IntsAre vs ns) (hl:ns.length<=sizeLine) (hr:Room k callerA)
 (F:∀base:Heap,K.In base->base.Ns mainGlobals mg->FnOk P w K mg base CX k fa fd [x] sp) (Oq:∀(s:Shared) (u:Value),BindsTo s fd ⟨[u],[]⟩ [(x,u)])
 (ME:∀H:Hp,Only H->SqL K H a (ns.map V.int)->sp [.ref a] H (λv _=>v= .bl true) λ_ _ _=>False)
 (Se:∀H e s',CX [] H s₁ (λ_ _ _=>False) e s'->False):
 codeAny (model P w) callerA (.call (.ref fa) ⟨[.ref a],[]⟩) (λr s'=>r= .ok (.ret (.bool true))/\OldK s₁.heap s'.heap/\s'.os=s₁.os/\AllBare s'.gens) s₁:=by
 have rv:=mB hi;have lenV:=hi.length
 have core:∀H:Hp,Only H->SqL K H a (ns.map V.int)->HOk P w H s₁.heap->(∀b,H b≠none->b=a)->(H a≠none->K.lookup a=none)->
  codeAny (model P w) callerA (.call (.ref fa) ⟨[.ref a],[]⟩) (λr s'=>r= .ok (.ret (.bool true))/\OldK s₁.heap s'.heap/\s'.os=s₁.os/\AllBare s'.gens) s₁:=by
  intro H hO hS hok hA hK;have base_of:∀{b:Addr} {o:Obj},s₁.heap.get? b=some o->H b=none->(Fq s₁.heap H).get? b=some o:=λe n=>Fp e n
  have noA:∀{b:Addr} {o:Obj} {es:Array DictEntry} {ep:Nat},s₁.heap.get? b=some o->o.data= .dict es ep->H b=none:=λ{b o es ep} e d=>by
   cases q:H b with
   |none=>rfl
   |some u=>
    have e':b=a:=hA b (by rw [q];simp);subst e';rw [ha] at e;cases e;have d':Data.seq vs.toArray _=Data.dict es ep:=d;cases d'
  have nsK:∀{b:Addr} {m:Str->Option Value},s₁.heap.Ns b m->(Fq s₁.heap H).Ns b m:=λ{b m} ⟨o,es,ep,e,d,r⟩=>⟨o,es,ep,base_of e (noA e d),d,r⟩
  have hKb:K.In (Fq s₁.heap H):=λb o e=>base_of (KX b o e) (by
   cases q:H b with
   |none=>rfl
   |some u=>
    have e':b=a:=hA b (by rw [q];simp);subst e'
    rw [hK (by rw [q];simp)] at e;cases e)
  have hM:Mod K mg (Fq s₁.heap H):=⟨hKb,nsK LU,⟨mb,nsK hb,hbb⟩,let ⟨mc,h1,h2⟩:=Rw;⟨mc,nsK h1,h2⟩⟩;have e0:Env0 P w K mg (Fq s₁.heap H) callerA [] s₁ H:=⟨rfl,hM,λb o e=>Ih e,Nat.le_of_eq (BY _ _),trivial,λb hb=>absurd (show b∈([]:List Addr) from hb) (by simp),hok, .of_eq hg⟩;refine jcb ((F _ hKb (nsK LU)).run callerA [] s₁ H ⟨[.ref a],[]⟩ [.ref a] [.ref a] _ _ hr e0 (Oq s₁ (.ref a)) (.cons rfl .nil) (ME H hO hS)) λr s' h=>?_
  cases r with
  |error e=>exact (Se H e s' h).elim
  |ok fl=>
   cases fl with
   |next=>exact False.elim h
   |brk=>exact False.elim h
   |cont=>exact False.elim h
   |ret u=>
    obtain ⟨v,H',os,bare,un,Ma,r',q⟩:=h;have q':v= .bl true:=q;subst q';obtain rfl:u=Value.bool true:=r';refine ⟨rfl,OldK.of_keep λb o e=>?_,os,bare⟩
    cases q:H b with
    |none=>exact un.keep b o e q (by intro z;exact absurd (show b∈([]:List Addr) from z) (by simp)) (by simp)
    |some u=>
     rcases hO b with z|⟨ob,xs,z⟩
     ·rw [q] at z;cases z
     ·have z2:=un.frzs b ob _ z;obtain ⟨e1,_⟩:=hok b _ z;obtain ⟨e2,_⟩:=Ma b _ z2;rw [e] at e1;cases e1;exact e2
 cases hk:K.lookup a with
 |some o=>
  have e:=KX a o hk;rw [ha] at e;cases e;refine core (λ_=>none) (λ_=> .inl rfl) (.inr ⟨_,vs.toArray,_,hk,rfl,rfl,rfl,by rw [QG,lenV];exact hl,by simpa using rv⟩) (λb u z=>by have z':(none:Option HO)=some u:=z;cases z') (λb z=>absurd rfl z) λz=>absurd rfl z
 |none=>
  refine core (λb=>if b=a then some (.frz {cls:= .type "list",data:= .seq vs.toArray} (.lst (ns.map V.int))) else none) (λb=>?_) (.inl (.inr ⟨{cls:= .type "list",data:= .seq vs.toArray},QH rfl⟩)) (λb u z=>?_) (λb z=>?_) λ_=>hk
  ·by_cases hb:b=a
   ·exact .inr ⟨_,_,QH hb⟩
   ·exact .inl (QO hb)
  ·by_cases hb:b=a
   ·have z':=(QH hb).symm.trans z;cases z';subst hb;exact ⟨ha,by rw [Qa];exact hl,vs,_,rv,ha⟩
   ·have z':=(QO hb).symm.trans z;cases z'
  ·by_cases hb:b=a
   ·exact hb
   ·exact absurd (QO hb) z
end L2
namespace L2
open PySem PySem.Spec PyProof.Rows
theorem Hf {l:PySem.W.OpenLaw} {n k:Nat} {q:Program} {loose:List Str} {XP:(Str->Option Value)->Heap->Prop} {YP:World->Heap->Prop} {d:DefRec} {K:Params->Frg} {CX:World->CXT} {sp:World->Sp} {x:Str}
 (hn:l.most=some n) (Lp:n<=sizeLine) (LV:d.params.defaults=[]) (hr:Room k callerA)
 (hY:∀(w:World) (h:Heap),YP w h->(K w.params).In h)
 (F:∀(w:World) (mg:Str->Option Value) (fa:Addr) (h:Heap),(K w.params).In h->h.Ns mainGlobals mg->mg d.name=some (.ref fa)->
  ∃fd:FuncData,(∀(s:Shared) (u:Value),BindsTo s fd ⟨[u],[]⟩ [(x,u)])/\
   ∀base:Heap,(K w.params).In base->base.Ns mainGlobals mg->FnOk l.prog w (K w.params) mg base (CX w) k fa fd [x] (sp w))
 (ME:∀(w:World) (H:Hp) (a:Addr) (ns:List Int),ns.length<=n->Only H->SqL (K w.params) H a (ns.map V.int)->sp w [.ref a] H (λv _=>v= .bl true) λ_ _ _=>False)
 (Se:∀(w:World) (H:Hp) (s:Shared) (e:Value) (s':Shared),CX w [] H s (λ_ _ _=>False) e s'->False):
 PySem.W.WalkO q loose XP YP l.row.toRowW d [] (λf vs=>PySem.call f vs):=by
 refine Att.attach_call hn LV λw s₀ s₁ mg mb fa o pm cd doc a vs ns G Y ho hd Ku Lh MX hints hlen hg=>?_;have KX:=hY w _ Y;obtain ⟨fd,hb,hF⟩:=F w mg fa _ KX G.T.g Lh;exact Fe KX G.T.g G.T.b G.T.builtins G.T.nolimit hg MX hints (QU hlen Lp) hr hF hb (λH hO hS=>ME w H a ns hlen hO hS) λH e s'=>Se w H s₁ e s'
end L2
namespace L2
open PySem PySem.Spec PyProof.Rows
def ZE (s:Stmt) (j:Nat):Stmt:=match s with
 | .ClassDef _ _ _ body _ _ _ _ _ _ _=>body.getD j (.Pass ⟨0,0,0,0⟩)
 |_=> .Pass ⟨0,0,0,0⟩
def ZS (s:Stmt):Arguments:=match s with
 | .FunctionDef _ a _ _ _ _ _ _ _ _=>a
 |_=>{posonlyargs:=[],args:=[],vararg:=none,kwonlyargs:=[],kw_defaults:=[],kwarg:=none,defaults:=[]}
def Zj (s:Stmt):List Stmt:=match s with
 | .FunctionDef _ _ b _ _ _ _ _ _ _=>b
 |_=>[]
def zk (s:Stmt):Scope:=match s with
 | .FunctionDef _ _ _ _ _ _ sc _ _ _=>sc
 |_=>{kind:= .function,names:=[],isGenerator:=false,isCoroutine:=false}
abbrev CX0:CXT:=λ_ _ _ _ _ _=>False
abbrev E0:XK:=λ_ _ _=>False
theorem pass0 {X:Cx}:Vz CX0 X E0:=λ_ _ _ _ _ _ _ h=>h.elim
structure Fun (K:Frg) (x qual:Str) (st:Stmt) (f:Addr) (fd:FuncData):Prop where
 ex:∃(oc:Value) (od:Option Addr) (kV doc pm:Value) (an:Option Addr) (Kt ct:Value) (osl:Array (Option Value)),
  fd=PySem.W.fnOf x qual (ZS st) (Zj st) (zk st) .none kV doc pm an Kt ct/\K.lookup f=some ⟨oc,od, .func fd,osl⟩/\PySem.W.codeIn K Kt qual=true
 kp:PySem.W.keepIn K (.ref f)=true
section
variable {P:Program} {w:World} {K:Frg} {mg:Str->Option Value} {base:Heap}
theorem Fun.ok {x qual:Str} {st:Stmt} {f:Addr} {fd:FuncData} {N ps:List Str} {k:Nat} {sp:Sp} (F:Fun K x qual st f fd) (S:FnScope N ps (zk st)) (len:∀vs H Q E,sp vs H Q E->vs.length=ps.length)
 (Lr:∀(Kt:Value) (A:Around) (outer:List Env) (s:Shared) (H:Hp) (vs:List V) (Q:VK) (E:XK),Room k (A.deeper (envOfC qual (zk st) s.heap.objs.size f Kt))->sp vs H Q E->
  ∃t,PSs (GL CX0 P w K mg base N qual (zk st) f Kt A outer s H E).nox (Zj st) t/\t {nx:=λ_ H'=>Q .non H',rt:=Q} (jN N vs) H):FnOk P w K mg base CX0 (k+1) f fd ps sp:=by
 obtain ⟨oc,od,kV,doc,pm,an,Kt,ct,osl,rfl,lk,Ku⟩:=F.ex;refine fn_of lk Ku S len λA outer s H vs Q E hr ME=>?_;obtain ⟨t,h,q⟩:=Lr Kt A outer s H vs Q E hr ME;exact ⟨t,h.nox,q⟩
theorem Fun.binds {x qual:Str} {st:Stmt} {f:Addr} {fd:FuncData} {ps:List Str} (F:Fun K x qual st f fd)
 (h:∀(kV doc pm:Value) (an:Option Addr) (Kt ct:Value) (us:List Value),us.length=ps.length->bindArgs (PySem.W.fnOf x qual (ZS st) (Zj st) (zk st) .none kV doc pm an Kt ct) ⟨us,[]⟩=pure (ps.zip us)):xi K fd ps []:=by
 obtain ⟨oc,od,kV,doc,pm,an,Kt,ct,osl,rfl,lk,Ku⟩:=F.ex;exact .all (h kV doc pm an Kt ct)
theorem og {x qual:Str} {st:Stmt} {f:Addr} {oc:Value} {od an:Option Addr} {osl:Array (Option Value)} {kV doc pm Kt ct:Value} (l:K.lookup f=some ⟨oc,od, .func (PySem.W.fnOf x qual (ZS st) (Zj st) (zk st) .none kV doc pm an Kt ct),osl⟩)
 (c:PySem.W.codeIn K Kt qual=true) (k:PySem.W.keepIn K (.ref f)=true):Fun K x qual st f (PySem.W.fnOf x qual (ZS st) (Zj st) (zk st) .none kV doc pm an Kt ct):=⟨⟨oc,od,kV,doc,pm,an,Kt,ct,osl,rfl,l,c⟩,k⟩
end
theorem Wr {n:Nat} (h:n<=1000):n<sizeLine:=Nat.lt_of_le_of_lt h (by decide)
section
variable {X:Cx}
theorem pv (i:Nat) {x:Str} {pos:Pos} (hN:X.N[i]? =some x:=by rfl) (hv:Vis X.env.scope x:=by walk_at "v") (hd:(x==("__debug__":Str))=false:=by decide)
 (Ku:(x==("__classdict__":Str))=false:=by decide):PE X (.Name x pos) (tVar i):=pe_var hN hv hd Ku
end
theorem iteF {A B:Prop} (h:B):if false=true then A else B:=by
 rw [QO QK];exact h
theorem iteT {A B:Prop} (h:A):if true=true then A else B:=by
 rw [QH rfl];exact h
theorem vE {c A B:Prop} [Decidable c] (hc:c) (h:B):if (!decide c)=true then A else B:=by
 rw [QX hc];exact iteF h
def zV (H H':Hp):Prop:=∀b o,H b=some o->H' b=some o
theorem zV.refl (H:Hp):zV H H:=λ_ _ h=>h
theorem zV.trans {H H1 H2:Hp} (a:zV H H1) (b:zV H1 H2):zV H H2:=λc o h=>b c o (a c o h)
theorem zV.free {H H':Hp} (e:zV H H') {l:Addr} (h:H' l=Option.none):H l=Option.none:=by
 cases q:H l with
 |none=>rfl
 |some o=>
  rw [e l o q] at h;cases h
theorem zV.seq {K:Frg} {H H':Hp} {a:Addr} {xs:List V} (e:zV H H') (h:SqL K H a xs):SqL K H' a xs:=by
 rcases h with (h|⟨o,h⟩)|h
 ·exact .inl (.inl (e _ _ h))
 ·exact .inl (.inr ⟨o,e _ _ h⟩)
 ·exact .inr h
end L2
namespace L2
open PySem PySem.W PySem.Spec PySem.Calls PyProof.Rows
section
variable {X:Cx} {e v1 v2:Expr} {es rest:List Expr} {te:TE} {pos p2:Pos}
theorem pe_ccall      (hg:Gl X c) (hm:X.mg c=some (.ref C))
 (hs:specialIn X.K (.ref C) "__getattribute__"=some (some (.builtin "type.__getattribute__"))) (hrd:readsIn X.K C (.type "type")=true) (hf:findCls X.K (.ref C) (.type "type") m=some (.val (.ref f)))
 (F:FnOk X.prog X.w X.K X.mg X.base CX k f fd ps sp) (hr:Room k X.A) (hk:PySem.W.keepIn X.K (.ref f)=true) (hb:xi X.K fd ps []) (hx:Vz CX X E) (ha:PA X (e::es) t)
 (hd:(c==("__debug__":Str))=false:=by decide) (KD:starEach (e::es) X.env=(false,eval e X.env)::starEach es X.env:=by rfl) (Ln:(backTo pos (starEach es X.env)).any (·.1)=false:=by rfl)
 (ht:eval (.Call (.Attribute (.Name c p) m apos) (e::es) [] pos) X.env=(do
  let ov<-eval (.Name c p) X.env
  standAt apos.atName
  let (f,first)<-holding [ov] (getMethod ov m pl)
  callWith pos f first (backTo pos (starEach (e::es) X.env)) (backToKw pos (keywordEach [] X.env))):=by rfl):
 PE X (.Call (.Attribute (.Name c p) m apos) (e::es) [] pos) (ur sp [] E t):=by
 intro pins s σ H Q I h;refine PySem.W.methodCall_KW (pl:=pl) (fF I hg hm ?_ hd) ht;refine method_cls I.kIn hs (cls_value I.kIn hrd hf rfl ?_);have I1:=I.tok (s.toks+1);refine jbT (first:=[]) (h₀:=X.base) I.ok.mod.kin hk (thn (ha pos pins _ σ H _ I1 h) λus s2 ⟨vs,H2,I2,r,q2⟩=>⟨I2.kIn,?_⟩) KD Ln;exact sg (us:=us) (vs:=vs) F hr hb .nil hx I2 r q2
def Gk (K:Frg) (m:Str) (f:Addr) (sp:Sp) (E:XK) (ta:TE):TE:=λσ H Q=>ta σ H λx H1=>∃a C dx fs,x= .ref a/\H1 a=some (.ins C dx fs)/\Cls K C/\Meth K C m f/\fs.lookup m=none/\sp [x] H1 Q E
theorem pe_methA      (he:PE X e te) (F:FnOk X.prog X.w X.K X.mg X.base CX k f fd ps sp) (hr:Room k X.A) (hb:xi X.K fd ps []) (hx:Vz CX X E)
 (ht:eval (.Call (.Attribute e m apos) [] [] pos) X.env=(do
  let ov<-eval e X.env
  standAt apos.atName
  let (f,first)<-holding [ov] (getMethod ov m pl)
  callWith pos f first (backTo pos (starEach [] X.env)) (backToKw pos (keywordEach [] X.env))):=by rfl):
 PE X (.Call (.Attribute e m apos) [] [] pos) (Gk X.K m f sp E te):=by
 intro pins s σ H Q I h;refine PySem.W.methodCall_KW (pl:=pl) (thn (he pins s σ H _ I h) λu s1 hh=>?_) ht;obtain ⟨x,H1,I1,rx,a,C,dx,fs,ex,ea,c,k,l,q⟩:=hh;subst ex;cases (show u=Value.ref a from rx);refine jn I1 ea c k l ?_;exact PySem.W.callWith_K0 (first:=[.ref a]) I1.kIn k.kp (sg (us:=[.ref a]) (vs:=[.ref a]) F hr hb .nil hx I1 (.cons rfl .nil) q)
def rIsC (K:Frg):List V->Hp->VK->Prop:=λxs H Q=>∃(x:V) (c:Addr) (t:Value) (b:Bool),xs=[x, .ref c]/\TyOf K H x t/\PySem.W.kitOne K t (.ref c)=some b/\Q (.bl b) H
theorem call_isC:XY X (.builtin "isinstance") (rIsC X.K):=by
 intro pins s σ H xs us Q I r h;obtain ⟨x,c,t,b,rfl,ty,e,q⟩:=h;obtain ⟨u,w',rfl,r1,r2⟩:=DE r;cases (show w'=Value.ref c from r2);exact nZ I r1 ty e λtk=>⟨.bl b,H,I.tok tk,rfl,q⟩
end
end L2
namespace S
open PySem PySem.Spec PyProof.Rows L2
def Sz (n:Nat) (x:Int):Prop:=x.natAbs<2 ^ n
theorem Sz.mono  (h:Sz m x) (l:m<=n):Sz n x:=QY h (Nat.pow_le_pow_right (by decide) l)
theorem Sz.bits  (h:Sz n x):Builtin.Int.intBits x<=n:=intBits_le_iff.mpr h
theorem Sz.of  (h:Builtin.Int.intBits x<=n):Sz n x:=intBits_le_iff.mp h
theorem Sz.mulOk  (h:Sz m x) (g:Sz n y) (l:m+n<=134217728):IntMulOk x y:=IntMulOk.of_le h.bits g.bits l
theorem Sz.mul  (h:Sz m x) (g:Sz n y):Sz (m+n) (x*y):=Sz.of (intBits_mul_le h.bits g.bits)
theorem Sz.add  (h:Sz n x) (g:Sz n y):Sz (n+1) (x+y):=Sz.of (QU (intBits_add_le h.bits g.bits) (by omega))
theorem Sz.sub  (h:Sz n x) (g:Sz n y):Sz (n+1) (x - y):=Sz.of (QU (intBits_sub_le h.bits g.bits) (by omega))
theorem Sz.le  (h:Sz n x) (l:y.natAbs<=x.natAbs):Sz n y:=Nat.lt_of_le_of_lt l h
theorem Sz.log  (h:Sz n x) (l:n<=8999):x.natAbs.log2<9000:=by
 by_cases h0:x.natAbs=0
 ·rw [h0];decide+kernel
 ·have:=(Nat.log2_lt h0).mpr (Sz.mono h l);omega
section
variable {X:Cx}
theorem op_mulB:OpR X (binaryOp .Mult) (rI IntMulOk λi j=> .int (i*j)):=opI λ_ _ _ _ _ _ _ hc q=>mul_int q hc
def CDv (_ j:Int):Prop:=j≠0/\Sz 8999 j
theorem op_fdivB:OpR X (binaryOp .FloorDiv) (rI CDv λi j=> .int (i.fdiv j)):=opI λi j _ _ _ _ _ hc q=>
 floordiv_int hc.1 q (.inl (PyProof.noPylong_of_log2 (hc.2.log (Qv _))))
end
mutual
def Is (H:Hp):PyData->V->Prop
 | .none,v=>v= .non
 | .bool b,v=>v= .bl b
 | .int i,v=>v= .int i
 | .str x,v=>v= .str x
 | .list xs,v=>∃p vs,v= .ref p/\H p=some (.lst vs)/\zL H xs vs
 | .tuple xs,v=>∃p vs,v= .ref p/\H p=some (.tup vs)/\zL H xs vs
 | .dict kvs,v=>Dh H kvs v
def zL (H:Hp):List PyData->List V->Prop
 |[],vs=>vs=[]
 |x::xs,vs=>∃v r,vs=v::r/\Is H x v/\zL H xs r
def Dh (H:Hp):List (PyData×PyData)->V->Prop
 |[(c,x)],v=>∃(p C dx:Addr) (w:V),c= .int ((C:Nat):Int)/\v= .ref p/\H p=some (.ins C dx [("form",w)])/\Is H x w
 |_,_=>False
end
mutual
theorem Is.mono (e:zV H H'):∀(d:PyData) (v:V),Is H d v->Is H' d v
 | .none,v,h=>by simpa only [Is] using h
 | .bool b,v,h=>by simpa only [Is] using h
 | .int i,v,h=>by simpa only [Is] using h
 | .str x,v,h=>by simpa only [Is] using h
 | .list xs,v,h=>by
   rw [Is] at h⊢;obtain ⟨p,vs,e1,e2,e3⟩:=h;exact ⟨p,vs,e1,e _ _ e2,zL.mono e xs vs e3⟩
 | .tuple xs,v,h=>by
   rw [Is] at h⊢;obtain ⟨p,vs,e1,e2,e3⟩:=h;exact ⟨p,vs,e1,e _ _ e2,zL.mono e xs vs e3⟩
 | .dict kvs,v,h=>by
   rw [Is] at h⊢;exact Dh.mono e kvs v h
theorem Dh.mono (e:zV H H'):∀(d:List (PyData×PyData)) (v:V),Dh H d v->Dh H' d v
 |[],v,h=>by rw [Dh] at h;exact h.elim;simp
 |[(c,x)],v,h=>by
  rw [Dh] at h⊢;obtain ⟨p,C,dx,w,e1,e2,e3,e4⟩:=h;exact ⟨p,C,dx,w,e1,e2,e _ _ e3,Is.mono e x w e4⟩
 |_::_::_,v,h=>by rw [Dh] at h;exact h.elim;simp
theorem zL.mono (e:zV H H'):∀(d:List PyData) (v:List V),zL H d v->zL H' d v
 |[],v,h=>by rw [zL] at h⊢;exact h
 |x::xs,v,h=>by
  rw [zL] at h⊢;obtain ⟨v,r,e1,e2,e3⟩:=h;exact ⟨v,r,e1,Is.mono e x v e2,zL.mono e xs r e3⟩
end
theorem zV.new  (h:H p=none) (o:HO):zV H (upd H p o):=λb u q=>by rw [yg (yk q h)];exact q
section
variable {X:Cx} {pins:List (Addr×Obj)} {σ:L2.St} {H:Hp} {s:Shared}
mutual
theorem Is.reads (I:Inv X pins σ H s):∀(d:PyData) (v:V) (u:Value),d.canLay0=true->Is H d v->ZU v u->∃as,Reads s.heap u d as
 | .none,v,u,lay,h,r=>by rw [Is] at h;subst h;cases (show u=Value.none from r);exact ⟨_, .none⟩
 | .bool b,v,u,lay,h,r=>by rw [Is] at h;subst h;cases (show u=Value.bool b from r);exact ⟨_, .bool b⟩
 | .int i,v,u,lay,h,r=>by rw [Is] at h;subst h;obtain ⟨t,rfl⟩:=(show ∃t,u=Value.int i t from r);exact ⟨_, .int i t⟩
 | .str x,v,u,lay,h,r=>by rw [Is] at h;subst h;obtain ⟨t,rfl⟩:=(show ∃t,u=Value.str x t from r);exact ⟨_, .str x t⟩
 | .list xs,v,u,lay,h,r=>by
   rw [Is] at h;obtain ⟨p,vs,e1,e2,e3⟩:=h;subst e1;cases (show u=Value.ref p from r);obtain ⟨_,its,n,hv,hp⟩:=(show Yd X.prog X.w H s.heap p (.lst vs) from I.hok p _ e2);obtain ⟨as,q⟩:=zL.reads I xs vs its (by rw [PyData.canLay0] at lay;exact lay) e3 hv;exact ⟨_, .list hp rfl rfl (by simpa using q)⟩
 | .tuple xs,v,u,lay,h,r=>by
   rw [Is] at h;obtain ⟨p,vs,e1,e2,e3⟩:=h;subst e1;cases (show u=Value.ref p from r);obtain ⟨_,its,hv,hp⟩:=(show Yd X.prog X.w H s.heap p (.tup vs) from I.hok p _ e2);obtain ⟨o,h1,h2,n,h3⟩:=hp;obtain ⟨as,q⟩:=zL.reads I xs vs its (by rw [PyData.canLay0] at lay;exact lay) e3 hv;exact ⟨_, .tuple h1 h2 h3 (by simpa using q)⟩
 | .dict _,v,u,lay,h,r=>by rw [PyData.canLay0] at lay;cases lay
theorem zL.reads (I:Inv X pins σ H s):∀(d:List PyData) (v:List V) (u:List Value),PyData.canLayAll0 d=true->zL H d v->xx v u->∃as,ReadsAll s.heap u d as
 |[],v,u,lay,h,r=>by rw [zL] at h;subst h;cases xx.zero r;exact ⟨_, .nil⟩
 |x::xs,v,u,lay,h,r=>by
  rw [PyData.canLayAll0,jaE] at lay;rw [zL] at h;obtain ⟨v,w,e1,e2,e3⟩:=h;subst e1
  cases r with
  |cons r1 r2=>
   obtain ⟨as,q⟩:=Is.reads I x v _ lay.1 e2 r1;obtain ⟨bs,q2⟩:=zL.reads I xs w _ lay.2 e3 r2;exact ⟨_, .cons q q2⟩
end
end
def rEqD:R2:=λx y H Q=>∃d e,Is H d x/\Is H e y/\SeqAt.shaped d=true/\SeqAt.shaped e=true/\Q (.bl (PyData.eqv d e)) H
def rNeD:R2:=λx y H Q=>∃d e,Is H d x/\Is H e y/\SeqAt.shaped d=true/\SeqAt.shaped e=true/\Q (.bl (!PyData.eqv d e)) H
section
variable {X:Cx}
theorem op_eqD (hu:X.A.units+64<cLine):OpR X (compareOp .Eq) rEqD:=by
 intro pins s σ H x y v u Q I rx ry h;obtain ⟨d,e,h1,h2,h3,h4,q⟩:=h;obtain ⟨as,r1⟩:=Is.reads I d x v (jbr h3) h1 rx;obtain ⟨bs,r2⟩:=Is.reads I e y u (jbr h4) h2 ry;exact eq_dataH r1 r2 h3 h4 hu ⟨.bl _,H,I,rfl,q⟩
theorem op_neD (hu:X.A.units+64<cLine):OpR X (compareOp .NotEq) rNeD:=by
 intro pins s σ H x y v u Q I rx ry h;obtain ⟨d,e,h1,h2,h3,h4,q⟩:=h;obtain ⟨as,r1⟩:=Is.reads I d x v (jbr h3) h1 rx;obtain ⟨bs,r2⟩:=Is.reads I e y u (jbr h4) h2 ry;exact ne_dataH r1 r2 h3 h4 hu ⟨.bl _,H,I,rfl,q⟩
end
def rIsi (K:Frg):List V->Hp->VK->Prop:=λxs H Q=>∃(x:V) (T:String) (t:Value) (b:Bool),xs=[x, .ty T]/\TyOf K H x t/\PySem.W.kitOne K t (.type T)=some b/\Q (.bl b) H
section
variable {X:Cx}
theorem call_isi:XY X (.builtin "isinstance") (rIsi X.K):=by
 intro pins s σ H xs us Q I r h;obtain ⟨x,T,t,b,rfl,ty,e,q⟩:=h;obtain ⟨u,w',rfl,r1,r2⟩:=DE r;cases (show w'=Value.type T from r2);exact nZ I r1 ty e λtk=>⟨.bl b,H,I.tok tk,rfl,q⟩
end
structure Cal (P:Program) (w:World) (K:Frg) (mg:Str->Option Value) (base:Heap) (CX:CXT) (k:Nat) (x:Str) (ps:List Str) (sp:Sp):Prop where
 ex:∃(f:Addr) (fd:FuncData),FnOk P w K mg base CX k f fd ps sp/\mg x=some (.ref f)/\PySem.W.keepIn K (.ref f)=true/\xi K fd ps []
section
variable {X:Cx} {CX:CXT} {k j:Nat} {ps:List Str} {sp:Sp} {E:XK} {x:Str} {p pos:Pos} {e:Expr} {es:List Expr} {t:TA}
theorem pe_cal (C:Cal X.prog X.w X.K X.mg X.base CX k x ps sp) (hr:Room j X.A) (hk:k<=j) (hx:Vz CX X E) (hg:Gl X x)
 (ha:PA X (e::es) t) (LL:(x==("__debug__":Str))=false:=by decide) (he:starEach (e::es) X.env=(false,eval e X.env)::starEach es X.env:=by rfl) (Ln:(backTo pos (starEach es X.env)).any (·.1)=false:=by rfl):
 PE X (.Call (.Name x p) (e::es) [] pos) (ur sp [] E t):=by
 obtain ⟨f,fd,F,hm,hk2,hb⟩:=C.ex;exact HS F (hr.mono hk) hg hm hk2 hb .nil hx ha LL he Ln
end
theorem DF  (hr:Room k A):A.units+64<cLine:=hr.units
def frD (q:Rat):PyData:= .tuple [.int q.num, .int (q.den:Int)]
def SzQ (n:Nat) (q:Rat):Prop:=Sz n q.num/\Sz n (q.den:Int)
theorem SzQ.mono  (h:SzQ m q) (l:m<=n):SzQ n q:=⟨h.1.mono l,h.2.mono l⟩
theorem den_pos (q:Rat):(0:Int)<(q.den:Int):=Int.natCast_pos.mpr q.den_pos
theorem SzQ.divInt  (ha:Sz n a) (hb:Sz n b) (h0:b≠0):SzQ n (Rat.divInt a b):=by
 constructor
 ·refine ha.le ?_;rw [Rat.num_divInt,Int.natAbs_ediv_of_dvd ?_]
  ·rw [Int.natAbs_mul];have e:b.sign.natAbs=1:=Int.natAbs_sign_of_ne_zero h0;rw [e,Nat.one_mul];exact Nat.div_le_self _ _
  ·exact Int.dvd_trans (Int.gcd_dvd_right b a) (Int.dvd_mul_left _ _)
 ·refine hb.le ?_;rw [Rat.den_divInt,QO h0];show b.natAbs / b.gcd a<=b.natAbs;exact Nat.div_le_self _ _
theorem GP:bootBuiltins "len"=some (.builtin "len"):=by decide+kernel
theorem bt_abs:bootBuiltins "abs"=some (.builtin "abs"):=by decide+kernel
theorem GO:bootBuiltins "min"=some (.builtin "min"):=by decide+kernel
theorem bt_max:bootBuiltins "max"=some (.builtin "max"):=by decide+kernel
theorem FA:bootBuiltins "isinstance"=some (.builtin "isinstance"):=by decide+kernel
theorem bt_int:bootBuiltins "int"=some (.type "int"):=by decide+kernel
theorem bt_bool:bootBuiltins "bool"=some (.type "bool"):=by decide+kernel
theorem bt_tuple:bootBuiltins "tuple"=some (.type "tuple"):=by decide+kernel
theorem bt_list:bootBuiltins "list"=some (.type "list"):=by decide+kernel
theorem oz:bootBuiltins "enumerate"=some (.type "enumerate"):=by decide+kernel
theorem bt_zip:bootBuiltins "zip"=some (.type "zip"):=by decide+kernel
theorem qX:bootBuiltins "reversed"=some (.type "reversed"):=by decide+kernel
theorem bt_sum:bootBuiltins "sum"=some (.builtin "sum"):=by decide+kernel
structure Bl (mg:Str->Option Value):Prop where
 len:mg "len"=none
 abs:mg "abs"=none
 min:mg "min"=none
 max:mg "max"=none
 isinstance:mg "isinstance"=none
 range:mg "range"=none
 int:mg "int"=none
 bool:mg "bool"=none
 tuple:mg "tuple"=none
 list:mg "list"=none
 enumerate:mg "enumerate"=none
 zip:mg "zip"=none
 reversed:mg "reversed"=none
 ValueError:mg "ValueError"=none
 sum:mg "sum"=none
 str:mg "str"=none
theorem BU {c A B:Prop} [Decidable c] (h1:¬c->A) (h2:c->B):if (!decide c)=true then A else B:=by
 by_cases hc:c
 ·rw [QX hc];exact h2 hc
 ·rw [Th hc];exact h1 hc
theorem Yw {c A B:Prop} [Decidable c] (h1:c->A) (h2:¬c->B):if decide c=true then A else B:=by
 by_cases hc:c
 ·rw [QX hc];exact h1 hc
 ·rw [Th hc];exact h2 hc
theorem FU {ms:List Int} {k:Int} (h0:0<=k) (h:k<(ms.length:Int)):atI (ms.map V.int) k=some (.int (ms.getD k.toNat 0)):=by
 have hk:k.toNat<ms.length:=by omega
 have ek:k=((k.toNat:Nat):Int):=by omega
 have q:atI (ms.map V.int) ((k.toNat:Nat):Int)=some (.int (ms.getD k.toNat 0)):=yi (by rw [Qh,Qb hk,Qk,Qb hk];rfl);rwa [<-ek] at q
theorem aS (hb:0<b):(a.fdiv (Int.gcd a b:Nat)=(Rat.divInt a b).num)/\b.fdiv (Int.gcd a b:Nat)=((Rat.divInt a b).den:Int):=by
 have g0:(0:Int)<=((Int.gcd a b:Nat):Int):=Int.natCast_nonneg _;rw [Tx _ g0,Tx _ g0,Rat.num_divInt,Rat.den_divInt,QO (by omega),Int.gcd_comm b a,Int.sign_eq_one_of_pos hb,Int.one_mul];refine ⟨rfl,?_⟩;have e:b=(b.natAbs:Int):=by omega
 rw [Int.natCast_ediv,<-e]
theorem BG (hb:b<0):(a.fdiv (-((Int.gcd a b:Nat):Int))=(Rat.divInt a b).num)/\b.fdiv (-((Int.gcd a b:Nat):Int))=((Rat.divInt a b).den:Int):=by
 have h:=aS (a:= -a) (b:= -b) (by omega);rw [Rat.neg_divInt_neg,Int.neg_gcd,Int.gcd_neg] at h;rw [<-h.1,<-h.2]
 constructor
 ·rw [<-Int.neg_fdiv_neg,Int.neg_neg]
 ·rw [<-Int.neg_fdiv_neg,Int.neg_neg]
theorem rN (h:1<=n) (h1: -2<x) (h2:x<2):Sz n x:=Sz.mono (show Sz 1 x by unfold Sz;omega) h
theorem sY (a b:Int):Int.gcd b (a % b)=Int.gcd a b:=by
 have e:a % b=a - b*(a / b):=by have:=Int.mul_ediv_add_emod a b;omega
 rw [e,Int.gcd_sub_mul_left_right,Int.gcd_comm]
def yX (cells:List (Str×Addr)):List (Str×NameKind)->List (Str×Addr)->List (Str×Addr)
 |[],acc=>acc
 |(n,k)::r,acc=>yX cells r (if k== .free then (n,(cells.lookup n).getD 0)::acc else acc)
theorem XT  (h:∀y∈scope.names,y.2= .free->∃c,env.cells.lookup y.1=some c):closureFor scope env=pure (yX env.cells scope.names []):=by
 have key:∀(names:List (Str×NameKind)) (acc:List (Str×Addr)),(∀y∈names,y.2= .free->∃c,env.cells.lookup y.1=some c)->
  (forIn names acc λx r=>match x with
   |(name,kind)=>if (kind==NameKind.free)=true then do
    let a<-cellOf env name
    pure (ForInStep.yield ((name,a)::r))
    else pure (ForInStep.yield r):Sem (List (Str×Addr)))=pure (yX env.cells names acc):=by
  intro names
  induction names with
  |nil=>intro acc _;rfl
  |cons y r ih=>
   intro acc hy;obtain ⟨n,k⟩:=y;rw [List.forIn_cons,yX];have hr:=λz hz=>hy z (Qf _ hz)
   cases hk:k==NameKind.free with
   |false=>
    simp only [hk,jbV,if_false,pure_bind];exact ih acc hr
   |true=>
    obtain ⟨c,hc⟩:=hy (n,k) (Qe ..) (by simpa using hk);have Kx:cellOf env n=pure c:=by unfold cellOf;rw [hc]
    simp only [hk,if_true,Kx,pure_bind,hc,Option.getD_some];exact ih _ hr
 simp only [closureFor];rw [key _ _ h];rfl
theorem XU  :∀{names:List (Str×NameKind)} {acc:List (Str×Addr)},(∀y∈names,y.2= .free->∃c,cells.lookup y.1=some c)->(∀c,acc.lookup x=some c->cells.lookup x=some c)->
 (yX cells names acc).lookup x=some c->cells.lookup x=some c
 |[],acc,_,ha,h=>ha c h
 |(n,k)::r,acc,hn,ha,h=>by
  rw [yX] at h;refine XU (λz hz=>hn z (Qf _ hz)) (λc' Kx=>?_) h
  cases hk:k==NameKind.free with
  |false=>rw [hk] at Kx;simp only [jbV,if_false] at Kx;exact ha c' Kx
  |true=>
   rw [hk] at Kx;simp only [if_true] at Kx;obtain ⟨d,hd⟩:=hn (n,k) (Qe ..) (by simpa using hk);rw [jaP] at Kx
   cases hx:x==n with
   |true=>
    rw [hx] at Kx;have e:x=n:=by simpa using hx
    subst e;have KS:cells.lookup x=some d:=hd;rw [KS] at Kx⊢;exact Kx
   |false=>rw [hx] at Kx;exact ha c' Kx
theorem Xu  :∀{names:List (Str×NameKind)} {acc:List (Str×Addr)},((x,NameKind.free)∈names\/(acc.lookup x).isSome=true)->((yX cells names acc).lookup x).isSome=true
 |[],acc,h=>by
  rcases h with h|h
  ·exact absurd h (Qn)
  ·exact h
 |(n,k)::r,acc,h=>by
  rw [yX];refine Xu ?_
  have keep:(acc.lookup x).isSome=true->((if (k==NameKind.free)=true then (n,(cells.lookup n).getD 0)::acc else acc).lookup x).isSome=true:=λz=>by
   split
   ·rw [jaP];split<;>simp [z]
   ·exact z
  rcases h with h|h
  ·rcases Qm.mp h with e|e
   ·cases e;refine .inr ?_
    simp
   ·exact .inl e
  ·exact .inr (keep h)
def xu (X:Cx) (N:List Str) (scope:Scope) (C:Addr) (ex:List Addr) (s:Shared) (H:Hp):Cx where
 prog:=X.prog
 w:=X.w
 K:=X.K
 mg:=X.mg
 base:=X.base
 A:=X.A
 N:=N
 s₀:=s
 H₀:=H
 env:=compEnvC scope (yX X.env.cells scope.names []) C X.env
 outer:=X.stack
 stack:=X.stack
 ex:=ex
 fn:=λ_=>false
 calm:=X.calm
 pn:=[]
 xe:=λ_ _=>False
def frσ (σ:L2.St) (fr:List Nat):L2.St:=fr.map λj=>(σ[j]?).getD none
structure CompOk (X:Cx) (N:List Str) (n:Nat) (fr:List Nat) (scope:Scope):Prop where
 kind:scope.kind= .function
 nd:N.Nodup
 names:(N.drop n)=fr.map (λj=>(X.N[j]?).getD ("":Str))
 own:n<=N.length
 inx:(fr.all λj=>decide (j<X.N.length))=true
 free:((N.drop n).all λx=>decide (scope.names.lookup x=some .free))=true
 nocell:(scope.names.all λy=>decide (y.2≠ .cell))=true
 loc:(scope.names.all λy=>decide (y.2= .local->scope.names.lookup y.1=some .local))=true
 seen:(scope.names.all λy=>decide (y.2= .free->(X.env.kindOf y.1=some .cell\/X.env.kindOf y.1=some .free)))=true
theorem Uy   (h:(relabel scope env).names.lookup x=some k) (hk:k= .cell\/k= .free) (hc:(scope.names.all λy=>decide (y.2≠ .cell))=true):(x,NameKind.free)∈scope.names:=by
 unfold relabel at h;dsimp only at h
 have key:∀names:List (Str×NameKind),(names.all λy=>decide (y.2≠ .cell))=true->
  (names.map λ(n,k)=>if (k==NameKind.free && env.scope.kind== .function && env.kindOf n==some .cell)=true then (n,NameKind.cell) else (n,k)).lookup x=some k->(x,NameKind.free)∈names:=by
  intro names
  induction names with
  |nil=>intro _ h;simp at h
  |cons y r ih=>
   intro ha h;obtain ⟨n,j⟩:=y;rw [List.all_cons,jaE] at ha;rw [Qo] at h;have e1:∀(b:Bool) (k1:NameKind),((if b=true then (n,NameKind.cell) else (n,k1)):Str×NameKind)=(n,if b=true then NameKind.cell else k1):=by intro b k1;cases b<;>rfl
   dsimp only at h;rw [e1,jaP] at h
   cases hx:x==n with
   |false=>rw [hx] at h;exact Qf _ (ih ha.2 h)
   |true=>
    rw [hx] at h;have e:x=n:=by simpa using hx
    subst e;have h':=QL h;have hj:j≠ .cell:=by simpa using ha.1
    have:j= .free:=by
     cases hb:(j==NameKind.free && env.scope.kind== .function && env.kindOf x==some .cell) with
     |true=>
      rw [jaE,jaE] at hb
      simpa using hb.1.1
     |false=>
      rw [hb] at h';simp only [jbV,if_false] at h';subst h'
      rcases hk with z|z
      ·exact absurd z hj
      ·exact z
    subst this;exact Qe ..
 exact key _ hc h
theorem cf  (h:scope.names.lookup x=some .free):(relabel scope env).names.lookup x=some .cell\/(relabel scope env).names.lookup x=some .free:=by
 unfold relabel;dsimp only
 have key:∀names:List (Str×NameKind),names.lookup x=some .free->
  (names.map λ(n,k)=>if (k==NameKind.free && env.scope.kind== .function && env.kindOf n==some .cell)=true then (n,NameKind.cell) else (n,k)).lookup x=some .cell\/(names.map λ(n,k)=>if (k==NameKind.free && env.scope.kind== .function && env.kindOf n==some .cell)=true then (n,NameKind.cell) else (n,k)).lookup x=some .free:=by
  intro names
  induction names with
  |nil=>intro h;simp at h
  |cons y r ih=>
   intro h;obtain ⟨n,j⟩:=y;have e1:∀(b:Bool) (k1:NameKind),((if b=true then (n,NameKind.cell) else (n,k1)):Str×NameKind)=(n,if b=true then NameKind.cell else k1):=by intro b k1;cases b<;>rfl
   rw [Qo];dsimp only;rw [e1,jaP];rw [jaP] at h
   cases hx:x==n with
   |false=>rw [hx] at h;exact ih h
   |true=>
    rw [hx] at h;cases QL h;dsimp only
    split
    ·exact .inl rfl
    ·exact .inr rfl
 exact key _ h
section
variable {X:Cx} {N:List Str} {n:Nat} {fr:List Nat} {scope:Scope} {pins:List (Addr×Obj)} {σ:L2.St} {H:Hp} {s:Shared}
theorem CompOk.cells (O:CompOk X N n fr scope) (I:Inv X pins σ H s):∀y∈scope.names,y.2= .free->∃c,X.env.cells.lookup y.1=some c:=λy hy hf=>I.ok.has y.1 (QB (TU.mp O.seen y hy) hf)
theorem vL   (O:CompOk X N n fr scope) (I:Inv X pins σ H s) (hf:∀b∈fp,rG X pins H b) (OX:∀b∈fp,b<s.heap.objs.size)
 (LU:h'.Ns s.heap.objs.size m) (keep:∀b o,s.heap.get? b=some o->h'.get? b=some o):
 Inv (xu X N scope s.heap.objs.size fp s H) [] (List.replicate n none++frσ σ fr) H {s with heap:=h',toks:=tk}:=by
 have Mr:=O.cells I;have lk:∀x c,(yX X.env.cells scope.names []).lookup x=some c->X.env.cells.lookup x=some c:=λx c h=>XU Mr (λc h=>by simp at h) h;have cne:∀x c,(yX X.env.cells scope.names []).lookup x=some c->∃v,s.heap.IsCell c v:=λx c h=>I.cell x c (lk x c h)
 have clt:∀x c,(yX X.env.cells scope.names []).lookup x=some c->c<s.heap.objs.size:=λx c h=>by
  obtain ⟨v,o,ho,_⟩:=cne x c h;exact Qu ho
 refine ⟨⟨I.mod,O.kind,I.ok.glob,I.ok.blt,Qv _,λx y c h1 h2=>I.ok.inj x y c (lk x c h1) (lk y c h2),λx hx=>?_,λx c h=>(by cases h),I.ok.hd,I.ok.frames, .inl rfl,λb hb=>⟨QM (OX b hb),λx c h=>(hf b hb).2.2.2.2.1 x c (lk x c h)⟩,I.bs,QU I.ok.bsz I.sz,λb o e hb=>?_,λb hb z=>?_,I.stack,I.stkFree⟩,
  rfl,I.bare,Un.kept keep,⟨m,LU,λi x v h1 h2 h3=>?_⟩,λx c h=>?_,I.hok.fresh (Qv _),λx c h=>I.freeC x c (lk x c h),λp hp=>absurd hp (by simp [xu]),I.hok.kept keep,?_⟩
 ·have KH:(x,NameKind.free)∈scope.names:=by
   rcases hx with hx|hx
   ·exact Uy hx (.inl rfl) O.nocell
   ·exact Uy hx (.inr rfl) O.nocell
  exact jaM.mp (Xu (.inl KH))
 ·rcases (hf b hb).2.2.2.1 with z|z
  ·exact I.ok.noex b o e z
  ·exact absurd (QY (Qu (I.ok.bs b o e).1) z) (jaw _)
 ·rcases Qm.mp (I.stkSub b z) with q|q
  ·exact (hf b hb).2.1 q
  ·exact (hf b hb).2.2.1 q
 ·by_cases hi:i<n
  ·rw [jau (by simpa using hi),QZ,QH hi] at h2;cases h2
  ·have Mi:(N.drop n)[i - n]? =some x:=by rw [jar,show n+(i - n)=i by omega];exact h1
   rw [Tz (by simpa using hi),QD] at h2;unfold frσ at h2;rw [Qh] at h2;rw [O.names,Qh] at Mi
   cases ej:fr[i - n]? with
   |none=>rw [ej] at h2;cases h2
   |some j=>
    rw [ej] at h2 Mi;have RA:j<X.N.length:=QB (TU.mp O.inx j (Qc ej))
    have hx:X.N[j]? =some x:=by
     have e:=QL Mi;dsimp only at e;rw [Qb RA] at e⊢;exact congrArg some e
    have hv:σ[j]? =some (some v):=by
     have e:=QL h2;dsimp only at e
     cases es:σ[j]? with
     |none=>rw [es] at e;cases e
     |some o=>rw [es] at e;rw [show o=some v from e]
    have Me:scope.names.lookup x=some .free:=by
     refine QB (TU.mp O.free x ?_);exact Qc (i:=i - n) (by rw [jar,show n+(i - n)=i by omega];exact h1)
    have Nw:(x,NameKind.free)∈scope.names:=jaG Me;have Oc:=QB (TU.mp O.seen _ Nw) rfl;obtain ⟨mX,hnX,Rx⟩:=I.loc;obtain ⟨u,ru,lu⟩:=Rx j x v hx hv (Oc.elim (λz=> .inr (.inl z)) λz=> .inr (.inr z));refine ⟨u,ru, .inr ⟨?_,?_⟩⟩
    ·exact cf Me
    ·obtain ⟨c,hc⟩:=jaM.mp (Xu (cells:=X.env.cells) (acc:=[]) (.inl Nw));refine ⟨c,hc,?_⟩
     rcases lu with ⟨k,_⟩|⟨_,c',Kx,z⟩
     ·rcases Oc with q|q
      ·rw [show X.env.kindOf x=_ from k] at q;cases q
      ·rw [show X.env.kindOf x=_ from k] at q;cases q
     ·have:=lk x c hc;rw [Kx] at this;cases this;obtain ⟨o,ho,hd⟩:=z;exact ⟨o,keep _ _ ho,hd⟩
 ·obtain ⟨v,o,ho,hd⟩:=cne x c h;exact ⟨v,o,keep _ _ ho,hd⟩
 ·rw [Qz,QD];unfold frσ;have e:=congrArg List.length O.names;rw [Ts,Qa] at e;have:=O.own;show _=N.length;rw [Qa];omega
end
def PIf (Y:Cx) (ifs:List Expr) (tt:TT):Prop:=
 ∀(pins:List (Addr×Obj)) (s:Shared) (σ:L2.St) (H:Hp) (Q:Bool->Hp->Prop),Inv Y pins σ H s->tt σ H Q->
  wpAny (model Y.prog Y.w) Y.A (forIn ifs true λc r=>if r=true then do let ok<-isTrue c Y.env (eval c Y.env);pure (ForInStep.yield ok) else pure (ForInStep.yield r)) (TP Y pins σ Q) Y.xe s
def tTrue:TT:=λ_ H Q=>Q true H
theorem qp:PIf Y [] tTrue:=λpins s σ H Q I h=>wpAny_tests_nil ⟨H,I,h⟩
theorem pif_one {Y:Cx} {c:Expr} {tt:TT} (h:PT Y c tt):PIf Y [c] tt:=λpins s σ H Q I q=>wpAny_tests_one (h pins s σ H Q I q)
abbrev Blk (α:Type):=Addr->List Addr->Shared->Hp->α
def uq (n:Nat) (fr:List Nat) (wi:TI) (g:Blk TG) (tt:Blk TT) (te:Blk TE):TE:=λσ H Q=>wi σ H λJ H1=>∀D,H1 D=none->∀C ex s0 H0,
 ∃W:Nat->Nat->List V->Hp->Prop,(∃m,W 0 m [] (upd H1 D (.lst [])))/\∀i m ys H2,W i m ys H2->H2 D=some (.lst ys)/\
  ((J.stop i H2/\Q (.ref D) H2)\/(J.go i H2/\∀x H3,J.yld i H2 x H3->g C ex s0 H0 x (List.replicate n none++frσ σ fr) H3 λσ4 H4=>σ4.drop n=frσ σ fr/\tt C ex s0 H0 σ4 H4 λb H5=>
    if b=true then te C ex s0 H0 σ4 H5 λy H6=>H6 D=some (.lst ys)/\ys.length<sizeLine/\∃m',m'<m/\W (i+1) m' (ys++[y]) (upd H6 D (.lst (ys++[y])))
    else ∃m',m'<m/\W (i+1) m' ys H5))
structure Side (X:Cx) (pins:List (Addr×Obj)) (H:Hp) (C:Addr):Prop where
 nt:H C=none
 nl:C≠X.env.locals
 ab:X.s₀.heap.objs.size<=C
 nc:∀x c,X.env.cells.lookup x=some c->c≠C
 np:∀p∈X.pn++pins,p.1≠C
section
variable {X:Cx} {N:List Str} {n:Nat} {fr:List Nat} {scope:Scope}
theorem yS {α:Type} {M:Model} {A:Around} {m:Sem α} {Q:α->Shared->Prop} {E:Value->Shared->Prop} {s:Shared} (h:wpAny M A m Q (λ_ _=>False) s):wpAny M A m Q E s:=wpAny_mono h (λ_ _ q=>q) λ_ _ z=>z.elim
theorem tH {tg iter elt:Expr} {ifs:List Expr} {pos:Pos} {g:Blk TG} {tt:Blk TT} {te:Blk TE} {pins:List (Addr×Obj)} {σ:L2.St} {H2:Hp} {s2:Shared} {it:Addr} {fp:List Addr} {tn:Nat->Heap->Prop} {J:It} {Q:VK}
 {RR:Value->Addr->Result->Shared->Prop} {E:Value->Shared->Prop}
 (hc:X.calm=true) (O:CompOk X N n fr scope)
 (hg:∀C ex s H,PG (xu X N scope C ex s H) tg (g C ex s H)) (ht:∀C ex s H,PIf (xu X N scope C ex s H) ifs (tt C ex s H)) (he:∀C ex s H,PE (xu X N scope C ex s H) elt (te C ex s H))
 (I2:Inv X pins σ H2 s2) (T:Turn X.prog X.w X.K tg J fp it tn) (La:tn 0 s2.heap) (f2:∀b∈fp,rG X pins H2 b)
 (hW:∀D,H2 D=none->∀C ex s0 H0,∃W:Nat->Nat->List V->Hp->Prop,(∃m,W 0 m [] (upd H2 D (.lst [])))/\∀i m ys H2,W i m ys H2->H2 D=some (.lst ys)/\
  ((J.stop i H2/\Q (.ref D) H2)\/(J.go i H2/\∀x H3,J.yld i H2 x H3->g C ex s0 H0 x (List.replicate n none++frσ σ fr) H3 λσ4 H4=>σ4.drop n=frσ σ fr/\tt C ex s0 H0 σ4 H4 λb H5=>
    if b=true then te C ex s0 H0 σ4 H5 λy H6=>H6 D=some (.lst ys)/\ys.length<sizeLine/\∃m',m'<m/\W (i+1) m' (ys++[y]) (upd H6 D (.lst (ys++[y])))
    else ∃m',m'<m/\W (i+1) m' ys H5)))
 (hR:∀(D C:Addr) (H':Hp) (s':Shared),Q (.ref D) H'->(∃m,s'.heap.Ns C m)->Side X pins H' C->Inv X pins σ H' s'->RR (.ref D) C (.ok .next) s'):
 wpAny (model X.prog X.w) X.A (newList []) (λacc s₃=>wpAny (model X.prog X.w) X.A (newFunctionEnv scope X.env.globals (yX X.env.cells scope.names []) [] X.env.qual none .none (some X.env)) (λcenv s₄=>
  codeAny (model X.prog X.w) X.A (.compStart (.ListComp elt [⟨tg,iter,ifs,0⟩] scope pos) 0 (.ref it) acc {cenv with scope:=relabel scope X.env}) (RR acc cenv.locals) s₄) E s₃) E s2:=by
 have nocell:∀y∈scope.names,y.2≠ .cell:=λy hy=>QB (TU.mp O.nocell y hy);refine jad (wpAny_newFunctionEnv nocell (by intro y hy;simp at hy) (λh₁ LU₁ ON₁=>?_) O.kind);have Sd:H2 s2.heap.objs.size=none:=I2.fresh;have I3:Inv X pins σ (upd H2 s2.heap.objs.size (.lst [])) {s2 with heap:=s2.heap.push {cls:= .type "list",data:= .seq ([]:List Value).toArray},toks:=s2.toks}:=I2.lnew (its:=[]) .nil (jal _);generalize hD:s2.heap.objs.size=D at*;dsimp only at LU₁ ON₁⊢;generalize NW:s2.heap.push {cls:= .type "list",dict:=none,data:= .seq ([]:List Value).toArray}=Ks at*;have PU:∀b o,s2.heap.get? b=some o->Ks.get? b=some o:=λb o e=>by rw [<-NW];exact Qi _ e
 have PC:Ks.objs.size=D+1:=by rw [<-NW,QW,hD]
 have keep:∀b o,Ks.get? b=some o->h₁.get? b=some o:=λb o e=>ON₁.extBut b o (QM (Qu e)) (Qi _ e)
 have flt:∀b∈fp,b<D:=λb hb=>by
  obtain ⟨o,ho,_⟩:=T.obj _ _ La b hb;rw [<-hD];exact Qu ho
 have f3:∀b∈fp,rG X pins (upd H2 D (.lst [])) b:=λb hb=>⟨by rw [yg (QM (flt b hb))];exact (f2 b hb).1,(f2 b hb).2⟩;have IY:=vL (tk:=s2.toks+([]:List (Str×Value)).length) O I3 f3 (λb hb=>by show b<Ks.objs.size;rw [PC];exact TC (flt b hb)) LU₁ keep;obtain ⟨W,⟨m0,w0⟩,turn⟩:=hW _ Sd Ks.objs.size fp {s2 with heap:=Ks,toks:=s2.toks} (upd H2 D (.lst []));have NK:tn 0 h₁:=T.keep _ _ _ La λb hb o e=>keep b o (PU b o e);generalize hY:xu X N scope Ks.objs.size fp {s2 with heap:=Ks,toks:=s2.toks} (upd H2 D (.lst []))=Y at*;have eEnv:Y.env=compEnvC scope (yX X.env.cells scope.names []) Ks.objs.size X.env:=by rw [<-hY];rfl
 have Og:=hg Ks.objs.size fp {s2 with heap:=Ks,toks:=s2.toks} (upd H2 D (.lst []));have NV:=ht Ks.objs.size fp {s2 with heap:=Ks,toks:=s2.toks} (upd H2 D (.lst []));have Oi:=he Ks.objs.size fp {s2 with heap:=Ks,toks:=s2.toks} (upd H2 D (.lst []));rw [hY] at Og NV Oi;have eP:Y.prog=X.prog:=by rw [<-hY];rfl
 have eW:Y.w=X.w:=by rw [<-hY];rfl
 have eK:Y.K=X.K:=by rw [<-hY];rfl
 have eA:Y.A=X.A:=by rw [<-hY];rfl
 have eC:Y.calm=true:=by rw [<-hY];exact hc
 have eX:Y.xe=λ_ _=>False:=by rw [<-hY];rfl
 have fY:∀{H':Hp},(∀b∈fp,H' b=none)->∀b∈fp,rG Y [] H' b:=λ{H'} hn b hb=>by
  have h1:=IY.ok.exf b (by rw [<-hY];exact hb);refine ⟨hn b hb,h1.1,IY.ok.exfs b (by rw [<-hY];exact hb), .inl (by rw [<-hY];exact hb),h1.2,λp hp=>absurd hp (by rw [<-hY];simp [xu])⟩
 have loop:codeAny (model X.prog X.w) X.A (.compLoop (.ListComp elt [⟨tg,iter,ifs,0⟩] scope pos) 0 (.ref it) (.ref D) (compEnvC scope (yX X.env.cells scope.names []) Ks.objs.size X.env))
  (RR (.ref D) Ks.objs.size) {s2 with heap:=h₁,toks:=s2.toks+([]:List (Str×Value)).length}:=by
  refine codeAny_loop rfl (λk s'=>∃i ys H',Inv Y [] (List.replicate n none++frσ σ fr) H' s'/\tn i s'.heap/\(∀b∈fp,H' b=none)/\W i k ys H') (λk s5 hI=>?_) m0 ⟨0,[],_,IY,NK,λb hb=>(f3 b hb).1,w0⟩;obtain ⟨i,ys,H5,I5,Mu,Nk,w5⟩:=hI;show wpAny _ X.A ((compTurn (.ListComp elt [⟨tg,iter,ifs,0⟩] scope pos) 0 (.ref it) (.ref D) _).onRaise (λx=>do noteFrame x _;theTreesLotGoes x)) _ _ s5;refine wpAny_noted ?_;rw [compTurn_list,<-eEnv];refine Qg (wpAny_standAt (Qg ?_));obtain ⟨Pc,step⟩:=turn i k ys H5 w5
  rcases step with ⟨stop,qn⟩|⟨go,step⟩
  ·have d:=T.done Y eP eW eK eC i [] s5 _ H5 (λ_ _=>False) I5 (fY Nk) Mu stop;rw [eA] at d;refine yS (thn d λr s6 hh=>?_);obtain ⟨hr,I6⟩:=hh;subst hr;refine Qp ?_;have hC:H5 Ks.objs.size=none:=by have:=I6.free;rw [eEnv] at this;exact this
   have Na:∃m,s6.heap.Ns Ks.objs.size m:=by
    have:=I6.loc;rw [eEnv] at this;obtain ⟨m,hm,_⟩:=this;exact ⟨m,hm⟩
   have sd:Side X pins H5 Ks.objs.size:=⟨hC,jbb I3.lt,I3.sz,λx c e=>QM (let ⟨v,o,ho,_⟩:=I3.cell x c e;Qu ho),λp hp=>QM (Qu (I3.pin p hp).1)⟩;refine hR D Ks.objs.size H5 s6 qn Na sd ?_;have un:=I6.base;have e0:Y.s₀.heap=Ks:=by rw [<-hY];rfl
   have Sl:Y.H₀=upd H2 D (.lst []):=by rw [<-hY];rfl
   have eF:Y.fs=frs X.stack:=by rw [<-hY];rfl
   have eEx:Y.ex=fp:=by rw [<-hY];rfl
   rw [e0,Sl,eF,eEx] at un;have Ma:HOk X.prog X.w H5 s6.heap:=by have:=I6.hok;rw [eP,eW] at this;exact this
   have PM:s6.os=s2.os:=I6.os.trans (by rw [<-hY];rfl);exact I3.call' (s':=s6) (ch:=fp) PM un Ma I6.bare λb hb=>⟨(f2 b hb).2.2.2.1,(f2 b hb).2.1,(f2 b hb).2.2.2.2.1,(f2 b hb).2.2.2.2.2⟩
  ·have d:=T.item Y eP eW eK eC i [] s5 _ H5 (λ_ _=>False) I5 (fY Nk) Mu go;rw [eA] at d;refine yS (thn d λr s6 hh=>?_);obtain ⟨u,hr,h6⟩:=hh;subst hr;refine Qg (yS (thn h6 λ_ s7 hh=>?_));obtain ⟨x,H7,I7,r7,y7,MR,Sj⟩:=hh;have I7':=I7.pinned (fY Sj) (T.obj _ _ MR);have g7:=Og _ s7 _ H7 x u _ I7' r7 (step x H7 y7);rw [eA,eP,eW,eX] at g7;refine Qg (yS (thn g7 λ_ s8 hh=>?_));obtain ⟨σ8,H8,I8,ed,q8⟩:=hh;have t8:=NV _ s8 σ8 H8 _ I8 q8;rw [eA,eP,eW,eX] at t8;refine Qg (yS (thn t8 λb s9 hh=>?_));obtain ⟨H9,I9,q9⟩:=hh
   have back:∀{s':Shared} {H':Hp} {MQ:List V} {m':Nat},Inv Y ([]++iZ fp s7.heap) σ8 H' s'->m'<k->W (i+1) m' MQ H'->∃m,m<k/\∃i ys H',Inv Y [] (List.replicate n none++frσ σ fr) H' s'/\tn i s'.heap/\(∀b∈fp,H' b=none)/\W i m ys H':=λ{s' H' MQ m'} I' hm w'=>by
    refine ⟨m',hm,i+1,MQ,H',?_,T.keep _ _ _ MR λb hb o e=>(I'.pin (b,o) (QE _ (QE _ (Yg hb e)))).1,λb hb=>?_,w'⟩
    ·refine (Inv.unpinned I').weak ?_ λj v hj=>?_
     ·exact IY.len.trans I'.len.symm
     ·by_cases Nc:j<n
      ·rw [jau (by simpa using Nc),QZ,QH Nc] at hj;cases hj
      ·rw [Tz (by simpa using Nc),QD,<-ed,jar,show n+(j - n)=j by omega] at hj;exact hj
    ·obtain ⟨o,e,d⟩:=T.obj _ _ MR b hb;exact (I'.pin (b,o) (QE _ (QE _ (Yg hb e)))).2.1
   cases b with
   |false=>
    obtain ⟨m',hm,w9⟩:=q9;exact Qp ⟨rfl,back I9 hm w9⟩
   |true=>
    have e9:=Oi _ s9 σ8 H9 _ I9 q9;rw [eA,eP,eW,eX] at e9;refine Qg (Qg (yS (thn e9 λv PF hh=>?_)));obtain ⟨y,Mn,SE,PK,Nj,hz,m',hm,Mt⟩:=hh;have Oz:=nN _ PF σ8 Mn (.ref D) [y] (.ref D) [v] (λ_ H'=>H'=upd Mn D (.lst (ys++[y]))) SE rfl (.cons PK .nil) ⟨D,ys,y,rfl,rfl,Nj,hz,rfl⟩;rw [eA,eP,eW,eX] at Oz;refine Qg (yS (thn Oz λ_ s11 hh=>?_));obtain ⟨_,MP,SD,_,Nl⟩:=hh;subst Nl;exact Qp (Qp ⟨rfl,back SD hm Mt⟩)
 exact codeAny_compStart_list loop (T.self _ _ _ _ _ NK loop)
theorem HR {tg iter elt:Expr} {ifs:List Expr} {pos:Pos} {wi:TI} {g:Blk TG} {tt:Blk TT} {te:Blk TE}
 (hc:X.calm=true) (O:CompOk X N n fr scope) (hi:PI X tg iter wi)
 (hg:∀C ex s H,PG (xu X N scope C ex s H) tg (g C ex s H)) (ht:∀C ex s H,PIf (xu X N scope C ex s H) ifs (tt C ex s H)) (he:∀C ex s H,PE (xu X N scope C ex s H) elt (te C ex s H))
 (hs:∀x,foldedSetIterable iter X.env x=pure x:=by intro _;rfl):
 PE X (.ListComp elt [⟨tg,iter,ifs,0⟩] scope pos) (uq n fr wi g tt te):=by
 intro pins s σ H Q I h;rw [eval_ListComp];refine jbN (use:=none) rfl hs (XT (O.cells I)) O.kind (λy hy=>QB (TU.mp O.loc y hy)) (thn (hi pins s σ H _ I h) λv s1 h1=>thn h1 λitv s2 h2=>?_);obtain ⟨it,fp,tn,J,H2,e,I2,T,La,f2,hW⟩:=h2;subst e;refine tH (RR:=λacc C=>compPost (model X.prog X.w) X.A X.xe none (EP X pins σ Q) acc C) hc O hg ht he I2 T La f2 hW ?_;intro D C H' s' q ⟨m,hm⟩ sd inv;exact ⟨m,hm,λh' MF=>⟨.ref D,H',inv.turned (t':=s'.toks) (it:=C) (λb o hb e=>MF.extBut b o hb e) sd.nt sd.nl (.inr sd.ab) sd.nc sd.np,rfl,q⟩⟩
theorem uL {i:Nat} {x:Str} {px:Pos} {tg iter elt:Expr} {ifs:List Expr} {pos spos:Pos} {wi:TI} {g:Blk TG} {tt:Blk TT} {te:Blk TE}
 (hN:X.N.Nodup) (hx:X.N[i]? =some x) (hk:X.env.scope.names.lookup x=some .local)
 (hc:X.calm=true) (O:CompOk X N n fr scope) (hi:PI X tg iter wi)
 (hg:∀C ex s H,PG (xu X N scope C ex s H) tg (g C ex s H)) (ht:∀C ex s H,PIf (xu X N scope C ex s H) ifs (tt C ex s H)) (he:∀C ex s H,PE (xu X N scope C ex s H) elt (te C ex s H))
 (Rf:swapsWith (.ListComp elt [⟨tg,iter,ifs,0⟩] scope pos) (some (.Name x px)) spos.line X.env=pure true:=by rfl)
 (hs:∀x,foldedSetIterable iter X.env x=pure x:=by intro _;rfl):
 PS X (.Assign [.Name x px] (.ListComp elt [⟨tg,iter,ifs,0⟩] scope pos) spos) (Jj (uq n fr wi g tt te) (lE i)):=by
 intro pins s σ H D I h;rw [exec_Assign_Name_used _ _ _ _ Rf];refine Qg (wpAny_standAt (Qg ?_));show wpAny _ X.A (do let _<-comprehension (.ListComp elt [⟨tg,iter,ifs,0⟩] scope pos) scope X.env _ (newList []) false (eval iter X.env) (some (assign (.Name x px) X.env))) _ _ s
 refine Qg (wpAny_mono (jbN (use:=some (assign (.Name x px) X.env)) (Q:=λ_ s'=>SP X pins D .next s') rfl hs (XT (O.cells I)) O.kind (λy hy=>QB (TU.mp O.loc y hy))
  (thn (hi pins s σ H _ I h) λv s1 h1=>thn h1 λitv s2 h2=>?_)) (λ_ s' hq=>Qp (Qp hq)) λ_ _ e=>e)
 obtain ⟨it,fp,tn,J,H2,e,I2,T,La,f2,hW⟩:=h2;subst e;refine tH (Q:=λx H1=>lE i x σ H1 D.nx) (RR:=λacc C=>compPost (model X.prog X.w) X.A X.xe (some (assign (.Name x px) X.env)) (λ_ s'=>SP X pins D .next s') acc C) hc O hg ht he I2 T La f2 hW ?_;intro Dl C H' s' q ⟨m,hm⟩ sd inv;show wpAny _ X.A (assign (.Name x px) X.env (.ref Dl)) _ _ _;refine wpAny_assign_Name (mF (i:=i) (v:= .ref Dl) inv hN hx (.inl hk) rfl (λs6 I6 ⟨a,ON,ha⟩=>?_) (.inr hk))
 have hCa:C≠a:=by
  rcases ha with z|z
  ·rw [z];exact sd.nl
  ·exact λe=>sd.nc x a z e.symm
 refine ⟨m,hm.sameBut ON hCa,λh' MF=>?_⟩;refine ⟨_,H',I6.turned (t':=s6.toks) (it:=C) (λb o hb e=>MF.extBut b o hb e) sd.nt sd.nl (.inr sd.ab) sd.nc sd.np,q⟩
end
open PySem.AutoSeq1 (wpAny_loadPart')
def ItB (b:Bool) (h:Heap) (it a:Addr) (i:Nat):Prop:=match b with|true=>h.IsListIter it a i|false=>h.IsTupleIter it a i
def SeB (b:Bool) (h:Heap) (a:Addr) (items:Array Value):Prop:=match b with|true=>h.IsList a items|false=>h.IsTuple a items
def SqB (b:Bool) (K:Frg) (H:Hp) (a:Addr) (xs:List V):Prop:=match b with|true=>SqL K H a xs|false=>SqT K H a xs
theorem ItB.at {b:Bool} {h h':Heap} {it a:Addr} {i:Nat} (x:ItB b h it a i) (k:∀o,h.get? it=some o->h'.get? it=some o):ItB b h' it a i:=by
 cases b with
 |true=>obtain ⟨o,ho,r⟩:=x;exact ⟨o,k o ho,r⟩
 |false=>obtain ⟨o,ho,r⟩:=x;exact ⟨o,k o ho,r⟩
theorem ItB.obj {b:Bool} {h:Heap} {it a:Addr} {i:Nat} (x:ItB b h it a i):∃o,h.get? it=some o/\∀v,o.data≠ .cell v:=by
 cases b with
 |true=>obtain ⟨o,ho,c,d⟩:=x;exact ⟨o,ho,λv z=>by rw [d] at z;cases z⟩
 |false=>obtain ⟨o,ho,c,d⟩:=x;exact ⟨o,ho,λv z=>by rw [d] at z;cases z⟩
theorem SeB.at {b:Bool} {h h':Heap} {a:Addr} {items:Array Value} (x:SeB b h a items) (k:∀o,h.get? a=some o->h'.get? a=some o):SeB b h' a items:=by
 cases b with
 |true=>obtain ⟨o,ho,r⟩:=x;exact ⟨o,k o ho,r⟩
 |false=>obtain ⟨o,ho,r⟩:=x;exact ⟨o,k o ho,r⟩
theorem SeB.obj {b:Bool} {h:Heap} {a:Addr} {items:Array Value} (x:SeB b h a items):∃o,h.get? a=some o:=by
 cases b with
 |true=>obtain ⟨o,ho,r⟩:=x;exact ⟨o,ho⟩
 |false=>obtain ⟨o,ho,r⟩:=x;exact ⟨o,ho⟩
section
variable {X:Cx} {pins:List (Addr×Obj)} {σ:L2.St} {H:Hp} {s:Shared} {a:Addr} {xs ys:List V} {b:Bool}
theorem seB (I:Inv X pins σ H s) (h:SqB b X.K H a xs):∃its:List Value,xx xs its/\SeB b s.heap a its.toArray/\xs.length<=sizeLine:=by
 cases b with
 |true=>obtain ⟨its,r,p,z⟩:=I.list h;exact ⟨its,r,p.isList,z⟩
 |false=>obtain ⟨its,r,p,z⟩:=I.tuple h;exact ⟨its,r,p,z⟩
theorem pU (I:Inv X pins σ H s) (h:SqB b X.K H a xs) (h':SqB b X.K H a ys):xs=ys:=by
 cases b with
 |true=>exact I.list_inj h h'
 |false=>exact I.tuple_inj h h'
end
section
variable {prog:Program} {w:World} {A:Around} {E:Value->Shared->Prop} {s:Shared}
theorem aL {it t:Addr} {i:Nat} {items} {x:Value} {Q:Value->Shared->Prop} (hit:s.heap.IsTupleIter it t i)
 (ht:s.heap.IsTuple t items) (hx:items[i]? =some x)
 (hQ:∀h',h'.IsTupleIter it t (i+1)->Heap.SameBut it s.heap h'->Q x {s with heap:=h'}):
 wpAny (model prog w) A (Builtin.SmallTypes.nextOf (.ref it)) Q E s:=by
 obtain ⟨o,ho,hc,hd⟩:=id hit;obtain ⟨ol,Rm,_,nl,RM⟩:=ht;unfold Builtin.SmallTypes.nextOf
 refine Qg (TK (name:=Str.ofString "__next__") hit.typeIs jaZ
  (jac jaZ hit.typeIs F.entry_tuple_iterator_next ?_ (F.args_tuple_iterator_next_1 _)))
 show wpAny _ _ (field (.ref it) 0>>=_) _ _ s;refine Qg (jaQ ho hd (x:= .ref t) rfl ?_);show wpAny _ _ (if (Value.ref t==Value.none)=true then _ else _) _ _ s;rw [QO (show ¬((Value.ref t==Value.none)=true) from QK)];show wpAny _ _ (field (.ref it) 1>>=_) _ _ s;refine Qg (jaQ ho hd (x:= .int i 0) rfl ?_);show wpAny _ _ (seqItems? (.ref t)>>=_) _ _ s;refine Qg (jbg Rm RM ?_);simp only [Tg,hx];refine Qg (jbh ho hd (by simp) (Qp ⟨x,rfl,Qp (hQ _ ?_ (jaa ..))⟩))
 exact ⟨_,jaH _ ho (Obj.isFreed_of_fields (jbW hd _)),(Obj.cls_mapFields ..).trans hc,by
  rw [jbW hd];simp [rawInt]⟩
theorem cB {it t:Addr} {i:Nat} {items} {Q:Value->Shared->Prop} (hh:A.handled=none)
 (hit:s.heap.IsTupleIter it t i) (ht:s.heap.IsTuple t items) (hx:items[i]? =none)
 (hE:∀h' e,Heap.ExtBut it s.heap h'->(∃o,h'.get? e=some o/\o.cls= .type "StopIteration")->E (.ref e) {s with heap:=h'}):
 wpAny (model prog w) A (Builtin.SmallTypes.nextOf (.ref it)) Q E s:=by
 obtain ⟨o,ho,hc,hd⟩:=id hit;obtain ⟨ol,Rm,_,nl,RM⟩:=ht;unfold Builtin.SmallTypes.nextOf
 refine Qg (TK (name:=Str.ofString "__next__") hit.typeIs jaZ
  (jac jaZ hit.typeIs F.entry_tuple_iterator_next ?_ (F.args_tuple_iterator_next_1 _)))
 show wpAny _ _ (field (.ref it) 0>>=_) _ _ s;refine Qg (jaQ ho hd (x:= .ref t) rfl ?_);show wpAny _ _ (if (Value.ref t==Value.none)=true then _ else _) _ _ s;rw [QO (show ¬((Value.ref t==Value.none)=true) from QK)];show wpAny _ _ (field (.ref it) 1>>=_) _ _ s;refine Qg (jaQ ho hd (x:= .int i 0) rfl ?_);show wpAny _ _ (seqItems? (.ref t)>>=_) _ _ s;refine Qg (jbg Rm RM ?_);simp only [Tg,hx];refine Qg (jcd (Qg (jbh ho hd (by simp) ?_)));show wpAny _ _ (newExc (.type "StopIteration") []>>=_) _ _ _;refine Qg ?_;simp only [newExc,newTuple];refine Qg (jad ?_ (by size_fits));refine Qg (m:=firstArgMember _ _) (wpAny_of_eq (a:=Value.none) (by first|rfl|(simp only [firstArgMember];rfl)) ?_);refine jad ?_ (by size_fits);simp only [raiseNew];refine Qg (wpAny_handled ?_)
 first|rw [show A.in1.handled=none from hh]|rw [hh]
 refine Qg (Qp (wpAny_throw ?_));exact hE _ _ (((jaa ..).extBut.push _).push _) ⟨_,Qw _ rfl,rfl⟩
theorem Vc {b:Bool} {it a:Addr} {i:Nat} {items} {x:Value} {Q:Value->Shared->Prop} (hit:ItB b s.heap it a i) (hl:SeB b s.heap a items) (hx:items[i]? =some x)
 (hQ:∀h',ItB b h' it a (i+1)->Heap.SameBut it s.heap h'->Q x {s with heap:=h'}):wpAny (model prog w) A (Builtin.SmallTypes.nextOf (.ref it)) Q E s:=by
 cases b with
 |true=>exact wpAny_nextOf_list_item hit hl hx hQ
 |false=>exact aL hit hl hx hQ
theorem UG {b:Bool} {it a:Addr} {i:Nat} {items} {Q:Value->Shared->Prop} (hh:A.handled=none) (hit:ItB b s.heap it a i) (hl:SeB b s.heap a items) (hx:items[i]? =none)
 (hE:∀h' e,Heap.ExtBut it s.heap h'->(∃o,h'.get? e=some o/\o.cls= .type "StopIteration")->E (.ref e) {s with heap:=h'}):
 wpAny (model prog w) A (Builtin.SmallTypes.nextOf (.ref it)) Q E s:=by
 cases b with
 |true=>exact wpAny_nextOf_list_end hh hit hl hx hE
 |false=>exact cB hh hit hl hx hE
end
theorem drawsB {prog:Program} {w:World} {A:Around} (hh:A.handled=none) (b:Bool) (it a:Addr) (KN:a≠it) (items:Array Value):
 Draws prog w A it [it,a] items.size (λi x=>items[i]? =some x) (λi h=>ItB b h it a i/\SeB b h a items) where
 live:=λi h KD=>by obtain ⟨o,ho,_⟩:=KD.1.obj;exact ⟨o,ho⟩
 frame:=λi h h' KD hk=>⟨KD.1.at λo e=>hk _ (by simp) o e,KD.2.at λo e=>hk _ (by simp) o e⟩
 item:=λi s Q E hi KD hQ=>Vc KD.1 KD.2 (Array.getElem?_eq_getElem hi) λh' RC MF=>hQ _ h' s.toks (Array.getElem?_eq_getElem hi) ⟨RC,KD.2.at λo e=>(MF.2 _ KN).trans e⟩ MF
 done:=λs Q E KD hE=>UG hh KD.1 KD.2 (by simp) hE
theorem UO {X:Cx} {pins:List (Addr×Obj)} {σ:L2.St} {H:Hp} {s:Shared} {h':Heap} {t':Nat} {ch:List Addr} {a:Addr} {o:HO} (I:Inv X pins σ H s) (hf:∀b∈ch,rG X pins H b)
 (k:∀b o,b∉ch->s.heap.get? b=some o->h'.get? b=some o) (th:∀b∈ch,∃o,h'.get? b=some o) (ha:s.heap.objs.size<=a) (new:Yd X.prog X.w (upd H a o) h' a o):
 Inv X pins σ (upd H a o) {s with heap:=h',toks:=t'}:=by
 have hna:H a=none:=I.hok.fresh ha;have same:zV H (upd H a o):=zV.new hna o
 refine I.step (g':=s.gens) (d':=s.drawn) (ch:=ch) (λb hb=>⟨(hf b hb).2.2.2.1,(hf b hb).2.1,(hf b hb).2.2.2.2.1,(hf b hb).2.2.2.2.2⟩) (λb u _ _ hc e _=>k b u hc e) (λb u _ _ hc e _=>⟨u.slots,k b u hc e⟩)
  (λb u hc e n=>by rw [yg (QM (QY (Qu e) ha))];exact n) (λb u hc e=>⟨u,k b u hc e⟩) (λb xs e=>same _ _ e) (λb u v e=>same _ _ e) (λb ps e=>⟨#[],by rw [same _ _ e];simp⟩) (λm hm=>?_) (λb u e=>?_) I.bare
 ·obtain ⟨ob,es,ep,ho,r⟩:=hm;exact ⟨ob,es,ep,k _ ob (λz=>(hf _ z).2.1 rfl) ho,r⟩
 ·by_cases hb:b=a
  ·subst hb;rw [yM] at e;cases e;exact new
  ·rw [yg hb] at e;refine (I.hok b u e).stay (λc v hc q=>k c v ?_ q) (λ_ q=>same _ _ q) λ_ _ q=>same _ _ q;intro z
   rcases hc with q|q
   ·rw [q] at z;rw [(hf b z).1] at e;cases e
   ·rw [(hf c z).1] at q;cases q
def ItE (b:Bool) (K:Frg) (a:Addr):It:=
 ⟨λi H=>∃xs x,SqB b K H a xs/\xs[i]? =some x,λi H v H'=>∃p x,(∀xs,SqB b K H a xs->xs[i]? =some x)/\H p=none/\v= .ref p/\H'=upd H p (.tup [.int i,x]),λi H=>∃xs,SqB b K H a xs/\xs.length<=i⟩
theorem mG:(2:Nat)<=sizeLine:=by decide
theorem wK {P:Program} {w:World} {K:Frg} {elts:List Expr} {k:Nat} {pos:Pos} (b:Bool) (a e it:Addr) (Ot:a≠it) (OY:e≠it) (hea:e≠a):
 Turn P w K (.Tuple elts k pos) (ItE b K a) [e,it] e (λi h=>(∃old,IsEnum h e it i old)/\ItB b h it a i) where
 mem:=by simp
 obj:=λi h st c hc=>by
  rcases Qm.mp hc with rfl|hc
  ·obtain ⟨old,z⟩:=st.1;exact ⟨_,z,λv q=>by cases q⟩
  ·obtain rfl:c=it:=by simpa using hc
   exact st.2.obj
 keep:=λi h h' st kk=>by
  obtain ⟨⟨old,z⟩,y⟩:=st;exact ⟨⟨old,kk e (by simp) _ z⟩,y.at λo q=>kk it (by simp) o q⟩
 item:=by
  intro X hP hw hK hc i pins s σ H E I hf st hg;subst hP hw hK;obtain ⟨⟨old,he⟩,hit⟩:=st;obtain ⟨xs,x,hq,hx⟩:=hg;obtain ⟨its,rv,p,hz⟩:=seB I hq;obtain ⟨u,hu,ru⟩:=rv.get hx;have hh:=I.ok.hd hc;have hi:i<its.toArray.size:=by have:=(Qd.mp hu).1;simpa using this
  refine wpAny_pyNext_enum_itemD (drawsB (A:=X.A.in1) hh b it a Ot its.toArray) he ⟨hit,p⟩ hi OY (by simp only [Qm,Qn,or_false,not_or];exact ⟨OY,hea⟩) λx' h' tk hP ho KD hT LR hk=>?_
  have ex:x'=u:=by
   have hP':its[i]? =some x':=by simpa using hP
   rw [hu] at hP';exact (QL hP').symm
  subst ex;refine ⟨_,rfl,wpAny_letOwnedTupleGo_enum ho λMy Oj LK=>?_⟩;have Oh:e<s.heap.objs.size:=Qu he;have RD:it<s.heap.objs.size:=by obtain ⟨o,z,_⟩:=hit.obj;exact Qu z
  have Mh:My.get? s.heap.objs.size=some {cls:= .type "tuple",data:= .seq #[.int i tk,x']}:=(LK.2 _ (jbb Oh)).trans hT;refine ⟨.ref s.heap.objs.size,upd H s.heap.objs.size (.tup [.int i,x]),?_,rfl,⟨_,x,λys hy=>by rw [pU I hy hq];exact hx,I.fresh,rfl,rfl⟩,⟨⟨x',by simpa using Oj⟩,KD.1.at λo q=>(LK.2 _ OY.symm).trans q⟩,λc hc=>?_⟩
  ·refine UO (s:=s) (t':=tk+1) (ch:=[e,it]) I hf (λc o KQ q=>(LK.2 c (λz=>KQ (by simp [z]))).trans (hk c o (λz=>KQ (by simp [z])) (λz=>KQ (by simp [z])) q)) (λc hc=>?_) (Qv _) ⟨mG,[.int i tk,x'], .cons ⟨tk,rfl⟩ (.cons ru .nil),⟨_,Mh,rfl,_,rfl⟩⟩
   rcases Qm.mp hc with rfl|hc
   ·exact ⟨_,Oj⟩
   ·obtain rfl:c=it:=by simpa using hc
    obtain ⟨o,z,_⟩:=KD.1.obj;exact ⟨o,(LK.2 _ OY.symm).trans z⟩
  ·have Kr:c<s.heap.objs.size:=by
    rcases Qm.mp hc with rfl|hc
    ·exact Oh
    ·obtain rfl:c=it:=by simpa using hc
     exact RD
   rw [yg (QM Kr)];exact (hf c hc).1
 done:=by
  intro X hP hw hK hc i pins s σ H E I hf st hg;subst hP hw hK;obtain ⟨⟨old,he⟩,hit⟩:=st;obtain ⟨xs,hq,hx⟩:=hg;obtain ⟨its,rv,p,hz⟩:=seB I hq;have hh:=I.ok.hd hc;have hl:=rv.length;obtain ⟨f0,f1,f2,f3,f4,f5⟩:=hf it (by simp);have hT:s.TypeIs (.ref e) "enumerate":=⟨_,he,rfl⟩;unfold pyNext;refine Qg (jbC (TK (name:=Str.ofString "__next__") hT F.slot_enumerate_next (jac F.slot_enumerate_next hT F.entry_enumerate_next ?_ (F.args_enumerate_next_1 _))));show wpAny _ _ (field (.ref e) 2>>=_) _ _ _;refine Qg (jaQ he rfl (x:= .ref it) rfl ?_);refine Qg (UG (A:=X.A.in1) hh hit p (by simp;omega) λh' y Ol KH=>?_);obtain ⟨o,ho,Mr⟩:=KH;refine Qg (wpAny_isInstance (T:="StopIteration") (b:=true) ⟨o,ho,Mr⟩ isSubtype_stop ?_);exact Qp ⟨rfl,I.turned (t':=s.toks) (λc o hb e=>Ol c o hb e) f0 f1 f3 f4 f5⟩
 self:=λ_ _ _ _ _ st h=>by
  obtain ⟨⟨old,he⟩,_⟩:=st;exact wpAny_pyIter_enum he h
theorem nO (l:Addr) (items:Array Value) (n:Nat) (dct:Option Addr) (sl:Array (Option Value)):
 Meets (Builtin.«enumerate.__new__» ⟨[.type "enumerate", .ref l],[]⟩) (λ_ R s=>s.heap.get? l=some {cls:= .type "tuple",dict:=dct,data:= .seq items n,slots:=sl}/\
  R (.ok (.ret (.ref (s.heap.push {cls:= .type "tuple_iterator",data:= .fields #[.ref l, .int 0 0]}).objs.size)))
    {s with heap:=(s.heap.push {cls:= .type "tuple_iterator",data:= .fields #[.ref l, .int 0 0]}).push {cls:= .type "enumerate",data:= .fields #[.none, .bool false, .ref s.heap.objs.size,rawInt 0, .none, .none]}}):=
 .of_wp λprog w A R s h=>by
  obtain ⟨hp,g,d,tk,os⟩:=s;obtain ⟨hl,h⟩:=h;have Rg:=sub_enumerate;have hL:Heap.IsTuple (Shared.heap ⟨hp,g,d,tk,os⟩) l items:=⟨_,hl,rfl,n,rfl⟩
  wp_walk using jbw hl
  refine wpAny_stack_any λst=>Qp ?_
  split
  ·rename_i c _ _ _ _ _;cases (c==Value.type "enumerate")
   ·wp_walk using jbw hl,jap hL
    exact ⟨_,rfl,h⟩
   ·wp_walk using jbw hl,jap hL
    exact ⟨_,rfl,h⟩
  ·wp_walk using jbw hl,jap hL
   exact ⟨_,rfl,h⟩
theorem vQ {prog:Program} {w:World} {A:Around} {E:Value->Shared->Prop} {s:Shared} {b:Bool} {l:Addr} {items:Array Value} {Q:Value->Shared->Prop} (hL:SeB b s.heap l items)
 (h:∀h',IsEnum h' (s.heap.objs.size+1) s.heap.objs.size 0 .none->ItB b h' s.heap.objs.size l 0->h'.objs.size=s.heap.objs.size+2->
  (∀b o,s.heap.get? b=some o->h'.get? b=some o)->Q (.ref (s.heap.objs.size+1)) {s with heap:=h'}):
 wpAny (model prog w) A (call (.type "enumerate") [.ref l]) Q E s:=by
 cases b with
 |true=>exact call_enumerate_list hL h
 |false=>
  obtain ⟨⟨c,dct,dt,sl⟩,hl,hc,n,hd⟩:=hL
  replace hc:c= .type "tuple":=hc
  replace hd:dt= .seq items n:=hd
  subst hc hd
  refine callType_new F.called_enumerate (by decide) (F.typeCall_enumerate_1 _) (F.newCall_enumerate_1 _) (λobj=>F.args_object_init_2 obj _) F.entry_enumerate_new
   (nO l items n dct sl) ⟨hl,?_⟩
  have hz:(s.heap.push {cls:= .type "tuple_iterator",data:= .fields #[.ref l, .int 0 0]}).objs.size=s.heap.objs.size+1:=QW ..;show _/\_;rw [hz]
  have he:IsEnum ((s.heap.push {cls:= .type "tuple_iterator",data:= .fields #[.ref l, .int 0 0]}).push
   {cls:= .type "enumerate",data:= .fields #[.none, .bool false, .ref s.heap.objs.size,rawInt 0, .none, .none]}) (s.heap.objs.size+1) s.heap.objs.size 0 .none:=by
   have:=Qw (s.heap.push {cls:= .type "tuple_iterator",data:= .fields #[.ref l, .int 0 0]})
    (o:={cls:= .type "enumerate",data:= .fields #[.none, .bool false, .ref s.heap.objs.size,rawInt 0, .none, .none]}) rfl
   rw [hz] at this;exact this
  refine ⟨⟨_,he,rfl⟩,h _ he ⟨_,Qi _ (Qw _ rfl),rfl,rfl⟩ (by rw [QW,hz]) λb o x=>Qi _ (Qi _ x)⟩
section
variable {X:Cx}
def iEnum (b:Bool) (K:Frg) (ta:TA):TI:=λσ H R=>ta σ H λvs H1=>∃a,vs=[.ref a]/\(∃xs,SqB b K H1 a xs)/\R (ItE b K a) H1
theorem pi_enum (b:Bool) {elts:List Expr} {k:Nat} {tpos:Pos} {a:Expr} {ta:TA} {p pos:Pos} (hg:Gl X "enumerate") (hm:X.mg "enumerate"=none) (ha:PA X [a] ta) (hs:starEach [a] X.env=[(false,eval a X.env)]:=by rfl):
 PI X (.Tuple elts k tpos) (.Call (.Name "enumerate" p) [a] [] pos) (iEnum b X.K ta):=by
 intro pins s σ H R I h;refine Call_ (Vx I hg hm oz (TV (thn (ha pos pins s σ H _ I h) λus s1 ⟨vs,H1,I1,r1,q1⟩=>?_) hs rfl));obtain ⟨l,e,⟨xs,hq⟩,q⟩:=q1;subst e;obtain ⟨u,rfl,ru⟩:=cy r1;cases (show u=Value.ref l from ru);obtain ⟨its,rv,p1,hz⟩:=seB I1 hq;refine vQ p1 λh' he hit LR hk=>wpAny_pyIter_enum he ?_;have I2:Inv X pins σ H1 {s1 with heap:=h'}:=I1.kept (t':=s1.toks) hk;have hl:l<s1.heap.objs.size:=by obtain ⟨o,z⟩:=p1.obj;exact Qu z
 refine ⟨s1.heap.objs.size+1,[s1.heap.objs.size+1,s1.heap.objs.size],_,_,H1,rfl,I2,wK b l _ _ (QM hl) (Nat.succ_ne_self _) (jbb (TC hl)),⟨⟨_,he⟩,hit⟩,λc hc=>?_,q⟩
 rcases Qm.mp hc with rfl|hc
 ·exact I1.fpOk (jao _) (I1.hok.fresh (jao _))
 ·obtain rfl:c=s1.heap.objs.size:=by simpa using hc
  exact I1.fpOk (Qv _) (I1.hok.fresh (Qv _))
end
theorem ItB.extBut {b:Bool} {h h':Heap} {it a c:Addr} {i:Nat} (x:ItB b h it a i) (hs:Heap.ExtBut c h h') (KN:it≠c):ItB b h' it a i:=x.at λo e=>hs _ o KN e
theorem SeB.extBut {b:Bool} {h h':Heap} {a c:Addr} {items:Array Value} (x:SeB b h a items) (hs:Heap.ExtBut c h h') (KN:a≠c):SeB b h' a items:=x.at λo e=>hs _ o KN e
section
variable {prog:Program} {w:World} {A:Around} {E:Value->Shared->Prop} {s:Shared}
open PySem
theorem wB {c1 c2:Bool} {z TI TO i1 i2 l1 l2:Addr} {k1 k2:Nat} {xs ys:Array Value} {x y a b:Value} {Q:Value->Shared->Prop} (D:ZipApart z TI TO i1 i2 l1 l2)
 (hz:IsZip s.heap z TI TO .none) (LM:IsPair s.heap TI (.ref i1) (.ref i2)) (KA:IsPair s.heap TO a b)
 (h1:ItB c1 s.heap i1 l1 k1) (h2:ItB c2 s.heap i2 l2 k2) (Lw:SeB c1 s.heap l1 xs) (Le:SeB c2 s.heap l2 ys) (hx:xs[k1]? =some x) (hy:ys[k2]? =some y)
 (hQ:∀h',IsZip h' z TI TO (rawInt s.heap.objs.size)->IsPair h' TO x y->ItB c1 h' i1 l1 (k1+1)->ItB c2 h' i2 l2 (k2+1)->IsPair h' s.heap.objs.size x y->h'.objs.size=s.heap.objs.size+1->
  (∀c o,c≠z->c≠TO->c≠i1->c≠i2->s.heap.get? c=some o->h'.get? c=some o)->Q (.ref s.heap.objs.size) {s with heap:=h'}):
 wpAny (model prog w) A (Builtin.«zip.__next__» ⟨[.ref z],[]⟩) (λfin s'=>∃v,fin= .done (.ret v)/\Q v s') E s:=by
 show wpAny _ _ (field (.ref z) 2>>=_) _ _ _;refine Qg (jaQ hz rfl (x:= .bool false) rfl ?_);show wpAny _ _ (field (.ref z) 3>>=_) _ _ _;refine Qg (jaQ hz rfl (x:= .ref TI) rfl ?_);refine Qg (jbg LM rfl ?_);show wpAny _ _ (Builtin.SmallTypes.ownedTupleIsFree (.ref z)>>=_) _ _ _;refine Qg ?_;unfold Builtin.SmallTypes.ownedTupleIsFree;refine Qg (jaQ hz rfl (x:= .none) rfl (Qp ?_));simp only [if_true];refine Qg (jcd ?_);refine Qg (jaQ hz rfl (x:= .ref TO) rfl ?_);refine Qg (jbc hz (by simp) λh₁ hz₁ hs₁=>?_)
 replace hz₁:IsZip h₁ z TI TO .ellipsis:=hz₁
 refine Qg ?_;simp only [List.zipIdx_cons,List.zipIdx_nil,List.forIn_cons,List.forIn_nil];refine Qg (Qg (wpAny_onRaise ?_));show wpAny _ _ (Builtin.SmallTypes.nextOf (.ref i1)>>=_) _ _ _;refine Qg (Vc (h1.extBut hs₁.extBut D.i1z) (Lw.extBut hs₁.extBut D.l1z) hx λh₂ h1₂ hs₂=>Qp ?_);have KA₂:IsPair h₂ TO a b:=hs₂.extBut _ _ D.TOi1 (hs₁.extBut _ _ D.TOz KA);refine Qg (jbg KA₂ rfl ?_);refine Qg (wpAny_updateSeq_pair KA₂ λh₃ KA₃ hs₃=>?_)
 replace KA₃:IsPair h₃ TO x b:=KA₃
 refine Qg (wpAny_letGo (Qp ?_));refine Qg (Qg (wpAny_onRaise ?_));show wpAny _ _ (Builtin.SmallTypes.nextOf (.ref i2)>>=_) _ _ _
 refine Qg (Vc (((h2.extBut hs₁.extBut D.i2z).extBut hs₂.extBut D.i12.symm).extBut hs₃.extBut D.TOi2.symm)
  (((Le.extBut hs₁.extBut D.l2z).extBut hs₂.extBut D.l2i1).extBut hs₃.extBut D.l2TO) hy λh₄ h2₄ hs₄=>Qp ?_)
 have KA₄:IsPair h₄ TO x b:=hs₄.extBut _ _ D.TOi2 KA₃;refine Qg (jbg KA₄ rfl ?_);refine Qg (wpAny_updateSeq_pair KA₄ λh₅ KA₅ hs₅=>?_)
 replace KA₅:IsPair h₅ TO x y:=KA₅
 refine Qg (wpAny_letGo (Qp (Qp ?_)));refine Qg (jbg KA₅ rfl ?_);refine Qg (wpAny_newTuple ?_);have LR:h₅.objs.size=s.heap.objs.size:=by rw [hs₅.1,hs₄.1,hs₃.1,hs₂.1,hs₁.1]
 have hz₅:IsZip h₅ z TI TO .ellipsis:=hs₅.extBut _ _ D.TOz.symm (hs₄.extBut _ _ D.i2z.symm (hs₃.extBut _ _ D.TOz.symm (hs₂.extBut _ _ D.i1z.symm hz₁)))
 have hk₅:∀c o,c≠z->c≠TO->c≠i1->c≠i2->s.heap.get? c=some o->h₅.get? c=some o:=λc o c1 c2 c3 c4 e=>
  hs₅.extBut _ _ c2 (hs₄.extBut _ _ c4 (hs₃.extBut _ _ c2 (hs₂.extBut _ _ c3 (hs₁.extBut _ _ c1 e))))
 have h1₅:ItB c1 h₅ i1 l1 (k1+1):=((h1₂.extBut hs₃.extBut D.TOi1.symm).extBut hs₄.extBut D.i12).extBut hs₅.extBut D.TOi1.symm;have h2₅:ItB c2 h₅ i2 l2 (k2+1):=h2₄.extBut hs₅.extBut D.TOi2.symm;have NU:z<h₅.objs.size:=Qu hz₅;have hTOlt:TO<h₅.objs.size:=Qu KA₅;have hi1lt:i1<h₅.objs.size:=by obtain ⟨_,e,_⟩:=h1₅.obj;exact Qu e
 have hi2lt:i2<h₅.objs.size:=by obtain ⟨_,e,_⟩:=h2₅.obj;exact Qu e
 show wpAny _ _ (Builtin.SmallTypes.ownedTupleHandOut (.ref z) (.ref h₅.objs.size)>>=_) _ _ _;refine Qg ?_;unfold Builtin.SmallTypes.ownedTupleHandOut;have hz₆:IsZip (h₅.push {cls:= .type "tuple",data:= .seq #[x,y]}) z TI TO .ellipsis:=Qi _ hz₅;refine Qg (jbc hz₆ (by simp) λh₇ hz₇ hs₇=>?_)
 replace hz₇:IsZip h₇ z TI TO (rawInt h₅.objs.size):=hz₇
 refine jbc hz₇ (by simp) λh₈ hz₈ hs₈=>?_
 replace hz₈:IsZip h₈ z TI TO (rawInt h₅.objs.size):=hz₈
 have up:∀c o,c≠z->h₅.get? c=some o->h₈.get? c=some o:=λc o c1 e=>hs₈.extBut _ _ c1 (hs₇.extBut _ _ c1 (Qi _ e));have hT₈:IsPair h₈ h₅.objs.size x y:=hs₈.extBut _ _ (jbb NU) (hs₇.extBut _ _ (jbb NU) (Qw _ rfl));have hz8:h₈.objs.size=h₅.objs.size+1:=by rw [hs₈.1,hs₇.1,QW]
 rw [LR] at hz₈ hT₈ hz8;refine Qp ⟨_,rfl,?_⟩;show Q (.ref h₅.objs.size) _;rw [LR];exact hQ h₈ hz₈ (up _ _ D.TOz KA₅) (h1₅.at λo e=>up _ o D.i1z e) (h2₅.at λo e=>up _ o D.i2z e) hT₈ hz8 λc o c1 c2 c3 c4 e=>up c o c1 (hk₅ c o c1 c2 c3 c4 e)
theorem Dt {c1 c2:Bool} {z TI TO i1 i2 l1 l2:Addr} {k1 k2:Nat} {xs ys:Array Value} {a b:Value} {Q:Fin->Shared->Prop} (hh:A.handled=none) (D:ZipApart z TI TO i1 i2 l1 l2)
 (hz:IsZip s.heap z TI TO .none) (LM:IsPair s.heap TI (.ref i1) (.ref i2)) (KA:IsPair s.heap TO a b)
 (h1:ItB c1 s.heap i1 l1 k1) (h2:ItB c2 s.heap i2 l2 k2) (Lw:SeB c1 s.heap l1 xs) (Le:SeB c2 s.heap l2 ys) (LC:xs[k1]? =none\/ys[k2]? =none)
 (hE:∀h' e,(∀c o,c≠z->c≠TO->c≠i1->c≠i2->s.heap.get? c=some o->h'.get? c=some o)->(∃o,h'.get? e=some o/\o.cls= .type "StopIteration")->E (.ref e) {s with heap:=h'}):
 wpAny (model prog w) A (Builtin.«zip.__next__» ⟨[.ref z],[]⟩) Q E s:=by
 show wpAny _ _ (field (.ref z) 2>>=_) _ _ _;refine Qg (jaQ hz rfl (x:= .bool false) rfl ?_);show wpAny _ _ (field (.ref z) 3>>=_) _ _ _;refine Qg (jaQ hz rfl (x:= .ref TI) rfl ?_);refine Qg (jbg LM rfl ?_);show wpAny _ _ (Builtin.SmallTypes.ownedTupleIsFree (.ref z)>>=_) _ _ _;refine Qg ?_;unfold Builtin.SmallTypes.ownedTupleIsFree;refine Qg (jaQ hz rfl (x:= .none) rfl (Qp ?_));simp only [if_true];refine Qg (jcd ?_);refine Qg (jaQ hz rfl (x:= .ref TO) rfl ?_);refine Qg (jbc hz (by simp) λh₁ hz₁ hs₁=>?_)
 replace hz₁:IsZip h₁ z TI TO .ellipsis:=hz₁
 refine Qg ?_;simp only [List.zipIdx_cons,List.zipIdx_nil,List.forIn_cons,List.forIn_nil];refine Qg (Qg (wpAny_onRaise ?_));show wpAny _ _ (Builtin.SmallTypes.nextOf (.ref i1)>>=_) _ _ _
 cases hx:xs[k1]? with
 |none=>
  refine Qg (UG hh (h1.extBut hs₁.extBut D.i1z) (Lw.extBut hs₁.extBut D.l1z) hx λh₂ e hs₂ he=>?_);obtain ⟨oe,MW,Ny⟩:=he;have hz₂:IsZip h₂ z TI TO .ellipsis:=hs₂ _ _ D.i1z.symm hz₁;have RL:e≠z:=λx=>by subst x;rw [hz₂] at MW;cases MW;simp at Ny
  refine jbc hz₂ (by simp) λh₃ _ hs₃=>hE h₃ e (λc o c1 _ c3 _ x=>hs₃.extBut _ _ c1 (hs₂ _ _ c3 (hs₁.extBut _ _ c1 x))) ⟨oe,hs₃.extBut _ _ RL MW,Ny⟩
 |some x=>
  have hy:ys[k2]? =none:=by rcases LC with h|h;rw [hx] at h;cases h;exact h
  refine Qg (Vc (h1.extBut hs₁.extBut D.i1z) (Lw.extBut hs₁.extBut D.l1z) hx λh₂ h1₂ hs₂=>Qp ?_);have KA₂:IsPair h₂ TO a b:=hs₂.extBut _ _ D.TOi1 (hs₁.extBut _ _ D.TOz KA);refine Qg (jbg KA₂ rfl ?_);refine Qg (wpAny_updateSeq_pair KA₂ λh₃ KA₃ hs₃=>?_);refine Qg (wpAny_letGo (Qp ?_));refine Qg (Qg (wpAny_onRaise ?_));show wpAny _ _ (Builtin.SmallTypes.nextOf (.ref i2)>>=_) _ _ _
  refine Qg (UG hh (((h2.extBut hs₁.extBut D.i2z).extBut hs₂.extBut D.i12.symm).extBut hs₃.extBut D.TOi2.symm)
   (((Le.extBut hs₁.extBut D.l2z).extBut hs₂.extBut D.l2i1).extBut hs₃.extBut D.l2TO) hy λh₄ e hs₄ he=>?_)
  obtain ⟨oe,MW,Ny⟩:=he;have hz₄:IsZip h₄ z TI TO .ellipsis:=hs₄ _ _ D.i2z.symm (hs₃.extBut _ _ D.TOz.symm (hs₂.extBut _ _ D.i1z.symm hz₁));have RL:e≠z:=λx=>by subst x;rw [hz₄] at MW;cases MW;simp at Ny
  refine jbc hz₄ (by simp) λh₅ _ hs₅=>hE h₅ e (λc o c1 c2 c3 c4 x=>hs₅.extBut _ _ c1 (hs₄ _ _ c4 (hs₃.extBut _ _ c2 (hs₂.extBut _ _ c3 (hs₁.extBut _ _ c1 x))))) ⟨oe,hs₅.extBut _ _ RL MW,Ny⟩
end
def ItZ (c1 c2:Bool) (K:Frg) (a1 a2:Addr):It:=
 ⟨λi H=>∃xs ys x y,SqB c1 K H a1 xs/\SqB c2 K H a2 ys/\xs[i]? =some x/\ys[i]? =some y,
  λi H v H'=>∃p x y,(∀xs,SqB c1 K H a1 xs->xs[i]? =some x)/\(∀ys,SqB c2 K H a2 ys->ys[i]? =some y)/\H p=none/\v= .ref p/\H'=upd H p (.tup [x,y]),
  λi H=>∃xs ys,SqB c1 K H a1 xs/\SqB c2 K H a2 ys/\(xs.length<=i\/ys.length<=i)⟩
theorem DG {P:Program} {w:World} {K:Frg} {elts:List Expr} {k:Nat} {pos:Pos} (c1 c2:Bool) (z TI TO i1 i2 l1 l2:Addr) (D:ZipApart z TI TO i1 i2 l1 l2):
 Turn P w K (.Tuple elts k pos) (ItZ c1 c2 K l1 l2) [z,TI,TO,i1,i2] z (λi h=>IsZip h z TI TO .none/\IsPair h TI (.ref i1) (.ref i2)/\(∃a b,IsPair h TO a b)/\ItB c1 h i1 l1 i/\ItB c2 h i2 l2 i) where
 mem:=by simp
 obj:=λi h st c hc=>by
  obtain ⟨hz,LM,⟨a,b,KA⟩,h1,h2⟩:=st;simp only [Qm,Qn,or_false] at hc
  rcases hc with rfl|rfl|rfl|rfl|rfl
  ·exact ⟨_,hz,λv q=>by cases q⟩
  ·exact ⟨_,LM,λv q=>by cases q⟩
  ·exact ⟨_,KA,λv q=>by cases q⟩
  ·exact h1.obj
  ·exact h2.obj
 keep:=λi h h' st kk=>by
  obtain ⟨hz,LM,⟨a,b,KA⟩,h1,h2⟩:=st;exact ⟨kk z (by simp) _ hz,kk TI (by simp) _ LM,⟨a,b,kk TO (by simp) _ KA⟩,h1.at λo e=>kk i1 (by simp) o e,h2.at λo e=>kk i2 (by simp) o e⟩
 item:=by
  intro X hP hw hK hc i pins s σ H E I hf st hg;subst hP hw hK;obtain ⟨hz,LM,⟨a,b,KA⟩,h1,h2⟩:=st;obtain ⟨xs,ys,x,y,Mw,Nt,hx,hy⟩:=hg;obtain ⟨NS,OH,p1,_⟩:=seB I Mw;obtain ⟨KC,OG,p2,_⟩:=seB I Nt;obtain ⟨u1,hu1,PJ⟩:=OH.get hx;obtain ⟨u2,Rb,PH⟩:=OG.get hy;have hT:s.TypeIs (.ref z) "zip":=⟨_,hz,rfl⟩;unfold pyNext
  refine Qg (jbC (TK (name:=Str.ofString "__next__") hT F.slot_zip_next (jac F.slot_zip_next hT F.entry_zip_next
   (wB D hz LM KA h1 h2 p1 p2 (x:=u1) (y:=u2) (by simpa using hu1) (by simpa using Rb) λh' a1 a2 a3 a4 a5 a6 hk=>Qp ?_) (F.args_zip_next_1 _))))
  refine ⟨_,rfl,wpAny_letOwnedTupleGo_zip a1 λMy PX LK=>?_⟩;have lt:∀{c o},s.heap.get? c=some o->c<s.heap.objs.size:=λe=>Qu e;have i1lt:i1<s.heap.objs.size:=by obtain ⟨_,e,_⟩:=h1.obj;exact lt e
  have i2lt:i2<s.heap.objs.size:=by obtain ⟨_,e,_⟩:=h2.obj;exact lt e
  have RX:IsPair h' TI (.ref i1) (.ref i2):=hk _ _ D.TIz D.TITO D.TIi1 D.TIi2 LM;have up:∀c o,c≠z->h'.get? c=some o->My.get? c=some o:=λc o hc e=>(LK.2 c hc).trans e;have Mh:My.get? s.heap.objs.size=some {cls:= .type "tuple",data:= .seq #[u1,u2]}:=up _ _ (jbb (lt hz)) a5
  have NL:IsZip My z TI TO .none/\IsPair My TI (.ref i1) (.ref i2)/\(∃a b,IsPair My TO a b)/\ItB c1 My i1 l1 (i+1)/\ItB c2 My i2 l2 (i+1):=
   ⟨PX,up _ _ D.TIz RX,⟨u1,u2,up _ _ D.TOz a2⟩,a3.at λo e=>up _ o D.i1z e,a4.at λo e=>up _ o D.i2z e⟩
  refine ⟨.ref s.heap.objs.size,upd H s.heap.objs.size (.tup [x,y]),?_,rfl,⟨_,x,y,λzs hy=>by rw [pU I hy Mw];exact hx,λzs Lv=>by rw [pU I Lv Nt];exact hy,I.fresh,rfl,rfl⟩,NL,λc hc=>?_⟩
  ·refine UO (s:=s) (t':=s.toks) (ch:=[z,TI,TO,i1,i2]) I hf (λc o KQ q=>?_) (λc hc=>?_) (Qv _) ⟨mG,[u1,u2], .cons PJ (.cons PH .nil),⟨_,Mh,rfl,_,rfl⟩⟩
   ·have n1:c≠z:=λe=>KQ (by simp [e]);exact up c o n1 (hk c o n1 (λe=>KQ (by simp [e])) (λe=>KQ (by simp [e])) (λe=>KQ (by simp [e])) q)
   ·obtain ⟨z1,z2,⟨_,_,z3⟩,z4,z5⟩:=NL;simp only [Qm,Qn,or_false] at hc
    rcases hc with rfl|rfl|rfl|rfl|rfl
    ·exact ⟨_,z1⟩
    ·exact ⟨_,z2⟩
    ·exact ⟨_,z3⟩
    ·obtain ⟨o,e,_⟩:=z4.obj;exact ⟨o,e⟩
    ·obtain ⟨o,e,_⟩:=z5.obj;exact ⟨o,e⟩
  ·have Kr:c<s.heap.objs.size:=by
    simp only [Qm,Qn,or_false] at hc
    rcases hc with rfl|rfl|rfl|rfl|rfl
    ·exact lt hz
    ·exact lt LM
    ·exact lt KA
    ·exact i1lt
    ·exact i2lt
   rw [yg (QM Kr)];exact (hf c hc).1
 done:=by
  intro X hP hw hK hc i pins s σ H E I hf st hg;subst hP hw hK;obtain ⟨hz,LM,⟨a,b,KA⟩,h1,h2⟩:=st;obtain ⟨xs,ys,Mw,Nt,LC⟩:=hg;obtain ⟨NS,OH,p1,_⟩:=seB I Mw;obtain ⟨KC,OG,p2,_⟩:=seB I Nt;have e1:=OH.length;have e2:=OG.length;have hh:=I.ok.hd hc;have hT:s.TypeIs (.ref z) "zip":=⟨_,hz,rfl⟩;unfold pyNext
  refine Qg (jbC (TK (name:=Str.ofString "__next__") hT F.slot_zip_next (jac F.slot_zip_next hT F.entry_zip_next
   (Dt (A:=X.A.in1) hh D hz LM KA h1 h2 p1 p2 (by simp only [List.getElem?_toArray];rcases LC with q|q;exact .inl (QF (by omega));exact .inr (QF (by omega))) λh' e hk he=>?_) (F.args_zip_next_1 _))))
  obtain ⟨o,ho,Mr⟩:=he;refine Qg (wpAny_isInstance (T:="StopIteration") (b:=true) ⟨o,ho,Mr⟩ isSubtype_stop ?_);refine Qp ⟨rfl,?_⟩
  refine I.step (g':=s.gens) (d':=s.drawn) (t':=s.toks) (H':=H) (ch:=[z,TO,i1,i2]) (λb hb=>?_) (λb u _ _ KQ e _=>hk b u (λq=>KQ (by simp [q])) (λq=>KQ (by simp [q])) (λq=>KQ (by simp [q])) (λq=>KQ (by simp [q])) e)
   (λb u _ _ KQ e _=>⟨u.slots,hk b u (λq=>KQ (by simp [q])) (λq=>KQ (by simp [q])) (λq=>KQ (by simp [q])) (λq=>KQ (by simp [q])) e⟩) (λ_ _ _ _ n=>n)
   (λb u KQ e=>⟨u,hk b u (λq=>KQ (by simp [q])) (λq=>KQ (by simp [q])) (λq=>KQ (by simp [q])) (λq=>KQ (by simp [q])) e⟩) (λ_ _ e=>e) (λ_ _ _ e=>e) (λb ps e=>⟨#[],by rw [e];simp⟩) (λm hm=>?_) (λb u e=>?_) I.bare
  ·have KW:b∈[z,TI,TO,i1,i2]:=by
    simp only [Qm,Qn,or_false] at hb⊢
    rcases hb with q|q|q|q<;>simp [q]
   exact ⟨(hf b KW).2.2.2.1,(hf b KW).2.1,(hf b KW).2.2.2.2.1,(hf b KW).2.2.2.2.2⟩
  ·obtain ⟨ob,es,ep,ho,r⟩:=hm;exact ⟨ob,es,ep,hk _ ob (λq=>(hf z (by simp)).2.1 q.symm) (λq=>(hf TO (by simp)).2.1 q.symm) (λq=>(hf i1 (by simp)).2.1 q.symm) (λq=>(hf i2 (by simp)).2.1 q.symm) ho,r⟩
  ·refine (I.hok b u e).stay (λc v Pa q=>?_) (λ_ q=>q) λ_ _ q=>q
   have nf:∀d∈[z,TI,TO,i1,i2],c≠d:=λd hd z=>by
    subst z
    rcases Pa with q|q
    ·rw [<-q,(hf _ hd).1] at e;cases e
    ·rw [(hf _ hd).1] at q;cases q
   exact hk c v (nf z (by simp)) (nf TO (by simp)) (nf i1 (by simp)) (nf i2 (by simp)) q
 self:=λ_ _ _ _ _ st h=>wpAny_pyIter_zip st.1 h
def Fh (b:Bool) (l:Addr):Obj:={cls:= .type (match b with|true=>"list_iterator"|false=>"tuple_iterator"),data:= .fields #[.ref l, .int 0 0]}
abbrev zB1 (c1:Bool) (h:Heap) (l1:Addr):Heap:=h.push (Fh c1 l1)
abbrev zB2 (c1 c2:Bool) (h:Heap) (l1 l2:Addr):Heap:=(zB1 c1 h l1).push (Fh c2 l2)
abbrev zB3 (c1 c2:Bool) (h:Heap) (l1 l2:Addr):Heap:=(zB2 c1 c2 h l1 l2).push {cls:= .type "tuple",data:= .seq #[.ref h.objs.size, .ref (zB1 c1 h l1).objs.size]}
abbrev zB4 (c1 c2:Bool) (h:Heap) (l1 l2:Addr):Heap:=(zB3 c1 c2 h l1 l2).push {cls:= .type "tuple",data:= .seq #[.none, .none]}
abbrev zB5 (c1 c2:Bool) (h:Heap) (l1 l2:Addr):Heap:=(zB4 c1 c2 h l1 l2).push {cls:= .type "zip",data:= .fields #[.none, .bool false, .bool false, .ref (zB2 c1 c2 h l1 l2).objs.size, .ref (zB3 c1 c2 h l1 l2).objs.size]}
theorem SeB.push {b:Bool} {h:Heap} {a:Addr} {items:Array Value} (x:SeB b h a items) (o:Obj):SeB b (h.push o) a items:=x.at λ_ e=>Qi _ e
theorem vg (c1 c2:Bool) (l1 l2:Addr) (xs ys:Array Value):
 Meets (Builtin.«zip.__new__» ⟨[.type "zip", .ref l1, .ref l2],[]⟩) (λ_ R s=>SeB c1 s.heap l1 xs/\SeB c2 s.heap l2 ys/\
  R (.ok (.ret (.ref (zB4 c1 c2 s.heap l1 l2).objs.size))) {s with heap:=zB5 c1 c2 s.heap l1 l2}):=
 .of_wp λprog w A R s h=>by
  obtain ⟨hp,g,d,tk,os⟩:=s;obtain ⟨Lw,Le,h⟩:=h;have Rg:=sub_zip
  cases c1 with
  |true=>
   have Ou:Heap.IsList (Shared.heap ⟨hp,g,d,tk,os⟩) l1 xs:=Lw
   cases c2 with
   |true=>
    have Ni:Heap.IsList (Shared.heap ⟨hp.push {cls:= .type "list_iterator",data:= .fields #[.ref l1, .int 0 0]},g,d,tk,os⟩) l2 ys:=SeB.push (b:=true) Le _
    wp_walk using jam Ou,jam Ni
    exact ⟨_,rfl,h⟩
   |false=>
    have Ni:Heap.IsTuple (Shared.heap ⟨hp.push {cls:= .type "list_iterator",data:= .fields #[.ref l1, .int 0 0]},g,d,tk,os⟩) l2 ys:=SeB.push (b:=false) Le _
    wp_walk using jam Ou,jap Ni
    exact ⟨_,rfl,h⟩
  |false=>
   have Ou:Heap.IsTuple (Shared.heap ⟨hp,g,d,tk,os⟩) l1 xs:=Lw
   cases c2 with
   |true=>
    have Ni:Heap.IsList (Shared.heap ⟨hp.push {cls:= .type "tuple_iterator",data:= .fields #[.ref l1, .int 0 0]},g,d,tk,os⟩) l2 ys:=SeB.push (b:=true) Le _
    wp_walk using jap Ou,jam Ni
    exact ⟨_,rfl,h⟩
   |false=>
    have Ni:Heap.IsTuple (Shared.heap ⟨hp.push {cls:= .type "tuple_iterator",data:= .fields #[.ref l1, .int 0 0]},g,d,tk,os⟩) l2 ys:=SeB.push (b:=false) Le _
    wp_walk using jap Ou,jap Ni
    exact ⟨_,rfl,h⟩
theorem sV {b:Bool} {h:Heap} {it l:Addr} (e:h.get? it=some (Fh b l)):ItB b h it l 0:=by
 cases b with
 |true=>exact ⟨_,e,rfl,rfl⟩
 |false=>exact ⟨_,e,rfl,rfl⟩
theorem jm (b:Bool) (l:Addr):(Fh b l).isFreed=false:=by cases b<;>rfl
theorem CB {prog:Program} {w:World} {A:Around} {E:Value->Shared->Prop} {s:Shared} {c1 c2:Bool} {l1 l2:Addr} {xs ys:Array Value} {Q:Value->Shared->Prop} (Lw:SeB c1 s.heap l1 xs) (Le:SeB c2 s.heap l2 ys)
 (h:∀h',IsZip h' (s.heap.objs.size+4) (s.heap.objs.size+2) (s.heap.objs.size+3) .none->IsPair h' (s.heap.objs.size+2) (.ref s.heap.objs.size) (.ref (s.heap.objs.size+1))->
  IsPair h' (s.heap.objs.size+3) .none .none->ItB c1 h' s.heap.objs.size l1 0->ItB c2 h' (s.heap.objs.size+1) l2 0->
  (∀c o,s.heap.get? c=some o->h'.get? c=some o)->Q (.ref (s.heap.objs.size+4)) {s with heap:=h'}):
 wpAny (model prog w) A (call (.type "zip") [.ref l1, .ref l2]) Q E s:=by
 refine callType_new F.called_zip (by decide) (F.typeCall_zip_2 _ _) (F.newCall_zip_2 _ _) (λobj=>F.args_object_init_3 obj _ _) F.entry_zip_new
  (vg c1 c2 l1 l2 xs ys) ⟨Lw,Le,?_⟩
 have z1:(zB1 c1 s.heap l1).objs.size=s.heap.objs.size+1:=QW ..;have z2:(zB2 c1 c2 s.heap l1 l2).objs.size=s.heap.objs.size+2:=by rw [QW,z1]
 have z3:(zB3 c1 c2 s.heap l1 l2).objs.size=s.heap.objs.size+3:=by rw [QW,z2]
 have z4:(zB4 c1 c2 s.heap l1 l2).objs.size=s.heap.objs.size+4:=by rw [QW,z3]
 have g5:(zB5 c1 c2 s.heap l1 l2).get? (zB4 c1 c2 s.heap l1 l2).objs.size=some _:=Qw _ rfl;have g4:(zB5 c1 c2 s.heap l1 l2).get? (zB3 c1 c2 s.heap l1 l2).objs.size=some _:=Qi _ (Qw _ rfl);have g3:(zB5 c1 c2 s.heap l1 l2).get? (zB2 c1 c2 s.heap l1 l2).objs.size=some _:=Qi _ (Qi _ (Qw _ rfl));have g2:(zB5 c1 c2 s.heap l1 l2).get? (zB1 c1 s.heap l1).objs.size=some _:=Qi _ (Qi _ (Qi _ (Qw _ (jm c2 l2))));have g1:(zB5 c1 c2 s.heap l1 l2).get? s.heap.objs.size=some _:=Qi _ (Qi _ (Qi _ (Qi _ (Qw _ (jm c1 l1)))));show _/\_;rw [z2,z3,z4] at g5;rw [z1,z2] at g3;rw [z3] at g4;rw [z1] at g2;rw [z4];exact ⟨⟨_,g5,rfl⟩,h _ g5 g3 g4 (sV g1) (sV g2) λc o x=>Qi _ (Qi _ (Qi _ (Qi _ (Qi _ x))))⟩
section
variable {X:Cx}
def iZip (c1 c2:Bool) (K:Frg) (ta:TA):TI:=λσ H R=>ta σ H λvs H1=>∃a1 a2,vs=[.ref a1, .ref a2]/\(∃xs,SqB c1 K H1 a1 xs)/\(∃ys,SqB c2 K H1 a2 ys)/\R (ItZ c1 c2 K a1 a2) H1
theorem pi_zip (c1 c2:Bool) {elts:List Expr} {k:Nat} {tpos:Pos} {a b:Expr} {ta:TA} {p pos:Pos} (hg:Gl X "zip") (hm:X.mg "zip"=none) (ha:PA X [a,b] ta) (hs:starEach [a,b] X.env=[(false,eval a X.env),(false,eval b X.env)]:=by rfl) (LS:starEach [b] X.env=[(false,eval b X.env)]:=by rfl):
 PI X (.Tuple elts k tpos) (.Call (.Name "zip" p) [a,b] [] pos) (iZip c1 c2 X.K ta):=by
 intro pins s σ H R I h;refine Call_ (Vx I hg hm bt_zip (TV (thn (ha pos pins s σ H _ I h) λus s1 ⟨vs,H1,I1,r1,q1⟩=>?_) (by rw [hs,LS]) (by rw [LS];rfl)));obtain ⟨l1,l2,e,⟨xs,Mw⟩,⟨ys,Nt⟩,q⟩:=q1;subst e;obtain ⟨u1,u2,rfl,PJ,PH⟩:=DE r1;cases (show u1=Value.ref l1 from PJ);cases (show u2=Value.ref l2 from PH);obtain ⟨NS,OH,p1,_⟩:=seB I1 Mw;obtain ⟨KC,OG,p2,_⟩:=seB I1 Nt;have OL:l1<s1.heap.objs.size:=by obtain ⟨o,z⟩:=p1.obj;exact Qu z
 have lt2:l2<s1.heap.objs.size:=by obtain ⟨o,z⟩:=p2.obj;exact Qu z
 refine CB p1 p2 λh' a1 a2 a3 a4 a5 hk=>wpAny_pyIter_zip a1 ?_;have I2:Inv X pins σ H1 {s1 with heap:=h'}:=I1.kept (t':=s1.toks) hk;refine ⟨s1.heap.objs.size+4,[s1.heap.objs.size+4,s1.heap.objs.size+2,s1.heap.objs.size+3,s1.heap.objs.size,s1.heap.objs.size+1],_,_,H1,rfl,I2,DG c1 c2 _ _ _ _ _ l1 l2 (zipApart_new OL lt2),⟨a1,a2,⟨_,_,a3⟩,a4,a5⟩,λc hc=>?_,q⟩
 have hle:s1.heap.objs.size<=c:=by
  simp only [Qm,Qn,or_false] at hc
  rcases hc with z|z|z|z|z<;>rw [z]<;>first|exact Nat.le_add_right _ _|exact Qv _
 exact I1.fpOk hle (I1.hok.fresh hle)
end
end S
namespace S
open PySem PySem.Spec PyProof.Rows L2
theorem GR {α:Type} {xs:List α} {k:Int} {v:α} (h0:0<=k) (h:xs[k.toNat]? =some v):atI xs k=some v:=by
 have ek:k=((k.toNat:Nat):Int):=by omega
 rw [ek];exact yi h
theorem eqv_fr (p q:Rat):PyData.eqv (frD p) (frD q)=decide (p=q):=by
 unfold frD;simp only [PyData.eqv,PyData.eqvAll,Bool.and_true]
 by_cases h:p=q
 ·subst h;simp
 ·rw [Th h]
  by_cases h1:p.num=q.num
  ·have h2:p.den≠q.den:=λz=>h (Rat.ext h1 z);have h3:((p.den:Int)==(q.den:Int))=false:=jaV.mpr (λz=>h2 (Int.ofNat.inj z));rw [h3,Bool.and_false]
  ·have h3:(p.num==q.num)=false:=jaV.mpr h1;rw [h3,Bool.false_and]
abbrev zg:=Rat×List Rat
section
variable {H H':Hp} {qs:List Rat} {c:zg} {cs:List zg} {v:V} {vs:List V} {l:Addr} {xs:List V} {o:HO}
end
def zR (qs:List Rat):PyData:= .tuple (qs.map frD)
def zA (c:zg):PyData:= .tuple [frD c.1,zR c.2]
def zU (cs:List zg):PyData:= .list (cs.map zA)
theorem sW {H:Hp} {α:Type} {R:α->V->Prop} {f:α->PyData} (hR:∀a v,R a v->Is H (f a) v):∀{xs:List α} {vs:List V},xs.length=vs.length->(∀(i:Nat) (x:α) (v:V),xs[i]? =some x->vs[i]? =some v->R x v)->zL H (xs.map f) vs
 |[],[],_,_=>by rw [jaq,zL]
 |[],_::_,h,_=>by simp at h
 |_::_,[],h,_=>by simp at h
 |x::xs,v::vs,hl,h=>by
  rw [Qo,zL];exact ⟨v,vs,rfl,hR x v (h 0 x v rfl rfl),sW hR (by simpa using hl) λi a b ha hb=>h (i+1) a b (by simpa using ha) (by simpa using hb)⟩
theorem fH {α:Type} {f:α->PyData} (h:∀a,(f a).canLay0=true):∀xs:List α,PyData.canLayAll0 (xs.map f)=true
 |[]=>rfl
 |x::xs=>by rw [Qo,PyData.canLayAll0,h x,fH h xs];rfl
theorem fV {α:Type} {f:α->PyData} {n:Nat} (h:∀a,(f a).depth<=n):∀xs:List α,PyData.depthAll (xs.map f)<=n
 |[]=>by rw [jaq,PyData.depthAll];exact jal _
 |x::xs=>by rw [Qo,PyData.depthAll];exact Nat.max_le.mpr ⟨h x,fV h xs⟩
theorem BL (q:Rat):(frD q).canLay0=true:=by unfold frD;simp [PyData.canLay0,PyData.canLayAll0]
theorem Cr (q:Rat):(frD q).depth<=2:=by unfold frD;simp [PyData.depth,PyData.depthAll]
theorem fG (qs:List Rat):(zR qs).canLay0=true:=by unfold zR;rw [PyData.canLay0];exact fH BL qs
theorem oj (qs:List Rat):(zR qs).depth<=3:=by unfold zR;rw [PyData.depth];exact Nat.succ_le_succ (fV Cr qs)
theorem lr (c:zg):(zA c).canLay0=true:=by unfold zA;rw [PyData.canLay0,PyData.canLayAll0,PyData.canLayAll0,PyData.canLayAll0,BL,fG];rfl
theorem tF (c:zg):(zA c).depth<=4:=by
 unfold zA;rw [PyData.depth,PyData.depthAll,PyData.depthAll,PyData.depthAll];have h1:=Cr c.1;have h2:=oj c.2;omega
theorem lj (cs:List zg):(zU cs).canLay0=true:=by unfold zU;rw [PyData.canLay0];exact fH lr cs
theorem Fv (cs:List zg):(zU cs).depth<=5:=by unfold zU;rw [PyData.depth];exact Nat.succ_le_succ (fV tF cs)
theorem XF (cs:List zg):SeqAt.shaped (zU cs)=true:=by
 unfold SeqAt.shaped;rw [lj,QX (QU (Fv cs) (by decide))];rfl
def zQ (c0 c1 c2:zg):Prop:=∀(i:Nat) (a b c:Rat),c0.2[i]? =some a->c1.2[i]? =some b->c2.2[i]? =some c->(b - a)*(c2.1 - c0.1)=(c - a)*(c1.1 - c0.1)
theorem aV (p q:Rat):Rat.divInt (q.num*p.den - p.num*q.den) (p.den*q.den)=q - p:=by
 rw [Rat.sub_def',Int.mul_comm (p.den:Int),<-Int.natCast_mul,Rat.divInt_ofNat]
theorem Cy (h1:rd≠0) (h2:nd≠0) (h3:wd≠0) (h4:fd≠0):
 Rat.divInt rn rd*Rat.divInt fn fd=Rat.divInt wn wd*Rat.divInt nn nd↔rn*nd*wd*fn=wn*fd*rd*nn:=by
 rw [jbd,jbd,jbO (Int.mul_ne_zero h1 h4) (Int.mul_ne_zero h3 h2)];have e1:rn*fn*(wd*nd)=rn*nd*wd*fn:=by grind
 have e2:wn*nn*(rd*fd)=wn*fd*rd*nn:=by grind
 rw [e1,e2]
abbrev yD:=List (Addr×List PyData)
abbrev Dat:=List (PyData×V)
def XC (G:Hp) (ds:Dat):Prop:=∀p∈ds,Is G p.1 p.2
def Has (ds:Dat) (x:PyData) (v:V):Prop:=∀G,XC G ds->Is G x v
def yH (ds:Dat) (xs:List PyData) (vs:List V):Prop:=∀G,XC G ds->zL G xs vs
def IW (B G0 H:Hp) (cs:yD) (ds:Dat) (G:Hp):Prop:=
 zV G0 G/\zV G H/\zV B H/\(∀p,B p≠none->G p=G0 p)/\(∀c∈cs,B c.1=none/\G c.1=none/\∃vs,H c.1=some (.lst vs)/\zL G c.2 vs)/\(cs.map (·.1)).Nodup/\XC G ds
def Sta (B G0 H:Hp) (cs:yD) (ds:Dat):Prop:=∃G,IW B G0 H cs ds G
structure Grow (G H G' H':Hp):Prop where
 h:zV H H'
 g:zV G G'
 sub:zV G' H'
 old:∀p,H p≠none->G' p=G p
theorem XC.mono  (h:XC G ds) (e:zV G G'):XC G' ds:=λp hp=>Is.mono e _ _ (h p hp)
theorem XC.cons   (h:XC G ds) (g:Is G x v):XC G ((x,v)::ds):=λp hp=>by
 rcases Qm.mp hp with rfl|hp
 ·exact g
 ·exact h p hp
theorem Has.int  :Has ds (.int i) (.int i):=λ_ _=>by rw [Is]
theorem Has.bl  :Has ds (.bool i) (.bl i):=λ_ _=>by rw [Is]
theorem Has.str  :Has ds (.str i) (.str i):=λ_ _=>by rw [Is]
theorem Has.mem  (h:(x,v)∈ds):Has ds x v:=λ_ a=>a _ h
theorem Has.weak  (h:Has ds x v) (k:∀p∈ds,Has ds' p.1 p.2):Has ds' x v:=λG a=>h G λp hp=>k p hp G a
theorem Has.tail   (h:Has ds x v):Has (p::ds) x v:=h.weak λq hq=> .mem (Qf _ hq)
theorem yH.nil:yH ds [] []:=λ_ _=>by rw [zL]
theorem yH.cons   (h:Has ds x v) (g:yH ds xs vs):yH ds (x::xs) (v::vs):=λG a=>by
 rw [zL];exact ⟨v,vs,rfl,h G a,g G a⟩
theorem zL.len:∀{xs:List PyData} {vs:List V},zL H xs vs->xs.length=vs.length
 |[],vs,h=>by rw [zL] at h;subst h;rfl
 |x::xs,vs,h=>by
  rw [zL] at h;obtain ⟨v,r,rfl,_,g⟩:=h;rw [QA,QA,zL.len g]
theorem zL.at:∀{xs:List PyData} {vs:List V} {i:Nat} {x:PyData},zL H xs vs->xs[i]? =some x->∃v,vs[i]? =some v/\Is H x v
 |[],_,_,_,_,e=>by simp at e
 |y::xs,vs,i,x,h,e=>by
  rw [zL] at h;obtain ⟨v,r,rfl,h1,g⟩:=h
  cases i with
  |zero=>simp at e;subst e;exact ⟨v,rfl,h1⟩
  |succ i=>simpa using zL.at g (by simpa using e)
theorem zL.app:∀{xs ys:List PyData} {vs ws:List V},zL H xs vs->zL H ys ws->zL H (xs++ys) (vs++ws)
 |[],ys,vs,ws,h,g=>by rw [zL] at h;subst h;exact g
 |x::xs,ys,vs,ws,h,g=>by
  rw [zL] at h;obtain ⟨v,r,rfl,h1,h2⟩:=h;rw [TF,TF,zL];exact ⟨v,_,rfl,h1,zL.app h2 g⟩
theorem Zi  :zL H xs vs↔xs.length=vs.length/\∀(i:Nat) (x:PyData) (v:V),xs[i]? =some x->vs[i]? =some v->Is H x v:=by
 constructor
 ·intro h;refine ⟨h.len,λi x v hx hv=>?_⟩;obtain ⟨w,hw,g⟩:=h.at hx;rw [hv] at hw;cases hw;exact g
 ·rintro ⟨h1,h2⟩
  have:=sW (R:=λ(a:PyData) v=>Is H a v) (f:=id) (λ_ _ z=>z) h1 h2
  simpa using this
theorem zL.take  (h:zL H xs vs) (n:Nat):zL H (xs.take n) (vs.take n):=by
 rw [Zi] at h⊢;refine ⟨by rw [TB,TB,h.1],λi x v hx hv=>?_⟩;rw [List.getElem?_take] at hx hv
 split at hx
 ·rename_i c;rw [QH c] at hv;exact h.2 i x v hx hv
 ·cases hx
theorem zL.drop  (h:zL H xs vs) (n:Nat):zL H (xs.drop n) (vs.drop n):=by
 rw [Zi] at h⊢;refine ⟨by rw [Ts,Ts,h.1],λi x v hx hv=>?_⟩;rw [jar] at hx hv;exact h.2 _ x v hx hv
theorem zL.set   (h:zL H xs vs) (g:Is H x v) (n:Nat):zL H (xs.set n x) (vs.set n v):=by
 rw [Zi] at h⊢;refine ⟨by rw [jbU,jbU,h.1],λi y w hx hv=>?_⟩;rw [List.getElem?_set] at hx hv;rw [<-h.1] at hv
 split at hx
 ·rename_i c;rw [QH c] at hv
  split at hx
  ·rename_i c2;rw [QH c2] at hv;cases hx;cases hv;exact g
  ·cases hx
 ·rename_i c;rw [QO c] at hv;exact h.2 i y w hx hv
section
variable {B G0 H H':Hp} {cs cs':yD} {ds ds':Dat} {x y:PyData} {v w:V} {xs ys:List PyData} {vs:List V} {D:Addr} {p:Addr}
theorem Sta.enter (e:zV G H) (h:XC G ds):Sta H G H [] ds:=
 ⟨G,zV.refl _,e,zV.refl _,λ_ _=>rfl,λc hc=>absurd hc (Qn),List.nodup_nil,h⟩
theorem Sta.base (S:Sta B G0 H cs ds):zV B H:=by
 obtain ⟨_,_,_,b,_⟩:=S;exact b
theorem Sta.push (S:Sta B G0 H cs ds) (h:Has ds x v):Sta B G0 H cs ((x,v)::ds):=by
 obtain ⟨G,a,b,c,d,e,f,g⟩:=S;exact ⟨G,a,b,c,d,e,f,g.cons (h G g)⟩
theorem Sta.weak (S:Sta B G0 H cs ds) (hc:cs'.Sublist cs) (hd:∀p∈ds',Has ds p.1 p.2):Sta B G0 H cs' ds':=by
 obtain ⟨G,a,b,c,d,e,f,g⟩:=S;exact ⟨G,a,b,c,d,λq hq=>e q (hc.subset hq),f.sublist (hc.map _),λp hp=>hd p hp G g⟩
theorem Sta.dat (S:Sta B G0 H cs ds) (hd:∀p∈ds',Has ds p.1 p.2):Sta B G0 H cs ds':=S.weak (jbl _) hd
theorem Sta.drop1 (S:Sta B G0 H cs (q::ds)):Sta B G0 H cs ds:=S.dat λp hp=> .mem (Qf _ hp)
theorem Sta.dropC (S:Sta B G0 H (q::cs) ds):Sta B G0 H cs ds:=S.weak (List.sublist_cons_self _ _) λp hp=> .mem hp
theorem Sta.permC (S:Sta B G0 H cs ds) (h:cs.Perm cs'):Sta B G0 H cs' ds:=by
 obtain ⟨G,a,b,c,d,e,f,g⟩:=S;exact ⟨G,a,b,c,d,λq hq=>e q (h.mem_iff.mpr hq),(h.map _).nodup_iff.mp f,g⟩
theorem Sta.swap (S:Sta B G0 H (c1::c2::cs) ds):Sta B G0 H (c2::c1::cs) ds:=S.permC (List.Perm.swap _ _ _)
theorem Sta.same (S:Sta B G0 H cs ds) (h:zV H H'):Sta B G0 H' cs ds:=
 let ⟨G,a,b,c,d,e,f,g⟩:=S;⟨G,a,b.trans h,c.trans h,d,λq hq=>let ⟨x,y,vs,z,u⟩:=e q hq;⟨x,y,vs,h _ _ z,u⟩,f,g⟩
theorem IW.grow (S:IW B G0 H cs ds G) (h:Grow G H G' H'):IW B G0 H' cs ds G':=by
 obtain ⟨a,b,c,d,e,f,g⟩:=S;refine ⟨a.trans h.g,h.sub,c.trans h.h,λp hp=>?_,λq hq=>?_,f,g.mono h.g⟩
 ·rw [h.old p λz=>?_,d p hp]
  cases hb:B p with
  |none=>exact hp hb
  |some o=>rw [c _ _ hb] at z;cases z
 ·obtain ⟨x,y,vs,z,u⟩:=e q hq;exact ⟨x,by rw [h.old q.1 (by rw [z];simp)];exact y,vs,h.h _ _ z,zL.mono h.g _ _ u⟩
theorem Sta.leave (S:Sta H G H' cs ds):∃G',Grow G H G' H'/\XC G' ds:=by
 obtain ⟨G',a,b,c,d,_,_,g⟩:=S;exact ⟨G',⟨c,a,b,d⟩,g⟩
theorem Sta.newT (S:Sta B G0 H cs ds) (hp:H p=none) (h:yH ds xs vs):Sta B G0 (upd H p (.tup vs)) cs ((.tuple xs, .ref p)::ds):=by
 obtain ⟨G,a,b,c,d,e,f,g⟩:=S;have hG:G p=none:=b.free hp;have eG:=zV.new hG (.tup vs);refine ⟨upd G p (.tup vs),a.trans eG,λq o hq=>?_,c.trans (zV.new hp _),λq hq=>?_,λq hq=>?_,f,(g.mono eG).cons ?_⟩
 ·by_cases KI:q=p
  ·subst KI;rw [yM] at hq⊢;exact hq
  ·rw [yg KI] at hq⊢;exact b _ _ hq
 ·have KI:q≠p:=λz=>by subst z;exact hq (c.free hp)
  rw [yg KI];exact d q hq
 ·obtain ⟨x,y,ws,z,u⟩:=e q hq;have KI:q.1≠p:=yk z hp;exact ⟨x,by rw [yg KI];exact y,ws,by rw [yg KI];exact z,zL.mono eG _ _ u⟩
 ·rw [Is];exact ⟨p,vs,rfl,yM,zL.mono eG _ _ (h G g)⟩
theorem Sta.newL (S:Sta B G0 H cs ds) (hp:H p=none) (h:yH ds xs vs):Sta B G0 (upd H p (.lst vs)) ((p,xs)::cs) ds:=by
 obtain ⟨G,a,b,c,d,e,f,g⟩:=S;have hG:G p=none:=b.free hp;refine ⟨G,a,b.trans (zV.new hp _),c.trans (zV.new hp _),d,λq hq=>?_,?_,g⟩
 ·rcases Qm.mp hq with rfl|hq
  ·exact ⟨c.free hp,hG,vs,yM,h G g⟩
  ·obtain ⟨x,y,ws,z,u⟩:=e q hq;have KI:q.1≠p:=yk z hp;exact ⟨x,y,ws,by rw [yg KI];exact z,u⟩
 ·rw [Qo,TX];refine ⟨λz=>?_,f⟩;obtain ⟨q,hq,KI⟩:=Qj.mp z;obtain ⟨_,_,ws,z,_⟩:=e q hq;rw [KI,hp] at z;cases z
theorem Sta.freeze (S:Sta B G0 H ((D,xs)::cs) ds):Sta B G0 H cs ((.list xs, .ref D)::ds):=by
 obtain ⟨G,a,b,c,d,e,f,g⟩:=S;obtain ⟨x,y,vs,z,u⟩:=e _ (Qe ..);have eG:=zV.new y (.lst vs);rw [Qo,TX] at f;refine ⟨upd G D (.lst vs),a.trans eG,λq o hq=>?_,c,λq hq=>?_,λq hq=>?_,f.2,(g.mono eG).cons ?_⟩
 ·by_cases KI:q=D
  ·subst KI;rw [yM] at hq;rw [<-hq];exact z
  ·rw [yg KI] at hq;exact b _ _ hq
 ·have KI:q≠D:=λz=>by subst z;exact hq x
  rw [yg KI];exact d q hq
 ·obtain ⟨x',y',ws,z',u'⟩:=e q (Qf _ hq);have KI:q.1≠D:=λz=>f.1 (Qj.mpr ⟨q,hq,z⟩);exact ⟨x',by rw [yg KI];exact y',ws,z',zL.mono eG _ _ u'⟩
 ·rw [Is];exact ⟨D,vs,rfl,yM,zL.mono eG _ _ u⟩
theorem Sta.cell (S:Sta B G0 H cs ds) (h:(D,xs)∈cs):∃vs,H D=some (.lst vs)/\xs.length=vs.length/\∀(i:Nat) (x:PyData),xs[i]? =some x->∃v,vs[i]? =some v/\Sta B G0 H cs ((x,v)::ds):=by
 obtain ⟨G,a,b,c,d,e,f,g⟩:=S;obtain ⟨_,_,vs,z,u⟩:=e _ h;refine ⟨vs,z,u.len,λi x hx=>?_⟩;obtain ⟨v,hv,k⟩:=u.at hx;exact ⟨v,hv,G,a,b,c,d,e,f,g.cons k⟩
theorem Sta.put (S:Sta B G0 H ((D,xs)::cs) ds):∃vs,H D=some (.lst vs)/\xs.length=vs.length/\∀ys ws,(∀G,XC G ds->zL G xs vs->zL G ys ws)->Sta B G0 (upd H D (.lst ws)) ((D,ys)::cs) ds:=by
 obtain ⟨G,a,b,c,d,e,f,g⟩:=S;obtain ⟨x,y,vs,z,u⟩:=e _ (Qe ..);refine ⟨vs,z,u.len,λys ws h=>?_⟩
 have key:∀{A:Hp},zV A H->A D=none->zV A (upd H D (.lst ws)):=λ{A} s n q o hq=>by
  rw [yg (yk hq n)];exact s _ _ hq
 have f':=f;rw [Qo,TX] at f';refine ⟨G,a,key b y,key c x,d,λq hq=>?_,f,g⟩
 rcases Qm.mp hq with rfl|hq
 ·exact ⟨x,y,ws,yM,h G g u⟩
 ·obtain ⟨x',y',ws',z',u'⟩:=e q (Qf _ hq);have KI:q.1≠D:=λz=>f'.1 (Qj.mpr ⟨q,hq,z⟩);exact ⟨x',y',ws',by rw [yg KI];exact z',u'⟩
theorem Sta.tup (S:Sta B G0 H cs ds) (h:Has ds (.tuple xs) v):∃p vs,v= .ref p/\H p=some (.tup vs)/\xs.length=vs.length/\∀(i:Nat) (x:PyData),xs[i]? =some x->∃w,vs[i]? =some w/\Sta B G0 H cs ((x,w)::ds):=by
 obtain ⟨G,a,b,c,d,e,f,g⟩:=S;have q:=h G g;rw [Is] at q;obtain ⟨p,vs,hv,hp,u⟩:=q;refine ⟨p,vs,hv,b _ _ hp,u.len,λi x hx=>?_⟩;obtain ⟨v,hv,k⟩:=u.at hx;exact ⟨v,hv,G,a,b,c,d,e,f,g.cons k⟩
theorem Sta.lst (S:Sta B G0 H cs ds) (h:Has ds (.list xs) v):∃p vs,v= .ref p/\H p=some (.lst vs)/\xs.length=vs.length/\∀(i:Nat) (x:PyData),xs[i]? =some x->∃w,vs[i]? =some w/\Sta B G0 H cs ((x,w)::ds):=by
 obtain ⟨G,a,b,c,d,e,f,g⟩:=S;have q:=h G g;rw [Is] at q;obtain ⟨p,vs,hv,hp,u⟩:=q;refine ⟨p,vs,hv,b _ _ hp,u.len,λi x hx=>?_⟩;obtain ⟨v,hv,k⟩:=u.at hx;exact ⟨v,hv,G,a,b,c,d,e,f,g.cons k⟩
theorem Sta.tupAll (S:Sta B G0 H cs ds) (h:Has ds (.tuple xs) v):∃p vs,v= .ref p/\H p=some (.tup vs)/\xs.length=vs.length/\Sta B G0 H cs (xs.zip vs++ds)/\∀G,XC G (xs.zip vs++ds)->zL G xs vs:=by
 obtain ⟨G,a,b,c,d,e,f,g⟩:=S;have q:=h G g;rw [Is] at q;obtain ⟨p,vs,hv,hp,u⟩:=q;refine ⟨p,vs,hv,b _ _ hp,u.len,⟨G,a,b,c,d,e,f,λq hq=>?_⟩,λG' hG=>?_⟩
 ·rcases QS.mp hq with hq|hq
  ·obtain ⟨i,hi⟩:=Qx.mp hq;rw [Tr] at hi;exact (Zi.mp u).2 i _ _ hi.1 hi.2
  ·exact g q hq
 ·refine Zi.mpr ⟨u.len,λi x v hx hv=>?_⟩;exact hG (x,v) (jah _ (Qx.mpr ⟨i,Tr.mpr ⟨hx,hv⟩⟩))
theorem Sta.lstAll (S:Sta B G0 H cs ds) (h:Has ds (.list xs) v):∃p vs,v= .ref p/\H p=some (.lst vs)/\xs.length=vs.length/\Sta B G0 H cs (xs.zip vs++ds)/\∀G,XC G (xs.zip vs++ds)->zL G xs vs:=by
 obtain ⟨G,a,b,c,d,e,f,g⟩:=S;have q:=h G g;rw [Is] at q;obtain ⟨p,vs,hv,hp,u⟩:=q;refine ⟨p,vs,hv,b _ _ hp,u.len,⟨G,a,b,c,d,e,f,λq hq=>?_⟩,λG' hG=>?_⟩
 ·rcases QS.mp hq with hq|hq
  ·obtain ⟨i,hi⟩:=Qx.mp hq;rw [Tr] at hi;exact (Zi.mp u).2 i _ _ hi.1 hi.2
  ·exact g q hq
 ·refine Zi.mpr ⟨u.len,λi x v hx hv=>?_⟩;exact hG (x,v) (jah _ (Qx.mpr ⟨i,Tr.mpr ⟨hx,hv⟩⟩))
theorem Sta.cellAll (S:Sta B G0 H cs ds) (h:(D,xs)∈cs):∃vs,H D=some (.lst vs)/\xs.length=vs.length/\Sta B G0 H cs (xs.zip vs++ds)/\∀G,XC G (xs.zip vs++ds)->zL G xs vs:=by
 obtain ⟨G,a,b,c,d,e,f,g⟩:=S;obtain ⟨_,_,vs,z,u⟩:=e _ h;refine ⟨vs,z,u.len,⟨G,a,b,c,d,e,f,λq hq=>?_⟩,λG' hG=>?_⟩
 ·rcases QS.mp hq with hq|hq
  ·obtain ⟨i,hi⟩:=Qx.mp hq;rw [Tr] at hi;exact (Zi.mp u).2 i _ _ hi.1 hi.2
  ·exact g q hq
 ·refine Zi.mpr ⟨u.len,λi x v hx hv=>?_⟩;exact hG (x,v) (jah _ (Qx.mpr ⟨i,Tr.mpr ⟨hx,hv⟩⟩))
theorem Sta.hp (S:Sta B G0 H cs ds) (h:Has ds x v):Is H x v:=by
 obtain ⟨G,a,b,c,d,e,f,g⟩:=S;exact Is.mono b _ _ (h G g)
theorem Sta.hpC (S:Sta B G0 H cs ds) (h:(D,xs)∈cs):Is H (.list xs) (.ref D):=by
 obtain ⟨G,a,b,c,d,e,f,g⟩:=S;obtain ⟨_,_,vs,z,u⟩:=e _ h;rw [Is];exact ⟨D,vs,rfl,z,zL.mono b _ _ u⟩
end
def mkD (D:Ends) (u:L2.St->Hp->Prop):Ends:={D with nx:=u}
def mkL (D:Ends) (u:L2.St->Hp->Prop):Ends:={D with nx:=u,ct:=u,bk:=D.nx}
def endD (Q:VK):Ends:={nx:=λ_ H'=>Q .non H',rt:=Q}
section
variable {B G0 H:Hp} {cs:yD} {ds:Dat} {D:Ends} {σ:L2.St} {Q:VK} {x y:PyData} {v w:V} {xs:List PyData} {vs:List V} {K:Frg} {X:Cx}
theorem rd_seq (h:t (mkD D (u D)) σ H):tSeq t u D σ H:=h
theorem rd_asg  (h:te σ H λx H1=>g x σ H1 D.nx):Jj te g D σ H:=h
theorem zE  (h:N (σ.set i (some v)) H):lE i v σ H N:=h
theorem kI {t:TS} (h:t (endD Q) σ H):t {nx:=λ_ H'=>Q .non H',rt:=Q} σ H:=h
theorem rd_nx (h:u σ H):Ends.nx (mkD D u) σ H:=h
theorem rd_rt (h:Ends.rt D v H):Ends.rt (mkD D u) v H:=h
theorem Gv (h:Q v H):Ends.rt (endD Q) v H:=h
theorem rd_nxL (h:u σ H):Ends.nx (mkL D u) σ H:=h
theorem rd_rtL (h:Ends.rt D v H):Ends.rt (mkL D u) v H:=h
theorem rd_next (h:D.nx σ H):tNext D σ H:=h
theorem rd_ret (h:te σ H D.rt):tRet te D σ H:=h
theorem rd_drop (h:te σ H λ_ H1=>D.nx σ H1):tDrop te D σ H:=h
theorem rd_if  (h:c σ H λb H1=>if b=true then t D σ H1 else u D σ H1):tIfS c t u D σ H:=h
theorem rd_var (e:σ[i]? =some (some v)) (h:Q v H):tVar i σ H Q:=⟨v,e,h⟩
theorem rd_c (h:Q v H):tC v σ H Q:=h
theorem rd_op  (h:ta σ H λx H1=>tb σ H1 λy H2=>r x y H2 Q):tOp r ta tb σ H Q:=h
theorem rd_un  (h:ta σ H λx H1=>r x H1 Q):tUn r ta σ H Q:=h
theorem rd_rI0  (h:Q (g i j) H):rI0 g (.int i) (.int j) H Q:=⟨i,j,rfl,rfl,h⟩
theorem rd_mulB (c:IntMulOk i j) (h:Q (.int (i*j)) H):rI IntMulOk (λi j=> .int (i*j)) (.int i) (.int j) H Q:=⟨i,j,rfl,rfl,c,h⟩
theorem rd_modL (c:0<j) (h:Q (.int (i % j)) H):rI (λ_ j=>0<j) (λi j=> .int (i % j)) (.int i) (.int j) H Q:=⟨i,j,rfl,rfl,c,h⟩
theorem rd_modN (c:j≠0) (h:Q (.int (i.fmod j)) H):rI (λ_ j=>j≠0) (λi j=> .int (i.fmod j)) (.int i) (.int j) H Q:=⟨i,j,rfl,rfl,c,h⟩
theorem rd_fdivL (c:CDiv i j) (h:Q (.int (i / j)) H):rI CDiv (λi j=> .int (i / j)) (.int i) (.int j) H Q:=⟨i,j,rfl,rfl,c,h⟩
theorem rd_fdivB (c:CDv i j) (h:Q (.int (i.fdiv j)) H):rI CDv (λi j=> .int (i.fdiv j)) (.int i) (.int j) H Q:=⟨i,j,rfl,rfl,c,h⟩
theorem rd_pow (c:CPow i j) (h:Q (.int (i ^ j.toNat)) H):rI CPow (λi j=> .int (i ^ j.toNat)) (.int i) (.int j) H Q:=⟨i,j,rfl,rfl,c,h⟩
theorem rd_rU  (h:Q (g i) H):rU g (.int i) H Q:=⟨i,rfl,h⟩
theorem rd_test  (h:t σ H λx H'=>∃k,x= .bl k/\R k H'):tTest t σ H R:=h
theorem rd_tB  (h:t σ H λx H'=>∃k,x= .bl k/\R k H'):tB t σ H R:=h
theorem rd_isbl {k:Bool} {R:Bool->Prop} (h:R k):∃k',V.bl k= .bl k'/\R k':=⟨k,rfl,h⟩
theorem rd_not  (h:t σ H λc H1=>R (!c) H1):tNot t σ H R:=h
theorem rd_and  (h:t σ H λc H1=>if c=true then u σ H1 R else R false H1):tAnd t u σ H R:=h
theorem rd_or  (h:t σ H λc H1=>if c=true then R true H1 else u σ H1 R):tOr t u σ H R:=h
theorem rd_andV (h:ta σ H λx H1=>∃c,x= .bl c/\if c=true then tb σ H1 Q else Q (.bl false) H1):tAndV ta tb σ H Q:=h
theorem rd_notV (h:ta σ H λx H1=>∃c,x= .bl c/\Q (.bl (!c)) H1):tNotV ta σ H Q:=h
theorem rd_nil (h:R [] H):tNil σ H R:=h
theorem rd_cons  (h:ta σ H λx H1=>tr σ H1 λxs H2=>R (x::xs) H2):tCons ta tr σ H R:=h
theorem rd_call  (h:t σ H λvs H1=>sp vs H1 Q E):ur sp [] E t σ H Q:=by
 unfold ur
 simpa only [jaX] using h
theorem rd_cb  (h:t σ H λvs H1=>r vs H1 Q):tCB r t σ H Q:=h
theorem rd_aug  (e:σ[i]? =some (some v)) (h:te σ H λy H1=>ti v y H1 λz H2=>D.nx (σ.set i (some z)) H2):tAug i te ti D σ H:=⟨v,e,h⟩
theorem rd_ipI  (h:Q (.int (f i j)) H):ipI f (.int i) (.int j) H Q:=⟨i,j,rfl,rfl,h⟩
theorem rd_par  (h:ta σ H λvs H1=>∃v w,vs=[v,w]/\D.nx ((σ.set i (some v)).set j (some w)) H1):tPar i j ta D σ H:=h
theorem rd_is2 {R:V->V->Prop} (h:R v w):∃v' w',[v,w]=[v',w']/\R v' w':=⟨v,w,rfl,h⟩
def rEqA:R2:=λx y H Q=>rEq x y H Q\/rEqD x y H Q
def rNeA:R2:=λx y H Q=>rNe x y H Q\/rNeD x y H Q
theorem op_eqA (hu:X.A.units+64<cLine):OpR X (compareOp .Eq) rEqA:=op_eq.or (op_eqD hu)
theorem op_neA (hu:X.A.units+64<cLine):OpR X (compareOp .NotEq) rNeA:=op_ne.or (op_neD hu)
theorem WR {a b:Prop} [Decidable a] [Decidable b] (h:a↔b):decide a=decide b:=by
 by_cases ha:a
 ·rw [QX ha,QX (h.mp ha)]
 ·rw [Th ha,Th (λz=>ha (h.mpr z))]
theorem rd_eqI (h:Q (.bl (decide (i=j))) H):rEqA (.int i) (.int j) H Q:= .inl ⟨rfl,by
 rw [WR (show V.int i=V.int j↔i=j from ⟨V.int.inj,congrArg _⟩)];exact h⟩
theorem rd_neI (h:Q (.bl (!decide (i=j))) H):rNeA (.int i) (.int j) H Q:= .inl ⟨rfl,by
 rw [WR (show V.int i=V.int j↔i=j from ⟨V.int.inj,congrArg _⟩)];exact h⟩
theorem nB (h1:Is H x v) (h2:Is H y w) (s1:SeqAt.shaped x=true) (s2:SeqAt.shaped y=true) (h:Q (.bl (PyData.eqv x y)) H):rEqA v w H Q:= .inr ⟨x,y,h1,h2,s1,s2,h⟩
theorem iU (h1:Is H x v) (h2:Is H y w) (s1:SeqAt.shaped x=true) (s2:SeqAt.shaped y=true) (h:Q (.bl (!PyData.eqv x y)) H):rNeA v w H Q:= .inr ⟨x,y,h1,h2,s1,s2,h⟩
def kTup (Q:VK) (xs:List V) (H:Hp):Prop:=xs.length<=sizeLine/\∀p,H p=none->Q (.ref p) (upd H p (.tup xs))
def kLst (Q:VK) (xs:List V) (H:Hp):Prop:=xs.length<=sizeLine/\∀p,H p=none->Q (.ref p) (upd H p (.lst xs))
theorem rd_tup (h:t σ H (kTup Q)):tTup t σ H Q:=h
theorem rd_lst (h:t σ H (kLst Q)):tLst t σ H Q:=h
theorem rd_kTup (S:Sta B G0 H cs ds) (h:yH ds xs vs) (hl:vs.length<=1000) (k:∀p H',zV H H'->Sta B G0 H' cs ((.tuple xs, .ref p)::ds)->Q (.ref p) H'):kTup Q vs H:=
 ⟨jbM (Wr hl),λp hp=>k p _ (zV.new hp _) (S.newT hp h)⟩
theorem rd_kLst (S:Sta B G0 H cs ds) (h:yH ds xs vs) (hl:vs.length<=1000) (k:∀p H',zV H H'->Sta B G0 H' ((p,xs)::cs) ds->Q (.ref p) H'):kLst Q vs H:=
 ⟨jbM (Wr hl),λp hp=>k p _ (zV.new hp _) (S.newL hp h)⟩
theorem CK {α β:Type} {xs:List α} {ys:List β} {i:Int} {x:α} (hl:xs.length=ys.length) (h:atI xs i=some x):∃j:Nat,xs[j]? =some x/\∀y,ys[j]? =some y->atI ys i=some y:=by
 unfold atI at h⊢;rw [<-hl]
 cases e:ixN xs.length i with
 |none=>rw [e] at h;cases h
 |some j=>rw [e] at h;exact ⟨j,h,λy hy=>hy⟩
theorem nA {i:Int} (S:Sta B G0 H cs ds) (hx:Has ds (.tuple xs) v) (hi:atI xs i=some x) (k:∀w,Sta B G0 H cs ((x,w)::ds)->Q w H):rIx K v (.int i) H Q:=by
 obtain ⟨p,vs,rfl,hp,hl,z⟩:=S.tup hx;obtain ⟨j,hj,hy⟩:=CK hl hi;obtain ⟨w,hw,S'⟩:=z j x hj;exact .inr (.inl ⟨p,vs,i,w,rfl,rfl,SqT.of hp,hy _ hw,k w S'⟩)
theorem Sta.top {n:PyData} (S:Sta B G0 H cs ((n,v)::ds)):Is H n v:=S.hp (.mem (Qe ..))
theorem rd_ixTI {i n:Int} (S:Sta B G0 H cs ds) (hx:Has ds (.tuple xs) v) (hi:atI xs i=some (.int n)) (k:Q (.int n) H):rIx K v (.int i) H Q:=
 nA S hx hi λw S'=>by have:=S'.top;rw [Is] at this;subst this;exact k
theorem yr {i:Int} (S:Sta B G0 H cs ds) (hx:Has ds (.list xs) v) (hi:atI xs i=some x) (k:∀w,Sta B G0 H cs ((x,w)::ds)->Q w H):rIx K v (.int i) H Q:=by
 obtain ⟨p,vs,rfl,hp,hl,z⟩:=S.lst hx;obtain ⟨j,hj,hy⟩:=CK hl hi;obtain ⟨w,hw,S'⟩:=z j x hj;exact .inl ⟨p,vs,i,w,rfl,rfl,SqL.of hp,hy _ hw,k w S'⟩
theorem Yo {i n:Int} (S:Sta B G0 H cs ds) (hx:Has ds (.list xs) v) (hi:atI xs i=some (.int n)) (k:Q (.int n) H):rIx K v (.int i) H Q:=
 yr S hx hi λw S'=>by have:=S'.top;rw [Is] at this;subst this;exact k
theorem Xk {i:Int} {L:Addr} (S:Sta B G0 H cs ds) (hx:(L,xs)∈cs) (hi:atI xs i=some x) (k:∀w,Sta B G0 H cs ((x,w)::ds)->Q w H):rIx K (.ref L) (.int i) H Q:=by
 obtain ⟨vs,hp,hl,z⟩:=S.cell hx;obtain ⟨j,hj,hy⟩:=CK hl hi;obtain ⟨w,hw,S'⟩:=z j x hj;exact .inl ⟨L,vs,i,w,rfl,rfl,SqL.of hp,hy _ hw,k w S'⟩
theorem HG {i n:Int} {L:Addr} (S:Sta B G0 H cs ds) (hx:(L,xs)∈cs) (hi:atI xs i=some (.int n)) (k:Q (.int n) H):rIx K (.ref L) (.int i) H Q:=
 Xk S hx hi λw S'=>by have:=S'.top;rw [Is] at this;subst this;exact k
theorem rd_ixS {i:Int} {a:Addr} {ns:List Int} (hS:SqL K H a (ns.map V.int)) (h0:0<=i) (h1:i<(ns.length:Int)) (k:Q (.int (ns.getD i.toNat 0)) H):rIx K (.ref a) (.int i) H Q:=
 .inl ⟨a,_,i,_,rfl,rfl,hS,FU h0 h1,k⟩
def rLen (K:Frg):List V->Hp->VK->Prop:=λxs H Q=>∃p ys,xs=[.ref p]/\(SqL K H p ys\/SqT K H p ys)/\Q (.int ys.length) H
theorem oy:XY X (.builtin "len") (rLen X.K):=ox
theorem rd_lenT (S:Sta B G0 H cs ds) (hx:Has ds (.tuple xs) v) (k:Q (.int xs.length) H):rLen K [v] H Q:=by
 obtain ⟨p,vs,rfl,hp,hl,_⟩:=S.tup hx;exact ⟨p,vs,rfl, .inr (SqT.of hp),by rw [<-hl];exact k⟩
theorem rd_lenL (S:Sta B G0 H cs ds) (hx:Has ds (.list xs) v) (k:Q (.int xs.length) H):rLen K [v] H Q:=by
 obtain ⟨p,vs,rfl,hp,hl,_⟩:=S.lst hx;exact ⟨p,vs,rfl, .inl (SqL.of hp),by rw [<-hl];exact k⟩
theorem rd_lenC (S:Sta B G0 H cs ds) (hx:(L,xs)∈cs) (k:Q (.int xs.length) H):rLen K [.ref L] H Q:=by
 obtain ⟨vs,hp,hl,_⟩:=S.cell hx;exact ⟨L,vs,rfl, .inl (SqL.of hp),by rw [<-hl];exact k⟩
theorem HC {a:Addr} {ns:List Int} (hS:SqL K H a (ns.map V.int)) (k:Q (.int ns.length) H):rLen K [.ref a] H Q:=
 ⟨a,_,rfl, .inl hS,by rw [Qa];exact k⟩
def rAbs:List V->Hp->VK->Prop:=λxs H Q=>∃i,xs=[.int i]/\Q (.int (if i<0 then -i else i)) H
theorem call_absA:XY X (.builtin "abs") rAbs:=Fz
theorem rd_abs (k:Q (.int (i.natAbs:Int)) H):rAbs [.int i] H Q:=⟨i,rfl,by
 rw [show (if i<0 then -i else i)=(i.natAbs:Int) by split<;>omega];exact k⟩
def rMin:List V->Hp->VK->Prop:=λxs H Q=>∃i j,xs=[.int i, .int j]/\Q (.int (if j<i then j else i)) H
theorem CD (hc:X.calm=true):XY X (.builtin "min") rMin:=CF hc
theorem rd_min (k:Q (.int (min i j)) H):rMin [.int i, .int j] H Q:=⟨i,j,rfl,by
 rw [show (if j<i then j else i)=min i j by split<;>omega];exact k⟩
def qm (K:Frg):List V->Hp->VK->Prop:=λxs H Q=>∃p ys,xs=[.ref p]/\(SqL K H p ys\/SqT K H p ys)/\∀l,H l=none->Q (.ref l) (upd H l (.lst ys))
theorem Jm:XY X (.type "list") (qm X.K):=ow
def su (K:Frg):List V->Hp->VK->Prop:=λxs H Q=>∃p ys,xs=[.ref p]/\((SqL K H p ys/\∀l,H l=none->Q (.ref l) (upd H l (.tup ys)))\/(SqT K H p ys/\Q (.ref p) H))
theorem IM:XY X (.type "tuple") (su X.K):=lL
theorem rd_listL (S:Sta B G0 H cs ds) (hx:Has ds (.list xs) v) (k:∀l H',zV H H'->Sta B G0 H' ((l,xs)::cs) ds->Q (.ref l) H'):qm K [v] H Q:=by
 obtain ⟨p,vs,rfl,hp,hl,S',hA⟩:=S.lstAll hx;exact ⟨p,vs,rfl, .inl (SqL.of hp),λl hl=>k l _ (zV.new hl _) ((S'.newL hl hA).dat λq hq=> .mem (QE _ hq))⟩
theorem rd_listC (S:Sta B G0 H cs ds) (hx:(L,xs)∈cs) (k:∀l H',zV H H'->Sta B G0 H' ((l,xs)::cs) ds->Q (.ref l) H'):qm K [.ref L] H Q:=by
 obtain ⟨vs,hp,hl,S',hA⟩:=S.cellAll hx;exact ⟨L,vs,rfl, .inl (SqL.of hp),λl hl=>k l _ (zV.new hl _) ((S'.newL hl hA).dat λq hq=> .mem (QE _ hq))⟩
theorem rd_tupleC (S:Sta B G0 H cs ds) (hx:(L,xs)∈cs) (k:∀l H',zV H H'->Sta B G0 H' cs ((.tuple xs, .ref l)::ds)->Q (.ref l) H'):su K [.ref L] H Q:=by
 obtain ⟨vs,hp,hl,S',hA⟩:=S.cellAll hx
 exact ⟨L,vs,rfl, .inl ⟨SqL.of hp,λl hl=>k l _ (zV.new hl _) ((S'.newT hl hA).dat λq hq=> .mem (by
  rcases Qm.mp hq with rfl|hq
  ·exact Qe ..
  ·exact Qf _ (QE _ hq)))⟩⟩
def kBM (K:Frg) (T:String) (r:V->List V->Hp->VK->Prop) (t:TA) (σ:L2.St) (Q:VK):VK:=λx H1=>tyV K T x H1/\t σ H1 λxs H2=>r x xs H2 Q
def kBM0 (K:Frg) (T:String) (r:V->List V->Hp->VK->Prop) (Q:VK):VK:=λx H1=>tyV K T x H1/\r x [] H1 Q
theorem rd_bm   (h:to σ H (kBM K T r t σ Q)):tBM K T r to t σ H Q:=h
theorem rd_bm0  (h:to σ H (kBM0 K T r Q)):tBM0 K T r to σ H Q:=h
theorem rd_kBM  (S:Sta B G0 H cs ds) (hx:(L,xs)∈cs) (h:t σ H λys H2=>r (.ref L) ys H2 Q):kBM K "list" r t σ Q (.ref L) H:=by
 obtain ⟨vs,hp,hl,_⟩:=S.cell hx;exact ⟨.inl ⟨rfl,_,SqL.of hp⟩,h⟩
theorem rd_kBM0  (S:Sta B G0 H cs ds) (hx:(L,xs)∈cs) (h:r (.ref L) [] H Q):kBM0 K "list" r Q (.ref L) H:=by
 obtain ⟨vs,hp,hl,_⟩:=S.cell hx;exact ⟨.inl ⟨rfl,_,SqL.of hp⟩,h⟩
theorem yK (S:Sta B G0 H ((L,xs)::cs) ds) (hy:Has ds y w) (hz:xs.length<=1000) (k:∀H',Sta B G0 H' ((L,xs++[y])::cs) ds->Q .non H'):AS (.ref L) [w] H Q:=by
 obtain ⟨vs,hp,hl,put⟩:=S.put;exact ⟨L,vs,w,rfl,rfl,hp,Wr (by omega),k _ (put _ _ λG a u=>u.app (by rw [zL];exact ⟨w,[],rfl,hy G a,by rw [zL]⟩))⟩
theorem Ec (S:Sta B G0 H ((L,xs)::cs) ds) (k:∀H',Sta B G0 H' ((L,[])::cs) ds->Q .non H'):Gx (.ref L) [] H Q:=by
 obtain ⟨vs,hp,hl,put⟩:=S.put;exact ⟨L,vs,rfl,rfl,hp,k _ (put _ _ λG a u=>by rw [zL])⟩
theorem Hw   (S:Sta B G0 H ((L,xs)::cs) ds) (hy:Has ds y w) (hi:ixN xs.length i=some j) (k:∀H',Sta B G0 H' ((L,xs.set j y)::cs) ds->R H'):rSetL (.ref L) (.int i) w H R:=by
 obtain ⟨vs,hp,hl,put⟩:=S.put;exact ⟨L,vs,i,j,rfl,rfl,hp,by rw [<-hl];exact hi,k _ (put _ _ λG a u=>u.set (hy G a) j)⟩
def lJ (xs:List PyData) (lo hi:Option Int):List PyData:=(xs.drop (HT.sIx xs.length 0 lo)).take (HT.sIx xs.length xs.length hi - HT.sIx xs.length 0 lo)
theorem iS {lo hi:Option Int} (S:Sta B G0 H cs ds) (hx:Has ds (.list xs) v) (k:∀l H',zV H H'->Sta B G0 H' ((l,lJ xs lo hi)::cs) ds->Q (.ref l) H'):rSlL K v lo hi H Q:=by
 obtain ⟨p,vs,rfl,hp,hl,S',hA⟩:=S.lstAll hx;refine ⟨p,vs,rfl,SqL.of hp,λl hn=>k l _ (zV.new hn _) ((S'.newL hn λG a=>?_).dat λq hq=> .mem (QE _ hq))⟩;unfold lJ GN;rw [hl];exact ((hA G a).drop _).take _
theorem nq {lo hi:Option Int} {L:Addr} (S:Sta B G0 H cs ds) (hx:(L,xs)∈cs) (k:∀l H',zV H H'->Sta B G0 H' ((l,lJ xs lo hi)::cs) ds->Q (.ref l) H'):rSlL K (.ref L) lo hi H Q:=by
 obtain ⟨vs,hp,hl,S',hA⟩:=S.cellAll hx;refine ⟨L,vs,rfl,SqL.of hp,λl hn=>k l _ (zV.new hn _) ((S'.newL hn λG a=>?_).dat λq hq=> .mem (QE _ hq))⟩;unfold lJ GN;rw [hl];exact ((hA G a).drop _).take _
end
theorem mulModOk (h:(0<m/\m<2 ^ 64)/\(0<n/\n<2 ^ 64)):IntMulOk (a % m) (b % n):=by
 have h1:=jaB a (show m≠0 by omega);have h2:=jaj a h.1.1;have h3:=jaB b (show n≠0 by omega);have h4:=jaj b h.2.1;have e:(2:Nat) ^ 64=18446744073709551616:=by decide
 have e':(2:Int) ^ 64=18446744073709551616:=by decide
 rw [e'] at h;exact Sz.mulOk (m:=64) (n:=64) (by unfold Sz;rw [e];omega) (by unfold Sz;rw [e];omega) (by decide)
theorem iteNT {A B:Prop} (h:B):if (!true)=true then A else B:=h
section
variable {B G0 H:Hp} {cs:yD} {ds:Dat} {Q:VK} {v:V} {xs zs:List PyData} {K:Frg} {X:Cx} {L M:Addr}
def Ef:R2:=λx y H Q=>rI0 (λi j=> .int (i+j)) x y H Q\/rCat x y H Q
theorem AY:OpR X (binaryOp .Add) Ef:=op_add.or op_cat
theorem rd_addI (h:Q (.int (i+j)) H):Ef (.int i) (.int j) H Q:= .inl ⟨i,j,rfl,rfl,h⟩
def Vw (B G0 H:Hp) (cs:yD) (ds:Dat) (L:Addr) (xs:List PyData):Prop:=∃vs,H L=some (.lst vs)/\∀G,IW B G0 H cs ds G->zL G xs vs
theorem Sta.vwL (S:Sta B G0 H cs ds) (h:Has ds (.list xs) (.ref L)):Vw B G0 H cs ds L xs:=by
 obtain ⟨G,S⟩:=S;have q:=h G S.2.2.2.2.2.2;rw [Is] at q;obtain ⟨p,vs,e,hp,u⟩:=q;cases e;have Ll:=S.2.1 _ _ hp;refine ⟨vs,Ll,λG' S'=>?_⟩;have q:=h G' S'.2.2.2.2.2.2;rw [Is] at q;obtain ⟨p,vs',e,Rj,u'⟩:=q;cases e;have:=S'.2.1 _ _ Rj;rw [Ll] at this;cases this;exact u'
theorem Sta.vwC (S:Sta B G0 H cs ds) (h:(L,xs)∈cs):Vw B G0 H cs ds L xs:=by
 obtain ⟨G,S⟩:=S;obtain ⟨_,_,vs,z,u⟩:=S.2.2.2.2.1 _ h;refine ⟨vs,z,λG' S'=>?_⟩;obtain ⟨_,_,vs',z',u'⟩:=S'.2.2.2.2.1 _ h;rw [z] at z';cases z';exact u'
theorem Ze (S:Sta B G0 H cs ds) (v1:Vw B G0 H cs ds L xs) (v2:Vw B G0 H cs ds M zs) (hz:xs.length+zs.length<=1000)
 (k:∀p H',zV H H'->Sta B G0 H' ((p,xs++zs)::cs) ds->Q (.ref p) H'):Ef (.ref L) (.ref M) H Q:=by
 obtain ⟨us,h1,u1⟩:=v1;obtain ⟨ws,h2,u2⟩:=v2;obtain ⟨G,S'⟩:=id S;refine .inr ⟨L,M,us,ws,rfl,rfl,h1,h2,jbM (Wr (by rw [<-(u1 G S').len,<-(u2 G S').len];exact hz)),λp hp=>k p _ (zV.new hp _) ?_⟩;obtain ⟨a,b,c,d,e,f,g⟩:=id S';have hG:G p=none:=b.free hp;refine ⟨G,a,b.trans (zV.new hp _),c.trans (zV.new hp _),d,λq hq=>?_,?_,g⟩
 ·rcases Qm.mp hq with rfl|hq
  ·exact ⟨c.free hp,hG,_,yM,(u1 G S').app (u2 G S')⟩
  ·obtain ⟨x,y,ws,z,u⟩:=e q hq;have KI:q.1≠p:=yk z hp;exact ⟨x,y,ws,by rw [yg KI];exact z,u⟩
 ·rw [Qo,TX];refine ⟨λz=>?_,f⟩;obtain ⟨q,hq,KI⟩:=Qj.mp z;obtain ⟨_,_,ws,z,_⟩:=e q hq;rw [KI,hp] at z;cases z
def rSum (K:Frg):List V->Hp->VK->Prop:=λxs H Q=>∃(p:Addr) (ns:List Int),xs=[.ref p]/\SqL K H p (ns.map V.int)/\Q (.int ns.sum) H
theorem call_sumA (hc:X.calm=true):XY X (.builtin "sum") (rSum X.K):=by
 intro pins s σ H xs us Q I r h;obtain ⟨p,ns,rfl,hq,q⟩:=h;obtain ⟨u,rfl,rx⟩:=cy r;cases rx;obtain ⟨its,rv,pl,_⟩:=I.list hq;have hi:=Xm rv;obtain ⟨ys,e⟩:=hi.allInts.items;have hl:s.heap.IsList p (intItems ys):=e▸pl.isList;have en:ys.toList.map (·.1)=ns:=by rw [<-nums_intItems,<-e];exact hi.numsOf
 refine sum_intListG (I.ok.hd hc) hl λh' tk t' hk=>?_;refine ⟨.int ns.sum,H,I.kept (t':=tk) hk,⟨t',?_⟩,q⟩;rw [preSum_eq,en,Ti (by rw [<-en];simp)]
theorem yJ:∀{ns:List Int} {vs:List V},zL G (ns.map PyData.int) vs->vs=ns.map V.int
 |[],vs,h=>by rw [jaq,zL] at h;exact h
 |n::ns,vs,h=>by
  rw [Qo,zL] at h;obtain ⟨v,r,rfl,h1,h2⟩:=h;rw [Is] at h1;subst h1;rw [yJ h2,Qo]
theorem rd_sumC {ns:List Int} (S:Sta B G0 H cs ds) (h:(L,ns.map PyData.int)∈cs) (k:Q (.int ns.sum) H):rSum K [.ref L] H Q:=by
 obtain ⟨vs,hp,u⟩:=S.vwC h;obtain ⟨G,S'⟩:=id S;rw [yJ (u G S')] at hp;exact ⟨L,ns,rfl,SqL.of hp,k⟩
theorem rd_sumL {ns:List Int} (S:Sta B G0 H cs ds) (h:Has ds (.list (ns.map PyData.int)) v) (k:Q (.int ns.sum) H):rSum K [v] H Q:=by
 obtain ⟨p,vs,rfl,_⟩:=S.lst h;obtain ⟨vs,hp,u⟩:=S.vwL h;obtain ⟨G,S'⟩:=id S;rw [yJ (u G S')] at hp;exact ⟨_,ns,rfl,SqL.of hp,k⟩
end
def Ro (B G0:Hp) (L:Addr) (xs:List PyData):Prop:=G0 L=none/\∃vs,B L=some (.lst vs)/\zL G0 xs vs
def Src (B G0:Hp) (b:Bool) (K:Frg) (a:Addr) (xs:List PyData) (P:yD->Dat->Prop):Prop:=∀{H:Hp} {cs:yD} {ds:Dat},Sta B G0 H cs ds->P cs ds->
 ∃vs,SqB b K H a vs/\xs.length=vs.length/\∀(i:Nat) (x:PyData),xs[i]? =some x->∃v,vs[i]? =some v/\Sta B G0 H cs ((x,v)::ds)
structure Wk (B G0:Hp) (J:It) (xs:List PyData) (P:yD->Dat->Prop):Prop where
 go:∀{H:Hp} {cs:yD} {ds:Dat} {i:Nat},Sta B G0 H cs ds->P cs ds->i<xs.length->J.go i H
 stop:∀{H:Hp} {cs:yD} {ds:Dat} {i:Nat},Sta B G0 H cs ds->P cs ds->xs.length<=i->J.stop i H
 yld:∀{H H':Hp} {cs:yD} {ds:Dat} {i:Nat} {x:PyData} {v:V},Sta B G0 H cs ds->P cs ds->xs[i]? =some x->J.yld i H v H'->zV H H'/\Sta B G0 H' cs ((x,v)::ds)
section
variable {B G0 H:Hp} {cs:yD} {ds:Dat} {K:Frg} {a:Addr} {xs ys:List PyData} {P P':yD->Dat->Prop} {b c:Bool} {v:V}
theorem WX:Src B G0 true K a xs (λ_ ds=>Has ds (.list xs) (.ref a)):=λS h=>by
 obtain ⟨p,vs,e,hp,hl,z⟩:=S.lst h;cases e;exact ⟨vs,SqL.of hp,hl,z⟩
theorem dF:Src B G0 false K a xs (λ_ ds=>Has ds (.tuple xs) (.ref a)):=λS h=>by
 obtain ⟨p,vs,e,hp,hl,z⟩:=S.tup h;cases e;exact ⟨vs,SqT.of hp,hl,z⟩
theorem DJ:Src B G0 true K a xs (λcs _=>(a,xs)∈cs):=λS h=>by
 obtain ⟨vs,hp,hl,z⟩:=S.cell h;exact ⟨vs,SqL.of hp,hl,z⟩
theorem wD (s:Src B G0 true K a xs P):Wk B G0 (Itl K a) xs P where
 go:=λ{H cs ds i} S h hi=>by
  obtain ⟨vs,q,hl,_⟩:=s S h;exact ⟨vs,vs[i]'(by omega),q,Qb _⟩
 stop:=λ{H cs ds i} S h hi=>by
  obtain ⟨vs,q,hl,_⟩:=s S h;exact ⟨vs,q,by omega⟩
 yld:=λ{H H' cs ds i x v} S h hx y=>by
  obtain ⟨e,y⟩:=y;subst e;obtain ⟨vs,q,hl,z⟩:=s S h;obtain ⟨w,hw,S'⟩:=z i x hx;have:=y vs q;rw [hw] at this;cases this;exact ⟨zV.refl _,S'⟩
theorem wk_tup (s:Src B G0 false K a xs P):Wk B G0 (Itt K a) xs P where
 go:=λ{H cs ds i} S h hi=>by
  obtain ⟨vs,q,hl,_⟩:=s S h;exact ⟨vs,vs[i]'(by omega),q,Qb _⟩
 stop:=λ{H cs ds i} S h hi=>by
  obtain ⟨vs,q,hl,_⟩:=s S h;exact ⟨vs,q,by omega⟩
 yld:=λ{H H' cs ds i x v} S h hx y=>by
  obtain ⟨e,y⟩:=y;subst e;obtain ⟨vs,q,hl,z⟩:=s S h;obtain ⟨w,hw,S'⟩:=z i x hx;have:=y vs q;rw [hw] at this;cases this;exact ⟨zV.refl _,S'⟩
def eN (lo:Int) (n:Nat):List PyData:=(List.range n).map λi=> .int (lo+(i:Nat))
theorem xg (lo:Int) (n:Nat):(eN lo n).length=n:=by unfold eN;rw [Qa,jbD]
theorem Yp {lo:Int} {n i:Nat} {x:PyData} (h:(eN lo n)[i]? =some x):i<n/\x= .int (lo+(i:Nat)):=by
 have hi:i<n:=by have:=(Qd.mp h).1;rwa [xg] at this
 unfold eN at h;rw [Qh,List.getElem?_range hi] at h;exact ⟨hi,(QL h).symm⟩
theorem rK {lo:Int} {n:Nat}:Wk B G0 (Itr lo n) (eN lo n) (λ_ _=>True) where
 go:=λ{H cs ds i} S h hi=>by rw [xg] at hi;exact hi
 stop:=λ{H cs ds i} S h hi=>by rw [xg] at hi;exact hi
 yld:=λ{H H' cs ds i x v} S h hx y=>by
  obtain ⟨e,y⟩:=y;obtain ⟨_,rfl⟩:=Yp hx;subst e y;exact ⟨zV.refl _,S.push Has.int⟩
def qQ (xs:List PyData):List PyData:=xs.mapIdx λi x=> .tuple [.int (i:Nat),x]
theorem xO (xs:List PyData):(qQ xs).length=xs.length:=by unfold qQ;rw [List.length_mapIdx]
theorem Vg {xs:List PyData} {i:Nat} {y:PyData} (h:(qQ xs)[i]? =some y):∃x,xs[i]? =some x/\y= .tuple [.int (i:Nat),x]:=by
 unfold qQ at h;rw [List.getElem?_mapIdx] at h
 cases e:xs[i]? with
 |none=>rw [e] at h;cases h
 |some x=>rw [e] at h;exact ⟨x,rfl,(QL h).symm⟩
theorem wF (s:Src B G0 b K a xs P):Wk B G0 (ItE b K a) (qQ xs) P where
 go:=λ{H cs ds i} S h hi=>by
  rw [xO] at hi;obtain ⟨vs,q,hl,_⟩:=s S h;exact ⟨vs,vs[i]'(by omega),q,Qb _⟩
 stop:=λ{H cs ds i} S h hi=>by
  rw [xO] at hi;obtain ⟨vs,q,hl,_⟩:=s S h;exact ⟨vs,q,by omega⟩
 yld:=λ{H H' cs ds i x v} S h hx y=>by
  obtain ⟨x0,Lc,rfl⟩:=Vg hx;obtain ⟨p,u,hu,hp,rfl,rfl⟩:=y;obtain ⟨vs,q,hl,z⟩:=s S h;obtain ⟨w,hw,S'⟩:=z i x0 Lc;have:=hu vs q;rw [hw] at this;cases this;refine ⟨zV.new hp _,(S'.newT hp (xs:=[.int (i:Nat),x0]) (vs:=[.int (i:Nat),u]) (.cons Has.int (.cons (.mem (Qe ..)) .nil))).dat λr hr=> .mem ?_⟩
  rcases Qm.mp hr with rfl|hr
  ·exact Qe ..
  ·exact Qf _ (Qf _ hr)
def Gf (xs ys:List PyData):List PyData:=List.zipWith (λx y=> .tuple [x,y]) xs ys
theorem yR (xs ys:List PyData):(Gf xs ys).length=min xs.length ys.length:=by unfold Gf;rw [Qy]
theorem Zo {xs ys:List PyData} {i:Nat} {z:PyData} (h:(Gf xs ys)[i]? =some z):∃x y,xs[i]? =some x/\ys[i]? =some y/\z= .tuple [x,y]:=by
 unfold Gf at h;rw [Qt] at h
 cases e:xs[i]? with
 |none=>rw [e] at h;cases h
 |some x=>
  cases e2:ys[i]? with
  |none=>rw [e,e2] at h;cases h
  |some y=>rw [e,e2] at h;exact ⟨x,y,rfl,rfl,(QL h).symm⟩
theorem wC {a2:Addr} (s:Src B G0 b K a xs P) (s2:Src B G0 c K a2 ys P'):Wk B G0 (ItZ b c K a a2) (Gf xs ys) (λcs ds=>P cs ds/\(∀x v,P' cs ds->P' cs ((x,v)::ds))/\P' cs ds) where
 go:=λ{H cs ds i} S h hi=>by
  rw [yR] at hi;obtain ⟨vs,q,hl,_⟩:=s S h.1;obtain ⟨ws,q2,Le,_⟩:=s2 S h.2.2;exact ⟨vs,ws,vs[i]'(by omega),ws[i]'(by omega),q,q2,Qb _,Qb _⟩
 stop:=λ{H cs ds i} S h hi=>by
  rw [yR] at hi;obtain ⟨vs,q,hl,_⟩:=s S h.1;obtain ⟨ws,q2,Le,_⟩:=s2 S h.2.2;exact ⟨vs,ws,q,q2,by omega⟩
 yld:=λ{H H' cs ds i x v} S h hx y=>by
  obtain ⟨x0,y0,Lc,hy0,rfl⟩:=Zo hx;obtain ⟨p,u,u2,hu,Rb,hp,rfl,rfl⟩:=y;obtain ⟨vs,q,hl,z⟩:=s S h.1;obtain ⟨w,hw,S'⟩:=z i x0 Lc;obtain ⟨ws,q2,Le,z2⟩:=s2 S' (h.2.1 _ _ h.2.2);obtain ⟨w2,Ra,S''⟩:=z2 i y0 hy0;have:=hu vs q;rw [hw] at this;cases this;have:=Rb ws q2;rw [Ra] at this;cases this;refine ⟨zV.new hp _,(S''.newT hp (xs:=[x0,y0]) (vs:=[u,u2]) (.cons (.mem (Qf _ (Qe ..))) (.cons (.mem (Qe ..)) .nil))).dat λr hr=> .mem ?_⟩
  rcases Qm.mp hr with rfl|hr
  ·exact Qe ..
  ·exact Qf _ (Qf _ (Qf _ hr))
def kIL (K:Frg) (R:It->Hp->Prop):VK:=λx H1=>∃a,x= .ref a/\(∃xs,SqL K H1 a xs)/\R (Itl K a) H1
def kIT (K:Frg) (R:It->Hp->Prop):VK:=λx H1=>∃a,x= .ref a/\(∃xs,SqT K H1 a xs)/\R (Itt K a) H1
def kR1 (R:It->Hp->Prop):List V->Hp->Prop:=λvs H1=>∃j:Int,vs=[.int j]/\ -(2 ^ 62)<=j/\j<2 ^ 62/\R (Itr 0 j.toNat) H1
def kR2 (R:It->Hp->Prop):List V->Hp->Prop:=λvs H1=>∃i j:Int,vs=[.int i, .int j]/\(-(2 ^ 62)<=i/\i<2 ^ 62/\ -(2 ^ 62)<=j/\j<2 ^ 62)/\R (Itr i (j - i).toNat) H1
def kEn (b:Bool) (K:Frg) (R:It->Hp->Prop):List V->Hp->Prop:=λvs H1=>∃a,vs=[.ref a]/\(∃xs,SqB b K H1 a xs)/\R (ItE b K a) H1
def kZi (b c:Bool) (K:Frg) (R:It->Hp->Prop):List V->Hp->Prop:=λvs H1=>∃a1 a2,vs=[.ref a1, .ref a2]/\(∃xs,SqB b K H1 a1 xs)/\(∃ys,SqB c K H1 a2 ys)/\R (ItZ b c K a1 a2) H1
section
variable {σ:L2.St} {R:It->Hp->Prop} {tl:TE} {ta:TA}
theorem rd_iList (h:tl σ H (kIL K R)):iList K tl σ H R:=h
theorem rd_iTup (h:tl σ H (kIT K R)):iTup K tl σ H R:=h
theorem rd_iR1 (h:ta σ H (kR1 R)):iRng1 ta σ H R:=h
theorem rd_iR2 (h:ta σ H (kR2 R)):iRng2 ta σ H R:=h
theorem rd_iEn (h:ta σ H (kEn b K R)):iEnum b K ta σ H R:=h
theorem rd_iZi (h:ta σ H (kZi b c K R)):iZip b c K ta σ H R:=h
theorem sq (B G0:Hp) (h1: -1000<=j) (h2:j<=1000000) (k:∀J,Wk B G0 J (eN 0 j.toNat) (λ_ _=>True)->R J H):kR1 R [.int j] H:=⟨j,rfl,by omega,by omega,k _ rK⟩
theorem Gw (B G0:Hp) (h1: -1000<=i/\i<=1000000) (h2: -1000<=j/\j<=1000000) (k:∀J,Wk B G0 J (eN i (j - i).toNat) (λ_ _=>True)->R J H):kR2 R [.int i, .int j] H:=⟨i,j,rfl,⟨by omega,by omega,by omega,by omega⟩,k _ rK⟩
end
def kGT (K:Frg) (n:Nat) (t:TGs) (σ:L2.St) (N:L2.St->Hp->Prop):VK:=λv H=>∃a xs,v= .ref a/\SqT K H a xs/\xs.length=n/\t xs σ H N
theorem xf   (h:kGT K n t σ N v H):gTup K n t v σ H N:=h
theorem rd_kGT   (S:Sta B G0 H cs ds) (h:Has ds (.tuple xs) v) (hn:xs.length=n) (k:∀vs,xs.length=vs.length->Sta B G0 H cs (xs.zip vs++ds)->t vs σ H N):kGT K n t σ N v H:=by
 obtain ⟨p,vs,rfl,hp,hl,S',_⟩:=S.tupAll h;exact ⟨p,vs,rfl,SqT.of hp,by omega,k vs hl S'⟩
theorem xc   (S:Sta B G0 H cs ds) (h:Has ds (.tuple [x,y]) v) (k:∀w1 w2,Sta B G0 H cs ((x,w1)::(y,w2)::ds)->t [w1,w2] σ H N):kGT K 2 t σ N v H:=by
 refine rd_kGT S h rfl λvs hl S'=>?_
 rcases vs with _|⟨w1,_|⟨w2,_|⟨w3,vs⟩⟩⟩<;>try cases hl
 exact k w1 w2 S'
theorem yN   (h:t v σ H λσ' H'=>u vs σ' H' N):gCons t u (v::vs) σ H N:=⟨v,vs,rfl,h⟩
theorem XO  (h:N σ H):gNil [] σ H N:=⟨rfl,h⟩
def kFor (g:TG) (tb:TS) (D:Ends) (σ:L2.St):It->Hp->Prop:=λJ H1=>∃W:Nat->Nat->L2.St->Hp->Prop,(∃m,W 0 m σ H1)/\∀i m σ H,W i m σ H->
 (J.stop i H/\D.nx σ H)\/(J.go i H/\∃N:L2.St->Hp->Prop,(∀σ' H',N σ' H'->∃m',m'<m/\W (i+1) m' σ' H')/\∀x H',J.yld i H x H'->g x σ H' λσ2 H2=>tb {D with nx:=N,ct:=N,bk:=D.nx} σ2 H2)
theorem rd_for   (h:wi σ H (kFor g tb D σ)):tFor wi g tb D σ H:=h
def AtP (B G0:Hp) (Pv:L2.St->yD->Dat->Prop):L2.St->Hp->Prop:=λσ H=>∃cs ds,Sta B G0 H cs ds/\Pv σ cs ds
theorem ZK  (S:Sta B G0 H cs ds) (h:Pv σ cs ds):AtP B G0 Pv σ H:=⟨cs,ds,S,h⟩
theorem xF   (w:Wk B G0 J xs P) (Pv:Nat->L2.St->yD->Dat->Prop) (S:Sta B G0 H cs ds) (h0:Pv 0 σ cs ds) (hP:∀i σ cs ds,Pv i σ cs ds->P cs ds)
 (hs:∀(i:Nat) (x:PyData) (v:V) (σ:L2.St) (H:Hp) (cs:yD) (ds:Dat),xs[i]? =some x->Pv i σ cs ds->Sta B G0 H cs ((x,v)::ds)->g v σ H λσ2 H2=>tb (mkL D (AtP B G0 (Pv (i+1)))) σ2 H2)
 (hd:∀(σ:L2.St) (H:Hp) (cs:yD) (ds:Dat),Pv xs.length σ cs ds->Sta B G0 H cs ds->D.nx σ H):kFor g tb D σ J H:=by
 refine ⟨λi m σ H=>m=xs.length - i/\i<=xs.length/\AtP B G0 (Pv i) σ H,⟨xs.length,by simp,jal _,cs,ds,S,h0⟩,?_⟩
 rintro i m σ H ⟨rfl,hi,cs,ds,S,p⟩
 by_cases Kr:i<xs.length
 ·refine .inr ⟨w.go S (hP _ _ _ _ p) Kr,AtP B G0 (Pv (i+1)),λσ' H' p'=>⟨xs.length - (i+1),by omega,rfl,Kr,p'⟩,λx H' y=>?_⟩;exact hs i _ x σ H' cs ds (Qb Kr) p (w.yld S (hP _ _ _ _ p) (Qb Kr) y).2
 ·have e:i=xs.length:=by omega
  subst e;exact .inl ⟨w.stop S (hP _ _ _ _ p) (Qv _),hd σ H cs ds p S⟩
def WP (B G0:Hp) (Pv:Nat->L2.St->yD->Dat->Prop):Nat->L2.St->Hp->Prop:=λm σ H=>AtP B G0 (Pv m) σ H
def kWh (W:Nat->L2.St->Hp->Prop) (tb:TS) (D:Ends) (m:Nat) (σ:L2.St):Bool->Hp->Prop:=λb H1=>if b=true then ∃N:L2.St->Hp->Prop,(∀σ' H',N σ' H'->∃m',m'<m/\W m' σ' H')/\tb {D with nx:=N,ct:=N,bk:=D.nx} σ H1 else D.nx σ H1
theorem uD    (h1:b=true->tb (mkL D (λσ' H'=>∃m',m'<m/\W m' σ' H')) σ H)
 (h2:b=false->D.nx σ H):kWh W tb D m σ b H:=by
 cases b with
 |true=>exact ⟨_,λσ' H' q=>q,h1 rfl⟩
 |false=>exact h2 rfl
theorem pC {c:TT} {tb:TS} {D:Ends} {σ:L2.St} (W:Nat->L2.St->Hp->Prop) (m:Nat) (h0:W m σ H) (hs:∀(m:Nat) (σ:L2.St) (H:Hp),W m σ H->c σ H (kWh W tb D m σ)):wL c tb D σ H:=⟨W,⟨m,h0⟩,hs⟩
theorem my {c:TT} {tb:TS} {D:Ends} {σ:L2.St} (Pv:Nat->L2.St->yD->Dat->Prop) (m:Nat) (S:Sta B G0 H cs ds) (h0:Pv m σ cs ds)
 (hs:∀(m:Nat) (σ:L2.St) (H:Hp) (cs:yD) (ds:Dat),Pv m σ cs ds->Sta B G0 H cs ds->c σ H (kWh (WP B G0 Pv) tb D m σ)):wL c tb D σ H:=
 ⟨WP B G0 Pv,⟨m,cs,ds,S,h0⟩,λm σ H ⟨cs,ds,S,p⟩=>hs m σ H cs ds p S⟩
def Ff (n:Nat) (fr:List Nat) (g:Blk TG) (tt:Blk TT) (te:Blk TE) (σ:L2.St) (Q:VK):It->Hp->Prop:=λJ H1=>∀D,H1 D=none->∀C ex s0 H0,
 ∃W:Nat->Nat->List V->Hp->Prop,(∃m,W 0 m [] (upd H1 D (.lst [])))/\∀i m ys H2,W i m ys H2->H2 D=some (.lst ys)/\
  ((J.stop i H2/\Q (.ref D) H2)\/(J.go i H2/\∀x H3,J.yld i H2 x H3->g C ex s0 H0 x (List.replicate n none++frσ σ fr) H3 λσ4 H4=>σ4.drop n=frσ σ fr/\tt C ex s0 H0 σ4 H4 λb H5=>
    if b=true then te C ex s0 H0 σ4 H5 λy H6=>H6 D=some (.lst ys)/\ys.length<sizeLine/\∃m',m'<m/\W (i+1) m' (ys++[y]) (upd H6 D (.lst (ys++[y])))
    else ∃m',m'<m/\W (i+1) m' ys H5))
theorem rd_comp     (h:wi σ H (Ff n fr g tt te σ Q)):uq n fr wi g tt te σ H Q:=h
structure Turn1 (B G0:Hp) (cs:yD) (B' G':Hp):Prop where
 b:zV B B'
 ro:∀c∈cs,Ro B' G' c.1 c.2
 old:∀{L:Addr} {xs:List PyData},Ro B G0 L xs->Ro B' G' L xs
theorem bq     (w:Wk B G0 J xs P) (f:Nat->Option PyData) (S:Sta B G0 H cs ds) (Nh:∀D ys,P ((D,ys)::cs) ds) (hn:xs.length<=1000)
 (hs:∀(i:Nat) (x:PyData) (v:V) (B' G':Hp) (Kd:VK) (Kn:Hp->Prop),xs[i]? =some x->Turn1 B G0 cs B' G'->Sta B' G' B' [] ((x,v)::ds)->
  (∀{z:PyData} {y:V} {H6:Hp} {cs':yD} {ds':Dat},f i=some z->Sta B' G' H6 cs' ds'->Has ds' z y->Kd y H6)->(∀{H5:Hp} {cs':yD} {ds':Dat},f i=none->Sta B' G' H5 cs' ds'->Kn H5)->
  ∀C ex s0 H0,g C ex s0 H0 v (List.replicate n none++frσ σ fr) B' λσ4 H4=>σ4.drop n=frσ σ fr/\tt C ex s0 H0 σ4 H4 λb H5=>if b=true then te C ex s0 H0 σ4 H5 Kd else Kn H5)
 (k:∀D H',zV H H'->Sta B G0 H' ((D,(List.range xs.length).filterMap f)::cs) ds->Q (.ref D) H'):Ff n fr g tt te σ Q J H:=by
 intro D hD C ex s0 H0;have len:∀i,((List.range i).filterMap f).length<=i:=λi=>QU (jbm _ _) (by rw [jbD];exact Qv _);refine ⟨λi m ys H2=>m=xs.length - i/\i<=xs.length/\H2 D=some (.lst ys)/\zV H H2/\Sta B G0 H2 ((D,(List.range i).filterMap f)::cs) ds,⟨xs.length,by simp,jal _,yM,zV.new hD _,S.newL hD .nil⟩,?_⟩
 rintro i m ys H2 ⟨rfl,hi,Pc,hS,S2⟩
 refine ⟨Pc,?_⟩
 by_cases Kr:i<xs.length
 ·refine .inr ⟨w.go S2 (Nh _ _) Kr,λv H3 y=>?_⟩;obtain ⟨e3,G3,S3⟩:=w.yld S2 (Nh _ _) (Qb Kr) y;obtain ⟨a,b,c,d,e,f',g'⟩:=id S3;have h3D:H3 D=some (.lst ys):=e3 _ _ Pc
  have t1:Turn1 B G0 cs H3 G3:=by
   refine ⟨c,λq hq=>?_,λ{L zs} ⟨r1,vs,r2,r3⟩=>?_⟩
   ·obtain ⟨_,y',vs,z',u'⟩:=e q (Qf _ hq);exact ⟨y',vs,z',u'⟩
   ·exact ⟨by rw [d L (by rw [r2];simp)];exact r1,vs,c _ _ r2,zL.mono a _ _ r3⟩
  have up:∀{H6:Hp} {cs':yD} {ds':Dat} {o:HO},zV H H3->H D=none->zV H H6->zV H (upd H6 D o):=λ{H6 cs' ds' o} _ hn h q u hq=>by
   rw [yg (yk hq hn)];exact h _ _ hq
  refine hs i _ v H3 G3 _ _ (Qb Kr) t1 (Sta.enter b g') ?_ ?_ C ex s0 H0
  ·intro z y6 H6 cs' ds' fz S6 hz;obtain ⟨G6,gr,al⟩:=S6.leave;have h6D:H6 D=some (.lst ys):=gr.h _ _ h3D;have S6':IW B G0 H6 ((D,(List.range i).filterMap f)::cs) ((xs[i],v)::ds) G6:=S3.grow gr
   have S7:Sta B G0 H6 ((D,(List.range i).filterMap f)::cs) ((z,y6)::ds):=by
    obtain ⟨a',b',c',d',e',f'',g''⟩:=S6';exact ⟨G6,a',b',c',d',e',f'',XC.cons (λp hp=>g'' p (Qf _ hp)) (hz G6 al)⟩
   obtain ⟨vs,hv,hl,put⟩:=S7.put;rw [h6D] at hv;cases hv;refine ⟨h6D,Wr (by have:=len i;omega),xs.length - (i+1),by omega,rfl,Kr,yM,up (cs':=cs') (ds':=ds') (hS.trans e3) hD ((hS.trans e3).trans gr.h),?_⟩
   have er:(List.range (i+1)).filterMap f=(List.range i).filterMap f++[z]:=by
    rw [List.range_succ,List.filterMap_append];simp [fz]
   rw [er];exact (put _ _ λG a u=>u.app (by rw [zL];exact ⟨y6,[],rfl,a _ (Qe ..),by rw [zL]⟩)).drop1
  ·intro H5 cs' ds' fz S5;obtain ⟨G5,gr,al⟩:=S5.leave;have S5':Sta B G0 H5 ((D,(List.range i).filterMap f)::cs) ((xs[i],v)::ds):=⟨G5,S3.grow gr⟩
   have er:(List.range (i+1)).filterMap f=(List.range i).filterMap f:=by
    rw [List.range_succ,List.filterMap_append];simp [fz]
   exact ⟨xs.length - (i+1),by omega,rfl,Kr,gr.h _ _ h3D,(hS.trans e3).trans gr.h,by rw [er];exact S5'.drop1⟩
 ·have e:i=xs.length:=by omega
  subst e;exact .inl ⟨w.stop S2 (Nh _ _) (Qv _),k D H2 hS S2⟩
theorem IF {α β:Type} (g:α->β) (l:List α):l.filterMap (λi=>some (g i))=l.map g:=by
 induction l with
 |nil=>rfl
 |cons a l ih=>simp [ih]
theorem yt     (w:Wk B G0 J xs P) (f:Nat->PyData) (hy:(List.range xs.length).map f=ys) (S:Sta B G0 H cs ds) (Nh:∀D ys,P ((D,ys)::cs) ds) (hn:xs.length<=1000)
 (hs:∀(i:Nat) (x:PyData) (v:V) (B' G':Hp) (Kd:VK) (Kn:Hp->Prop),xs[i]? =some x->Turn1 B G0 cs B' G'->Sta B' G' B' [] ((x,v)::ds)->
  (∀{y:V} {H6:Hp} {cs':yD} {ds':Dat},Sta B' G' H6 cs' ds'->Has ds' (f i) y->Kd y H6)->
  ∀C ex s0 H0,g C ex s0 H0 v (List.replicate n none++frσ σ fr) B' λσ4 H4=>σ4.drop n=frσ σ fr/\tt C ex s0 H0 σ4 H4 λb H5=>if b=true then te C ex s0 H0 σ4 H5 Kd else Kn H5)
 (k:∀D H',zV H H'->Sta B G0 H' ((D,ys)::cs) ds->Q (.ref D) H'):Ff n fr g tt te σ Q J H:=by
 refine bq w (λi=>some (f i)) S Nh hn (λi x v B' G' Kd Kn hx t1 S' hd _=>hs i x v B' G' Kd Kn hx t1 S' λ{y H6 cs' ds'} a b=>hd rfl a b) λD H' e S'=>k D H' e ?_;rw [IF,hy] at S';exact S'
theorem zN (S:Sta B G0 H cs ds) (h:Has ds (.list xs) v) (k:∀J,Wk B G0 J xs (λ_ ds=>Has ds (.list xs) v)->R J H):kIL K R v H:=by
 obtain ⟨p,vs,rfl,hp,_⟩:=S.lst h;exact ⟨p,rfl,⟨_,SqL.of hp⟩,k _ (wD WX)⟩
theorem eJ (S:Sta B G0 H cs ds) (h:Has ds (.tuple xs) v) (k:∀J,Wk B G0 J xs (λ_ ds=>Has ds (.tuple xs) v)->R J H):kIT K R v H:=by
 obtain ⟨p,vs,rfl,hp,_⟩:=S.tup h;exact ⟨p,rfl,⟨_,SqT.of hp⟩,k _ (wk_tup dF)⟩
theorem AI  (S:Sta B G0 H cs ds) (h:(L,xs)∈cs) (k:∀J,Wk B G0 J xs (λcs _=>(L,xs)∈cs)->R J H):kIL K R (.ref L) H:=by
 obtain ⟨vs,hp,_⟩:=S.cell h;exact ⟨L,rfl,⟨_,SqL.of hp⟩,k _ (wD DJ)⟩
theorem HF (S:Sta B G0 H cs ds) (h:Has ds (.tuple xs) v) (k:∀J,Wk B G0 J (qQ xs) (λ_ ds=>Has ds (.tuple xs) v)->R J H):kEn false K R [v] H:=by
 obtain ⟨p,vs,rfl,hp,_⟩:=S.tup h;exact ⟨p,rfl,⟨_,SqT.of hp⟩,k _ (wF dF)⟩
theorem kJ (S:Sta B G0 H cs ds) (h:Has ds (.list xs) v) (k:∀J,Wk B G0 J (qQ xs) (λ_ ds=>Has ds (.list xs) v)->R J H):kEn true K R [v] H:=by
 obtain ⟨p,vs,rfl,hp,_⟩:=S.lst h;exact ⟨p,rfl,⟨_,SqL.of hp⟩,k _ (wF WX)⟩
theorem UB  (S:Sta B G0 H cs ds) (h:Has ds (.tuple xs) v) (h2:Has ds (.tuple ys) w) (k:∀J,Wk B G0 J (Gf xs ys) (λcs ds=>Has ds (.tuple xs) v/\(∀x u,Has ds (.tuple ys) w->Has ((x,u)::ds) (.tuple ys) w)/\Has ds (.tuple ys) w)->R J H):kZi false false K R [v,w] H:=by
 obtain ⟨p,vs,rfl,hp,_⟩:=S.tup h;obtain ⟨q,ws,rfl,hq,_⟩:=S.tup h2;exact ⟨p,q,rfl,⟨_,SqT.of hp⟩,⟨_,SqT.of hq⟩,k _ (wC dF dF)⟩
theorem Sta.refL (S:Sta B G0 H cs ds) (h:Has ds (.list xs) v):∃a,v= .ref a:=by
 obtain ⟨p,_,e,_⟩:=S.lst h;exact ⟨p,e⟩
section
variable {α:Type}
def spT (enc:α->List PyData) (dom:α->Prop) (res:α->PyData):Sp:=λvs H Q _=>∃(G:Hp) (a:α),zV G H/\zL G (enc a) vs/\dom a/\∀v H' G',Grow G H G' H'->Is G' (res a) v->Q v H'
def spL (enc:α->List PyData) (dom:α->Prop) (res:α->List PyData):Sp:=λvs H Q _=>∃(G:Hp) (a:α),zV G H/\zL G (enc a) vs/\dom a/\∀p H' G' us,Grow G H G' H'->H p=none->G' p=none->H' p=some (.lst us)->zL G' (res a) us->Q (.ref p) H'
def spB (enc:α->List PyData) (dom:α->Prop) (res:α->V):Sp:=λvs H Q _=>∃(a:α),zL H (enc a) vs/\dom a/\∀H',zV H H'->Q (res a) H'
variable {enc:α->List PyData} {dom:α->Prop} {res:α->PyData} {resL:α->List PyData} {resB:α->V} {Q:VK} {E:XK} {vs:List V}
theorem Zl (a:α) (S:Sta B G0 H cs ds) (hx:yH ds (enc a) vs) (hd:dom a) (k:∀v H',zV H H'->Sta B G0 H' cs ((res a,v)::ds)->Q v H'):spT enc dom res vs H Q E:=by
 obtain ⟨G,S⟩:=S;refine ⟨G,a,S.2.1,hx G S.2.2.2.2.2.2,hd,λv H' G' gr hv=>k v H' gr.h ?_⟩;obtain ⟨a',b',c',d',e',f',g'⟩:=S.grow gr;exact ⟨G',a',b',c',d',e',f',g'.cons hv⟩
theorem Zm (a:α) (S:Sta B G0 H cs ds) (hx:yH ds (enc a) vs) (hd:dom a) (k:∀p H',zV H H'->Sta B G0 H' ((p,resL a)::cs) ds->Q (.ref p) H'):spL enc dom resL vs H Q E:=by
 obtain ⟨G,S⟩:=S;refine ⟨G,a,S.2.1,hx G S.2.2.2.2.2.2,hd,λp H' G' us gr hp hg hu hv=>k p H' gr.h ?_⟩;have hc:=S.2.2.1.free hp;obtain ⟨_,_,_,_,e0,_,_⟩:=id S;obtain ⟨a',b',c',d',e',f',g'⟩:=S.grow gr;refine ⟨G',a',b',c',d',λq hq=>?_,?_,g'⟩
 ·rcases Qm.mp hq with rfl|hq
  ·exact ⟨hc,hg,us,hu,hv⟩
  ·exact e' q hq
 ·rw [Qo,TX];refine ⟨λz=>?_,f'⟩;obtain ⟨q,hq,KI⟩:=Qj.mp z;obtain ⟨_,_,ws,z,_⟩:=e0 q hq;rw [KI,hp] at z;cases z
theorem WA (a:α) (hx:zL H (enc a) vs) (hd:dom a) (k:∀H',zV H H'->Q (resB a) H'):spB enc dom resB vs H Q E:=⟨a,hx,hd,k⟩
theorem Sta.hpAll (S:Sta B G0 H cs ds) (h:yH ds xs vs):zL H xs vs:=by
 obtain ⟨G,a,b,c,d,e,f,g⟩:=S;exact zL.mono b _ _ (h G g)
theorem xN  (S:Sta H G H' cs ds) (k:∀v H' G',Grow G H G' H'->Is G' r v->Q v H') (h:Has ds r v):Q v H':=by
 obtain ⟨G',gr,al⟩:=S.leave;exact k v H' G' gr (h G' al)
theorem xH  (S:Sta H G H' ((p,r)::cs) ds) (k:∀p H' G' us,Grow G H G' H'->H p=none->G' p=none->H' p=some (.lst us)->zL G' r us->Q (.ref p) H'):Q (.ref p) H':=by
 obtain ⟨G',a,b,c,d,e,f,g⟩:=S;obtain ⟨x,y,us,z,u⟩:=e _ (Qe ..);exact k p H' G' us ⟨c,a,b,d⟩ x y z u
theorem DW  (S:Sta H G H' cs ds) (k:∀H',zV H H'->Q r H'):Q r H':=k H' S.base
theorem Yu  (h:zL G [x] vs):∃v,vs=[v]/\XC G [(x,v)]:=by
 simp only [zL] at h;obtain ⟨v,_,rfl,h1,rfl⟩:=h;exact ⟨v,rfl,λp hp=>by simp at hp;subst hp;exact h1⟩
theorem xo  (h:zL G [x,y] vs):∃v w,vs=[v,w]/\XC G [(x,v),(y,w)]:=by
 simp only [zL] at h;obtain ⟨v,_,rfl,h1,w,_,rfl,h2,rfl⟩:=h;exact ⟨v,w,rfl,λp hp=>by simp at hp;rcases hp with rfl|rfl<;>assumption⟩
theorem ZT  (h:zL G [x,y,z] vs):∃v w u,vs=[v,w,u]/\XC G [(x,v),(y,w),(z,u)]:=by
 simp only [zL] at h;obtain ⟨v,_,rfl,h1,w,_,rfl,h2,u,_,rfl,h3,rfl⟩:=h;exact ⟨v,w,u,rfl,λp hp=>by simp at hp;rcases hp with rfl|rfl|rfl<;>assumption⟩
theorem Is.int_of  (h:Is G (.int i) v):v= .int i:=by rw [Is] at h;exact h
end
end
theorem vd {M:Model} {A:Around} {E:Value->Shared->Prop} {s:Shared} {scope:Scope} {globals:Addr} {closure:List (Str×Addr)} {qual y:Str} {func:Option Addr} {code:Value} {env:Env} {builtins:Addr} {Q:Env->Shared->Prop}
 (one:∀n acc,cellsFrom n scope.names acc=(y,n)::acc) (push:∀h,pushCells h scope.names=h.push {cls:= .type "cell",data:= .cell none})
 (hQ:Q (newEnv scope s.heap.objs.size globals ((y,s.heap.objs.size+1)::closure) qual func code (some env) builtins) {s with heap:=(s.heap.push {cls:= .type "dict",data:= .dict #[]}).push {cls:= .type "cell",data:= .cell none}}):
 wpAny M A (newFunctionEnv scope globals closure [] qual func code (some env) builtins) Q E s:=by
 simp only [newFunctionEnv,Option.isSome_some,if_true];refine Qg (wpAny_alloc ?_);refine Qg (wpAny_layCells _ (λname kind cells=>by cases hkc:kind==NameKind.cell<;>simp [hkc]) _ _ _ _ ?_);rw [one,push,show ({s with heap:=s.heap.push {cls:= .type "dict",data:= .dict #[]}}:Shared).heap.objs.size=s.heap.objs.size+1 from QW ..];refine Qg ?_;rw [List.forIn_nil];exact Qp (Qp hQ)
def Xb (X:Cx) (N:List Str) (scope:Scope) (y:Str) (C:Addr) (ex:List Addr) (s:Shared) (H:Hp):Cx where
 prog:=X.prog
 w:=X.w
 K:=X.K
 mg:=X.mg
 base:=X.base
 A:=X.A
 N:=N
 s₀:=s
 H₀:=H
 env:=compEnvC scope ((y,C+1)::yX X.env.cells scope.names []) C X.env
 outer:=X.stack
 stack:=X.stack
 ex:=ex
 fn:=λx=>x==y
 calm:=X.calm
 pn:=[]
 xe:=λ_ _=>False
structure CompOk1 (X:Cx) (N:List Str) (n:Nat) (fr:List Nat) (scope:Scope) (y:Str):Prop where
 kind:scope.kind= .function
 nd:N.Nodup
 names:(N.drop n)=fr.map (λj=>(X.N[j]?).getD ("":Str))
 own:n<=N.length
 inx:(fr.all λj=>decide (j<X.N.length))=true
 free:((N.drop n).all λx=>decide (scope.names.lookup x=some .free))=true
 one:∀n acc,cellsFrom n scope.names acc=(y,n)::acc
 push:∀h,pushCells h scope.names=h.push {cls:= .type "cell",data:= .cell none}
 oth:(scope.names.all λz=>decide (z.2= .cell->z.1=y))=true
 yfree:(scope.names.all λz=>decide (z.2= .free->z.1≠y))=true
 loc:(scope.names.all λy=>decide (y.2= .local->scope.names.lookup y.1=some .local))=true
 seen:(scope.names.all λy=>decide (y.2= .free->(X.env.kindOf y.1=some .cell\/X.env.kindOf y.1=some .free)))=true
theorem Vu {scope:Scope} {env:Env} {x y:Str} {k:NameKind} (h:(relabel scope env).names.lookup x=some k) (hk:k= .cell\/k= .free) (hc:(scope.names.all λz=>decide (z.2= .cell->z.1=y))=true):x=y\/(x,NameKind.free)∈scope.names:=by
 unfold relabel at h;dsimp only at h
 have key:∀names:List (Str×NameKind),(names.all λz=>decide (z.2= .cell->z.1=y))=true->
  (names.map λ(n,k)=>if (k==NameKind.free && env.scope.kind== .function && env.kindOf n==some .cell)=true then (n,NameKind.cell) else (n,k)).lookup x=some k->x=y\/(x,NameKind.free)∈names:=by
  intro names
  induction names with
  |nil=>intro _ h;simp at h
  |cons z r ih=>
   intro ha h;obtain ⟨n,j⟩:=z;rw [List.all_cons,jaE] at ha;rw [Qo] at h;have e1:∀(b:Bool) (k1:NameKind),((if b=true then (n,NameKind.cell) else (n,k1)):Str×NameKind)=(n,if b=true then NameKind.cell else k1):=by intro b k1;cases b<;>rfl
   dsimp only at h;rw [e1,jaP] at h
   cases hx:x==n with
   |false=>
    rw [hx] at h;exact (ih ha.2 h).imp id (Qf _)
   |true=>
    rw [hx] at h;have e:x=n:=by simpa using hx
    subst e;have h':=QL h;have hj:j= .cell->x=y:=QB ha.1
    cases hb:(j==NameKind.free && env.scope.kind== .function && env.kindOf x==some .cell) with
    |true=>
     rw [jaE,jaE] at hb;have:j= .free:=by simpa using hb.1.1
     subst this;exact .inr (Qe ..)
    |false=>
     rw [hb] at h';simp only [jbV,if_false] at h';subst h'
     rcases hk with z|z
     ·exact .inl (hj z)
     ·subst z;exact .inr (Qe ..)
 exact key _ hc h
section
variable {X:Cx} {N:List Str} {n:Nat} {fr:List Nat} {scope:Scope} {pins:List (Addr×Obj)} {σ:L2.St} {H:Hp} {s:Shared} {y:Str}
theorem CompOk1.cells (O:CompOk1 X N n fr scope y) (I:Inv X pins σ H s):∀y∈scope.names,y.2= .free->∃c,X.env.cells.lookup y.1=some c:=λy hy hf=>I.ok.has y.1 (QB (TU.mp O.seen y hy) hf)
theorem dc {y x:Str} {a:Addr} {l:List (Str×Addr)}:((y,a)::l).lookup x=if x=y then some a else l.lookup x:=by
 rw [jaP]
 cases h:x==y with
 |true=>rw [QH (by simpa using h)]
 |false=>rw [QO (by simpa using h)]
theorem qV {fp:List Addr} {h':Heap} {tk:Nat} {m:Str->Option Value} (O:CompOk1 X N n fr scope y) (I:Inv X pins σ H s) (hf:∀b∈fp,rG X pins H b) (OX:∀b∈fp,b<s.heap.objs.size)
 (LU:h'.Ns s.heap.objs.size m) (RT:h'.IsCell (s.heap.objs.size+1) none) (keep:∀b o,s.heap.get? b=some o->h'.get? b=some o):
 Inv (Xb X N scope y s.heap.objs.size fp s H) [] (List.replicate n none++frσ σ fr) H {s with heap:=h',toks:=tk}:=by
 have Mr:=O.cells I;have lk:∀x c,(yX X.env.cells scope.names []).lookup x=some c->X.env.cells.lookup x=some c:=λx c h=>XU Mr (λc h=>by simp at h) h;have cne:∀x c,(yX X.env.cells scope.names []).lookup x=some c->∃v,s.heap.IsCell c v:=λx c h=>I.cell x c (lk x c h)
 have clt:∀x c,(yX X.env.cells scope.names []).lookup x=some c->c<s.heap.objs.size:=λx c h=>by
  obtain ⟨v,o,ho,_⟩:=cne x c h;exact Qu ho
 have cases1:∀x c,((y,s.heap.objs.size+1)::yX X.env.cells scope.names []).lookup x=some c->(x=y/\c=s.heap.objs.size+1)\/(yX X.env.cells scope.names []).lookup x=some c:=λx c h=>by
  rw [dc] at h
  by_cases e:x=y
  ·rw [QH e] at h;exact .inl ⟨e,(QL h).symm⟩
  ·rw [QO e] at h;exact .inr h
 have injY:∀x x' c,((y,s.heap.objs.size+1)::yX X.env.cells scope.names []).lookup x=some c->((y,s.heap.objs.size+1)::yX X.env.cells scope.names []).lookup x'=some c->x=x':=λx x' c h1 h2=>by
  rcases cases1 x c h1 with ⟨a,b⟩|a
  ·rcases cases1 x' c h2 with ⟨a',_⟩|a'
   ·rw [a,a']
   ·have:=clt x' c a';rw [b] at this;exact absurd (Nat.lt_trans (To _) this) (jaw _)
  ·rcases cases1 x' c h2 with ⟨_,b⟩|a'
   ·have:=clt x c a;rw [b] at this;exact absurd (Nat.lt_trans (To _) this) (jaw _)
   ·exact I.ok.inj x x' c (lk x c a) (lk x' c a')
 have cabY:∀x c,(x==y)=true->((y,s.heap.objs.size+1)::yX X.env.cells scope.names []).lookup x=some c->s.heap.objs.size<=c:=λx c hx h=>by
  rcases cases1 x c h with ⟨_,b⟩|a
  ·rw [b];exact jao _
  ·rw [dc,QH (by simpa using hx)] at h;cases h;exact jao _
 refine ⟨⟨I.mod,O.kind,I.ok.glob,I.ok.blt,Qv _,injY,λx hx=>?_,cabY,I.ok.hd,I.ok.frames, .inl rfl,λb hb=>⟨QM (OX b hb),λx c h=>by
  rcases cases1 x c h with ⟨_,z⟩|z
  ·rw [z];exact λe=>absurd (OX b hb) (by rw [<-e];exact Nat.not_lt.mpr (jao _))
  ·exact (hf b hb).2.2.2.2.1 x c (lk x c z)⟩,I.bs,QU I.ok.bsz I.sz,λb o e hb=>?_,λb hb z=>?_,I.stack,I.stkFree⟩,
  rfl,I.bare,Un.kept keep,⟨m,LU,λi x v h1 h2 h3=>?_⟩,λx c h=>?_,I.hok.fresh (Qv _),λx c h=>by
   rcases cases1 x c h with ⟨_,z⟩|z
   ·rw [z];exact I.hok.fresh (jao _)
   ·exact I.freeC x c (lk x c z),λp hp=>absurd hp (by simp [Xb]),I.hok.kept keep,?_⟩
 ·have KH:x=y\/(x,NameKind.free)∈scope.names:=by
   rcases hx with hx|hx
   ·exact Vu hx (.inl rfl) O.oth
   ·exact Vu hx (.inr rfl) O.oth
  show ∃c,((y,s.heap.objs.size+1)::yX X.env.cells scope.names []).lookup x=some c;rw [dc]
  by_cases e:x=y
  ·exact ⟨_,QH e⟩
  ·rw [QO e];exact jaM.mp (Xu (.inl (KH.resolve_left e)))
 ·rcases (hf b hb).2.2.2.1 with z|z
  ·exact I.ok.noex b o e z
  ·exact absurd (QY (Qu (I.ok.bs b o e).1) z) (jaw _)
 ·rcases Qm.mp (I.stkSub b z) with q|q
  ·exact (hf b hb).2.1 q
  ·exact (hf b hb).2.2.1 q
 ·by_cases hi:i<n
  ·rw [jau (by simpa using hi),QZ,QH hi] at h2;cases h2
  ·have Mi:(N.drop n)[i - n]? =some x:=by rw [jar,show n+(i - n)=i by omega];exact h1
   rw [Tz (by simpa using hi),QD] at h2;unfold frσ at h2;rw [Qh] at h2;rw [O.names,Qh] at Mi
   cases ej:fr[i - n]? with
   |none=>rw [ej] at h2;cases h2
   |some j=>
    rw [ej] at h2 Mi;have RA:j<X.N.length:=QB (TU.mp O.inx j (Qc ej))
    have hx:X.N[j]? =some x:=by
     have e:=QL Mi;dsimp only at e;rw [Qb RA] at e⊢;exact congrArg some e
    have hv:σ[j]? =some (some v):=by
     have e:=QL h2;dsimp only at e
     cases es:σ[j]? with
     |none=>rw [es] at e;cases e
     |some o=>rw [es] at e;rw [show o=some v from e]
    have Me:scope.names.lookup x=some .free:=by
     refine QB (TU.mp O.free x ?_);exact Qc (i:=i - n) (by rw [jar,show n+(i - n)=i by omega];exact h1)
    have Nw:(x,NameKind.free)∈scope.names:=jaG Me;have Oc:=QB (TU.mp O.seen _ Nw) rfl;obtain ⟨mX,hnX,Rx⟩:=I.loc;obtain ⟨u,ru,lu⟩:=Rx j x v hx hv (Oc.elim (λz=> .inr (.inl z)) λz=> .inr (.inr z));refine ⟨u,ru, .inr ⟨?_,?_⟩⟩
    ·exact cf Me
    ·obtain ⟨c,hc⟩:=jaM.mp (Xu (cells:=X.env.cells) (acc:=[]) (.inl Nw))
     refine ⟨c,(by
      show ((y,s.heap.objs.size+1)::yX X.env.cells scope.names []).lookup x=some c;rw [dc,QO (QB (TU.mp O.yfree _ Nw) rfl)]
      exact hc),?_⟩
     rcases lu with ⟨k,_⟩|⟨_,c',Kx,z⟩
     ·rcases Oc with q|q
      ·rw [show X.env.kindOf x=_ from k] at q;cases q
      ·rw [show X.env.kindOf x=_ from k] at q;cases q
     ·have:=lk x c hc;rw [Kx] at this;cases this;obtain ⟨o,ho,hd⟩:=z;exact ⟨o,keep _ _ ho,hd⟩
 ·rcases cases1 x c h with ⟨_,z⟩|z
  ·rw [z];exact ⟨_,RT⟩
  ·obtain ⟨v,o,ho,hd⟩:=cne x c z;exact ⟨v,o,keep _ _ ho,hd⟩
 ·rw [Qz,QD];unfold frσ;have e:=congrArg List.length O.names;rw [Ts,Qa] at e;have:=O.own;show _=N.length;rw [Qa];omega
end
section
variable {X:Cx} {N:List Str} {n:Nat} {fr:List Nat} {scope:Scope} {y:Str}
theorem Cz {tg iter elt:Expr} {ifs:List Expr} {pos:Pos} {g:Blk TG} {tt:Blk TT} {te:Blk TE} {pins:List (Addr×Obj)} {σ:L2.St} {H2:Hp} {s2:Shared} {it:Addr} {fp:List Addr} {tn:Nat->Heap->Prop} {J:It} {Q:VK}
 {RR:Value->Addr->Result->Shared->Prop} {E:Value->Shared->Prop}
 (hc:X.calm=true) (O:CompOk1 X N n fr scope y)
 (hg:∀C ex s H,PG (Xb X N scope y C ex s H) tg (g C ex s H)) (ht:∀C ex s H,PIf (Xb X N scope y C ex s H) ifs (tt C ex s H)) (he:∀C ex s H,PE (Xb X N scope y C ex s H) elt (te C ex s H))
 (I2:Inv X pins σ H2 s2) (T:Turn X.prog X.w X.K tg J fp it tn) (La:tn 0 s2.heap) (f2:∀b∈fp,rG X pins H2 b)
 (hW:∀D,H2 D=none->∀C ex s0 H0,∃W:Nat->Nat->List V->Hp->Prop,(∃m,W 0 m [] (upd H2 D (.lst [])))/\∀i m ys H2,W i m ys H2->H2 D=some (.lst ys)/\
  ((J.stop i H2/\Q (.ref D) H2)\/(J.go i H2/\∀x H3,J.yld i H2 x H3->g C ex s0 H0 x (List.replicate n none++frσ σ fr) H3 λσ4 H4=>σ4.drop n=frσ σ fr/\tt C ex s0 H0 σ4 H4 λb H5=>
    if b=true then te C ex s0 H0 σ4 H5 λy H6=>H6 D=some (.lst ys)/\ys.length<sizeLine/\∃m',m'<m/\W (i+1) m' (ys++[y]) (upd H6 D (.lst (ys++[y])))
    else ∃m',m'<m/\W (i+1) m' ys H5)))
 (hR:∀(D C:Addr) (H':Hp) (s':Shared),Q (.ref D) H'->(∃m,s'.heap.Ns C m)->Side X pins H' C->Inv X pins σ H' s'->RR (.ref D) C (.ok .next) s'):
 wpAny (model X.prog X.w) X.A (newList []) (λacc s₃=>wpAny (model X.prog X.w) X.A (newFunctionEnv scope X.env.globals (yX X.env.cells scope.names []) [] X.env.qual none .none (some X.env)) (λcenv s₄=>
  codeAny (model X.prog X.w) X.A (.compStart (.ListComp elt [⟨tg,iter,ifs,0⟩] scope pos) 0 (.ref it) acc {cenv with scope:=relabel scope X.env}) (RR acc cenv.locals) s₄) E s₃) E s2:=by
 refine jad (vd O.one O.push ?_);have Sd:H2 s2.heap.objs.size=none:=I2.fresh;have I3:Inv X pins σ (upd H2 s2.heap.objs.size (.lst [])) {s2 with heap:=s2.heap.push {cls:= .type "list",data:= .seq ([]:List Value).toArray},toks:=s2.toks}:=I2.lnew (its:=[]) .nil (jal _);generalize hD:s2.heap.objs.size=D at*;dsimp only;generalize NW:s2.heap.push {cls:= .type "list",dict:=none,data:= .seq ([]:List Value).toArray}=Ks at*;have PU:∀b o,s2.heap.get? b=some o->Ks.get? b=some o:=λb o e=>by rw [<-NW];exact Qi _ e
 have PC:Ks.objs.size=D+1:=by rw [<-NW,QW,hD]
 have LU₁:((Ks.push {cls:= .type "dict",dict:=none,data:= .dict #[],slots:=#[]}).push {cls:= .type "cell",dict:=none,data:= .cell none,slots:=#[]}).Ns Ks.objs.size (λ_=>none):=(Heap.Ns.new Ks (.type "dict")).keeps λb o e=>Qi _ e
 have Mr₁:((Ks.push {cls:= .type "dict",dict:=none,data:= .dict #[],slots:=#[]}).push {cls:= .type "cell",dict:=none,data:= .cell none,slots:=#[]}).IsCell (Ks.objs.size+1) none:=⟨_,by
  have:=Qw (Ks.push {cls:= .type "dict",dict:=none,data:= .dict #[],slots:=#[]}) (o:={cls:= .type "cell",dict:=none,data:= .cell none,slots:=#[]}) rfl;rw [QW] at this
  exact this,rfl⟩
 have keep:∀b o,Ks.get? b=some o->((Ks.push {cls:= .type "dict",dict:=none,data:= .dict #[],slots:=#[]}).push {cls:= .type "cell",dict:=none,data:= .cell none,slots:=#[]}).get? b=some o:=λb o e=>Qi _ (Qi _ e);generalize (Ks.push {cls:= .type "dict",dict:=none,data:= .dict #[],slots:=#[]}).push {cls:= .type "cell",dict:=none,data:= .cell none,slots:=#[]}=h₁ at*
 have flt:∀b∈fp,b<D:=λb hb=>by
  obtain ⟨o,ho,_⟩:=T.obj _ _ La b hb;rw [<-hD];exact Qu ho
 have f3:∀b∈fp,rG X pins (upd H2 D (.lst [])) b:=λb hb=>⟨by rw [yg (QM (flt b hb))];exact (f2 b hb).1,(f2 b hb).2⟩;have IY:=qV (tk:=s2.toks) O I3 f3 (λb hb=>by show b<Ks.objs.size;rw [PC];exact TC (flt b hb)) LU₁ Mr₁ keep;obtain ⟨W,⟨m0,w0⟩,turn⟩:=hW _ Sd Ks.objs.size fp {s2 with heap:=Ks,toks:=s2.toks} (upd H2 D (.lst []));have NK:tn 0 h₁:=T.keep _ _ _ La λb hb o e=>keep b o (PU b o e);generalize hY:Xb X N scope y Ks.objs.size fp {s2 with heap:=Ks,toks:=s2.toks} (upd H2 D (.lst []))=Y at*;have eEnv:Y.env=compEnvC scope ((y,Ks.objs.size+1)::yX X.env.cells scope.names []) Ks.objs.size X.env:=by rw [<-hY];rfl
 have Og:=hg Ks.objs.size fp {s2 with heap:=Ks,toks:=s2.toks} (upd H2 D (.lst []));have NV:=ht Ks.objs.size fp {s2 with heap:=Ks,toks:=s2.toks} (upd H2 D (.lst []));have Oi:=he Ks.objs.size fp {s2 with heap:=Ks,toks:=s2.toks} (upd H2 D (.lst []));rw [hY] at Og NV Oi;have eP:Y.prog=X.prog:=by rw [<-hY];rfl
 have eW:Y.w=X.w:=by rw [<-hY];rfl
 have eK:Y.K=X.K:=by rw [<-hY];rfl
 have eA:Y.A=X.A:=by rw [<-hY];rfl
 have eC:Y.calm=true:=by rw [<-hY];exact hc
 have eX:Y.xe=λ_ _=>False:=by rw [<-hY];rfl
 have fY:∀{H':Hp},(∀b∈fp,H' b=none)->∀b∈fp,rG Y [] H' b:=λ{H'} hn b hb=>by
  have h1:=IY.ok.exf b (by rw [<-hY];exact hb);refine ⟨hn b hb,h1.1,IY.ok.exfs b (by rw [<-hY];exact hb), .inl (by rw [<-hY];exact hb),h1.2,λp hp=>absurd hp (by rw [<-hY];simp [Xb])⟩
 have loop:codeAny (model X.prog X.w) X.A (.compLoop (.ListComp elt [⟨tg,iter,ifs,0⟩] scope pos) 0 (.ref it) (.ref D) (compEnvC scope ((y,Ks.objs.size+1)::yX X.env.cells scope.names []) Ks.objs.size X.env))
  (RR (.ref D) Ks.objs.size) {s2 with heap:=h₁,toks:=s2.toks}:=by
  refine codeAny_loop rfl (λk s'=>∃i ys H',Inv Y [] (List.replicate n none++frσ σ fr) H' s'/\tn i s'.heap/\(∀b∈fp,H' b=none)/\W i k ys H') (λk s5 hI=>?_) m0 ⟨0,[],_,IY,NK,λb hb=>(f3 b hb).1,w0⟩;obtain ⟨i,ys,H5,I5,Mu,Nk,w5⟩:=hI;show wpAny _ X.A ((compTurn (.ListComp elt [⟨tg,iter,ifs,0⟩] scope pos) 0 (.ref it) (.ref D) _).onRaise (λx=>do noteFrame x _;theTreesLotGoes x)) _ _ s5;refine wpAny_noted ?_;rw [compTurn_list,<-eEnv];refine Qg (wpAny_standAt (Qg ?_));obtain ⟨Pc,step⟩:=turn i k ys H5 w5
  rcases step with ⟨stop,qn⟩|⟨go,step⟩
  ·have d:=T.done Y eP eW eK eC i [] s5 _ H5 (λ_ _=>False) I5 (fY Nk) Mu stop;rw [eA] at d;refine yS (thn d λr s6 hh=>?_);obtain ⟨hr,I6⟩:=hh;subst hr;refine Qp ?_;have hC:H5 Ks.objs.size=none:=by have:=I6.free;rw [eEnv] at this;exact this
   have Na:∃m,s6.heap.Ns Ks.objs.size m:=by
    have:=I6.loc;rw [eEnv] at this;obtain ⟨m,hm,_⟩:=this;exact ⟨m,hm⟩
   have sd:Side X pins H5 Ks.objs.size:=⟨hC,jbb I3.lt,I3.sz,λx c e=>QM (let ⟨v,o,ho,_⟩:=I3.cell x c e;Qu ho),λp hp=>QM (Qu (I3.pin p hp).1)⟩;refine hR D Ks.objs.size H5 s6 qn Na sd ?_;have un:=I6.base;have e0:Y.s₀.heap=Ks:=by rw [<-hY];rfl
   have Sl:Y.H₀=upd H2 D (.lst []):=by rw [<-hY];rfl
   have eF:Y.fs=frs X.stack:=by rw [<-hY];rfl
   have eEx:Y.ex=fp:=by rw [<-hY];rfl
   rw [e0,Sl,eF,eEx] at un;have Ma:HOk X.prog X.w H5 s6.heap:=by have:=I6.hok;rw [eP,eW] at this;exact this
   have PM:s6.os=s2.os:=I6.os.trans (by rw [<-hY];rfl);exact I3.call' (s':=s6) (ch:=fp) PM un Ma I6.bare λb hb=>⟨(f2 b hb).2.2.2.1,(f2 b hb).2.1,(f2 b hb).2.2.2.2.1,(f2 b hb).2.2.2.2.2⟩
  ·have d:=T.item Y eP eW eK eC i [] s5 _ H5 (λ_ _=>False) I5 (fY Nk) Mu go;rw [eA] at d;refine yS (thn d λr s6 hh=>?_);obtain ⟨u,hr,h6⟩:=hh;subst hr;refine Qg (yS (thn h6 λ_ s7 hh=>?_));obtain ⟨x,H7,I7,r7,y7,MR,Sj⟩:=hh;have I7':=I7.pinned (fY Sj) (T.obj _ _ MR);have g7:=Og _ s7 _ H7 x u _ I7' r7 (step x H7 y7);rw [eA,eP,eW,eX] at g7;refine Qg (yS (thn g7 λ_ s8 hh=>?_));obtain ⟨σ8,H8,I8,ed,q8⟩:=hh;have t8:=NV _ s8 σ8 H8 _ I8 q8;rw [eA,eP,eW,eX] at t8;refine Qg (yS (thn t8 λb s9 hh=>?_));obtain ⟨H9,I9,q9⟩:=hh
   have back:∀{s':Shared} {H':Hp} {MQ:List V} {m':Nat},Inv Y ([]++iZ fp s7.heap) σ8 H' s'->m'<k->W (i+1) m' MQ H'->∃m,m<k/\∃i ys H',Inv Y [] (List.replicate n none++frσ σ fr) H' s'/\tn i s'.heap/\(∀b∈fp,H' b=none)/\W i m ys H':=λ{s' H' MQ m'} I' hm w'=>by
    refine ⟨m',hm,i+1,MQ,H',?_,T.keep _ _ _ MR λb hb o e=>(I'.pin (b,o) (QE _ (QE _ (Yg hb e)))).1,λb hb=>?_,w'⟩
    ·refine (Inv.unpinned I').weak ?_ λj v hj=>?_
     ·exact IY.len.trans I'.len.symm
     ·by_cases Nc:j<n
      ·rw [jau (by simpa using Nc),QZ,QH Nc] at hj;cases hj
      ·rw [Tz (by simpa using Nc),QD,<-ed,jar,show n+(j - n)=j by omega] at hj;exact hj
    ·obtain ⟨o,e,d⟩:=T.obj _ _ MR b hb;exact (I'.pin (b,o) (QE _ (QE _ (Yg hb e)))).2.1
   cases b with
   |false=>
    obtain ⟨m',hm,w9⟩:=q9;exact Qp ⟨rfl,back I9 hm w9⟩
   |true=>
    have e9:=Oi _ s9 σ8 H9 _ I9 q9;rw [eA,eP,eW,eX] at e9;refine Qg (Qg (yS (thn e9 λv PF hh=>?_)));obtain ⟨y,Mn,SE,PK,Nj,hz,m',hm,Mt⟩:=hh;have Oz:=nN _ PF σ8 Mn (.ref D) [y] (.ref D) [v] (λ_ H'=>H'=upd Mn D (.lst (ys++[y]))) SE rfl (.cons PK .nil) ⟨D,ys,y,rfl,rfl,Nj,hz,rfl⟩;rw [eA,eP,eW,eX] at Oz;refine Qg (yS (thn Oz λ_ s11 hh=>?_));obtain ⟨_,MP,SD,_,Nl⟩:=hh;subst Nl;exact Qp (Qp ⟨rfl,back SD hm Mt⟩)
 exact codeAny_compStart_list loop (T.self _ _ _ _ _ NK loop)
theorem Ei {tg iter elt:Expr} {ifs:List Expr} {pos:Pos} {wi:TI} {g:Blk TG} {tt:Blk TT} {te:Blk TE}
 (hc:X.calm=true) (O:CompOk1 X N n fr scope y) (hi:PI X tg iter wi)
 (hg:∀C ex s H,PG (Xb X N scope y C ex s H) tg (g C ex s H)) (ht:∀C ex s H,PIf (Xb X N scope y C ex s H) ifs (tt C ex s H)) (he:∀C ex s H,PE (Xb X N scope y C ex s H) elt (te C ex s H))
 (hs:∀x,foldedSetIterable iter X.env x=pure x:=by intro _;rfl):
 PE X (.ListComp elt [⟨tg,iter,ifs,0⟩] scope pos) (uq n fr wi g tt te):=by
 intro pins s σ H Q I h;rw [eval_ListComp];refine jbN (use:=none) rfl hs (XT (O.cells I)) O.kind (λy hy=>QB (TU.mp O.loc y hy)) (thn (hi pins s σ H _ I h) λv s1 h1=>thn h1 λitv s2 h2=>?_);obtain ⟨it,fp,tn,J,H2,e,I2,T,La,f2,hW⟩:=h2;subst e;refine Cz (RR:=λacc C=>compPost (model X.prog X.w) X.A X.xe none (EP X pins σ Q) acc C) hc O hg ht he I2 T La f2 hW ?_;intro D C H' s' q ⟨m,hm⟩ sd inv;exact ⟨m,hm,λh' MF=>⟨.ref D,H',inv.turned (t':=s'.toks) (it:=C) (λb o hb e=>MF.extBut b o hb e) sd.nt sd.nl (.inr sd.ab) sd.nc sd.np,rfl,q⟩⟩
end
end S
namespace S
def par (c t:List Int):Prop:=c.map (·*t.sum)=t.map (·*c.sum)
instance (c t:List Int):Decidable (par c t):=inferInstanceAs (Decidable (_=_))
open Classical in
noncomputable def yf (a:Rat×List Rat):List (Rat×List Rat)->List (Rat×List Rat)
 |[]=>[]
 |[b]=>[b]
 |b::c::r=>if zQ a b c then yf b (c::r) else b::yf b (c::r)
theorem div_c (x B:Int):Rat.divInt x B=(x:Rat)*(B:Rat)⁻¹:=by rw [Rat.divInt_eq_div,TZ]
open Classical in
noncomputable def Yt (cs:List zg) (i:Nat):Bool:=decide (i=0\/i+1=cs.length\/¬∀(a b c:zg),cs[i - 1]? =some a->cs[i]? =some b->cs[i+1]? =some c->zQ a b c)
open Classical in
theorem Xl  (h:i=0\/i+1=cs.length\/¬∀(a b c:zg),cs[i - 1]? =some a->cs[i]? =some b->cs[i+1]? =some c->zQ a b c):Yt cs i=true:=by
 unfold Yt;exact QX h
open Classical in
theorem jk  (h:¬(i=0\/i+1=cs.length\/¬∀(a b c:zg),cs[i - 1]? =some a->cs[i]? =some b->cs[i+1]? =some c->zQ a b c)):Yt cs i=false:=by
 unfold Yt;exact Th h
noncomputable def yp:List zg->List zg
 |[]=>[]
 |c::r=>c::yf c r
theorem sU:∀(r pre:List zg) (a:zg),(List.range' (pre.length+1) r.length).filterMap (λj=>if Yt (pre++a::r) j then (pre++a::r)[j]? else none)=yf a r
 |[],pre,a=>by simp [yf]
 |[b],pre,a=>by
  have hk:Yt (pre++[a,b]) (pre.length+1)=true:=Xl (.inr (.inl (by simp)));simp [yf,hk]
 |b::c::r,pre,a=>by
  have ih:=sU (c::r) (pre++[a]) b;rw [Qz,TJ,jae,List.singleton_append] at ih;rw [QA,List.range'_succ,jaW,yf]
  have g0:(pre++a::b::c::r)[pre.length+1 - 1]? =some a:=by
   rw [Nat.add_sub_cancel,Tz (Qv _),Nat.sub_self];rfl
  have g1:(pre++a::b::c::r)[pre.length+1]? =some b:=by
   rw [Tz (by omega),show pre.length+1 - pre.length=1 by omega];rfl
  have g2:(pre++a::b::c::r)[pre.length+1+1]? =some c:=by
   rw [Tz (by omega),show pre.length+1+1 - pre.length=2 by omega];rfl
  by_cases hs:zQ a b c
  ·have hk:Yt (pre++a::b::c::r) (pre.length+1)=false:=by
    refine jk ?_
    rintro (q|q|q)
    ·omega
    ·simp at q;omega
    ·refine q λx y z hx hy hz=>?_;rw [g0] at hx;rw [g1] at hy;rw [g2] at hz;cases hx;cases hy;cases hz;exact hs
   rw [hk,QH hs]
   simpa using ih
  ·have hk:Yt (pre++a::b::c::r) (pre.length+1)=true:=Xl (.inr (.inr λq=>hs (q a b c g0 g1 g2)));rw [hk,QO hs,QH rfl,g1];dsimp only;rw [ih]
theorem vy {β:Type} (cs:List zg) (g:zg->β):(List.range cs.length).filterMap (λj=>if Yt cs j then (cs[j]?).map g else none)=(yp cs).map g:=by
 have e:(List.range cs.length).filterMap (λj=>if Yt cs j then (cs[j]?).map g else none)=((List.range cs.length).filterMap (λj=>if Yt cs j then cs[j]? else none)).map g:=by
  rw [List.map_filterMap]
  congr 1
  funext j
  split<;>rfl
 rw [e]
 congr 1
 cases cs with
 |nil=>rfl
 |cons c r=>
  rw [QA,List.range_eq_range',List.range'_succ,jaW];have hk:Yt (c::r) 0=true:=Xl (.inl rfl);rw [hk,QH rfl];have:=sU r [] c;simp only [List.length_nil,jaI,jbP] at this;simp only [List.getElem?_cons_zero,jbP];rw [this,yp]
end S
namespace S
open PySem PySem.Spec PyProof.Rows L2
section
variable {α:Type} {enc:α->List PyData} {dom:α->Prop} {res:α->V} {B G0 H:Hp} {cs:yD} {ds:Dat} {Q:VK} {E:XK} {vs:List V} {v w:V}
def spP (enc:α->List PyData) (dom:α->Prop) (res:α->V):Sp:=λvs H Q _=>∃(a:α),zL H (enc a) vs/\dom a/\Q (res a) H
theorem Gs (a:α) (S:Sta B G0 H cs ds) (hx:yH ds (enc a) vs) (hd:dom a) (k:Q (res a) H):spP enc dom res vs H Q E:=⟨a,S.hpAll hx,hd,k⟩
theorem SzQ.of_div  (e:q=Rat.divInt a b) (ha:Sz n a) (hb:Sz n b) (h0:b≠0):SzQ n q:=by rw [e];exact SzQ.divInt ha hb h0
theorem xw (p q:Rat):(p.den:Int)*(q.den:Int)≠0:=Int.ne_of_gt (Int.mul_pos (den_pos p) (den_pos q))
theorem CN (p q:Rat):Rat.divInt (p.num*(q.den:Int)+q.num*(p.den:Int)) ((p.den:Int)*(q.den:Int))=p+q:=by
 rw [Rat.add_def',<-Int.natCast_mul,Rat.divInt_ofNat]
theorem wR (p q:Rat):Rat.divInt (p.num*(q.den:Int) - q.num*(p.den:Int)) ((p.den:Int)*(q.den:Int))=p - q:=by
 rw [Rat.sub_def',<-Int.natCast_mul,Rat.divInt_ofNat]
theorem Bx (p q:Rat):Rat.divInt (p.num*q.num) ((p.den:Int)*(q.den:Int))=p*q:=by
 rw [Rat.mul_def',<-Int.natCast_mul,Rat.divInt_ofNat]
theorem Gy {q:Rat} (h:q≠0):q.num≠0:=λz=>h (Rat.num_eq_zero.mp z)
theorem Cq (p q:Rat) (h:q≠0):Rat.divInt (p.num*(q.den:Int)) ((p.den:Int)*q.num)=p / q:=by
 rw [<-jbd,jaN,TZ,Rat.inv_def]
section
variable {m n:Nat} {p q:Rat}
theorem SzQ.add (hp:SzQ m p) (hq:SzQ n q):SzQ (m+n+1) (p+q):=
 SzQ.of_div (CN p q).symm (((hp.1.mul hq.2).add ((hq.1.mul hp.2).mono (Nat.le_of_eq (Nat.add_comm n m))))) ((hp.2.mul hq.2).mono (jao _)) (xw p q)
theorem SzQ.sub (hp:SzQ m p) (hq:SzQ n q):SzQ (m+n+1) (p - q):=
 SzQ.of_div (wR p q).symm (((hp.1.mul hq.2).sub ((hq.1.mul hp.2).mono (Nat.le_of_eq (Nat.add_comm n m))))) ((hp.2.mul hq.2).mono (jao _)) (xw p q)
theorem SzQ.mul (hp:SzQ m p) (hq:SzQ n q):SzQ (m+n) (p*q):=
 SzQ.of_div (Bx p q).symm (hp.1.mul hq.1) (hp.2.mul hq.2) (xw p q)
theorem SzQ.div (hp:SzQ m p) (hq:SzQ n q):SzQ (m+n) (p / q):=by
 by_cases h:q=0
 ·subst h;rw [TZ,Rat.inv_zero,Rat.mul_zero]
  have hm:1<=m:=by
   cases m with
   |zero=>
    have h1:(p.den:Int).natAbs<2 ^ 0:=hp.2;have h2:=den_pos p;simp at h1;omega
   |succ m=>omega
  exact ⟨rN (n:=m+n) (by omega) (show (-2:Int)<0 by decide) (show (0:Int)<2 by decide),rN (n:=m+n) (by omega) (show (-2:Int)<1 by decide) (show (1:Int)<2 by decide)⟩
 ·exact SzQ.of_div (Cq p q h).symm (hp.1.mul hq.2) (hp.2.mul hq.1) (Int.mul_ne_zero (Int.ne_of_gt (den_pos p)) (Gy h))
end
def WY:Sp:=spT (α:=Int×Int) (λa=>[.int a.1, .int a.2]) (λa=>a.2≠0/\Sz 8999 a.2) (λa=>frD (Rat.divInt a.1 a.2))
theorem UA (S:Sta B G0 H cs ds) (h0:j≠0) (hz:Sz 8999 j) (k:∀r H',zV H H'->Sta B G0 H' cs ((frD (Rat.divInt i j),r)::ds)->Q r H'):WY [.int i, .int j] H Q E:=
 Zl (i,j) S (.cons Has.int (.cons Has.int .nil)) ⟨h0,hz⟩ k
def spQ2 (dom:Rat->Rat->Prop) (g:Rat->Rat->Rat):Sp:=spT (α:=Rat×Rat) (λa=>[frD a.1,frD a.2]) (λa=>(∃m n,SzQ m a.1/\SzQ n a.2/\m+n<=8999)/\dom a.1 a.2) (λa=>frD (g a.1 a.2))
theorem qh   (S:Sta B G0 H cs ds) (h1:Has ds (frD p) v) (h2:Has ds (frD q) w) (s1:SzQ m p) (s2:SzQ n q) (LB:m+n<=8999) (hd:dm p q)
 (k:∀r H',zV H H'->Sta B G0 H' cs ((frD (g p q),r)::ds)->Q r H'):spQ2 dm g [v,w] H Q E:=
 Zl (p,q) S (.cons h1 (.cons h2 .nil)) ⟨⟨m,n,s1,s2,LB⟩,hd⟩ k
abbrev domT:Rat->Rat->Prop:=λ_ _=>True
abbrev rV:Sp:=spQ2 domT λp q=>p+q
abbrev ao:Sp:=spQ2 domT λp q=>p - q
abbrev pO:Sp:=spQ2 domT λp q=>p*q
abbrev Gq:Sp:=spQ2 (λ_ q=>q≠0) λp q=>p / q
def cV:Sp:=spP (α:=Rat×Rat) (λa=>[frD a.1,frD a.2]) (λa=>∃m n,SzQ m a.1/\SzQ n a.2/\m+n<=100000000) (λa=> .bl (decide (a.1<a.2)))
theorem nD  (S:Sta B G0 H cs ds) (h1:Has ds (frD p) v) (h2:Has ds (frD q) w) (s1:SzQ m p) (s2:SzQ n q) (LB:m+n<=100000000) (k:Q (.bl (decide (p<q))) H):cV [v,w] H Q E:=
 Gs (p,q) S (.cons h1 (.cons h2 .nil)) ⟨m,n,s1,s2,LB⟩ k
def fZ (ns:List Int) (k:Int):Int:=if k<(ns.length:Int) then ns.getD k.toNat 0 else 0
def rZ (K:Frg):Sp:=λvs H Q _=>∃(a:Addr) (ns:List Int) (k:Int),vs=[.ref a, .int k]/\SqL K H a (ns.map V.int)/\0<=k/\Q (.int (fZ ns k)) H
theorem rd_cell {K:Frg} {a:Addr} {ns:List Int} {k:Int} (hS:SqL K H a (ns.map V.int)) (h0:0<=k) (h:Q (.int (fZ ns k)) H):rZ K [.ref a, .int k] H Q E:=⟨a,ns,k,rfl,hS,h0,h⟩
def mJ:Sp:=λvs H Q _=>∃a b:Int,vs=[.int a, .int b]/\0<=b/\Q (.int (Int.gcd a b:Nat)) H
theorem rd_div2 (h0:0<=b) (h:Q (.int (Int.gcd a b:Nat)) H):mJ [.int a, .int b] H Q E:=⟨a,b,rfl,h0,h⟩
def cS:Sp:=spT (α:=Int×Int) (λa=>[.int a.1, .int a.2]) (λa=>0<a.2/\Sz 8999 a.2) (λa=>frD (Rat.divInt a.1 a.2))
theorem WB (S:Sta B G0 H cs ds) (h0:0<j) (hz:Sz 8999 j) (k:∀r H',zV H H'->Sta B G0 H' cs ((frD (Rat.divInt i j),r)::ds)->Q r H'):cS [.int i, .int j] H Q E:=
 Zl (i,j) S (.cons Has.int (.cons Has.int .nil)) ⟨h0,hz⟩ k
def mixV (c p:Int):Int:=(((c % 2147483629*16807+69621*p+11) % 2147483629)*((c % 2147483629*16807+69621*p+11) % 2147483629)+48271*p+7) % 2147483629*69621 % 2147483587
def Hk:Sp:=λvs H Q _=>∃c p:Int,vs=[.int c, .int p]/\Q (.int (mixV c p)) H
theorem rd_mix (h:Q (.int (mixV c p)) H):Hk [.int c, .int p] H Q E:=⟨c,p,rfl,h⟩
def xI (r:List Int):PyData:= .list (r.map PyData.int)
theorem Sta.put_call   (S:IW B G0 H cs ds G) (gr:Grow G H G' H') (hp:H p=none) (hg:G' p=none) (hu:H' p=some (.lst us)) (hv:zL G' xs us):Sta B G0 H' ((p,xs)::cs) ds:=by
 have hc:=S.2.2.1.free hp;obtain ⟨_,_,_,_,e0,_,_⟩:=id S;obtain ⟨a',b',c',d',e',f',g'⟩:=S.grow gr;refine ⟨G',a',b',c',d',λq hq=>?_,?_,g'⟩
 ·rcases Qm.mp hq with rfl|hq
  ·exact ⟨hc,hg,us,hu,hv⟩
  ·exact e' q hq
 ·rw [Qo,TX];refine ⟨λz=>?_,f'⟩;obtain ⟨q,hq,KI⟩:=Qj.mp z;obtain ⟨_,_,ws,z,_⟩:=e0 q hq;rw [KI,hp] at z;cases z
theorem rd_true  (h:R true H):tTrue σ H R:=h
def ZV (m:Nat):List Int:=List.replicate m 0
theorem Ui (m:Nat):(ZV m).length=m:=QD
theorem aY {β:Type} [DecidableEq β] {f:β->PyData} (hf:∀a b,PyData.eqv (f a) (f b)=decide (a=b)):∀xs ys:List β,PyData.eqvAll (xs.map f) (ys.map f)=decide (xs=ys)
 |[],[]=>by rw [jaq,PyData.eqvAll];rfl
 |[],_::_=>by rw [jaq,Qo,PyData.eqvAll,Th (by simp)]
 |_::_,[]=>by rw [jaq,Qo,PyData.eqvAll,Th (by simp)]
 |x::xs,y::ys=>by
  rw [Qo,Qo,PyData.eqvAll,hf,aY hf xs ys,<-Bool.decide_and];exact WR (by simp)
theorem IJ (a b:Int):PyData.eqv (.int a) (.int b)=decide (a=b):=by rw [PyData.eqv];rfl
theorem Cn (a b:List Int):PyData.eqv (xI a) (xI b)=decide (a=b):=by unfold xI;rw [PyData.eqv];exact aY IJ a b
theorem qP (p q:Rat):PyData.eqv (frD p) (frD q)=decide (p=q):=eqv_fr p q
theorem jr (p q:List Rat):PyData.eqv (zR p) (zR q)=decide (p=q):=by unfold zR;rw [PyData.eqv];exact aY qP p q
theorem Co (p q:zg):PyData.eqv (zA p) (zA q)=decide (p=q):=by
 unfold zA;rw [PyData.eqv,PyData.eqvAll,PyData.eqvAll,PyData.eqvAll,qP,jr,Bool.and_true,<-Bool.decide_and];exact WR ⟨λ⟨h1,h2⟩=>Prod.ext h1 h2,λh=>by subst h;exact ⟨rfl,rfl⟩⟩
theorem Iv (a:Int):(PyData.int a).canLay0=true:=by rw [PyData.canLay0]
theorem IL (a:Int):(PyData.int a).depth<=1:=by rw [PyData.depth];exact jal _
theorem Iu (a:List Int):(xI a).canLay0=true:=by unfold xI;rw [PyData.canLay0];exact fH Iv a
theorem IK (a:List Int):(xI a).depth<=2:=by unfold xI;rw [PyData.depth];exact Nat.succ_le_succ (fV IL a)
theorem Ws  (h:d.canLay0=true) (g:d.depth<=n) (l:n<=64):SeqAt.shaped d=true:=by
 unfold SeqAt.shaped;rw [h,QX (QU g l)];rfl
theorem WZ (a:List Int):SeqAt.shaped (xI a)=true:=Ws (Iu a) (IK a) (by decide)
theorem iL (a:Rat):SeqAt.shaped (frD a)=true:=Ws (BL a) (Cr a) (by decide)
theorem ZW (a:List Rat):SeqAt.shaped (zR a)=true:=Ws (fG a) (oj a) (by decide)
theorem Yz (a:zg):SeqAt.shaped (zA a)=true:=Ws (lr a) (tF a) (by decide)
def tyD:PyData->String
 | .none=>"NoneType"
 | .bool _=>"bool"
 | .int _=>"int"
 | .str _=>"str"
 | .list _=>"list"
 | .tuple _=>"tuple"
 | .dict _=>"dict"
def noIns:PyData->Bool
 | .dict _=>false
 |_=>true
theorem Is.ty {K:Frg} {d:PyData} (h:Is H d v) (nd:noIns d=true):TyOf K H v (.type (tyD d)):=by
 cases d with
 |none=>rw [Is] at h;subst h;exact .non
 |bool b=>rw [Is] at h;subst h;exact .bl b
 |int b=>rw [Is] at h;subst h;exact .int b
 |str b=>rw [Is] at h;subst h;exact .str b
 |list xs=>rw [Is] at h;obtain ⟨p,vs,rfl,e,_⟩:=h;exact .lst e
 |tuple xs=>rw [Is] at h;obtain ⟨p,vs,rfl,e,_⟩:=h;exact .tup e
 |dict _=>cases nd
theorem rd_isi {K:Frg} {d:PyData} {T:String} {b:Bool} (h:Is H d v) (e:PySem.W.kitOne K (.type (tyD d)) (.type T)=some b) (k:Q (.bl b) H) (nd:noIns d=true):rIsi K [v, .ty T] H Q:=⟨v,T,_,b,rfl,h.ty nd,e,k⟩
section
variable {K:Frg}
theorem kit_tt:PySem.W.kitOne K (.type "tuple") (.type "tuple")=some true:=by rfl
theorem kit_ll:PySem.W.kitOne K (.type "list") (.type "list")=some true:=by rfl
theorem kit_ib:PySem.W.kitOne K (.type "int") (.type "bool")=some false:=by rfl
theorem kit_ii:PySem.W.kitOne K (.type "int") (.type "int")=some true:=by rfl
end
theorem zJ {α β:Type} {f:α->β} {l:List α} {i:Nat} {x:β} (h:(l.map f)[i]? =some x):∃n,l[i]? =some n/\x=f n:=by
 rw [Qh] at h
 cases e:l[i]? with
 |none=>rw [e] at h;cases h
 |some n=>rw [e] at h;exact ⟨n,rfl,(QL h).symm⟩
theorem zo {α β:Type} (g:α->β) (d:α):∀l:List α,(List.range l.length).map (λi=>g (l.getD i d))=l.map g:=by
 intro l
 apply Tj
 intro i;rw [Qh,Qh]
 by_cases h:i<l.length
 ·rw [List.getElem?_range h,Qb h];simp [h]
 ·rw [QF (by simpa using Nat.le_of_not_lt h),QF (by omega)];rfl
theorem zF {α:Type} {l:List α} {i:Nat} {n d:α} (h:l[i]? =some n):l.getD i d=n:=by rw [Qk,h];rfl
theorem Sta.int1 (S:Sta B G0 H cs ((.int n,v)::ds)):v= .int n:=S.top.int_of
theorem rd_gsub   (h:to σ H λo H1=>ti σ H1 λi H2=>t o i v H2 λH3=>N σ H3):gSub to ti t v σ H N:=h
theorem dh {α:Type} {xs:List α} {x:α} (h:xs.getLast? =some x):atI xs (-1)=some x:=by
 obtain ⟨ys,rfl⟩:∃ys,xs=ys++[x]:=by
  have KN:xs≠[]:=by intro e;subst e;simp at h
  refine ⟨xs.dropLast,?_⟩;rw [Tc KN] at h;rw [<-QL h,jak]
 exact tL ys x
theorem Dats.nil:∀p∈([]:Dat),Has ds p.1 p.2:=λp hp=>absurd hp Qn
theorem Dats.cons  (h:Has ds x v) (g:∀p∈r,Has ds p.1 p.2):∀p∈(x,v)::r,Has ds p.1 p.2:=λp hp=>by
 rcases Qm.mp hp with rfl|hp
 ·exact h
 ·exact g p hp
theorem Eb {A X Y:Prop} (hA:(if q=true then X else Y)->A) (h1:(p && q)=true->X) (h2:(p && q)=false->Y):if p=true then A else (if false=true then X else Y):=by
 cases p with
 |false=>exact h2 rfl
 |true=>
  refine hA ?_
  cases q with
  |false=>exact h2 rfl
  |true=>exact h1 rfl
def Jl (p q:Rat):PyData:= .tuple [.int (q.num*(p.den:Int) - p.num*(q.den:Int)), .int ((p.den:Int)*(q.den:Int))]
def Hm:Sp:=spT (α:=Rat×Rat) (λa=>[frD a.1,frD a.2]) (λa=>SzQ 2000 a.1/\SzQ 2000 a.2) (λa=>Jl a.1 a.2)
theorem rd_gap (S:Sta B G0 H cs ds) (h1:Has ds (frD p) v) (h2:Has ds (frD q) w) (s1:SzQ 2000 p) (s2:SzQ 2000 q) (k:∀r H',zV H H'->Sta B G0 H' cs ((Jl p q,r)::ds)->Q r H'):Hm [v,w] H Q E:=
 Zl (p,q) S (.cons h1 (.cons h2 .nil)) ⟨s1,s2⟩ k
def SzC (n:Nat) (c:zg):Prop:=SzQ n c.1/\∀q∈c.2,SzQ n q
theorem sZ (hp:SzQ 2000 p) (hq:SzQ 2000 q):Sz 4001 (q.num*(p.den:Int) - p.num*(q.den:Int))/\Sz 4001 ((p.den:Int)*(q.den:Int)):=
 ⟨(hq.1.mul hp.2).sub (hp.1.mul hq.2),(hp.2.mul hq.2).mono (by decide)⟩
open Classical in
noncomputable def Hi:Sp:=spB (α:=zg×zg×zg) (λa=>[zA a.1,zA a.2.1,zA a.2.2]) (λa=>SzC 2000 a.1/\SzC 2000 a.2.1/\SzC 2000 a.2.2/\a.2.1.2.length=a.1.2.length/\a.2.2.2.length=a.1.2.length/\a.1.2.length<=1000) (λa=> .bl (decide (zQ a.1 a.2.1 a.2.2)))
open Classical in
theorem rd_str  (S:Sta B G0 H cs ds) (h1:Has ds (zA a) v) (h2:Has ds (zA b) w) (h3:Has ds (zA c) u) (sa:SzC 2000 a) (sb:SzC 2000 b) (sc:SzC 2000 c) (l1:b.2.length=a.2.length) (l2:c.2.length=a.2.length) (l3:a.2.length<=1000)
 (k:∀H',Sta B G0 H' cs ds->Q (.bl (decide (zQ a b c))) H'):Hi [v,w,u] H Q E:=
 WA (a,b,c) (S.hpAll (.cons h1 (.cons h2 (.cons h3 .nil)))) ⟨sa,sb,sc,l1,l2,l3⟩ λH' e=>k H' (S.same e)
structure PathOk (m:Nat) (cs:List zg):Prop where
 sz:∀c∈cs,SzC 2000 c
 len:∀c∈cs,c.2.length=m
 m:m<=1000
 few:cs.length<=900
noncomputable def dH:Sp:=spL (α:=List zg) (λa=>[zU a]) (λa=>∃m,PathOk m a) (λa=>(yp a).map zA)
theorem uE  (S:Sta B G0 H cs ds) (h:Has ds (zU a) v) (ok:PathOk m a) (k:∀p H',zV H H'->Sta B G0 H' ((p,(yp a).map zA)::cs) ds->Q (.ref p) H'):dH [v] H Q E:=
 Zm a S (.cons h .nil) ⟨m,ok⟩ k
def kPart (R:Option Int->Hp->Prop):VK:=λx H1=>∃i,x= .int i/\R (some i) H1
section
variable {σ:L2.St} {R:Option Int->Hp->Prop} {K:Frg}
theorem rd_sl  (h:te σ H λx H1=>tl σ H1 λl H2=>th σ H2 λu H3=>r x l u H3 Q):tSl r te tl th σ H Q:=h
theorem rd_noPart (h:R none H):wM σ H R:=h
theorem rd_part (h:t σ H (kPart R)):tPart t σ H R:=h
theorem rd_kPart (h:R (some i) H):kPart R (.int i) H:=⟨i,rfl,h⟩
def Fx (ns:List Int) (lo hi:Option Int):List Int:=(ns.drop (HT.sIx ns.length 0 lo)).take (HT.sIx ns.length ns.length hi - HT.sIx ns.length 0 lo)
theorem Ya:∀ns:List Int,zL G (ns.map PyData.int) (ns.map V.int)
 |[]=>by rw [jaq,jaq,zL]
 |n::ns=>by rw [Qo,Qo,zL];exact ⟨_,_,rfl,by rw [Is],Ya ns⟩
theorem Gu {a:Addr} {ns:List Int} {lo hi:Option Int} (S:Sta B G0 H cs ds) (hS:SqL K H a (ns.map V.int)) (k:∀l H',zV H H'->Sta B G0 H' ((l,(Fx ns lo hi).map PyData.int)::cs) ds->Q (.ref l) H'):rSlL K (.ref a) lo hi H Q:=by
 refine ⟨a,_,rfl,hS,λl hl=>k l _ (zV.new hl _) ?_⟩
 have e:GN (ns.map V.int) lo hi=(Fx ns lo hi).map V.int:=by
  unfold GN Fx;rw [Qa,<-List.map_drop,<-List.map_take]
 rw [e];exact S.newL hl λG _=>Ya _
end
end
end S
namespace S
open PySem PySem.Spec PyProof.Rows L2
inductive Rl where
 |shares|evenly|losses|halves
 |other (r:Rl)|ranks (r:Rl)|groups (a b:Rl)|upto (t b:Int) (x y:Rl)
def itS (i:Int):Str:=Str.ofString (toString i)
def Rl.shape:Rl->PyData
 | .shares=> .tuple [.str "shares"]
 | .evenly=> .tuple [.str "evenly"]
 | .losses=> .tuple [.str "losses"]
 | .halves=> .tuple [.str "halves"]
 | .other r=> .tuple [.str "other",r.shape]
 | .ranks r=> .tuple [.str "ranks",r.shape]
 | .groups a b=> .tuple [.str "groups",a.shape,b.shape]
 | .upto t b x y=> .tuple [.str "upto", .tuple [.int t, .int b],x.shape,y.shape]
def Rl.text:Rl->Str
 | .shares=>"shares"
 | .evenly=>"evenly"
 | .losses=>"losses"
 | .halves=>"halves"
 | .other r=>("other(":Str)++r.text++(")":Str)
 | .ranks r=>("ranks(":Str)++r.text++(")":Str)
 | .groups a b=>("groups(":Str)++a.text++(", ":Str)++b.text++(")":Str)
 | .upto t b x y=>("upto(":Str)++itS t++("/":Str)++itS b++(", ":Str)++x.text++(", ":Str)++y.text++(")":Str)
def Rl.size:Rl->Nat
 | .other r=>r.size+1
 | .ranks r=>r.size+1
 | .groups a b=>a.size+b.size+1
 | .upto _ _ x y=>x.size+y.size+1
 |_=>1
def Rl.deep:Rl->Nat
 | .other r=>r.deep+1
 | .ranks r=>r.deep+1
 | .groups a b=>max a.deep b.deep+1
 | .upto _ _ x y=>max x.deep y.deep+1
 |_=>1
def Vy (t b:Int):Prop:=(Sz 210 t/\Sz 210 b)/\0<t/\t<b/\Int.gcd t b=1
structure RAd where
 (sh ev lo ha ot ra gr up:Addr)
def RAd.cls (A:RAd):Rl->Addr
 | .shares=>A.sh
 | .evenly=>A.ev
 | .losses=>A.lo
 | .halves=>A.ha
 | .other _=>A.ot
 | .ranks _=>A.ra
 | .groups _ _=>A.gr
 | .upto _ _ _ _=>A.up
def CW (C:Addr) (form:PyData):PyData:= .dict [(.int ((C:Nat):Int),form)]
def Rl.ins (A:RAd) (r:Rl):PyData:=CW (A.cls r) r.shape
structure ROk (K:Frg) (fS fT Ru C:Addr):Prop where
 cl:Cls K C
 na:cq K C "form"
 ms:Meth K C "shape" fS
 mt:Meth K C "text" fT
 ha:PySem.W.findIn K (.ref C) "__class__"=some (some (.builtin "object.__class__"))
 hn:PySem.W.specialIn K (.builtin "object.__class__") "__get__"=some (some (.builtin "getset_descriptor.__get__"))
 htk:PySem.W.takesIn K (.builtin "object.__class__")=some true
 hm:PySem.W.mroIn K C (.type "object")=some true
 kit:PySem.W.kitOne K (.ref C) (.ref Ru)=some true
section
variable {B G0 H:Hp} {cs:yD} {ds:Dat} {Q:VK} {E:XK} {v w u:V} {K:Frg} {α:Type} {C:Addr} {x:PyData} {vs:List V}
theorem is_ins (h:Is G (CW C x) v):∃p dx w,v= .ref p/\G p=some (.ins C dx [("form",w)])/\Is G x w:=by
 unfold CW at h;rw [Is,Dh] at h;obtain ⟨p,C',dx,w,e,h1,h2,h3⟩:=h;have:C=C':=Int.ofNat.inj (PyData.int.inj e);subst this;exact ⟨p,dx,w,h1,h2,h3⟩
theorem Sta.ins (S:Sta B G0 H cs ds) (h:Has ds (CW C x) v):∃p dx w,v= .ref p/\H p=some (.ins C dx [("form",w)])/\Sta B G0 H cs ((x,w)::ds):=by
 obtain ⟨G,a,b,c,d,e,f,g⟩:=S;obtain ⟨p,dx,w,h1,h2,h3⟩:=is_ins (h G g);exact ⟨p,dx,w,h1,b _ _ h2,G,a,b,c,d,e,f,g.cons h3⟩
def kFld (K:Frg) (f:Str) (Q:VK):VK:=λx H1=>∃a C dx fs v,x= .ref a/\H1 a=some (.ins C dx fs)/\Cls K C/\cq K C f/\fs.lookup f=some v/\Q v H1
theorem rd_fld  (h:ta σ H (kFld K f Q)):tFld K ta f σ H Q:=h
theorem AJ (S:Sta B G0 H cs ds) (h:Has ds (CW C x) v) (ok:ROk K fS fT Ru C) (k:∀w,Sta B G0 H cs ((x,w)::ds)->Q w H):kFld K "form" Q v H:=by
 obtain ⟨p,dx,w,rfl,hp,S'⟩:=S.ins h;exact ⟨p,C,dx,_,w,rfl,hp,ok.cl,ok.na,rfl,k w S'⟩
def kMA (K:Frg) (m:Str) (f:Addr) (sp:Sp) (E:XK) (Q:VK):VK:=λx H1=>∃a C dx fs,x= .ref a/\H1 a=some (.ins C dx fs)/\Cls K C/\Meth K C m f/\fs.lookup m=none/\sp [x] H1 Q E
theorem rd_methA   (h:ta σ H (kMA K m f sp E Q)):Gk K m f sp E ta σ H Q:=h
theorem iW  (S:Sta B G0 H cs ds) (h:Has ds (CW C x) v) (ok:ROk K fS fT Ru C) (k:sp [v] H Q E):kMA K "shape" fS sp E Q v H:=by
 obtain ⟨p,dx,w,rfl,hp,S'⟩:=S.ins h;exact ⟨p,C,dx,_,rfl,hp,ok.cl,ok.ms,rfl,k⟩
theorem rd_isC (S:Sta B G0 H cs ds) (h:Has ds (CW C x) v) (ok:ROk K fS fT Ru C) (k:Q (.bl true) H):rIsC K [v, .ref Ru] H Q:=by
 obtain ⟨p,dx,w,rfl,hp,S'⟩:=S.ins h;exact ⟨_,Ru,_,true,rfl, .ins hp ok.cl ok.ha ok.hn ok.htk ok.hm,ok.kit,k⟩
def xj (C:Addr) (enc:α->List PyData) (form:α->PyData):Sp:=λvs H Q _=>∃(G:Hp) (a:α) (x dx:Addr) (us:List V),vs= .ref x::us/\zV G H/\G x=none/\H x=some (.ins C dx [])/\zL G (enc a) us/\
 ∀H' G' w,(∀p o,p≠x->H p=some o->H' p=some o)->zV G G'->zV G' H'->(∀p,H p≠none->G' p=G p)->H' x=some (.ins C dx [("form",w)])->Is G' (form a) w->Q .non H'
def kMake (C:Addr) (sp:Sp) (E:XK) (Q:VK) (vs:List V) (H1:Hp):Prop:=∀x dx,H1 x=none->H1 dx=none->dx≠x->sp (.ref x::(vs++[])) (upd (upd H1 dx (.own x)) x (.ins C dx [])) (λv H2=>v= .non/\Q (.ref x) H2) E
theorem rd_make  (h:t σ H (kMake C sp E Q)):Hg C sp [] E t σ H Q:=h
theorem YH  (a:α) (S:Sta B G0 H cs ds) (hx:yH ds (enc a) vs) (k:∀x H',zV H H'->Sta B G0 H' cs ((CW C (form a), .ref x)::ds)->Q (.ref x) H'):kMake C (xj C enc form) E Q vs H:=by
 intro x dx Lc RO KN;obtain ⟨G,s1,s2,s3,s4,s5,s6,s7⟩:=S;have gx:G x=none:=s2.free Lc;have gd:G dx=none:=s2.free RO
 have old:∀p o,H p=some o->upd (upd H dx (.own x)) x (.ins C dx []) p=some o:=λp o hp=>by
  rw [yg (yk hp Lc),yg (yk hp RO)];exact hp
 refine ⟨G,a,x,dx,vs,by rw [jaX],λp o hp=>old p o (s2 p o hp),gx,yM,hx G s7,λH' G' w h1 h2 h3 h4 h5 h6=>⟨rfl,?_⟩⟩;have keep:∀p o,H p=some o->H' p=some o:=λp o hp=>h1 p o (yk hp Lc) (old p o hp);have gx':G' x=none:=by rw [h4 x (by rw [yM];simp)];exact gx
 have eG:=zV.new gx' (.ins C dx [("form",w)]);refine k x H' keep ⟨upd G' x (.ins C dx [("form",w)]),(s1.trans h2).trans eG,λp o hp=>?_,λp o hp=>keep p o (s3 p o hp),λp hp=>?_,λc hc=>?_,s6,(s7.mono (h2.trans eG)).cons ?_⟩
 ·by_cases hpx:p=x
  ·subst hpx;rw [yM] at hp;rw [<-hp];exact h5
  ·rw [yg hpx] at hp;exact h3 p o hp
 ·cases hb:B p with
  |none=>exact absurd hb hp
  |some o=>
   have hH:=s3 p o hb;rw [yg (yk hH Lc),h4 p (by rw [old p o hH];simp),s4 p hp]
 ·obtain ⟨z1,z2,us,z3,z4⟩:=s5 c hc;have RQ:=yk z3 Lc;exact ⟨z1,by rw [yg RQ,h4 c.1 (by rw [old _ _ z3];simp)];exact z2,us,keep _ _ z3,zL.mono (h2.trans eG) _ _ z4⟩
 ·unfold CW;rw [Is,Dh];exact ⟨x,C,dx,w,rfl,rfl,yM,Is.mono eG _ _ h6⟩
def YR (K:Frg) (fS fT Ru:Addr):Sp:=λvs H Q E=>∃C,ROk K fS fT Ru C/\xj C (α:=PyData) (λd=>[d]) (λd=>d) vs H Q E
theorem YG  (S:Sta H G H1 [] ds) (gx:G y=none) (hx:H y=some (.ins C dx [])) (ok:ROk K fS fT Ru C) (hd:Has ds d v)
 (k:∀H' G' w,(∀p o,p≠y->H p=some o->H' p=some o)->zV G G'->zV G' H'->(∀p,H p≠none->G' p=G p)->H' y=some (.ins C dx [("form",w)])->Is G' d w->Q .non H'):YR K fS fT Ru [.ref y,v] H1 Q E:=by
 obtain ⟨G1,a1,b1,c1,d1,_,_,g1⟩:=S;refine ⟨C,ok,G1,d,y,dx,[v],rfl,b1,by rw [d1 y (by rw [hx];simp)];exact gx,c1 _ _ hx,(yH.cons hd yH.nil) G1 g1,λH' G' w h1 h2 h3 h4 h5 h6=>k H' G' w (λp o hp ho=>h1 p o hp (c1 p o ho)) (a1.trans h2) h3 (λp hp=>?_) h5 h6⟩;rw [h4 p ?_,d1 p hp]
 cases hb:H p with
 |none=>exact absurd hb hp
 |some o=>rw [c1 p o hb];simp
def rAddS:R2:=λx y H Q=>Ef x y H Q\/∃i j,x= .str i/\y= .str j/\i.length+j.length<=sizeLine/\Q (.str (i++j)) H
theorem op_addS:OpR X (binaryOp .Add) rAddS:=AY.or uO
theorem rd_eqS (h:Q (.bl (decide (i=j))) H):rEqA (.str i) (.str j) H Q:= .inl ⟨rfl,by
 rw [WR (show V.str i=V.str j↔i=j from ⟨V.str.inj,congrArg _⟩)];exact h⟩
theorem rd_ixTS  (S:Sta B G0 H cs ds) (hx:Has ds (.tuple xs) v) (hi:atI xs i=some (.str n)) (k:Q (.str n) H):rIx K v (.int i) H Q:=
 nA S hx hi λw S'=>by have:=S'.top;rw [Is] at this;subst this;exact k
def aj (A:RAd):Sp:=spT (α:=Rl) (λr=>[r.ins A]) (λ_=>True) (λr=>r.shape)
theorem Vb {A:RAd} {r:Rl} (S:Sta B G0 H cs ds) (h:Has ds (r.ins A) v) (k:∀w H',zV H H'->Sta B G0 H' cs ((r.shape,w)::ds)->Q w H'):aj A [v] H Q E:=Zl (α:=Rl) r S (yH.cons h yH.nil) trivial k
theorem IB  (h:zL G [x,y,z,t] vs):∃v w u r,vs=[v,w,u,r]/\XC G [(x,v),(y,w),(z,u),(t,r)]:=by
 simp only [zL] at h;obtain ⟨v,_,rfl,h1,w,_,rfl,h2,u,_,rfl,h3,r,_,rfl,h4,rfl⟩:=h;exact ⟨v,w,u,r,rfl,λp hp=>by simp at hp;rcases hp with rfl|rfl|rfl|rfl<;>assumption⟩
end
def Vt (P:Program) (w:World) (K:Frg) (mg:Str->Option Value) (base:Heap) (x:Str) (C:Addr) (ps:List Str) (sp:Sp):Prop:=∃f fd,Mk K C f/\FnOk P w K mg base CX0 2 f fd ps sp/\xi K fd ps []/\mg x=some (.ref C)
def FW (K:Frg) (a:Addr) (n:Nat):It:=
 ⟨λi H=>i<n/\∃xs x,SqL K H a xs/\xs[n - 1 - i]? =some x,λi H x H'=>H'=H/\∀xs,SqL K H a xs->xs[n - 1 - i]? =some x,λi _=>n<=i⟩
theorem DH {P:Program} {w:World} {K:Frg} {tg:Expr} (a it:Addr) (n:Nat):Turn P w K tg (FW K a n) [it] it (λi h=>i<=n/\h.IsRevIter it a ((n:Int) - 1 - (i:Nat))) where
 mem:=by simp
 obj:=λi h st b hb=>by
  have e:b=it:=by simpa using hb
  subst e;obtain ⟨_,o,e,c,d⟩:=st;exact ⟨o,e,λv z=>by rw [d] at z;cases z⟩
 keep:=λi h h' st k=>⟨st.1,st.2.at λo e=>k it (by simp) o e⟩
 item:=by
  intro X hP hw hK hc i pins s σ H E I hf st hg;subst hP hw hK;obtain ⟨hi,xs,x,hq,hx⟩:=hg;obtain ⟨its,rv,p,hz⟩:=I.list hq;obtain ⟨u,hu,ru⟩:=rv.get hx;obtain ⟨f0,f1,f2,f3,f4,f5⟩:=hf it (by simp);have ek:(n:Int) - 1 - (i:Nat)=((n - 1 - i:Nat):Int):=by omega
  have La:=st.2;rw [ek] at La;refine wpAny_pyNext_rev_item La p.isList (x:=u) (by simpa using hu) λh' Lb sb=>?_;have I1:Inv X pins σ H {s with heap:=h'}:=I.turned (t':=s.toks) (λb o hb e=>(sb.2 b hb).trans e) f0 f1 f3 f4 f5;obtain ⟨o,e,c,d⟩:=id Lb
  exact ⟨u,rfl,Fs (s:={s with heap:=h'}) e c d (by decide) ⟨x,H,I1,ru,⟨rfl,λys hy=>by rw [I.list_inj hy hq];exact hx⟩,⟨by omega,by
   rw [show (n:Int) - 1 - ((i+1:Nat):Int)=((n - 1 - i:Nat):Int) - 1 by omega];exact Lb⟩,λb hb=>(hf b hb).1⟩⟩
 done:=by
  intro X hP hw hK hc i pins s σ H E I hf st hg;subst hP hw hK;obtain ⟨f0,f1,f2,f3,f4,f5⟩:=hf it (by simp);have Nv:n<=i:=hg;have La:=st.2;rw [show (n:Int) - 1 - (i:Nat)= -1 by have:=st.1;omega] at La;exact wpAny_pyNext_rev_end (I.ok.hd hc) La λh' eb=>⟨rfl,I.turned (t':=s.toks) (λb o hb e=>eb b o hb e) f0 f1 f3 f4 f5⟩
 self:=λ_ _ _ _ _ st h=>wpAny_pyIter_revIter st.2 h
def iRev (K:Frg) (ta:TA):TI:=λσ H R=>ta σ H λvs H1=>∃a xs,vs=[.ref a]/\SqL K H1 a xs/\R (FW K a xs.length) H1
section
variable {X:Cx}
theorem pi_rev {tg a:Expr} {ta:TA} {p pos:Pos} (hg:Gl X "reversed") (hm:X.mg "reversed"=none) (ha:PA X [a] ta) (hs:starEach [a] X.env=[(false,eval a X.env)]:=by rfl):
 PI X tg (.Call (.Name "reversed" p) [a] [] pos) (iRev X.K ta):=by
 intro pins s σ H R I h;refine Call_ (Vx I hg hm qX (TV (thn (ha pos pins s σ H _ I h) λus s1 ⟨vs,H1,I1,r1,q1⟩=>?_) hs rfl));obtain ⟨l,xs,e,hq,q⟩:=q1;subst e;obtain ⟨u,rfl,ru⟩:=cy r1;cases (show u=Value.ref l from ru);obtain ⟨its,rv,p1,hz⟩:=I1.list hq;have hl:=rv.length;refine call_reversed_list p1.isList ?_
 have hit:Heap.IsRevIter (s1.heap.push (revObj l ((its.toArray.size:Int) - 1))) s1.heap.objs.size l ((xs.length:Int) - 1 - ((0:Nat):Int)):=⟨_,Qw _ rfl,rfl,by
  show Data.fields #[.ref l,rawInt ((its.toArray.size:Int) - 1)]=_
  rw [QG,<-hl];simp⟩
 refine wpAny_pyIter_revIter (s:={s1 with heap:=s1.heap.push (revObj l ((its.toArray.size:Int) - 1))}) hit ?_;have I2:Inv X pins σ H1 {s1 with heap:=s1.heap.push (revObj l ((its.toArray.size:Int) - 1))}:=I1.kept (t':=s1.toks) λb o e=>Qi _ e;refine ⟨s1.heap.objs.size,[s1.heap.objs.size],_,_,H1,rfl,I2,DH l _ xs.length,⟨jal _,hit⟩,λb hb=>?_,q⟩;have e:b=s1.heap.objs.size:=by simpa using hb
 subst e;exact I1.fpOk (Qv _) (I1.hok.fresh (Qv _))
end
def kRv (K:Frg) (R:It->Hp->Prop):List V->Hp->Prop:=λvs H1=>∃a xs,vs=[.ref a]/\SqL K H1 a xs/\R (FW K a xs.length) H1
section
variable {B G0 H:Hp} {cs:yD} {ds:Dat} {K:Frg} {a:Addr} {xs ys:List PyData} {P:yD->Dat->Prop} {v:V} {σ:L2.St} {R:It->Hp->Prop} {ta:TA}
theorem rd_iRv (h:ta σ H (kRv K R)):iRev K ta σ H R:=h
theorem wk_rev (s:Src B G0 true K a xs P):Wk B G0 (FW K a xs.length) xs.reverse P where
 go:=λ{H cs ds i} S h hi=>by
  rw [Tv] at hi;obtain ⟨vs,q,hl,_⟩:=s S h;exact ⟨hi,vs,vs[xs.length - 1 - i]'(by omega),q,Qb _⟩
 stop:=λ{H cs ds i} S h hi=>by rw [Tv] at hi;exact hi
 yld:=λ{H H' cs ds i x v} S h hx y=>by
  obtain ⟨e,y⟩:=y;subst e;obtain ⟨vs,q,hl,z⟩:=s S h;have hi:i<xs.length:=by have:=(Qd.mp hx).1;rwa [Tv] at this
  rw [List.getElem?_reverse hi] at hx;obtain ⟨w,hw,S'⟩:=z _ x hx;have:=y vs q;rw [hw] at this;cases this;exact ⟨zV.refl _,S'⟩
theorem HD (S:Sta B G0 H cs ds) (h:Has ds (.list xs) v) (k:∀J,Wk B G0 J xs.reverse (λ_ ds=>Has ds (.list xs) v)->R J H):kRv K R [v] H:=by
 obtain ⟨p,vs,rfl,hp,hl,_⟩:=S.lst h;refine ⟨p,vs,rfl,SqL.of hp,?_⟩;rw [<-hl];exact k _ (wk_rev WX)
end
def VH (l c:zg):zg:=(l.1 - c.1,List.zipWith (· - ·) l.2 c.2)
def Vq (l c:zg):zg:=(l.1+c.1,List.zipWith (·+·) l.2 c.2)
def lastC (a:List zg):zg:=a.getLast?.getD (0,[])
def yv (a:List zg):List zg:=a.reverse.map (VH (lastC a))
def zW (p:Rat) (a:List zg):List zg:=a.map λc=>(c.1*p,c.2.map (·*p))
def yF (a b:List zg):List zg:=b.tail.map (Vq (lastC a))
section
variable {B G0 H:Hp} {cs:yD} {ds:Dat} {Q:VK} {E:XK} {v w:V}
def mH (g:Rat->Rat->Rat):Sp:=spT (α:=List Rat×List Rat) (λa=>[zR a.1,zR a.2]) (λa=>(∀q∈a.1,SzQ 4000 q)/\(∀q∈a.2,SzQ 4000 q)/\a.1.length<=1000) (λa=>zR (List.zipWith g a.1 a.2))
theorem AM  (S:Sta B G0 H cs ds) (h1:Has ds (zR p) v) (h2:Has ds (zR q) w) (s1:∀x∈p,SzQ 4000 x) (s2:∀x∈q,SzQ 4000 x) (hl:p.length<=1000)
 (k:∀r H',zV H H'->Sta B G0 H' cs ((zR (List.zipWith g p q),r)::ds)->Q r H'):mH g [v,w] H Q E:=
 Zl (p,q) S (.cons h1 (.cons h2 .nil)) ⟨s1,s2,hl⟩ k
structure PathIn (a:List zg):Prop where
 ne:a≠[]
 sz:∀c∈a,SzC 4000 c
 len:∀c∈a,c.2.length<=1000
 few:a.length<=450
theorem PathIn.last (h:PathIn a):a.getLast? =some (lastC a)/\lastC a∈a:=by
 obtain ⟨l,hl⟩:∃l,a.getLast? =some l:=⟨_,Tc h.ne⟩;have e:lastC a=l:=by unfold lastC;rw [hl];rfl
 rw [e];exact ⟨hl,jai hl⟩
theorem SzC.mono  (h:SzC m c) (l:m<=n):SzC n c:=⟨h.1.mono l,λq hq=>(h.2 q hq).mono l⟩
def cR:Sp:=spL (α:=List zg) (λa=>[zU a]) PathIn (λa=>(yv a).map zA)
theorem nj (S:Sta B G0 H cs ds) (h:Has ds (zU a) v) (ok:PathIn a) (k:∀p H',zV H H'->Sta B G0 H' ((p,(yv a).map zA)::cs) ds->Q (.ref p) H'):cR [v] H Q E:=
 Zm a S (.cons h .nil) ok k
def jP:Sp:=spL (α:=List zg×Rat) (λa=>[zU a.1,frD a.2]) (λa=>PathIn a.1/\SzQ 4000 a.2) (λa=>(zW a.2 a.1).map zA)
theorem nr  (S:Sta B G0 H cs ds) (h:Has ds (zU a) v) (h2:Has ds (frD p) w) (ok:PathIn a) (sp:SzQ 4000 p) (k:∀q H',zV H H'->Sta B G0 H' ((q,(zW p a).map zA)::cs) ds->Q (.ref q) H'):jP [v,w] H Q E:=
 Zm (a,p) S (.cons h (.cons h2 .nil)) ⟨ok,sp⟩ k
noncomputable def Ur:Sp:=spL (α:=List zg×List zg) (λa=>[zU a.1,zU a.2]) (λa=>PathIn a.1/\PathIn a.2/\∃m,PathOk m (a.1++yF a.1 a.2)) (λa=>(yp (a.1++yF a.1 a.2)).map zA)
theorem nC  (S:Sta B G0 H cs ds) (h:Has ds (zU a) v) (h2:Has ds (zU b) w) (ok:PathIn a) (Nq:PathIn b) (OJ:PathOk m (a++yF a b))
 (k:∀p H',zV H H'->Sta B G0 H' ((p,(yp (a++yF a b)).map zA)::cs) ds->Q (.ref p) H'):Ur [v,w] H Q E:=
 Zm (a,b) S (.cons h (.cons h2 .nil)) ⟨ok,Nq,m,OJ⟩ k
end
def xC (t x y:Rat):Rat:=x+t*(y - x)
def Yx (c d:zg) (E:Rat):List Rat:=List.zipWith (xC ((E - c.1) / (d.1 - c.1))) c.2 d.2
def zh:List zg->Rat->List Rat
 |[],_=>[]
 |[c],_=>c.2
 |c::d::r,E=>if E<d.1 then Yx c d E else zh (d::r) E
def yl (a:List zg):Prop:=a.Pairwise λc d=>c.1<d.1
theorem Zg:∀{a:List zg} {i:Nat} {c:zg},yl a->a[i]? =some c->c.1<=E->(i+1=a.length\/∃d,a[i+1]? =some d/\E<d.1)->zh a E=match a[i+1]? with|none=>c.2|some d=>Yx c d E
 |[],i,c,_,h,_,_=>by simp at h
 |[b],i,c,_,h,_,_=>by
  cases i with
  |zero=>cases h;rfl
  |succ i=>simp at h
 |b::d::r,i,c,hr,h,hc,hE=>by
  cases i with
  |zero=>
   cases h
   rcases hE with hE|⟨d',KS,hE⟩
   ·simp at hE
   ·cases KS;rw [zh,QH hE];rfl
  |succ i=>
   have Lg:yl (d::r):=(Ql.mp hr).2;have h':(d::r)[i]? =some c:=by simpa using h
   have hd:d.1<=c.1:=by
    cases i with
    |zero=>cases h';exact QQ
    |succ i=>exact QC ((Ql.mp Lg).1 c (Qc (by simpa using h')))
   have Oa:¬E<d.1:=Tf.mpr (TL hd hc);rw [zh,QO Oa]
   have:=Zg (a:=d::r) (i:=i) (c:=c) Lg h' hc (by
    rcases hE with hE|⟨d',KS,hE⟩
    ·left;simpa using hE
    ·right;exact ⟨d',by simpa using KS,hE⟩)
   rw [this]
   simp
def Wd:List zg->Rat->List Rat
 |[],_=>[]
 |[c],_=>c.2
 |c::d::r,E=>if E<=d.1 then Yx c d E else Wd (d::r) E
theorem fJ:∀{a:List zg} {i:Nat} {c d:zg},(∀(j:Nat) (x:zg),j<i->a[j+1]? =some x->x.1<E)->a[i]? =some c->a[i+1]? =some d->E<=d.1->Wd a E=Yx c d E
 |[],i,c,d,_,h,_,_=>by simp at h
 |[b],i,c,d,_,_,h,_=>by simp at h
 |b::b'::r,0,c,d,_,h,h',hE=>by
  cases h;cases h';rw [Wd,QH hE]
 |b::b'::r,i+1,c,d,Kr,h,h',hE=>by
  have h0:=Kr 0 b' (by omega) rfl;rw [Wd,QO (jaf.mpr h0)];exact fJ (i:=i) (λj x hj hx=>Kr (j+1) x (by omega) (by simpa using hx)) (by simpa using h) (by simpa using h') hE
theorem ji:∀{a:List zg} {c:zg},(∀(j:Nat) (x:zg),a[j+1]? =some x->x.1<E)->a.getLast? =some c->Wd a E=c.2
 |[],c,_,h=>by simp at h
 |[b],c,_,h=>by cases h;rfl
 |b::b'::r,c,Kr,h=>by
  have h0:=Kr 0 b' rfl;rw [Wd,QO (jaf.mpr h0)];exact ji (λj x hx=>Kr (j+1) x (by simpa using hx)) (by simpa using h)
theorem Bz (x y:Rat):xC 0 x y=x:=by unfold xC;grind
theorem sH (x y:Rat):xC 1 x y=y:=by unfold xC;grind
theorem mr (hf:∀x y,f x y=x):∀{l r:List Rat},l.length=r.length->List.zipWith f l r=l
 |[],[],_=>rfl
 |x::l,y::r,h=>by rw [jas,hf,mr hf (by simpa using h)]
 |[],_::_,h=>by simp at h
 |_::_,[],h=>by simp at h
theorem iJ (hf:∀x y,f x y=y):∀{l r:List Rat},l.length=r.length->List.zipWith f l r=r
 |[],[],_=>rfl
 |x::l,y::r,h=>by rw [jas,hf,iJ hf (by simpa using h)]
 |[],_::_,h=>by simp at h
 |_::_,[],h=>by simp at h
theorem Yi (h:c.2.length=d.2.length):Yx c d c.1=c.2:=by
 unfold Yx;have:(c.1 - c.1) / (d.1 - c.1)=0:=by rw [Rat.sub_self,TZ,jbe]
 rw [this];exact mr Bz h
theorem lM (h:c.2.length=d.2.length) (Kr:c.1<d.1):Yx c d d.1=d.2:=by
 unfold Yx
 have KN:d.1 - c.1≠0:=λz=>by
  have:d.1=c.1:=by grind
  rw [this] at Kr;exact jaS Kr
 have:(d.1 - c.1) / (d.1 - c.1)=1:=by rw [TZ];exact QT _ KN
 rw [this];exact iJ sH h
theorem nW  :∀{a:List zg},yl a->(∀c∈a,c.2.length=m)->Wd a E=zh a E
 |[],_,_=>rfl
 |[c],_,_=>rfl
 |c::d::r,hr,hl=>by
  have Lg:yl (d::r):=(Ql.mp hr).2;have KJ:=λx hx=>hl x (Qf _ hx);have Ku:c.1<d.1:=(Ql.mp hr).1 d (Qe ..);have lcd:c.2.length=d.2.length:=by rw [hl c (Qe ..),hl d (Qf _ (Qe ..))]
  rw [Wd,zh]
  by_cases h1:E<d.1
  ·rw [QH h1,QH (QC h1)]
  ·rw [QO h1]
   by_cases h2:E<=d.1
   ·have e:E=d.1:=jaC h2 (Tf.mp h1);subst e;rw [QH h2,lM lcd Ku]
    cases r with
    |nil=>rfl
    |cons f r=>
     have LV:d.1<f.1:=(Ql.mp Lg).1 f (Qe ..);rw [zh,QH LV,Yi];rw [KJ d (Qe ..),KJ f (Qf _ (Qe ..))]
   ·rw [QO h2];exact nW Lg KJ
theorem Fi (a b:Rat):(a*b)⁻¹=a⁻¹*b⁻¹:=by
 by_cases ha:a=0
 ·subst ha;rw [jbe,Rat.inv_zero,jbe]
 ·by_cases hb:b=0
  ·subst hb;rw [Rat.mul_zero,Rat.inv_zero,Rat.mul_zero]
  ·have h1:=QT a ha;have h2:=QT b hb;have h3:(a*b)*(a*b)⁻¹=1:=QT _ (by grind)
   grind
theorem By {a1 a2 a3 a4 a5 b1 b2 b3 b4:Rat} (n1:a1≠0) (n2:a2≠0) (n3:a3≠0) (n4:a4≠0) (n5:a5≠0) (n6:b4≠0):
 (b1*a2*(b4*a5 - b3*a4)+b2*a1*(b3*a4)) / (a1*a2*(b4*a5))=b1 / a1+b3 / (a3*a5) / (b4 / (a3*a4))*(b2 / a2 - b1 / a1):=by
 have i1:=QT a1 n1;have i2:=QT a2 n2;have i3:=QT a3 n3;have i4:=QT a4 n4;have i5:=QT a5 n5;have i6:=QT b4 n6;simp only [TZ,Fi,Rat.inv_inv];generalize a1⁻¹=c1 at*;generalize a2⁻¹=c2 at*;generalize a3⁻¹=c3 at*;generalize a4⁻¹=c4 at*;generalize a5⁻¹=c5 at*;generalize b4⁻¹=c6 at*
 grind
theorem Iw {x y l h e:Rat} (Kr:l<h):
 Rat.divInt (x.num*(y.den:Int)*((h.num*(l.den:Int) - l.num*(h.den:Int))*(e.den:Int) - (e.num*(l.den:Int) - l.num*(e.den:Int))*(h.den:Int))+y.num*(x.den:Int)*((e.num*(l.den:Int) - l.num*(e.den:Int))*(h.den:Int)))
  ((x.den:Int)*(y.den:Int)*((h.num*(l.den:Int) - l.num*(h.den:Int))*(e.den:Int)))=xC ((e - l) / (h - l)) x y/\0<(h.num*(l.den:Int) - l.num*(h.den:Int))*(e.den:Int):=by
 have hH:0<h.num*(l.den:Int) - l.num*(h.den:Int):=by
  have:=(Rat.lt_iff l h).mp Kr;omega
 refine ⟨?_,Int.mul_pos hH (den_pos e)⟩;have g1:e - l=(e.num*(l.den:Int) - l.num*(e.den:Int):Int) / (((l.den:Int)*(e.den:Int):Int):Rat):=by rw [<-aV,Rat.divInt_eq_div]
 have g2:h - l=(h.num*(l.den:Int) - l.num*(h.den:Int):Int) / (((l.den:Int)*(h.den:Int):Int):Rat):=by rw [<-aV,Rat.divInt_eq_div]
 have hx:x=(x.num:Rat) / ((x.den:Int):Rat):=by rw [<-Rat.divInt_eq_div,jaN]
 have hy:y=(y.num:Rat) / ((y.den:Int):Rat):=by rw [<-Rat.divInt_eq_div,jaN]
 have nz:∀q:Rat,((q.den:Int):Rat)≠0:=λq z=>by
  have:=Rat.intCast_inj.mp (z.trans Rat.intCast_zero.symm);have:=den_pos q;omega
 have nH:((h.num*(l.den:Int) - l.num*(h.den:Int):Int):Rat)≠0:=λz=>by
  have:=Rat.intCast_inj.mp (z.trans Rat.intCast_zero.symm);omega
 unfold xC;rw [g1,g2,Rat.divInt_eq_div];generalize e.num*(l.den:Int) - l.num*(e.den:Int)=EN at*;generalize h.num*(l.den:Int) - l.num*(h.den:Int)=HN at*
 conv=>rhs;rw [hx,hy]
 have n1:=nz x;have n2:=nz y;have n3:=nz l;have n4:=nz h;have n5:=nz e;simp only [QV,Rat.intCast_add,jaJ];exact By n1 n2 n3 n4 n5 nH
section
variable {B G0 H:Hp} {cs:yD} {ds:Dat} {Q:VK} {E:XK} {v w u:V}
def rX:Sp:=λvs H Q _=>∃(qs:List Rat) (e:Rat) (n:Nat),zL H [.list (qs.map frD),frD e] vs/\(0<qs.length/\qs.length<=1000000/\(∀q∈qs,SzQ n q)/\SzQ n e/\n<=40000000/\∀q,qs[0]? =some q->q<=e)/\
 ∀(i:Nat) (q:Rat),qs[i]? =some q->q<=e->(i+1=qs.length\/∃r,qs[i+1]? =some r/\e<r)->Q (.int (i:Nat)) H
theorem AH {qs:List Rat} {e:Rat} {n:Nat} (S:Sta B G0 H cs ds) (h1:Is H (.list (qs.map frD)) v) (h2:Is H (frD e) w) (hd:0<qs.length/\qs.length<=1000000/\(∀q∈qs,SzQ n q)/\SzQ n e/\n<=40000000/\∀q,qs[0]? =some q->q<=e)
 (k:∀(i:Nat) (q:Rat),qs[i]? =some q->q<=e->(i+1=qs.length\/∃r,qs[i+1]? =some r/\e<r)->Q (.int (i:Nat)) H):rX [v,w] H Q E:=
 ⟨qs,e,n,by simp only [zL];exact ⟨_,_,rfl,h1,_,_,rfl,h2,rfl⟩,hd,k⟩
def Up:Sp:=spT (α:=Rat×Rat×Rat) (λa=>[frD a.1,frD a.2.1,frD a.2.2]) (λa=>(∃m n,SzQ n a.1/\SzQ n a.2.1/\SzQ m a.2.2/\m+3*n+2<=8999)/\a.2.1≠a.1) (λa=>frD ((a.2.2 - a.1) / (a.2.1 - a.1)))
theorem iT  (S:Sta B G0 H cs ds) (h1:Has ds (frD s) v) (h2:Has ds (frD e) w) (h3:Has ds (frD x) u) (z1:SzQ n s) (z2:SzQ n e) (z3:SzQ m x) (hz:m+3*n+2<=8999) (KN:e≠s)
 (k:∀r H',zV H H'->Sta B G0 H' cs ((frD ((x - s) / (e - s)),r)::ds)->Q r H'):Up [v,w,u] H Q E:=
 Zl (s,e,x) S (.cons h1 (.cons h2 (.cons h3 .nil))) ⟨⟨m,n,z1,z2,z3,hz⟩,KN⟩ k
def cW:Sp:=spT (α:=Rat×Rat×Rat) (λa=>[frD a.1,frD a.2.1,frD a.2.2]) (λa=>∃m n,SzQ n a.1/\SzQ n a.2.1/\SzQ m a.2.2/\m+3*n+2<=8999) (λa=>frD (xC a.2.2 a.1 a.2.1))
theorem nE  (S:Sta B G0 H cs ds) (h1:Has ds (frD s) v) (h2:Has ds (frD e) w) (h3:Has ds (frD t) u) (z1:SzQ n s) (z2:SzQ n e) (z3:SzQ m t) (hz:m+3*n+2<=8999)
 (k:∀r H',zV H H'->Sta B G0 H' cs ((frD (xC t s e),r)::ds)->Q r H'):cW [v,w,u] H Q E:=
 Zl (s,e,t) S (.cons h1 (.cons h2 (.cons h3 .nil))) ⟨m,n,z1,z2,z3,hz⟩ k
def dO:Sp:=spT (α:=zg×zg×Rat) (λa=>[zA a.1,zA a.2.1,frD a.2.2]) (λa=>(∃m n,SzC n a.1/\SzC n a.2.1/\SzQ m a.2.2/\m+6*n+4<=8999)/\a.1.1<a.2.1.1/\a.1.2.length<=1000) (λa=>zR (Yx a.1 a.2.1 a.2.2))
theorem uK  (S:Sta B G0 H cs ds) (h1:Has ds (zA c) v) (h2:Has ds (zA d) w) (h3:Has ds (frD e) u) (z1:SzC n c) (z2:SzC n d) (z3:SzQ m e) (hz:m+6*n+4<=8999) (Kr:c.1<d.1) (hl:c.2.length<=1000)
 (k:∀r H',zV H H'->Sta B G0 H' cs ((zR (Yx c d e),r)::ds)->Q r H'):dO [v,w,u] H Q E:=
 Zl (c,d,e) S (.cons h1 (.cons h2 (.cons h3 .nil))) ⟨⟨m,n,z1,z2,z3,hz⟩,Kr,hl⟩ k
structure PathR (n:Nat) (a:List zg):Prop where
 ne:a≠[]
 sz:∀c∈a,SzC n c
 len:∀c∈a,c.2.length<=1000
 few:a.length<=900
 rise:yl a
 zero:∀c,a[0]? =some c->c.1=0
def rW:Sp:=spP (α:=Rat×Rat) (λa=>[frD a.1,frD a.2]) (λa=>∃m n,SzQ m a.1/\SzQ n a.2/\m+n<=100000000) (λa=> .bl (decide (a.1<a.2)))
theorem qj  (S:Sta B G0 H cs ds) (h1:Has ds (frD p) v) (h2:Has ds (frD q) w) (s1:SzQ m p) (s2:SzQ n q) (LB:m+n<=100000000) (k:Q (.bl (decide (p<q))) H):rW [v,w] H Q E:=
 Gs (p,q) S (.cons h1 (.cons h2 .nil)) ⟨m,n,s1,s2,LB⟩ k
def Uq:Sp:=spT (α:=List zg×Rat) (λa=>[zU a.1,frD a.2]) (λa=>∃m n,PathR n a.1/\SzQ m a.2/\m+6*n+4<=8999/\0<=a.2) (λa=>zR (zh a.1 a.2))
theorem aG  (S:Sta B G0 H cs ds) (h1:Has ds (zU a) v) (h2:Has ds (frD e) w) (ok:PathR n a) (z:SzQ m e) (hz:m+6*n+4<=8999) (h0:0<=e)
 (k:∀r H',zV H H'->Sta B G0 H' cs ((zR (zh a e),r)::ds)->Q r H'):Uq [v,w] H Q E:=
 Zl (a,e) S (.cons h1 (.cons h2 .nil)) ⟨m,n,ok,z,hz,h0⟩ k
end
theorem zY {a b:Rat} (h:a*b=0) (hb:b≠0):a=0:=by
 have h1:=QT b hb;have:a=a*b*b⁻¹:=by rw [Rat.mul_assoc,h1,Rat.mul_one]
 rw [this,h,jbe]
theorem xK {a b:Rat} (h:a<b):b - a≠0:=λz=>by
 have:b=a:=by grind
 rw [this] at h;exact jaS h
theorem yV {s e x y E:Rat} (h:s<e):(xC ((E - s) / (e - s)) x y - x)*(e - s)=(E - s)*(y - x):=by
 have h1:=QT _ (xK h);unfold xC;rw [TZ];generalize (e - s)⁻¹=i at*
 grind
theorem ZI {c d:zg} {E:Rat} {i:Nat} {z:Rat} (h:(Yx c d E)[i]? =some z):∃x y,c.2[i]? =some x/\d.2[i]? =some y/\z=xC ((E - c.1) / (d.1 - c.1)) x y:=by
 unfold Yx at h;rw [Qt] at h
 cases hx:c.2[i]? with
 |none=>rw [hx] at h;cases h
 |some x=>
  cases hy:d.2[i]? with
  |none=>rw [hx,hy] at h;cases h
  |some y=>rw [hx,hy] at h;exact ⟨x,y,rfl,rfl,(QL h).symm⟩
structure PathT (m:Nat) (a:List zg):Prop where
 rise:yl a
 len:∀c∈a,c.2.length=m
 thin:∀(i:Nat) (x y z:zg),a[i]? =some x->a[i+1]? =some y->a[i+2]? =some z->¬zQ x y z
theorem PathT.tail  (h:PathT m (c::a)):PathT m a:=
 ⟨(Ql.mp h.rise).2,λx hx=>h.len x (Qf _ hx),λi x y z hx hy hz=>h.thin (i+1) x y z (by simpa using hx) (by simpa using hy) (by simpa using hz)⟩
theorem zZ  (h:d.1<=E):zh (c::d::r) E=zh (d::r) E:=by
 rw [zh,QO (Tf.mpr h)]
theorem ZA  (h:PathT m (c::r)):zh (c::r) c.1=c.2:=by
 cases r with
 |nil=>rfl
 |cons d r=>
  rw [zh,QH ((Ql.mp h.rise).1 d (Qe ..)),Yi];rw [h.len c (Qe ..),h.len d (Qf _ (Qe ..))]
theorem BN:∀{c:zg} {r:List zg},PathT m (c::r)->c.1<=(lastC (c::r)).1
 |c,[],_=>QQ
 |c,d::r,h=>by
  have h1:=(Ql.mp h.rise).1 d (Qe ..);have h2:=BN h.tail;have e:lastC (c::d::r)=lastC (d::r):=by unfold lastC;rw [TM]
  rw [e];exact TL (QC h1) h2
theorem ZC (c d:zg) (r:List zg):lastC (c::d::r)=lastC (d::r):=by unfold lastC;rw [TM]
theorem Zz {m:Nat} {u v E:Rat} (Nr:u<=E) (Ov:E<=v) (KL:u<v):∀{c:zg} {r:List zg},PathT m (c::r)->c.1<=u->(∀x∈r,¬(u<x.1/\x.1<v))->
 ∀(i:Nat) (x y z:Rat),(zh (c::r) u)[i]? =some x->(zh (c::r) v)[i]? =some y->(zh (c::r) E)[i]? =some z->(z - x)*(v - u)=(y - x)*(E - u)
 |c,[],_,_,_,i,x,y,z,hx,hy,hz=>by
  have e1:c.2[i]? =some x:=hx;have e2:c.2[i]? =some y:=hy;have e3:c.2[i]? =some z:=hz;rw [e1] at e2 e3;cases e2;cases e3
  grind
 |c,d::r,h,hc,hno,i,x,y,z,hx,hy,hz=>by
  have Ku:=(Ql.mp h.rise).1 d (Qe ..)
  by_cases hd:d.1<=u
  ·rw [zZ hd] at hx;rw [zZ (TL hd (QC KL))] at hy;rw [zZ (TL hd Nr)] at hz;exact Zz Nr Ov KL h.tail hd (λx hx=>hno x (Qf _ hx)) i x y z hx hy hz
  ·have Mv:u<d.1:=jaf.mp hd;have hvd:v<=d.1:=Tf.mp λKr=>hno d (Qe ..) ⟨Mv,Kr⟩
   have key:∀t:Rat,t<=d.1->zh (c::d::r) t=Yx c d t:=by
    intro t ht
    by_cases h1:t<d.1
    ·rw [zh,QH h1]
    ·have e:t=d.1:=jaC ht (Tf.mp h1);rw [e,zZ QQ,ZA h.tail,lM (by rw [h.len c (Qe ..),h.len d (Qf _ (Qe ..))]) Ku]
   rw [key u (QC Mv)] at hx;rw [key v hvd] at hy;rw [key E (TL Ov hvd)] at hz;obtain ⟨p,q,hp,hq,ex⟩:=ZI hx;obtain ⟨p',q',Ll,LA,ey⟩:=ZI hy;obtain ⟨p'',q'',NZ,NY,ez⟩:=ZI hz;rw [hp] at Ll NZ;rw [hq] at LA NY;cases Ll;cases NZ;cases LA;cases NY;have l1:=yV (x:=p) (y:=q) (E:=u) Ku;have l2:=yV (x:=p) (y:=q) (E:=v) Ku;have l3:=yV (x:=p) (y:=q) (E:=E) Ku;rw [<-ex] at l1;rw [<-ey] at l2;rw [<-ez] at l3;have k:((z - x)*(v - u) - (y - x)*(E - u))*(d.1 - c.1)=0:=by grind
   have:=zY k (xK Ku)
   grind
theorem Ye  :∀{c:zg} {r:List zg},(∀x∈c::r,x.2.length=m)->(zh (c::r) E).length=m
 |c,[],h=>h c (Qe ..)
 |c,d::r,h=>by
  rw [zh]
  split
  ·unfold Yx;rw [Qy,h c (Qe ..),h d (Qf _ (Qe ..)),TN]
  ·exact Ye λx hx=>h x (Qf _ hx)
def yw:List Rat->List Rat->List Rat
 |[],ys=>ys
 |x::xs,[]=>x::xs
 |x::xs,y::ys=>if x<y then x::yw xs (y::ys) else if x=y then y::yw xs ys else y::yw (x::xs) ys
termination_by xs ys=>xs.length+ys.length
theorem ft:∀xs:List Rat,yw xs []=xs
 |[]=>by rw [yw]
 |x::xs=>by rw [yw]
theorem Ys:∀{xs ys:List Rat},e∈yw xs ys↔e∈xs\/e∈ys
 |[],ys=>by rw [yw];simp
 |x::xs,[]=>by rw [yw];simp
 |x::xs,y::ys=>by
  rw [yw]
  split
  ·rw [Qm,Ys (xs:=xs) (ys:=y::ys),Qm,Qm]
   constructor<;>intro h<;>grind
  ·split
   ·rename_i h1 h2;subst h2;rw [Qm,Ys (xs:=xs) (ys:=ys),Qm,Qm]
    constructor<;>intro h<;>grind
   ·rw [Qm,Ys (xs:=x::xs) (ys:=ys),Qm,Qm]
    constructor<;>intro h<;>grind
termination_by xs ys=>xs.length+ys.length
theorem yU {a b c:Rat} (h:a<b) (g:b<c):a<c:=by grind
def Ue (l:List Rat):Prop:=l.Pairwise (·<·)
theorem Va:∀{xs ys:List Rat},Ue xs->Ue ys->Ue (yw xs ys)
 |[],ys,_,hy=>by rw [yw];exact hy
 |x::xs,[],hx,_=>by rw [yw];exact hx
 |x::xs,y::ys,hx,hy=>by
  obtain ⟨LJ,Ly⟩:=Ql.mp hx;obtain ⟨LQ,hy2⟩:=Ql.mp hy;rw [yw]
  split
  ·rename_i h;refine Ql.mpr ⟨λe he=>?_,Va Ly hy⟩
   rcases Ys.mp he with h1|h1
   ·exact LJ e h1
   ·rcases Qm.mp h1 with rfl|h1
    ·exact h
    ·exact yU h (LQ e h1)
  ·split
   ·rename_i h1 h2;subst h2;refine Ql.mpr ⟨λe he=>?_,Va Ly hy2⟩
    rcases Ys.mp he with h|h
    ·exact LJ e h
    ·exact LQ e h
   ·rename_i h1 h2
    have hyx:y<x:=by
     rcases Rat.le_iff_lt_or_eq.mp (Tf.mp h1) with h|h
     ·exact h
     ·exact absurd h.symm h2
    refine Ql.mpr ⟨λe he=>?_,Va hx hy2⟩
    rcases Ys.mp he with h|h
    ·rcases Qm.mp h with rfl|h
     ·exact hyx
     ·exact yU hyx (LJ e h)
    ·exact LQ e h
termination_by xs ys=>xs.length+ys.length
theorem UH:∀(xs ys:List Rat),(yw xs ys).length<=xs.length+ys.length
 |[],ys=>by rw [yw];simp
 |x::xs,[]=>by rw [yw];simp
 |x::xs,y::ys=>by
  rw [yw]
  split
  ·have:=UH xs (y::ys);simp only [QA] at*;omega
  ·split
   ·have:=UH xs ys;simp only [QA] at*;omega
   ·have:=UH (x::xs) ys;simp only [QA] at*;omega
termination_by xs ys=>xs.length+ys.length
section
variable {B G0 H:Hp} {cs:yD} {ds:Dat} {Q:VK} {E:XK} {v w u:V}
def jV:Sp:=spL (α:=List Rat×List Rat) (λa=>[.list (a.1.map frD), .list (a.2.map frD)]) (λa=>(∃n,(∀q∈a.1,SzQ n q)/\(∀q∈a.2,SzQ n q)/\n<=40000000)/\a.1.length<=450/\a.2.length<=450) (λa=>(yw a.1 a.2).map frD)
theorem AG  (S:Sta B G0 H cs ds) (h1:Has ds (.list (p.map frD)) v) (h2:Has ds (.list (q.map frD)) w) (z1:∀x∈p,SzQ n x) (z2:∀x∈q,SzQ n x) (hn:n<=40000000) (l1:p.length<=450) (l2:q.length<=450)
 (k:∀r H',zV H H'->Sta B G0 H' ((r,(yw p q).map frD)::cs) ds->Q (.ref r) H'):jV [v,w] H Q E:=
 Zm (p,q) S (.cons h1 (.cons h2 .nil)) ⟨⟨n,z1,z2,hn⟩,l1,l2⟩ k
def yb (a:List zg):List Rat:=a.map λc=>c.1
end
theorem mw (m:Nat):(ZV m).sum=0:=by
 unfold ZV
 induction m with
 |zero=>rfl
 |succ m ih=>rw [Tu,QN,ih];rfl
theorem fq (hM:Ue M)  (hu:M[j]? =some u) (hv:M[j+1]? =some v) (he:e∈M):¬(u<e/\e<v):=by
 rintro ⟨h1,h2⟩
 obtain ⟨i,hi⟩:=Qx.mp he;obtain ⟨li,ei⟩:=Qd.mp hi;obtain ⟨lu,eu⟩:=Qd.mp hu;obtain ⟨lv,ev⟩:=Qd.mp hv;have pw:=QJ.mp hM
 by_cases c:i<=j
 ·rcases Nat.lt_or_eq_of_le c with c|c
  ·have:=pw i j li lu c;rw [ei,eu] at this
   grind
  ·subst c;rw [ei] at eu;subst eu
   grind
 ·by_cases c2:i=j+1
  ·subst c2;rw [ei] at ev;subst ev
   grind
  ·have:=pw (j+1) i lv li (by omega);rw [ei,ev] at this
   grind
theorem XQ (h:yl a):Ue (yb a):=by
 unfold Ue yb;rw [Tn];exact h
section
variable {B G0 H:Hp} {cs:yD} {ds:Dat} {Q:VK} {E:XK} {v w u:V}
def pM:Sp:=λvs H Q _=>∃n:Int,vs=[.int n]/\Q (.bl true) H
theorem rd_whole (k:Q (.bl true) H):pM [.int n] H Q E:=⟨n,rfl,k⟩
def rY:Sp:=spB (α:=Rat) (λa=>[frD a]) (λ_=>True) (λ_=> .bl true)
theorem qk (S:Sta B G0 H cs ds) (h:Has ds (frD q) v) (k:∀H',Sta B G0 H' cs ds->Q (.bl true) H'):rY [v] H Q E:=
 WA q (S.hpAll (.cons h .nil)) trivial λH' e=>k H' (S.same e)
end
def zM:List Rat->Rat
 |[]=>0
 |x::r=>x+zM r
theorem VI:∀x y:List Rat,zM (x++y)=zM x+zM y
 |[],y=>by rw [jaI,zM];grind
 |a::x,y=>by rw [TF,zM,zM,VI x y];grind
theorem Xf (m:Nat):zM (List.replicate m 0)=0:=by
 induction m with
 |zero=>rfl
 |succ m ih=>rw [Tu,zM,ih];grind
theorem jL (t:Rat):∀x y:List Rat,x.length=y.length->zM (List.zipWith (xC t) x y)=xC t (zM x) (zM y)
 |[],[],_=>by rw [List.zipWith_nil_left,zM];unfold xC;grind
 |a::x,b::y,h=>by
  rw [jas,zM,zM,zM,jL t x y (by simpa using h)];unfold xC;grind
 |[],_::_,h=>by simp at h
 |_::_,[],h=>by simp at h
def LeV (x y:List Rat):Prop:=∀(i:Nat) (a b:Rat),x[i]? =some a->y[i]? =some b->a<=b
structure PathM (m:Nat) (a:List zg):Prop where
 t:PathT m a
 sums:∀c∈a,zM c.2=c.1
 mono:a.Pairwise λc d=>LeV c.2 d.2
theorem PathM.tail  (h:PathM m (c::a)):PathM m a:=
 ⟨h.t.tail,λx hx=>h.sums x (Qf _ hx),(Ql.mp h.mono).2⟩
theorem sG (h:s<e) (KL:u<=v) (LZ:x<=y):xC ((u - s) / (e - s)) x y<=xC ((v - s) / (e - s)) x y:=by
 have l1:=yV (x:=x) (y:=y) (E:=u) h;have l2:=yV (x:=x) (y:=y) (E:=v) h;have hp:0<e - s:=by grind
 have h0:0<=(v - u)*(y - x):=Ta (by grind) (by grind);refine Rat.le_of_mul_le_mul_left (c:=e - s) ?_ hp
 grind
theorem XR  (KL:u<=v):∀{c:zg} {r:List zg},PathM m (c::r)->c.1<=u->LeV (zh (c::r) u) (zh (c::r) v)
 |c,[],_,_=>λi a b ha hb=>by
  have e1:c.2[i]? =some a:=ha;have e2:c.2[i]? =some b:=hb;rw [e1] at e2;cases e2;exact QQ
 |c,d::r,h,hc=>λi a b ha hb=>by
  have Ku:=(Ql.mp h.t.rise).1 d (Qe ..);have hm:=(Ql.mp h.mono).1 d (Qe ..)
  by_cases hd:d.1<=u
  ·rw [zZ hd] at ha;rw [zZ (TL hd KL)] at hb;exact XR KL h.tail hd i a b ha hb
  ·have Mv:u<d.1:=jaf.mp hd;rw [zh,QH Mv] at ha;obtain ⟨x,y,hx,hy,ea⟩:=ZI ha;have LZ:=hm i x y hx hy
   by_cases hv:v<d.1
   ·rw [zh,QH hv] at hb;obtain ⟨x',y',KH,Lv,eb⟩:=ZI hb;rw [hx] at KH;cases KH;rw [hy] at Lv;cases Lv;rw [ea,eb];exact sG Ku KL LZ
   ·have OZ:d.1<=v:=Tf.mp hv;rw [zZ OZ] at hb;have h2:=XR OZ h.tail QQ i y b (by rw [ZA h.t.tail];exact hy) hb;have h1:=sG (x:=x) (y:=y) Ku (QC Mv) LZ;rw [<-ea] at h1
    have e1:xC ((d.1 - c.1) / (d.1 - c.1)) x y=y:=by
     rw [TZ,QT _ (xK Ku),sH]
    rw [e1] at h1;exact TL h1 h2
theorem aK  :∀{c:zg} {r:List zg},PathM m (c::r)->c.1<=e->e<=(lastC (c::r)).1->zM (zh (c::r) e)=e
 |c,[],h,hc,hl=>by
  have e1:e=c.1:=jaC hl hc;rw [e1];exact h.sums c (Qe ..)
 |c,d::r,h,hc,hl=>by
  have Ku:=(Ql.mp h.t.rise).1 d (Qe ..)
  by_cases hd:d.1<=e
  ·rw [zZ hd];exact aK h.tail hd (by rw [<-ZC c];exact hl)
  ·have Mv:e<d.1:=jaf.mp hd;rw [zh,QH Mv];unfold Yx;rw [jL _ _ _ (by rw [h.t.len c (Qe ..),h.t.len d (Qf _ (Qe ..))]),h.sums c (Qe ..),h.sums d (Qf _ (Qe ..))];have l1:=yV (x:=c.1) (y:=d.1) (E:=e) Ku;have:=zY (a:=xC ((e - c.1) / (d.1 - c.1)) c.1 d.1 - e) (b:=d.1 - c.1) (by grind) (xK Ku)
   grind
theorem ff:∀{c:zg} {r:List zg},PathT m (c::r)->zh (c::r) (lastC (c::r)).1=(lastC (c::r)).2
 |c,[],h=>rfl
 |c,d::r,h=>by
  rw [ZC,zZ (BN h.tail)];exact ff h.tail
def yZ:List zg->Nat->Rat->Option Rat
 |c::d::r,k,L=>if L<d.2.getD k 0 then some (xC ((L - c.2.getD k 0) / (d.2.getD k 0 - c.2.getD k 0)) c.1 d.1) else yZ (d::r) k L
 |_,_,_=>none
theorem VY  (hk:k<m):∀{c:zg} {r:List zg},PathM m (c::r)->c.2.getD k 0<=L->yZ (c::r) k L=some e->
 ∃(i:Nat) (a b:zg) (x y:Rat),(c::r)[i]? =some a/\(c::r)[i+1]? =some b/\a.2[k]? =some x/\b.2[k]? =some y/\x<=L/\L<y/\e=xC ((L - x) / (y - x)) a.1 b.1/\a.1<=e/\e<b.1/\(e - a.1) / (b.1 - a.1)=(L - x) / (y - x)/\zh (c::r) e=List.zipWith (xC ((L - x) / (y - x))) a.2 b.2
 |c,[],_,_,h=>by simp [yZ] at h
 |c,d::r,h,hc,hr=>by
  have Ku:=(Ql.mp h.t.rise).1 d (Qe ..);have lc:k<c.2.length:=by rw [h.t.len c (Qe ..)];exact hk
  have ld:k<d.2.length:=by rw [h.t.len d (Qf _ (Qe ..))];exact hk
  have gc:c.2[k]? =some (c.2.getD k 0):=by rw [Qk,Qb lc];rfl
  have gd:d.2[k]? =some (d.2.getD k 0):=by rw [Qk,Qb ld];rfl
  rw [yZ] at hr
  by_cases hL:L<d.2.getD k 0
  ·rw [QH hL] at hr;cases hr;generalize c.2.getD k 0=x at*;generalize d.2.getD k 0=y at*;have LZ:x<y:=by grind
   have l1:=yV (x:=c.1) (y:=d.1) (E:=L) LZ;have hp:0<y - x:=by grind
   have hq:0<d.1 - c.1:=by grind
   have h1:0<=(L - x)*(d.1 - c.1):=Ta (by grind) (by grind);have h2:0<(y - L)*(d.1 - c.1):=jbx (by grind) hq;have ge1:c.1<=xC ((L - x) / (y - x)) c.1 d.1:=Rat.le_of_mul_le_mul_left (c:=y - x) (by grind) hp
   have OL:xC ((L - x) / (y - x)) c.1 d.1<d.1:=by
    refine jaf.mp λhle=>?_;have h3:0<=(xC ((L - x) / (y - x)) c.1 d.1 - d.1)*(y - x):=Ta (by grind) (by grind)
    grind
   have et:(xC ((L - x) / (y - x)) c.1 d.1 - c.1) / (d.1 - c.1)=(L - x) / (y - x):=by
    unfold xC;generalize (L - x) / (y - x)=t;have hi:=QT _ (xK Ku);rw [TZ];generalize (d.1 - c.1)⁻¹=j at*
    grind
   refine ⟨0,c,d,x,y,rfl,rfl,gc,gd,hc,hL,rfl,ge1,OL,et,?_⟩;rw [zh,QH OL];unfold Yx;rw [et]
  ·rw [QO hL] at hr;obtain ⟨i,a,b,x,y,h1,h2,h3,h4,h5,h6,h7,h8,h9,h10,h11⟩:=VY hk h.tail (Tf.mp hL) hr;refine ⟨i+1,a,b,x,y,by simpa using h1,by simpa using h2,h3,h4,h5,h6,h7,h8,h9,h10,?_⟩
   have RN:d.1<=a.1:=by
    cases i with
    |zero=>cases h1;exact QQ
    |succ i=>exact QC ((Ql.mp h.t.tail.rise).1 a (Qc (by simpa using h1)))
   rw [zZ (TL RN h8)];exact h11
theorem eI  (hk:k<m):∀{c:zg} {r:List zg},PathM m (c::r)->c.2.getD k 0<=L->yZ (c::r) k L=none->(lastC (c::r)).2.getD k 0<=L
 |c,[],_,hc,h=>hc
 |c,d::r,h,hc,hr=>by
  rw [yZ] at hr
  by_cases hL:L<d.2.getD k 0
  ·rw [QH hL] at hr;cases hr
  ·rw [QO hL] at hr;rw [ZC];exact eI hk h.tail (Tf.mp hL) hr
theorem ni  (hk:k<m):∀{c:zg} {r:List zg} {i:Nat} {a b:zg},PathM m (c::r)->(c::r)[i]? =some a->(c::r)[i+1]? =some b->a.2.getD k 0<=L->L<b.2.getD k 0->
 yZ (c::r) k L=some (xC ((L - a.2.getD k 0) / (b.2.getD k 0 - a.2.getD k 0)) a.1 b.1)
 |c,[],i,a,b,_,_,hb,_,_=>by simp at hb
 |c,d::r,0,a,b,_,ha,hb,_,hL=>by
  cases ha;cases hb;rw [yZ,QH hL]
 |c,d::r,i+1,a,b,h,ha,hb,hLa,hL=>by
  have Mg:(d::r)[i]? =some a:=by simpa using ha
  have RN:d.2.getD k 0<=a.2.getD k 0:=by
   cases i with
   |zero=>cases Mg;exact QQ
   |succ i=>
    have hm:=(Ql.mp h.tail.mono).1 a (Qc (by simpa using Mg));have ld:k<d.2.length:=by rw [h.t.len d (Qf _ (Qe ..))];exact hk
    have la:k<a.2.length:=by rw [h.t.len a (Qc ha)];exact hk
    exact hm k _ _ (by rw [Qk,Qb ld];rfl) (by rw [Qk,Qb la];rfl)
  rw [yZ,QO (Tf.mpr (TL RN hLa))];exact ni hk h.tail Mg (by simpa using hb) hLa hL
theorem iR  (hk:k<m):∀{c:zg} {r:List zg},PathM m (c::r)->(∀l,(c::r).getLast? =some l->l.2.getD k 0<=L)->yZ (c::r) k L=none
 |c,[],_,_=>rfl
 |c,d::r,h,hl=>by
  have hd:d.2.getD k 0<=L:=by
   obtain ⟨l,Lw⟩:∃l,(c::d::r).getLast? =some l:=⟨_,Tc (by simp)⟩;have hle:=hl l Lw;rw [TM] at Lw
   cases r with
   |nil=>cases Lw;exact hle
   |cons f r=>
    rw [TM] at Lw;have hm:=(Ql.mp h.tail.mono).1 l (jai Lw);have ld:k<d.2.length:=by rw [h.t.len d (Qf _ (Qe ..))];exact hk
    have la:k<l.2.length:=by rw [h.t.len l (Qf _ (Qf _ (jai Lw)))];exact hk
    exact TL (hm k _ _ (by rw [Qk,Qb ld];rfl) (by rw [Qk,Qb la];rfl)) hle
  rw [yZ,QO (Tf.mpr hd)];exact iR hk h.tail λl KJ=>hl l (by rw [TM];exact KJ)
theorem ye  :∀{c:zg} {r:List zg},PathT m (c::r)->a∈c::r->zh (c::r) a.1=a.2
 |c,[],_,ha=>by
  rcases Qm.mp ha with rfl|h
  ·rfl
  ·simp at h
 |c,d::r,h,ha=>by
  rcases Qm.mp ha with rfl|h'
  ·exact ZA h
  ·have:d.1<=a.1:=by
    rcases Qm.mp h' with rfl|h2
    ·exact QQ
    ·exact QC ((Ql.mp h.tail.rise).1 a h2)
   rw [zZ this];exact ye h.tail h'
theorem UI:∀{c:zg} {r:List zg},PathT m (c::r)->lastC (c::r)∈c::r/\∀x∈c::r,x.1<=(lastC (c::r)).1
 |c,[],_=>⟨Qe ..,λx hx=>by
  rcases Qm.mp hx with rfl|h
  ·exact QQ
  ·simp at h⟩
 |c,d::r,h=>by
  have ih:=UI h.tail;rw [ZC];refine ⟨Qf _ ih.1,λx hx=>?_⟩
  rcases Qm.mp hx with rfl|h'
  ·exact TL (QC ((Ql.mp h.rise).1 d (Qe ..))) (ih.2 d (Qe ..))
  ·exact ih.2 x h'
theorem df  (h:PathT m (c::r)):∀x∈c::r,c.1<=x.1:=λx hx=>by
 rcases Qm.mp hx with rfl|h'
 ·exact QQ
 ·exact QC ((Ql.mp h.rise).1 x h')
theorem kQ (h:yl a)  (hx:a[i]? =some x) (hy:a[i+1]? =some y) (hz:z∈a):¬(x.1<z.1/\z.1<y.1):=
 fq (M:=yb a) (XQ h) (j:=i) (by unfold yb;rw [Qh,hx];rfl) (by unfold yb;rw [Qh,hy];rfl) (by unfold yb;exact Qj.mpr ⟨z,hz,rfl⟩)
def vx (x y z:List Rat) (a b:Rat):Prop:=∀(i:Nat) (p q r:Rat),x[i]? =some p->y[i]? =some q->z[i]? =some r->(r - p)*b=(q - p)*a
theorem fD  :vx (p::x) (q::y) (r::z) a b↔(r - p)*b=(q - p)*a/\vx x y z a b:=by
 constructor
 ·intro h;exact ⟨h 0 p q r rfl rfl rfl,λi p' q' r' h1 h2 h3=>h (i+1) p' q' r' (by simpa using h1) (by simpa using h2) (by simpa using h3)⟩
 ·rintro ⟨h0,h⟩ i p' q' r' h1 h2 h3
  cases i with
  |zero=>cases h1;cases h2;cases h3;exact h0
  |succ i=>exact h i p' q' r' (by simpa using h1) (by simpa using h2) (by simpa using h3)
theorem sN  :∀{x y z:List Rat},x.length=y.length->x.length=z.length->(vx (x++x') (y++y') (z++z') a b↔vx x y z a b/\vx x' y' z' a b)
 |[],[],[],_,_=>by
  simp only [jaI];exact ⟨λh=>⟨λi p q r h1=>by simp at h1,h⟩,λh=>h.2⟩
 |p::x,q::y,r::z,h1,h2=>by
  rw [TF,TF,TF,fD,fD,sN (by simpa using h1) (by simpa using h2),and_assoc]
 |[],_::_,_,h,_=>by simp at h
 |_::_,[],_,h,_=>by simp at h
 |[],[],_::_,_,h=>by simp at h
 |_::_,_::_,[],_,h=>by simp at h
theorem sM:∀{x y z:List Rat},x.length=y.length->x.length=z.length->vx x y z a b->(zM z - zM x)*b=(zM y - zM x)*a
 |[],[],[],_,_,_=>by simp only [zM];grind
 |p::x,q::y,r::z,h1,h2,h=>by
  rw [fD] at h;have:=sM (by simpa using h1) (by simpa using h2) h.2;have h0:=h.1;simp only [zM]
  grind
 |[],_::_,_,h,_,_=>by simp at h
 |_::_,[],_,h,_,_=>by simp at h
 |[],[],_::_,_,h,_=>by simp at h
 |_::_,_::_,[],_,h,_=>by simp at h
theorem tQ  :LeV (p::x) (q::y)↔p<=q/\LeV x y:=by
 constructor
 ·intro h;exact ⟨h 0 p q rfl rfl,λi p' q' h1 h2=>h (i+1) p' q' (by simpa using h1) (by simpa using h2)⟩
 ·rintro ⟨h0,h⟩ i p' q' h1 h2
  cases i with
  |zero=>cases h1;cases h2;exact h0
  |succ i=>exact h i p' q' (by simpa using h1) (by simpa using h2)
theorem CQ:∀{x y:List Rat},x.length=y.length->LeV x y->LeV x' y'->LeV (x++x') (y++y')
 |[],[],_,_,h=>h
 |p::x,q::y,hl,h,h'=>by
  rw [tQ] at h;rw [TF,TF,tQ];exact ⟨h.1,CQ (by simpa using hl) h.2 h'⟩
 |[],_::_,h,_,_=>by simp at h
 |_::_,[],h,_,_=>by simp at h
def yQ (Qs:List (List zg)) (ps:List Rat):List Rat:=(List.zipWith zh Qs ps).flatten
theorem xv (Q:List zg) (Qs:List (List zg)) (p:Rat) (ps:List Rat):yQ (Q::Qs) (p::ps)=zh Q p++yQ Qs ps:=by
 unfold yQ;rw [jas,TY]
def Wid (Q:List zg):Prop:=∃(m:Nat) (c:zg) (r:List zg),Q=c::r/\∀x∈c::r,x.2.length=m
theorem Wid.len (h:Wid Q) (p q:Rat):(zh Q p).length=(zh Q q).length:=by
 obtain ⟨m,c,r,rfl,h⟩:=h;rw [Ye h,Ye h]
theorem kZ:∀{Qs:List (List zg)} {pu pv pE:List Rat},pu.length=Qs.length->pv.length=Qs.length->pE.length=Qs.length->(∀Q∈Qs,Wid Q)->
 (vx (yQ Qs pu) (yQ Qs pv) (yQ Qs pE) a b↔∀(k:Nat) (Q:List zg) (p q r:Rat),Qs[k]? =some Q->pu[k]? =some p->pv[k]? =some q->pE[k]? =some r->vx (zh Q p) (zh Q q) (zh Q r) a b)
 |[],[],[],[],_,_,_,_=>⟨λ_ k Q p q r h=>by simp at h,λ_ i p q r h=>by simp [yQ] at h⟩
 |Q::Qs,p::pu,q::pv,r::pE,h1,h2,h3,hw=>by
  have w:=hw Q (Qe ..);rw [xv,xv,xv,sN (w.len _ _) (w.len _ _),kZ (by simpa using h1) (by simpa using h2) (by simpa using h3) λQ hQ=>hw Q (Qf _ hQ)]
  constructor
  ·rintro ⟨h,h'⟩ k Q' p' q' r' a1 a2 a3 a4
   cases k with
   |zero=>cases a1;cases a2;cases a3;cases a4;exact h
   |succ k=>exact h' k Q' p' q' r' (by simpa using a1) (by simpa using a2) (by simpa using a3) (by simpa using a4)
  ·intro h;exact ⟨h 0 Q p q r rfl rfl rfl rfl,λk Q' p' q' r' a1 a2 a3 a4=>h (k+1) Q' p' q' r' (by simpa using a1) (by simpa using a2) (by simpa using a3) (by simpa using a4)⟩
 |[],_::_,_,_,h,_,_,_=>by simp at h
 |[],[],_::_,_,_,h,_,_=>by simp at h
 |[],[],[],_::_,_,_,h,_=>by simp at h
 |_::_,[],_,_,h,_,_,_=>by simp at h
 |_::_,_::_,[],_,_,h,_,_=>by simp at h
 |_::_,_::_,_::_,[],_,_,h,_=>by simp at h
theorem BK:∀{Qs:List (List zg)} {pu pv:List Rat},pu.length=Qs.length->pv.length=Qs.length->(∀Q∈Qs,Wid Q)->
 (∀(k:Nat) (Q:List zg) (p q:Rat),Qs[k]? =some Q->pu[k]? =some p->pv[k]? =some q->LeV (zh Q p) (zh Q q))->LeV (yQ Qs pu) (yQ Qs pv)
 |[],[],[],_,_,_,_=>λi p q h=>by simp [yQ] at h
 |Q::Qs,p::pu,q::pv,h1,h2,hw,h=>by
  rw [xv,xv];exact CQ ((hw Q (Qe ..)).len _ _) (h 0 Q p q rfl rfl rfl) (BK (by simpa using h1) (by simpa using h2) (λQ hQ=>hw Q (Qf _ hQ)) λk Q' p' q' a1 a2 a3=>h (k+1) Q' p' q' (by simpa using a1) (by simpa using a2) (by simpa using a3))
 |[],_::_,_,h,_,_,_=>by simp at h
 |[],[],_::_,_,h,_,_=>by simp at h
 |_::_,[],_,h,_,_,_=>by simp at h
 |_::_,_::_,[],_,h,_,_=>by simp at h
theorem rR:∀{Qs:List (List zg)} {ps:List Rat},ps.length=Qs.length->(∀(k:Nat) (Q:List zg) (p:Rat),Qs[k]? =some Q->ps[k]? =some p->zM (zh Q p)=p)->zM (yQ Qs ps)=zM ps
 |[],[],_,_=>rfl
 |Q::Qs,p::ps,h,g=>by
  rw [xv,VI,g 0 Q p rfl rfl,zM,rR (by simpa using h) λk Q' p' a1 a2=>g (k+1) Q' p' (by simpa using a1) (by simpa using a2)]
 |[],_::_,h,_=>by simp at h
 |_::_,[],h,_=>by simp at h
theorem sR:∀{Qs:List (List zg)} {pu pv:List Rat},pu.length=Qs.length->pv.length=Qs.length->(∀Q∈Qs,Wid Q)->(yQ Qs pu).length=(yQ Qs pv).length
 |[],[],[],_,_,_=>rfl
 |Q::Qs,p::pu,q::pv,h1,h2,hw=>by
  rw [xv,xv,Qz,Qz,(hw Q (Qe ..)).len p q,sR (by simpa using h1) (by simpa using h2) λQ hQ=>hw Q (Qf _ hQ)]
 |[],_::_,_,h,_,_=>by simp at h
 |[],[],_::_,_,h,_=>by simp at h
 |_::_,[],_,h,_,_=>by simp at h
 |_::_,_::_,[],_,h,_=>by simp at h
theorem sJ:∀{Qs:List (List zg)} {ps:List Rat},x∈yQ Qs ps->∃(k:Nat) (Q:List zg) (p:Rat),Qs[k]? =some Q/\ps[k]? =some p/\x∈zh Q p
 |[],ps,h=>by simp [yQ] at h
 |Q::Qs,[],h=>by simp [yQ] at h
 |Q::Qs,p::ps,h=>by
  rw [xv,QS] at h
  rcases h with h|h
  ·exact ⟨0,Q,p,rfl,rfl,h⟩
  ·obtain ⟨k,Q',p',a,b,c⟩:=sJ h;exact ⟨k+1,Q',p',by simpa using a,by simpa using b,c⟩
theorem bend  (h:PathM m (c::r))  (hy:y∈c::r) (ev:y.1=v) (KL:u<v) (MC:v<w) (hc:c.1<=u) (hw:w<=(lastC (c::r)).1)
 (n1:∀x∈c::r,¬(u<x.1/\x.1<v)) (n2:∀x∈c::r,¬(v<x.1/\x.1<w)) (hl:vx (zh (c::r) u) (zh (c::r) w) (zh (c::r) v) (v - u) (w - u)):False:=by
 obtain ⟨j,hj,ej⟩:=QR hy;have gy:(c::r)[j]? =some y:=by rw [Qb hj,ej]
 have hj1:j≠0:=λz=>by
  subst z;cases gy;rw [<-ev] at KL;exact Tf.mpr hc KL
 obtain ⟨i,rfl⟩:∃i,j=i+1:=⟨j - 1,by omega⟩;have hR:=h.t.rise;unfold yl at hR;rw [QJ] at hR
 have hj2:i+2<(c::r).length:=by
  refine Nat.lt_of_not_le λhle=>?_
  have e1:lastC (c::r)=y:=by
   unfold lastC;rw [jav,show (c::r).length - 1=i+1 by omega,gy];rfl
  rw [e1,ev] at hw;exact Tf.mpr hw MC
 have gx:(c::r)[i]? =some (c::r)[i]:=Qb (by omega);have gz:(c::r)[i+2]? =some (c::r)[i+2]:=Qb hj2;have xy:=hR i (i+1) (by omega) hj (by omega);have yz:=hR (i+1) (i+2) hj hj2 (by omega);rw [ej] at xy yz;generalize (c::r)[i]=x at*;generalize (c::r)[i+2]=z at*;have mx:=Qc gx;have mz:=Qc gz;rw [ev] at xy yz;have hxu:x.1<=u:=Tf.mp λKr=>n1 x mx ⟨Kr,xy⟩;have hwz:w<=z.1:=Tf.mp λKr=>n2 z mz ⟨yz,Kr⟩;have px:=ye h.t mx;have py:=ye h.t hy;have pz:=ye h.t mz;rw [ev] at py;have RQ:=df h.t x mx
 have no1:∀s∈r,¬(x.1<s.1/\s.1<v):=λs hs=>by
  have:=kQ h.t.rise gx gy (Qf c hs);rw [ev] at this;exact this
 have no2:∀s∈r,¬(v<s.1/\s.1<z.1):=λs hs=>by
  have:=kQ h.t.rise gy gz (Qf c hs);rw [ev] at this;exact this
 refine h.t.thin i x y z gx gy gz λk a b d ha hb hd=>?_;have lk:k<m:=by rw [<-h.t.len x mx];exact (Qd.mp ha).1
 have g:∀e,∃q,(zh (c::r) e)[k]? =some q:=λe=>⟨_,Qb (by rw [Ye h.t.len];exact lk)⟩;obtain ⟨pu,hpu⟩:=g u;obtain ⟨pw,hpw⟩:=g w;have l1:=Zz hxu (QC KL) xy h.t RQ no1 k a b pu (by rw [px];exact ha) (by rw [py];exact hb) hpu;have l2:=Zz (QC MC) hwz yz h.t (TL hc (QC KL)) no2 k b d pw (by rw [py];exact hb) (by rw [pz];exact hd) hpw;have l3:=hl k pu pw b hpu hpw (by rw [py];exact hb);rw [ev];have nuv:=xK KL;have nvw:=xK MC;have nuw:w - u≠0:=xK (yU KL MC);have e1:((b - a)*(v - u) - (b - pu)*(v - x.1))*1=0:=by grind
 have e2:(pw - b)*(v - u)=(b - pu)*(w - v):=by grind
 have e3:((d - b)*(w - v) - (pw - b)*(z.1 - v))=0:=by grind
 have e4:((d - b)*(v - u) - (b - pu)*(z.1 - v))*(w - v)=0:=by grind
 have e5:=zY e4 nvw;have e6:((b - a)*(z.1 - x.1) - (d - a)*(v - x.1))*(v - u)=0:=by grind
 have:=zY e6 nuv
 grind
def Yn (P:List zg) (k:Nat) (Q:List zg):List Rat:=(yb Q).filterMap (yZ P k)
def wpF (P:List zg):Nat->List (List zg)->List Rat->List Rat
 |_,[],M=>M
 |k,Q::Qs,M=>wpF P (k+1) Qs (yw M (Yn P k Q))
theorem rJ (P Q:List zg):∀(Qs:List (List zg)) (k:Nat) (M:List Rat),wpF P k (Qs++[Q]) M=yw (wpF P k Qs M) (Yn P (k+Qs.length) Q)
 |[],k,M=>by rw [jaI,wpF,wpF,wpF];rfl
 |Q'::Qs,k,M=>by rw [TF,wpF,wpF,rJ P Q Qs (k+1),QA];congr 2;omega
theorem aM  :∀{Qs:List (List zg)} {k:Nat} {M:List Rat},e∈wpF P k Qs M↔e∈M\/∃(j:Nat) (Q:List zg),Qs[j]? =some Q/\e∈Yn P (k+j) Q
 |[],k,M=>by
  rw [wpF];exact ⟨.inl,λh=>h.elim id λ⟨j,Q,h,_⟩=>by simp at h⟩
 |Q::Qs,k,M=>by
  rw [wpF,aM,Ys]
  constructor
  ·rintro ((h|h)|⟨j,Q',h1,h2⟩)
   ·exact .inl h
   ·exact .inr ⟨0,Q,rfl,h⟩
   ·exact .inr ⟨j+1,Q',by simpa using h1,by rw [show k+(j+1)=k+1+j by omega];exact h2⟩
  ·rintro (h|⟨j,Q',h1,h2⟩)
   ·exact .inl (.inl h)
   ·cases j with
    |zero=>cases h1;exact .inl (.inr h2)
    |succ j=>exact .inr ⟨j,Q',by simpa using h1,by rw [show k+1+j=k+(j+1) by omega];exact h2⟩
theorem sk:∀{Qs:List (List zg)} {k:Nat} {M:List Rat},Ue M->(∀(j:Nat) (Q:List zg),Qs[j]? =some Q->Ue (Yn P (k+j) Q))->Ue (wpF P k Qs M)
 |[],_,_,h,_=>by rw [wpF];exact h
 |Q::Qs,k,M,h,g=>by
  rw [wpF];exact sk (Va h (g 0 Q rfl)) λj Q' hj=>by rw [show k+1+j=k+(j+1) by omega];exact g (j+1) Q' (by simpa using hj)
structure Nest (P:List zg) (Qs:List (List zg)):Prop where
 pm:PathM Qs.length P
 p0:∃r,P=(0,List.replicate Qs.length 0)::r
 q:∀(k:Nat) (Q:List zg),Qs[k]? =some Q->∃(m:Nat) (r:List zg),Q=((0:Rat),List.replicate m 0)::r/\PathM m Q/\(lastC P).2[k]? =some (lastC Q).1
section
variable {P:List zg} {Qs:List (List zg)}
theorem Nest.wid (h:Nest P Qs):∀Q∈Qs,Wid Q:=λQ hQ=>by
 obtain ⟨k,hk⟩:=Qx.mp hQ;obtain ⟨m,r,rfl,pm,_⟩:=h.q k Q hk;exact ⟨m,_,r,rfl,pm.t.len⟩
theorem Nest.plen (h:Nest P Qs) (e:Rat):(zh P e).length=Qs.length:=by
 obtain ⟨r,rfl⟩:=h.p0;exact Ye h.pm.t.len
theorem Nest.get (h:Nest P Qs) (e:Rat) {k:Nat} {Q:List zg} (hk:Qs[k]? =some Q):∃p,(zh P e)[k]? =some p:=
 ⟨_,Qb (by rw [h.plen];exact (Qd.mp hk).1)⟩
theorem Nest.mono (h:Nest P Qs) (h0:0<=u) (KL:u<=v):LeV (zh P u) (zh P v):=by
 obtain ⟨r,rfl⟩:=h.p0;exact XR KL h.pm h0
theorem Nest.range (h:Nest P Qs) {e p:Rat} {k:Nat} {Q:List zg} (h0:0<=e) (hl:e<=(lastC P).1) (hk:Qs[k]? =some Q) (hp:(zh P e)[k]? =some p):0<=p/\p<=(lastC Q).1:=by
 obtain ⟨m,rq,eQ,pq,hq⟩:=h.q k Q hk;have m1:=h.mono QQ h0;have m2:=h.mono h0 hl;obtain ⟨r,eP⟩:=h.p0;subst eP;have e0:zh ((0,List.replicate Qs.length 0)::r) 0=List.replicate Qs.length 0:=ZA h.pm.t;rw [e0] at m1;rw [ff h.pm.t] at m2;refine ⟨m1 k 0 p ?_ hp,m2 k p _ hp hq⟩;rw [QZ,QH (Qd.mp hk).1]
theorem Nest.reach (h:Nest P Qs)  (hk:Qs[k]? =some Q) (hL:0<=L) (hr:yZ P k L=some e):
 (0<=e/\e<(lastC P).1)/\(zh P e)[k]? =some L/\∀e' q,e<e'->(zh P e')[k]? =some q->L<q:=by
 have MG:k<Qs.length:=(Qd.mp hk).1;obtain ⟨r,eP⟩:=h.p0;have pm:=h.pm;have mon:=λ(u v:Rat) (a:0<=u) (b:u<=v)=>h.mono a b;have plen:=h.plen;rw [eP] at hr pm mon plen⊢
 obtain ⟨i,a,b,x,y,g1,g2,g3,g4,hxL,hLy,ee,Ot,heb,et,ep⟩:=VY MG pm (by
  rw [Qk,QZ,QH MG];exact hL) hr
 have ma:=Qc g1;have mb:=Qc g2;have Pb:(0:Rat)<=a.1:=df pm.t a ma;have hbl:=(UI pm.t).2 b mb;have LZ:x<y:=by grind
 have eL:xC ((L - x) / (y - x)) x y=L:=by
  have l:=yV (x:=x) (y:=y) (E:=L) LZ;have:=zY (a:=xC ((L - x) / (y - x)) x y - L) (b:=y - x) (by grind) (xK LZ)
  grind
 have pe:(zh ((0,List.replicate Qs.length 0)::r) e)[k]? =some L:=by
  rw [ep,Qt,g3,g4];show some (xC _ x y)=_;rw [eL]
 refine ⟨⟨TL Pb Ot,by grind⟩,pe,λe' q Ol hq=>?_⟩;have Lj:a.1<b.1:=by grind
 have no:∀s∈r,¬(a.1<s.1/\s.1<b.1):=λs hs=>kQ pm.t.rise g1 g2 (Qf _ hs)
 have key:∀e2 q2,e<e2->e2<=b.1->(zh ((0,List.replicate Qs.length 0)::r) e2)[k]? =some q2->L<q2:=by
  intro e2 q2 h1 h2 h3;have l1:=Zz (QC (by grind:a.1<e2)) h2 Lj pm.t Pb no k x y q2 (by rw [ye pm.t ma];exact g3) (by rw [ye pm.t mb];exact g4) h3;have l2:=Zz Ot (QC heb) Lj pm.t Pb no k x y L (by rw [ye pm.t ma];exact g3) (by rw [ye pm.t mb];exact g4) pe;refine jaf.mp λhle=>?_;have p1:0<(y - x)*(e2 - e):=jbx (by grind) (by grind);have p2:0<=(L - q2)*(b.1 - a.1):=Ta (by grind) (by grind)
  grind
 by_cases hb:e'<=b.1
 ·exact key e' q Ol hb hq
 ·have h1:=key b.1 y heb QQ (by rw [ye pm.t mb];exact g4);have h2:=mon b.1 e' (by grind) (by grind) k y q (by rw [ye pm.t mb];exact g4) hq
  grind
theorem Nest.reach_none (h:Nest P Qs)  (hk:Qs[k]? =some Q) (hL:0<=L) (hr:yZ P k L=none):(lastC Q).1<=L:=by
 have MG:k<Qs.length:=(Qd.mp hk).1;obtain ⟨m,rq,eQ,pq,hq⟩:=h.q k Q hk;obtain ⟨r,eP⟩:=h.p0;have pm:=h.pm;rw [eP] at hr pm hq;have:=eI MG pm (by rw [Qk,QZ,QH MG];exact hL) hr;rw [Qk,hq] at this;exact this
theorem Nest.qpos (h:Nest P Qs) {k:Nat} {Q:List zg} (hk:Qs[k]? =some Q):∀c∈Q,0<=c.1/\c.1<=(lastC Q).1:=λc hc=>by
 obtain ⟨m,rq,eQ,pq,hq⟩:=h.q k Q hk;subst eQ;exact ⟨df pq.t c hc,(UI pq.t).2 c hc⟩
def wpV (P:List zg) (Qs:List (List zg)):List Rat:=wpF P 0 Qs (yb P)
def yu (P:List zg) (Qs:List (List zg)):List zg:=(wpV P Qs).map λe=>(e,yQ Qs (zh P e))
theorem Nest.rise (h:Nest P Qs):Ue (wpV P Qs):=by
 refine sk (XQ h.pm.t.rise) λk Q hk=>?_;rw [jbP];obtain ⟨m,rq,eQ,pq,hq⟩:=h.q k Q hk;have hr:=XQ pq.t.rise;unfold Ue Yn;rw [List.pairwise_filterMap];unfold Ue at hr;refine hr.imp_of_mem λ{L L'} hL hL' Kr e he e' Ol=>?_;obtain ⟨c,hc,rfl⟩:=Qj.mp hL;obtain ⟨c',Kx,rfl⟩:=Qj.mp hL';have r1:=h.reach hk (h.qpos hk c hc).1 he;have r2:=h.reach hk (h.qpos hk c' Kx).1 Ol;refine jaf.mp λhle=>?_;have:=h.mono r2.1.1 hle k _ _ r2.2.1 r1.2.1
 grind
theorem Nest.mem (h:Nest P Qs):e∈wpV P Qs↔(∃c∈P,c.1=e)\/∃(k:Nat) (Q:List zg),Qs[k]? =some Q/\∃c∈Q,yZ P k c.1=some e:=by
 unfold wpV;rw [aM]
 constructor
 ·rintro (h1|⟨j,Q,h1,h2⟩)
  ·obtain ⟨c,hc,rfl⟩:=Qj.mp h1;exact .inl ⟨c,hc,rfl⟩
  ·rw [jbP] at h2;unfold Yn at h2;obtain ⟨L,hL,hr⟩:=jbR.mp h2;obtain ⟨c,hc,rfl⟩:=Qj.mp hL;exact .inr ⟨j,Q,h1,c,hc,hr⟩
 ·rintro (⟨c,hc,rfl⟩|⟨k,Q,h1,c,hc,hr⟩)
  ·exact .inl (Qj.mpr ⟨c,hc,rfl⟩)
  ·refine .inr ⟨k,Q,h1,?_⟩;rw [jbP];exact jbR.mpr ⟨c.1,Qj.mpr ⟨c,hc,rfl⟩,hr⟩
theorem Nest.in_range (h:Nest P Qs) {e:Rat} (he:e∈wpV P Qs):0<=e/\e<=(lastC P).1:=by
 rcases h.mem.mp he with ⟨c,hc,rfl⟩|⟨k,Q,hk,c,hc,hr⟩
 ·have pm:=h.pm;obtain ⟨r,eP⟩:=h.p0;subst eP;exact ⟨df pm.t c hc,(UI pm.t).2 c hc⟩
 ·have:=(h.reach hk (h.qpos hk c hc).1 hr).1;exact ⟨this.1,QC this.2⟩
theorem Nest.no_level (h:Nest P Qs) {j k:Nat} {u v p q:Rat} {Q:List zg} (hu:(wpV P Qs)[j]? =some u) (hv:(wpV P Qs)[j+1]? =some v) (hk:Qs[k]? =some Q) (hp:(zh P u)[k]? =some p) (hq:(zh P v)[k]? =some q):
 ∀x∈Q,¬(p<x.1/\x.1<q):=by
 rintro x hx ⟨h1,h2⟩
 have ru:=h.in_range (Qc hu);have rv:=h.in_range (Qc hv);have Lc:=(h.qpos hk x hx).1
 cases hr:yZ P k x.1 with
 |none=>
  have:=h.reach_none hk Lc hr;have:=(h.range rv.1 rv.2 hk hq).2
  grind
 |some e=>
  have re:=h.reach hk Lc hr;have me:e∈wpV P Qs:=h.mem.mpr (.inr ⟨k,Q,hk,x,hx,hr⟩);refine fq h.rise hu hv me ⟨jaf.mp λhle=>?_,jaf.mp λhle=>?_⟩
  ·have:=h.mono re.1.1 hle k _ _ re.2.1 hp
   grind
  ·have:=h.mono rv.1 hle k _ _ hq re.2.1
   grind
theorem eH (hM:Ue M)  (hu:M[j]? =some u) (hv:M[j+1]? =some v):u<v:=by
 obtain ⟨lu,eu⟩:=Qd.mp hu;obtain ⟨lv,ev⟩:=Qd.mp hv;have:=QJ.mp hM j (j+1) lu lv (by omega);rw [eu,ev] at this;exact this
theorem Nest.pgap (h:Nest P Qs)  (hu:(wpV P Qs)[j]? =some u) (hv:(wpV P Qs)[j+1]? =some v):∀x∈P,¬(u<x.1/\x.1<v):=λx hx=>
 fq h.rise hu hv (h.mem.mpr (.inl ⟨x,hx,rfl⟩))
theorem Nest.line (h:Nest P Qs) {j:Nat} {u v E:Rat} (hu:(wpV P Qs)[j]? =some u) (hv:(wpV P Qs)[j+1]? =some v) (Nr:u<=E) (Ov:E<=v):
 vx (yQ Qs (zh P u)) (yQ Qs (zh P v)) (yQ Qs (zh P E)) (E - u) (v - u):=by
 have KL:=eH h.rise hu hv;have ru:=h.in_range (Qc hu);have rv:=h.in_range (Qc hv);rw [kZ (h.plen u) (h.plen v) (h.plen E) h.wid];intro k Q p q r hk hp hq hr
 have lP:(r - p)*(v - u)=(q - p)*(E - u):=by
  have gap:=h.pgap hu hv;obtain ⟨rP,eP⟩:=h.p0;have pm:=h.pm;rw [eP] at hp hq hr pm gap;exact Zz Nr Ov KL pm.t ru.1 (λx hx=>gap x (Qf _ hx)) k p q r hp hq hr
 have hpr:=h.mono ru.1 Nr k p r hp hr;have hrq:=h.mono (TL ru.1 Nr) Ov k r q hr hq;have lev:=h.no_level hu hv hk hp hq;have rp:=h.range ru.1 ru.2 hk hp;obtain ⟨m,rq,eQ,pq,_⟩:=h.q k Q hk;subst eQ;intro i x y z hx hy hz
 by_cases Ri:p=q
 ·have:r=p:=by grind
  subst this;subst Ri;rw [hx] at hy hz;cases hy;cases hz
  grind
 ·have Kr:p<q:=by grind
  have lQ:=Zz hpr hrq Kr pq.t rp.1 (λs hs=>lev s (Qf _ hs)) i x y z hx hy hz;have k0:((z - x)*(v - u) - (y - x)*(E - u))*(q - p)=0:=by grind
  have:=zY k0 (xK Kr)
  grind
theorem Nest.qsum (h:Nest P Qs) {e:Rat} (h0:0<=e) (hl:e<=(lastC P).1) {k:Nat} {Q:List zg} {p:Rat} (hk:Qs[k]? =some Q) (hp:(zh P e)[k]? =some p):zM (zh Q p)=p:=by
 have rp:=h.range h0 hl hk hp;obtain ⟨m,rq,eQ,pq,_⟩:=h.q k Q hk;subst eQ;exact aK pq rp.1 rp.2
theorem Nest.sum (h:Nest P Qs) {e:Rat} (h0:0<=e) (hl:e<=(lastC P).1):zM (yQ Qs (zh P e))=e:=by
 rw [rR (h.plen e) λk Q p hk hp=>h.qsum h0 hl hk hp];have pm:=h.pm;obtain ⟨r,eP⟩:=h.p0;rw [eP] at pm hl⊢;exact aK pm h0 hl
theorem Nest.rises (h:Nest P Qs) {u v:Rat} (h0:0<=u) (KL:u<=v) (hl:v<=(lastC P).1):LeV (yQ Qs (zh P u)) (yQ Qs (zh P v)):=by
 refine BK (h.plen u) (h.plen v) h.wid λk Q p q hk hp hq=>?_;have Ri:=h.mono h0 KL k p q hp hq;have rp:=h.range h0 (TL KL hl) hk hp;obtain ⟨m,rq,eQ,pq,_⟩:=h.q k Q hk;subst eQ;exact XR Ri pq rp.1
theorem Nest.thin (h:Nest P Qs) {j:Nat} {u v w:Rat} (hu:(wpV P Qs)[j]? =some u) (hv:(wpV P Qs)[j+1]? =some v) (hw:(wpV P Qs)[j+2]? =some w)
 (hl:vx (yQ Qs (zh P u)) (yQ Qs (zh P w)) (yQ Qs (zh P v)) (v - u) (w - u)):False:=by
 have KL:=eH h.rise hu hv;have MC:=eH h.rise hv hw;have ru:=h.in_range (Qc hu);have rv:=h.in_range (Qc hv);have LP:=h.in_range (Qc hw);rw [kZ (h.plen u) (h.plen w) (h.plen v) h.wid] at hl
 have each:∀(k:Nat) (Q:List zg) (p q r:Rat),Qs[k]? =some Q->(zh P u)[k]? =some p->(zh P w)[k]? =some q->(zh P v)[k]? =some r->(r - p)*(w - u)=(q - p)*(v - u):=by
  intro k Q p q r hk hp hq hr;have wd:=h.wid Q (Qc hk);have:=sM (wd.len _ _) (wd.len _ _) (hl k Q p q r hk hp hq hr);rw [h.qsum ru.1 ru.2 hk hp,h.qsum LP.1 LP.2 hk hq,h.qsum rv.1 rv.2 hk hr] at this;exact this
 rcases h.mem.mp (Qc hv) with ⟨y,hy,ey⟩|⟨k,Q,hk,y,hy,hr⟩
 ·have g1:=h.pgap hu hv;have g2:=h.pgap hv hw;have pl:=λe=>h.plen e
  have lin:vx (zh P u) (zh P w) (zh P v) (v - u) (w - u):=λk p q r hp hq hr=>by
   have lk:k<Qs.length:=by rw [<-h.plen u];exact (Qd.mp hp).1
   exact each k _ p q r (Qb lk) hp hq hr
  obtain ⟨r,eP⟩:=h.p0;have pm:=h.pm;rw [eP] at g1 g2 lin pm hy LP;exact bend pm hy ey KL MC ru.1 LP.2 g1 g2 lin
 ·have re:=h.reach hk (h.qpos hk y hy).1 hr;obtain ⟨p,hp⟩:=h.get u hk;obtain ⟨q,hq⟩:=h.get w hk;have e1:=each k Q p q y.1 hk hp hq re.2.1;have Mw:=re.2.2 w q MC hq;have hp1:=h.mono ru.1 (QC KL) k p y.1 hp re.2.1
  have Rj:p<y.1:=by
   refine jaf.mp λhle=>?_;have e:p=y.1:=jaC hp1 hle;have p1:0<(q - p)*(v - u):=jbx (by grind) (by grind)
   grind
  have lv1:=h.no_level hu hv hk hp re.2.1;have lv2:=h.no_level hv hw hk re.2.1 hq;have lin:=hl k Q p q y.1 hk hp hq re.2.1;have rp:=h.range ru.1 ru.2 hk hp;have rq:=h.range LP.1 LP.2 hk hq;obtain ⟨m,r,eQ,pq,_⟩:=h.q k Q hk;subst eQ;refine bend pq hy rfl Rj Mw rp.1 rq.2 lv1 lv2 λi a b c ha hb hc=>?_;have l0:=lin i a b c ha hb hc;have k0:((c - a)*(q - p) - (b - a)*(y.1 - p))*(w - u)=0:=by grind
  have:=zY k0 (xK (yU KL MC))
  grind
end
end S
namespace S
open PySem PySem.Spec PyProof.Rows PyProof L2
section
variable {X:Cx}
theorem gg:∀{bs:List Bool} {us:List Value},xx (bs.map V.bl) us->LSm.BoolsAre us bs
 |[],us,r=>by rw [jaq] at r;cases r;exact .nil
 |b::bs,us,r=>by
  rw [Qo] at r
  cases r with
  |cons r1 r2=>
   cases r1;exact .cons b (gg r2)
def rAll (K:Frg):List V->Hp->VK->Prop:=λxs H Q=>∃(p:Addr) (bs:List Bool),xs=[.ref p]/\SqL K H p (bs.map V.bl)/\Q (.bl (bs.all id)) H
theorem call_allA (hc:X.calm=true):XY X (.builtin "all") (rAll X.K):=by
 intro pins s σ H xs us Q I r h;obtain ⟨p,bs,rfl,hq,q⟩:=h;obtain ⟨u,rfl,rx⟩:=cy r;cases rx;obtain ⟨its,rv,pl,hz⟩:=I.list hq;have hB:=gg rv;have hL:=pl.isList;have below:p≠s.heap.objs.size:=let ⟨_,e,_⟩:=hL;QM (Qu e)
 have at0:(s.heap.push {cls:= .type "list_iterator",data:= .fields #[.ref p, .int 0 0]}).IsListIter s.heap.objs.size p 0:=⟨_,Qw _ rfl,rfl,rfl⟩;refine call_all_walk (jam hL ⟨s.heap.objs.size,[s.heap.objs.size,p],[s.heap.objs.size],its.toArray.size,_,_,λi=>bs[i]?.getD true,rfl,Walks.list (A:=X.A.in1) (I.ok.hd hc) _ p below.symm.symm its.toArray,⟨at0,hL.push _⟩,?_,?_⟩)
 ·intro j x s2 Q2 E2 hx hQ2;obtain ⟨b,hb,ex⟩:=hB.get j x (by simpa using hx);rw [ex];have hQ3:Q2 (bs[j]?.getD true) s2:=hQ2;rw [hb] at hQ3;exact jbB hQ3
 ·intro h2 tk keep
  have sum:(List.range its.toArray.size).all (λi=>bs[i]?.getD true)=bs.all id:=by
   rw [show its.toArray.size=bs.length from hB.length];exact LSm.range_all bs
  rw [sum];exact ⟨.bl (bs.all id),H,I.kept (t':=tk) (LSm.kept_iter keep),rfl,q⟩
theorem fC (l:Addr) (items:Array Value) (n:Nat) (b:Addr) (o2:Obj) (items2:Array Value) (n2:Nat) (Nz:o2.cls= .type "tuple") (hd2:o2.data= .seq items2 n2) (hs0:¬(!items.isEmpty && Builtin.List.listTooLong (items.size+items2.size))=true) (NX:items.size<=sizeLine) (LS:items.size+items2.size<=sizeLine+1):
 Meets (Builtin.«list.extend» ⟨[.ref l, .ref b],[]⟩) (λ_ R s=>s.heap.get? l=some {cls:= .type "list",dict:=none,data:= .seq items n,slots:=#[]}/\s.heap.get? b=some o2/\R (.ok (.ret Value.none)) {s with heap:=s.heap.update l (Obj.mapSeq λx=>x++items2),toks:=s.toks}):=
 .of_wp λprog w A R s h=>by
  obtain ⟨cls,dict,data,slots⟩:=o2;dsimp only at Nz hd2;subst Nz;subst hd2;have g1:=AutoSeq1.idx_int;have g2:=AutoSeq1.sub_tuple_tuple;have g3:=AutoSeq1.sub_list_list;have g4:=AutoSeq1.sub_tuple_list;have g5:=AutoSeq1.sub_list_tuple;obtain ⟨hp,g,d,tk,os⟩:=s;obtain ⟨hA,hT,hR⟩:=h;have fits:(items++items2).size<=sizeLine+1:=by simpa using LS
  wp_walk using (wpAny_updateSeq hA rfl (hz:=NX) (_hz':=fits)),AutoSeq1.wpAny_loadPart' hA,AutoSeq1.wpAny_loadPart' hT
  exact ⟨_,rfl,hR⟩
def sv (K:Frg):V->List V->Hp->VK->Prop:=λx vs H Q=>∃l b xs zs,x= .ref l/\vs=[.ref b]/\H l=some (.lst xs)/\H b=some (.tup zs)/\xs.length+zs.length<=sizeLine/\Q .non (upd H l (.lst (xs++zs)))
theorem Jk:MtM X "list.extend" (sv X.K):=by
 intro pins s σ H x vs v us Q I rx rv h;obtain ⟨l,b,xs,zs,rfl,rfl,hH,hB,hz,q⟩:=h;cases rx;obtain ⟨u,eu,ru⟩:=rv.one;subst eu;cases ru;obtain ⟨z,its,n,r,hl,e⟩:=I.lstM hH;obtain ⟨KC,r2,ht,hz2⟩:=I.tuple (SqT.of hB);have Le:=r2.length;obtain ⟨o2,e2,Nz,n2,hd2⟩:=ht
 have room:its.toArray.size+KC.toArray.size<=sizeLine:=by
  rw [QG,QG,<-hl,<-Le];exact hz
 have ok:¬(!its.toArray.isEmpty && Builtin.List.listTooLong (its.toArray.size+KC.toArray.size))=true:=by
  rw [kP room,Bool.and_false];decide
 refine call_meets F.slot_list_extend ⟨_,e,rfl⟩ F.entry_list_extend (F.args_list_extend_2 _ _) (fC l its.toArray n b o2 KC.toArray n2 Nz hd2 ok (by rw [QG,<-hl];exact z) (by omega)) ⟨e,e2, .non,_,I.lset (its':=its++KC) hH e (by simp) (r.append r2) ?_,rfl,q⟩
 simpa using hz
theorem tE    (ne:t≠it):∀(n i:Nat) (s:Shared) (Q:List Value->Shared->Prop),s.heap.IsListIter it t i->s.heap.IsList t items->i+n<=items.size->
 (∀h2,h2.IsListIter it t (i+n)->Heap.SameBut it s.heap h2->Q ((items.toList.drop i).take n) {s with heap:=h2})->wpAny (model prog w) A (draw (.ref it) n) Q E s
 |0,i,s,Q,hit,_,_,k=>by
  show wpAny _ _ (pure []) Q E s;exact Qp (by simpa using k s.heap hit (Heap.SameBut.refl ..))
 |n+1,i,s,Q,hit,hl,le,k=>by
  have lt:i<items.size:=by omega
  show wpAny _ _ (pyNext (.ref it)>>=_) Q E s;refine Qg (wpAny_pyNext_list_item hit hl (x:=items[i]) (by simp [lt]) λh3 Nd s3=>Qg (jax (tE ne n (i+1) _ _ Nd (hl.extBut s3.extBut ne) (by omega) λh4 RB s4=>Qp ?_)));have res:=k h4 (by rw [show i+(n+1)=i+1+n by omega];exact RB) (s3.trans s4);rw [jag (by simpa using lt),List.take_succ_cons,Array.getElem_toList] at res;exact res
theorem uj     (quiet:A.handled=none) (hl:s.heap.IsList t items)
 (hn:targets.length=items.size) (NO:targets.findIdx? (·.1)=none) (k:∀h2,Heap.ExtBut s.heap.objs.size s.heap h2->wpAny (model prog w) A (assignInOrder (targets.map (·.2)) items.toList) Q E {s with heap:=h2}):
 wpAny (model prog w) A (unpack (.ref t) targets) Q E s:=by
 have ne:t≠s.heap.objs.size:=let ⟨_,e,_⟩:=hl;QM (Qu e)
 unfold unpack;rw [hn,NO];refine Qg (jax ?_);unfold unpackItems notIterableAtAll;refine Qg (Qg (wpAny_specialOf hl.typeIs slot_list_iter.lookup (Qp ?_)));rw [QO (by decide)];refine Qg (jax (jam hl (Qg (jax (tE ne items.size 0 _ _ ⟨_,Qw _ rfl,rfl,rfl⟩ (hl.push _) (by omega) λh3 Nd s3=>?_)))));rw [List.drop_zero,Ti (by simp),QO (by simp)];refine Qg (jax (wpAny_pyNext_list_end quiet Nd ((hl.push _).extBut s3.extBut ne) (by simp) λh4 s4=>?_));rw [Option.isSome_none,QO (by decide)];exact Qp (k h4 λb o hb e=>s4 b o hb (s3.extBut b o hb (Qi _ e)))
def gLst (K:Frg) (n:Nat) (t:TGs):TG:=λv σ H N=>∃a xs,v= .ref a/\SqL K H a xs/\xs.length=n/\t xs σ H N
theorem pg_lst   (hc:X.calm=true) (h:PGs X es t) (hn:(assignEach es X.env).length=n:=by rfl) (KD:(assignEach es X.env).findIdx? (·.1)=none:=by rfl):PG X (.Tuple es k pos) (gLst X.K n t):=by
 intro pins s σ H v u Q I r hw;obtain ⟨a,xs,ev,hq,hl,Ra⟩:=hw;subst ev;cases r;obtain ⟨its,rv,pl,hz⟩:=I.list hq;have hlen:=rv.length;rw [assign_Tuple];refine Qg (wpAny_standAt (uj (I.ok.hd hc) pl.isList (by rw [hn,<-hl,hlen,QG]) KD λh2 ext=>?_));exact h pins _ σ H xs _ Q (I.kept (t':=s.toks) λb o e=>ext b o (QM (Qu e)) e) (by simpa using rv) Ra
end
theorem bt_all:bootBuiltins "all"=some (.builtin "all"):=by decide+kernel
structure Bl2 (mg:Str->Option Value):Prop where
 sorted:mg "sorted"=none
 all:mg "all"=none
section
variable {B G0 H:Hp} {cs:yD} {ds:Dat} {Q:VK} {v w:V} {xs zs:List PyData} {K:Frg} {L M:Addr}
theorem fM:∀{ns:List Bool} {vs:List V},zL G (ns.map PyData.bool) vs->vs=ns.map V.bl
 |[],vs,h=>by rw [jaq,zL] at h;exact h
 |n::ns,vs,h=>by
  rw [Qo,zL] at h;obtain ⟨v,r,rfl,h1,h2⟩:=h;rw [Is] at h1;subst h1;rw [fM h2,Qo]
theorem HJ {bs:List Bool} (S:Sta B G0 H cs ds) (h:(L,bs.map PyData.bool)∈cs) (k:Q (.bl (bs.all id)) H):rAll K [.ref L] H Q:=by
 obtain ⟨vs,hp,u⟩:=S.vwC h;obtain ⟨G,S'⟩:=id S;rw [fM (u G S')] at hp;exact ⟨L,bs,rfl,SqL.of hp,k⟩
theorem uH (S:Sta B G0 H ((L,xs)::cs) ds) (hy:Has ds (.tuple ys) w) (hz:xs.length+ys.length<=1000) (k:∀H',Sta B G0 H' ((L,xs++ys)::cs) ds->Q .non H'):sv K (.ref L) [w] H Q:=by
 obtain ⟨p,us,e,hp,hl,S2,al⟩:=S.tupAll hy;obtain ⟨vs,hL,Le,put⟩:=S2.put;subst e;refine ⟨L,p,vs,us,rfl,rfl,hL,hp,?_,k _ ((put (xs++ys) (vs++us) λG a b=>b.app (al G a)).weak (jbl _) λq hq=> .mem (QE _ hq))⟩;rw [<-hl,<-Le];exact QU hz (jcc rfl)
def kGL (K:Frg) (n:Nat) (t:TGs) (σ:L2.St) (N:L2.St->Hp->Prop):VK:=λv H=>∃a xs,v= .ref a/\SqL K H a xs/\xs.length=n/\t xs σ H N
theorem HH   (h:kGL K n t σ N v H):gLst K n t v σ H N:=h
theorem HE   (S:Sta B G0 H cs ds) (h:(L,[x,y,z])∈cs) (k:∀w1 w2 w3,Sta B G0 H cs ((x,w1)::(y,w2)::(z,w3)::ds)->t [w1,w2,w3] σ H N):kGL K 3 t σ N (.ref L) H:=by
 obtain ⟨vs,hL,hl,S2,_⟩:=S.cellAll h
 rcases vs with _|⟨w1,_|⟨w2,_|⟨w3,_|⟨w4,vs⟩⟩⟩⟩<;>try cases hl
 exact ⟨L,[w1,w2,w3],rfl,SqL.of hL,rfl,k w1 w2 w3 S2⟩
end
end S
namespace S
open PySem PySem.Spec PyProof.Rows L2
theorem lG:∀{M:List Rat} {z:Rat},M[0]? =some z->z<=E->∃(i:Nat) (q:Rat),M[i]? =some q/\q<=E/\(i+1=M.length\/∃r,M[i+1]? =some r/\E<r)
 |[],z,h,_=>by simp at h
 |[a],z,h,hz=>by
  cases h;exact ⟨0,a,rfl,hz, .inl rfl⟩
 |a::b::M,z,h,hz=>by
  cases h
  by_cases hb:b<=E
  ·obtain ⟨i,q,h1,h2,h3⟩:=lG (M:=b::M) (z:=b) rfl hb;refine ⟨i+1,q,by simpa using h1,h2,?_⟩
   rcases h3 with h3|⟨r,h3,h4⟩
   ·left;simp only [QA] at h3⊢;omega
   ·right;exact ⟨r,by simpa using h3,h4⟩
  ·exact ⟨0,a,rfl,hz, .inr ⟨b,rfl,jaf.mp hb⟩⟩
theorem uA (h:Ue M) (hz:z∈M) (hle:∀e∈M,z<=e):M[0]? =some z:=by
 cases M with
 |nil=>simp at hz
 |cons a M=>
  have h1:=hle a (Qe ..)
  rcases Qm.mp hz with e|e
  ·rw [e];rfl
  ·have:=(Ql.mp h).1 z e
   grind
theorem ng (h:Ue M) (hz:z∈M) (hle:∀e∈M,e<=z)  (hq:M[i]? =some q) (hi:i+1=M.length):q=z:=by
 obtain ⟨j,hj,ej⟩:=QR hz;obtain ⟨li,ei⟩:=Qd.mp hq;have h1:=hle q (Qc hq)
 by_cases c:j=i
 ·subst c;rw [<-ei,<-ej]
 ·have:=QJ.mp h j i hj li (by omega);rw [ej,ei] at this
  grind
theorem Ud  (Kr:c.1<d.1) (l1:c.2.length=d.2.length) (l2:c.2.length=w.length) (h:vx c.2 d.2 w (E - c.1) (d.1 - c.1)):Yx c d E=w:=by
 apply Tj
 intro i
 by_cases hi:i<c.2.length
 ·have e1:=Qb hi;have e2:=Qb (l:=d.2) (i:=i) (by omega);have e3:=Qb (l:=w) (i:=i) (by omega);have:=h i _ _ _ e1 e2 e3;unfold Yx;rw [Qt,e1,e2,e3];show some (xC _ _ _)=_;have l:=yV (x:=c.2[i]) (y:=d.2[i]) (E:=E) Kr;have k:=zY (a:=xC ((E - c.1) / (d.1 - c.1)) c.2[i] d.2[i] - w[i]) (b:=d.1 - c.1) (by grind) (xK Kr);have:xC ((E - c.1) / (d.1 - c.1)) c.2[i] d.2[i]=w[i]:=by grind
  rw [this]
 ·unfold Yx;rw [QF (by rw [Qy];omega),QF (by omega)]
def BZ:List zg->Nat
 |[]=>0
 |c::_=>c.2.length
def nQ:List (List zg)->Nat
 |[]=>0
 |Q::Qs=>BZ Q+nQ Qs
theorem fU:∀{Qs:List (List zg)},(∀Q∈Qs,∃(m:Nat) (r:List zg),Q=((0:Rat),List.replicate m 0)::r/\PathM m Q)->yQ Qs (List.replicate Qs.length 0)=List.replicate (nQ Qs) 0
 |[],_=>rfl
 |Q::Qs,h=>by
  obtain ⟨m,r,e,pm⟩:=h Q (Qe ..);rw [QA,Tu,xv,fU λQ' hQ=>h Q' (Qf _ hQ),nQ,<-List.replicate_append_replicate]
  congr 1
  subst e;have:=ZA pm.t;dsimp only at this;rw [this,BZ,QD]
structure PathR0 (n:Nat) (a:List zg):Prop where
 ne:a≠[]
 sz:∀c∈a,SzC n c
 len:∀c∈a,c.2.length<=1000
 few:a.length<=900
 rise:yl a
structure IsP (n N:Nat) (F:List zg):Prop where
 pr:PathR0 n F
 len:∀c∈F,c.2.length=N
 head:F[0]? =some (0,List.replicate N 0)
 le:∀(i:Nat) (c d:zg),F[i]? =some c->F[i+1]? =some d->LeV c.2 d.2
 sums:∀c∈F,zM c.2=c.1
 str:∀(i:Nat) (x y z:zg),F[i]? =some x->F[i+1]? =some y->F[i+2]? =some z->¬zQ x y z
section
variable {P:List zg} {Qs:List (List zg)}
theorem Nest.zeroM (h:Nest P Qs):(wpV P Qs)[0]? =some 0:=by
 refine uA h.rise (h.mem.mpr (.inl ?_)) λe he=>(h.in_range he).1;obtain ⟨r,eP⟩:=h.p0;rw [eP];exact ⟨_,Qe ..,rfl⟩
theorem Nest.last_mem (h:Nest P Qs):(lastC P).1∈wpV P Qs:=by
 refine h.mem.mpr (.inl ⟨lastC P,?_,rfl⟩);have pm:=h.pm;obtain ⟨r,eP⟩:=h.p0;rw [eP] at pm⊢;exact (UI pm.t).1
theorem Nest.flen (h:Nest P Qs) (e:Rat):(yQ Qs (zh P e)).length=nQ Qs:=by
 rw [sR (h.plen e) (pv:=List.replicate Qs.length 0) QD h.wid,fU λQ hQ=>?_,QD];obtain ⟨k,hk⟩:=Qx.mp hQ;obtain ⟨m,r,e,pm,_⟩:=h.q k Q hk;exact ⟨m,r,e,pm⟩
theorem Nest.flat0 (h:Nest P Qs):yQ Qs (zh P 0)=List.replicate (nQ Qs) 0:=by
 have e0:zh P 0=List.replicate Qs.length 0:=by
  have pm:=h.pm;obtain ⟨r,eP⟩:=h.p0;rw [eP] at pm⊢;exact ZA pm.t
 rw [e0,fU λQ hQ=>?_];obtain ⟨k,hk⟩:=Qx.mp hQ;obtain ⟨m,r,e,pm,_⟩:=h.q k Q hk;exact ⟨m,r,e,pm⟩
theorem Nest.F_at {i:Nat} {c:zg} (hc:(yu P Qs)[i]? =some c):(wpV P Qs)[i]? =some c.1/\c.2=yQ Qs (zh P c.1):=by
 unfold yu at hc;obtain ⟨e,he,rfl⟩:=zJ hc;exact ⟨he,rfl⟩
theorem Nest.F_of {i:Nat} {e:Rat} (he:(wpV P Qs)[i]? =some e):(yu P Qs)[i]? =some (e,yQ Qs (zh P e)):=by
 unfold yu;rw [Qh,he];rfl
theorem Nest.riseF (h:Nest P Qs):yl (yu P Qs):=by
 unfold yl yu;rw [Tn];exact h.rise
theorem Nest.at (h:Nest P Qs) {E:Rat} (h0:0<=E) (hl:E<=(lastC P).1):zh (yu P Qs) E=yQ Qs (zh P E):=by
 obtain ⟨i,q,hq,hqE,nx⟩:=lG h.zeroM h0;have hlen:(yu P Qs).length=(wpV P Qs).length:=by unfold yu;rw [Qa]
 have key:=Zg (E:=E) h.riseF (Nest.F_of hq) hqE (by
  rcases nx with nx|⟨r,hr,hE⟩
  ·left;rw [hlen];exact nx
  ·right;exact ⟨_,Nest.F_of hr,hE⟩)
 rw [key]
 rcases nx with nx|⟨r,hr,hE⟩
 ·rw [QF (by rw [hlen];omega)];have e1:=ng h.rise h.last_mem (λe he=>(h.in_range he).2) hq nx;have:q=E:=by grind
  rw [this]
 ·rw [Nest.F_of hr];exact Ud (eH h.rise hq hr) (by rw [h.flen,h.flen]) (by rw [h.flen,h.flen]) (h.line hq hr hqE (QC hE))
theorem Nest.getLast (h:Nest P Qs):(yu P Qs).getLast? =some ((lastC P).1,yQ Qs (zh P (lastC P).1)):=by
 have ne:0<(wpV P Qs).length:=jaY h.last_mem;have hlen:(yu P Qs).length=(wpV P Qs).length:=by unfold yu;rw [Qa]
 rw [jav,hlen];have hq:=Qb (l:=wpV P Qs) (i:=(wpV P Qs).length - 1) (by omega);rw [Nest.F_of hq,ng h.rise h.last_mem (λe he=>(h.in_range he).2) hq (by omega)]
theorem SzQ.mix  (ht:SzQ m t) (hx:SzQ n x) (hy:SzQ n y):SzQ (m+3*n+2) (xC t x y):=by
 unfold xC;exact (hx.add (ht.mul (hy.sub hx))).mono (by omega)
theorem SzQ.port  (hL:SzQ m L) (hx:SzQ n x) (hy:SzQ n y):SzQ (m+3*n+2) ((L - x) / (y - x)):=((hL.sub hx).div (hy.sub hx)).mono (by omega)
theorem nG  (he:SzQ m e):∀{a:List zg},(∀c∈a,SzC n c)->∀x∈zh a e,SzQ (m+6*n+4) x
 |[],_,x,hx=>by simp [zh] at hx
 |[c],h,x,hx=>((h c (Qe ..)).2 x hx).mono (by omega)
 |c::d::r,h,x,hx=>by
  rw [zh] at hx
  split at hx
  ·obtain ⟨i,hi⟩:=Qx.mp hx;obtain ⟨p,q,hp,hq,rfl⟩:=ZI hi;have hc:=h c (Qe ..);have hd:=h d (Qf _ (Qe ..));exact (SzQ.mix (SzQ.port he hc.1 hd.1) (hc.2 p (Qc hp)) (hd.2 q (Qc hq))).mono (by omega)
  ·exact nG he (λc hc=>h c (Qf _ hc)) x hx
end
theorem nM (h:¬zQ x y z) (hxz:x.1<z.1) (hl:x.2.length=z.2.length) (hm:x.2.length=y.2.length):Yx x z y.1≠y.2:=λe=>by
 refine h λi a b c ha hb hc=>?_;rw [<-e] at hb;obtain ⟨p,q,hp,hq,eb⟩:=ZI hb;rw [ha] at hp;cases hp;rw [hc] at hq;cases hq;have l:=yV (x:=a) (y:=c) (E:=y.1) hxz;rw [<-eb] at l
 grind
theorem jM  (Li:b.1<c.1) (lb:b.2.length=m) (lc:c.2.length=m) (h1:zQ b p c) (h2:zQ a b c):zQ a b p:=λi A B P hA hB hP=>by
 have hi:i<m:=by rw [<-lb];exact (Qd.mp hB).1
 have hC:=Qb (l:=c.2) (i:=i) (by omega);have e1:=h1 i B P _ hB hP hC;have e2:=h2 i A B _ hA hB hC;generalize c.2[i]=C at*;have e3:(B - A)*(c.1 - b.1)=(C - B)*(b.1 - a.1):=by grind
 have e4:((B - A)*(p.1 - a.1) - (P - A)*(b.1 - a.1))*(c.1 - b.1)=0:=by
  have:((B - A)*(p.1 - a.1) - (P - A)*(b.1 - a.1))*(c.1 - b.1)=((B - A)*(c.1 - b.1))*(p.1 - b.1) - ((P - B)*(c.1 - b.1))*(b.1 - a.1):=by grind
  rw [this,e3,e1];grind
 have:=zY e4 (xK Li)
 grind
def Thn (F:List zg):Prop:=∀(i:Nat) (x y z:zg),F[i]? =some x->F[i+1]? =some y->F[i+2]? =some z->¬zQ x y z
section
variable {C F G D:List zg} {c x y:zg} {m:Nat}
end
end S
namespace S
open PySem
def Ris (xs:Array Nat):Prop:=xs.toList.Pairwise (·<·)
theorem Ris.lt {xs:Array Nat} (h:Ris xs) {i k a b:Nat} (RE:i<k) (ha:xs[i]? =some a) (hb:xs[k]? =some b):a<b:=by
 have Mg:xs.toList[i]? =some a:=by simpa using ha
 have KW:xs.toList[k]? =some b:=by simpa using hb
 obtain ⟨la,ea⟩:=Qd.mp Mg;obtain ⟨lb,eb⟩:=Qd.mp KW;have:=QJ.mp h i k la lb RE;rw [ea,eb] at this;exact this
theorem lN {xs:Array Nat} {j:Nat} (h:Ris xs):∀(fuel lo hi:Nat),hi - lo<=fuel->lo<=hi->hi<=xs.size->(∀k a,k<lo->xs[k]? =some a->a<j)->(∀k a,hi<=k->xs[k]? =some a->j<=a)->
 SetTable.below.go xs j fuel lo hi<=xs.size/\(∀k a,k<SetTable.below.go xs j fuel lo hi->xs[k]? =some a->a<j)/\(∀k a,SetTable.below.go xs j fuel lo hi<=k->xs[k]? =some a->j<=a)
 |0,lo,hi,hf,hl,hs,h1,h2=>by
  rw [SetTable.below.go];have e:lo=hi:=by omega
  subst e;exact ⟨hs,h1,h2⟩
 |fuel+1,lo,hi,hf,hl,hs,h1,h2=>by
  rw [SetTable.below.go]
  by_cases c:lo<hi
  ·rw [QH c];dsimp only;have hm:(lo+hi) / 2<xs.size:=by omega
   have em:xs[(lo+hi) / 2]? =some xs[(lo+hi) / 2]:=by simp [hm]
   have eg:xs.getD ((lo+hi) / 2) j=xs[(lo+hi) / 2]:=by simp [Array.getD,hm]
   rw [eg]
   by_cases c2:xs[(lo+hi) / 2]<j
   ·rw [QH c2];refine lN h fuel _ hi (by omega) (by omega) hs (λk a hk ha=>?_) h2
    by_cases ek:k=(lo+hi) / 2
    ·subst ek;rw [em] at ha;cases ha;exact c2
    ·have:=h.lt (show k<(lo+hi) / 2 by omega) ha em;omega
   ·rw [QO c2];refine lN h fuel lo _ (by omega) (by omega) (by omega) h1 λk a hk ha=>?_
    by_cases ek:k=(lo+hi) / 2
    ·subst ek;rw [em] at ha;cases ha;omega
    ·have:=h.lt (show (lo+hi) / 2<k by omega) em ha;omega
  ·rw [QO c];have e:lo=hi:=by omega
   subst e;exact ⟨hs,h1,h2⟩
theorem Vm (h:Ris xs) (j:Nat):SetTable.below xs j<=xs.size/\(∀k a,k<SetTable.below xs j->xs[k]? =some a->a<j)/\(∀k a,SetTable.below xs j<=k->xs[k]? =some a->j<=a):=
 lN h _ 0 xs.size (by omega) (jal _) (Qv _) (λk a hk=>absurd hk (Nat.not_lt_zero _)) λk a hk ha=>by
  have:k<xs.size:=by
   have:=jba.mp ha;exact this.1
  omega
theorem vF (h:Ris xs) (hj:∀a∈xs.toList,a≠j):Ris (SetTable.insertAt xs (SetTable.below xs j) j):=by
 obtain ⟨b1,b2,b3⟩:=Vm h j;unfold Ris;rw [SetTable.toList_insertAt]
 have hlo:∀a∈xs.toList.take (SetTable.below xs j),a<j:=λa ha=>by
  obtain ⟨i,hi⟩:=Qx.mp ha;rw [List.getElem?_take] at hi
  split at hi
  ·rename_i Kr;exact b2 i a Kr (by simpa using hi)
  ·cases hi
 have OU:∀a∈xs.toList.drop (SetTable.below xs j),j<a:=λa ha=>by
  obtain ⟨i,hi⟩:=Qx.mp ha;rw [jar] at hi;have:=b3 _ a (Nat.le_add_right _ i) (by simpa using hi);have ne:=hj a (List.mem_of_mem_drop ha);omega
 have h':=h;unfold Ris at h';rw [<-List.take_append_drop (SetTable.below xs j) xs.toList] at h';obtain ⟨p1,p2,p3⟩:=TQ.mp h';refine TQ.mpr ⟨p1,Ql.mpr ⟨OU,p2⟩,λa ha b hb=>?_⟩
 rcases Qm.mp hb with rfl|hb
 ·exact hlo a ha
 ·exact p3 a ha b hb
theorem Ab {t:SetTable} (h:Ris t.place) {j:Nat} (hs:∀i,t.slot j≠ .live i):∀a∈t.place.toList,a≠j:=λa ha e=>by
 subst e;obtain ⟨i,hi⟩:=Qx.mp ha;have Kv:t.place[i]? =some a:=by simpa using hi
 obtain ⟨b1,b2,b3⟩:=Vm h a
 have e:SetTable.below t.place a=i:=by
  rcases Nat.lt_trichotomy (SetTable.below t.place a) i with c|c|c
  ·have hk:t.place[SetTable.below t.place a]? =some (t.place[SetTable.below t.place a]'(by have:=(jba.mp Kv).1;omega)):=by simp
   have h1:=h.lt c hk Kv;have h2:=b3 _ _ (Qv _) hk;omega
  ·exact c
  ·have:=b2 i a c Kv;omega
 refine hs i ?_;unfold SetTable.slot;dsimp only;rw [e,Kv]
 simp
theorem aJ  :∀{fuel:Nat} {p:SetTable.Probe} {j:Nat} {d:Option Nat},(∀x,p.dummy=some x->∀i,t.slot x≠ .live i)->SetTable.probe.go t hashAt h fuel p=some (.empty j d)->(∀i,t.slot j≠ .live i)/\∀x,d=some x->∀i,t.slot x≠ .live i
 |0,p,j,d,_,e=>by rw [SetTable.probe.go] at e;cases e
 |fuel+1,p,j,d,hd,e=>by
  rw [SetTable.probe.go] at e
  cases hs:t.slot p.j with
  |empty=>
   rw [hs] at e;cases e;exact ⟨λi z=>(by rw [hs] at z;cases z),hd⟩
  |dummy=>
   rw [hs] at e;refine aJ (fuel:=fuel) (λx hx=>?_) e
   have:x=p.j:=by
    unfold SetTable.advance at hx;dsimp only at hx
    split at hx<;>(cases hx;rfl)
   subst this;intro i z;rw [hs] at z;cases z
  |live i=>
   rw [hs] at e;dsimp only at e
   split at e
   ·cases e
   ·refine aJ (fuel:=fuel) (λx hx=>hd x ?_) e;unfold SetTable.advance at hx;dsimp only at hx
    split at hx<;>exact hx
theorem Cf {t:SetTable} {h:Int} {j:Nat} {b:Bool} (e:t.freeSlot h=some (j,b)):∀i,t.slot j≠ .live i:=by
 unfold SetTable.freeSlot SetTable.probe at e
 split at e
 ·rename_i j' dm hp;have:=aJ (λx hx=>by unfold SetTable.probeStart at hx;cases hx) hp
  cases dm with
  |none=>cases e;exact this.1
  |some d=>cases e;exact this.2 d rfl
 ·cases e
def rB (b:Bool) (t:SetTable):Prop:=Ris t.place/\t.led=b
theorem AN (n:Nat):Ris (Array.range n):=by
 unfold Ris;rw [Array.toList_range];exact List.pairwise_lt_range
theorem Yy {b:Bool} {t:SetTable} (h:t.led=b) (n:Nat):rB b (t.standIn n):=⟨AN n,h⟩
theorem qG {b:Bool} {t:SetTable} (hg:rB b t) (es:Array (Int×Value)) (h:Int) (x:Value):rB b (layNew t es h x).2.1:=by
 unfold layNew
 split
 ·rename_i slot wd hf;dsimp only;unfold SetTable.orStandIn
  split
  ·exact ⟨vF hg.1 (Ab hg.1 (Cf hf)),hg.2⟩
  ·exact Yy hg.2 _
 ·exact Yy hg.2 _
theorem EY {mask:Nat} {owner:Array (Option Nat)}:(((List.range (mask+1)).filterMap λj=>(owner.getD j none).map (j,·)).map (·.1)).Pairwise (·<·):=by
 rw [Tn,List.pairwise_filterMap];refine List.pairwise_lt_range.imp λ{i k} RE a ha b hb=>?_;obtain ⟨_,_,rfl⟩:=Option.map_eq_some_iff.mp ha;obtain ⟨_,_,rfl⟩:=Option.map_eq_some_iff.mp hb;exact RE
theorem kG  (hg:rB b t) (es:Array (Int×Value)) (wanted:Nat):rB b (relayAll t es wanted).2.1:=by
 unfold relayAll
 split
 ·rename_i t' order hr;dsimp only
  split
  ·unfold SetTable.relaid SetTable.laid at hr;obtain ⟨owner,_,hr⟩:=Option.bind_eq_some_iff.mp hr;cases hr;refine ⟨?_,hg.2⟩;show (List.toArray _).toList.Pairwise _;exact EY
  ·exact Yy hg.2 _
 ·exact Yy hg.2 _
def UX:Value->Int
 | .int n _=>n
 |_=>0
def iG (prog:Program) (w:World) (h:Heap) (a:Addr) (b:Bool) (ns:List Int):Prop:=
 ∃(o:Obj) (es:Array (Int×Value)) (ep:Nat) (t:SetTable),(h.get? a=some o/\o.ExactSet/\o.data= .set es ep t)/\ElemsOf (intKind prog w) es.toList/\(t.fits es.size=true/\rB b t)/\ns=es.toList.map (λe=>UX e.2)/\ns.Nodup
section
variable {prog:Program} {w:World} {A:Around} {E:Value->Shared->Prop} {s:Shared}
theorem Gg  (h:(intKind prog w).is k v=true):UX v=k:=by
 obtain ⟨t,ht⟩:=Value.isInt_shape h;rw [ht];rfl
theorem iG.kept   (T:iG prog w h a b ns) (k:∀o,h.get? a=some o->h'.get? a=some o):iG prog w h' a b ns:=by
 obtain ⟨o,es,ep,t,⟨Kq,ex,data⟩,rest⟩:=T;exact ⟨o,es,ep,t,⟨k o Kq,ex,data⟩,rest⟩
theorem Gn {h:Heap} {a:Addr} {o:Obj} {es es1:Array (Int×Value)} {ep:Nat} {t t1:SetTable} (Kq:h.get? a=some o) (data:o.data= .set es ep t):(h.update a (Obj.putSet es1 t1)).get? a=some {o with data:= .set es1 (ep+1) t1}:=by
 have z:=jaH (Obj.putSet es1 t1) Kq (by rw [putSet_of es1 t1 data];rfl);rwa [putSet_of es1 t1 data] at z
theorem add_T {a:Addr} {b:Bool} {ns:List Int} {k:Int} {tk:Tok} {Q:Bool->Shared->Prop} (T:iG prog w s.heap a b ns) (few:ns.length<1000)
 (h:∀(r:Bool) (h':Heap) (Lx:List Int),Heap.SameBut a s.heap h'->iG prog w h' a b Lx->(∀x,x∈Lx↔x∈ns\/x=k)->Lx.length<=ns.length+1->Q r {s with heap:=h'}):
 wpAny (model prog w) A (setAddHashed a (.int k tk) ((intKind prog w).hash k)) Q E s:=by
 obtain ⟨o,es,ep,t,⟨Kq,ex,data⟩,elems,⟨fit,good⟩,rfl,nd⟩:=T;have sz:es.size=(es.toList.map λe=>UX e.2).length:=by simp
 have e4:scanBound=4096:=rfl;have bound:es.size<scanBound:=by omega
 have isk:=intKind_is prog w k tk;unfold setAddHashed setAddHashedIn;refine jax (Qg (jbE Kq data fit ?_));dsimp only;rw [byScan_of (knd:=intKind prog w) (x:= .int k tk) rfl bound elems,QH rfl];unfold setAddByScan;refine Qg (Qg (jcd (Qg (wpAny_setScan_of isk Kq data fit elems ?_))))
 cases found:List.findIdx? (λe=>(intKind prog w).is k e.2) es.toList with
 |some j=>
  dsimp only;obtain ⟨hj,pj,_⟩:=List.findIdx?_eq_some_iff_getElem.mp found;have mem:k∈es.toList.map λe=>UX e.2:=Qj.mpr ⟨es.toList[j],Td hj,Gg pj⟩;refine Qp (Qp ?_);exact h false s.heap _ (Heap.SameBut.refl a s.heap) ⟨o,es,ep,t,⟨Kq,ex,data⟩,elems,⟨fit,good⟩,rfl,nd⟩ (λx=>⟨.inl,λz=>z.elim id λe=>e▸mem⟩) (jao _)
 |none=>
  dsimp only
  have new:k∉es.toList.map λe=>UX e.2:=λz=>by
   obtain ⟨e,he,hv⟩:=Qj.mp z;obtain ⟨⟨k',Lm,_⟩,_⟩:=elems e he;have ek:k'=k:=(Gg Lm).symm.trans hv;subst ek;have:=List.findIdx?_eq_none_iff.mp found e he;rw [Lm] at this;cases this
  have perm:=layNew_perm t es ((intKind prog w).hash k) (.int k tk);have fits:=layNew_fits t es ((intKind prog w).hash k) (.int k tk);have LH:=qG good es ((intKind prog w).hash k) (.int k tk);generalize layNew t es ((intKind prog w).hash k) (.int k tk)=L at perm fits LH⊢;obtain ⟨es1,t1,wasDummy,gave⟩:=L;dsimp only at perm fits LH⊢;rw [Array.toList_push] at perm;have elems1:ElemsOf (intKind prog w) es1.toList:=(elems.push isk rfl).perm perm
  have pm:(es1.toList.map λe=>UX e.2).Perm ((es.toList.map λe=>UX e.2)++[k]):=by
   have:=perm.map λe=>UX e.2;rwa [QP] at this
  have PN:(es1.toList.map λe=>UX e.2).Nodup:=by
   refine (pm.nodup_iff).mpr (List.nodup_append.mpr ⟨nd,by simp,λx hx y hy=>?_⟩);rw [Qq.mp hy];exact λe=>new (e▸hx)
  have MT:=pm.length_eq;rw [Qz,TJ] at MT;have LO:es1.size=(es1.toList.map λe=>UX e.2).length:=by simp
  have bound1:es1.size<scanBound:=by omega
  have NP:∀x,x∈(es1.toList.map λe=>UX e.2)↔x∈(es.toList.map λe=>UX e.2)\/x=k:=λx=>by
   rw [pm.mem_iff,QS,Qq]
  have g1:=Gn (es1:=es1) (t1:=t1) Kq data;have SS:=jaa s.heap a (Obj.putSet es1 t1);have Lo:=relayAll_perm t1 es1 (SetTable.grown es1.size);have Ml:=relayAll_fits t1 es1 (SetTable.grown es1.size);have good2:=kG LH es1 (SetTable.grown es1.size)
  have tail:∀{g:Bool->Sem Unit} {R:Option Bool->Shared->Prop},(∀(b:Bool) (s₁:Shared) (Q':Unit->Shared->Prop),Q' () s₁->wpAny (model prog w) A (g b) Q' E s₁)->
   (∀(h':Heap) (Lx:List Int),Heap.SameBut a s.heap h'->iG prog w h' a b Lx->(∀x,x∈Lx↔x∈(es.toList.map λe=>UX e.2)\/x=k)->Lx.length<=(es.toList.map λe=>UX e.2).length+1->R (some true) {s with heap:=h'})->
   wpAny (model prog w) A (do
    storeSet a es1 t1
    if (!wasDummy && t1.tooFull)=true then do
        g (relayAll t1 es1 (SetTable.grown es1.size)).2.2
        storeSet a (relayAll t1 es1 (SetTable.grown es1.size)).1 (relayAll t1 es1 (SetTable.grown es1.size)).2.1
        pure (some true)
     else pure (some true)) R E s:=λ{g R} hg hR=>by
   refine Qg (wpAny_storeSet_of Kq data ?_ (fits_of_scanBound bound1))
   split
   ·generalize relayAll t1 es1 (SetTable.grown es1.size)=L2 at Lo Ml good2⊢;obtain ⟨Pe,t2,gave2⟩:=L2;dsimp only at Lo Ml good2⊢;have p2:(Pe.toList.map λe=>UX e.2).Perm (es1.toList.map λe=>UX e.2):=Lo.map _;have SO:Pe.size=es1.size:=by rw [<-jay,Lo.length_eq,jay]
    have bound2:Pe.size<scanBound:=by omega
    refine Qg (hg _ _ _ (Qg (wpAny_storeSet_of g1 rfl (Qp ?_) (fits_of_scanBound bound2))));refine hR _ _ (SS.trans (jaa _ a _)) ⟨_,Pe,_,t2,⟨Gn g1 rfl,ex,rfl⟩,elems1.perm Lo,⟨Ml,good2⟩,rfl,p2.nodup_iff.mpr PN⟩ (λx=>by rw [p2.mem_iff];exact NP x) (by rw [p2.length_eq,MT];exact Qv _)
   ·exact Qp (hR _ _ SS ⟨_,es1,_,t1,⟨g1,ex,rfl⟩,elems1,⟨fits,LH⟩,rfl,PN⟩ NP (by rw [MT];exact Qv _))
  have fin:∀(h':Heap) (Lx:List Int),Heap.SameBut a s.heap h'->iG prog w h' a b Lx->(∀x,x∈Lx↔x∈(es.toList.map λe=>UX e.2)\/x=k)->Lx.length<=(es.toList.map λe=>UX e.2).length+1->Q true {s with heap:=h'}:=h true
  have pass:∀(c:Bool) (s₁:Shared) (Q':Unit->Shared->Prop),Q' () s₁->wpAny (model prog w) A (match c with|true=>rule "set.scan.the-table-gave-way"|false=>pure ()) Q' E s₁:=λc s₁ Q' q=>by
   cases c
   ·exact Qp q
   ·exact jcd q
  refine Qg (pass _ _ _ ?_);have hv:hashByValue 8 (.int k tk)=pure true:=rfl
  split
  ·refine Qg ?_;rw [hv];refine Qp ?_;exact tail (λc s₁ Q' q=>pass c s₁ Q' q) λh' Lx x1 x2 x3 x4=>Qp (fin h' Lx x1 x2 x3 x4)
  ·refine Qg (Qp ?_);exact tail (λc s₁ Q' q=>pass c s₁ Q' q) λh' Lx x1 x2 x3 x4=>Qp (fin h' Lx x1 x2 x3 x4)
def wq (w:World):Bool:=!(w.params.followText "set-order")
def We (w:World):Obj:={cls:= .type "set",dict:=none,data:= .set #[] 0 (.fresh 0 0 (wq w))}
theorem Ii (x:Value) (k:R (.ref s.heap.objs.size) {s with heap:=s.heap.push (We w)}):
 codeAny (model prog w) A (.call (.builtin "set.__new__") ⟨[.type "set",x],[]⟩) (wants R E) s:=by
 refine codeAny_of_tree (show wpAny _ A.in1 (do checkBuiltinCall "set.__new__" ⟨[.type "set",x],[]⟩;again (.builtin "set.__new__" ⟨[.type "set",x],[]⟩)) _ _ s from ?_)
 refine Qg (wpAny_of_eq (F.newCall_set_1 x) (Qp ⟨plainId_quiet F.plain_set_new _,jby F.entry_set_new (by
  rw [jbj F.plain_set_new _];unfold Builtin.«set.__new__» Builtin.Frozenset.newClass;have sub:=sub_set_self;obtain ⟨hp,g,d,tk,os⟩:=s;dsimp only
  wp_walk
  refine wpAny_askSetting (Qp ?_);dsimp only;simp only [newObj]
  exact Qg (wpAny_alloc (Qp (Qp k))))⟩))
theorem iG.fresh  (Kq:h.get? a=some (We w)):iG prog w h a (wq w) []:=
 ⟨_,#[],0,_,⟨Kq,⟨rfl,rfl,rfl⟩,rfl⟩,λe he=>by simp at he,⟨rfl,by unfold Ris SetTable.fresh;exact List.Pairwise.nil,rfl⟩,rfl,List.nodup_nil⟩
theorem upd_T
 (W:WalksS prog w A.in1 I fp wr G n P St) (a:Addr) (out:a∉fp) (ns:List Int) (val:∀i v,P i v->∃k t,ns[i]? =some k/\v= .int k t) (few:n<900):
 ∀(m i:Nat) (s:Shared) (T:List Int),n - i=m->i<=n->St i s->iG prog w s.heap a b T->(∀x,x∈T↔x∈ns.take i)->T.length<=i->
  (∀s' T',Moved (a::wr) G s s'->iG prog w s'.heap a b T'->(∀x,x∈T'↔x∈ns.take n)->T'.length<=n->R (.ok (.ret .none)) s')->
  codeAny (model prog w) A (.builtin "set.update.loop" ⟨[.ref a, .ref I],[]⟩) R s:=by
 have outW:a∉wr:=λz=>out (W.sub _ z);have more:∀c∈wr,c∈a::wr:=λc hc=>Qf _ hc;intro m
 induction m with
 |zero=>
  intro i s T hm hi st hT hx hl hR;have e:i=n:=by omega
  subst e;refine jby PyProof.Rows.F.entry_set_update_loop ?_;rw [jbj jaU _];show wpAny _ A.in1 (pyNext (.ref I)>>=_) _ _ s;exact Qg (W.done s _ _ st λs' mv=>Qp (hR s' T (mv.mono more) (hT.kept λo=>mv.heap a o outW) hx hl))
 |succ m ih=>
  intro i s T hm hi st hT hx hl hR;have lt:i<n:=by omega
  refine jby PyProof.Rows.F.entry_set_update_loop ?_;rw [jbj jaU _];show wpAny _ A.in1 (pyNext (.ref I)>>=_) _ _ s;refine Qg (W.item i s _ _ lt st λv s' hP Lb mv=>?_);obtain ⟨k,tk,hk,rfl⟩:=val i v hP;show wpAny _ A.in1 (holding [Value.int k tk] (setAdd a (.int k tk))>>=_) _ _ s';refine Qg (jax ?_);unfold setAdd;refine jax (Qg ((intKind prog w).pyHash (k:=k) (intKind_is _ _ _ _) ?_));refine add_T (b:=b) (ns:=T) (s:={s' with toks:=s'.toks+1}) (hT.kept λo=>mv.heap a o outW) (by omega) λr h' T' sb RY KH KJ=>?_;refine Qp ⟨plainId_quiet jaU _,ih (i+1) _ T' (by omega) lt (W.frame _ s' _ _ Lb (jao _) λc hc o e=>?_) RY (λx=>?_) (by omega) λNM T'' PQ Mh PY Ry=>?_⟩
  ·rw [sb.2 c (λz:c=a=>out (by rw [<-z];exact hc))];exact e
  ·rw [KH x,hx x,TH,hk]
   simp
  ·refine hR NM T'' (Moved.trans W.gtrans ((mv.mono more).then_heap (jao _) λc o hc e=>?_) PQ) Mh PY Ry;rw [sb.2 c (λz:c=a=>hc (by rw [z];exact Qe))];exact e
set_option maxHeartbeats 8000000 in
theorem vP   (quiet:A.handled=none) (hl:s.heap.IsList l items) (hi:PyProof.Rows.IntsAre items.toList ns) (few:items.size<900)
 (k:∀(h':Heap) (tk:Nat) (T:List Int),iG prog w h' s.heap.objs.size (wq w) T->(∀x,x∈T↔x∈ns)->T.length<=ns.length->(∀b o,b<s.heap.objs.size->s.heap.get? b=some o->h'.get? b=some o)->Q (.ref s.heap.objs.size) {s with heap:=h',toks:=tk}):
 wpAny (model prog w) A (call (.type "set") [.ref l]) Q E s:=by
 have lenN:items.size=ns.length:=by have:=hi.length;simpa using this
 obtain ⟨c1,tl1,mro1⟩:=jbz.mro;have made1:=jbz.made;have sub1:=jbz.sub;refine wpAny_call (codeAny_of_tree (show wpAny _ _ (callAny (.type "set") _) _ _ _ from ?_));refine Qp ⟨Code.quiet_builtin _ (by decide+kernel),jby F.entry_type_call ?_⟩;rw [Around.under_plain (weight_type_call_type "set" [.ref l] []) rfl];have nt1:=jbz.notType;have cc1:=jbz.canCreate;have ct1:=F.typeCall_set_1 (.ref l)
 repeat any_goals (first|wp_step|assumption)
 refine jcb (Ii (.ref l) (E:=E) (R:=λobj s₁=>obj= .ref s.heap.objs.size/\s₁={s with heap:=s.heap.push (We w)}) ⟨rfl,rfl⟩) λr s₁ hr=>?_
 cases r with
 |error e=>exact hr
 |ok fl=>
  cases fl with
  |ret obj=>
   obtain ⟨rfl,rfl⟩:=hr;have Kq:(s.heap.push (We w)).get? s.heap.objs.size=some (We w):=Qw _ rfl;have ty:Shared.TypeIs {s with heap:=s.heap.push (We w)} (.ref s.heap.objs.size) "set":=⟨_,Kq,rfl⟩;have lk1:=jbz.init.lookup;have bd1:=jbz.init.bind (.ref s.heap.objs.size)
   repeat any_goals (first|wp_step|assumption)
   refine jcb (codeAny_call_builtin (R:=wants (λr s₂=>r= .none/\∃h' tk T,s₂={s with heap:=h',toks:=tk}/\iG prog w h' s.heap.objs.size (wq w) T/\(∀x,x∈T↔x∈ns)/\T.length<=ns.length/\
    (∀b o,b<s.heap.objs.size->s.heap.get? b=some o->h'.get? b=some o)) E) jbz.init.plain F.entry_set_init (check_set_init_1 ty ?_)) λr₂ s₂ hr₂=>?_
   ·obtain ⟨ol,gol,clsl,nl,datl⟩:=hl;obtain ⟨ocls,odict,odata,oslots⟩:=ol;simp only at clsl datl;subst clsl;subst datl;have Ow:(s.heap.push (We w)).get? l=some {cls:= .type "list",dict:=odict,data:= .seq items nl,slots:=oslots}:=Qi _ gol;have sls:=F.sub_list_set;have slf:=F.sub_list_frozenset;have PN:(Value.type "list"==Value.type "dict")=false:=by decide
    have il1:(s.heap.push (We w)).IsList l items:=⟨_,Ow,rfl,nl,rfl⟩;have fr1:=Kq;unfold We at fr1 Ow;unfold Builtin.«set.__init__» noKeywords Builtin.Frozenset.updateFrom;generalize hPI:pyIter=PI
    wp_walk
    subst hPI;refine jam il1 (Qg (wpAny_runValue ?_));have lts:l<s.heap.objs.size:=Qu gol;have q3:A.in1.in1.in1.handled=none:=by simp [quiet]
    have szp:(s.heap.push (We w)).objs.size=s.heap.objs.size+1:=QW ..;have neI:l≠(s.heap.push (We w)).objs.size:=by rw [szp];exact QM (TC lts)
    have out:s.heap.objs.size∉[(s.heap.push (We w)).objs.size,l]:=by
     rw [szp];intro z
     rcases Qm.mp z with z|z
     ·exact absurd z (QM (To _))
     ·exact absurd (Qq.mp z) (jbb lts)
    refine upd_T (b:=wq w) ((Walks.list q3 _ l neI items).toS) s.heap.objs.size out ns (λi v hv=>?_) few (items.size - 0) 0 _ [] (by omega) (jal _) ⟨⟨_,Qw _ rfl,rfl,rfl⟩,il1.push _⟩ (iG.fresh (Qi _ Kq)) (λx=>by simp) (jal _) λs' T' mv RY KH KJ=>?_
    ·have OM:items.toList[i]? =some v:=by rw [Array.getElem?_toList];exact hv
     obtain ⟨t,ht⟩:=PyProof.Rows.IntsAre.int_at hi i v OM
     have lt:i<ns.length:=by
      have:=(Qd.mp OM).1;rw [jay] at this;omega
     refine ⟨ns.getD i 0,t,?_,ht⟩;rw [Qk,Qb lt];rfl
    ·obtain ⟨h',g',d',PB,MS⟩:=s';have eg:g'=s.gens:=mv.gens;have ed:d'=s.drawn:=mv.drawn;have eo:MS=s.os:=mv.os;subst eg;subst ed;subst eo;show wpAny _ _ _ _ _ _;refine Qp (show wpAny _ _ (ret Value.none) _ _ _ from Qp ⟨rfl,h',PB,T',rfl,RY,λx=>?_,by omega,λb o hb e=>?_⟩)
     ·rw [KH x,Ti (by omega)]
     ·refine mv.heap b o (λz=>?_) (Qi _ (Qi _ e))
      rcases Qm.mp z with z|z
      ·exact absurd z (QM hb)
      ·rw [Qq.mp z,szp] at hb;exact absurd hb (Nat.not_lt.mpr (jao _))
   ·cases r₂ with
    |error e=>exact hr₂
    |ok fl₂=>
     cases fl₂ with
     |ret r=>
      obtain ⟨rfl,h',tk,T,rfl,hT,hx,hlT,keep⟩:=hr₂
      repeat any_goals (first|wp_step|assumption)
      exact k _ _ T hT hx hlT keep
     |_=>exact hr₂.elim
  |_=>exact hr.elim
end
theorem AX:Manifest.owners.lookup (String.ofList ['r','o','t','a','r','e','t','i','_','t','e','s'].reverse)=some Manifest.sig_set_iterator:=by kernel_rfl
theorem Yb (x:Value):argsOk "set_iterator.__next__" ⟨[x],[]⟩:=by
 unfold argsOk;rw [signature?_of (id:="set_iterator.__next__") (n:=['_','_','t','x','e','n','_','_']) (o:=['r','o','t','a','r','e','t','i','_','t','e','s']) (by kernel_rfl) AX]
 kernel_rfl
theorem ym:Slot "set_iterator" "__next__" "set_iterator.__next__":= .of (owner:="set_iterator") (n:="__next__") (by rw [typeLookup_type,builtinLookup_eq_fast];kernel_rfl) (by decide+kernel) (by decide+kernel) (by decide+kernel) (by first|exact .inl (by decide+kernel)|exact .inr (by decide+kernel)) (by rw [isSubtype_type];kernel_rfl)
theorem ZH:entryFor table "set_iterator.__next__"=some Builtin.«set_iterator.__next__»:=entryFor_of_tree (by kernel_rfl)
theorem Us:Slot "set_iterator" "__iter__" "set_iterator.__iter__":= .of (owner:="set_iterator") (n:="__iter__") (by rw [typeLookup_type,builtinLookup_eq_fast];kernel_rfl) (by decide+kernel) (by decide+kernel) (by decide+kernel) (by first|exact .inl (by decide+kernel)|exact .inr (by decide+kernel)) (by rw [isSubtype_type];kernel_rfl)
theorem lV (x:Value):argsOk "set_iterator.__iter__" ⟨[x],[]⟩:=by
 unfold argsOk;rw [signature?_of (id:="set_iterator.__iter__") (n:=['_','_','r','e','t','i','_','_']) (o:=['r','o','t','a','r','e','t','i','_','t','e','s']) (by kernel_rfl) AX]
 kernel_rfl
theorem ir:entryFor table "set_iterator.__iter__"=some Builtin.«dict_keyiterator.__iter__»:=entryFor_alias (id':="dict_keyiterator.__iter__") (by kernel_rfl) rfl (by decide+kernel) (by kernel_rfl)
theorem iu:entryFor table "set.__iter__"=some Builtin.«frozenset.__iter__»:=entryFor_alias (id':="frozenset.__iter__") (by kernel_rfl) rfl (by decide+kernel) (by kernel_rfl)
theorem aX {α:Type}:∀{xs:List α} {i:Nat} (h:i<xs.length),(xs[i]::xs.eraseIdx i).Perm xs
 |[],i,h=>by simp at h
 |x::xs,0,h=>List.Perm.refl _
 |x::xs,i+1,h=>by
  have ih:=aX (xs:=xs) (i:=i) (by simpa using h);exact (List.Perm.swap _ _ _).trans (ih.cons x)
section
variable {prog:Program} {w:World} {A:Around} {E:Value->Shared->Prop} {s:Shared}
theorem vM  (hn:n≠0) (k:∀i d,i<n->Q i {s with drawn:=d}):wpAny (model prog w) A (choose src n) Q E s:=λΓ p hΓ=>by
 show Sem.wp _ _ (Sem.choose src n _) _ _ _ _;rw [Sem.wp_choose];exact ⟨hn,k _ _ (Nat.mod_lt _ (by omega))⟩
theorem GJ {α:Type}:∀(n:Nat) (xs:List α) (s:Shared) (Q:List α->Shared->Prop),xs.length=n->(∀d ys,ys.Perm xs->Q ys {s with drawn:=d})->wpAny (model prog w) A (drawOrder n xs) Q E s
 |0,[],s,Q,_,k=>by rw [drawOrder];exact Qp (k s.drawn [] (List.Perm.refl _))
 |n+1,x::xs,s,Q,hl,k=>by
  rw [drawOrder]
  ·refine Qg (vM (by simp) λi d hi=>?_);have e:(x::xs)[i]? =some (x::xs)[i]:=Qb hi;rw [e];dsimp only;refine Qg (GJ n _ _ _ (by rw [List.length_eraseIdx,QH hi,hl];rfl) λd2 ys hp=>Qp (k d2 _ ?_));have hc:=List.Perm.cons (x::xs)[i] hp;refine hc.trans ?_;exact aX hi
  ·intro z;cases z
 |0,_::_,s,Q,h,_=>by simp at h
 |_+1,[],s,Q,h,_=>by simp at h
structure SetD (prog:Program) (w:World) (oS:Obj) (es:Array (Int×Value)) (ep:Nat) (t:SetTable):Prop where
 ex:oS.ExactSet
 data:oS.data= .set es ep t
 elems:ElemsOf (intKind prog w) es.toList
 fit:t.fits es.size=true
 good:rB (wq w) t
theorem vS (h:Ris xs):SetTable.below xs 0=0:=by
 obtain ⟨b1,b2,b3⟩:=Vm h 0
 rcases Nat.eq_zero_or_pos (SetTable.below xs 0) with z|z
 ·exact z
 ·have:xs[0]? =some (xs[0]'(by omega)):=by simp
  exact absurd (b2 0 _ z this) (Nat.not_lt_zero _)
theorem vT (h:Ris xs) (hj:xs[i]? =some j):SetTable.below xs (j+1)=i+1:=by
 obtain ⟨b1,b2,b3⟩:=Vm h (j+1);have li:i<xs.size:=(jba.mp hj).1
 rcases Nat.lt_trichotomy (SetTable.below xs (j+1)) (i+1) with z|z|z
 ·have:=b3 i j (by omega) hj;omega
 ·exact z
 ·have l2:i+1<xs.size:=by omega
  have h2:xs[i+1]? =some xs[i+1]:=by simp [l2]
  have:=b2 (i+1) _ z h2;have:=h.lt (To i) hj h2;omega
def byT (w:World):Bool:=w.params.followText "set-order"
def mj (w:World) (a:Addr) (ep:Nat) (es:Array (Int×Value)):Array (Int×Value):=if byT w=true then pickOrder (w.params.setOrder a ep) es else es
def stT (w:World) (t:SetTable) (i slot:Nat):Prop:=byT w=true\/SetTable.below t.place slot=i
theorem nF {α:Type} (f:Nat->Nat):∀(n k:Nat) (left:List α) (out:Array α),left.length=n->(pickOrder.go f n k left out).toList.Perm (out.toList++left)
 |0,k,[],out,_=>by rw [pickOrder.go];simp
 |0,k,_::_,out,h=>by simp at h
 |n+1,k,[],out,h=>by simp at h
 |n+1,k,x::left,out,h=>by
  rw [pickOrder.go];have hi:f k % (x::left).length<(x::left).length:=Nat.mod_lt _ (by simp);rw [Qb hi];dsimp only;have ih:=nF f n (k+1) ((x::left).eraseIdx (f k % (x::left).length)) (out.push (x::left)[f k % (x::left).length]) (by rw [List.length_eraseIdx,QH hi,h];rfl);refine ih.trans ?_;rw [Array.toList_push,jae];exact (aX hi).append_left _
theorem UE (w:World) (a:Addr) (ep:Nat) (es:Array (Int×Value)):(mj w a ep es).toList.Perm es.toList:=by
 unfold mj
 split
 ·unfold pickOrder;have:=nF (w.params.setOrder a ep) es.size 0 es.toList #[] (by simp)
  simpa using this
 ·exact List.Perm.refl _
section
variable {a:Addr} {oS:Obj} {es:Array (Int×Value)} {ep:Nat} {t:SetTable} {slot i:Nat}
theorem qW (k:Q (byT w) s):wpAny (model prog w) A setsByText Q E s:=by
 unfold setsByText;exact Qg (wpAny_askSetting (Qp k))
theorem wH (Kq:s.heap.get? a=some oS) (D:SetD prog w oS es ep t) (hb:byT w=true) (k:Q (pickOrder (w.params.setOrder a ep) es) s):wpAny (model prog w) A (setWalk a) Q E s:=by
 unfold setWalk;refine Qg (jbE Kq D.data D.fit ?_);dsimp only;refine Qg (qW ?_);rw [hb,QH rfl];exact Qg (wpAny_askSetting (Qp k))
theorem Gz (Kq:s.heap.get? a=some oS) (D:SetD prog w oS es ep t) (pl:byT w=true\/(t.plain=true\/es.size<=1)) (st:stT w t i slot)
 (k1:∀e Ky,(mj w a ep es)[i]? =some e->stT w t (i+1) Ky->Q (some (e.2,Ky)) s) (k2:es.size<=i->Q none s):wpAny (model prog w) A (setNext a slot i ep) Q E s:=by
 have osz:(mj w a ep es).size=es.size:=by
  have:=(UE w a ep es).length_eq
  simpa using this
 unfold setNext;refine Qg (jbE Kq D.data D.fit ?_);dsimp only;refine Qg (qW ?_)
 cases hb:byT w with
 |true=>
  rw [QH rfl,QO (by simp)];refine Qg (wH Kq D hb (Qp ?_));have eo:mj w a ep es=pickOrder (w.params.setOrder a ep) es:=by unfold mj;rw [QH hb]
  rw [<-eo]
  by_cases c:i<(mj w a ep es).size
  ·have e:(mj w a ep es)[i]? =some (mj w a ep es)[i]:=by simp [c]
   rw [e];exact k1 _ slot e (.inl hb)
  ·rw [Array.getElem?_eq_none (by omega)];exact k2 (by omega)
 |false=>
  have Lb:SetTable.below t.place slot=i:=st.resolve_left (by rw [hb];exact QK);have pl':=pl.resolve_left (by rw [hb];exact QK);rw [QO QK]
  split
  ·rename_i z
   exfalso
   have z':(!t.plain && decide (es.size>1))=true:=z;rw [jaE,decide_eq_true_eq] at z'
   rcases pl' with p|p
   ·rw [p] at z';exact QK z'.1
   ·omega
  have led:t.led=true:=by
   have:=D.good.2;unfold wq at this;rw [this,show w.params.followText "set-order"=false from hb];rfl
  refine Qg (show wpAny _ _ (if (!t.led && !es.isEmpty)=true then unsupported "set:maker-not-led" else pure ()) _ _ s from ?_);rw [led,QO (by simp)];refine Qp (Qp ?_);rw [Lb];have eo:mj w a ep es=es:=by unfold mj;rw [QO (by rw [hb];exact QK)]
  have psz:t.place.size=es.size:=by
   have:=D.fit;unfold SetTable.fits at this;rw [jaE] at this
   simpa using this.1
  by_cases c:i<es.size
  ·have e:es[i]? =some es[i]:=by simp [c]
   have NB:t.place[i]? =some (t.place[i]'(by omega)):=by simp
   rw [e,NB];exact k1 es[i] _ (by rw [eo];exact e) (.inr (vT D.good.1 NB))
  ·rw [Array.getElem?_eq_none (show es.size<=i by omega)];exact k2 (by omega)
end
end
section
variable {prog:Program} {w:World} {A:Around} {E:Value->Shared->Prop} {s:Shared} {a I:Addr} {oS:Obj} {es:Array (Int×Value)} {ep:Nat} {t:SetTable} {slot i:Nat}
def ItF (h:Heap) (I:Addr) (vs:Array Value):Prop:=∃o,h.get? I=some o/\o.cls= .type "set_iterator"/\o.data= .fields vs
theorem ItF.ty (x:ItF s.heap I vs):s.TypeIs (.ref I) "set_iterator":=by
 obtain ⟨_,e,c,_⟩:=x;exact ⟨_,e,c⟩
theorem ItF.set  (x:ItF h I vs) (j:Nat) (v:Value):ItF (h.update I (Obj.mapFields (·.setIfInBounds j v))) I (vs.setIfInBounds j v):=by
 obtain ⟨o,e,c,d⟩:=x;exact ⟨_,jaH _ e (Obj.isFreed_of_fields (jbW d _)),(Obj.cls_mapFields ..).trans c,jbW d _⟩
theorem DN {Q:Option Value->Shared->Prop} (x:ItF s.heap I #[.int slot 0, .int i 0, .ref a, .int es.size 0, .int ep 0]) (ne:a≠I) (Kq:s.heap.get? a=some oS) (D:SetD prog w oS es ep t) (pl:byT w=true\/(t.plain=true\/es.size<=1)) (st:stT w t i slot) (hi:i<es.size)
 (k1:∀e Ky h',(mj w a ep es)[i]? =some e->stT w t (i+1) Ky->ItF h' I #[.int Ky 0, .int (i+1:Nat) 0, .ref a, .int es.size 0, .int ep 0]->Heap.SameBut I s.heap h'->Q (some e.2) {s with heap:=h'}):wpAny (model prog w) A (pyNext (.ref I)) Q E s:=by
 have x':=x;obtain ⟨o,go,gc,gd⟩:=x';unfold pyNext;refine Qg (jbC (TK (name:=Str.ofString "__next__") x.ty ym (jac ym x.ty ZH ?_ (Yb _))));unfold Builtin.«set_iterator.__next__»;refine Qg (Qp ?_);refine Qg (wpAny_fieldsOf go gd ?_);dsimp only;refine Qg (jbp Kq D.data D.fit ?_);rw [QO (by simp)];refine Qg (Gz (slot:=slot) (i:=i) Kq D pl st (λe Ky he KD=>?_) (λz=>absurd hi (by omega)));dsimp only;refine Qg (jbh go gd (by simp) ?_);have x1:=x.set 0 (rawInt (Ky:Nat));have x2:=x1.set 1 (rawInt ((i:Int)+1));obtain ⟨o1,Sh,gc1,Si⟩:=x1;refine Qg (jbh Sh Si (by simp) ?_);refine Qp ⟨_,rfl,Qp (k1 e Ky _ he KD ?_ ((jaa ..).trans (jaa ..)))⟩
 simpa [rawInt] using x2
theorem Gp {j:Nat} {x:Value} {h1:Heap} {Q:Option Value->Shared->Prop} (quiet:A.handled=none) (k:∀h',(∀b o,h1.get? b=some o->h'.get? b=some o)->Q none {s with heap:=h'}):
 wpAny (model prog w) A.in1 (newExc (.type "StopIteration") []>>=λe=>(raiseNew e:Sem Fin)) (λfin s'=>∃v,fin=Fin.done (Flow.ret v)/\wpAny (model prog w) A (pure (some v)) Q E s')
  (λe s'=>wpAny (model prog w) A (isInstance e (Value.type "StopIteration")>>=λb=>if b=true then pure none else throw e) Q E s') {s with heap:=h1}:=by
 refine Qg ?_;simp only [newExc,newTuple];refine Qg (jad (Qg (m:=firstArgMember _ _) (wpAny_of_eq (a:=Value.none) (by first|rfl|(simp only [firstArgMember];rfl)) (jad ?_ (by size_fits)))) (by size_fits));simp only [raiseNew];refine Qg (wpAny_handled ?_);rw [show A.in1.handled=none from quiet];refine' Qg (Qp (wpAny_throw ?told))
 case told=>
  refine' Qg (wpAny_isInstance (T:="StopIteration") (b:=true) ⟨_,Qw _ rfl,rfl⟩ isSubtype_stop ?yes)
  case yes=>exact Qp (k _ λb o e=>Qi _ (Qi _ e))
theorem DO {Q:Option Value->Shared->Prop} (quiet:A.handled=none) (x:ItF s.heap I #[.int slot 0, .int i 0, .ref a, .int es.size 0, .int ep 0]) (Kq:s.heap.get? a=some oS) (D:SetD prog w oS es ep t) (pl:byT w=true\/(t.plain=true\/es.size<=1)) (st:stT w t i slot) (hi:es.size<=i)
 (k:∀h',(∀b o,b≠I->s.heap.get? b=some o->h'.get? b=some o)->Q none {s with heap:=h'}):wpAny (model prog w) A (pyNext (.ref I)) Q E s:=by
 have osz:(mj w a ep es).size=es.size:=by
  have:=(UE w a ep es).length_eq
  simpa using this
 have x':=x;obtain ⟨o,go,gc,gd⟩:=x';unfold pyNext;refine Qg (jbC (TK (name:=Str.ofString "__next__") x.ty ym (jac ym x.ty ZH ?_ (Yb _))));unfold Builtin.«set_iterator.__next__»;refine Qg (Qp (Qg (wpAny_fieldsOf go gd ?_)));dsimp only;refine Qg (jbp Kq D.data D.fit ?_);rw [QO (by simp)];refine Qg (Gz (slot:=slot) (i:=i) Kq D pl st (λe Ky he KD=>?_) (λ_=>?_))
 ·have:=(jba.mp he).1
  exact absurd this (by have z:(mj w a ep es).size=es.size:=osz
                        show ¬i<(mj w a ep es).size
                        omega)
 dsimp only;refine Qg (jbh go gd (by simp) ?_);exact Gp (j:=0) (x:= .none) quiet λh' keep=>k h' λb o hb e=>keep b o ((jaa s.heap I _).extBut b o hb e)
theorem se {vs:Array Value} {Q:Value->Shared->Prop} (x:ItF s.heap I vs) (k:Q (.ref I) s):wpAny (model prog w) A (pyIter (.ref I)) Q E s:=by
 refine wpAny_pyIter_slot x.ty Us (jac Us x.ty ir (show wpAny _ _ (ret (.ref I)) _ _ s from ?_) (lV _));exact Qp ⟨_,rfl,"set_iterator",_,x.ty,ym.lookup,k⟩
theorem Ac {tp:Addr} {pls:List Nat} {oT:Obj} {nT p:Nat} {e:Int×Value} {Q:Option Value->Shared->Prop} (x:ItF s.heap I #[.ref tp, .int i 0, .ref a, .int es.size 0, .int ep 0]) (gt:s.heap.get? tp=some oT) (gtd:oT.data= .seq (pls.map λ(p:Nat)=>rawInt p).toArray nT)
 (Kq:s.heap.get? a=some oS) (D:SetD prog w oS es ep t) (hp:pls[i]? =some p) (he:es[p]? =some e)
 (k1:∀h',ItF h' I #[.ref tp, .int (i+1:Nat) 0, .ref a, .int es.size 0, .int ep 0]->Heap.SameBut I s.heap h'->Q (some e.2) {s with heap:=h'}):wpAny (model prog w) A (pyNext (.ref I)) Q E s:=by
 have x':=x;obtain ⟨o,go,gc,gd⟩:=x';unfold pyNext;refine Qg (jbC (TK (name:=Str.ofString "__next__") x.ty ym (jac ym x.ty ZH ?_ (Yb _))));unfold Builtin.«set_iterator.__next__»;refine Qg (Qp (Qg (wpAny_fieldsOf go gd ?_)));dsimp only;refine Qg (jbp Kq D.data D.fit ?_);rw [QO (by simp)];refine Qg (show wpAny _ _ (load tp>>=_) _ _ s from Qg (wpAny_load gt ?_));rw [gtd];refine Qp ?_;dsimp only
 have ei:(pls.map λ(p:Nat)=>rawInt p).toArray[(i:Int).toNat]? =some (rawInt p):=by
  rw [Tg,List.getElem?_toArray,Qh,hp];rfl
 rw [ei];show wpAny _ _ (setNextDrawn a (p:Int).toNat (ep:Int).toNat>>=_) _ _ s;refine Qg ?_;unfold setNextDrawn;refine Qg (jbE Kq D.data D.fit ?_);dsimp only;rw [Tg,Tg,QO (by simp),he];refine Qg (Qp (Qp ?_));refine Qg (jbh go gd (by simp) ?_);have x2:=x.set 1 (rawInt ((i:Int)+1));refine Qp ⟨_,rfl,Qp (k1 _ ?_ (jaa ..))⟩
 simpa [rawInt] using x2
theorem Ad {tp:Addr} {pls:List Nat} {oT:Obj} {nT:Nat} {Q:Option Value->Shared->Prop} (quiet:A.handled=none) (x:ItF s.heap I #[.ref tp, .int i 0, .ref a, .int es.size 0, .int ep 0]) (gt:s.heap.get? tp=some oT) (gtd:oT.data= .seq (pls.map λ(p:Nat)=>rawInt p).toArray nT)
 (Kq:s.heap.get? a=some oS) (D:SetD prog w oS es ep t) (hp:pls.length<=i)
 (k:∀h',(∀b o,b≠I->s.heap.get? b=some o->h'.get? b=some o)->Q none {s with heap:=h'}):wpAny (model prog w) A (pyNext (.ref I)) Q E s:=by
 have x':=x;obtain ⟨o,go,gc,gd⟩:=x';unfold pyNext;refine Qg (jbC (TK (name:=Str.ofString "__next__") x.ty ym (jac ym x.ty ZH ?_ (Yb _))));unfold Builtin.«set_iterator.__next__»;refine Qg (Qp (Qg (wpAny_fieldsOf go gd ?_)));dsimp only;refine Qg (jbp Kq D.data D.fit ?_);rw [QO (by simp)];refine Qg (show wpAny _ _ (load tp>>=_) _ _ s from Qg (wpAny_load gt ?_));rw [gtd];refine Qp ?_;dsimp only
 have ei:(pls.map λ(p:Nat)=>rawInt p).toArray[(i:Int).toNat]? =none:=by
  rw [Tg,List.getElem?_toArray,Qh,QF hp];rfl
 rw [ei];dsimp only;refine Qg (jbh go gd (by simp) ?_);have x1:=x.set 0 (rawInt 0);obtain ⟨o1,Sh,gc1,Si⟩:=x1;refine Qg (jbh Sh Si (by simp) ?_);exact Gp (j:=0) (x:= .none) quiet λh' keep=>k h' λb o hb e=>keep b o (((jaa s.heap I _).trans (jaa _ I _)).extBut b o hb e)
end
section
variable {prog:Program} {w:World} {A:Around} {E:Value->Shared->Prop} {s:Shared} {a I:Addr} {oS:Obj} {es:Array (Int×Value)} {ep:Nat} {t:SetTable} {slot i:Nat}
theorem ItF.at  (x:ItF h I vs) (k:∀o,h.get? I=some o->h'.get? I=some o):ItF h' I vs:=by
 obtain ⟨o,e,r⟩:=x;exact ⟨o,k o e,r⟩
theorem wG (quiet:A.handled=none) (ne:a≠I) (D:SetD prog w oS es ep t) (pl:byT w=true\/(t.plain=true\/es.size<=1)):
 Walks prog w A I [I,a] [I] es.size (λi v=>∃e,(mj w a ep es)[i]? =some e/\v=e.2) (λi h=>(∃slot,stT w t i slot/\ItF h I #[.int (slot:Nat) 0, .int (i:Nat) 0, .ref a, .int es.size 0, .int ep 0])/\h.get? a=some oS) where
 sub:=λb hb=>by rw [Qq.mp hb];exact Qe
 frame:=λi h h' st keep=>⟨let ⟨sl,h1,h2⟩:=st.1;⟨sl,h1,h2.at λo e=>keep I Qe o e⟩,keep a (by simp) _ st.2⟩
 item:=λi s Q E hi st k=>by
  obtain ⟨⟨sl,h1,h2⟩,h3⟩:=st;refine DN h2 ne h3 D pl h1 hi λe Ky h' he KD x sb=>?_;exact k e.2 h' s.toks ⟨e,he,rfl⟩ ⟨⟨Ky,KD,x⟩,sb.extBut a _ ne h3⟩ λb o hb e=>sb.extBut b o (λz=>hb (by rw [z];exact Qq.mpr rfl)) e
 done:=λs Q E st k=>by
  obtain ⟨⟨sl,h1,h2⟩,h3⟩:=st;exact DO quiet h2 h3 D pl h1 (Qv _) λh' keep=>k h' s.toks λb o hb e=>keep b o (λz=>hb (by rw [z];exact Qq.mpr rfl)) e
 self:=λi s Q E st k=>let ⟨sl,h1,h2⟩:=st.1;se h2 k
theorem pF {tp:Addr} {pls:List Nat} {oT:Obj} {nT:Nat} (quiet:A.handled=none) (ne:a≠I) (ne2:tp≠I) (D:SetD prog w oS es ep t) (gtd:oT.data= .seq (pls.map λ(p:Nat)=>rawInt p).toArray nT) (hp:∀p∈pls,p<es.size):
 Walks prog w A I [I,a,tp] [I] pls.length (λi v=>∃p e,pls[i]? =some p/\es[p]? =some e/\v=e.2) (λi h=>ItF h I #[.ref tp, .int (i:Nat) 0, .ref a, .int es.size 0, .int ep 0]/\h.get? a=some oS/\h.get? tp=some oT) where
 sub:=λb hb=>by rw [Qq.mp hb];exact Qe
 frame:=λi h h' st keep=>⟨st.1.at λo e=>keep I Qe o e,keep a (by simp) _ st.2.1,keep tp (by simp) _ st.2.2⟩
 item:=λi s Q E hi st k=>by
  have e1:=Qb hi;have lt:=hp _ (Td hi);have e2:es[pls[i]]? =some es[pls[i]]:=by simp [lt]
  refine Ac st.1 st.2.2 gtd st.2.1 D e1 e2 λh' x sb=>?_;exact k _ h' s.toks ⟨_,_,e1,e2,rfl⟩ ⟨x,sb.extBut a _ ne st.2.1,sb.extBut tp _ ne2 st.2.2⟩ λb o hb e=>sb.extBut b o (λz=>hb (by rw [z];exact Qq.mpr rfl)) e
 done:=λs Q E st k=>Ad quiet st.1 st.2.2 gtd st.2.1 D (Qv _) λh' keep=>k h' s.toks λb o hb e=>keep b o (λz=>hb (by rw [z];exact Qq.mpr rfl)) e
 self:=λi s Q E st k=>se st.1 k
def WalkOk (prog:Program) (w:World) (h:Heap) (I a:Addr) (lo:Nat) (ns:List Int):Prop:=
 ∃(fp:List Addr) (n:Nat) (P:Nat->Value->Prop) (St:Nat->Heap->Prop) (os:List Int),St 0 h/\I∈fp/\(∀b∈fp,b<h.objs.size/\(b=a\/lo<=b))/\n=os.length/\os.Perm ns/\(∀i v,P i v->∃tk k,os[i]? =some k/\v= .int k tk)/\∀A':Around,A'.handled=none->Walks prog w A' I fp [I] n P St
theorem tD (D:SetD prog w oS es ep t) (he:e∈es.toList):∃tk,e.2= .int (UX e.2) tk:=by
 obtain ⟨⟨k,hk,_⟩,_⟩:=D.elems e he;obtain ⟨tk,h⟩:=Value.isInt_shape hk;exact ⟨tk,by rw [h];rfl⟩
theorem AO {α β:Type} (g:α->β) (d:α) (l:List α):(List.range l.length).map (λi=>g (l.getD i d))=l.map g:=by
 apply Tt
 ·simp
 ·intro i h1 h2;simp at h1;simp [h1]
theorem iter_T {ns:List Int} {Q:Value->Shared->Prop} (T:iG prog w s.heap a (wq w) ns) (few:ns.length<1000)
 (k:∀(h':Heap) (d) (I:Addr),(∀b o,s.heap.get? b=some o->h'.get? b=some o)->s.heap.objs.size<=I->I<h'.objs.size->h'.objs.size<=s.heap.objs.size+2->WalkOk prog w h' I a s.heap.objs.size ns->Q (.ref I) {s with heap:=h',drawn:=d}):
 wpAny (model prog w) A (pyIter (.ref a)) Q E s:=by
 obtain ⟨o,es,ep,t,⟨Kq,ex,data⟩,elems,⟨fit,good⟩,rfl,nd⟩:=T;have D:SetD prog w o es ep t:=⟨ex,data,elems,fit,good⟩;have ty:s.TypeIs (.ref a) "set":=⟨_,Kq,ex.1⟩;have la:a<s.heap.objs.size:=Qu Kq;refine wpAny_pyIter_slot ty F.slot_set_iter (jac F.slot_set_iter ty iu ?_ (F.args_set_iter_1 _));unfold Builtin.«frozenset.__iter__» Builtin.Frozenset.slot0 Builtin.Frozenset.sizeOf;refine Qg (Qg (Qp (show wpAny _ _ (pure a) _ _ s from Qp ?_)));refine Qg (Qg (jbp Kq data fit (Qp ?_)));unfold setDrawn;refine Qg (Qg (jbE Kq data fit ?_));dsimp only;refine Qg (qW (Qp ?_));have vals:∀l:List (Int×Value),l.Perm es.toList->(l.map λe=>UX e.2).Perm (es.toList.map λe=>UX e.2):=λl p=>p.map _;have szn:es.size<1000:=by simpa using few
 split
 ·refine Qg (GJ es.size (List.range es.size) _ _ jbD λd ys hp=>?_);have ly:ys.length=es.size:=by rw [hp.length_eq,jbD]
  simp only [newTuple]
  refine Qg (jad ?_ (by
   show (List.map _ ys).toArray.size<=sizeLine
   rw [sizeLine_eq,QG,Qa];omega))
  dsimp only;have g1:(s.heap.push {cls:= .type "tuple",data:= .seq (ys.map λ(p:Nat)=>rawInt p).toArray}).get? a=some o:=Qi _ Kq;have gt:(s.heap.push {cls:= .type "tuple",data:= .seq (ys.map λ(p:Nat)=>rawInt p).toArray}).get? s.heap.objs.size=some {cls:= .type "tuple",data:= .seq (ys.map λ(p:Nat)=>rawInt p).toArray}:=Qw _ rfl;have LO:(s.heap.push {cls:= .type "tuple",data:= .seq (ys.map λ(p:Nat)=>rawInt p).toArray}).objs.size=s.heap.objs.size+1:=QW ..;generalize Of:s.heap.push {cls:= .type "tuple",data:= .seq (ys.map λ(p:Nat)=>rawInt p).toArray}=h1 at g1 gt LO⊢;have k1:∀b o,s.heap.get? b=some o->h1.get? b=some o:=λb o e=>by rw [<-Of];exact Qi _ e
  refine Qg (wpAny_setEpoch_of (s:={s with heap:=h1,drawn:=d}) g1 data fit ?_);simp only [newFields];refine Qg (jad (Qp ⟨_,rfl,"set_iterator",_,⟨_,Qw _ rfl,rfl⟩,ym.lookup,?_⟩));refine k _ d _ (λb o e=>Qi _ (k1 b o e)) (by show _<=h1.objs.size;rw [LO];exact jao _) (by rw [QW];exact To _) (by rw [QW,LO];exact Qv _) ?_;have nea:a≠h1.objs.size:=by rw [LO];exact QM (TC la)
  have net:s.heap.objs.size≠h1.objs.size:=by rw [LO];exact QM (To _)
  have Ln:∀p∈ys,p<es.size:=λp Ll=>by
   have:=hp.mem_iff.mp Ll;exact jca.mp this
  refine ⟨[h1.objs.size,a,s.heap.objs.size],ys.length,_,_,ys.map λp=>UX (es.toList.getD p (0, .none)).2,⟨⟨_,Qw _ rfl,rfl,rfl⟩,Qi _ g1,Qi _ gt⟩,Qe,λb hb=>?_,(Qa ..).symm,?_,λi v hv=>?_,λA' q=>pF q nea net D rfl Ln⟩
  ·rw [QW]
   rcases Qm.mp hb with z|hb
   ·rw [z];exact ⟨To _, .inr (by rw [LO];exact jao _)⟩
   rcases Qm.mp hb with z|hb
   ·rw [z,LO];exact ⟨TC (TC la), .inl rfl⟩
   ·rw [Qq.mp hb,LO];exact ⟨TC (To _), .inr (Qv _)⟩
  ·have p1:=hp.map λp=>UX (es.toList.getD p (0, .none)).2;have e:=AO (λe:Int×Value=>UX e.2) (0, .none) es.toList;rw [jay] at e;rw [e] at p1;exact p1
  ·obtain ⟨p,e,Mi,Pd,rfl⟩:=hv;have me:e∈es.toList:=Qc (i:=p) (by simpa using Pd);obtain ⟨tk,ht⟩:=tD D me;refine ⟨tk,UX e.2,?_,ht⟩;have eg:es.toList.getD p (0, .none)=e:=by rw [Qk,Array.getElem?_toList,Pd];rfl
   rw [Qh,Mi];show some (UX (es.toList.getD p (0, .none)).2)=_;rw [eg]
 ·rename_i z
  have pl:byT w=true\/(t.plain=true\/es.size<=1):=by
   have z':¬(!byT w && (!t.plain && decide (es.size>1)))=true:=z
   cases h1:byT w with
   |true=>exact .inl rfl
   |false=>
    cases h2:t.plain with
    |true=>exact .inr (.inl rfl)
    |false=>
     right;right
     rw [h1,h2] at z';simp at z';exact z'
  refine Qg (Qp (Qg (wpAny_setEpoch_of Kq data fit ?_)));simp only [newFields];refine Qg (jad (Qp ⟨_,rfl,"set_iterator",_,⟨_,Qw _ rfl,rfl⟩,ym.lookup,?_⟩));refine k _ s.drawn _ (λb o e=>Qi _ e) (Qv _) (by rw [QW];exact To _) (by rw [QW];exact jao _) ?_
  have osz:(mj w a ep es).size=es.size:=by
   have:=(UE w a ep es).length_eq
   simpa using this
  refine ⟨[s.heap.objs.size,a],es.size,_,_,(mj w a ep es).toList.map λe=>UX e.2,⟨⟨0,Or.inr (vS good.1),_,Qw _ rfl,rfl,rfl⟩,Qi _ Kq⟩,Qe,λb hb=>?_,by rw [Qa,jay,osz],vals _ (UE w a ep es),λi v hv=>?_,λA' q=>wG q (QM la) D pl⟩
  ·rw [QW]
   rcases Qm.mp hb with z|hb
   ·rw [z];exact ⟨To _, .inr (Qv _)⟩
   ·rw [Qq.mp hb];exact ⟨TC la, .inl rfl⟩
  ·obtain ⟨e,he,rfl⟩:=hv;have me:e∈es.toList:=(UE w a ep es).mem_iff.mp (Qc (i:=i) (by simpa using he));obtain ⟨tk,ht⟩:=tD D me;refine ⟨tk,UX e.2,?_,ht⟩;rw [Qh,Array.getElem?_toList,he];rfl
end
section
variable {prog:Program} {w:World} {A:Around} {E:Value->Shared->Prop} {s:Shared} {a I:Addr}
theorem hint_T {ns:List Int} {Q:Bool->Shared->Prop} (ty:s.TypeIs (.ref a) "set") (k:Q false s):wpAny (model prog w) A (Builtin.List.listLengthHint (.ref a)) Q E s:=by
 unfold Builtin.List.listLengthHint;refine Qg (wpAny_specialOf ty F.slot_set_len.lookup ?_);dsimp only;rw [show splitId "set.__len__"=some ("set","__len__") by decide+kernel];dsimp only;refine Qg (wpAny_isInstance ty sub_set_self ?_);rw [QO (by simp),QH (by decide+kernel)];exact Qg (wpAny_typeOf ty (Qp k))
theorem BX:∀{vs:List Value} {os:List Int},vs.length=os.length->(∀(j:Nat) (v:Value),vs[j]? =some v->∃tk k,os[j]? =some k/\v=Value.int k tk)->PyProof.Rows.IntsAre vs os
 |[],[],_,_=> .nil
 |v::vs,k::os,hl,h=>by
  obtain ⟨tk,k',h1,rfl⟩:=h 0 v rfl;cases h1
  exact .cons k tk (BX (by simpa using hl) λj v hv=>by
   obtain ⟨tk,k,h1,h2⟩:=h (j+1) v (by simpa using hv)
   exact ⟨tk,k,by simpa using h1,h2⟩)
 |[],_::_,h,_=>by simp at h
 |_::_,[],h,_=>by simp at h
theorem CA {ns:List Int} {Q:List Value->Shared->Prop} (quiet:A.handled=none) (T:iG prog w s.heap a (wq w) ns) (few:ns.length<1000)
 (k:∀(h':Heap) (d) (tk:Nat) (vs:List Value) (os:List Int),(∀b o,s.heap.get? b=some o->h'.get? b=some o)->s.heap.objs.size<h'.objs.size->PyProof.Rows.IntsAre vs os->os.Perm ns->Q vs {s with heap:=h',drawn:=d,toks:=tk}):wpAny (model prog w) A (collect (.ref a)) Q E s:=by
 have la:a<s.heap.objs.size:=by obtain ⟨_,_,_,_,⟨g,_⟩,_⟩:=T;exact Qu g
 unfold collect;refine Qg (wpAny_runValue (jby PySem.F.entry_proto_collect ?_));rw [jbj PySem.F.plain_proto_collect _];show wpAny _ A.in1 (newList []>>=λl=>again (.builtin "list.__iadd__" ⟨[l, .ref a],[]⟩)) _ _ s;refine Qg (jad (Qp ⟨plainId_quiet PySem.F.plain_list_iadd _,jby PySem.F.entry_list_iadd ?_⟩));rw [jbj PySem.F.plain_list_iadd _];show wpAny _ A.in1 (Builtin.List.listExtendWith (.ref s.heap.objs.size) (.ref a) (.ref s.heap.objs.size)) _ _ _;unfold Builtin.List.listExtendWith;generalize Of:s.heap.push {cls:= .type "list",data:= .seq ([]:List Value).toArray}=h1;have g1:h1.get? s.heap.objs.size=some {cls:= .type "list",data:= .seq ([]:List Value).toArray}:=by rw [<-Of];exact Qw _ rfl
 have LO:h1.objs.size=s.heap.objs.size+1:=by rw [<-Of];exact QW ..
 have k1:∀b o,s.heap.get? b=some o->h1.get? b=some o:=λb o e=>by rw [<-Of];exact Qi _ e
 have T1:iG prog w h1 a (wq w) ns:=T.kept λo e=>k1 a o e;have ty1:Shared.TypeIs {s with heap:=h1} (.ref a) "set":=let ⟨_,_,_,_,⟨g,x,_⟩,_⟩:=T1;⟨_,g,x.1⟩
 have ne:s.heap.objs.size≠a:=jbb la;refine Qg (wpAny_typeOf (s:={s with heap:=h1}) ty1 ?_);have c1:Builtin.List.listSameRef (.ref s.heap.objs.size) (.ref a)=false:=by unfold Builtin.List.listSameRef;simpa using ne
 rw [c1,show (Value.type "set"==Value.type "list")=false by decide,show (Value.type "set"==Value.type "tuple")=false by decide,QO (by simp)];refine Qg (iter_T (s:={s with heap:=h1}) T1 few λh2 d I k2 lI hI SO W=>?_);dsimp only at k2 lI SO;have T2:iG prog w h2 a (wq w) ns:=T1.kept λo e=>k2 a o e;have ty2:Shared.TypeIs {s with heap:=h2,drawn:=d} (.ref a) "set":=let ⟨_,_,_,_,⟨g,x,_⟩,_⟩:=T2;⟨_,g,x.1⟩
 refine Qg (jax (hint_T (ns:=ns) (s:={s with heap:=h2,drawn:=d}) ty2 ?_));rw [QH (by decide+kernel)];refine Qg (jcd ?_);have g2:=k2 _ _ g1;have g3:=jaH (Obj.mapSeq (·.push Value.none)) g2 rfl;have g4:=jaH (Obj.mapSeq (·.pop)) g3 rfl;refine Qg (show wpAny _ A.in1 (updateSeq s.heap.objs.size (·.push .none)>>=λ_=>updateSeq s.heap.objs.size (·.pop)) _ _ _ from Qg (wpAny_updateSeq g2 rfl (wpAny_updateSeq g3 rfl ?_)));obtain ⟨fp,n,P,St,os,st0,mI,bfp,hn,perm,val,Wk⟩:=W
 have out:s.heap.objs.size∉fp:=λz=>by
  rcases (bfp _ z).2 with e|e
  ·exact ne e
  ·dsimp only at e;rw [LO] at e;exact absurd e (Nat.not_le.mpr (To _))
 have nsz:n<=sizeLine:=by
  have:=perm.length_eq;rw [sizeLine_eq];omega
 have oth:∀b o,b≠s.heap.objs.size->h2.get? b=some o->((h2.update s.heap.objs.size (Obj.mapSeq (·.push Value.none))).update s.heap.objs.size (Obj.mapSeq (·.pop))).get? b=some o:=
  λb o hb e=>(jbq _ _ (Ne.symm hb)).trans ((jbq _ _ (Ne.symm hb)).trans e)
 have WS:=(Wk A.in1 (by simp [quiet])).toS;refine Qp ⟨plainId_quiet PySem.F.plain_extend_loop _,codeAny_extend_loopS WS nsz _ out _ n 0 _ _ _ rfl (jal _) ((Wk A.in1 (by simp [quiet])).frame 0 h2 _ st0 λb hb o e=>oth b o (λz=>out (z▸hb)) e) g4 (ItemsOf.nil P) λs' acc c mv gS items=>?_⟩;refine (show wpAny _ A (load s.heap.objs.size>>=_) _ _ s' from Qg (wpAny_load gS (Qp ?_)));obtain ⟨h',g',d',PB,MS⟩:=s';have eg:g'=s.gens:=mv.gens;have ed:d'=d:=mv.drawn;have eo:MS=s.os:=mv.os;subst eg;subst ed;subst eo;refine k h' d' PB acc.toList os (λb o e=>?_) (Qu gS) (BX ?_ λj v hv=>?_) perm
 ·have hb:b<s.heap.objs.size:=Qu e;refine mv.heap b o (λz=>?_) (oth b o (QM hb) (k2 b o (k1 b o e)))
  rcases Qm.mp z with z|z
  ·exact absurd hb (by rw [z];exact jaw _)
  ·rw [Qq.mp z] at hb;rw [LO] at lI;exact absurd hb (Nat.not_lt.mpr (QU (jao _) lI))
 ·rw [jay,items.1,hn]
 ·obtain ⟨tk,kk,Mi,Pd⟩:=val j v (items.2 j v (by simpa using hv));exact ⟨tk,kk,Mi,Pd⟩
theorem DM {ns:List Int} {Q:Value->Shared->Prop} (quiet:A.handled=none) (T:iG prog w s.heap a (wq w) ns) (few:ns.length<64)
 (k:∀(h':Heap) (d) (tk:Nat) (L:Addr) (out:Array Value) (os:List Int) (e:Nat),(∀b o,s.heap.get? b=some o->h'.get? b=some o)->s.heap.objs.size<=L->h'.get? L=some (PyProof.Rows.seqObj "list" out e)->PyProof.Rows.IntsAre out.toList os->os.Perm ns->os.Pairwise (·<=·)->Q (.ref L) {s with heap:=h',drawn:=d,toks:=tk}):
 wpAny (model prog w) A (call (.builtin "sorted") [.ref a]) Q E s:=by
 refine Calls.call_function_entry PyProof.Rows.kind_sorted PyProof.Rows.plain_sorted PyProof.Rows.entry_sorted (PyProof.Rows.args_sorted1 _) ?_;unfold Builtin.«sorted»;refine Qg (m:=checkCount "sorted" 1 1 _) (Qp (Qg (CA (by simp [quiet]) T (by omega) λh1 d tk vs os keep lt isI perm=>Qg (wpAny_newList ?_ (by rw [sizeLine_eq,isI.length,perm.length_eq];omega)))));have gL:(h1.push (PyProof.Rows.seqObj "list" vs.toArray 0)).get? h1.objs.size=some (PyProof.Rows.seqObj "list" vs.toArray 0):=Qw _ rfl
 have lv:vs.length<64:=by
  have e1:=isI.length;have e2:=perm.length_eq;omega
 show wpAny _ _ _ _ _ {s with heap:=h1.push (PyProof.Rows.seqObj "list" vs.toArray 0),drawn:=d,toks:=tk};refine Qg (jax (jac PyProof.Rows.slot_list_sort ⟨_,gL,rfl⟩ PyProof.Rows.entry_list_sort (PyProof.Rows.list_sort_tree (s:={s with heap:=h1.push (PyProof.Rows.seqObj "list" vs.toArray 0),drawn:=d,toks:=tk}) gL isI lv λout MS a1 a2 a3=>⟨_,rfl,?_⟩) (PyProof.Rows.args_list_sort _)));obtain ⟨e,he⟩:=PyProof.Rows.sortedHeap_at (out:=out) gL;refine Qp ⟨_,rfl,k _ d tk _ out MS e (λb o g=>?_) (jbM lt) he a1 (a2.trans perm) a3⟩;have lb:b<h1.objs.size:=Qu (keep b o g);rw [PyProof.Rows.sortedHeap_old (QM lb) (by rw [QW];exact TC lb)];exact Qi _ (keep b o g)
end
end S
namespace S
open PySem PySem.Spec PyProof.Rows L2
theorem iG.nodup    (T:iG prog w h a b ns):ns.Nodup:=by
 obtain ⟨_,_,_,_,_,_,_,_,nd⟩:=T;exact nd
theorem bt_set:bootBuiltins "set"=some (.type "set"):=by decide+kernel
theorem vR:bootBuiltins "sorted"=some (.builtin "sorted"):=by decide+kernel
theorem le_lt:∀{l:List Int},l.Pairwise (·<=·)->l.Nodup->l.Pairwise (·<·)
 |[],_,_=>List.Pairwise.nil
 |x::l,h,nd=>by
  obtain ⟨h1,h2⟩:=Ql.mp h;obtain ⟨n1,n2⟩:=TX.mp nd;refine Ql.mpr ⟨λy hy=>?_,le_lt h2 n2⟩;have:=h1 y hy;have:x≠y:=λe=>n1 (e▸hy);omega
section
variable {X:Cx}
theorem Inv.redrawn   (I:Inv X pins σ H s):Inv X pins σ H {s with drawn:=d}:=⟨I.ok,I.os,I.bare,I.base,I.loc,I.cell,I.free,I.freeC,I.pin,I.hok,I.len⟩
def AQ (K:Frg):V->Hp->VK->Prop:=λx H1 Q=>∃(p:Addr) (ns:List Int),x= .ref p/\SqL K H1 p (ns.map V.int)/\ns.length<60/\∀(os:List Int) (l:Addr),os.Pairwise (·<·)->(∀k,k∈os↔k∈ns)->H1 l=none->Q (.ref l) (upd H1 l (.lst (os.map V.int)))
def Gi (K:Frg) (te:TE):TE:=λσ H Q=>te σ H λx H1=>AQ K x H1 Q
theorem bX:∀{ns:List Int} {us:List Value},IntsAre us ns->xx (ns.map V.int) us
 |[],_, .nil=> .nil
 |n::ns,_, .cons _ t r=> .cons ⟨t,rfl⟩ (bX r)
theorem Eh  (hc:X.calm=true) (g1:Gl X "sorted") (m1:X.mg "sorted"=none) (g2:Gl X "set") (m2:X.mg "set"=none) (he:PE X e te)
 (SR:starEach [.Call (.Name "set" p2) [e] [] q2] X.env=[(false,eval (.Call (.Name "set" p2) [e] [] q2) X.env)]:=by rfl) (La:starEach [e] X.env=[(false,eval e X.env)]:=by rfl):
 PE X (.Call (.Name "sorted" p1) [.Call (.Name "set" p2) [e] [] q2] [] q1) (Gi X.K te):=by
 intro pins s σ H Q I h;refine jaL (Vx I g1 m1 vR ?_ (by decide) (by decide));refine PyProof.Rows.callWith_builtin1 ?_ SR (by rfl);rw [SR];show wpAny _ _ (spliced ((false,eval (.Call (.Name "set" p2) [e] [] q2) X.env)::backTo q1 (starEach [] X.env))) _ _ s;refine Calls.spliced_cons ?_;refine jaL (Vx I g2 m2 bt_set ?_ (by decide) (by decide));refine TV (thn ((WI he fh La) q2 pins s σ H (λvs H1=>match vs with|[x]=>AQ X.K x H1 Q|_=>False) I h) λus s1 ⟨vs,H1,I1,r1,r2⟩=>?_) La (by rfl)
 match vs,r1,r2 with
 |[x],r1,r2=>
  obtain ⟨p,ns,rfl,hq,few,k⟩:=r2;obtain ⟨u,rfl,rx⟩:=cy r1;cases rx;obtain ⟨its,rv,pl,_⟩:=I1.list hq;have hi:=Xm rv;have hl:=hi.length;have quiet:=I1.ok.hd hc;refine vP quiet pl.isList (by simpa using hi) (by simpa using (by omega:its.length<900)) λh2 Pz T hT hx hlT NR=>?_;refine Calls.spliced_nil ?_;have kp2:∀b o,s1.heap.get? b=some o->h2.get? b=some o:=λb o e=>NR b o (Qu e) e;have I2:Inv X pins σ H1 {s1 with heap:=h2,toks:=Pz}:=I1.kept (t':=Pz) kp2;refine DM (s:={s1 with heap:=h2,toks:=Pz}) quiet hT (by omega) λh3 d SN L out os e NQ le gL isO perm sorted=>?_;have I3:=Inv.redrawn (d:=d) I2;have nd:os.Nodup:=perm.nodup_iff.mpr hT.nodup;have lo:=isO.length;have po:=perm.length_eq;have I4:Inv X pins σ (upd H1 L (.lst (os.map V.int))) {s1 with heap:=h3,drawn:=d,toks:=SN}:=I3.laid (t':=SN) NQ le (show Yd X.prog X.w _ _ _ (.lst (os.map V.int)) from ⟨?_,out.toList,e,bX isO,?_⟩)
  ·exact ⟨.ref L,_,I4,rfl,k os L (le_lt sorted nd) (λx=>by rw [perm.mem_iff];exact hx x) (I2.hok.fresh le)⟩
  ·rw [Qa,sizeLine_eq];omega
  ·simpa using gL
end
section
variable {X:Cx}
def rMinT (K:Frg):List V->Hp->VK->Prop:=λxs H Q=>∃(p:Addr) (ns:List Int),xs=[.ref p]/\SqT K H p (ns.map V.int)/\0<ns.length/\∀m,m∈ns->(∀x∈ns,m<=x)->Q (.int m) H
def HK (K:Frg):List V->Hp->VK->Prop:=λxs H Q=>∃(p:Addr) (ns:List Int),xs=[.ref p]/\SqL K H p (ns.map V.int)/\0<ns.length/\∀m,m∈ns->(∀x∈ns,x<=m)->Q (.int m) H
theorem Vd  (hi:IntsAre its ns):∀(i:Nat) (v:Value),its.toArray[i]? =some v->∃t,v= .int ((λi=>ns.getD i 0) i) t:=λi v hv=>PyProof.Rows.IntsAre.int_at hi i v (by simpa using hv)
theorem CC (hc:X.calm=true):XY X (.builtin "min") (rMinT X.K):=by
 intro pins s σ H xs us Q I r h;obtain ⟨p,ns,rfl,hq,KN,q⟩:=h;obtain ⟨u,rfl,rx⟩:=cy r;cases rx;obtain ⟨its,rv,ht,hz⟩:=I.tuple hq;have hi:=Xm rv;have hl:=hi.length;have below:p≠s.heap.objs.size:=let ⟨_,e,_⟩:=ht;QM (Qu e)
 refine call_min_walk (jap ht ⟨_,_,_,_,_,_,_,rfl,Walks.tuple (A:=X.A.in1) (I.ok.hd hc) _ p below its.toArray,⟨⟨_,Qw _ rfl,rfl,rfl⟩,ht.push _⟩,λb hb=>?_,by simpa using (by omega:0<its.length),CmpOf.ints_lt (λi=>ns.getD i 0) (Vd hi),λv h' tk hP hk=>?_⟩)
 ·rw [QW]
  rcases Qm.mp hb with z|z
  ·rw [z];exact To _
  ·rw [Qq.mp z];obtain ⟨_,e,_⟩:=ht;exact TC (Qu e)
 ·obtain ⟨t,rfl⟩:=Vd hi _ v hP;obtain ⟨h1,h2⟩:=argBest_lt (λi=>ns.getD i 0) (its.toArray.size - 1);have szn:its.toArray.size=ns.length:=by simpa using hl
  rw [szn] at h1 h2;rw [szn];refine ⟨.int _,H,I.kept (t':=tk) λb o e=>hk b o (λz=>?_) (Qi _ e),⟨t,rfl⟩,q _ ?_ λx hx=>?_⟩
  ·rw [Qq.mp z] at e;exact absurd (Qu e) (jaw _)
  ·dsimp only;rw [Qk,Qb (by omega)];exact Td _
  ·obtain ⟨j,hj,rfl⟩:=QR hx;have:=h2 j (by omega);rwa [show ns.getD j 0=ns[j] by rw [Qk,Qb hj];rfl] at this
theorem call_maxL (hc:X.calm=true):XY X (.builtin "max") (HK X.K):=by
 intro pins s σ H xs us Q I r h;obtain ⟨p,ns,rfl,hq,KN,q⟩:=h;obtain ⟨u,rfl,rx⟩:=cy r;cases rx;obtain ⟨its,rv,pl,hz⟩:=I.list hq;have ht:=pl.isList;have hi:=Xm rv;have hl:=hi.length;have below:p≠s.heap.objs.size:=let ⟨_,e,_⟩:=ht;QM (Qu e)
 refine call_max_walk (jam ht ⟨_,_,_,_,_,_,_,rfl,Walks.list (A:=X.A.in1) (I.ok.hd hc) _ p below its.toArray,⟨⟨_,Qw _ rfl,rfl,rfl⟩,ht.push _⟩,λb hb=>?_,by simpa using (by omega:0<its.length),CmpOf.ints_gt (λi=>ns.getD i 0) (Vd hi),λv h' tk hP hk=>?_⟩)
 ·rw [QW]
  rcases Qm.mp hb with z|z
  ·rw [z];exact To _
  ·rw [Qq.mp z];obtain ⟨_,e,_⟩:=ht;exact TC (Qu e)
 ·obtain ⟨t,rfl⟩:=Vd hi _ v hP;obtain ⟨h1,h2⟩:=argBest_gt (λi=>ns.getD i 0) (its.toArray.size - 1);have szn:its.toArray.size=ns.length:=by simpa using hl
  rw [szn] at h1 h2;rw [szn];refine ⟨.int _,H,I.kept (t':=tk) λb o e=>hk b o (λz=>?_) (Qi _ e),⟨t,rfl⟩,q _ ?_ λx hx=>?_⟩
  ·rw [Qq.mp z] at e;exact absurd (Qu e) (jaw _)
  ·dsimp only;rw [Qk,Qb (by omega)];exact Td _
  ·obtain ⟨j,hj,rfl⟩:=QR hx;have:=h2 j (by omega);rwa [show ns.getD j 0=ns[j] by rw [Qk,Qb hj];rfl] at this
end
theorem bZ  (Lj:a.1<b.1) (lk:k.2.length=m) (la:a.2.length=m) (h1:zQ k a b) (h2:zQ a b c):zQ k b c:=λi K B C hK hB hC=>by
 have hi:i<m:=by rw [<-lk];exact (Qd.mp hK).1
 have hA:=Qb (l:=a.2) (i:=i) (by omega);have e1:=h1 i K _ B hK hA hB;have e2:=h2 i _ B C hA hB hC;generalize a.2[i]=A at*;have e3:(B - K)*(b.1 - a.1)=(B - A)*(b.1 - k.1):=by grind
 have e4:(C - K)*(b.1 - a.1)=(B - A)*(c.1 - k.1):=by grind
 have e5:((B - K)*(c.1 - k.1) - (C - K)*(b.1 - k.1))*(b.1 - a.1)=0:=by
  have:((B - K)*(c.1 - k.1) - (C - K)*(b.1 - k.1))*(b.1 - a.1)=((B - K)*(b.1 - a.1))*(c.1 - k.1) - ((C - K)*(b.1 - a.1))*(b.1 - k.1):=by grind
  rw [this,e3,e4];grind
 have:=zY e5 (xK Lj)
 grind
theorem dg  (lc:c.2.length=m) (ld:d.2.length=m):(Yx c d e).length=m:=by
 unfold Yx;rw [Qy,lc,ld];exact TN _
theorem qu   (Lj:a.1<b.1) (Li:b.1<c.1) (la:a.2.length=m) (lb:b.2.length=m) (lc:c.2.length=m) (st:zQ a b c) (Ot:a.1<=e):zh (a::b::c::r) e=zh (a::c::r) e:=by
 have hac:=yU Lj Li
 by_cases h1:e<b.1
 ·rw [zh,QH h1,zh,QH (yU h1 Li)];refine (Ud hac (by rw [la,lc]) (by rw [la,dg la lb]) λi p q z hp hq hz=>?_).symm;obtain ⟨p',b',Ll,KW,ez⟩:=ZI hz;rw [hp] at Ll;cases Ll;have l1:=yV (x:=p) (y:=b') (E:=e) Lj;rw [<-ez] at l1;have s:=st i p b' q hp KW hq
  have:((z - p)*(c.1 - a.1) - (q - p)*(e - a.1))*(b.1 - a.1)=0:=by
   have:((z - p)*(c.1 - a.1) - (q - p)*(e - a.1))*(b.1 - a.1)=((z - p)*(b.1 - a.1))*(c.1 - a.1) - ((q - p)*(b.1 - a.1))*(e - a.1):=by grind
   rw [this,l1,<-s];grind
  have:=zY this (xK Lj)
  grind
 ·rw [zZ (Tf.mp h1)]
  by_cases h2:e<c.1
  ·rw [zh,QH h2,zh,QH h2];refine (Ud hac (by rw [la,lc]) (by rw [la,dg lb lc]) λi p q z hp hq hz=>?_).symm;obtain ⟨b',q',KW,LA,ez⟩:=ZI hz;rw [hq] at LA;cases LA;have l1:=yV (x:=b') (y:=q) (E:=e) Li;rw [<-ez] at l1;have s:=st i p b' q hp KW hq;have s1:(b' - p)*(c.1 - b.1)=(q - b')*(b.1 - a.1):=by grind
   have:((z - p)*(c.1 - a.1) - (q - p)*(e - a.1))*(c.1 - b.1)=0:=by
    have k1:(z - p)*(c.1 - b.1)=(e - b.1)*(q - b')+(b' - p)*(c.1 - b.1):=by grind
    have k2:((z - p)*(c.1 - a.1) - (q - p)*(e - a.1))*(c.1 - b.1)=((z - p)*(c.1 - b.1))*(c.1 - a.1) - (q - p)*(e - a.1)*(c.1 - b.1):=by grind
    rw [k2,k1,s1]
    grind
   have:=zY this (xK Li)
   grind
  ·rw [zZ (Tf.mp h2),zZ (Tf.mp h2)]
theorem aU  :∀(r:List zg) (k a b:zg),yl (k::b::r)->(∀x∈k::b::r,x.2.length=m)->k.1<=e->(a=k\/(k.1<a.1/\a.1<b.1/\a.2.length=m/\zQ k a b))->
 zh (k::yf a (b::r)) e=zh (k::b::r) e
 |[],k,a,b,_,_,_,_=>by rw [yf]
 |c::r,k,a,b,hr,hl,hk,ha=>by
  obtain ⟨h1,h2⟩:=Ql.mp hr;obtain ⟨h3,h4⟩:=Ql.mp h2;have Nb:=h1 b (Qe ..);have Li:=h3 c (Qe ..);have lk:=hl k (Qe ..);have lb:=hl b (Qf _ (Qe ..));have lc:=hl c (Qf _ (Qf _ (Qe ..)));rw [yf]
  split
  ·rename_i st
   have Lb:zQ k b c:=by
    rcases ha with rfl|⟨_,Lj,la,s0⟩
    ·exact st
    ·exact bZ Lj lk la s0 st
   have rk:yl (k::c::r):=Ql.mpr ⟨λx hx=>h1 x (Qf _ hx),h4⟩
   rw [aU r k b c rk (λx hx=>hl x (by
    rcases Qm.mp hx with rfl|hx
    ·exact Qe ..
    ·exact Qf _ (Qf _ hx))) hk (.inr ⟨Nb,Li,lb,Lb⟩),qu Nb Li lk lb lc Lb hk]
  ·by_cases h5:e<b.1
   ·rw [zh,QH h5,zh,QH h5]
   ·rw [zZ (Tf.mp h5),zZ (Tf.mp h5)];exact aU r b b c h2 (λx hx=>hl x (Qf _ hx)) (Tf.mp h5) (.inl rfl)
theorem lC   (hr:yl (c::r)) (hl:∀x∈c::r,x.2.length=m) (hc:c.1<=e):zh (yp (c::r)) e=zh (c::r) e:=by
 rw [yp]
 cases r with
 |nil=>rw [yf]
 |cons b r=>exact aU r c c b hr hl hc (.inl rfl)
theorem WH  :∀{c:zg} {r:List zg},c.1<=e->e<(lastC (c::r)).1->zh (c::r++M) e=zh (c::r) e
 |c,[],hc,he=>absurd he (Tf.mpr hc)
 |c,d::r,hc,he=>by
  rw [TF,TF,zh,zh]
  by_cases h:e<d.1
  ·rw [QH h,QH h]
  ·rw [QO h,QO h];rw [ZC] at he;exact WH (c:=d) (r:=r) (Tf.mp h) he
theorem ZR  :∀{c:zg} {r:List zg},yl (c::r)->(lastC (c::r)).1<=e->zh (c::r++M) e=zh (lastC (c::r)::M) e
 |c,[],_,_=>rfl
 |c,d::r,hr,he=>by
  have h2:=(Ql.mp hr).2;rw [ZC] at he⊢
  have hd:d.1<=e:=by
   refine TL ?_ he
   have m:lastC (d::r)∈d::r:=by
    unfold lastC;rw [Tc (by simp)];exact List.getLast_mem _
   rcases Qm.mp m with z|z
   ·rw [z];exact QQ
   ·exact QC ((Ql.mp h2).1 _ z)
  rw [TF,TF,zZ hd];exact ZR h2 he
theorem CG  (lc:c.2.length=m) (lq:q.2.length=m) (ld:d.2.length=m):Yx (Vq c q) (Vq c d) e=List.zipWith (·+·) c.2 (Yx q d (e - c.1)):=by
 have et:(e - (Vq c q).1) / ((Vq c d).1 - (Vq c q).1)=(e - c.1 - q.1) / (d.1 - q.1):=by
  show (e - (c.1+q.1)) / ((c.1+d.1) - (c.1+q.1))=_;rw [show e - (c.1+q.1)=e - c.1 - q.1 by grind,show c.1+d.1 - (c.1+q.1)=d.1 - q.1 by grind]
 unfold Yx;rw [et];generalize (e - c.1 - q.1) / (d.1 - q.1)=t;show List.zipWith (xC t) (List.zipWith (·+·) c.2 q.2) (List.zipWith (·+·) c.2 d.2)=_
 apply Tt
 ·simp only [Qy];omega
 ·intro i h1 h2;simp only [Tb];unfold xC
  grind
theorem eZ  (lc:c.2.length=m):∀{q:zg} {r:List zg},(∀x∈q::r,x.2.length=m)->zh ((q::r).map (Vq c)) e=List.zipWith (·+·) c.2 (zh (q::r) (e - c.1))
 |q,[],_=>rfl
 |q,d::r,h=>by
  rw [Qo,Qo,zh,zh]
  have hd:e<(Vq c d).1↔e - c.1<d.1:=by
   show e<c.1+d.1↔_
   constructor<;>intro h<;>grind
  by_cases h1:e - c.1<d.1
  ·rw [QH h1,QH (hd.mpr h1)];exact CG lc (h q (Qe ..)) (h d (Qf _ (Qe ..)))
  ·rw [QO h1,QO λz=>h1 (hd.mp z)];have:=eZ (e:=e) lc (q:=d) (r:=r) λx hx=>h x (Qf _ hx);rw [Qo] at this;exact this
theorem Cp {a b p:Rat} (hp:0<p):a<b*p↔a / p<b:=by
 have KN:p≠0:=λz=>by rw [z] at hp;exact jaS hp
 have hc:a=a / p*p:=by rw [TZ,Rat.mul_assoc,Rat.inv_mul_cancel _ KN,Rat.mul_one]
 constructor
 ·intro h;refine jaf.mp λhle=>?_;have:=Rat.mul_le_mul_of_nonneg_right hle (QC hp);rw [<-hc] at this;exact Tf.mpr this h
 ·intro h;have:=Rat.mul_lt_mul_of_pos_right h hp;rwa [<-hc] at this
theorem WG {p e:Rat} (hp:0<p):∀{a:List zg},zh (zW p a) e=(zh a (e / p)).map (·*p)
 |[]=>rfl
 |[c]=>rfl
 |c::d::r=>by
  have ih:=WG (e:=e) hp (a:=d::r);unfold zW at*;rw [Qo,Qo,zh,zh]
  by_cases h:e / p<d.1
  ·rw [QH h,QH ((Cp hp).mpr h)];have KN:p≠0:=λz=>by rw [z] at hp;exact jaS hp
   have et:(e - c.1*p) / (d.1*p - c.1*p)=(e / p - c.1) / (d.1 - c.1):=by
    have i1:=QT p KN
    have k1:e - c.1*p=(e / p - c.1)*p:=by
     rw [TZ];generalize p⁻¹=j at*;grind
    have k2:d.1*p - c.1*p=(d.1 - c.1)*p:=by grind
    rw [k1,k2]
    by_cases z:d.1 - c.1=0
    ·rw [z,jbe,TZ,Rat.inv_zero,Rat.mul_zero,TZ,Rat.inv_zero,Rat.mul_zero]
    ·have z2:(d.1 - c.1)*p≠0:=λh=>z (zY h KN);have i2:=QT _ z;have i3:=QT _ z2;rw [TZ,TZ ((e / p - c.1))];generalize (d.1 - c.1)⁻¹=j at*;generalize ((d.1 - c.1)*p)⁻¹=l at*;generalize e / p - c.1=u at*;generalize d.1 - c.1=v at*;have:u*p*l=u*p*l*(v*j):=by rw [i2,Rat.mul_one]
     rw [this];have:u*p*l*(v*j)=u*j*(v*p*l):=by grind
     rw [this,i3,Rat.mul_one]
   unfold Yx;dsimp only;rw [et];generalize (e / p - c.1) / (d.1 - c.1)=t
   apply Tt
   ·simp
   ·intro i h1 h2;simp only [Tb,jaF];unfold xC
    grind
  ·rw [QO h,QO λz=>h ((Cp hp).mp z)];rw [Qo] at ih;exact ih
def mn (a l:Rat):Rat:=if a<=l then a else l
theorem GA (a l:Int):((min a l:Int):Rat)=mn (a:Rat) (l:Rat):=by
 unfold mn
 by_cases h:a<=l
 ·rw [QH (Te.mpr h),Int.min_eq_left h]
 ·rw [QO λz=>h (Te.mp z),Int.min_eq_right (by omega)]
theorem mn_mix (t0:0<=t) (t1:t<=1) (h:(a<=x/\a<=y)\/(x<=a/\y<=a)):xC t (mn a x) (mn a y)=mn a (xC t x y):=by
 rcases h with ⟨h1,h2⟩|⟨h1,h2⟩
 ·have e1:mn a x=a:=by unfold mn;rw [QH h1]
  have e2:mn a y=a:=by unfold mn;rw [QH h2]
  have r:a<=xC t x y:=by
   have a1:=Ta t0 (show 0<=y - a by grind);have a2:=Ta (show 0<=1 - t by grind) (show 0<=x - a by grind);unfold xC;grind
  have e3:mn a (xC t x y)=a:=by unfold mn;rw [QH r]
  rw [e1,e2,e3];unfold xC;grind
 ·have m:∀z,z<=a->mn a z=z:=λz hz=>by
   unfold mn
   split
   ·exact jaC (by assumption) hz
   ·rfl
  have r:xC t x y<=a:=by
   have a1:=Ta t0 (show 0<=a - y by grind);have a2:=Ta (show 0<=1 - t by grind) (show 0<=a - x by grind);unfold xC;grind
  rw [m x h1,m y h2,m _ r]
theorem uM {s d e:Rat} (h:s<d) (h1:s<=e) (h2:e<d):0<=(e - s) / (d - s)/\(e - s) / (d - s)<=1:=by
 have hp:0<d - s:=by grind
 have hi:=QT _ (xK h);have ip:0<(d - s)⁻¹:=Rat.inv_pos.mpr hp;rw [TZ];have a1:=Ta (show 0<=e - s by grind) (QC ip);have a2:=Ta (show 0<=d - e by grind) (QC ip);generalize (d - s)⁻¹=j at*
 constructor
 ·exact a1
 ·grind
theorem Ae {as ls:List Int} {G:Rat->Rat->Rat} {C:Int->zg} (hC:∀l,(C l).2=as.map λ(a:Int)=>G (a:Rat) (l:Rat)) (rise:yl (ls.map C)) (nn:∀l∈ls,0<=l)
 (mix:∀(i:Nat) (l l':Int),ls[i]? =some l->ls[i+1]? =some l'->∀a∈as,∀t:Rat,0<=t->t<=1->xC t (G (a:Rat) (l:Rat)) (G (a:Rat) (l':Rat))=G (a:Rat) (xC t (l:Rat) (l':Rat)))
 {e:Rat} {l0:Int} (h0:ls[0]? =some l0) (he:(C l0).1<=e):∃z:Rat,0<=z/\zh (ls.map C) e=as.map λ(a:Int)=>G (a:Rat) z:=by
 obtain ⟨i,q,hq,Lz,nx⟩:=lG (M:=yb (ls.map C)) (z:=(C l0).1) (by unfold yb;rw [Qr,Qh,h0];rfl) he;unfold yb at hq nx;obtain ⟨c,hc,rfl⟩:=zJ hq;obtain ⟨l,hl,rfl⟩:=zJ hc;have l0':(0:Rat)<=(l:Rat):=by exact_mod_cast Rat.intCast_nonneg.mpr (nn l (Qc hl))
 have key:=Zg (E:=e) rise hc Lz (by
  rcases nx with h|⟨r,hr,h⟩
  ·left;simpa using h
  ·obtain ⟨d,hd,rfl⟩:=zJ hr
   exact .inr ⟨d,hd,h⟩)
 rcases nx with h|⟨r,hr,h⟩
 ·rw [QF (by simp only [Qa] at h⊢;omega)] at key;refine ⟨l,l0',?_⟩;rw [key];exact hC l
 ·obtain ⟨d,hd,rfl⟩:=zJ hr;obtain ⟨l',KJ,rfl⟩:=zJ hd;rw [hd] at key;have l1':(0:Rat)<=(l':Rat):=by exact_mod_cast Rat.intCast_nonneg.mpr (nn l' (Qc KJ))
  have Kr:(C l).1<(C l').1:=by
   have:=eH (M:=yb (ls.map C)) (XQ rise) (j:=i) (by unfold yb;rw [Qh,hc];rfl) (by unfold yb;rw [Qh,hd];rfl);exact this
  obtain ⟨t0,t1⟩:=uM Kr Lz h;refine ⟨xC ((e - (C l).1) / ((C l').1 - (C l).1)) l l',?_,?_⟩
  ·have a1:=Ta t0 l1';have a2:=Ta (show 0<=1 - (e - (C l).1) / ((C l').1 - (C l).1) by grind) l0';unfold xC;grind
  ·rw [key];show Yx (C l) (C l') e=_;unfold Yx;generalize (e - (C l).1) / ((C l').1 - (C l).1)=t at*;rw [hC,hC]
   apply Tt
   ·simp
   ·intro j h1 h2;simp only [Tb,jaF];exact mix i l l' hl KJ _ (Td _) t t0 t1
theorem eY  :∀{c:zg} {r:List zg},yl (c::r)->(∀x∈c::r,x.2.length=m/\zM x.2=x.1)->c.1<=e->e<=(lastC (c::r)).1->zM (zh (c::r) e)=e
 |c,[],_,h,hc,hl=>by
  have e1:e=c.1:=jaC hl hc;rw [e1];exact (h c (Qe ..)).2
 |c,d::r,hr,h,hc,hl=>by
  have Ku:=(Ql.mp hr).1 d (Qe ..);have Kx:=h c (Qe ..);have KS:=h d (Qf _ (Qe ..))
  by_cases hd:d.1<=e
  ·rw [zZ hd];exact eY (Ql.mp hr).2 (λx hx=>h x (Qf _ hx)) hd (by rw [<-ZC c];exact hl)
  ·have Mv:e<d.1:=jaf.mp hd;rw [zh,QH Mv];unfold Yx;rw [jL _ _ _ (by rw [Kx.1,KS.1]),Kx.2,KS.2];have l1:=yV (x:=c.1) (y:=d.1) (E:=e) Ku;have:=zY (a:=xC ((e - c.1) / (d.1 - c.1)) c.1 d.1 - e) (b:=d.1 - c.1) (by grind) (xK Ku)
   grind
theorem fc  (hr:yl (c::r)) (he:(lastC (c::r)).1<=e):zh (c::r) e=(lastC (c::r)).2:=by
 have:=ZR (M:=[]) hr he;rw [jaX] at this;rw [this];rfl
def zP (h:List Int):zg:=((h.sum:Int),h.map λ(x:Int)=>(x:Rat))
theorem Uj:∀h:List Int,zM (h.map λ(x:Int)=>(x:Rat))=((h.sum:Int):Rat)
 |[]=>rfl
 |x::h=>by rw [Qo,zM,Uj h,QN,Rat.intCast_add]
theorem af {f g:Int->Int}:∀{as:List Int},(∀a∈as,f a<=g a)->(as.map f).sum<=(as.map g).sum
 |[],_=>jbL _
 |a::as,h=>by
  have ih:=af λx hx=>h x (Qf _ hx);have:=h a (Qe ..);rw [Qo,Qo,QN,QN];omega
theorem ae {f g:Int->Int}:∀{as:List Int} {b:Int},(∀a∈as,f a<=g a)->b∈as->f b<g b->(as.map f).sum<(as.map g).sum
 |[],b,_,hb,_=>by simp at hb
 |a::as,b,h,hb,Kr=>by
  rw [Qo,Qo,QN,QN];have ha:=h a (Qe ..)
  rcases Qm.mp hb with rfl|hb
  ·have:=af λx hx=>h x (Qf _ hx);omega
  ·have:=ae (λx hx=>h x (Qf _ hx)) hb Kr;omega
structure LvOk (as ls:List Int):Prop where
 rise:ls.Pairwise (·<·)
 mem:∀k,k∈ls↔k=0\/k∈as
 nn:∀a∈as,0<=a
def Wm (as:List Int) (l:Int):List Int:=as.map λa=>min a l
def UL (as:List Int) (l:Int):List Int:=as.map λa=>a - min a l
def evP (as ls:List Int):List zg:=ls.map λl=>zP (Wm as l)
def loP (as ls:List Int):List zg:=ls.reverse.map λl=>zP (UL as l)
section
variable {as ls:List Int}
theorem LvOk.nnL (h:LvOk as ls):∀l∈ls,0<=l:=λl hl=>by
 rcases (h.mem l).mp hl with rfl|z
 ·exact jbL _
 ·exact h.nn l z
theorem LvOk.zero (h:LvOk as ls):ls[0]? =some 0:=by
 have m0:(0:Int)∈ls:=(h.mem 0).mpr (.inl rfl)
 cases ls with
 |nil=>simp at m0
 |cons a l=>
  have ha:=h.nnL a (Qe ..)
  rcases Qm.mp m0 with e|e
  ·rw [e];rfl
  ·have:=(Ql.mp h.rise).1 0 e;omega
theorem LvOk.gap (h:LvOk as ls)  (hl:ls[i]? =some l) (KJ:ls[i+1]? =some l') (ha:a∈as):a<=l\/l'<=a:=by
 have m:=(h.mem a).mpr (.inr ha);obtain ⟨j,hj,ej⟩:=QR m;obtain ⟨li,ei⟩:=Qd.mp hl;obtain ⟨PR,Ph⟩:=Qd.mp KJ;have P:=QJ.mp h.rise
 rcases Nat.lt_or_ge j (i+1) with c|c
 ·left
  by_cases e:j=i
  ·subst e;rw [<-ej,<-ei];exact jbL _
  ·have:=P j i hj li (by omega);rw [ej,ei] at this;omega
 ·right
  by_cases e:j=i+1
  ·subst e;rw [<-ej,<-Ph];exact jbL _
  ·have:=P (i+1) j PR hj (by omega);rw [ej,Ph] at this;omega
theorem LvOk.sumlt (h:LvOk as ls) {l l':Int} (hl:l∈ls) (KJ:l'∈ls) (lt:l<l'):(Wm as l).sum<(Wm as l').sum:=by
 have m:l'∈as:=((h.mem l').mp KJ).resolve_left (by have:=h.nnL l hl;omega);exact ae (λa _=>by omega) m (by omega)
theorem sS:∀(as:List Int) (l:Int),(UL as l).sum=as.sum - (Wm as l).sum
 |[],_=>rfl
 |a::as,l=>by
  have:=sS as l;unfold UL Wm at*;rw [Qo,Qo,QN,QN,QN,this];omega
theorem LvOk.riseE (h:LvOk as ls):yl (evP as ls):=by
 unfold yl evP;rw [Tn];exact h.rise.imp_of_mem λ{a b} ha hb lt=>jbs.mpr (h.sumlt ha hb lt)
theorem LvOk.top (h:LvOk as ls):∃t,ls.getLast? =some t/\∀a∈as,a<=t:=by
 have ne:ls≠[]:=λe=>by have:=h.zero;rw [e] at this;simp at this
 refine ⟨_,Tc ne,λa ha=>?_⟩;have m:=(h.mem a).mpr (.inr ha);rw [<-jak ne] at m;have R:=h.rise;rw [<-jak ne] at R
 rcases QS.mp m with z|z
 ·exact jbn ((TQ.mp R).2.2 a z _ (by simp))
 ·rw [Qq.mp z];exact jbL _
theorem Ik (h:∀a∈as,a<=t):Wm as t=as:=by
 unfold Wm
 conv=>rhs;rw [<-List.map_id as]
 exact QI λa ha=>by show min a t=a;have:=h a ha;omega
theorem sI (h:∀a∈as,0<=a):Wm as 0=ZV as.length:=by
 unfold Wm ZV;rw [<-jaK];exact QI λa ha=>by have:=h a ha;omega
theorem LvOk.evenly (h:LvOk as ls) {e:Rat} (h0:0<=e):∃z:Rat,0<=z/\zh (evP as ls) e=as.map λ(a:Int)=>mn (a:Rat) z:=by
 refine Ae (G:=mn) (C:=λl=>zP (Wm as l)) (λl=>?_) h.riseE h.nnL (λi l l' hl KJ a ha t t0 t1=>mn_mix t0 t1 ?_) h.zero ?_
 ·unfold zP Wm;rw [Qr];exact QI λa _=>GA a l
 ·obtain ⟨li,ei⟩:=Qd.mp hl;obtain ⟨PR,Ph⟩:=Qd.mp KJ;have lt:=QJ.mp h.rise i (i+1) li PR (by omega);rw [ei,Ph] at lt
  rcases h.gap hl KJ ha with z|z
  ·exact .inl ⟨Te.mpr z,Te.mpr (by omega)⟩
  ·exact .inr ⟨Te.mpr (by omega),Te.mpr z⟩
 ·show ((Wm as 0).sum:Rat)<=e;rw [sI h.nn,mw];exact h0
end
section
variable {as ls:List Int}
theorem Cm (h:LvOk as ls):∃r,evP as ls=zP (ZV as.length)::r:=by
 have z:=h.zero
 cases ls with
 |nil=>simp at z
 |cons a l=>
  have:a=0:=by simpa using z
  subst this;exact ⟨_,by unfold evP;rw [Qo,sI h.nn]⟩
theorem tx (h:LvOk as ls):lastC (evP as ls)=zP as:=by
 obtain ⟨t,ht,top⟩:=h.top;unfold lastC evP;rw [jan,ht];show zP (Wm as t)=_;rw [Ik top]
theorem uk:∀(as:List Int) (l:Int),VH (zP as) (zP (Wm as l))=zP (UL as l):=λas l=>by
 unfold VH zP;refine Prod.ext ?_ ?_
 ·show ((as.sum:Int):Rat) - ((Wm as l).sum:Int)=((UL as l).sum:Int);rw [sS,jaJ]
 ·show List.zipWith (· - ·) (as.map λ(x:Int)=>(x:Rat)) ((Wm as l).map λ(x:Int)=>(x:Rat))=(UL as l).map λ(x:Int)=>(x:Rat);unfold Wm UL
  apply Tt
  ·simp
  ·intro i h1 h2;simp only [Tb,jaF];rw [jaJ]
theorem dC (h:LvOk as ls):yv (evP as ls)=loP as ls:=by
 unfold yv;rw [tx h];unfold evP loP;rw [<-List.map_reverse,Qr];exact QI λl _=>uk as l
theorem loP_ne (h:LvOk as ls):∃r,loP as ls=zP (ZV as.length)::r:=by
 obtain ⟨t,ht,top⟩:=h.top;have ne:ls≠[]:=λe=>by rw [e] at ht;simp at ht
 obtain ⟨ini,ei⟩:=List.getLast?_eq_some_iff.mp ht;refine ⟨ini.reverse.map λl=>zP (UL as l),?_⟩;unfold loP;rw [ei,List.reverse_append,List.reverse_singleton,List.singleton_append,Qo]
 congr 2
 unfold UL ZV;rw [<-jaK];exact QI λa ha=>by have:=top a ha;omega
theorem XD (h:List Int):(zP h).2.length=h.length/\zM (zP h).2=(zP h).1:=⟨Qa _,Uj h⟩
theorem tw (as ls:List Int):∀c∈evP as ls,c.2.length=as.length/\zM c.2=c.1:=λc hc=>by
 obtain ⟨l,_,rfl⟩:=Qj.mp hc;have:=XD (Wm as l);rwa [show (Wm as l).length=as.length by unfold Wm;rw [Qa]] at this
theorem BI (as ls:List Int):∀c∈loP as ls,c.2.length=as.length/\zM c.2=c.1:=λc hc=>by
 obtain ⟨l,_,rfl⟩:=Qj.mp hc;have:=XD (UL as l);rwa [show (UL as l).length=as.length by unfold UL;rw [Qa]] at this
theorem Wa (m:Nat):zP (ZV m)=(0,List.replicate m 0):=by
 unfold zP;rw [mw];unfold ZV;rw [jaO];rfl
theorem rQ  (r:List zg) (hP:P=(0,List.replicate m 0)::r) (rise:yl P) (ok:∀c∈P,c.2.length=m/\zM c.2=c.1) (h0:0<=e):zM (zh P e)=mn e (lastC P).1:=by
 subst hP;unfold mn
 split
 ·exact eY rise ok h0 (by assumption)
 ·rename_i z;have hl:=jaf.mp z;rw [fc rise (QC hl)]
  have m:lastC ((0,List.replicate m 0)::r)∈((0:Rat),List.replicate m (0:Rat))::r:=by
   unfold lastC;rw [Tc (by simp)];exact List.getLast_mem _
  exact (ok _ m).2
def hfA (as ls:List Int):List zg:=zW (1 / 2) (evP as ls)
def hfB (as ls:List Int):List zg:=zW (1 / 2) (loP as ls)
theorem sX:(0:Rat)<1 / 2:=by decide+kernel
theorem pV  (hp:0<p) (h:yl a):yl (zW p a):=by
 unfold yl zW;rw [Tn];exact h.imp λ{x y} lt=>Rat.mul_lt_mul_of_pos_right lt hp
theorem hf_len (as ls:List Int):∀x∈hfA as ls++yF (hfA as ls) (hfB as ls),lastC (hfA as ls)∈hfA as ls->x.2.length=as.length:=λx hx hm=>by
 have lA:∀x∈hfA as ls,x.2.length=as.length:=λx hx=>by
  obtain ⟨c,hc,rfl⟩:=Qj.mp hx;rw [Qa];exact (tw as ls c hc).1
 rcases QS.mp hx with z|z
 ·exact lA x z
 ·obtain ⟨d,hd,rfl⟩:=Qj.mp z
  have ld:d.2.length=as.length:=by
   have:=TR hd;obtain ⟨c,hc,rfl⟩:=Qj.mp this;rw [Qa];exact (BI as ls c hc).1
  show (List.zipWith _ _ _).length=_;rw [Qy,lA _ hm,ld];exact TN _
theorem qI (h:LvOk as ls):lastC (hfA as ls)∈hfA as ls:=by
 obtain ⟨r,er⟩:=Cm h;have ne:hfA as ls≠[]:=by unfold hfA zW;rw [er];simp
 unfold lastC;rw [Tc ne];exact List.getLast_mem _
def hvP (as ls:List Int):List zg:=hfA as ls++yF (hfA as ls) (hfB as ls)
theorem yY (p:Rat):∀l:List Rat,zM (l.map (·*p))=zM l*p
 |[]=>by rw [jaq,zM,jbe]
 |x::l=>by rw [Qo,zM,zM,yY p l];grind
theorem cQ:∀{x y:List Rat},x.length=y.length->zM (List.zipWith (·+·) x y)=zM x+zM y
 |[],[],_=>by rw [List.zipWith_nil_left,zM];grind
 |a::x,b::y,h=>by rw [jas,zM,zM,zM,cQ (by simpa using h)];grind
 |[],_::_,h=>by simp at h
 |_::_,[],h=>by simp at h
theorem GH (as ls:List Int):∀c∈hfA as ls,c.2.length=as.length/\zM c.2=c.1:=λc hc=>by
 obtain ⟨d,hd,rfl⟩:=Qj.mp hc;have:=tw as ls d hd;exact ⟨by rw [Qa];exact this.1,by rw [yY,this.2]⟩
theorem hfB_ok (as ls:List Int):∀c∈hfB as ls,c.2.length=as.length/\zM c.2=c.1:=λc hc=>by
 obtain ⟨d,hd,rfl⟩:=Qj.mp hc;have:=BI as ls d hd;exact ⟨by rw [Qa];exact this.1,by rw [yY,this.2]⟩
theorem hv_ok (h:LvOk as ls):∀c∈hvP as ls,c.2.length=as.length/\zM c.2=c.1:=λc hc=>by
 refine ⟨hf_len as ls c hc (qI h),?_⟩
 rcases QS.mp hc with z|z
 ·exact (GH as ls c z).2
 ·obtain ⟨d,hd,rfl⟩:=Qj.mp z;have a:=GH as ls _ (qI h);have b:=hfB_ok as ls d (TR hd);show zM (List.zipWith (·+·) _ _)=_+_;rw [cQ (by rw [a.1,b.1]),a.2,b.2]
def shP (as:List Int):List zg:=if as.sum=0 then [zP (ZV as.length)] else [zP (ZV as.length),zP as]
theorem jJ:∀n:Nat,(List.replicate n (0:Int)).sum=0
 |0=>rfl
 |n+1=>by rw [Tu,QN,jJ n];rfl
theorem bY (h:∀a∈as,0<=a):0<=as.sum:=by
 have:=af (f:=λ_=>0) (g:=id) (as:=as) λa ha=>h a ha;rw [List.map_id,jaK,jJ] at this
 simpa using this
theorem rO (h:∀a∈as,0<=a) (z:as.sum=0):∀a∈as,a=0:=λa ha=>by
 rcases Int.lt_or_eq_of_le (h a ha) with lt|e
 ·have:=ae (f:=λ_=>0) (g:=id) (as:=as) (λa ha=>h a ha) ha lt;rw [List.map_id,jaK,jJ,z] at this;simp at this
 ·exact e.symm
theorem DR (nn:∀a∈as,0<=a) (h0:0<=e):∃z:Rat,(0<=z/\z<=1)/\zh (shP as) e=(as.map λ(a:Int)=>(a:Rat)*z)/\zM (zh (shP as) e)=mn e ((as.sum:Int):Rat):=by
 have s0:=bY nn;unfold shP
 by_cases c:as.sum=0
 ·have az:=rO nn c;rw [QH c,c]
  have k:zh [zP (ZV as.length)] e=as.map λ(a:Int)=>(a:Rat)*0:=by
   rw [Wa];show List.replicate as.length (0:Rat)=_;rw [<-jaK];exact QI λa ha=>by rw [Rat.mul_zero]
  refine ⟨0,⟨QQ,by decide+kernel⟩,k,?_⟩;rw [Wa];show zM (List.replicate as.length 0)=_;rw [Xf];unfold mn
  split
  ·exact jaC h0 (by assumption)
  ·rfl
 ·rw [QO c];have sp:(0:Rat)<((as.sum:Int):Rat):=by exact_mod_cast jbs.mpr (show 0<as.sum by omega)
  have rise:yl [zP (ZV as.length),zP as]:=by
   refine Ql.mpr ⟨λd hd=>?_,jab _ _⟩;rw [Qq.mp hd,Wa];exact sp
  have ok:∀x∈[zP (ZV as.length),zP as],x.2.length=as.length/\zM x.2=x.1:=λx hx=>by
   rcases Qm.mp hx with rfl|hx
   ·have:=XD (ZV as.length);rwa [Ui] at this
   ·rw [Qq.mp hx];exact XD as
  have sm:=rQ (P:=[zP (ZV as.length),zP as]) [zP as] (by rw [Wa]) rise ok h0;have eT:(lastC [zP (ZV as.length),zP as]).1=((as.sum:Int):Rat):=rfl;rw [eT] at sm
  by_cases c2:e<((as.sum:Int):Rat)
  ·have hi:=QT _ (show ((as.sum:Int):Rat)≠0 from λz=>by rw [z] at sp;exact jaS sp);have ip:0<(((as.sum:Int):Rat))⁻¹:=Rat.inv_pos.mpr sp;refine ⟨e*(((as.sum:Int):Rat))⁻¹,⟨Ta h0 (QC ip),?_⟩,?_,sm⟩
   ·have:=Ta (show 0<=((as.sum:Int):Rat) - e by grind) (QC ip);generalize (((as.sum:Int):Rat))⁻¹=j at*
    grind
   ·rw [zh,QH (show e<(zP as).1 from c2),Wa];unfold Yx
    have et:(e - (0:Rat)) / ((zP as).1 - (0:Rat))=e*(((as.sum:Int):Rat))⁻¹:=by
     show (e - 0) / (((as.sum:Int):Rat) - 0)=_;rw [show e - 0=e by grind,show ((as.sum:Int):Rat) - 0=((as.sum:Int):Rat) by grind,TZ]
    dsimp only;rw [et];unfold zP
    apply Tt
    ·simp
    ·intro i h1 h2;simp only [Tb,jaF,Tw];unfold xC
     grind
  ·refine ⟨1,⟨by decide+kernel,QQ⟩,?_,sm⟩;rw [zZ (show (zP as).1<=e from Tf.mp c2)];show (as.map λ(x:Int)=>(x:Rat))=_;exact QI λa _=>by rw [Rat.mul_one]
end
def InB (am tk:List Int):Prop:=tk.length=am.length/\∀(i:Nat) (a p:Int),am[i]? =some a->tk[i]? =some p->0<=p/\p<=a
def oX (am tk:List Int):Prop:=tk.length=am.length/\∀(i:Nat) (a p:Int),am[i]? =some a->tk[i]? =some p->0<=p/\p<=a/\(p<a->∀q∈tk,q<=p)
def xU (am tk:List Int):List Int:=List.zipWith (· - ·) am tk
section
variable {as tk:List Int} {B:Int} {f:Rat->Rat} {z:Rat}
theorem WT {a b:Int} (h:(a:Rat)<=(b:Rat)):a<=b:=Te.mp h
theorem lK {a b:Int} (h:a<b):(a:Rat)<(b:Rat):=jbs.mpr h
theorem bt {a:Int} (h:0<=a):(0:Rat)<=(a:Rat):=by have:=Te.mpr h;exact this
theorem YM {a:Int} (h:0<a):(0:Rat)<(a:Rat):=by have:=jbs.mpr h;exact this
theorem Zh {x y b:Rat} (h:x<=y) (hb:0<=b):x*b<=y*b:=by
 have:=Ta (show 0<=y - x by grind) hb
 grind
theorem WL (h:tk.length=am.length):(xU am tk).length=am.length:=by
 unfold xU;rw [Qy,h,TN]
theorem mn_nn (a0:0<=a) (z0:0<=z):0<=mn a z/\mn a z<=a:=by
 unfold mn
 split<;>grind
noncomputable def IG (as ls:List Int):Nat->List zg
 |0=>shP as
 |1=>evP as ls
 |2=>loP as ls
 |_=>yp (hvP as ls)
theorem EB {e t b:Rat} (hb:0<b):mn e t*b=mn (e*b) (t*b):=by
 unfold mn
 by_cases c:e<=t
 ·rw [QH c,QH (Zh c (QC hb))]
 ·rw [QO c,QO];intro h;have lt:=jaf.mp c;have:=jbx (show 0<e - t by grind) hb
  grind
end
structure Bl3 (mg:Str->Option Value):Prop where
 sorted:mg "sorted"=none
 set:mg "set"=none
section
variable {X:Cx} {e o:Expr} {es:List Expr} {ta:TE} {t:TA}
def Gj (K:Frg) (m:Str) (f:Addr) (sp:Sp) (E:XK) (ta:TE) (t:TA):TE:=λσ H Q=>ta σ H λx H1=>∃a C dx fs,x= .ref a/\H1 a=some (.ins C dx fs)/\Cls K C/\Meth K C m f/\fs.lookup m=none/\t σ H1 λvs H2=>sp (x::vs) H2 Q E
theorem pe_methB      (he:PE X o ta) (F:FnOk X.prog X.w X.K X.mg X.base CX k f fd ps sp) (hr:Room k X.A) (hb:xi X.K fd ps []) (hx:Vz CX X E) (ha:PA X (e::es) t)
 (KD:starEach (e::es) X.env=(false,eval e X.env)::starEach es X.env:=by rfl) (Ln:(backTo pos (starEach es X.env)).any (·.1)=false:=by rfl)
 (ht:eval (.Call (.Attribute o m apos) (e::es) [] pos) X.env=(do
  let ov<-eval o X.env
  standAt apos.atName
  let (f,first)<-holding [ov] (getMethod ov m pl)
  callWith pos f first (backTo pos (starEach (e::es) X.env)) (backToKw pos (keywordEach [] X.env))):=by rfl):
 PE X (.Call (.Attribute o m apos) (e::es) [] pos) (Gj X.K m f sp E ta t):=by
 intro pins s σ H Q I h;refine PySem.W.methodCall_KW (pl:=pl) (thn (he pins s σ H _ I h) λu s1 hh=>?_) ht;obtain ⟨x,H1,I1,rx,a,C,dx,fs,ex,ea,c,hm,l,q⟩:=hh;subst ex;obtain rfl:u=Value.ref a:=rx;refine jn I1 ea c hm l ?_;refine jbT (first:=[.ref a]) (h₀:=X.base) I.ok.mod.kin hm.kp (thn (ha pos pins s1 σ H1 _ I1 q) λus s2 ⟨vs,H2,I2,r,q2⟩=>⟨I2.kIn,?_⟩) KD Ln;exact sg (us:= .ref a::us) (vs:= .ref a::vs) F hr hb .nil hx I2 (.cons rfl r) (by rw [jaX];exact q2)
end
section
variable {B G0 H:Hp} {cs:yD} {ds:Dat} {Q:VK} {E:XK} {v w u:V} {K:Frg} {C L:Addr} {x:PyData} {σ:L2.St}
def kMB (K:Frg) (m:Str) (f:Addr) (sp:Sp) (E:XK) (t:TA) (σ:L2.St) (Q:VK):VK:=λx H1=>∃a C dx fs,x= .ref a/\H1 a=some (.ins C dx fs)/\Cls K C/\Meth K C m f/\fs.lookup m=none/\t σ H1 λvs H2=>sp (x::vs) H2 Q E
theorem rd_methB   (h:ta σ H (kMB K m f sp E t σ Q)):Gj K m f sp E ta t σ H Q:=h
theorem iX   (S:Sta B G0 H cs ds) (h:Has ds (CW C x) v) (cl:Cls K C) (me:Meth K C m f) (hm:(m==("form":Str))=false) (k:t σ H λvs H2=>sp (v::vs) H2 Q E):kMB K m f sp E t σ Q v H:=by
 obtain ⟨p,dx,w,rfl,hp,S'⟩:=S.ins h;exact ⟨p,C,dx,_,rfl,hp,cl,me,by rw [jaP,hm];rfl,k⟩
def GG (K:Frg) (Q:VK):VK:=λx H1=>AQ K x H1 Q
theorem rd_sortS (h:te σ H (GG K Q)):Gi K te σ H Q:=h
theorem WC {ns:List Int} (S:Sta B G0 H cs ds) (h:(L,ns.map PyData.int)∈cs) (few:ns.length<60) (k:∀(os:List Int) (l:Addr) (H':Hp),os.Pairwise (·<·)->(∀z,z∈os↔z∈ns)->zV H H'->Sta B G0 H' ((l,os.map PyData.int)::cs) ds->Q (.ref l) H'):GG K Q (.ref L) H:=by
 obtain ⟨vs,hp,u⟩:=S.vwC h;obtain ⟨G,S'⟩:=id S;rw [yJ (u G S')] at hp;exact ⟨L,ns,rfl,SqL.of hp,few,λos l h1 h2 hl=>k os l _ h1 h2 (zV.new hl _) (S.newL hl λG _=>Ya os)⟩
theorem Hz {ns:List Int} (S:Sta B G0 H cs ds) (h:Has ds (.tuple (ns.map PyData.int)) v) (hn:0<ns.length) (k:∀m,m∈ns->(∀x∈ns,m<=x)->Q (.int m) H):rMinT K [v] H Q:=by
 obtain ⟨p,vs,rfl,hp,hl,S',al⟩:=S.tupAll h;obtain ⟨G,S2⟩:=id S';rw [yJ (al G S2.2.2.2.2.2.2)] at hp;exact ⟨p,ns,rfl,SqT.of hp,hn,k⟩
theorem HB {ns:List Int} (S:Sta B G0 H cs ds) (h:(L,ns.map PyData.int)∈cs) (hn:0<ns.length) (k:∀m,m∈ns->(∀x∈ns,x<=m)->Q (.int m) H):HK K [.ref L] H Q:=by
 obtain ⟨vs,hp,u⟩:=S.vwC h;obtain ⟨G,S'⟩:=id S;rw [yJ (u G S')] at hp;exact ⟨L,ns,rfl,SqL.of hp,hn,k⟩
theorem qg {α:Type} (a:α):∀n:Nat,(List.replicate n [a]).flatten=List.replicate n a
 |0=>rfl
 |n+1=>by rw [Tu,TY,qg a n];rfl
theorem Hy  (S:Sta B G0 H cs ds) (h:(L,[PyData.int i])∈cs) (hn:n<=1000) (k:∀l H',zV H H'->Sta B G0 H' ((l,(List.replicate n i).map PyData.int)::cs) ds->Q (.ref l) H'):rRep (.ref L) (.int (n:Int)) H Q:=by
 obtain ⟨vs,hp,u⟩:=S.vwC h;obtain ⟨G,S'⟩:=id S;have e:=yJ (ns:=[i]) (u G S');subst e;refine ⟨L,(n:Int),_,rfl,rfl,hp,by omega,by omega,?_,λp Ll=>?_⟩
 ·show 1*n<=sizeLine;have:1000<=sizeLine:=by decide
  omega
 ·rw [Tg];show Q (.ref p) (upd H p (.lst (List.replicate n [V.int i]).flatten));rw [qg];refine k p _ (zV.new Ll _) ?_;have:=S.newL (vs:=(List.replicate n i).map V.int) Ll λG _=>Ya (List.replicate n i);rw [jaO] at this;rw [jaO] at this⊢;exact this
end
abbrev Cl:=Int×Int×Int
def zC (c:Cl):PyData:= .tuple [.int c.1, .int c.2.1, .int c.2.2]
def zm (l:List Cl):PyData:= .list (l.map zC)
def amV (l:List Cl):List Int:=l.map λc=>c.1
structure ClOk (n:Nat) (l:List Cl):Prop where
 pos:0<l.length
 few:l.length<=8
 nn:∀c∈l,0<=c.1/\0<=c.2.1/\0<=c.2.2
 sz:∀c∈l,Sz n c.1
theorem yj (l:List Cl):(amV l).length=l.length:=Qa _
theorem aR:∀as:List Int,∃ls:List Int,ls.Pairwise (·<·)/\∀k,k∈ls↔k∈as
 |[]=>⟨[],List.Pairwise.nil,λ_=>Iff.rfl⟩
 |a::as=>by
  obtain ⟨ls,h1,h2⟩:=aR as;refine ⟨ls.filter (·<a)++a::ls.filter (a<·),?_,λk=>?_⟩
  ·refine TQ.mpr ⟨h1.filter _,Ql.mpr ⟨λy hy=>?_,h1.filter _⟩,λx hx y hy=>?_⟩
   ·simpa using (Tq.mp hy).2
   ·have hxa:x<a:=by simpa using (Tq.mp hx).2
    rcases Qm.mp hy with rfl|hy
    ·exact hxa
    ·have:a<y:=by simpa using (Tq.mp hy).2
     omega
  ·rw [QS,Qm,Tq,Tq,Qm,h2];simp only [decide_eq_true_eq]
   constructor
   ·rintro (⟨h,_⟩|h|⟨h,_⟩)
    ·exact .inr h
    ·exact .inl h
    ·exact .inr h
   ·rintro (h|h)
    ·exact .inr (.inl h)
    ·rcases Int.lt_trichotomy k a with c|c|c
     ·exact .inl ⟨h,c⟩
     ·exact .inr (.inl c)
     ·exact .inr (.inr ⟨h,c⟩)
theorem ZJ:∀{x y:List Int},x.Pairwise (·<·)->y.Pairwise (·<·)->(∀k,k∈x↔k∈y)->x=y
 |[],[],_,_,_=>rfl
 |[],b::y,_,_,h=>absurd ((h b).mpr (Qe ..)) Qn
 |a::x,[],_,_,h=>absurd ((h a).mp (Qe ..)) Qn
 |a::x,b::y,h1,h2,h=>by
  obtain ⟨a1,a2⟩:=Ql.mp h1;obtain ⟨b1,b2⟩:=Ql.mp h2
  have e:a=b:=by
   rcases Qm.mp ((h a).mp (Qe ..)) with e|e
   ·exact e
   ·rcases Qm.mp ((h b).mpr (Qe ..)) with e'|e'
    ·exact e'.symm
    ·have:=b1 a e;have:=a1 b e';omega
  subst e;rw [ZJ a2 b2 λk=>?_];have hk:=h k;rw [Qm,Qm] at hk
  constructor
  ·intro m
   rcases hk.mp (.inr m) with e|e
   ·subst e;exact absurd (a1 k m) (Int.lt_irrefl _)
   ·exact e
  ·intro m
   rcases hk.mpr (.inr m) with e|e
   ·subst e;exact absurd (b1 k m) (Int.lt_irrefl _)
   ·exact e
noncomputable def lvV (as:List Int):List Int:=(aR (0::as)).choose
theorem WK (nn:∀a∈as,0<=a):LvOk as (lvV as):=
 ⟨(aR (0::as)).choose_spec.1,λk=>by rw [lvV,(aR (0::as)).choose_spec.2 k,Qm],nn⟩
theorem lvV_eq {as os:List Int} (h1:os.Pairwise (·<·)) (h2:∀z,z∈os↔z∈0::as):os=lvV as:=
 ZJ h1 (aR (0::as)).choose_spec.1 λk=>by rw [h2,lvV,(aR (0::as)).choose_spec.2 k]
theorem GC:∀{ls as:List Int},ls.Nodup->(∀k∈ls,k∈as)->ls.length<=as.length
 |[],_,_,_=>jal _
 |a::ls,as,nd,h=>by
  obtain ⟨n1,n2⟩:=TX.mp nd;have:=GC (ls:=ls) (as:=as.erase a) n2 λk hk=>(List.mem_erase_of_ne (λ(e:k=a)=>n1 (e▸hk))).mpr (h k (Qf _ hk));have hl:=List.length_erase_of_mem (h a (Qe ..));have:=jaY (h a (Qe ..));rw [QA];omega
theorem LvOk.few (h:LvOk as ls):ls.length<=as.length+1:=by
 have:=GC (ls:=ls) (as:=0::as) (h.rise.imp λ{a b} (Lj:a<b)=>by omega) λk hk=>by rw [Qm];exact (h.mem k).mp hk
 simpa using this
theorem mD  (h0:0<=x) (h:x<=y) (z:Sz n y):Sz n x:=by unfold Sz at*;omega
theorem dE (hb:0<=b):∀{l:List Int},(∀x∈l,0<=x/\x<=b)->0<=l.sum/\l.sum<=l.length*b
 |[],_=>by simp
 |x::l,h=>by
  have h1:=h x (Qe ..);have h2:=dE hb (l:=l) λy hy=>h y (Qf _ hy);rw [QN,QA];have e:(((l.length+1:Nat):Int))*b=l.length*b+b:=by rw [Int.natCast_add,Int.add_mul];omega
  omega
def UP (l:List Int):Prop:=l.length<=8/\∀x∈l,0<=x/\Sz 160 x
theorem UP.sum (h:UP l):0<=l.sum/\Sz 170 l.sum:=by
 have h1:=dE (b:=2 ^ 160) (by decide) (l:=l) λx hx=>⟨(h.2 x hx).1,by
  have:=(h.2 x hx).2;unfold Sz at this;have:=(h.2 x hx).1
  omega⟩
 refine ⟨h1.1,?_⟩;have l8:=h.1;have:(l.length:Int)*2 ^ 160<=8*2 ^ 160:=jbo (by omega) (by decide);unfold Sz;have e:(8:Int)*2 ^ 160<2 ^ 170:=by decide+kernel
 omega
theorem rL (h:UP l):SzC 170 (zP l):=by
 refine ⟨⟨h.sum.2,by show Sz 170 1;unfold Sz;decide⟩,λq hq=>?_⟩;obtain ⟨x,hx,rfl⟩:=Qj.mp hq;exact ⟨Sz.mono (h.2 x hx).2 (by decide),by show Sz 170 1;unfold Sz;decide⟩
theorem ClOk.am (h:ClOk 160 l):UP (amV l):=by
 refine ⟨by rw [yj];exact h.few,λx hx=>?_⟩;obtain ⟨c,hc,rfl⟩:=Qj.mp hx;exact ⟨(h.nn c hc).1,h.sz c hc⟩
theorem UP.min  (h:UP as) (hl:0<=l):UP (Wm as l)/\UP (UL as l):=by
 refine ⟨⟨by unfold Wm;rw [Qa];exact h.1,λx hx=>?_⟩,⟨by unfold UL;rw [Qa];exact h.1,λx hx=>?_⟩⟩
 ·obtain ⟨a,ha,rfl⟩:=Qj.mp hx;have:=h.2 a ha;exact ⟨by omega,mD (by omega) (by omega) this.2⟩
 ·obtain ⟨a,ha,rfl⟩:=Qj.mp hx;have:=h.2 a ha;exact ⟨by omega,mD (by omega) (by omega) this.2⟩
section
variable {as ls:List Int}
theorem LvOk.szE (h:LvOk as ls) (i:UP as):∀c∈evP as ls,SzC 170 c:=λc hc=>by
 obtain ⟨l,hl,rfl⟩:=Qj.mp hc;exact rL (i.min (h.nnL l hl)).1
theorem LvOk.szL (h:LvOk as ls) (i:UP as):∀c∈loP as ls,SzC 170 c:=λc hc=>by
 obtain ⟨l,hl,rfl⟩:=Qj.mp hc;exact rL (i.min (h.nnL l (jbH.mp hl))).2
theorem LvOk.inE (h:LvOk as ls) (i:UP as):PathIn (evP as ls):=by
 obtain ⟨r,er⟩:=Cm h;have f:=h.few;have i1:=i.1;exact ⟨by rw [er];simp,λc hc=>(h.szE i c hc).mono (by decide),λc hc=>by rw [(tw as ls c hc).1];omega,by unfold evP;rw [Qa];omega⟩
theorem LvOk.inL (h:LvOk as ls) (i:UP as):PathIn (loP as ls):=by
 obtain ⟨r,er⟩:=loP_ne h;have f:=h.few;have i1:=i.1;exact ⟨by rw [er];simp,λc hc=>(h.szL i c hc).mono (by decide),λc hc=>by rw [(BI as ls c hc).1];omega,by unfold loP;rw [Qa,Tv];omega⟩
theorem qJ:SzQ 2 ((1:Rat) / 2):=by unfold SzQ Sz;decide+kernel
theorem dQ (h:∀c∈a,SzC 170 c):∀c∈zW (1 / 2) a,SzC 172 c:=λc hc=>by
 obtain ⟨d,hd,rfl⟩:=Qj.mp hc;have:=h d hd;refine ⟨(this.1.mul qJ).mono (by decide),λq hq=>?_⟩;obtain ⟨x,hx,rfl⟩:=Qj.mp hq;exact ((this.2 x hx).mul qJ).mono (by decide)
theorem mL (ok:PathIn a) (h:∀c∈a,SzC 170 c):PathIn (zW (1 / 2) a):=by
 refine ⟨λe=>ok.ne (List.map_eq_nil_iff.mp e),λc hc=>(dQ h c hc).mono (by decide),λc hc=>?_,by unfold zW;rw [Qa];exact ok.few⟩;obtain ⟨d,hd,rfl⟩:=Qj.mp hc;rw [Qa];exact ok.len d hd
theorem LvOk.szH (h:LvOk as ls) (i:UP as):∀c∈hvP as ls,SzC 400 c:=λc hc=>by
 have sA:=dQ (h.szE i);have sB:=dQ (h.szL i)
 rcases QS.mp hc with z|z
 ·exact (sA c z).mono (by decide)
 ·obtain ⟨d,hd,rfl⟩:=Qj.mp z;have x:=sA _ (qI h);have y:=sB d (TR hd);refine ⟨(x.1.add y.1).mono (by decide),λq hq=>?_⟩;obtain ⟨j,hj,e⟩:=QR hq;have Md:=hj;simp only [Vq,Qy] at Md
  have e2:q=(lastC (hfA as ls)).2[j]'(by omega)+d.2[j]'(by omega):=by
   rw [<-e];simp only [Vq,Tb]
  rw [e2];exact ((x.2 _ (Td _)).add (y.2 _ (Td _))).mono (by decide)
theorem LvOk.okH (h:LvOk as ls) (i:UP as):PathOk as.length (hvP as ls):=by
 have f:=h.few;have i1:=i.1;refine ⟨λc hc=>(h.szH i c hc).mono (by decide),λc hc=>(hv_ok h c hc).1,by omega,?_⟩;unfold hvP hfA hfB yF zW evP loP;simp only [Qz,Qa,jaR,Tv];omega
end
theorem WN:∀(a:zg) (r:List zg),(yf a r).Sublist r
 |a,[]=>by rw [yf];exact jbl _
 |a,[b]=>by rw [yf];exact jbl _
 |a,b::c::r=>by
  rw [yf]
  split
  ·exact List.Sublist.cons _ (WN b (c::r))
  ·exact List.Sublist.cons₂ _ (WN b (c::r))
theorem ZD:∀r:List zg,(yp r).Sublist r
 |[]=>jbl _
 |c::r=>List.Sublist.cons₂ _ (WN c r)
section
variable {as ls:List Int}
end
theorem iteSY {a b:Str} {X Y:Prop} (hc:a=b) (h:X):if decide (a=b)=true then X else Y:=Yw (λ_=>h) λn=>absurd hc n
theorem iteSN {a b:Str} {X Y:Prop} (hc:¬a=b) (h:Y):if decide (a=b)=true then X else Y:=Yw (λy=>absurd y hc) λ_=>h
section
variable {B G0 H:Hp} {cs:yD} {ds:Dat} {Q:VK} {E:XK} {v w u:V} {K:Frg}
def iq:Nat->Rl
 |0=> .shares
 |1=> .evenly
 |2=> .losses
 |_=> .halves
def pT:Sp:=spB (α:=List Cl) (λl=>[zm l]) (ClOk 160) (λ_=> .non)
theorem Ed (S:Sta B G0 H cs ds) (h:Has ds (zm l) v) (ok:ClOk 160 l) (k:∀H',zV H H'->Sta B G0 H' cs ds->Q .non H'):pT [v] H Q E:=WA l (S.hpAll (.cons h .nil)) ok λH' e=>k H' e (S.same e)
def spWC:Sp:=spT (α:=List Int) (λl=>[.list (l.map PyData.int)]) (λl=>l.length<=8) (λl=>zA (zP l))
theorem Hu (S:Sta B G0 H cs ds) (h:Has ds (.list (l.map PyData.int)) v) (ok:l.length<=8) (k:∀w H',zV H H'->Sta B G0 H' cs ((zA (zP l),w)::ds)->Q w H'):spWC [v] H Q E:=Zl l S (.cons h .nil) ok k
def Wq:Sp:=spL (α:=Nat) (λn=>[.int (n:Int)]) (λn=>n<=8) (λn=>[zP (ZV n)].map zA)
theorem aH (S:Sta B G0 H cs ds) (ok:n<=8) (k:∀p H',zV H H'->Sta B G0 H' ((p,[zP (ZV n)].map zA)::cs) ds->Q (.ref p) H'):Wq [.int (n:Int)] H Q E:=Zm n S (.cons Has.int .nil) ok k
noncomputable def flV (k:Nat) (l:List Cl):List zg:=IG (amV l) (lvV (amV l)) k
noncomputable def cc (k:Nat):Sp:=spL (α:=List Cl) (λl=>[zm l]) (ClOk 160) (λl=>(flV k l).map zA)
theorem aI  (S:Sta B G0 H cs ds) (h:Has ds (zm l) v) (ok:ClOk 160 l) (k:∀p H',zV H H'->Sta B G0 H' ((p,(flV n l).map zA)::cs) ds->Q (.ref p) H'):cc n [v] H Q E:=Zm l S (.cons h .nil) ok k
theorem ClOk.lv (h:ClOk 160 l):LvOk (amV l) (lvV (amV l)):=WK λa ha=>(h.am.2 a ha).1
noncomputable def Wj (p:Rat) (a b:List zg):List zg:=yp (zW p a++yF (zW p a) (zW (1 - p) b))
structure UpOk (p:Rat) (a b:List zg):Prop where
 sz:SzQ 1000 p
 pa:PathIn a
 pb:PathIn b
 sa:PathIn (zW p a)
 sb:PathIn (zW (1 - p) b)
 m:∃m,PathOk m (zW p a++yF (zW p a) (zW (1 - p) b))
noncomputable def wX:Sp:=spL (α:=Rat×List zg×List zg) (λa=>[frD a.1,zU a.2.1,zU a.2.2]) (λa=>UpOk a.1 a.2.1 a.2.2) (λa=>(Wj a.1 a.2.1 a.2.2).map zA)
theorem AA  (S:Sta B G0 H cs ds) (h1:Has ds (frD p) u) (h2:Has ds (zU a) v) (h3:Has ds (zU b) w) (ok:UpOk p a b) (k:∀q H',zV H H'->Sta B G0 H' ((q,(Wj p a b).map zA)::cs) ds->Q (.ref q) H'):wX [u,v,w] H Q E:=Zm (p,a,b) S (.cons h1 (.cons h2 (.cons h3 .nil))) ok k
theorem up_ok (h:ClOk 160 l):UpOk (1 / 2) (flV 1 l) (flV 2 l):=by
 have L:=h.lv;have e:(1:Rat) - 1 / 2=1 / 2:=by decide+kernel
 refine ⟨qJ.mono (by decide),L.inE h.am,L.inL h.am,mL (L.inE h.am) (L.szE h.am),?_,(amV l).length,?_⟩
 ·rw [e];exact mL (L.inL h.am) (L.szL h.am)
 ·rw [e];exact L.okH h.am
theorem wI (l:List Cl):Wj (1 / 2) (flV 1 l) (flV 2 l)=flV 3 l:=by
 have e:(1:Rat) - 1 / 2=1 / 2:=by decide+kernel
 unfold Wj;rw [e];rfl
end
theorem nP {β:Type} (n:Nat) (x:β):(List.range n).map (λ_=>x)=List.replicate n x:=by
 rw [jaK,jbD]
theorem BM (c:Cl):(zC c).canLay0=true:=by unfold zC;simp only [PyData.canLay0,PyData.canLayAll0];rfl
theorem Cs (c:Cl):(zC c).depth<=2:=by unfold zC;simp only [PyData.depth,PyData.depthAll];decide
theorem aT (l:List Cl):(zm l).canLay0=true:=by unfold zm;rw [PyData.canLay0];exact fH BM l
theorem ZX (l:List Cl):SeqAt.shaped (zm l)=true:=Ws (aT l) (n:=3) (by unfold zm;rw [PyData.depth];exact Nat.succ_le_succ (fV Cs l)) (by decide)
def InS (n:Nat) (l:List Int):Prop:=l.length<=8/\∀x∈l,0<=x/\Sz n x
theorem InS.sum  (h:InS n l):0<=l.sum/\Sz (n+4) l.sum:=by
 have p:(0:Int)<2 ^ n:=Int.pow_pos (by decide)
 have h1:=dE (b:=2 ^ n) (jbn p) (l:=l) λx hx=>⟨(h.2 x hx).1,by
  have z:=(h.2 x hx).2;have z0:=(h.2 x hx).1;unfold Sz at z;have:(x.natAbs:Int)<((2 ^ n:Nat):Int):=Int.ofNat_lt.mpr z;rw [jbX] at this;have e:((2:Nat):Int)=2:=rfl;rw [e] at this
  omega⟩
 refine ⟨h1.1,?_⟩;have l8:=h.1;have le:(l.length:Int)*2 ^ n<=8*2 ^ n:=jbo (by omega) (jbn p);unfold Sz;have e:(2:Nat) ^ (n+4)=2 ^ n*16:=by rw [Nat.pow_add]
 rw [e];have e2:((2 ^ n:Nat):Int)=2 ^ n:=by rw [jbX];rfl
 omega
theorem InB.inS  (h:InB am tk) (l:am.length<=8) (z:∀x∈am,Sz n x):InS n tk/\InS n am:=by
 refine ⟨⟨by rw [h.1];exact l,λx hx=>?_⟩,⟨l,λx hx=>?_⟩⟩
 ·obtain ⟨i,hi,rfl⟩:=QR hx;have Kv:i<am.length:=by rw [<-h.1];exact hi
  have b:=h.2 i _ _ (Qb Kv) (Qb hi);exact ⟨b.1,mD b.1 b.2 (z _ (Td _))⟩
 ·obtain ⟨i,hi,rfl⟩:=QR hx;have Kv:i<tk.length:=by rw [h.1];exact hi
  have b:=h.2 i _ _ (Qb hi) (Qb Kv);exact ⟨by omega,z _ (Td _)⟩
section
variable {B G0 H:Hp} {cs:yD} {ds:Dat} {Q:VK} {E:XK} {v w u:V} {K:Frg} {xs ys:List PyData} {R:It->Hp->Prop}
theorem UC (S:Sta B G0 H cs ds) (h:Has ds (.list xs) v) (h2:Has ds (.list ys) w) (k:∀J,Wk B G0 J (Gf xs ys) (λcs ds=>Has ds (.list xs) v/\(∀x u,Has ds (.list ys) w->Has ((x,u)::ds) (.list ys) w)/\Has ds (.list ys) w)->R J H):kZi true true K R [v,w] H:=by
 obtain ⟨p,vs,rfl,hp,_⟩:=S.lst h;obtain ⟨q,ws,rfl,hq,_⟩:=S.lst h2;exact ⟨p,q,rfl,⟨_,SqL.of hp⟩,⟨_,SqL.of hq⟩,k _ (wC WX WX)⟩
def wZ:Sp:=spB (α:=List Int×List Int) (λa=>[xI a.1,xI a.2]) (λa=>a.1.length<=8/\oX a.1 a.2) (λ_=> .bl true)
theorem AL (S:Sta B G0 H cs ds) (h1:Has ds (xI am) v) (h2:Has ds (xI tk) w) (l:am.length<=8) (ok:oX am tk) (k:∀H',zV H H'->Sta B G0 H' cs ds->Q (.bl true) H'):wZ [v,w] H Q E:=WA (am,tk) (S.hpAll (.cons h1 (.cons h2 .nil))) ⟨l,ok⟩ λH' e=>k H' e (S.same e)
def pQ:Sp:=λvs H Q _=>∃(G:Hp) (wh c:Int),vs=[.int wh, .int c]/\zV G H/\(0<=wh/\Sz 180 wh)/\∀v H' G' (e:Rat),Grow G H G' H'->Is G' (frD e) v->0<=e/\SzQ 300 e->Q v H'
theorem DY (S:Sta B G0 H cs ds) (hb:0<=wh/\Sz 180 wh) (k:∀v H' (e:Rat),0<=e/\SzQ 300 e->zV H H'->Sta B G0 H' cs ((frD e,v)::ds)->Q v H'):pQ [.int wh, .int c] H Q E:=by
 obtain ⟨G,S⟩:=S;refine ⟨G,wh,c,rfl,S.2.1,hb,λv H' G' e gr hv good=>k v H' e good gr.h ?_⟩;obtain ⟨a',b',c',d',e',f',g'⟩:=S.grow gr;exact ⟨G',a',b',c',d',e',f',g'.cons hv⟩
theorem nh  (S:Sta H G H' cs ds) (k:∀v H' G' (e:Rat),Grow G H G' H'->Is G' (frD e) v->0<=e/\SzQ 300 e->Q v H') (h:Has ds (frD e) v) (hg:0<=e/\SzQ 300 e):Q v H':=by
 obtain ⟨G',gr,al⟩:=S.leave;exact k v H' G' e gr (h G' al) hg
end
theorem Fc {b d:Int} (hb:0<b) (hd:0<d):0<b.fdiv (Int.gcd b d:Nat)*d/\b∣b.fdiv (Int.gcd b d:Nat)*d/\d∣b.fdiv (Int.gcd b d:Nat)*d:=by
 have gp:0<Int.gcd b d:=Int.gcd_pos_of_ne_zero_left d (by omega);have g0:(0:Int)<((Int.gcd b d:Nat):Int):=by omega
 rw [Tx _ (jbn g0)];obtain ⟨x,hx⟩:=Int.gcd_dvd_left b d;obtain ⟨y,hy⟩:=Int.gcd_dvd_right b d
 have ex:b / ((Int.gcd b d:Nat):Int)=x:=by
  conv=>lhs;arg 1;rw [hx]
  exact Int.mul_ediv_cancel_left x (by omega)
 rw [ex]
 have x0:0<x:=by
  rcases Int.lt_or_le 0 x with h|h
  ·exact h
  ·have:=Int.mul_nonpos_of_nonneg_of_nonpos (jbn g0) h;omega
 refine ⟨Int.mul_pos x0 hd,⟨y,?_⟩,⟨x,Int.mul_comm ..⟩⟩
 conv=>rhs;rw [hx,Int.mul_comm ((Int.gcd b d:Nat):Int) x,Int.mul_assoc,<-hy]
theorem mC  (hB:0<B) (hd:(p.den:Int)∣B):((p.num*B.fdiv (p.den:Int):Int):Rat)=p*(B:Rat):=by
 rw [Tx _ (Int.natCast_nonneg _)];obtain ⟨x,rfl⟩:=hd;have d0:(p.den:Int)≠0:=by have:=p.den_pos;omega
 rw [Int.mul_ediv_cancel_left _ d0,QV,QV,<-Rat.mul_assoc]
 congr 1
 have h1:p=Rat.divInt p.num (p.den:Int):=(jaN p).symm;have h3:∀z:Int,(z:Rat)=Rat.divInt z 1:=λz=>by rw [<-jaN (z:Rat)];rfl
 have h2:=h3 (p.den:Int)
 conv=>rhs;arg 1;rw [h1]
 rw [h2,jbd,h3,jbZ];exact ((jbO d0 (by decide)).mpr (by rw [jbZ])).symm
noncomputable def tkV (B:Int) (v:List Rat):List Int:=v.map λp=>p.num*B.fdiv (p.den:Int)
theorem nI   (hr:yl P) (hl:∀x∈P,x.2.length=m) (hc:P[j]? =some c) (hd:P[j+1]? =some d) (h1:c.1<=e) (h2:e<=d.1):zh P e=Yx c d e:=by
 by_cases lt:e<d.1
 ·have:=Zg (E:=e) hr hc h1 (.inr ⟨d,hd,lt⟩);rw [hd] at this;exact this
 ·have e1:e=d.1:=jaC h2 (Tf.mp lt);subst e1;have lc:=hl c (Qc hc);have ld:=hl d (Qc hd)
  have Ku:c.1<d.1:=by
   have:=QJ.mp hr j (j+1) (Qd.mp hc).1 (Qd.mp hd).1 (by omega);rw [(Qd.mp hc).2,(Qd.mp hd).2] at this;exact this
  rw [lM (by rw [lc,ld]) Ku]
  cases hn:P[j+1+1]? with
  |none=>
   have:=Zg (E:=d.1) hr hd QQ (.inl (by
    have h1:=(Qd.mp hd).1;have h2:=jbi.mp hn
    omega))
   rw [hn] at this;exact this
  |some f=>
   have LV:d.1<f.1:=by
    have:=QJ.mp hr (j+1) (j+1+1) (Qd.mp hd).1 (Qd.mp hn).1 (by omega);rw [(Qd.mp hd).2,(Qd.mp hn).2] at this;exact this
   have:=Zg (E:=d.1) hr hd QQ (.inr ⟨f,hn,LV⟩);rw [hn] at this;rw [this];exact Yi (by rw [ld,hl f (Qc hn)])
def pH (x y:List Rat):List Rat:=List.zipWith (· - ·) x y
def UY (p:Rat) (x:List Rat):List Rat:=x.map (·*p)
theorem rT (h:y.length=x.length):(pH x y).length=x.length:=by unfold pH;rw [Qy,h,TN]
theorem wV {x y:List Rat} {i:Nat} {z:Rat} (h:(pH x y)[i]? =some z):∃a b,x[i]? =some a/\y[i]? =some b/\z=a - b:=by
 unfold pH at h;rw [Qt] at h
 cases e:x[i]? with
 |none=>rw [e] at h;cases h
 |some a=>
  cases e2:y[i]? with
  |none=>rw [e,e2] at h;cases h
  |some b=>rw [e,e2] at h;exact ⟨a,b,rfl,rfl,(QL h).symm⟩
theorem Uk {x y:List Rat} {i:Nat} {a b:Rat} (h1:x[i]? =some a) (h2:y[i]? =some b):(pH x y)[i]? =some (a - b):=by
 unfold pH;rw [Qt,h1,h2]
theorem wU {x y:List Rat} (h:y.length=x.length):pH x (pH x y)=y:=by
 apply Tj
 intro i
 by_cases hi:i<x.length
 ·have e1:=Qb hi;have e2:=Qb (l:=y) (i:=i) (by omega);rw [Uk e1 (Uk e1 e2),e2]
  congr 1
  grind
 ·rw [QF (by rw [rT (by rw [rT h])];omega),QF (by omega)]
structure Std (m:Nat) (T:Rat) (as:List Rat) (P:List zg):Prop where
 rise:yl P
 ok:∀c∈P,c.2.length=m/\zM c.2=c.1
 head:P[0]? =some (0,List.replicate m 0)
 last:P.getLast? =some (T,as)
section
variable {m:Nat} {T:Rat} {as:List Rat} {P:List zg} {e:Rat}
theorem Std.lastC (h:Std m T as P):lastC P=(T,as):=by unfold S.lastC;rw [h.last];rfl
theorem Std.ne (h:Std m T as P):P≠[]:=λz=>by have:=h.head;rw [z] at this;cases this
theorem Std.cons (h:Std m T as P):∃r,P=(0,List.replicate m 0)::r:=by
 cases P with
 |nil=>exact absurd rfl h.ne
 |cons c r=>have:=h.head;cases this;exact ⟨r,rfl⟩
theorem Std.lenA (h:Std m T as P):as.length=m:=(h.ok _ (jai h.last)).1
theorem Std.T0 (h:Std m T as P):0<=T:=by
 obtain ⟨r,rfl⟩:=h.cons;have hl:=h.last
 cases r with
 |nil=>cases hl;exact QQ
 |cons d r=>
  have:(T,as)∈d::r:=by
   rw [TM] at hl;exact jai hl
  exact QC ((Ql.mp h.rise).1 _ this)
theorem Std.sum (h:Std m T as P) (h0:0<=e):zM (zh P e)=mn e T:=by
 obtain ⟨r,er⟩:=h.cons;have:=rQ r er h.rise h.ok h0;rw [h.lastC] at this;exact this
theorem Std.len (h:Std m T as P):(zh P e).length=m:=by
 obtain ⟨r,er⟩:=h.cons;have:=h.ok;rw [er] at this⊢;exact Ye λx hx=>(this x hx).1
theorem Std.past (h:Std m T as P) (he:T<=e):zh P e=as:=by
 obtain ⟨r,er⟩:=h.cons;have l:=h.lastC;have rr:=h.rise;rw [er] at l rr⊢;rw [fc rr (by rw [l];exact he),l]
theorem Std.zero (h:Std m T as P):zh P 0=List.replicate m 0:=by
 obtain ⟨r,er⟩:=h.cons
 cases r with
 |nil=>rw [er];rfl
 |cons d r=>
  have rr:=h.rise;have ok:=h.ok;rw [er] at rr ok⊢;have lt:=(Ql.mp rr).1 d (Qe ..);rw [zh,QH lt];have:=Yi (c:=((0:Rat),List.replicate m (0:Rat))) (d:=d) (by rw [QD,(ok d (Qf _ (Qe ..))).1]);exact this
theorem Std.turned (h:Std m T as P) (h0:0<=e) (h1:e<=T):zh (yv P) e=pH as (zh P (T - e)):=by
 have hl:=h.lastC;have KP:∀x∈P,x.2.length=m:=λx hx=>(h.ok x hx).1
 have rise:yl (yv P):=by
  unfold yv yl;rw [Tn,List.pairwise_reverse]
  exact h.rise.imp λ{c d} Ku=>by
   show (S.lastC P).1 - d.1<(S.lastC P).1 - c.1
   grind
 have lensT:∀x∈yv P,x.2.length=m:=λx hx=>by
  obtain ⟨c,hc,rfl⟩:=Qj.mp hx;show (List.zipWith _ (S.lastC P).2 c.2).length=m;rw [Qy,hl,KP c (jbH.mp hc),h.lenA,TN]
 have lp:0<P.length:=jaz.mpr h.ne;obtain ⟨j,q,hj,Lz,MZ⟩:=lG (E:=T - e) (M:=P.map λc=>c.1) (z:=0) (by rw [Qh,h.head];rfl) (by grind);rw [Qa] at MZ;obtain ⟨c,hc,rfl⟩:=zJ hj;have jl:j<P.length:=(Qd.mp hc).1
 have tget:∀(k:Nat) (x:zg),P[k]? =some x->(yv P)[P.length - 1 - k]? =some (VH (T,as) x):=λk x hx=>by
  have kl:k<P.length:=(Qd.mp hx).1;unfold yv;rw [Qh,List.getElem?_reverse (by omega),show P.length - 1 - (P.length - 1 - k)=k by omega,hx,hl];rfl
 by_cases lastj:j+1=P.length
 ·
  have ec:c=(T,as):=by
   have:=h.last;rw [jav,show P.length - 1=j by omega,hc] at this;exact QL this
  have e0:e=0:=by
   rw [ec] at Lz;have:T<=T - e:=Lz;exact jaC (by grind) h0
  subst e0;rw [show T - (0:Rat)=T by grind,h.past QQ];have ht:=tget j c hc;rw [show P.length - 1 - j=0 by omega,ec] at ht
  have hz:VH (T,as) (T,as)=(0,List.replicate m 0):=by
   unfold VH;rw [show T - T=(0:Rat) by grind]
   congr 1
   apply Tt
   ·rw [Qy,h.lenA,QD,TN]
   ·intro i _ _;rw [Tb,Tw]
    grind
  have e2:pH as as=List.replicate m 0:=(congrArg Prod.snd hz);rw [e2];rw [hz] at ht
  cases hT:yv P with
  |nil=>rw [hT] at ht;cases ht
  |cons x r=>
   rw [hT] at ht rise lensT;cases ht
   cases r with
   |nil=>rfl
   |cons d r=>
    have lt:=(Ql.mp rise).1 d (Qe ..);rw [zh,QH lt];have:=Yi (c:=((0:Rat),List.replicate m (0:Rat))) (d:=d) (by rw [QD,lensT d (Qf _ (Qe ..))]);exact this
 ·rcases MZ with z|⟨r,hr,Kr⟩
  ·exact absurd z lastj
  obtain ⟨d,hd,rfl⟩:=zJ hr;have lc:=KP c (Qc hc);have ld:=KP d (Qc hd);have Ku:c.1<d.1:=by grind
  rw [nI h.rise KP hc hd Lz (QC Kr)];have t1:=tget (j+1) d hd;have t2:=tget j c hc;have dl:j+1<P.length:=(Qd.mp hd).1;rw [show P.length - 1 - j=P.length - 1 - (j+1)+1 by omega] at t2;rw [nI rise lensT t1 t2 (by show T - d.1<=e;grind) (by show e<=T - c.1;grind)];unfold Yx pH
  apply Tj
  intro i
  by_cases hi:i<m
  ·have ia:i<as.length:=by rw [h.lenA];exact hi
   have ic:i<c.2.length:=by omega
   have id':i<d.2.length:=by omega
   have a1:=Qb ia;have c1:=Qb ic;have d1:=Qb id';unfold VH;dsimp only;rw [Qt,Qt,Qt,Qt,Qt,a1,c1,d1]
   congr 1
   generalize as[i]=A;generalize c.2[i]=C;generalize d.2[i]=D;unfold xC;have Mp:=QT _ (xK Ku);rw [TZ,TZ,show T - c.1 - (T - d.1)=d.1 - c.1 by grind];generalize (d.1 - c.1)⁻¹=v at*
   grind
  ·rw [QF,QF]
   ·simp only [Qy,h.lenA,lc,ld];omega
   ·simp only [VH,Qy,h.lenA,lc,ld];omega
end
structure Row where
 am:Rat
 rank:Int
 group:Int
 part:Rat
def pG (L:List Row):Rat:=zM (L.map (·.am))
def wo (L:List Row):Rat:=zM (L.map (·.part))
def Row.flip (x:Row):Row:={x with part:=x.am - x.part}
def Row.first (p:Rat) (x:Row):Row:={x with am:=x.am*p}
def Row.rest (p:Rat) (x:Row):Row:={x with am:=x.am*(1 - p),part:=x.part - x.am*p}
def Row.scale (c:Rat) (x:Row):Row:={x with am:=x.am*c,part:=x.part*c}
def InQ (L:List Row):Prop:=∀x∈L,0<=x.part/\x.part<=x.am
def IX (L:List Row):Prop:=∀x∈L,x.part*pG L=x.am*wo L
def oW (L:List Row):Prop:=InQ L/\∀x∈L,x.part<x.am->∀y∈L,y.part<=x.part
noncomputable def YY (L:List Row):List Int:=(aR (L.map (·.group))).choose
def pB:List Int->Int
 |[]=>0
 |[a]=>a
 |a::l=>min a (pB l)
noncomputable def jI (L:List Row):List Row:=(YY L).map λg=>
 ⟨pG (L.filter (·.group=g)),pB ((L.filter (·.group=g)).map (·.rank)),g,wo (L.filter (·.group=g))⟩
def bI (p:Rat) (X Y:List Row->Prop) (L:List Row):Prop:=if wo L<=pG L*p then X (L.map (Row.first p)) else Y (L.map (Row.rest p))
noncomputable def xP:Rl->List Row->Prop
 | .shares,L=>InQ L/\IX L
 | .evenly,L=>InQ L/\oW L
 | .losses,L=>InQ L/\oW (L.map Row.flip)
 | .halves,L=>InQ L/\bI (1 / 2) (λL=>InQ L/\oW L) (λL=>InQ L/\oW (L.map Row.flip)) L
 | .other r,L=>InQ L/\xP r (L.map Row.flip)
 | .ranks r,L=>InQ L/\(∀k,xP r (L.filter (·.rank=k)))/\∀x∈L,∀y∈L,x.rank<y.rank->0<y.part->x.part=x.am
 | .groups a b,L=>InQ L/\(∀g,xP b (L.filter (·.group=g)))/\xP a (jI L)
 | .upto t b x y,L=>InQ L/\bI (Rat.divInt t b) (xP x) (xP y) L
theorem xP.inQ:∀{r:Rl} {L:List Row},xP r L->InQ L
 | .shares,_,h=>h.1
 | .evenly,_,h=>h.1
 | .losses,_,h=>h.1
 | .halves,_,h=>h.1
 | .other _,_,h=>h.1
 | .ranks _,_,h=>h.1
 | .groups _ _,_,h=>h.1
 | .upto _ _ _ _,_,h=>h.1
section
variable {c:Rat} {L:List Row}
theorem ai:pG (L.map (Row.scale c))=pG L*c:=by
 unfold pG;rw [<-yY,Qr,Qr];rfl
theorem ah:wo (L.map (Row.scale c))=wo L*c:=by
 unfold wo;rw [<-yY,Qr,Qr];rfl
theorem jh (hc:0<c):x*c<=y*c↔x<=y:=by
 constructor
 ·intro h
  by_cases z:x<=y
  ·exact z
  ·have:=jbx (show 0<x - y by grind) hc
   grind
 ·intro h;exact Zh h (QC hc)
theorem InQ.scale (hc:0<c) (h:InQ L):InQ (L.map (Row.scale c)):=λx hx=>by
 obtain ⟨y,hy,rfl⟩:=Qj.mp hx;have:=h y hy;exact ⟨Ta this.1 (QC hc),Zh this.2 (QC hc)⟩
theorem oW.scale (hc:0<c) (h:oW L):oW (L.map (Row.scale c)):=by
 refine ⟨h.1.scale hc,λx hx lt y hy=>?_⟩;obtain ⟨x',KH,rfl⟩:=Qj.mp hx;obtain ⟨y',Lv,rfl⟩:=Qj.mp hy
 have lt':x'.part<x'.am:=by
  rcases jaf.mp (λz=>absurd ((jh (c:=c) hc).mpr z) (jaf.mpr lt)) with z
  exact z
 exact Zh (h.2 x' KH lt' y' Lv) (QC hc)
theorem aW:(L.map (Row.scale c)).map Row.flip=(L.map Row.flip).map (Row.scale c):=by
 rw [Qr,Qr];refine QI λx _=>?_;simp only [Function.comp,Row.flip,Row.scale]
 congr 1
 grind
theorem qN:(L.map (Row.scale c)).map (Row.first p)=(L.map (Row.first p)).map (Row.scale c):=by
 rw [Qr,Qr];refine QI λx _=>?_;simp only [Function.comp,Row.first,Row.scale]
 congr 1
 grind
theorem uB:(L.map (Row.scale c)).map (Row.rest p)=(L.map (Row.rest p)).map (Row.scale c):=by
 rw [Qr,Qr];refine QI λx _=>?_;simp only [Function.comp,Row.rest,Row.scale]
 congr 1<;>grind
theorem bI.scale  (hc:0<c) (hX:∀L,X L->X (L.map (Row.scale c))) (hY:∀L,Y L->Y (L.map (Row.scale c))) (h:bI p X Y L):bI p X Y (L.map (Row.scale c)):=by
 unfold bI at h⊢;rw [ah,ai,show pG L*c*p=pG L*p*c by grind]
 by_cases z:wo L<=pG L*p
 ·rw [QH z] at h;rw [QH ((jh hc).mpr z),qN];exact hX _ h
 ·rw [QO z] at h;rw [QO (λw=>z ((jh hc).mp w)),uB];exact hY _ h
theorem qO:(L.map (Row.scale c)).filter (·.rank=k)=(L.filter (·.rank=k)).map (Row.scale c):=by
 rw [List.filter_map];rfl
theorem cj:(L.map (Row.scale c)).filter (·.group=k)=(L.filter (·.group=k)).map (Row.scale c):=by
 rw [List.filter_map];rfl
theorem uu:jI (L.map (Row.scale c))=(jI L).map (Row.scale c):=by
 have e:YY (L.map (Row.scale c))=YY L:=by
  unfold YY
  congr 2
  rw [Qr];rfl
 unfold jI;rw [e,Qr];refine QI λg _=>?_;simp only [Function.comp,cj,ai,ah,Row.scale]
 congr 2
 rw [Qr];rfl
theorem xP.scale (hc:0<c):∀{r:Rl} {L:List Row},xP r L->xP r (L.map (Row.scale c))
 | .shares,L,h=>⟨h.1.scale hc,λx hx=>by
  obtain ⟨y,hy,rfl⟩:=Qj.mp hx;have:=h.2 y hy;rw [ai,ah];show y.part*c*(pG L*c)=y.am*c*(wo L*c)
  grind⟩
 | .evenly,L,h=>⟨h.1.scale hc,h.2.scale hc⟩
 | .losses,L,h=>⟨h.1.scale hc,by rw [aW];exact h.2.scale hc⟩
 | .halves,L,h=>⟨h.1.scale hc,bI.scale hc (λL z=>⟨z.1.scale hc,z.2.scale hc⟩) (λL z=>⟨z.1.scale hc,by rw [aW];exact z.2.scale hc⟩) h.2⟩
 | .other r,L,h=>⟨h.1.scale hc,by rw [aW];exact xP.scale hc h.2⟩
 | .ranks r,L,h=>⟨h.1.scale hc,λk=>by rw [qO];exact xP.scale hc (h.2.1 k),λx hx y hy lt pos=>by
  obtain ⟨x',KH,rfl⟩:=Qj.mp hx;obtain ⟨y',Lv,rfl⟩:=Qj.mp hy
  have py:0<y'.part:=by
   rcases jaf.mp (λz:y'.part<=0=>absurd (by have:=(jh (c:=c) (y:=0) hc).mpr z;rwa [jbe] at this) (jaf.mpr pos)) with z
   exact z
  show x'.part*c=x'.am*c
  rw [h.2.2 x' KH y' Lv lt py]⟩
 | .groups a b,L,h=>⟨h.1.scale hc,λg=>by rw [cj];exact xP.scale hc (h.2.1 g),by rw [uu];exact xP.scale hc h.2.2⟩
 | .upto t b x y,L,h=>⟨h.1.scale hc,bI.scale hc (λL z=>xP.scale hc z) (λL z=>xP.scale hc z) h.2⟩
end
def xJ (c:Cl) (p:Rat):Row:=⟨(c.1:Rat),c.2.1,c.2.2,p⟩
def zH (l:List Cl) (v:List Rat):List Row:=List.zipWith xJ l v
def amQ (l:List Cl):List Rat:=l.map λc=>(c.1:Rat)
section
variable {l:List Cl} {v:List Rat}
theorem ZY (h:x∈zH l v):∃(i:Nat) (c:Cl) (p:Rat),l[i]? =some c/\v[i]? =some p/\x=xJ c p:=by
 obtain ⟨i,hi,e⟩:=QR h;have Kv:=hi;unfold zH at Kv;rw [Qy] at Kv;refine ⟨i,l[i]'(by omega),v[i]'(by omega),Qb _,Qb _,?_⟩;rw [<-e];exact Tb (f:=xJ) (l:=l) (l':=v) (h:=hi)
theorem XN {i:Nat} {c:Cl} {p:Rat} (hc:l[i]? =some c) (hp:v[i]? =some p):xJ c p∈zH l v:=by
 apply Qc (i:=i)
 unfold zH;rw [Qt,hc,hp]
theorem Xj:∀{l:List Cl} {v:List Rat},v.length=l.length->pG (zH l v)=zM (amQ l)
 |[],[],_=>rfl
 |[],_::_,h=>by simp at h
 |_::_,[],h=>by simp at h
 |c::l,p::v,h=>by
  have:=Xj (l:=l) (v:=v) (by simpa using h);unfold pG at this⊢;show zM ((c.1:Rat)::(zH l v).map (·.am))=zM ((c.1:Rat)::amQ l);rw [zM,zM,this]
theorem Ym:∀{l:List Cl} {v:List Rat},v.length=l.length->wo (zH l v)=zM v
 |[],[],_=>rfl
 |[],_::_,h=>by simp at h
 |_::_,[],h=>by simp at h
 |c::l,p::v,h=>by
  have:=Ym (l:=l) (v:=v) (by simpa using h);unfold wo at this⊢;show zM (p::(zH l v).map (·.part))=zM (p::v);rw [zM,zM,this]
theorem Ux:∀{l:List Cl} {v:List Rat},(zH l v).map Row.flip=zH l (pH (amQ l) v)
 |[],_=>rfl
 |_::_,[]=>rfl
 |c::l,p::v=>by
  show _::(zH l v).map Row.flip=_::zH l (pH (amQ l) v);rw [Ux];rfl
theorem iP (p:Rat):∀{l:List Cl} {v:List Rat},(zH l (UY p v)).map (Row.first p)=(zH l v).map (Row.scale p)
 |[],_=>rfl
 |_::_,[]=>rfl
 |c::l,q::v=>by
  show _::(zH l (UY p v)).map (Row.first p)=_::(zH l v).map (Row.scale p);rw [iP];rfl
def aF (p:Rat) (as v:List Rat):List Rat:=List.zipWith (λa x=>a*p+x*(1 - p)) as v
theorem mY (p:Rat):∀{l:List Cl} {v:List Rat},(zH l (aF p (amQ l) v)).map (Row.rest p)=(zH l v).map (Row.scale (1 - p))
 |[],_=>rfl
 |_::_,[]=>rfl
 |c::l,q::v=>by
  show Row.rest p (xJ c ((c.1:Rat)*p+q*(1 - p)))::(zH l (aF p (amQ l) v)).map (Row.rest p)=Row.scale (1 - p) (xJ c q)::(zH l v).map (Row.scale (1 - p));rw [mY]
  congr 1
  simp only [Row.rest,Row.scale,xJ]
  congr 1
  grind
theorem XX (l:List Cl):(amQ l).length=l.length:=Qa _
end
structure Good (r:Rl) (l:List Cl) (P:List zg):Prop where
 std:Std l.length (zM (amQ l)) (amQ l) P
 fit:∀e:Rat,0<=e->xP r (zH l (zh P e))
section
variable {r x y:Rl} {l:List Cl} {P P':List zg}
theorem Std.clip  (h:Std m T as P):zh P e=zh P (mn e T):=by
 unfold mn
 split
 ·rfl
 ·rename_i c;rw [h.past (QC (jaf.mp c)),h.past QQ]
theorem lF  (h:Std m T as P):Std m T as (yv P):=by
 have hl:=h.lastC;have lA:=h.lenA;obtain ⟨r,er⟩:=h.cons
 have tz:VH (T,as) (T,as)=(0,List.replicate m 0):=by
  unfold VH;rw [show T - T=(0:Rat) by grind]
  congr 1
  apply Tt
  ·rw [Qy,lA,QD,TN]
  ·intro i _ _;rw [Tb,Tw]
   grind
 have t0:VH (T,as) (0,List.replicate m 0)=(T,as):=by
  unfold VH;dsimp only;rw [show T - (0:Rat)=T by grind]
  congr 1
  apply Tt
  ·rw [Qy,lA,QD,TN]
  ·intro i _ _;rw [Tb,Tw]
   grind
 have sub:∀{x y:List Rat},x.length=y.length->zM (List.zipWith (· - ·) x y)=zM x - zM y:=by
  intro x
  induction x with
  |nil=>intro y h;cases y with
   |nil=>rw [List.zipWith_nil_left,zM];grind
   |cons _ _=>simp at h
  |cons a x ih=>intro y h;cases y with
   |nil=>simp at h
   |cons b y=>rw [jas,zM,zM,zM,ih (by simpa using h)];grind
 have sT:zM as=T:=(h.ok _ (jai h.last)).2;refine ⟨?_,λc hc=>?_,?_,?_⟩
 ·unfold yv yl;rw [Tn,List.pairwise_reverse]
  exact h.rise.imp λ{c d} Ku=>by
   show (S.lastC P).1 - d.1<(S.lastC P).1 - c.1
   grind
 ·obtain ⟨d,hd,rfl⟩:=Qj.mp hc;have ok:=h.ok d (jbH.mp hd);rw [hl];refine ⟨?_,?_⟩
  ·show (List.zipWith _ as d.2).length=m;rw [Qy,lA,ok.1,TN]
  ·show zM (List.zipWith _ as d.2)=T - d.1;rw [sub (by rw [lA,ok.1]),sT,ok.2]
 ·unfold yv;rw [Qh,<-List.head?_eq_getElem?,List.head?_reverse,h.last,hl,<-tz];rfl
 ·unfold yv;rw [jan,List.getLast?_reverse,hl,List.head?_eq_getElem?,h.head];show some (VH (T,as) (0,List.replicate m 0))=_;rw [t0]
theorem Good.other (h:Good r l P):Good (.other r) l (yv P):=by
 have st:=h.std;refine ⟨lF st,λe h0=>?_⟩;have Lb:=lF st;rw [Lb.clip]
 have m0:0<=mn e (zM (amQ l)):=by
  have:=st.T0;unfold mn
  split<;>grind
 have m1:mn e (zM (amQ l))<=zM (amQ l):=by unfold mn;split<;>grind
 rw [st.turned m0 m1];have f:=h.fit (zM (amQ l) - mn e (zM (amQ l))) (by grind);have ln:=st.len (e:=zM (amQ l) - mn e (zM (amQ l)));generalize zh P (zM (amQ l) - mn e (zM (amQ l)))=w at*;refine ⟨?_,by rw [Ux,wU (by rw [XX];exact ln)];exact f⟩;intro x hx;rw [<-Ux] at hx;obtain ⟨z,hz,rfl⟩:=Qj.mp hx;have:=f.inQ z hz;show 0<=z.am - z.part/\z.am - z.part<=z.am
 grind
theorem Wt   (hp:0<p) (h:Std m T as P):Std m (T*p) (UY p as) (zW p P):=by
 refine ⟨pV hp h.rise,λc hc=>?_,?_,?_⟩
 ·obtain ⟨d,hd,rfl⟩:=Qj.mp hc;have:=h.ok d hd;exact ⟨by rw [Qa];exact this.1,by rw [yY,this.2]⟩
 ·unfold zW;rw [Qh,h.head];show some ((0:Rat)*p,(List.replicate m (0:Rat)).map (·*p))=_;rw [jbe,jaO,jbe]
 ·unfold zW;rw [jan,h.last];rfl
theorem gu  (h:Std m T as P) (h':Std m T' NC P'):Std m (T+T') (List.zipWith (·+·) as NC) (P++yF P P'):=by
 have hl:=h.lastC;obtain ⟨r',Pg⟩:=h'.cons;have lA:=h.lenA;have mem:(T,as)∈P:=jai h.last;have sT:=(h.ok _ mem).2;refine ⟨?_,λc hc=>?_,?_,?_⟩
 ·refine TQ.mpr ⟨h.rise,?_,λc hc d hd=>?_⟩
  ·unfold yF;rw [Tn];refine jbF (λ{a b} Lj=>?_) (jbf (List.tail_sublist P') h'.rise);show (S.lastC P).1+a.1<(S.lastC P).1+b.1
   grind
  ·obtain ⟨d',KS,rfl⟩:=Qj.mp hd
   have c1:c.1<=T:=by
    obtain ⟨i,hi,rfl⟩:=QR hc;have KG:=h.last;rw [jav] at KG;obtain ⟨Mp,e2⟩:=Qd.mp KG
    by_cases z:i=P.length - 1
    ·subst z;rw [e2];exact QQ
    ·have:=QJ.mp h.rise i (P.length - 1) hi Mp (by omega);rw [e2] at this;exact QC this
   have d1:0<d'.1:=by
    have rr:=h'.rise;rw [Pg] at rr KS;exact (Ql.mp rr).1 d' KS
   show c.1<(S.lastC P).1+d'.1;rw [hl];show c.1<T+d'.1
   grind
 ·rcases QS.mp hc with z|z
  ·exact h.ok c z
  ·obtain ⟨d,hd,rfl⟩:=Qj.mp z;have ok:=h'.ok d (TR hd);rw [hl];refine ⟨?_,?_⟩
   ·show (List.zipWith _ as d.2).length=m;rw [Qy,lA,ok.1,TN]
   ·show zM (List.zipWith (·+·) as d.2)=T+d.1;rw [cQ (by rw [lA,ok.1]),ok.2];rw [show zM as=T from sT]
 ·rw [jau (jaz.mpr h.ne),h.head]
 ·unfold yF
  have hz:List.zipWith (·+·) as (List.replicate m (0:Rat))=as:=by
   apply Tt
   ·rw [Qy,lA,QD,TN]
   ·intro i _ _;rw [Tb,Tw]
    grind
  cases r' with
  |nil=>
   have KJ:=h'.last;rw [Pg] at KJ⊢;cases KJ;rw [List.tail_cons,jaq,jaX,h.last,hz,Rat.add_zero]
  |cons d t=>
   have KJ:=h'.last;rw [Pg,TM] at KJ;rw [Pg,List.tail_cons,List.getLast?_append,jan,KJ,hl];rfl
theorem lB  (h:Std m T as P):Std m T as (yp P)/\∀e:Rat,0<=e->zh (yp P) e=zh P e:=by
 obtain ⟨r,er⟩:=h.cons;have sub:=ZD P
 have kl:(yp P).getLast? =P.getLast? :=by
  rw [er];show ((0,List.replicate m 0)::yf (0,List.replicate m 0) r).getLast? =((0,List.replicate m 0)::r).getLast?
  have:∀(r:List zg) (a:zg),(yf a r).getLast? =r.getLast? :=by
   intro r
   induction r with
   |nil=>intro a;rw [yf]
   |cons b r ih=>
    intro a
    cases r with
    |nil=>rw [yf]
    |cons c r=>
     rw [yf]
     split
     ·rw [ih b,TM]
     ·rw [jbY,ih b,TM,jbY];rfl
  rw [jbY,this,<-jbY]
 refine ⟨⟨jbf sub h.rise,λc hc=>h.ok c (sub.subset hc),by rw [er];rfl,by rw [kl];exact h.last⟩,λe h0=>?_⟩;have rr:=h.rise;have ok:=h.ok;rw [er] at rr ok⊢;exact lC rr (λx hx=>(ok x hx).1) h0
theorem ck   (h:Std m T as P) (h':Std m T' NC P') (h0:0<=e):zh (yp (P++yF P P')) e=if e<T then zh P e else List.zipWith (·+·) as (zh P' (e - T)):=by
 have s:=gu h h';obtain ⟨_,k2⟩:=lB s;rw [k2 e h0];obtain ⟨r1,er1⟩:=h.cons;obtain ⟨r2,Pf⟩:=h'.cons;have l1:=h.lastC
 split
 ·rename_i c;have lt:e<(S.lastC P).1:=by rw [l1];exact c
  generalize hM:yF P P'=M;rw [er1] at lt⊢;exact WH h0 lt
 ·rename_i c;have ge:T<=e:=Tf.mp c;have le:(S.lastC P).1<=e:=by rw [l1];exact ge
  have rr:=h.rise
  have ev:zh (P++yF P P') e=zh (S.lastC P::yF P P') e:=by
   generalize hM:yF P P'=M;rw [er1] at le rr⊢;exact ZR rr le
  rw [ev,l1]
  have em:((T,as):zg)::yF P P'=P'.map (Vq (T,as)):=by
   unfold yF;rw [l1]
   conv=>rhs;rw [Pf]
   rw [Qo]
   congr 1
   ·unfold Vq;dsimp only;rw [Rat.add_zero]
    congr 1
    apply Tt
    ·rw [Qy,QD,h.lenA,TN]
    ·intro i _ _;rw [Tb,Tw]
     grind
   ·rw [Pf];rfl
  rw [em];have pp:=eZ (m:=m) (c:=(T,as)) (e:=e) h.lenA (q:=(0,List.replicate m 0)) (r:=r2) (by rw [<-Pf];exact λz hz=>(h'.ok z hz).1);rw [<-Pf] at pp;exact pp
theorem Good.upto {p:Rat} {t b:Int} (ep:p=Rat.divInt t b) (p0:0<p) (p1:p<1) (nn:∀c∈l,0<=c.1) (hx:Good x l P) (hy:Good y l P'):Good (.upto t b x y) l (Wj p P P'):=by
 have q0:0<1 - p:=by grind
 have s1:=Wt p0 hx.std;have s2:=Wt q0 hy.std;have s3:=gu s1 s2;have eT:zM (amQ l)*p+zM (amQ l)*(1 - p)=zM (amQ l):=by grind
 have eA:List.zipWith (·+·) (UY p (amQ l)) (UY (1 - p) (amQ l))=amQ l:=by
  unfold UY
  apply Tt
  ·simp
  ·intro i _ _;simp only [Tb,jaF]
   grind
 rw [eT,eA] at s3;obtain ⟨k1,_⟩:=lB s3;refine ⟨k1,λe h0=>?_⟩;unfold Wj;rw [ck s1 s2 h0];have lenE:∀e:Rat,(zh P e).length=l.length:=λe=>hx.std.len;have lenE':∀e:Rat,(zh P' e).length=l.length:=λe=>hy.std.len;have T0:=hx.std.T0;have amn:∀(i:Nat) (c:Cl),l[i]? =some c->(0:Rat)<=(c.1:Rat):=λi c hc=>bt (nn c (Qc hc));have sA:∀v:List Rat,v.length=l.length->pG (zH l v)=zM (amQ l):=λv hv=>Xj hv
 have low:∀w:List Rat,w.length=l.length->xP x (zH l w)->zM w<=zM (amQ l)->xP (.upto t b x y) (zH l (UY p w)):=λw hw fw hs=>by
  have lw:(UY p w).length=l.length:=by unfold UY;rw [Qa];exact hw
  refine ⟨λz hz=>?_,?_⟩
  ·obtain ⟨i,c,q,hc,hq,rfl⟩:=ZY hz;unfold UY at hq;rw [Qh] at hq
   cases e1:w[i]? with
   |none=>rw [e1] at hq;cases hq
   |some q'=>
    rw [e1] at hq;cases hq;have:=fw.inQ _ (XN hc e1);have a0:=amn i c hc;have t1:0<=q'/\q'<=(c.1:Rat):=this;show 0<=q'*p/\q'*p<=(c.1:Rat);refine ⟨Ta t1.1 (QC p0),?_⟩;have u1:=Zh t1.2 (QC p0);have u2:=Ta a0 (QC q0)
    grind
  ·rw [<-ep];unfold bI;rw [sA _ lw,Ym lw];have:zM (UY p w)=zM w*p:=yY p w;rw [this,QH ((jh p0).mpr hs),iP];exact xP.scale p0 fw
 have high:∀w:List Rat,w.length=l.length->xP y (zH l w)->0<zM w->xP (.upto t b x y) (zH l (aF p (amQ l) w)):=λw hw fw hs=>by
  have lw:(aF p (amQ l) w).length=l.length:=by unfold aF;rw [Qy,XX,hw,TN]
  have es:zM (aF p (amQ l) w)=zM (amQ l)*p+zM w*(1 - p):=by
   have e1:aF p (amQ l) w=List.zipWith (·+·) (UY p (amQ l)) (UY (1 - p) w):=by
    unfold aF UY;rw [jbI]
   rw [e1,cQ (by unfold UY;rw [Qa,Qa,XX,hw])];show zM ((amQ l).map (·*p))+zM (w.map (·*(1 - p)))=_;rw [yY,yY]
  refine ⟨λz hz=>?_,?_⟩
  ·obtain ⟨i,c,q,hc,hq,rfl⟩:=ZY hz;unfold aF at hq;rw [Qt] at hq;have ea:(amQ l)[i]? =some (c.1:Rat):=by unfold amQ;rw [Qh,hc];rfl
   rw [ea] at hq
   cases e1:w[i]? with
   |none=>rw [e1] at hq;cases hq
   |some q'=>
    rw [e1] at hq;cases hq;have:=fw.inQ _ (XN hc e1);have a0:=amn i c hc;have t1:0<=q'/\q'<=(c.1:Rat):=this;show 0<=(c.1:Rat)*p+q'*(1 - p)/\(c.1:Rat)*p+q'*(1 - p)<=(c.1:Rat);have u0:=Ta a0 (QC p0);have u1:=Zh t1.2 (QC q0);have u2:=Ta t1.1 (QC q0)
    grind
  ·rw [<-ep];unfold bI;rw [sA _ lw,Ym lw,es];have pos:=jbx hs q0;rw [QO (by grind),mY];exact xP.scale q0 fw
 split
 ·rw [WG p0];have e0:0<=e / p:=by rw [TZ];exact Ta h0 (QC (Rat.inv_pos.mpr p0))
  refine low _ (lenE _) (hx.fit _ e0) ?_;rw [hx.std.sum e0];unfold mn
  split<;>grind
 ·rename_i c;have ge:zM (amQ l)*p<=e:=Tf.mp c
  have k:List.zipWith (·+·) (UY p (amQ l)) (zh (zW (1 - p) P') (e - zM (amQ l)*p))=aF p (amQ l) (zh P' ((e - zM (amQ l)*p) / (1 - p))):=by
   rw [WG q0];unfold aF UY;rw [jbI]
  rw [k];have d0:0<=(e - zM (amQ l)*p) / (1 - p):=by rw [TZ];exact Ta (by grind) (QC (Rat.inv_pos.mpr q0))
  have fw:=hy.fit _ d0;have sw:=hy.std.sum d0;have lw:=lenE' ((e - zM (amQ l)*p) / (1 - p));generalize zh P' ((e - zM (amQ l)*p) / (1 - p))=w at*
  by_cases pos:0<zM w
  ·exact high w lw fw pos
  ·
   have w0:∀q∈w,q=0:=by
    have nnw:∀q∈w,0<=q:=λq hq=>by
     obtain ⟨i,hi,rfl⟩:=QR hq;have:=fw.inQ _ (XN (Qb (l:=l) (i:=i) (by omega)) (Qb hi));exact this.1
    have:∀{w:List Rat},(∀q∈w,0<=q)->0<=zM w/\(zM w<=0->∀q∈w,q=0):=by
     intro w
     induction w with
     |nil=>intro _;exact ⟨by rw [zM];exact QQ,λ_ q hq=>absurd hq Qn⟩
     |cons a w ih=>
      intro h;have ha:=h a (Qe ..);obtain ⟨i1,i2⟩:=ih λq hq=>h q (Qf _ hq);rw [zM];refine ⟨by grind,λhs q hq=>?_⟩
      rcases Qm.mp hq with rfl|hq
      ·exact jaC (by grind) ha
      ·exact i2 (by grind) q hq
    exact (this nnw).2 (Tf.mp pos)
   have ew:aF p (amQ l) w=UY p (amQ l):=by
    unfold aF UY
    apply Tt
    ·rw [Qy,Qa,XX,lw,TN]
    ·intro i h1 h2;rw [Tb,jaF,w0 _ (Td _)]
     grind
   rw [ew];have full:=hx.fit _ hx.std.T0;rw [hx.std.past QQ] at full;exact low _ (XX l) full QQ
end
theorem Vn (l:List Cl):amQ l=(amV l).map λ(a:Int)=>(a:Rat):=by unfold amQ amV;rw [Qr];rfl
theorem xQ (l:List Cl):zM (amQ l)=(((amV l).sum:Int):Rat):=by rw [Vn,Uj]
theorem dB (l:List Cl):zP (amV l)=(zM (amQ l),amQ l):=by rw [xQ,Vn];rfl
theorem Iy  (ne:P≠[]) (h:lastC P=c):P.getLast? =some c:=by
 rw [<-h];unfold lastC;rw [Tc ne];rfl
section
variable {l:List Cl} {ls:List Int}
theorem XS (h:LvOk (amV l) ls):Good .evenly l (evP (amV l) ls):=by
 obtain ⟨r,er⟩:=Cm h;refine ⟨⟨h.riseE,λc hc=>by rw [<-yj];exact tw _ _ c hc,by rw [er,Wa,yj];rfl,Iy (by rw [er];simp) (by rw [tx h,dB])⟩,λe h0=>?_⟩;obtain ⟨z,z0,hz⟩:=h.evenly h0;rw [hz]
 have row:∀x∈zH l ((amV l).map λ(a:Int)=>mn (a:Rat) z),0<=x.am/\x.part=mn x.am z:=λx hx=>by
  obtain ⟨i,c,p,hc,hp,rfl⟩:=ZY hx;unfold amV at hp;rw [Qr,Qh,hc] at hp;cases hp;exact ⟨bt (h.nn _ (Qj.mpr ⟨c,Qc hc,rfl⟩)),rfl⟩
 have inq:InQ (zH l ((amV l).map λ(a:Int)=>mn (a:Rat) z)):=λx hx=>by
  obtain ⟨a0,e⟩:=row x hx;rw [e];exact mn_nn a0 z0
 refine ⟨inq,inq,λx hx lt y hy=>?_⟩;obtain ⟨a0,ex⟩:=row x hx;obtain ⟨b0,ey⟩:=row y hy;rw [ex] at lt⊢;rw [ey];unfold mn at lt⊢
 split at lt
 ·exact absurd lt jaS
 ·rename_i c;rw [QO c]
  split<;>grind
theorem fR (h:LvOk (amV l) ls):Good .losses l (loP (amV l) ls):=by
 have g:=(XS h).other;rw [dC h] at g;exact ⟨g.std,λe h0=>⟨(g.fit e h0).1,(g.fit e h0).2.2⟩⟩
theorem fO (nn:∀a∈amV l,0<=a):Good .shares l (shP (amV l)):=by
 have s0:=bY nn
 have std:Std l.length (zM (amQ l)) (amQ l) (shP (amV l)):=by
  have az:(amV l).sum=0->amQ l=List.replicate l.length 0:=λc=>by
   have:=rO nn c;rw [Vn,<-yj,<-jaK];exact QI λa ha=>by rw [this a ha];rfl
  unfold shP
  by_cases c:(amV l).sum=0
  ·rw [QH c];refine ⟨jab _ _,λx hx=>?_,by rw [Wa,yj];rfl,?_⟩
   ·rw [Qq.mp hx];have:=XD (ZV (amV l).length);rw [Ui,yj] at this;rw [yj];exact this
   ·show some _=some _;rw [Wa,yj,az c,Xf];rfl
  ·rw [QO c];refine ⟨?_,λx hx=>?_,by rw [Wa,yj];rfl,?_⟩
   ·refine Ql.mpr ⟨λd hd=>?_,jab _ _⟩;rw [Qq.mp hd,Wa];exact YM (show 0<(amV l).sum by omega)
   ·rcases Qm.mp hx with rfl|hx
    ·have:=XD (ZV (amV l).length);rw [Ui,yj] at this;rw [yj];exact this
    ·rw [Qq.mp hx,<-yj];exact XD _
   ·show some _=some _;rw [dB];rfl
 refine ⟨std,λe h0=>?_⟩;have ln:=std.len (e:=e);obtain ⟨z,⟨z0,z1⟩,hz,_⟩:=DR nn h0;have sP:=Ym (l:=l) ln;have sA:=Xj (l:=l) ln
 have es:zM (zh (shP (amV l)) e)=zM (amQ l)*z:=by
  rw [hz,Vn,<-yY,Qr];rfl
 rw [es] at sP;rw [hz] at sP sA⊢
 have row:∀x∈zH l ((amV l).map λ(a:Int)=>(a:Rat)*z),0<=x.am/\x.part=x.am*z:=λx hx=>by
  obtain ⟨i,c,p,hc,hp,rfl⟩:=ZY hx;unfold amV at hp;rw [Qr,Qh,hc] at hp;cases hp;exact ⟨bt (nn _ (Qj.mpr ⟨c,Qc hc,rfl⟩)),rfl⟩
 refine ⟨λx hx=>?_,λx hx=>?_⟩
 ·obtain ⟨a0,e⟩:=row x hx;rw [e];refine ⟨Ta a0 z0,?_⟩;have:=Ta a0 (show 0<=1 - z by grind)
  grind
 ·rw [sA,sP,(row x hx).2]
  grind
theorem qL (h:LvOk (amV l) ls):Good .halves l (yp (hvP (amV l) ls)):=by
 have e2:Rat.divInt 1 2=(1:Rat) / 2:=by decide+kernel
 have g:=Good.upto (p:=1 / 2) (t:=1) (b:=2) e2.symm sX (by decide+kernel) (λc hc=>h.nn _ (Qj.mpr ⟨c,hc,rfl⟩)) (XS h) (fR h)
 have eu:Wj (1 / 2) (evP (amV l) ls) (loP (amV l) ls)=yp (hvP (amV l) ls):=by
  unfold Wj;rw [show (1:Rat) - 1 / 2=1 / 2 by decide+kernel];rfl
 rw [eu] at g;refine ⟨g.std,λe h0=>?_⟩;have f:=g.fit e h0;refine ⟨f.1,?_⟩;have f2:=f.2;rw [e2] at f2;exact f2
end
theorem yB (b0:b≠0):Rat.divInt t b*(b:Rat)=(t:Rat):=by
 have h3:∀z:Int,(z:Rat)=Rat.divInt z 1:=λz=>by rw [<-jaN (z:Rat)];rfl
 rw [h3 b,h3 t,jbd,jbZ];exact (jbO b0 (by decide)).mpr (by rw [jbZ])
theorem eS (h:Vy t b):0<Rat.divInt t b/\Rat.divInt t b<1:=by
 obtain ⟨_,t0,tb,_⟩:=h;have b0:(0:Rat)<(b:Rat):=YM (by omega);have e:=yB (t:=t) (b:=b) (by omega);have t0':=YM t0;have tb':=lK tb;generalize Rat.divInt t b=q at*
 constructor
 ·by_cases z:0<q
  ·exact z
  ·have:=Zh (Tf.mp z) (QC b0)
   grind
 ·by_cases z:q<1
  ·exact z
  ·have:=Zh (Tf.mp z) (QC b0)
   grind
def Yc (D:Int) (x:Rat):Prop:=∃k:Int,x*(D:Rat)=(k:Rat)
section
variable {D D':Int} {x y:Rat} {P P':List zg}
theorem Yc.mul (h:Yc D x) (n:Int):Yc (D*n) x:=by
 obtain ⟨k,hk⟩:=h;exact ⟨k*n,by rw [QV,QV,<-Rat.mul_assoc,hk]⟩
theorem Yc.mulL (h:Yc D x) (n:Int):Yc (n*D) x:=by rw [Int.mul_comm];exact h.mul n
theorem Yc.add (h:Yc D x) (g:Yc D y):Yc D (x+y):=by
 obtain ⟨k,hk⟩:=h;obtain ⟨j,hj⟩:=g;exact ⟨k+j,by rw [Rat.intCast_add,<-hk,<-hj];grind⟩
theorem Yc.sub (h:Yc D x) (g:Yc D y):Yc D (x - y):=by
 obtain ⟨k,hk⟩:=h;obtain ⟨j,hj⟩:=g;exact ⟨k - j,by rw [jaJ,<-hk,<-hj];grind⟩
theorem Yc.port (b0:b≠0) (h:Yc D x):Yc (b*D) (x*Rat.divInt t b):=by
 obtain ⟨k,hk⟩:=h;refine ⟨k*t,?_⟩;have e:=yB (t:=t) b0;rw [QV,QV,<-hk,<-e]
 grind
theorem Yc.int (n:Int) (D:Int):Yc D (n:Rat):=⟨n*D,by rw [QV]⟩
theorem Yc.sz  (h:Yc D x) (d0:0<D) (zD:Sz m D) (x0:0<=x) (xT:x<=T) (zT:∃k:Int,T=(k:Rat)/\Sz n k):SzQ (n+m) x:=by
 obtain ⟨k,hk⟩:=h;obtain ⟨t,rfl,zt⟩:=zT;have dp:=YM d0
 have e:x=Rat.divInt k D:=by
  have h2:=yB (t:=k) (b:=D) (by omega);have:(x - Rat.divInt k D)*(D:Rat)=0:=by grind
  rcases Rat.mul_eq_zero.mp this with z|z
  ·grind
  ·rw [z] at dp;exact absurd dp jaS
 have k0:0<=k:=WT (by rw [<-hk];exact Ta x0 (QC dp));have kT:k<=t*D:=WT (by rw [<-hk,QV];exact Zh xT (QC dp));rw [e];exact SzQ.divInt (mD k0 kT (zt.mul zD)) (zD.mono (by omega)) (by omega)
theorem dA  (h:z∈List.zipWith f u v):∃a∈u,∃b∈v,z=f a b:=by
 obtain ⟨i,hi,e⟩:=QR h;have Kv:=hi;rw [Qy] at Kv;rw [Tb] at e;exact ⟨_,Td (by omega),_,Td (by omega),e.symm⟩
theorem nX (ne:P≠[]):lastC P∈P:=by
 unfold lastC;rw [Tc ne];exact List.getLast_mem ne
theorem HU (b0:b≠0):1 - Rat.divInt t b=Rat.divInt (b - t) b:=by
 have e1:=yB (t:=t) b0;have e2:=yB (t:=b - t) b0;have bn:((b:Int):Rat)≠0:=λz=>b0 (Rat.intCast_inj.mp (by rw [z];rfl))
 have:(1 - Rat.divInt t b - Rat.divInt (b - t) b)*(b:Rat)=0:=by
  rw [jaJ] at e2
  grind
 rcases Rat.mul_eq_zero.mp this with z|z
 ·grind
 ·exact absurd z bn
end
section
variable {r x y:Rl} {l:List Cl} {P P':List zg}
theorem Std.at_corner  (h:Std m T as P) (hc:c∈P):zh P c.1=c.2:=by
 obtain ⟨i,hi,rfl⟩:=QR hc;have e1:=Qb hi
 cases hn:P[i+1]? with
 |none=>
  have:=Zg (E:=P[i].1) h.rise e1 QQ (.inl (by have:=jbi.mp hn;omega));rw [hn] at this;exact this
 |some d=>
  have hd:=Qd.mp hn;have lt:=QJ.mp h.rise i (i+1) hi hd.1 (by omega);rw [hd.2] at lt;have:=Zg (E:=P[i].1) h.rise e1 QQ (.inr ⟨d,hn,lt⟩);rw [hn] at this;rw [this];exact Yi (by rw [(h.ok _ (Td hi)).1,(h.ok d (Qc hn)).1])
theorem Std.range  (h:Std m T as P) (hc:c∈P):0<=c.1/\c.1<=T:=by
 have h0:0<=c.1:=by
  obtain ⟨r,er⟩:=h.cons;have rr:=h.rise;rw [er] at rr hc
  rcases Qm.mp hc with rfl|hc
  ·exact QQ
  ·exact QC ((Ql.mp rr).1 c hc)
 refine ⟨h0,?_⟩;have s:=h.sum h0;rw [h.at_corner hc,(h.ok c hc).2] at s;unfold mn at s
 split at s
 ·assumption
 ·rw [s];exact QQ
theorem Yr:∀{v:List Rat},(∀q∈v,0<=q)->0<=zM v/\∀q∈v,q<=zM v
 |[],_=>⟨by rw [zM];exact QQ,λq hq=>absurd hq Qn⟩
 |a::v,h=>by
  have ha:=h a (Qe ..);obtain ⟨i1,i2⟩:=Yr (v:=v) λq hq=>h q (Qf _ hq);rw [zM];refine ⟨by grind,λq hq=>?_⟩
  rcases Qm.mp hq with rfl|hq
  ·grind
  ·have:=i2 q hq;grind
theorem Good.parts (h:Good r l P) (h0:0<=e):∀q∈zh P e,0<=q/\q<=zM (amQ l):=by
 have nn:∀q∈zh P e,0<=q:=λq hq=>by
  obtain ⟨i,hi,rfl⟩:=QR hq;have ln:=h.std.len (e:=e);exact ((h.fit e h0).inQ _ (XN (Qb (l:=l) (i:=i) (by omega)) (Qb hi))).1
 obtain ⟨_,le⟩:=Yr nn;have s:=h.std.sum h0;have m1:mn e (zM (amQ l))<=zM (amQ l):=by unfold mn;split<;>grind
 intro q hq;have:=le q hq;exact ⟨nn q hq,by grind⟩
end
def yO (tk:List Int):List Rat:=tk.map λ(p:Int)=>(p:Rat)
structure FitG (r:Rl) (l:List Cl) (tk:List Int):Prop where
 len:tk.length=l.length
 fit:xP r (zH l (yO tk))
def yd (n:Int) (l:List Cl):List Cl:=l.map λc=>(n*c.1,c.2)
def yT (n:Int) (tk:List Int):List Int:=tk.map (n*·)
section
variable {r x y:Rl} {l:List Cl} {tk:List Int}
theorem WU (tk:List Int):(yO tk).length=tk.length:=Qa _
theorem FitG.row (h:FitG r l tk) {i:Nat} {a p:Int} (ha:(amV l)[i]? =some a) (hp:tk[i]? =some p):∃c:Cl,l[i]? =some c/\c.1=a/\xJ c (p:Rat)∈zH l (yO tk):=by
 unfold amV at ha;rw [Qh] at ha
 cases e:l[i]? with
 |none=>rw [e] at ha;cases ha
 |some c=>
  rw [e] at ha;cases ha;exact ⟨c,rfl,rfl,XN e (by unfold yO;rw [Qh,hp];rfl)⟩
theorem FitG.inB (h:FitG r l tk):InB (amV l) tk:=⟨by rw [yj];exact h.len,λi a p ha hp=>by
 obtain ⟨c,_,rfl,hm⟩:=h.row ha hp;have:=h.fit.inQ _ hm
 exact ⟨WT this.1,WT this.2⟩⟩
theorem Ck  (hl:tk.length=l.length) (e:L=zH l (yO tk)) (h:oW L):oX (amV l) tk:=by
 refine ⟨by rw [yj];exact hl,λi a p ha hp=>?_⟩;unfold amV at ha;rw [Qh] at ha
 cases e1:l[i]? with
 |none=>rw [e1] at ha;cases ha
 |some c=>
  rw [e1] at ha;cases ha;have hm:xJ c (p:Rat)∈L:=by rw [e];exact XN e1 (by unfold yO;rw [Qh,hp];rfl)
  have b:=h.1 _ hm;refine ⟨WT b.1,WT b.2,λlt q hq=>?_⟩;obtain ⟨j,hj,rfl⟩:=QR hq
  have Rt:xJ (l[j]'(by omega)) ((tk[j]:Int):Rat)∈L:=by
   rw [e];exact XN (Qb _) (by unfold yO;rw [Qh,Qb hj];rfl)
  exact WT (h.2 _ hm (lK lt) _ Rt)
theorem vO:yO (xU am tk)=pH (yO am) (yO tk):=by
 unfold yO xU pH;rw [jbJ,jbI]
 congr 1
 funext a b
 rw [jaJ]
theorem Fy (l:List Cl):yO (amV l)=amQ l:=(Vn l).symm
theorem mZ:zH l (yO (xU (amV l) tk))=(zH l (yO tk)).map Row.flip:=by
 rw [vO,Fy,Ux]
theorem sO (h:tk.length=l.length):(xU (amV l) tk).length=l.length:=by rw [WL (by rw [yj];exact h),yj]
theorem FitG.evenly (h:FitG .evenly l tk):oX (amV l) tk:=Ck h.len rfl h.fit.2
theorem FitG.losses (h:FitG .losses l tk):oX (amV l) (xU (amV l) tk):=Ck (sO h.len) mZ.symm h.fit.2
theorem FitG.other (h:FitG (.other r) l tk):FitG r l (xU (amV l) tk):=⟨sO h.len,by rw [mZ];exact h.fit.2⟩
theorem ag (tk:List Int):zM (yO tk)=((tk.sum:Int):Rat):=Uj tk
theorem FitG.sums (h:FitG r l tk):pG (zH l (yO tk))=(((amV l).sum:Int):Rat)/\wo (zH l (yO tk))=((tk.sum:Int):Rat):=
 ⟨by rw [Xj (by rw [WU];exact h.len),xQ],by rw [Ym (by rw [WU];exact h.len),ag]⟩
theorem FitG.shares (h:FitG .shares l tk):tk.map (·*(amV l).sum)=(amV l).map (·*tk.sum):=by
 have s:=h.sums;have f:=h.fit.2
 apply Tt
 ·rw [Qa,Qa,yj,h.len]
 ·intro i h1 h2;rw [Qa] at h1 h2;obtain ⟨c,_,e,hm⟩:=h.row (Qb h2) (Qb h1);have:=f _ hm;rw [s.1,s.2] at this;rw [jaF,jaF]
  apply Rat.intCast_inj.mp
  rw [QV,QV,<-e];exact this
theorem FitG.halves (h:FitG .halves l tk):FitG (.upto 1 2 .evenly .losses) l tk:=by
 refine ⟨h.len,h.fit.1,?_⟩;have e2:Rat.divInt 1 2=(1:Rat) / 2:=by decide+kernel
 rw [e2];exact h.fit.2
theorem Za (n:Int) (l:List Cl):(yd n l).length=l.length:=Qa _
theorem Xe (n:Int) (tk:List Int):(yT n tk).length=tk.length:=Qa _
theorem WV (n:Int) (l:List Cl):amV (yd n l)=yT n (amV l):=by
 unfold amV yd yT;rw [Qr,Qr];rfl
theorem aa (n:Int):∀tk:List Int,(yT n tk).sum=n*tk.sum
 |[]=>by show (0:Int)=n*0;rw [Int.mul_zero]
 |a::tk=>by
  show (n*a::yT n tk).sum=_;rw [QN,QN,aa n tk,Int.mul_add]
theorem sj (b0:b≠0):∀{l:List Cl} {tk:List Int},zH (yd t l) (yO (yT b tk))=((zH l (yO tk)).map (Row.first (Rat.divInt t b))).map (Row.scale (b:Rat))
 |[],_=>rfl
 |_::_,[]=>rfl
 |c::l,p::tk=>by
  show xJ (t*c.1,c.2) ((b*p:Int):Rat)::zH (yd t l) (yO (yT b tk))=Row.scale (b:Rat) (Row.first (Rat.divInt t b) (xJ c (p:Rat)))::((zH l (yO tk)).map (Row.first (Rat.divInt t b))).map (Row.scale (b:Rat));rw [sj b0];have e:=yB (t:=t) b0
  congr 1
  simp only [xJ,Row.scale,Row.first,QV]
  congr 1<;>grind
theorem si (b0:b≠0):∀{l:List Cl} {tk:List Int},zH (yd (b - t) l) (yO (xU (yT b tk) (yT t (amV l))))=((zH l (yO tk)).map (Row.rest (Rat.divInt t b))).map (Row.scale (b:Rat))
 |[],[]=>rfl
 |[],_::_=>rfl
 |_::_,[]=>rfl
 |c::l,p::tk=>by
  show xJ ((b - t)*c.1,c.2) ((b*p - t*c.1:Int):Rat)::zH (yd (b - t) l) (yO (xU (yT b tk) (yT t (amV l))))=Row.scale (b:Rat) (Row.rest (Rat.divInt t b) (xJ c (p:Rat)))::((zH l (yO tk)).map (Row.rest (Rat.divInt t b))).map (Row.scale (b:Rat));rw [si b0];have e:=yB (t:=t) b0
  congr 1
  simp only [xJ,Row.scale,Row.rest,QV,jaJ]
  congr 1<;>grind
theorem FitG.upto (b0:0<b) (h:FitG (.upto t b x y) l tk):
 if (yT b tk).sum<=(amV (yd t l)).sum then FitG x (yd t l) (yT b tk) else FitG y (yd (b - t) l) (xU (yT b tk) (amV (yd t l))):=by
 have s:=h.sums;have f:=h.fit.2;have bp:=YM b0;have bn:b≠0:=by omega
 have e:=yB (t:=t) bn;unfold bI at f;rw [s.1,s.2] at f
 have iff:((tk.sum:Int):Rat)<=(((amV l).sum:Int):Rat)*Rat.divInt t b↔(yT b tk).sum<=(amV (yd t l)).sum:=by
  rw [WV,aa,aa,<-jh bp,<-Te,QV,QV,<-e]
  constructor<;>intro z<;>grind
 by_cases c:(yT b tk).sum<=(amV (yd t l)).sum
 ·rw [QH (iff.mpr c)] at f;rw [QH c];exact ⟨by rw [Xe,Za];exact h.len,by rw [sj bn];exact xP.scale bp f⟩
 ·rw [QO (λz=>c (iff.mp z))] at f;rw [QO c];refine ⟨?_,by rw [WV,si bn];exact xP.scale bp f⟩;rw [WV,Za,WL (by rw [Xe,Xe,yj,h.len]),Xe];exact h.len
theorem vG  (g:Good r l P) (hB:0<B) (e0:0<=e) (de:(e.den:Int)∣B) (hd:∀p∈zh P e,(p.den:Int)∣B):
 (tkV B (zh P e)).sum=min (e.num*B.fdiv (e.den:Int)) (B*(amV l).sum)/\FitG r (yd B l) (tkV B (zh P e)):=by
 have bp:=YM hB;have ln:=g.std.len (e:=e)
 have ec:yO (tkV B (zh P e))=UY (B:Rat) (zh P e):=by
  unfold yO tkV UY;rw [Qr];exact QI λp hp=>mC hB (hd p hp)
 have lt:(tkV B (zh P e)).length=l.length:=by unfold tkV;rw [Qa];exact ln
 refine ⟨?_,by rw [Za];exact lt,?_⟩
 ·apply Rat.intCast_inj.mp
  rw [<-ag,ec,GA,mC hB de,QV,Rat.mul_comm (B:Rat),<-EB bp,<-xQ];have:=g.std.sum e0;rw [<-this];exact yY _ _
 ·rw [ec]
  have:∀{l:List Cl} {v:List Rat},zH (yd B l) (UY (B:Rat) v)=(zH l v).map (Row.scale (B:Rat)):=by
   intro l
   induction l with
   |nil=>intro v;rfl
   |cons c l ih=>
    intro v
    cases v with
    |nil=>rfl
    |cons q v=>
     show xJ (B*c.1,c.2) (q*(B:Rat))::zH (yd B l) (UY (B:Rat) v)=Row.scale (B:Rat) (xJ c q)::(zH l v).map (Row.scale (B:Rat));rw [ih]
     congr 1
     simp only [xJ,Row.scale,QV]
     congr 1
     grind
  rw [this];exact xP.scale bp (g.fit e e0)
end
section
variable {r x y:Rl} {t b:Int} {l:List Cl}
theorem Eg (h:Vy t b):PyData.tuple [.int t, .int b]=frD (Rat.divInt t b):=by
 have b0:0<b:=by have:=h.2.1;have:=h.2.2.1;omega
 have l:=aS (a:=t) b0;unfold frD;rw [<-l.1,<-l.2,h.2.2.2];rw [show (((1:Nat):Int))=1 from rfl,Int.fdiv_one,Int.fdiv_one]
theorem HM (h:Vy t b):SzQ 210 (Rat.divInt t b):=SzQ.divInt h.1.1 h.1.2 (by have:=h.2.1;have:=h.2.2.1;omega)
theorem ar  (h:∀c∈P,SzC n c) (hp:SzQ m p):∀c∈zW p P,SzC (n+m) c:=λc hc=>by
 obtain ⟨d,hd,rfl⟩:=Qj.mp hc;have:=h d hd;refine ⟨this.1.mul hp,λq hq=>?_⟩;obtain ⟨x,hx,rfl⟩:=Qj.mp hq;exact (this.2 x hx).mul hp
end
section
variable {B G0 H:Hp} {cs:yD} {ds:Dat} {Q:VK} {E:XK} {v w u:V} {K:Frg}
end
def Vr:Rl->Nat
 | .halves=>3
 | .other r=>Vr r+1
 | .upto _ _ x y=>max (Vr x) (Vr y)+1
 | .ranks r=>Vr r+1
 | .groups a b=>max (Vr a) (Vr b)+1
 |_=>1
theorem Fw:∀r:Rl,1<=Vr r
 | .shares=>Qv _
 | .evenly=>Qv _
 | .losses=>Qv _
 | .halves=>by decide
 | .other r=>by simp [Vr]
 | .ranks r=>by simp [Vr]
 | .groups a b=>by simp [Vr]
 | .upto _ _ x y=>by simp [Vr]
section
variable {B G0 H:Hp} {cs:yD} {ds:Dat} {Q:VK} {E:XK} {v w u:V} {K:Frg} {n:Nat} {r x y:Rl} {l:List Cl} {tk:List Int} {t b:Int}
theorem port12:Vy 1 2:=⟨⟨by unfold Sz;decide,by unfold Sz;decide⟩,by decide,by decide,by decide⟩
theorem rM  (hc:Sz 211 c) (h:∀x∈amV l,Sz m x):∀x∈amV (yd c l),Sz (m+300) x:=λx hx=>by
 rw [WV] at hx;obtain ⟨a,ha,rfl⟩:=Qj.mp hx;exact (hc.mul (h a ha)).mono (by omega)
end
section
variable {B G0 H:Hp} {cs:yD} {ds:Dat} {Q:VK} {E:XK} {v w u:V} {K:Frg} {r:Rl} {l:List Cl} {e:Rat}
end
structure Small (t b:Int):Prop where
 port:Vy t b
 le:b<=61
section
variable {B G0 H:Hp} {cs:yD} {ds:Dat} {Q:VK} {E:XK} {v w u:V} {K:Frg}
def pR:Sp:=λvs H Q _=>∃(G:Hp) (c:Int),vs=[.int c]/\zV G H/\∀v H' G' (t b:Int),Grow G H G' H'->Is G' (.tuple [.int t, .int b]) v->Small t b->Q v H'
theorem DZ (S:Sta B G0 H cs ds) (k:∀v H' (t b:Int),Small t b->zV H H'->Sta B G0 H' cs ((.tuple [.int t, .int b],v)::ds)->Q v H'):pR [.int c] H Q E:=by
 obtain ⟨G,S⟩:=S;refine ⟨G,c,rfl,S.2.1,λv H' G' t b gr hv good=>k v H' t b good gr.h ?_⟩;obtain ⟨a',b',c',d',e',f',g'⟩:=S.grow gr;exact ⟨G',a',b',c',d',e',f',g'.cons hv⟩
theorem Ay  (S:Sta H G H' cs ds) (k:∀v H' G' (t b:Int),Grow G H G' H'->Is G' (.tuple [.int t, .int b]) v->Small t b->Q v H') (h:Has ds (.tuple [.int t, .int b]) v) (hg:Small t b):Q v H':=by
 obtain ⟨G',gr,al⟩:=S.leave;exact k v H' G' t b gr (h G' al) hg
end
theorem pI  (Li:b.1<c.1) (lb:b.2.length=m) (lc:c.2.length=m) (h1:zQ a b c) (h2:zQ b c y):zQ a b y:=λi A B Y hA hB hY=>by
 have hi:i<m:=by rw [<-lb];exact (Qd.mp hB).1
 have hC:=Qb (l:=c.2) (i:=i) (by omega);have e1:=h1 i A B _ hA hB hC;have e2:=h2 i B _ Y hB hC hY;generalize c.2[i]=C at*;have e3:(B - A)*(c.1 - b.1)=(C - B)*(b.1 - a.1):=by grind
 have e5:((B - A)*(y.1 - a.1) - (Y - A)*(b.1 - a.1))*(c.1 - b.1)=0:=by
  have:((B - A)*(y.1 - a.1) - (Y - A)*(b.1 - a.1))*(c.1 - b.1)=((B - A)*(c.1 - b.1))*(y.1 - a.1) - ((Y - B)*(c.1 - b.1))*(b.1 - a.1) - ((B - A)*(c.1 - b.1))*(b.1 - a.1):=by grind
  rw [this,e3,<-e2];grind
 have:=zY e5 (xK Li)
 grind
theorem mE  (Nb:k.1<b.1) (la:a.2.length=m) (lk:k.2.length=m) (h1:zQ k a b) (h2:zQ k b c):zQ a b c:=λi A B C hA hB hC=>by
 have hi:i<m:=by rw [<-la];exact (Qd.mp hA).1
 have hK:=Qb (l:=k.2) (i:=i) (by omega);have e1:=h1 i _ A B hK hA hB;have e2:=h2 i _ B C hK hB hC;generalize k.2[i]=K at*;have e3:(B - A)*(b.1 - k.1)=(B - K)*(b.1 - a.1):=by grind
 have e4:(C - A)*(b.1 - k.1)=(B - K)*(c.1 - a.1):=by grind
 have e5:((B - A)*(c.1 - a.1) - (C - A)*(b.1 - a.1))*(b.1 - k.1)=0:=by
  have:((B - A)*(c.1 - a.1) - (C - A)*(b.1 - a.1))*(b.1 - k.1)=((B - A)*(b.1 - k.1))*(c.1 - a.1) - ((C - A)*(b.1 - k.1))*(b.1 - a.1):=by grind
  rw [this,e3,e4];grind
 have:=zY e5 (xK Nb)
 grind
theorem Thn.cons  (h:Thn F) (h0:∀y z t,F=y::z::t->¬zQ k y z):Thn (k::F)
 |0,x,y,z,hx,hy,hz=>by
  match F,h0,hy,hz with
  |[],_,hy,_=>simp at hy
  |[_],_,_,hz=>simp at hz
  |a::b::t,h0,hy,hz=>
   simp at hx hy hz;subst hx;subst hy;subst hz;exact h0 _ _ t rfl
 |i+1,x,y,z,hx,hy,hz=>h i x y z (by simpa using hx) (by simpa using hy) (by simpa using hz)
theorem fL:∀(r:List zg) (k a b:zg),yl (k::b::r)->(∀x∈k::b::r,x.2.length=m)->(a=k\/(k.1<a.1/\a.1<b.1/\a.2.length=m/\zQ k a b))->
 Thn (k::yf a (b::r))/\∃y t,yf a (b::r)=y::t/\(y=b\/(b.1<y.1/\y.2.length=m/\zQ a b y))
 |[],k,a,b,_,_,_=>by
  rw [yf];exact ⟨λi x y z _ _ hz=>by simp at hz,b,[],rfl, .inl rfl⟩
 |c::r,k,a,b,hr,hl,ha=>by
  obtain ⟨h1,h2⟩:=Ql.mp hr;obtain ⟨h3,h4⟩:=Ql.mp h2;have Nb:=h1 b (Qe ..);have Li:=h3 c (Qe ..);have lk:=hl k (Qe ..);have lb:=hl b (Qf _ (Qe ..));have lc:=hl c (Qf _ (Qf _ (Qe ..)));rw [yf]
  split
  ·rename_i st
   have Lb:zQ k b c:=by
    rcases ha with rfl|⟨_,Lj,la,s0⟩
    ·exact st
    ·exact bZ Lj lk la s0 st
   have rk:yl (k::c::r):=Ql.mpr ⟨λx hx=>h1 x (Qf _ hx),h4⟩
   obtain ⟨i1,y,t,e,i2⟩:=fL r k b c rk (λx hx=>hl x (by
    rcases Qm.mp hx with rfl|hx
    ·exact Qe ..
    ·exact Qf _ (Qf _ hx))) (.inr ⟨Nb,Li,lb,Lb⟩)
   refine ⟨i1,y,t,e, .inr ?_⟩
   rcases i2 with rfl|⟨RP,ly,s⟩
   ·exact ⟨Li,lc,st⟩
   ·exact ⟨yU Li RP,ly,pI Li lb lc st s⟩
  ·rename_i st;obtain ⟨i1,y,t,e,i2⟩:=fL r b b c h2 (λx hx=>hl x (Qf _ hx)) (.inl rfl);refine ⟨i1.cons λy' z t' ez=>?_,b,_,rfl, .inl rfl⟩;rw [e] at ez;cases ez;intro s
   have s1:zQ k b c:=by
    rcases i2 with rfl|⟨RP,ly,s2⟩
    ·exact s
    ·exact jM (yU Li RP) lb ly s2 s
   rcases ha with rfl|⟨_,Lj,la,s0⟩
   ·exact st s1
   ·exact st (mE Nb la lk s0 s1)
theorem nY  (hr:yl L) (hl:∀x∈L,x.2.length=m):Thn (yp L):=by
 match L,hr,hl with
 |[],_,_=>exact λi x y z hx=>by simp [yp] at hx
 |[c],_,_=>exact λi x y z _ hy=>by simp [yp,yf] at hy
 |c::b::r,hr,hl=>exact (fL r c c b hr hl (.inl rfl)).1
def Mon (P:List zg):Prop:=P.Pairwise λc d=>LeV c.2 d.2
structure Ful (m:Nat) (T:Rat) (as:List Rat) (P:List zg):Prop where
 std:Std m T as P
 mono:Mon P
 thin:Thn P
section
variable {m:Nat} {T T':Rat} {as NC:List Rat} {P P':List zg}
theorem Ful.pm (h:Ful m T as P):PathM m P:=⟨⟨h.std.rise,λc hc=>(h.std.ok c hc).1,h.thin⟩,λc hc=>(h.std.ok c hc).2,h.mono⟩
theorem LeV.refl (x:List Rat):LeV x x:=λi a b ha hb=>by rw [ha] at hb;cases hb;exact QQ
theorem Std.le_last (h:Std m T as P) (mo:Mon P):∀c∈P,LeV c.2 as:=λc hc=>by
 obtain ⟨i,hi,rfl⟩:=QR hc;have KG:=h.last;rw [jav] at KG;obtain ⟨Mp,e2⟩:=Qd.mp KG
 by_cases z:i=P.length - 1
 ·subst z;rw [e2];exact LeV.refl _
 ·have:=QJ.mp mo i (P.length - 1) hi Mp (by omega);rw [e2] at this;exact this
theorem Std.nn (h:Std m T as P) (mo:Mon P):∀c∈P,∀(i:Nat) (a:Rat),c.2[i]? =some a->0<=a:=λc hc i a ha=>by
 obtain ⟨r,er⟩:=h.cons;have hl:=(h.ok c hc).1;rw [er] at hc mo
 rcases Qm.mp hc with rfl|hc
 ·have:=(Qd.mp ha).2;rw [Tw] at this;rw [<-this];exact QQ
 ·refine (Ql.mp mo).1 c hc i 0 a ?_ ha;have:=(Qd.mp ha).1;rw [QZ,QH (by omega)]
theorem Ful.turned (h:Ful m T as P):Ful m T as (yv P):=by
 have hl:=h.std.lastC;have lA:=h.std.lenA;refine ⟨lF h.std,?_,λi x y z hx hy hz st=>?_⟩
 ·unfold Mon yv;rw [Tn,List.pairwise_reverse];refine jbF (λ{c d} Ku=>?_) h.mono;intro i a b ha hb;obtain ⟨a1,a2,e1,e2,rfl⟩:=wV (x:=(lastC P).2) (y:=d.2) ha;obtain ⟨b1,b2,f1,f2,rfl⟩:=wV (x:=(lastC P).2) (y:=c.2) hb;rw [e1] at f1;cases f1;have:=Ku i b2 a2 f2 e2
  grind
 ·unfold yv at hx hy hz;obtain ⟨x,KH,rfl⟩:=zJ hx;obtain ⟨y,Lv,rfl⟩:=zJ hy;obtain ⟨z,MB,rfl⟩:=zJ hz;have iz:=(Qd.mp MB).1;rw [Tv] at iz;rw [List.getElem?_reverse (by omega)] at KH Lv MB;have lx:=(h.std.ok x (Qc KH)).1;refine h.thin (P.length - 1 - (i+2)) z y x MB (by rw [<-Lv];congr 1;omega) (by rw [<-KH];congr 1;omega) ?_;rw [hl] at st;intro j c b a hc hb ha;have hj:j<as.length:=by rw [lA,<-lx];exact (Qd.mp ha).1
  have hA:=Qb hj;have:=st j (as[j] - a) (as[j] - b) (as[j] - c) (Uk hA ha) (Uk hA hb) (Uk hA hc);generalize as[j]=A at*;have e:(A - b - (A - a))*(T - z.1 - (T - x.1))=(A - c - (A - a))*(T - y.1 - (T - x.1)):=this
  grind
theorem Ful.scaled (hp:0<p) (h:Ful m T as P):Ful m (T*p) (UY p as) (zW p P):=by
 have mget:∀{x:List Rat} {i:Nat} {a:Rat},(x.map (·*p))[i]? =some a->∃b,x[i]? =some b/\a=b*p:=λ{x i a} ha=>by
  rw [Qh] at ha
  cases e:x[i]? with
  |none=>rw [e] at ha;cases ha
  |some b=>rw [e] at ha;cases ha;exact ⟨b,rfl,rfl⟩
 refine ⟨Wt hp h.std,?_,λi x y z hx hy hz st=>?_⟩
 ·unfold Mon zW;rw [Tn];refine jbF (λ{c d} Ku=>?_) h.mono;intro i a b ha hb;obtain ⟨a',Mg,rfl⟩:=mget ha;obtain ⟨b',KW,rfl⟩:=mget hb;exact Zh (Ku i a' b' Mg KW) (QC hp)
 ·unfold zW at hx hy hz;obtain ⟨x,KH,rfl⟩:=zJ hx;obtain ⟨y,Lv,rfl⟩:=zJ hy;obtain ⟨z,MB,rfl⟩:=zJ hz;refine h.thin i x y z KH Lv MB ?_;intro j a b c ha hb hc;have g:∀{x:List Rat} {a:Rat},x[j]? =some a->(x.map (·*p))[j]? =some (a*p):=λ{x a} h=>by rw [Qh,h];rfl
  have:=st j (a*p) (b*p) (c*p) (g ha) (g hb) (g hc);have e:(b*p - a*p)*(z.1*p - x.1*p)=(c*p - a*p)*(y.1*p - x.1*p):=this
  have pn:p*p≠0:=λz=>by
   have:=jbx hp hp;rw [z] at this;exact absurd this jaS
  have:=zY (a:=(b - a)*(z.1 - x.1) - (c - a)*(y.1 - x.1)) (b:=p*p) (by grind) pn
  grind
theorem FV (h:Std m T as P) (mo:Mon P) (h':Std m T' NC P') (OK:Mon P'):Mon (P++yF P P'):=by
 have hl:=h.lastC;refine TQ.mpr ⟨mo,?_,λc hc d hd=>?_⟩
 ·unfold yF;rw [Tn];refine jbF (λ{a b} Lj=>?_) (jbf (List.tail_sublist P') OK);intro i x y hx hy;unfold Vq at hx hy;dsimp only at hx hy;rw [Qt] at hx hy
  cases e0:(lastC P).2[i]? with
  |none=>rw [e0] at hx;cases hx
  |some q=>
   cases e1:a.2[i]? with
   |none=>rw [e0,e1] at hx;cases hx
   |some u=>
    cases e2:b.2[i]? with
    |none=>rw [e0,e2] at hy;cases hy
    |some v=>
     rw [e0,e1] at hx;rw [e0,e2] at hy;cases hx;cases hy;have:=Lj i u v e1 e2
     grind
 ·obtain ⟨d',KS,rfl⟩:=Qj.mp hd;have dm:=TR KS;intro i x y hx hy;unfold Vq at hy;dsimp only at hy;rw [hl,Qt] at hy
  cases e0:as[i]? with
  |none=>dsimp only at hy;rw [e0] at hy;cases hy
  |some q=>
   cases e1:d'.2[i]? with
   |none=>dsimp only at hy;rw [e0,e1] at hy;cases hy
   |some u=>
    dsimp only at hy;rw [e0,e1] at hy;cases hy;have h1:=h.le_last mo c hc i x q hx e0;have h2:=h'.nn OK d' dm i u e1
    grind
theorem jt (h:Std m T as P) (mo:Mon P) (h':Std m T' NC P') (OK:Mon P'):Ful m (T+T') (List.zipWith (·+·) as NC) (yp (P++yF P P')):=by
 have s:=gu h h';obtain ⟨k1,_⟩:=lB s;exact ⟨k1,jbf (ZD _) (FV h mo h' OK),nY s.rise λx hx=>(s.ok x hx).1⟩
end
section
variable {l:List Cl} {ls as:List Int}
theorem II (as:List Int) (h:ls.Pairwise (·<·)):Mon (evP as ls):=by
 unfold Mon evP;rw [Tn];refine jbF (λ{a b} Lj=>?_) h;intro i x y hx hy;unfold zP Wm at hx hy;simp only [Qr,Qh] at hx hy
 cases e:as[i]? with
 |none=>rw [e] at hx;cases hx
 |some q=>
  rw [e] at hx hy;cases hx;cases hy;show ((min q a:Int):Rat)<=((min q b:Int):Rat);exact Te.mpr (by omega)
theorem IH (h:LvOk as ls):Thn (evP as ls):=λi x y z hx hy hz st=>by
 unfold evP at hx hy hz;obtain ⟨a,ha,rfl⟩:=zJ hx;obtain ⟨b,hb,rfl⟩:=zJ hy;obtain ⟨c,hc,rfl⟩:=zJ hz
 have lt:∀{i j:Nat} {a b:Int},ls[i]? =some a->ls[j]? =some b->i<j->a<b:=λ{i j a b} ha hb RF=>by
  obtain ⟨l1,rfl⟩:=Qd.mp ha;obtain ⟨l2,rfl⟩:=Qd.mp hb;exact QJ.mp h.rise i j l1 l2 RF
 have ab:=lt ha hb (by omega);have bc:=lt hb hc (by omega);have a0:=h.nnL a (Qc ha)
 have bm:b∈as:=by
  rcases (h.mem b).mp (Qc hb) with z|z
  ·omega
  ·exact z
 obtain ⟨j,hj⟩:=Qx.mp bm
 have g:∀q:Int,(zP (Wm as q)).2[j]? =some ((min b q:Int):Rat):=λq=>by
  unfold zP Wm;simp only [Qr,Qh,hj];rfl
 have e:=st j _ _ _ (g a) (g b) (g c);have s1:=h.sumlt (Qc hb) (Qc hc) bc;rw [show min b a=a by omega,show min b b=b by omega,show min b c=b by omega] at e;have e':((b:Rat) - (a:Rat))*((((Wm as c).sum:Int):Rat) - (((Wm as a).sum:Int):Rat))=((b:Rat) - (a:Rat))*((((Wm as b).sum:Int):Rat) - (((Wm as a).sum:Int):Rat)):=e;have ab':=lK ab;have s1':=lK s1;have:=jbx (show (0:Rat)<(b:Rat) - (a:Rat) by grind) (show (0:Rat)<(((Wm as c).sum:Int):Rat) - (((Wm as b).sum:Int):Rat) by grind)
 grind
theorem Vf (h:LvOk (amV l) ls):Ful l.length (zM (amQ l)) (amQ l) (evP (amV l) ls):=⟨(XS h).std,II _ h.rise,IH h⟩
theorem jo (h:LvOk (amV l) ls):Ful l.length (zM (amQ l)) (amQ l) (loP (amV l) ls):=by
 have:=(Vf h).turned;rwa [dC h] at this
theorem vJ (nn:∀a∈amV l,0<=a):Ful l.length (zM (amQ l)) (amQ l) (shP (amV l)):=by
 have s:=(fO nn).std;refine ⟨s,?_,λi x y z _ _ hz=>?_⟩
 ·obtain ⟨r,er⟩:=s.cons;have ok:=s.ok;unfold shP at er ok⊢
  split
  ·exact jab _ _
  ·refine Ql.mpr ⟨λd hd=>?_,jab _ _⟩;rw [Qq.mp hd,Wa];intro i a b ha hb;have e1:=(Qd.mp ha).2;rw [Tw] at e1;unfold zP at hb;simp only [Qh] at hb
   cases e:(amV l)[i]? with
   |none=>rw [e] at hb;cases hb
   |some q=>
    rw [e] at hb;cases hb;rw [<-e1];exact bt (nn q (Qc e))
 ·unfold shP at hz
  split at hz<;>simp at hz
theorem tu  (p0:0<p) (p1:p<1) (hx:Ful l.length (zM (amQ l)) (amQ l) P) (hy:Ful l.length (zM (amQ l)) (amQ l) P'):Ful l.length (zM (amQ l)) (amQ l) (Wj p P P'):=by
 have s1:=hx.scaled p0;have s2:=hy.scaled (p:=1 - p) (by grind);have:=jt s1.std s1.mono s2.std s2.mono;have eT:zM (amQ l)*p+zM (amQ l)*(1 - p)=zM (amQ l):=by grind
 have eA:List.zipWith (·+·) (UY p (amQ l)) (UY (1 - p) (amQ l))=amQ l:=by
  unfold UY
  apply Tt
  ·simp
  ·intro i _ _;simp only [Tb,jaF]
   grind
 rw [eT,eA] at this;exact this
theorem vK (h:LvOk (amV l) ls):Ful l.length (zM (amQ l)) (amQ l) (yp (hvP (amV l) ls)):=by
 have g:=tu (p:=1 / 2) sX (by decide+kernel) (Vf h) (jo h)
 have eu:Wj (1 / 2) (evP (amV l) ls) (loP (amV l) ls)=yp (hvP (amV l) ls):=by
  unfold Wj;rw [show (1:Rat) - 1 / 2=1 / 2 by decide+kernel];rfl
 rw [eu] at g;exact g
end
def xM:List (Rat×Nat)->List Rat->List Rat
 |[],w=>w
 |(p,i)::r,w=>xM r (w.set i p)
def yc (pl:List Nat) (n:Nat) (v:List Rat):List Rat:=xM (v.zip pl) (List.replicate n 0)
theorem aq:∀(z:List (Rat×Nat)) (w:List Rat),(xM z w).length=w.length
 |[],w=>rfl
 |(p,i)::r,w=>by rw [xM,aq r,jbU]
theorem VL:∀(z:List (Rat×Nat)) (w:List Rat),(∀x∈z,x.2≠j)->(xM z w)[j]? =w[j]?
 |[],w,_=>rfl
 |(p,i)::r,w,h=>by
  rw [xM,VL r _ λx hx=>h x (Qf _ hx),jbG (h (p,i) (Qe ..))]
theorem iN  :∀(z:List (Rat×Nat)) (w:List Rat),(z.map (·.2)).Nodup->(p,j)∈z->j<w.length->(xM z w)[j]? =some p
 |[],w,_,h,_=>absurd h Qn
 |(q,i)::r,w,nd,h,hj=>by
  rw [Qo,TX] at nd;rw [xM]
  rcases Qm.mp h with e|h
  ·cases e;rw [VL r _ λx hx e=>nd.1 (Qj.mpr ⟨x,hx,e⟩),List.getElem?_set_self hj]
  ·exact iN r _ nd.2 h (by rw [jbU];exact hj)
theorem wA {v:List Rat} {pl:List Nat} (h:v.length=pl.length):(v.zip pl).map (·.2)=pl:=by
 have:(v.zip pl).map Prod.snd=pl:=List.map_snd_zip (by omega);exact this
structure Pls (n:Nat) (pl:List Nat):Prop where
 nd:pl.Nodup
 lt:∀i∈pl,i<n
section
variable {n m:Nat} {pl:List Nat} {v u:List Rat}
theorem yI (pl:List Nat) (n:Nat) (v:List Rat):(yc pl n v).length=n:=by unfold yc;rw [aq,QD]
theorem iK (h:Pls n pl) (hv:v.length=pl.length) {p:Rat} {i:Nat} (hm:(p,i)∈v.zip pl):(yc pl n v)[i]? =some p:=
 iN _ _ (by rw [wA hv];exact h.nd) hm (by rw [QD];exact h.lt i (jbv hm).2)
theorem Zb (h:Pls n pl) (hv:v.length=pl.length) {i j:Nat} {p:Rat} (hj:pl[j]? =some i) (hp:v[j]? =some p):(yc pl n v)[i]? =some p:=
 iK h hv (Qc (i:=j) (by rw [Tr];exact ⟨hp,hj⟩))
theorem xS (hi:i<n) (hm:i∉pl):(yc pl n v)[i]? =some 0:=by
 unfold yc;rw [VL _ _ λx hx e=>hm (by rw [<-e];exact (jbv (a:=x.1) (b:=x.2) hx).2),QZ,QH hi]
theorem xZ (h:Pls n pl) (hv:v.length=pl.length) {i:Nat} {p:Rat} (hp:(yc pl n v)[i]? =some p):(∃j:Nat,pl[j]? =some i/\v[j]? =some p)\/(i∉pl/\p=0):=by
 have hi:i<n:=by have:=(Qd.mp hp).1;rwa [yI] at this
 by_cases c:i∈pl
 ·obtain ⟨j,hj⟩:=Qx.mp c;have jl:=(Qd.mp hj).1;have e:=Qb (l:=v) (i:=j) (by omega);have:=Zb h hv hj e;rw [hp] at this;cases this;exact .inl ⟨j,hj,e⟩
 ·rw [xS hi c] at hp;cases hp;exact .inr ⟨c,rfl⟩
theorem rS:∀{w:List Rat} {i:Nat} {q p:Rat},w[i]? =some q->zM (w.set i p)=zM w - q+p
 |[],_,_,_,h=>by simp at h
 |a::w,0,q,p,h=>by
  cases h;rw [List.set_cons_zero,zM,zM];grind
 |a::w,i+1,q,p,h=>by
  rw [List.set_cons_succ,zM,zM,rS (w:=w) (i:=i) (q:=q) (p:=p) (by simpa using h)];grind
theorem iM:∀(z:List (Rat×Nat)) (w:List Rat),(z.map (·.2)).Nodup->(∀x∈z,w[x.2]? =some 0)->zM (xM z w)=zM w+zM (z.map (·.1))
 |[],w,_,_=>by rw [xM,jaq,zM];grind
 |(p,i)::r,w,nd,h=>by
  rw [Qo,TX] at nd;have h0:=h (p,i) (Qe ..)
  rw [xM,iM r _ nd.2 λx hx=>by
   rw [jbG (λe=>nd.1 (Qj.mpr ⟨x,hx,e.symm⟩))]
   exact h x (Qf _ hx),rS h0,Qo,zM]
  grind
theorem uv (h:Pls n pl) (hv:v.length=pl.length):zM (yc pl n v)=zM v:=by
 unfold yc
 rw [iM _ _ (by rw [wA hv];exact h.nd) λx hx=>by
  rw [QZ,QH (h.lt _ (jbv (a:=x.1) (b:=x.2) hx).2)],Xf]
 have:(v.zip pl).map Prod.fst=v:=List.map_fst_zip (by omega);have e:(v.zip pl).map (·.1)=v:=this;rw [e];grind
theorem pJ (h:Pls n pl):yc pl n (List.replicate pl.length 0)=List.replicate n 0:=by
 apply Tj
 intro i
 by_cases hi:i<n
 ·rw [QZ,QH hi];have e:=Qb (l:=yc pl n (List.replicate pl.length 0)) (i:=i) (by rw [yI];exact hi)
  rcases xZ h (by rw [QD]) e with ⟨j,hj,hp⟩|⟨_,hp⟩
  ·rw [e];have:=(Qd.mp hp).2;rw [Tw] at this;rw [<-this]
  ·rw [e,hp]
 ·rw [QF (by rw [yI];omega),QF (by rw [QD];omega)]
def YQ (pl:List Nat) (n:Nat) (c:zg):zg:=(c.1,yc pl n c.2)
def yq (pl:List Nat) (n:Nat) (P:List zg):List zg:=P.map (YQ pl n)
theorem Ij (t:Rat):xC t 0 0=0:=by unfold xC;grind
theorem pL {c d:zg} {e:Rat} (h:Pls n pl) (lc:c.2.length=pl.length) (ld:d.2.length=pl.length):Yx (YQ pl n c) (YQ pl n d) e=yc pl n (Yx c d e):=by
 have lb:(Yx c d e).length=pl.length:=dg lc ld
 apply Tj
 intro i
 by_cases hi:i<n
 ·have e1:=Qb (l:=yc pl n c.2) (i:=i) (by rw [yI];exact hi);have e2:=Qb (l:=yc pl n d.2) (i:=i) (by rw [yI];exact hi);unfold Yx YQ;dsimp only;rw [Qt,e1,e2]
  by_cases hm:i∈pl
  ·obtain ⟨j,hj⟩:=Qx.mp hm;have jl:=(Qd.mp hj).1;have f1:=Qb (l:=c.2) (i:=j) (by omega);have f2:=Qb (l:=d.2) (i:=j) (by omega);have g1:=Zb h lc hj f1;have g2:=Zb h ld hj f2;rw [e1] at g1;rw [e2] at g2
   have f3:(Yx c d e)[j]? =some (xC ((e - c.1) / (d.1 - c.1)) c.2[j] d.2[j]):=by
    unfold Yx;rw [Qt,f1,f2]
   have g3:=Zb h lb hj f3;unfold Yx at g3;rw [g3,QL g1,QL g2]
  ·have g1:=xS (v:=c.2) hi hm;have g2:=xS (v:=d.2) hi hm;have g3:=xS (v:=Yx c d e) hi hm;rw [e1] at g1;rw [e2] at g2;unfold Yx at g3;rw [g3,QL g1,QL g2];show some (xC _ 0 0)=_;rw [Ij]
 ·rw [QF,QF (by rw [yI];omega)];rw [dg (m:=n) (yI ..) (yI ..)];omega
theorem cb (h:Pls n pl):∀{c:zg} {r:List zg},(∀x∈c::r,x.2.length=pl.length)->zh (yq pl n (c::r)) e=yc pl n (zh (c::r) e)
 |c,[],_=>rfl
 |c,d::r,hl=>by
  have lc:=hl c (Qe ..);have ld:=hl d (Qf _ (Qe ..));show zh (YQ pl n c::YQ pl n d::yq pl n r) e=_;rw [zh,zh]
  by_cases he:e<d.1
  ·rw [QH he,QH (show e<(YQ pl n d).1 from he),pL h lc ld]
  ·rw [QO he,QO (show ¬e<(YQ pl n d).1 from he)];exact cb h (c:=d) (r:=r) λx hx=>hl x (Qf _ hx)
theorem Std.spread  (h:Std m T as P) (hp:Pls n pl) (hm:pl.length=m):Std n T (yc pl n as) (yq pl n P):=by
 subst hm;refine ⟨?_,λc hc=>?_,?_,?_⟩
 ·unfold yq yl;rw [Tn];exact h.rise
 ·obtain ⟨d,hd,rfl⟩:=Qj.mp hc;have:=h.ok d hd;exact ⟨yI ..,by show zM (yc pl n d.2)=d.1;rw [uv hp this.1,this.2]⟩
 ·unfold yq;rw [Qh,h.head];show some (0,yc pl n _)=_;rw [pJ hp]
 ·unfold yq;rw [jan,h.last];rfl
theorem Std.spreadE  (h:Std m T as P) (hp:Pls n pl) (hm:pl.length=m) (e:Rat):zh (yq pl n P) e=yc pl n (zh P e):=by
 obtain ⟨r,er⟩:=h.cons;have ok:=h.ok;rw [er] at ok⊢;exact cb hp λx hx=>by rw [(ok x hx).1,hm]
theorem Ful.spread {T:Rat} {as:List Rat} {P:List zg} (h:Ful m T as P) (hp:Pls n pl) (hm:pl.length=m):Ful n T (yc pl n as) (yq pl n P):=by
 have ls:∀c∈P,c.2.length=pl.length:=λc hc=>by rw [(h.std.ok c hc).1,hm]
 refine ⟨h.std.spread hp hm,?_,λi x y z hx hy hz st=>?_⟩
 ·unfold yq Mon;rw [Tn];refine List.Pairwise.imp_of_mem (λ{c d} hc hd Ku=>?_) h.mono;intro i a b ha hb
  rcases xZ hp (ls c hc) ha with ⟨j,hj,Mg⟩|⟨hn,rfl⟩
  ·rcases xZ hp (ls d hd) hb with ⟨j',Md,KW⟩|⟨hn,rfl⟩
   ·have jj:j=j':=(List.getElem?_inj (by exact (Qd.mp hj).1) hp.nd).mp (by rw [hj,Md]);subst jj;exact Ku j a b Mg KW
   ·exact absurd (Qc hj) hn
  ·rcases xZ hp (ls d hd) hb with ⟨j',Md,KW⟩|⟨_,rfl⟩
   ·exact absurd (Qc Md) hn
   ·exact QQ
 ·unfold yq at hx hy hz;obtain ⟨x,KH,rfl⟩:=zJ hx;obtain ⟨y,Lv,rfl⟩:=zJ hy;obtain ⟨z,MB,rfl⟩:=zJ hz;refine h.thin i x y z KH Lv MB λj a b c ha hb hc=>?_;have jl:j<pl.length:=by rw [<-ls x (Qc KH)];exact (Qd.mp ha).1
  have hj:=Qb jl;exact st (pl[j]) a b c (Zb hp (ls x (Qc KH)) hj ha) (Zb hp (ls y (Qc Lv)) hj hb) (Zb hp (ls z (Qc MB)) hj hc)
end
def zO (p:Cl->Bool) (l:List Cl):List Nat:=(List.range l.length).filter λi=>p (l.getD i (0,0,0))
def yn {α:Type} (d:α) (pl:List Nat) (v:List α):List α:=pl.map λi=>v.getD i d
section
variable {p:Cl->Bool} {l:List Cl} {v:List Rat}
theorem YJ (p:Cl->Bool) (l:List Cl):Pls l.length (zO p l):=⟨List.Pairwise.filter _ List.nodup_range,λi hi=>jca.mp (Tq.mp hi).1⟩
theorem Yq  (hc:l[i]? =some c):i∈zO p l↔p c=true:=by
 unfold zO;rw [Tq,jca,Qk,hc];exact ⟨λh=>h.2,λh=>⟨(Qd.mp hc).1,h⟩⟩
theorem Uc {α:Type} (d:α) (p:α->Bool):∀l:List α,l.filter p=((List.range l.length).filter λi=>p (l.getD i d)).map λi=>l.getD i d
 |[]=>rfl
 |a::l=>by
  have ih:=Uc d p l;have e0:List.range (a::l).length=0::(List.range l.length).map Nat.succ:=by rw [QA,List.range_succ_eq_map]
  have e:(List.map Nat.succ ((List.range l.length).filter ((λi=>p ((a::l).getD i d))∘Nat.succ))).map (λi=>(a::l).getD i d)=((List.range l.length).filter λi=>p (l.getD i d)).map λi=>l.getD i d:=by
   rw [Qr];rfl
  have z:(a::l).getD 0 d=a:=rfl;rw [e0,jbK (x:=a),jbK (x:=0),List.filter_map,z]
  split
  ·rw [Qo,e,<-ih,z]
  ·rw [e,<-ih]
theorem ZL (p:Cl->Bool) (l:List Cl):l.filter p=yn (0,0,0) (zO p l) l:=Uc (0,0,0) p l
theorem Zf (p:Cl->Bool) (l:List Cl):(zO p l).length=(l.filter p).length:=by rw [ZL];unfold yn;rw [Qa]
theorem Yv (q:Row->Bool) (hq:∀c x,q (xJ c x)=p c) (hv:v.length=l.length):(zH l v).filter q=zH (l.filter p) (yn 0 (zO p l) v):=by
 have hl:(zH l v).length=l.length:=by unfold zH;rw [Qy,hv,TN]
 have g:∀i,i<l.length->(zH l v).getD i (xJ (0,0,0) 0)=xJ (l.getD i (0,0,0)) (v.getD i 0):=λi hi=>by
  unfold zH;rw [Qk,Qt,Qk,Qk,Qb hi,Qb (show i<v.length by omega)];rfl
 rw [Uc (xJ (0,0,0) 0) q,hl,ZL]
 have e1:(List.range l.length).filter (λi=>q ((zH l v).getD i (xJ (0,0,0) 0)))=zO p l:=by
  unfold zO;refine List.filter_congr λi hi=>?_;rw [g i (jca.mp hi),hq]
 rw [e1];unfold yn
 have e2:zH (List.map (λi=>l.getD i (0,0,0)) (zO p l)) (List.map (λi=>v.getD i 0) (zO p l))=(zO p l).map λi=>xJ (l.getD i (0,0,0)) (v.getD i 0):=by
  unfold zH;rw [jbI,List.zipWith_self]
 rw [e2];refine QI λi hi=>?_;rw [g i ((YJ p l).lt i hi)]
theorem qq {n:Nat} {pl:List Nat} (h:Pls n pl) (hv:v.length=pl.length):yn 0 pl (yc pl n v)=v:=by
 unfold yn
 apply Tj
 intro j;rw [Qh]
 cases e:pl[j]? with
 |none=>
  have:=jbi.mp e;rw [QF (by omega)];rfl
 |some i=>
  have jl:=(Qd.mp e).1;have f:=Qb (l:=v) (i:=j) (by omega);have:=Zb h hv e f;show some ((yc pl n v).getD i 0)=_;rw [Qk,this,f];rfl
theorem jb  (h:∀i∈pl,v[i]? =u[i]?):yn 0 pl v=yn 0 pl u:=by
 unfold yn;refine QI λi hi=>?_;rw [Qk,Qk,h i hi]
theorem WE {α:Type} (d:α) (pl:List Nat) (v:List α):(yn d pl v).length=pl.length:=Qa _
end
theorem qK:YY []=[]:=by
 unfold YY;have:=(aR (([]:List Row).map (·.group))).choose_spec
 exact List.eq_nil_iff_forall_not_mem.mpr λk hk=>by
  have:=(this.2 k).mp hk;simp at this
theorem YK:∀r:Rl,xP r []
 | .shares=>⟨λx hx=>absurd hx Qn,λx hx=>absurd hx Qn⟩
 | .evenly=>⟨λx hx=>absurd hx Qn,λx hx=>absurd hx Qn,λx hx=>absurd hx Qn⟩
 | .losses=>⟨λx hx=>absurd hx Qn,λx hx=>absurd hx Qn,λx hx=>absurd hx Qn⟩
 | .halves=>⟨λx hx=>absurd hx Qn,by
  unfold bI
  split
  ·exact ⟨λx hx=>absurd hx Qn,λx hx=>absurd hx Qn,λx hx=>absurd hx Qn⟩
  ·exact ⟨λx hx=>absurd hx Qn,λx hx=>absurd hx Qn,λx hx=>absurd hx Qn⟩⟩
 | .other r=>⟨λx hx=>absurd hx Qn,YK r⟩
 | .ranks r=>⟨λx hx=>absurd hx Qn,λk=>YK r,λx hx=>absurd hx Qn⟩
 | .groups a b=>⟨λx hx=>absurd hx Qn,λg=>YK b,by unfold jI;rw [qK];exact YK a⟩
 | .upto t b x y=>⟨λx hx=>absurd hx Qn,by
  unfold bI
  split
  ·exact YK x
  ·exact YK y⟩
structure GF (r:Rl) (l:List Cl) (P:List zg):Prop where
 good:Good r l P
 ful:Ful l.length (zM (amQ l)) (amQ l) P
section
variable {n:Nat} {pl:List Nat} {p:Cl->Bool} {l:List Cl} {v:List Rat}
theorem pK (h:Pls n pl) (hi:i<n) (hv:v.length=n):(yc pl n (yn 0 pl v))[i]? =if i∈pl then v[i]? else some 0:=by
 split
 ·rename_i c;obtain ⟨j,hj⟩:=Qx.mp c;have e:=Qb (l:=v) (i:=i) (by omega);refine (Zb h (WE ..) hj (p:=v[i]) ?_).trans e.symm;unfold yn;rw [Qh,hj];show some (v.getD i 0)=_;rw [Qk,e];rfl
 ·exact xS hi (by assumption)
theorem jw (p:Cl->Bool) (l:List Cl):amQ (l.filter p)=yn 0 (zO p l) (amQ l):=by
 rw [ZL];unfold amQ yn;rw [Qr];refine QI λi hi=>?_;have hl:=(YJ p l).lt i hi;show (((l.getD i (0,0,0)).1:Int):Rat)=(l.map λc=>((c.1:Int):Rat)).getD i 0;rw [Qk,Qk,Qh,Qb hl];rfl
end
def zK (k:Int):Cl->Bool:=λc=>decide (c.2.1=k)
def zu (k:Int):Cl->Bool:=λc=>decide (c.2.2=k)
noncomputable def zS (l:List Cl):List Int:=(aR (l.map (·.2.1))).choose
noncomputable def zB (l:List Cl):List Int:=(aR (l.map (·.2.2))).choose
theorem yE (l:List Cl):(zS l).Pairwise (·<·)/\∀k,k∈zS l↔k∈l.map (·.2.1):=(aR (l.map λc:Cl=>c.2.1)).choose_spec
theorem ya (l:List Cl):(zB l).Pairwise (·<·)/\∀k,k∈zB l↔k∈l.map (·.2.2):=(aR (l.map λc:Cl=>c.2.2)).choose_spec
def jG (n:Nat):List zg:=[(0,List.replicate n 0)]
noncomputable def Zk (f:List Cl->List zg) (l:List Cl) (P:List zg) (k:Int):List zg:=
 yp (P++yF P (yq (zO (zK k) l) l.length (f (l.filter (zK k)))))
noncomputable def Vv (f:List Cl->List zg) (l:List Cl):List zg:=(zS l).foldl (Zk f l) (jG l.length)
open Classical in
noncomputable def asD (done:List Int) (l:List Cl):List Rat:=l.map λc=>if c.2.1∈done then (c.1:Rat) else 0
section
variable {r:Rl} {l:List Cl} {done:List Int} {P:List zg} {f:List Cl->List zg} {k:Int}
theorem CL (done:List Int) (l:List Cl):(asD done l).length=l.length:=Qa _
theorem oI {i:Nat} {c:Cl} (hc:l[i]? =some c) (h:c.2.1∈done):(asD done l)[i]? =some (c.1:Rat):=by
 unfold asD;rw [Qh,hc,Option.map_some,QH h]
theorem gq {i:Nat} {c:Cl} (hc:l[i]? =some c) (h:c.2.1∉done):(asD done l)[i]? =some 0:=by
 unfold asD;rw [Qh,hc,Option.map_some,QO h]
structure RkI (r:Rl) (l:List Cl) (done:List Int) (P:List zg):Prop where
 ful:Ful l.length (zM (asD done l)) (asD done l) P
 fit:∀e:Rat,0<=e->∀k∈done,xP r ((zH l (zh P e)).filter (·.rank=k))
 zero:∀e:Rat,0<=e->∀(i:Nat) (c:Cl) (q:Rat),l[i]? =some c->(zh P e)[i]? =some q->c.2.1∉done->q=0
 ord:∀e:Rat,0<=e->∀x∈zH l (zh P e),∀y∈zH l (zh P e),x.rank∈done->x.rank<y.rank->0<y.part->x.part=x.am
theorem Du (n:Nat):Ful n 0 (List.replicate n 0) (jG n):=by
 refine ⟨⟨jab _ _,λc hc=>?_,rfl,rfl⟩,jab _ _,λi x y z _ hy=>by simp [jG] at hy⟩;rw [Qq.mp hc];exact ⟨QD,Xf n⟩
theorem RkI.nil:RkI r l [] (jG l.length):=by
 have e:asD [] l=List.replicate l.length 0:=by
  unfold asD;rw [<-jaK];exact QI λc _=>QO Qn
 refine ⟨?_,λe _ k hk=>absurd hk Qn,λe _ i c q hc hq _=>?_,λe _ x _ y _ hx=>absurd hx Qn⟩
 ·rw [e,Xf];exact Du l.length
 ·have:(List.replicate l.length (0:Rat))[i]? =some q:=hq;have:=(Qd.mp this).2;rw [Tw] at this;exact this.symm
theorem RkI.step (h:RkI r l done P) (hk:∀k'∈done,k'<k) (hf:GF r (l.filter (zK k)) (f (l.filter (zK k)))):RkI r l (done++[k]) (Zk f l P k):=by
 have pk:=YJ (zK k) l;have lk:=Zf (zK k) l;have Sf:=hf.ful.spread pk lk;have st:=h.ful.std;have kn:k∉done:=λz=>absurd (hk k z) (by omega);have Mj:=jt st h.ful.mono Sf.std Sf.mono;have inl:∀{i:Nat},i<l.length->∃c,l[i]? =some c:=λ{i} hi=>⟨_,Qb hi⟩
 have eA:List.zipWith (·+·) (asD done l) (yc (zO (zK k) l) l.length (amQ (l.filter (zK k))))=asD (done++[k]) l:=by
  apply Tj
  intro i
  by_cases hi:i<l.length
  ·obtain ⟨c,hc⟩:=inl hi;rw [Qt,jw,pK pk hi (XX l)]
   by_cases h1:c.2.1∈done
   ·have n1:i∉zO (zK k) l:=λz=>by
     have:=QB ((Yq hc).mp z);rw [this] at h1;exact kn h1
    rw [oI hc h1,QO n1,oI hc (jah _ h1)];show some ((c.1:Rat)+0)=_;rw [Rat.add_zero]
   ·by_cases h2:c.2.1=k
    ·have n1:i∈zO (zK k) l:=(Yq hc).mpr (QX h2);rw [gq hc h1,QH n1,oI hc (QE _ (by rw [h2];exact jaT _))];unfold amQ;rw [Qh,hc];show some ((0:Rat)+(c.1:Rat))=_;rw [Rat.zero_add]
    ·have n1:i∉zO (zK k) l:=λz=>h2 (QB ((Yq hc).mp z))
     rw [gq hc h1,QO n1,gq hc (λz=>by
      rcases QS.mp z with z|z
      ·exact h1 z
      ·exact h2 (Qq.mp z))]
     show some ((0:Rat)+0)=_;rw [Rat.zero_add]
  ·rw [QF (by rw [Qy,CL];omega),QF (by rw [CL];omega)]
 have eT:zM (asD done l)+zM (amQ (l.filter (zK k)))=zM (asD (done++[k]) l):=by
  rw [<-eA];exact (Mj.std.ok _ (jai Mj.std.last)).2.symm
 rw [eA,eT] at Mj
 have parts:∀e:Rat,0<=e->zh (Zk f l P k) e=if e<zM (asD done l) then zh P e else List.zipWith (·+·) (asD done l) (yc (zO (zK k) l) l.length (zh (f (l.filter (zK k))) (e - zM (asD done l)))):=λe h0=>by
  unfold Zk;rw [ck st Sf.std h0,hf.ful.std.spreadE pk lk]
 have KP:∀e:Rat,(zh (Zk f l P k) e).length=l.length:=λe=>Mj.std.len;have lenk:∀x:Rat,(zh (f (l.filter (zK k))) x).length=(zO (zK k) l).length:=λx=>by rw [hf.ful.std.len,lk]
 have here:∀e:Rat,0<=e->¬e<zM (asD done l)->∀(i:Nat) (c:Cl),l[i]? =some c->(c.2.1∈done->(zh (Zk f l P k) e)[i]? =some (c.1:Rat))/\(c.2.1∉done++[k]->(zh (Zk f l P k) e)[i]? =some 0)/\(c.2.1=k->(zh (Zk f l P k) e)[i]? =(yc (zO (zK k) l) l.length (zh (f (l.filter (zK k))) (e - zM (asD done l))))[i]?):=λe h0 hT i c hc=>by
  have hi:=(Qd.mp hc).1;rw [parts e h0,QO hT,Qt];refine ⟨λh1=>?_,λh1=>?_,λh1=>?_⟩
  ·rw [oI hc h1,xS hi λz=>by
    have:=QB ((Yq hc).mp z);rw [this] at h1
    exact kn h1]
   show some ((c.1:Rat)+0)=_;rw [Rat.add_zero]
  ·rw [gq hc λz=>h1 (jah _ z),xS hi λz=>by
    have:=QB ((Yq hc).mp z)
    exact h1 (QE _ (by rw [this];exact jaT _))]
   show some ((0:Rat)+0)=_;rw [Rat.zero_add]
  ·rw [gq hc (by rw [h1];exact kn)];have e1:=Qb (l:=yc (zO (zK k) l) l.length (zh (f (l.filter (zK k))) (e - zM (asD done l)))) (i:=i) (by rw [yI];exact hi);rw [e1];show some ((0:Rat)+_)=_;rw [Rat.zero_add]
 have zero:∀e:Rat,0<=e->∀(i:Nat) (c:Cl) (q:Rat),l[i]? =some c->(zh (Zk f l P k) e)[i]? =some q->c.2.1∉done++[k]->q=0:=λe h0 i c q hc hq hn=>by
  by_cases hT:e<zM (asD done l)
  ·rw [parts e h0,QH hT] at hq;exact h.zero e h0 i c q hc hq λz=>hn (jah _ z)
  ·rw [(here e h0 hT i c hc).2.1 hn] at hq;cases hq;rfl
 have rk:∀{k':Int} {i:Nat},i∈zO (zK k') l->∃c,l[i]? =some c/\c.2.1=k':=λ{k' i} hi=>by
  obtain ⟨c,hc⟩:=inl ((YJ (zK k') l).lt i hi);exact ⟨c,hc,QB ((Yq hc).mp hi)⟩
 refine ⟨Mj,λe h0 k' Lm=>?_,zero,λe h0 x hx y hy LJ Kr LQ=>?_⟩
 ·rw [Yv (p:=zK k') _ (λc x=>rfl) (KP e)]
  by_cases hT:e<zM (asD done l)
  ·rcases QS.mp Lm with z|z
   ·have:=h.fit e h0 k' z;rw [Yv (p:=zK k') _ (λc x=>rfl) st.len] at this;rw [parts e h0,QH hT];exact this
   ·rw [Qq.mp z]
    have e0:yn 0 (zO (zK k) l) (zh (Zk f l P k) e)=zh (f (l.filter (zK k))) 0:=by
     rw [hf.ful.std.zero,<-lk,<-jaK];unfold yn;refine QI λi hi=>?_;obtain ⟨c,hc,e1⟩:=rk hi;have il:=(Qd.mp hc).1;have e2:=Qb (l:=zh P e) (i:=i) (by rw [st.len];exact il);rw [parts e h0,QH hT,Qk,e2];exact h.zero e h0 i c _ hc e2 (by rw [e1];exact kn)
    rw [e0];exact hf.good.fit 0 QQ
  ·rcases QS.mp Lm with z|z
   ·have T0:=st.T0;have:=h.fit _ T0 k' z;rw [Yv (p:=zK k') _ (λc x=>rfl) st.len,st.past QQ] at this;rw [jb (u:=asD done l) λi hi=>?_]
    ·exact this
    ·obtain ⟨c,hc,e1⟩:=rk hi;rw [(here e h0 hT i c hc).1 (by rw [e1];exact z),oI hc (by rw [e1];exact z)]
   ·rw [Qq.mp z];rw [jb (u:=yc (zO (zK k) l) l.length (zh (f (l.filter (zK k))) (e - zM (asD done l)))) λi hi=>?_,qq pk (lenk _)]
    ·exact hf.good.fit _ (by have:=Tf.mp hT;grind)
    ·obtain ⟨c,hc,e1⟩:=rk hi;exact (here e h0 hT i c hc).2.2 e1
 ·obtain ⟨j,d,q',hd,LA,rfl⟩:=ZY hy
  have big:x.rank=k->False:=λe1=>by
   have:=zero e h0 j d q' hd LA λz=>by
    have lt':x.rank<d.2.1:=Kr
    rcases QS.mp z with z|z
    ·have:=hk _ z;omega
    ·have:=Qq.mp z;omega
   have pos:0<q':=LQ;rw [this] at pos;exact absurd pos jaS
  rcases QS.mp LJ with z|z
  ·by_cases hT:e<zM (asD done l)
   ·rw [parts e h0,QH hT] at hx hy;exact h.ord e h0 x hx _ hy z Kr LQ
   ·obtain ⟨i,c,q,hc,hq,rfl⟩:=ZY hx;rw [(here e h0 hT i c hc).1 z] at hq;cases hq;rfl
  ·exact (big (Qq.mp z)).elim
theorem qf:∀(ks done:List Int) (P:List zg),RkI r l done P->(done++ks).Pairwise (·<·)->(∀k∈ks,GF r (l.filter (zK k)) (f (l.filter (zK k))))->RkI r l (done++ks) (ks.foldl (Zk f l) P)
 |[],done,P,h,_,_=>by rw [jaX];exact h
 |k::ks,done,P,h,hp,hf=>by
  have e:done++k::ks=done++[k]++ks:=by rw [jae];rfl
  rw [e] at hp⊢;rw [List.foldl_cons];refine qf ks (done++[k]) _ (h.step (λk' Lm=>?_) (hf k (Qe ..))) hp λk' Lm=>hf k' (Qf _ Lm);exact (TQ.mp (TQ.mp hp).1).2.2 k' Lm k (jaT _)
theorem Ee (hf:∀k∈zS l,GF r (l.filter (zK k)) (f (l.filter (zK k)))):RkI r l (zS l) (Vv f l):=by
 have:=qf (zS l) [] _ RkI.nil (by rw [jaI];exact (yE l).1) hf;rw [jaI] at this;exact this
theorem vH (hf:∀k∈zS l,GF r (l.filter (zK k)) (f (l.filter (zK k)))):GF (.ranks r) l (Vv f l):=by
 have h:=Ee hf;have mem:∀{i:Nat} {c:Cl},l[i]? =some c->c.2.1∈zS l:=λ{i c} hc=>((yE l).2 _).mpr (Qj.mpr ⟨c,Qc hc,rfl⟩)
 have eA:asD (zS l) l=amQ l:=by
  unfold asD amQ;refine QI λc hc=>?_;obtain ⟨i,hi⟩:=Qx.mp hc;rw [QH (mem hi)]
 have ful:=h.ful;rw [eA] at ful
 have fits:∀(e:Rat),0<=e->∀k,xP r ((zH l (zh (Vv f l) e)).filter (·.rank=k)):=λe h0 k=>by
  by_cases z:k∈zS l
  ·exact h.fit e h0 k z
  ·rw [List.filter_eq_nil_iff.mpr λx hx hd=>?_]
   ·exact YK r
   ·obtain ⟨i,c,q,hc,_,rfl⟩:=ZY hx;have e1:c.2.1=k:=QB hd;exact z (by rw [<-e1];exact mem hc)
 refine ⟨⟨ful.std,λe h0=>⟨λx hx=>?_,fits e h0,λx hx y hy Kr LQ=>?_⟩⟩,ful⟩
 ·exact (fits e h0 x.rank).inQ x (Tq.mpr ⟨hx,QX rfl⟩)
 ·refine h.ord e h0 x hx y hy ?_ Kr LQ;obtain ⟨i,c,q,hc,_,rfl⟩:=ZY hx;exact mem hc
end
end S
namespace S
open PySem PySem.Spec PyProof.Rows L2
theorem kR   (h:Nest P Qs) (st:Std Qs.length T as P):Ful (nQ Qs) T (yQ Qs as) (yu P Qs):=by
 have hl:=st.lastC;have past:zh P T=as:=st.past QQ;refine ⟨⟨h.riseF,λc hc=>?_,?_,?_⟩,?_,λi x y z hx hy hz s=>?_⟩
 ·obtain ⟨i,hi⟩:=Qx.mp hc;obtain ⟨h1,h2⟩:=Nest.F_at hi;have rg:=h.in_range (Qc h1);rw [h2];exact ⟨h.flen _,h.sum rg.1 rg.2⟩
 ·rw [Nest.F_of h.zeroM,h.flat0]
 ·rw [h.getLast,hl,past]
 ·unfold Mon yu;rw [Tn];refine List.Pairwise.imp_of_mem (λ{u v} hu hv KL=>?_) h.rise;have ru:=h.in_range hu;have rv:=h.in_range hv;exact h.rises ru.1 (QC KL) rv.2
 ·obtain ⟨x1,x2⟩:=Nest.F_at hx;obtain ⟨y1,y2⟩:=Nest.F_at hy;obtain ⟨z1,z2⟩:=Nest.F_at hz;refine h.thin x1 y1 z1 λj p q r hp hq hr=>?_;exact s j p r q (by rw [x2];exact hp) (by rw [y2];exact hr) (by rw [z2];exact hq)
theorem Ve (L:List Row):(YY L).Pairwise (·<·)/\∀k,k∈YY L↔k∈L.map (·.group):=(aR (L.map λc:Row=>c.group)).choose_spec
def wt (g:Int) (l:List Cl):Cl:=((amV l).sum,pB (l.map (·.2.1)),g)
noncomputable def zG (l:List Cl):List Cl:=(zB l).map λg=>wt g (l.filter (zu g))
noncomputable def zX (f:List Cl->List zg) (l:List Cl):List (List zg):=(zB l).map λg=>f (l.filter (zu g))
noncomputable def mi (l:List Cl):List (List Nat):=(zB l).map λg=>zO (zu g) l
noncomputable def uN (l:List Cl):List Nat:=(mi l).flatten
noncomputable def xr (fa fb:List Cl->List zg) (l:List Cl):List zg:=yq (uN l) l.length (yu (fa (zG l)) (zX fb l))
theorem bW  :∀{Vs:List (List Rat)} {Ls:List (List Nat)},Vs.map List.length=Ls.map List.length->∀{k:Nat} {V:List Rat} {L:List Nat},Vs[k]? =some V->Ls[k]? =some L->(q,i)∈V.zip L->(q,i)∈Vs.flatten.zip Ls.flatten
 |[],Ls,_,k,V,L,h,_,_=>by simp at h
 |V'::Vs,[],h,_,_,_,_,_,_=>by simp at h
 |V'::Vs,L'::Ls,h,k,V,L,h1,h2,h3=>by
  rw [Qo,Qo] at h;have hl:V'.length=L'.length:=by injection h
  have ht:Vs.map List.length=Ls.map List.length:=by injection h
  rw [TY,TY,List.zip_append hl]
  cases k with
  |zero=>
   cases h1;cases h2;exact jah _ h3
  |succ k=>exact QE _ (bW ht (k:=k) (by simpa using h1) (by simpa using h2) h3)
theorem HP {pl:List Nat} {V v:List Rat} (hl:V.length=pl.length) (h:∀(q:Rat) (i:Nat),(q,i)∈V.zip pl->v[i]? =some q):yn 0 pl v=V:=by
 apply Tj
 intro j;unfold yn;rw [Qh]
 cases e:pl[j]? with
 |none=>
  have:=jbi.mp e;rw [QF (by omega)];rfl
 |some i=>
  have jl:=(Qd.mp e).1;have f:=Qb (l:=V) (i:=j) (by omega);have:=h V[j] i (Qc (i:=j) (by rw [Tr];exact ⟨f,e⟩));show some (v.getD i 0)=_;rw [Qk,this,f];rfl
section
variable {a b:Rl} {l:List Cl} {fa fb:List Cl->List zg}
theorem jq (l:List Cl):∀gs:List Int,gs.Pairwise (·<·)->(gs.map λg=>zO (zu g) l).flatten.Nodup
 |[],_=>List.nodup_nil
 |g::gs,h=>by
  obtain ⟨h1,h2⟩:=Ql.mp h;rw [Qo,TY,List.nodup_append];refine ⟨(YJ _ l).nd,jq l gs h2,λi hi j hj e=>?_⟩;subst e;obtain ⟨L,hL,Mp⟩:=List.mem_flatten.mp hj;obtain ⟨g',Nv,rfl⟩:=Qj.mp hL;have lt:=(YJ _ l).lt i hi;have hc:=Qb lt;have e1:=QB ((Yq hc).mp hi);have e2:=QB ((Yq hc).mp Mp);have:=h1 g' Nv;omega
theorem kK (l:List Cl):Pls l.length (uN l):=⟨jq l _ (ya l).1,λi hi=>by
 obtain ⟨L,hL,Mp⟩:=List.mem_flatten.mp hi;obtain ⟨g',Nv,rfl⟩:=Qj.mp hL
 exact (YJ _ l).lt i Mp⟩
theorem xG (l:List Cl):(zG l).length=(zB l).length:=Qa _
theorem Yf (f:List Cl->List zg) (l:List Cl):(zX f l).length=(zB l).length:=Qa _
theorem tN {k:Nat} {g:Int} (hg:(zB l)[k]? =some g):(amQ (zG l))[k]? =some (zM (amQ (l.filter (zu g)))):=by
 unfold amQ zG;rw [Qr,Qh,hg];show some (((amV (l.filter (zu g))).sum:Int):Rat)=_;rw [<-xQ];rfl
theorem VZ (ha:Ful (zG l).length (zM (amQ (zG l))) (amQ (zG l)) (fa (zG l))) (hb:∀g∈zB l,Ful (l.filter (zu g)).length (zM (amQ (l.filter (zu g)))) (amQ (l.filter (zu g))) (fb (l.filter (zu g)))):Nest (fa (zG l)) (zX fb l):=by
 have e:(zX fb l).length=(zG l).length:=by rw [xG,Yf]
 refine ⟨by rw [e];exact ha.pm,by rw [e];exact ha.std.cons,λk Q hk=>?_⟩;unfold zX at hk;obtain ⟨g,hg,rfl⟩:=zJ hk;have h:=hb g (Qc hg);obtain ⟨r,er⟩:=h.std.cons;refine ⟨_,r,er,h.pm,?_⟩;rw [ha.std.lastC,h.std.lastC];exact tN hg
theorem fo (hb:∀g∈zB l,Ful (l.filter (zu g)).length (zM (amQ (l.filter (zu g)))) (amQ (l.filter (zu g))) (fb (l.filter (zu g)))):(uN l).length=nQ (zX fb l):=by
 unfold uN mi zX;generalize zB l=gs at*
 induction gs with
 |nil=>rfl
 |cons g gs ih=>
  rw [Qo,TY,Qz,ih λg' Nv=>hb g' (Qf _ Nv),Qo,nQ,Zf];obtain ⟨r,er⟩:=(hb g (Qe ..)).std.cons;rw [er]
  congr 1
  show _=(List.replicate _ (0:Rat)).length;rw [QD]
theorem ja (hb:∀g∈zB l,Ful (l.filter (zu g)).length (zM (amQ (l.filter (zu g)))) (amQ (l.filter (zu g))) (fb (l.filter (zu g)))) {ps:List Rat} (Lk:ps.length=(zB l).length) {k:Nat} {g:Int} {p:Rat} (hg:(zB l)[k]? =some g) (hp:ps[k]? =some p):
 yn 0 (zO (zu g) l) (yc (uN l) l.length (yQ (zX fb l) ps))=zh (fb (l.filter (zu g))) p:=by
 have KP:(List.zipWith zh (zX fb l) ps).map List.length=(mi l).map List.length:=by
  apply Tj
  intro j;unfold zX mi;rw [Qh,Qh,Qh,Qt,Qh]
  cases e:(zB l)[j]? with
  |none=>rfl
  |some g'=>
   have jl:=(Qd.mp e).1;rw [Qb (l:=ps) (i:=j) (by omega)];show some (zh (fb (l.filter (zu g'))) ps[j]).length=some (zO (zu g') l).length;rw [(hb g' (Qc e)).std.len,Zf]
 have fl:(yQ (zX fb l) ps).length=(uN l).length:=by
  unfold yQ uN;rw [List.length_flatten,List.length_flatten,KP]
 refine HP ?_ λq i hm=>?_
 ·rw [(hb g (Qc hg)).std.len,Zf]
 ·refine iK (kK l) fl ?_;refine bW KP (k:=k) (V:=zh (fb (l.filter (zu g))) p) (L:=zO (zu g) l) ?_ ?_ hm
  ·unfold zX;rw [Qt,Qh,hg,hp];rfl
  ·unfold mi;rw [Qh,hg];rfl
theorem qM (ha:GF a (zG l) (fa (zG l))) (hb:∀g∈zB l,GF b (l.filter (zu g)) (fb (l.filter (zu g)))):GF (.groups a b) l (xr fa fb l):=by
 have KW:=λg hg=>(hb g hg).ful;have nest:=VZ (fa:=fa) (fb:=fb) ha.ful KW;have elen:(zX fb l).length=(zG l).length:=by rw [xG,Yf]
 have stP:=ha.ful.std;have stP':Std (zX fb l).length (zM (amQ (zG l))) (amQ (zG l)) (fa (zG l)):=by rw [elen];exact stP
 have W:=kR nest stP';have lk:=fo (fb:=fb) KW;have pk:=kK l;have R:=W.spread pk lk;have psl:∀e:Rat,(zh (fa (zG l)) e).length=(zB l).length:=λe=>by rw [stP.len,xG]
 have gmem:∀{i:Nat} {c:Cl},l[i]? =some c->c.2.2∈zB l:=λ{i c} hc=>((ya l).2 _).mpr (Qj.mpr ⟨c,Qc hc,rfl⟩)
 have eA:yc (uN l) l.length (yQ (zX fb l) (amQ (zG l)))=amQ l:=by
  apply Tj
  intro i
  by_cases hi:i<l.length
  ·have hc:=Qb hi;obtain ⟨k,hk⟩:=Qx.mp (gmem hc);have e1:=ja (fb:=fb) KW (ps:=amQ (zG l)) (by rw [XX,xG]) hk (tN hk);rw [(KW _ (Qc hk)).std.past QQ,jw] at e1;unfold yn at e1;have e2:=List.map_inj_left.mp e1 i ((Yq hc).mpr (QX rfl));rw [Qk,Qk] at e2;have f1:=Qb (l:=yc (uN l) l.length (yQ (zX fb l) (amQ (zG l)))) (i:=i) (by rw [yI];exact hi);have f2:=Qb (l:=amQ l) (i:=i) (by rw [XX];exact hi);rw [f1,f2] at e2;rw [f1,f2];exact congrArg some e2
  ·rw [QF (by rw [yI];omega),QF (by rw [XX];omega)]
 have eT:zM (amQ (zG l))=zM (amQ l):=by
  rw [<-eA];exact (R.std.ok _ (jai R.std.last)).2.symm
 have R':=R;rw [eA,eT] at R';refine ⟨⟨R'.std,λe h0=>?_⟩,R'⟩;rw [show zh (xr fa fb l) e=zh (xr fa fb l) (mn e (zM (amQ l))) from R'.std.clip]
 have m0:0<=mn e (zM (amQ l)):=by
  have:=R'.std.T0;unfold mn
  split<;>grind
 have m1:mn e (zM (amQ l))<=zM (amQ l):=by unfold mn;split<;>grind
 generalize mn e (zM (amQ l))=x at*;have lx:x<=(lastC (fa (zG l))).1:=by rw [stP.lastC];show x<=zM (amQ (zG l));rw [eT];exact m1
 have ev:zh (xr fa fb l) x=yc (uN l) l.length (yQ (zX fb l) (zh (fa (zG l)) x)):=by
  unfold xr;rw [W.std.spreadE pk lk,nest.at m0 lx]
 have KP:(zh (xr fa fb l) x).length=l.length:=by rw [ev,yI]
 have pick:∀{k:Nat} {g:Int} {p:Rat},(zB l)[k]? =some g->(zh (fa (zG l)) x)[k]? =some p->(zH l (zh (xr fa fb l) x)).filter (·.group=g)=zH (l.filter (zu g)) (zh (fb (l.filter (zu g))) p):=λ{k g p} hg hp=>by
  rw [Yv (p:=zu g) _ (λc x=>rfl) KP,ev,ja KW (psl x) hg hp]
 have prange:∀{k:Nat} {g:Int} {p:Rat},(zB l)[k]? =some g->(zh (fa (zG l)) x)[k]? =some p->0<=p/\p<=zM (amQ (l.filter (zu g))):=λ{k g p} hg hp=>by
  have hQ:(zX fb l)[k]? =some (fb (l.filter (zu g))):=by unfold zX;rw [Qh,hg];rfl
  have:=nest.range m0 lx hQ hp;rw [(KW g (Qc hg)).std.lastC] at this;exact this
 have fits:∀g,xP b ((zH l (zh (xr fa fb l) x)).filter (·.group=g)):=λg=>by
  by_cases z:g∈zB l
  ·obtain ⟨k,hk⟩:=Qx.mp z;have hp:=Qb (l:=zh (fa (zG l)) x) (i:=k) (by rw [psl];exact (Qd.mp hk).1);rw [pick hk hp];exact (hb g z).good.fit _ (prange hk hp).1
  ·rw [List.filter_eq_nil_iff.mpr λy hy hd=>?_]
   ·exact YK b
   ·obtain ⟨i,c,q,hc,_,rfl⟩:=ZY hy;have e1:c.2.2=g:=QB hd;exact z (by rw [<-e1];exact gmem hc)
 refine ⟨λy hy=>(fits y.group).inQ y (Tq.mpr ⟨hy,QX rfl⟩),fits,?_⟩
 have eg:YY (zH l (zh (xr fa fb l) x))=zB l:=by
  have:(zH l (zh (xr fa fb l) x)).map (·.group)=l.map (·.2.2):=by
   unfold zH;rw [jbJ]
   apply Tj
   intro i;rw [Qt,Qh]
   cases e1:l[i]? with
   |none=>rfl
   |some c=>
    have il:=(Qd.mp e1).1;rw [Qb (l:=zh (xr fa fb l) x) (i:=i) (by rw [KP];exact il)];rfl
  exact ZJ (Ve _).1 (ya l).1 λk=>by rw [(Ve _).2,this,(ya l).2]
 have es:jI (zH l (zh (xr fa fb l) x))=zH (zG l) (zh (fa (zG l)) x):=by
  unfold jI;rw [eg]
  apply Tj
  intro k;unfold zH zG;rw [Qh,Qt,Qh]
  cases hk:(zB l)[k]? with
  |none=>rfl
  |some g=>
   obtain ⟨p,hp⟩:∃p,(zh (fa (zG l)) x)[k]? =some p:=⟨_,Qb (by rw [psl];exact (Qd.mp hk).1)⟩;have Ll:=hp;unfold zG at Ll;rw [Ll];have SU:=pick hk hp;unfold zH at SU;have rg:=prange hk hp;have sb:=(KW g (Qc hk)).std;have ls:=sb.len (e:=p);have sA:=Xj ls;have sP:=Ym ls;unfold zH at sA sP;show some (Row.mk _ _ _ _)=some (xJ (wt g (l.filter (zu g))) _);rw [SU,sA,sP,sb.sum rg.1]
   congr 1
   have e4:mn p (zM (amQ (l.filter (zu g))))=p:=by unfold mn;rw [QH rg.2]
   have e5:(List.zipWith xJ (l.filter (zu g)) (zh (fb (l.filter (zu g))) p)).map (·.rank)=(l.filter (zu g)).map (·.2.1):=by
    rw [jbJ]
    apply Tj
    intro i;rw [Qt,Qh]
    cases e1:(l.filter (zu g))[i]? with
    |none=>rfl
    |some c=>
     have il:=(Qd.mp e1).1;rw [Qb (l:=zh (fb (l.filter (zu g))) p) (i:=i) (by rw [ls];exact il)];rfl
   rw [e4,e5,xQ];rfl
 rw [es];exact ha.good.fit x m0
end
noncomputable def zI:Rl->List Cl->List zg
 | .shares,l=>shP (amV l)
 | .evenly,l=>evP (amV l) (lvV (amV l))
 | .losses,l=>loP (amV l) (lvV (amV l))
 | .halves,l=>yp (hvP (amV l) (lvV (amV l)))
 | .other r,l=>yv (zI r l)
 | .ranks r,l=>Vv (λl=>zI r l) l
 | .groups a b,l=>xr (λl=>zI a l) (λl=>zI b l) l
 | .upto t b x y,l=>Wj (Rat.divInt t b) (zI x l) (zI y l)
def POk:Rl->Prop
 | .other r=>POk r
 | .upto t b x y=>Vy t b/\POk x/\POk y
 | .ranks r=>POk r
 | .groups a b=>POk a/\POk b
 |_=>True
theorem xh {l:List Cl} (nn:∀c∈l,0<=c.1) (p:Cl->Bool):∀c∈l.filter p,0<=c.1:=λc hc=>nn c (Tq.mp hc).1
theorem Wl (nn:∀c∈l,0<=c.1):∀a∈amV l,0<=a:=λa ha=>by
 obtain ⟨c,hc,rfl⟩:=Qj.mp ha;exact nn c hc
theorem jH {l:List Cl} (nn:∀c∈l,0<=c.1):∀c∈zG l,0<=c.1:=λc hc=>by
 obtain ⟨g,_,rfl⟩:=Qj.mp hc;exact bY (Wl (xh nn _))
theorem yW:∀{r:Rl} {l:List Cl},POk r->(∀c∈l,0<=c.1)->GF r l (zI r l)
 | .shares,l,_,nn=>⟨fO (Wl nn),vJ (Wl nn)⟩
 | .evenly,l,_,nn=>⟨XS (WK (Wl nn)),Vf (WK (Wl nn))⟩
 | .losses,l,_,nn=>⟨fR (WK (Wl nn)),jo (WK (Wl nn))⟩
 | .halves,l,_,nn=>⟨qL (WK (Wl nn)),vK (WK (Wl nn))⟩
 | .other r,l,h,nn=>⟨(yW (r:=r) h nn).good.other,(yW (r:=r) h nn).ful.turned⟩
 | .ranks r,l,h,nn=>vH λk _=>yW (r:=r) h (xh nn _)
 | .groups a b,l,h,nn=>qM (yW (r:=a) h.1 (jH nn)) λg _=>yW (r:=b) h.2 (xh nn _)
 | .upto t b x y,l,h,nn=>⟨Good.upto rfl (eS h.1).1 (eS h.1).2 nn (yW h.2.1 nn).good (yW h.2.2 nn).good,tu (eS h.1).1 (eS h.1).2 (yW h.2.1 nn).ful (yW h.2.2 nn).ful⟩
def DQ (d:Nat) (x:Rat):Prop:=∃D:Int,(0<D/\D<=2 ^ d)/\Yc D x
def DC (d:Nat) (c:zg):Prop:=DQ d c.1/\∀x∈c.2,DQ d x
def DP (d:Nat) (P:List zg):Prop:=∀c∈P,DC d c
theorem UD {a b:Int} {m n:Nat} (ha:0<a/\a<=2 ^ m) (hb:0<b/\b<=2 ^ n):0<a*b/\a*b<=2 ^ (m+n):=by
 refine ⟨Int.mul_pos ha.1 hb.1,?_⟩;rw [Int.pow_add];exact Int.mul_le_mul ha.2 hb.2 (jbn hb.1) (jbA (jbn ha.1) ha.2)
theorem HL {m n:Nat} (h:m<=n):(2:Int) ^ m<=2 ^ n:=by
 have:=Nat.pow_le_pow_right (n:=2) (by decide) h;have e:∀k:Nat,(2:Int) ^ k=((2 ^ k:Nat):Int):=λk=>by rw [jbX];rfl
 rw [e,e];exact Int.ofNat_le.mpr this
section
variable {d d' t:Nat} {x y:Rat} {T:Int}
theorem DQ.mono (h:DQ d x) (hd:d<=d'):DQ d' x:=by
 obtain ⟨D,⟨h1,h2⟩,h3⟩:=h;exact ⟨D,⟨h1,jbA h2 (HL hd)⟩,h3⟩
theorem DQ.int (n:Int):DQ 0 (n:Rat):=⟨1,⟨by decide,by decide⟩,Yc.int n 1⟩
theorem DQ.zero:DQ 0 0:=DQ.int 0
theorem DQ.add (h:DQ d x) (g:DQ d' y):DQ (d+d') (x+y):=by
 obtain ⟨D,p1,h3⟩:=h;obtain ⟨E,p2,g3⟩:=g;exact ⟨D*E,UD p1 p2,(h3.mul E).add (g3.mulL D)⟩
theorem DQ.sub (h:DQ d x) (g:DQ d' y):DQ (d+d') (x - y):=by
 obtain ⟨D,p1,h3⟩:=h;obtain ⟨E,p2,g3⟩:=g;exact ⟨D*E,UD p1 p2,(h3.mul E).sub (g3.mulL D)⟩
theorem DP.mono {P:List zg} (h:DP d P) (hd:d<=d'):DP d' P:=λc hc=>⟨(h c hc).1.mono hd,λx hx=>((h c hc).2 x hx).mono hd⟩
theorem DQ.mix {de dx dy da db:Nat} {e a b:Rat} (he:DQ de e) (hx:DQ dx x) (hy:DQ dy y) (ha:DQ da a) (hb:DQ db b) (Lj:a<b) (a0:0<=a) (bT:b<=(T:Rat)) (hT:T<=2 ^ t):DQ (de+dx+(dy+(t+(da+db)))) (xC ((e - a) / (b - a)) x y):=by
 have line:=yV (x:=x) (y:=y) (E:=e) Lj;generalize xC ((e - a) / (b - a)) x y=m at*;obtain ⟨De,pe,ke,he⟩:=he;obtain ⟨Dx,px,kx,hx⟩:=hx;obtain ⟨Dy,py,ky,hy⟩:=hy;obtain ⟨Da,pa,ka,ha⟩:=ha;obtain ⟨Db,pb,kb,hb⟩:=hb
 have hN:(b - a)*((Da*Db:Int):Rat)=((kb*Da - ka*Db:Int):Rat):=by
  rw [jaJ,QV,QV,QV,<-ha,<-hb];grind
 have dab:=UD pa pb;have dabq:=YM dab.1
 have T0:0<T:=by
  have:(0:Rat)<(T:Rat):=by grind
  exact Int.not_le.mp λz=>by
   have:=Te.mpr z
   grind
 have N0:0<kb*Da - ka*Db:=by
  have:(0:Rat)<((kb*Da - ka*Db:Int):Rat):=by rw [<-hN];exact jbx (by grind) dabq
  exact Int.not_le.mp λz=>by
   have:=Te.mpr z
   grind
 have NT:kb*Da - ka*Db<=T*(Da*Db):=by
  apply WT
  rw [<-hN,QV T];exact Zh (by grind) (QC dabq)
 have pN:0<kb*Da - ka*Db/\kb*Da - ka*Db<=2 ^ (t+(da+db)):=⟨N0,jbA NT (UD ⟨T0,hT⟩ dab).2⟩;generalize kb*Da - ka*Db=N at*;refine ⟨De*Dx*(Dy*N),UD (UD pe px) (UD py pN),kx*(De*Dy*N)+(ke*Da - ka*De)*(ky*Dx - kx*Dy)*Db,?_⟩;simp only [QV,jaJ,Rat.intCast_add] at hN⊢;rw [<-he,<-hx,<-hy,<-ha,<-hN];generalize (De:Rat)=p1 at*;generalize (Dx:Rat)=p2 at*;generalize (Dy:Rat)=p3 at*;generalize (Da:Rat)=p4 at*;generalize (Db:Rat)=p5 at*;have:m*(p1*p2*(p3*((b - a)*(p4*p5)))) - (x*p2*(p1*p3*((b - a)*(p4*p5)))+(e*p1*p4 - a*p4*p1)*(y*p3*p2 - x*p2*p3)*p5)=p1*p2*p3*p4*p5*((m - x)*(b - a) - (e - a)*(y - x)):=by grind
 rw [line] at this
 grind
theorem jc {m de:Nat} {e:Rat} (he:DQ de e) (hT:T<=2 ^ t):∀{P:List zg},yl P->(∀c∈P,0<=c.1/\c.1<=(T:Rat))->DP d P->∀x∈zh P e,DQ (de+4*d+t) x
 |[],_,_,_,x,hx=>by simp [zh] at hx
 |[c],_,_,h,x,hx=>((h c (Qe ..)).2 x hx).mono (by omega)
 |c::f::r,hr,rg,h,x,hx=>by
  rw [zh] at hx
  split at hx
  ·obtain ⟨i,hi⟩:=Qx.mp hx;obtain ⟨p,q,hp,hq,rfl⟩:=ZI hi;have hc:=h c (Qe ..);have hd:=h f (Qf _ (Qe ..));have lt:=(Ql.mp hr).1 f (Qe ..);exact (DQ.mix he (hc.2 p (Qc hp)) (hd.2 q (Qc hq)) hc.1 hd.1 lt (rg c (Qe ..)).1 (rg f (Qf _ (Qe ..))).2 hT).mono (by omega)
  ·exact jc (m:=m) he hT (Ql.mp hr).2 (λc hc=>rg c (Qf _ hc)) (λc hc=>h c (Qf _ hc)) x hx
theorem Nest.den {P:List zg} {Qs:List (List zg)} {a b:Nat} (h:Nest P Qs) (ha:DP a P) (hb:∀Q∈Qs,DP b Q) (hl:(lastC P).1<=(T:Rat)) (hT:T<=2 ^ t) {e:Rat} (he:e∈wpV P Qs):DQ (b+4*a+t) e/\∀p∈zh P e,DQ (b+4*a+t) p:=by
 rcases h.mem.mp he with ⟨c,hc,rfl⟩|⟨k,Q,hk,c,hc,hr⟩
 ·refine ⟨(ha c hc).1.mono (by omega),λp hp=>?_⟩;have pm:=h.pm;obtain ⟨r,eP⟩:=h.p0;rw [eP] at pm hp hc;rw [ye pm.t hc] at hp;exact ((ha c (by rw [eP];exact hc)).2 p hp).mono (by omega)
 ·have hL:=(hb Q (Qc hk) c hc).1;have h0:=(h.qpos hk c hc).1;have pm:=h.pm;have MG:k<Qs.length:=(Qd.mp hk).1
  have le:∀c1∈P,∀(i:Nat) (x:Rat),c1.2[i]? =some x->0<=x/\x<=(T:Rat):=λc1 Oo i x hx=>by
   have s:=pm.sums c1 Oo
   have e1:zh P c1.1=c1.2:=by
    obtain ⟨r,eP⟩:=h.p0;rw [eP] at Oo pm⊢;exact ye pm.t Oo
   have mem:c1.1∈wpV P Qs:=h.mem.mpr (.inl ⟨c1,Oo,rfl⟩);have rg:=h.in_range mem
   have nn:∀q∈c1.2,0<=q:=λq hq=>by
    obtain ⟨j,hj⟩:=Qx.mp hq;have jl:j<Qs.length:=by rw [<-pm.t.len c1 Oo];exact (Qd.mp hj).1
    exact (h.range rg.1 rg.2 (Qb jl) (by rw [e1];exact hj)).1
   have m:=Qc hx;have:=(Yr nn).2 x m;exact ⟨nn x m,by rw [s] at this;grind⟩
  obtain ⟨r,eP⟩:=h.p0;rw [eP] at pm hr ha le⊢
  obtain ⟨i,c1,d1,x,y,g1,g2,g3,g4,hxL,hLy,ee,_,_,_,ep⟩:=VY MG pm (by
   rw [Qk,QZ,QH MG];exact h0) hr
  have z1:=ha c1 (Qc g1);have z2:=ha d1 (Qc g2);have rx:=le c1 (Qc g1) k x g3;have ry:=le d1 (Qc g2) k y g4;have zx:=z1.2 x (Qc g3);have zy:=z2.2 y (Qc g4);have LZ:x<y:=by grind
  rw [ep];refine ⟨by rw [ee];exact (DQ.mix hL z1.1 z2.1 zx zy LZ rx.1 ry.2 hT).mono (by omega),λp hp=>?_⟩;obtain ⟨j,hj⟩:=Qx.mp hp;rw [Qt] at hj
  cases e1:c1.2[j]? with
  |none=>rw [e1] at hj;cases hj
  |some p1=>
   cases e2:d1.2[j]? with
   |none=>rw [e1,e2] at hj;cases hj
   |some p2=>
    rw [e1,e2] at hj;cases hj;exact (DQ.mix hL (z1.2 p1 (Qc e1)) (z2.2 p2 (Qc e2)) zx zy LZ rx.1 ry.2 hT).mono (by omega)
theorem DP.within {P:List zg} {Qs:List (List zg)} {a b:Nat} (h:Nest P Qs) (ha:DP a P) (hb:∀Q∈Qs,DP b Q) (hq:∀Q∈Qs,yl Q/\∀c∈Q,0<=c.1/\c.1<=(T:Rat)) (hl:(lastC P).1<=(T:Rat)) (hT:T<=2 ^ t):DP (5*b+4*a+2*t) (yu P Qs):=λc hc=>by
 obtain ⟨i,hi⟩:=Qx.mp hc;obtain ⟨h1,h2⟩:=Nest.F_at hi;obtain ⟨z1,z2⟩:=h.den ha hb hl hT (Qc h1);refine ⟨z1.mono (by omega),λx hx=>?_⟩;rw [h2] at hx;obtain ⟨k,Q,p,hk,hp,hxq⟩:=sJ hx;have mQ:=Qc hk;exact (jc (m:=0) (z2 p (Qc hp)) hT (hq Q mQ).1 (hq Q mQ).2 (hb Q mQ) x hxq).mono (by omega)
theorem DP.spread {P:List zg} {pl:List Nat} {n m:Nat} (hp:Pls n pl) (hl:∀c∈P,c.2.length=pl.length) (h:DP d P):DP d (yq pl n P):=λc hc=>by
 obtain ⟨c,Kx,rfl⟩:=Qj.mp hc;refine ⟨(h c Kx).1,λx hx=>?_⟩;obtain ⟨i,hi⟩:=Qx.mp hx
 rcases xZ hp (hl c Kx) hi with ⟨j,_,hj⟩|⟨_,rfl⟩
 ·exact (h c Kx).2 x (Qc hj)
 ·exact DQ.zero.mono (by omega)
theorem DP.keep {P:List zg} (h:DP d P):DP d (yp P):=λc hc=>h c ((ZD P).subset hc)
theorem DP.app {P P':List zg} (ne:P≠[]) (h:DP d P) (hl:DC 0 (lastC P)) (g:DP d P'):DP d (P++yF P P'):=λc hc=>by
 rcases QS.mp hc with z|z
 ·exact h c z
 ·obtain ⟨f,hf,rfl⟩:=Qj.mp z;have hf:=g f (TR hf);refine ⟨(hl.1.add hf.1).mono (by omega),λx hx=>?_⟩;obtain ⟨a,ha,b,hb,rfl⟩:=dA hx;exact ((hl.2 a ha).add (hf.2 b hb)).mono (by omega)
theorem DP.turned {P:List zg} (hl:DC 0 (lastC P)) (h:DP d P):DP d (yv P):=λc hc=>by
 obtain ⟨f,hf,rfl⟩:=Qj.mp hc;have hf:=h f (jbH.mp hf);refine ⟨(hl.1.sub hf.1).mono (by omega),λx hx=>?_⟩;obtain ⟨a,ha,b,hb,rfl⟩:=dA hx;exact ((hl.2 a ha).sub (hf.2 b hb)).mono (by omega)
def UK (b:Int):Nat:=b.toNat.log2+1
theorem Fd {b:Int} (hb:0<b):b<=2 ^ UK b:=by
 have:=Nat.lt_log2_self (n:=b.toNat);have e:(2:Int) ^ UK b=((2 ^ (b.toNat.log2+1):Nat):Int):=by unfold UK;rw [jbX];rfl
 rw [e];omega
theorem DP.upto {P P':List zg} {as:List Rat} {p b:Int} {m:Nat} {U:Rat} (b0:0<b) (st:Std m U as P) (hl:DC 0 (U,as)) (h:DP d P) (g:DP d P'):DP (UK b+d) (Wj (Rat.divInt p b) P P'):=by
 have bn:b≠0:=by omega
 have bb:0<b/\b<=2 ^ UK b:=⟨b0,Fd b0⟩
 have sc:∀{t:Int} {x:Rat},DQ d x->DQ (UK b+d) (x*Rat.divInt t b):=λ{t x} hx=>by
  obtain ⟨D,pD,hD⟩:=hx;exact ⟨b*D,UD bb pD,hD.port bn⟩
 have i1:∀{x:Rat},DQ 0 x->Yc 1 x:=λ{x} hx=>by
  obtain ⟨D,pD,hD⟩:=hx;have:D=1:=by have:=pD.2;have:=pD.1;omega
  rwa [this] at hD
 have ml:lastC (zW (Rat.divInt p b) P)=(U*Rat.divInt p b,UY (Rat.divInt p b) as):=by
  unfold lastC zW;rw [jan,st.last];rfl
 have both:∀{x y:Rat} {t:Int},DQ 0 x->DQ d y->DQ (UK b+d) (x*Rat.divInt p b+y*Rat.divInt t b):=λ{x y t} hx hy=>by
  obtain ⟨D,pD,hD⟩:=hy;have w:=(i1 hx).port (t:=p) bn;rw [jbZ] at w;exact ⟨b*D,UD bb pD,(w.mul D).add (hD.port bn)⟩
 unfold Wj;refine DP.keep λc hc=>?_
 rcases QS.mp hc with z|z
 ·obtain ⟨f,hf,rfl⟩:=Qj.mp z;refine ⟨sc (h f hf).1,λx hx=>?_⟩;obtain ⟨a,ha,rfl⟩:=Qj.mp hx;exact sc ((h f hf).2 a ha)
 ·obtain ⟨f',hf',rfl⟩:=Qj.mp z;have RK:=TR hf';obtain ⟨f,hf,rfl⟩:=Qj.mp RK;rw [ml,HU bn];refine ⟨both hl.1 (g f hf).1,λx hx=>?_⟩;obtain ⟨a,ha,q,hq,rfl⟩:=dA hx;obtain ⟨a',Mg,rfl⟩:=Qj.mp ha;obtain ⟨q',LA,rfl⟩:=Qj.mp hq;exact both (hl.2 a' Mg) ((g f hf).2 q' LA)
end
def Wn (t:Nat):Rl->Nat
 | .halves=>2
 | .other r=>Wn t r
 | .ranks r=>Wn t r
 | .groups a b=>5*Wn t b+4*Wn t a+2*t
 | .upto _ b x y=>UK b+max (Wn t x) (Wn t y)
 |_=>0
theorem YL (h:List Int):DC 0 (zP h):=⟨DQ.int _,λx hx=>by
 obtain ⟨a,_,rfl⟩:=Qj.mp hx
 exact DQ.int a⟩
theorem qR (l:List Cl):DC 0 (zM (amQ l),amQ l):=by rw [<-dB];exact YL _
theorem BQ {x:Int} {w:Int}:∀{gs:List Int},gs.Pairwise (·<·)->(gs.map λg=>if x=g then w else 0).sum=if x∈gs then w else 0
 |[],_=>by simp
 |g::gs,h=>by
  obtain ⟨h1,h2⟩:=Ql.mp h;rw [Qo,QN,BQ h2]
  by_cases e:x=g
  ·have:x∉gs:=λz=>by have:=h1 x z;omega
   rw [QH e,QO this,QH (by rw [e];exact Qe ..)];omega
  ·rw [QO e]
   by_cases z:x∈gs
   ·rw [QH z,QH (Qf _ z)];omega
   ·rw [QO z,QO (λm=>(Qm.mp m).elim e z)];omega
theorem wO (f g:Int->Int):∀gs:List Int,(gs.map λk=>f k+g k).sum=(gs.map f).sum+(gs.map g).sum
 |[]=>rfl
 |k::gs=>by rw [Qo,Qo,Qo,QN,QN,QN,wO f g gs];omega
theorem jK (key w:Cl->Int) {gs:List Int} (hg:gs.Pairwise (·<·)):∀l:List Cl,(∀c∈l,key c∈gs)->(gs.map λg=>((l.filter λc=>decide (key c=g)).map w).sum).sum=(l.map w).sum
 |[],_=>by
  show (gs.map λ_=>(0:Int)).sum=0
  induction gs with
  |nil=>rfl
  |cons g gs ih=>rw [Qo,QN,ih (Ql.mp hg).2 λc hc=>absurd hc Qn];rfl
 |c::l,h=>by
  have ih:=jK key w hg l λx hx=>h x (Qf _ hx)
  have e:(gs.map λg=>(((c::l).filter λc=>decide (key c=g)).map w).sum)=gs.map λg=>(if key c=g then w c else 0)+((l.filter λc=>decide (key c=g)).map w).sum:=by
   refine QI λg _=>?_;rw [jbK]
   by_cases z:key c=g
   ·rw [QH z,QH (QX z),Qo,QN]
   ·rw [QO z,QO (by rw [Th z];decide)];omega
  rw [e,wO,BQ hg,QH (h c (Qe ..)),ih,Qo,QN]
theorem cP (l:List Cl):(amV (zG l)).sum=(amV l).sum:=by
 have:=jK (·.2.2) (·.1) (ya l).1 l λc hc=>((ya l).2 _).mpr (Qj.mpr ⟨c,hc,rfl⟩);unfold zG
 have e:amV ((zB l).map λg=>wt g (l.filter (zu g)))=(zB l).map λg=>((l.filter λc=>decide (c.2.2=g)).map (·.1)).sum:=by
  unfold amV;rw [Qr];rfl
 rw [e,this];rfl
theorem Xo {l:List Cl} (nn:∀c∈l,0<=c.1) (p:Cl->Bool):(amV (l.filter p)).sum<=(amV l).sum:=by
 induction l with
 |nil=>exact jbL _
 |cons c l ih=>
  have ih:=ih λx hx=>nn x (Qf _ hx);have h0:=nn c (Qe ..);have e:(amV (c::l)).sum=c.1+(amV l).sum:=by unfold amV;rw [Qo,QN]
  rw [jbK]
  split
  ·have e2:(amV (c::l.filter p)).sum=c.1+(amV (l.filter p)).sum:=by unfold amV;rw [Qo,QN]
   rw [e,e2];omega
  ·rw [e];omega
theorem Aw {r:Rl} {l:List Cl} {f:List Cl->List zg} {d:Nat}:∀(ks done:List Int) (P:List zg),RkI r l done P->(done++ks).Pairwise (·<·)->(∀k∈ks,GF r (l.filter (zK k)) (f (l.filter (zK k)))/\DP d (f (l.filter (zK k))))->DP d P->DP d (ks.foldl (Zk f l) P)
 |[],done,P,h,_,_,hd=>hd
 |k::ks,done,P,h,hp,hf,hd=>by
  have e:done++k::ks=done++[k]++ks:=by rw [jae];rfl
  rw [e] at hp;rw [List.foldl_cons];have hk:=hf k (Qe ..);refine Aw ks (done++[k]) _ (h.step (λk' Lm=>?_) hk.1) hp (λk' Lm=>hf k' (Qf _ Lm)) ?_
  ·exact (TQ.mp (TQ.mp hp).1).2.2 k' Lm k (jaT _)
  ·refine DP.keep (DP.app h.ful.std.ne hd ?_ (DP.spread (m:=0) (YJ _ l) (λc hc=>by rw [(hk.1.ful.std.ok c hc).1,Zf]) hk.2));rw [h.ful.std.lastC]
   have ia:∀x∈asD done l,DQ 0 x:=λx hx=>by
    unfold asD at hx;obtain ⟨c,_,rfl⟩:=Qj.mp hx
    split
    ·exact DQ.int _
    ·exact DQ.zero
   refine ⟨?_,ia⟩
   have:∀{v:List Rat},(∀x∈v,DQ 0 x)->DQ 0 (zM v):=by
    intro v
    induction v with
    |nil=>intro _;rw [zM];exact DQ.zero
    |cons a v ih=>
     intro h;rw [zM];exact (h a (Qe ..)).add (ih λx hx=>h x (Qf _ hx))
   exact this ia
theorem Xa {t:Nat}:∀{r:Rl} {l:List Cl},POk r->(∀c∈l,0<=c.1)->(amV l).sum<=2 ^ t->DP (Wn t r) (zI r l)
 | .shares,l,_,_,_=>λc hc=>by
   simp only [zI,shP] at hc
   split at hc
   ·rw [Qq.mp hc];exact YL _
   ·rcases Qm.mp hc with rfl|hc
    ·exact YL _
    ·rw [Qq.mp hc];exact YL _
 | .evenly,l,_,_,_=>λc hc=>by
   obtain ⟨z,_,rfl⟩:=Qj.mp hc;exact YL _
 | .losses,l,_,_,_=>λc hc=>by
   obtain ⟨z,_,rfl⟩:=Qj.mp hc;exact YL _
 | .halves,l,_,nn,_=>by
   have ge:DP 0 (evP (amV l) (lvV (amV l))):=λc hc=>by
    obtain ⟨z,_,rfl⟩:=Qj.mp hc;exact YL _
   have gl:DP 0 (loP (amV l) (lvV (amV l))):=λc hc=>by
    obtain ⟨z,_,rfl⟩:=Qj.mp hc;exact YL _
   have st:=(Vf (WK (Wl nn))).std;have:=DP.upto (p:=1) (b:=2) (by decide) st (qR l) ge gl;have e2:Rat.divInt 1 2=(1:Rat) / 2:=by decide+kernel
   have eu:Wj (1 / 2) (evP (amV l) (lvV (amV l))) (loP (amV l) (lvV (amV l)))=yp (hvP (amV l) (lvV (amV l))):=by
    unfold Wj;rw [show (1:Rat) - 1 / 2=1 / 2 by decide+kernel];rfl
   rw [e2,eu] at this;exact this.mono (by show UK 2+0<=2;decide)
 | .other r,l,h,nn,hs=>by
   have g:=(yW (r:=r) h nn).ful.std;refine DP.turned ?_ (Xa (r:=r) h nn hs);rw [g.lastC];exact qR l
 | .ranks r,l,h,nn,hs=>by
   refine Aw (r:=r) (zS l) [] _ RkI.nil (by rw [jaI];exact (yE l).1) (λk _=>⟨yW (r:=r) h (xh nn _),Xa (r:=r) h (xh nn _) (jbA (Xo nn _) hs)⟩) λc hc=>?_;rw [Qq.mp hc];refine ⟨DQ.zero.mono (by omega),λx hx=>?_⟩;rw [List.eq_of_mem_replicate hx];exact DQ.zero.mono (by omega)
 | .groups a b,l,h,nn,hs=>by
   have ga:=yW (r:=a) h.1 (jH nn);have gb:=λ(g:Int) (_:g∈zB l)=>yW (r:=b) h.2 (xh nn (zu g));have nest:=VZ (fa:=λl=>zI a l) (fb:=λl=>zI b l) ga.ful λg hg=>(gb g hg).ful;have da:=Xa (t:=t) (r:=a) h.1 (jH nn) (by rw [cP];exact hs);have W:=kR nest (T:=zM (amQ (zG l))) (as:=amQ (zG l)) (by rw [Yf,<-xG];exact ga.ful.std);have lk:=fo (fb:=λl=>zI b l) (l:=l) λg hg=>(gb g hg).ful;refine DP.spread (m:=0) (kK l) (λc hc=>by rw [(W.std.ok c hc).1,lk]) (DP.within (T:=(amV l).sum) nest da (λQ hQ=>?_) (λQ hQ=>?_) ?_ hs)
   ·obtain ⟨g,hg,rfl⟩:=Qj.mp hQ;exact Xa (r:=b) h.2 (xh nn _) (jbA (Xo nn _) hs)
   ·obtain ⟨g,hg,rfl⟩:=Qj.mp hQ;have st:=(gb g hg).ful.std;refine ⟨st.rise,λc hc=>?_⟩;have rg:=st.range hc;have:=Te.mpr (Xo nn (zu g));rw [<-xQ] at this;exact ⟨rg.1,TL rg.2 this⟩
   ·rw [ga.ful.std.lastC];show zM (amQ (zG l))<=_;rw [xQ,cP];exact QQ
 | .upto t' b x y,l,h,nn,hs=>by
   have st:=(yW (r:=x) h.2.1 nn).ful.std;exact DP.upto (by have:=h.1.2.1;have:=h.1.2.2.1;omega) st (qR l) ((Xa h.2.1 nn hs).mono (Nat.le_max_left ..)) ((Xa h.2.2 nn hs).mono (Nat.le_max_right ..))
def WM:Rl->Nat
 | .halves=>2
 | .other r=>WM r
 | .ranks r=>WM r
 | .groups a b=>WM a+WM b+1
 | .upto _ _ x y=>WM x+WM y
 |_=>1
theorem tJ (f:Int->Nat):∀ks:List Int,(((ks.map f).sum:Nat):Int)=(ks.map λk=>(f k:Int)).sum
 |[]=>rfl
 |k::ks=>by rw [Qo,QN,Qo,QN,<-tJ f ks];omega
theorem kM {α:Type}:∀l:List α,(l.map λ_=>(1:Int)).sum=(l.length:Nat)
 |[]=>rfl
 |a::l=>by rw [Qo,QN,kM l,QA];omega
theorem dd (key:Cl->Int) {gs:List Int} (hg:gs.Pairwise (·<·)) (l:List Cl) (h:∀c∈l,key c∈gs):(gs.map λg=>(l.filter λc=>decide (key c=g)).length).sum=l.length:=by
 have:=jK key (λ_=>1) hg l h;rw [kM] at this;have e:=tJ (λg=>(l.filter λc=>decide (key c=g)).length) gs;have e2:(gs.map λg=>(((l.filter λc=>decide (key c=g)).length:Nat):Int))=gs.map λg=>((l.filter λc=>decide (key c=g)).map λ_=>(1:Int)).sum:=QI λg _=>(kM _).symm;rw [e2,this] at e;omega
theorem Fb (f:List Cl->List zg) (l:List Cl) (P:List zg) (k:Int):(Zk f l P k).length<=P.length+((f (l.filter (zK k))).length - 1):=by
 unfold Zk;refine QU (ZD _).length_le ?_;unfold yF yq;simp only [Qz,Qa,jaR];omega
theorem lh  :∀(ks:List Int) (P:List zg),(∀k∈ks,(f (l.filter (zK k))).length<=c*(l.filter (zK k)).length+1)->(ks.foldl (Zk f l) P).length<=P.length+c*(ks.map λk=>(l.filter (zK k)).length).sum
 |[],P,_=>by simp
 |k::ks,P,h=>by
  have h1:=lh (c:=c) ks (Zk f l P k) λk' Lm=>h k' (Qf _ Lm);have h2:=Fb f l P k;have h3:=h k (Qe ..);rw [List.foldl_cons,Qo,QN,Nat.mul_add];omega
theorem BJ:∀{Qs:List (List zg)} {k:Nat} {M:List Rat},(wpF P k Qs M).length<=M.length+(Qs.map List.length).sum
 |[],k,M=>by rw [wpF];simp
 |Q::Qs,k,M=>by
  rw [wpF];have h1:=BJ (P:=P) (Qs:=Qs) (k:=k+1) (M:=yw M (Yn P k Q));have h2:=UH M (Yn P k Q)
  have h3:(Yn P k Q).length<=Q.length:=by
   unfold Yn;have:=jbm (yZ P k) (yb Q);unfold yb at this⊢;rw [Qa] at this;omega
  rw [Qo,QN];omega
theorem sQ  :∀ks:List Int,(∀k∈ks,f k<=c*g k+1)->(ks.map f).sum<=c*(ks.map g).sum+ks.length
 |[],_=>by simp
 |k::ks,h=>by
  have h1:=sQ (c:=c) ks λk' Lm=>h k' (Qf _ Lm);have h2:=h k (Qe ..);rw [Qo,QN,Qo,QN,QA,Nat.mul_add];omega
theorem jg:∀ks:List Int,(∀k∈ks,1<=g k)->ks.length<=(ks.map g).sum
 |[],_=>by simp
 |k::ks,h=>by
  have h1:=jg ks λk' Lm=>h k' (Qf _ Lm);have h2:=h k (Qe ..);rw [Qo,QN,QA];omega
theorem Xn  (hg:g∈zB l):1<=(l.filter (zu g)).length:=by
 obtain ⟨c,hc,rfl⟩:=Qj.mp (((ya l).2 g).mp hg);exact jaY (Tq.mpr ⟨hc,QX rfl⟩)
theorem eM  (hg:g∈zS l):1<=(l.filter (zK g)).length:=by
 obtain ⟨c,hc,rfl⟩:=Qj.mp (((yE l).2 g).mp hg);exact jaY (Tq.mpr ⟨hc,QX rfl⟩)
theorem Yh (l:List Cl):(zB l).length<=l.length:=by
 have h1:=dd (·.2.2) (ya l).1 l λc hc=>((ya l).2 _).mpr (Qj.mpr ⟨c,hc,rfl⟩);have h2:=jg (g:=λg=>(l.filter (zu g)).length) (zB l) λk hk=>Xn hk;rw [<-h1];exact h2
theorem YZ:∀{r:Rl} {l:List Cl},POk r->(∀c∈l,0<=c.1)->(zI r l).length<=WM r*l.length+1
 | .shares,l,_,_=>by
   show (shP (amV l)).length<=1*l.length+1;unfold shP
   split
   ·simp
   ·rename_i c;have:l≠[]:=λz=>c (by rw [z];rfl);have:=jaz.mpr this;simp only [QA,List.length_nil];omega
 | .evenly,l,_,nn=>by
   have f:=(WK (Wl nn)).few;rw [yj] at f;show (evP _ _).length<=1*l.length+1;unfold evP;rw [Qa];omega
 | .losses,l,_,nn=>by
   have f:=(WK (Wl nn)).few;rw [yj] at f;show (loP _ _).length<=1*l.length+1;unfold loP;rw [Qa,Tv];omega
 | .halves,l,_,nn=>by
   have f:=(WK (Wl nn)).few;rw [yj] at f;show (yp _).length<=2*l.length+1;refine QU (ZD _).length_le ?_;unfold hvP hfA hfB yF zW evP loP;simp only [Qz,Qa,jaR,Tv];omega
 | .other r,l,h,nn=>by
   show (yv _).length<=WM r*l.length+1;unfold yv;rw [Qa,Tv];exact YZ (r:=r) h nn
 | .ranks r,l,h,nn=>by
   have h1:=lh (f:=λl=>zI r l) (l:=l) (c:=WM r) (zS l) (jG l.length) λk _=>YZ (r:=r) h (xh nn _);have h2:=dd (·.2.1) (yE l).1 l λc hc=>((yE l).2 _).mpr (Qj.mpr ⟨c,hc,rfl⟩);have e:((zS l).map λk=>(l.filter (zK k)).length).sum=l.length:=h2;rw [e] at h1;show (Vv (λl=>zI r l) l).length<=WM r*l.length+1;have z:(jG l.length).length=1:=rfl;unfold Vv;omega
 | .groups a b,l,h,nn=>by
   have ha:=YZ (r:=a) h.1 (jH nn);rw [xG] at ha;have G:=Yh l;have h2:=dd (·.2.2) (ya l).1 l λc hc=>((ya l).2 _).mpr (Qj.mpr ⟨c,hc,rfl⟩);have e:((zB l).map λk=>(l.filter (zu k)).length).sum=l.length:=h2;have hb:=sQ (f:=λg=>(zI b (l.filter (zu g))).length) (g:=λg=>(l.filter (zu g)).length) (c:=WM b) (zB l) λk _=>YZ (r:=b) h.2 (xh nn _);rw [e] at hb;have w:=BJ (P:=zI a (zG l)) (Qs:=zX (λl=>zI b l) l) (k:=0) (M:=yb (zI a (zG l)))
   have eq:(zX (λl=>zI b l) l).map List.length=(zB l).map λg=>(zI b (l.filter (zu g))).length:=by
    unfold zX;rw [Qr];rfl
   rw [eq] at w;have pl:(yb (zI a (zG l))).length=(zI a (zG l)).length:=by unfold yb;rw [Qa]
   rw [pl] at w;show (xr (λl=>zI a l) (λl=>zI b l) l).length<=(WM a+WM b+1)*l.length+1;unfold xr yq yu wpV;rw [Qa,Qa];show (wpF (zI a (zG l)) 0 (zX (λl=>zI b l) l) (yb (zI a (zG l)))).length<=_;have m1:=Nat.mul_le_mul_left (WM a) G;rw [Nat.add_mul,Nat.add_mul,Nat.one_mul];omega
 | .upto t b x y,l,h,nn=>by
   have h1:=YZ (r:=x) h.2.1 nn;have h2:=YZ (r:=y) h.2.2 nn;show (Wj _ _ _).length<=(WM x+WM y)*l.length+1;unfold Wj;refine QU (ZD _).length_le ?_;unfold yF zW;simp only [Qz,Qa,jaR];rw [Nat.add_mul];omega
structure ClS (t:Nat) (l:List Cl):Prop where
 pos:0<l.length
 few:l.length<=8
 nn:∀c∈l,0<=c.1/\0<=c.2.1/\0<=c.2.2
 sum:(amV l).sum<=2 ^ t
theorem jd:∀{as:List Int},(∀a∈as,0<=a)->∀a∈as,a<=as.sum
 |[],_,a,h=>absurd h Qn
 |b::as,nn,a,h=>by
  have h0:=nn b (Qe ..);have hs:=bY λx hx=>nn x (Qf _ hx);rw [QN]
  rcases Qm.mp h with rfl|h
  ·omega
  ·have:=jd (λx hx=>nn x (Qf _ hx)) a h;omega
section
variable {t:Nat} {l:List Cl} {r:Rl}
theorem wN (h0:0<=x) (h:x<=2 ^ t):Sz (t+1) x:=by
 unfold Sz;have e:(2:Int) ^ t=((2 ^ t:Nat):Int):=by rw [jbX];rfl
 have p:0<2 ^ t:=Nat.pow_pos (by decide);rw [e] at h;rw [Nat.pow_succ];omega
theorem ClS.n1 (h:ClS t l):∀c∈l,0<=c.1:=λc hc=>(h.nn c hc).1
theorem ClS.ok (h:ClS t l) (ht:t<=150):ClOk 160 l:=⟨h.pos,h.few,h.nn,λc hc=>(wN (h.nn c hc).1 (jbA (jd (Wl h.n1) c.1 (Qj.mpr ⟨c,hc,rfl⟩)) h.sum)).mono (by omega)⟩
theorem ClS.filter (h:ClS t l) (p:Cl->Bool) (pos:1<=(l.filter p).length):ClS t (l.filter p):=⟨pos,QU (jaA _ _) h.few,λc hc=>h.nn c (Tq.mp hc).1,jbA (Xo h.n1 p) h.sum⟩
theorem BB:∀{l:List Int},(∀x∈l,0<=x)->0<=pB l
 |[],_=>jbL _
 |[a],h=>h a (Qe ..)
 |a::b::l,h=>by
  have h1:=h a (Qe ..);have h2:=BB (l:=b::l) λx hx=>h x (Qf _ hx);rw [pB]
  ·omega
  ·simp
theorem ClS.sums (h:ClS t l):ClS t (zG l):=by
 refine ⟨?_,by rw [xG];exact QU (Yh l) h.few,λc hc=>?_,by rw [cP];exact h.sum⟩
 ·rw [xG];obtain ⟨c,hc⟩:=List.exists_mem_of_length_pos h.pos;exact jaY (((ya l).2 _).mpr (Qj.mpr ⟨c,hc,rfl⟩))
 ·obtain ⟨g,hg,rfl⟩:=Qj.mp hc;refine ⟨bY (Wl (xh h.n1 _)),BB λx hx=>?_,?_⟩
  ·obtain ⟨c,hc,rfl⟩:=Qj.mp hx;exact (h.nn c (Tq.mp hc).1).2.1
  ·obtain ⟨c,Kx,rfl⟩:=Qj.mp (((ya l).2 g).mp hg);exact (h.nn c Kx).2.2
theorem DQ.sz {d:Nat} {x:Rat} {T:Int} (h:DQ d x) (x0:0<=x) (xT:x<=(T:Rat)) (T0:0<=T) (hT:T<=2 ^ t):SzQ (t+d+2) x:=by
 obtain ⟨D,pD,hD⟩:=h;exact (hD.sz pD.1 (wN (jbn pD.1) pD.2) x0 xT ⟨T,rfl,wN T0 hT⟩).mono (by omega)
theorem all_sz (h:POk r) (ok:ClS t l):∀c∈zI r l,SzC (t+Wn t r+2) c:=λc hc=>by
 have g:=yW h ok.n1;have dn:=Xa h ok.n1 ok.sum c hc;have rg:=g.good.std.range hc;have pr:=g.good.parts rg.1;rw [g.good.std.at_corner hc] at pr;have T0:=bY (Wl ok.n1);rw [xQ] at rg pr;exact ⟨dn.1.sz rg.1 rg.2 T0 ok.sum,λx hx=>(dn.2 x hx).sz (pr x hx).1 (pr x hx).2 T0 ok.sum⟩
structure RuS (t:Nat) (r:Rl):Prop where
 pok:POk r
 ht:t<=150
 den:t+Wn t r+2<=700
 len:WM r<=50
theorem RuS.other (h:RuS t (.other r)):RuS t r:=⟨h.pok,h.ht,h.den,h.len⟩
theorem RuS.ranks (h:RuS t (.ranks r)):RuS t r:=⟨h.pok,h.ht,h.den,h.len⟩
theorem RuS.groups (h:RuS t (.groups a b)):RuS t a/\RuS t b:=by
 have d:=h.den;have f:=h.len;simp only [Wn] at d;simp only [WM] at f;exact ⟨⟨h.pok.1,h.ht,by omega,by omega⟩,⟨h.pok.2,h.ht,by omega,by omega⟩⟩
theorem RuS.upto  (h:RuS t (.upto a b x y)):RuS t x/\RuS t y:=by
 have d:=h.den;have f:=h.len;simp only [Wn] at d;simp only [WM] at f;exact ⟨⟨h.pok.2.1,h.ht,by omega,by omega⟩,⟨h.pok.2.2,h.ht,by omega,by omega⟩⟩
theorem RuS.few (h:RuS t r) (ok:ClS t l):(zI r l).length<=401:=by
 have f:=YZ h.pok ok.n1;have m:=Nat.mul_le_mul h.len ok.few;omega
theorem RuS.gf (h:RuS t r) (ok:ClS t l):GF r l (zI r l):=yW h.pok ok.n1
theorem RuS.R (h:RuS t r) (ok:ClS t l):PathR 700 (zI r l):=by
 have g:=(h.gf ok).ful.std;have f:=h.few ok;have e8:=ok.few;refine ⟨g.ne,λc hc=>(all_sz h.pok ok c hc).mono h.den,λc hc=>by rw [(g.ok c hc).1];omega,by omega,g.rise,λc hc=>?_⟩;rw [g.head] at hc;cases hc;rfl
theorem RuS.inn (h:RuS t r) (ok:ClS t l):PathIn (zI r l):=by
 have R:=h.R (l:=l) ok;have f:=h.few ok;exact ⟨R.ne,λc hc=>(R.sz c hc).mono (by decide),R.len,by omega⟩
end
section
variable {X:Cx}
def rMinL (K:Frg):List V->Hp->VK->Prop:=λxs H Q=>∃(p:Addr) (ns:List Int),xs=[.ref p]/\SqL K H p (ns.map V.int)/\0<ns.length/\∀m,m∈ns->(∀x∈ns,m<=x)->Q (.int m) H
theorem call_minL (hc:X.calm=true):XY X (.builtin "min") (rMinL X.K):=by
 intro pins s σ H xs us Q I r h;obtain ⟨p,ns,rfl,hq,KN,q⟩:=h;obtain ⟨u,rfl,rx⟩:=cy r;cases rx;obtain ⟨its,rv,pl,hz⟩:=I.list hq;have ht:=pl.isList;have hi:=Xm rv;have hl:=hi.length;have below:p≠s.heap.objs.size:=let ⟨_,e,_⟩:=ht;QM (Qu e)
 refine call_min_walk (jam ht ⟨_,_,_,_,_,_,_,rfl,Walks.list (A:=X.A.in1) (I.ok.hd hc) _ p below its.toArray,⟨⟨_,Qw _ rfl,rfl,rfl⟩,ht.push _⟩,λb hb=>?_,by simpa using (by omega:0<its.length),CmpOf.ints_lt (λi=>ns.getD i 0) (Vd hi),λv h' tk hP hk=>?_⟩)
 ·rw [QW]
  rcases Qm.mp hb with z|z
  ·rw [z];exact To _
  ·rw [Qq.mp z];obtain ⟨_,e,_⟩:=ht;exact TC (Qu e)
 ·obtain ⟨t,rfl⟩:=Vd hi _ v hP;obtain ⟨h1,h2⟩:=argBest_lt (λi=>ns.getD i 0) (its.toArray.size - 1);have szn:its.toArray.size=ns.length:=by simpa using hl
  rw [szn] at h1 h2;rw [szn];refine ⟨.int _,H,I.kept (t':=tk) λb o e=>hk b o (λz=>?_) (Qi _ e),⟨t,rfl⟩,q _ ?_ λx hx=>?_⟩
  ·rw [Qq.mp z] at e;exact absurd (Qu e) (jaw _)
  ·dsimp only;rw [Qk,Qb (by omega)];exact Td _
  ·obtain ⟨j,hj,rfl⟩:=QR hx;have:=h2 j (by omega);rwa [show ns.getD j 0=ns[j] by rw [Qk,Qb hj];rfl] at this
end
section
variable {B G0 H:Hp} {cs:yD} {ds:Dat} {Q:VK} {E:XK} {v w u:V} {K:Frg} {L:Addr}
theorem AF {ns:List Int} (S:Sta B G0 H cs ds) (h:(L,ns.map PyData.int)∈cs) (hn:0<ns.length) (k:∀m,m∈ns->(∀x∈ns,m<=x)->Q (.int m) H):rMinL K [.ref L] H Q:=by
 obtain ⟨vs,hp,u⟩:=S.vwC h;obtain ⟨G,S'⟩:=id S;rw [yJ (u G S')] at hp;exact ⟨L,ns,rfl,SqL.of hp,hn,k⟩
theorem HA {ns:List Int} (S:Sta B G0 H cs ds) (h:Has ds (.list (ns.map PyData.int)) v) (hn:0<ns.length) (k:∀m,m∈ns->(∀x∈ns,x<=m)->Q (.int m) H):HK K [v] H Q:=by
 obtain ⟨p,vs,rfl,hp,hl,S',al⟩:=S.lstAll h;obtain ⟨G,S2⟩:=id S';rw [yJ (al G S2.2.2.2.2.2.2)] at hp;exact ⟨p,ns,rfl,SqL.of hp,hn,k⟩
end
theorem fe  :∀{a:List zg},(∀c∈a,c.2.length<=n)->(zh a e).length<=n
 |[],_=>by simp [zh]
 |[c],h=>h c (Qe ..)
 |c::d::r,h=>by
  rw [zh]
  split
  ·unfold Yx;rw [Qy];have:=h c (Qe ..);omega
  ·exact fe λx hx=>h x (Qf _ hx)
theorem Cj:∀{Qs:List (List zg)} {ps:List Rat} (i:Nat),(∀Q∈Qs,∀c∈Q,c.2.length<=n)->((List.zipWith zh Qs ps).take i).flatten.length<=n*Qs.length
 |[],ps,i,_=>by simp
 |Q::Qs,[],i,_=>by simp
 |Q::Qs,p::ps,0,_=>by simp
 |Q::Qs,p::ps,i+1,h=>by
  have ih:=Cj (ps:=ps) i λQ' hQ=>h Q' (Qf _ hQ);have:=fe (e:=p) (h Q (Qe ..));rw [jas,List.take_succ_cons,TY,Qz,QA,Nat.mul_succ];omega
theorem getD_some {l:List Rat} {k:Nat} (h:k<l.length):l[k]? =some (l.getD k 0):=by rw [Qk,Qb h];rfl
theorem DD   (h:e∈wpF P 0 (Qs.take i) M):e∈wpF P 0 Qs M:=by
 rcases aM.mp h with h|⟨j,Q,h1,h2⟩
 ·exact aM.mpr (.inl h)
 ·refine aM.mpr (.inr ⟨j,Q,?_,h2⟩);rw [List.getElem?_take] at h1
  split at h1
  ·exact h1
  ·cases h1
theorem Ct (q:Rat):q*((q.den:Int):Rat)=(q.num:Rat):=by
 have h:q=(q.num:Rat)*(((q.den:Int)):Rat)⁻¹:=by rw [<-div_c,jaN]
 have hd:((q.den:Int):Rat)≠0:=λz=>by
  have:=Rat.intCast_eq_zero_iff.mp z;have:=q.den_pos;omega
 have hi:=Rat.inv_mul_cancel _ hd;generalize ((q.den:Int):Rat)=D at*;generalize (q.num:Rat)=N at*;rw [h,Rat.mul_assoc,hi,Rat.mul_one]
theorem DI (x:Rat):zM [x]=x:=by rw [zM,zM];grind
theorem wQ {l:List Rat} {i:Nat} {q:Rat} (h:l[i]? =some q):zM (l.take (i+1))=zM (l.take i)+q:=by
 rw [TH,h,VI];show _+zM [q]=_;rw [DI]
theorem FT {α:Type} {G:List α} {x y:α}:atI (G++[x,y]) (-2)=some x:=by
 unfold atI ixN;rw [QO (by decide),QH (by simp;omega)];show (G++[x,y])[_]? =_;rw [show ((-2:Int)+((G++[x,y]).length:Nat)).toNat=G.length by simp;omega]
 simp
theorem cut3  (hx:xs[j]? =some x) (hy:xs[j+1]? =some y) (hz:xs[j+2]? =some z):lJ xs (some (j:Nat)) (some ((j+3:Nat):Int))=[x,y,z]:=by
 obtain ⟨lx,ex⟩:=Qd.mp hx;obtain ⟨ly,ey⟩:=Qd.mp hy;obtain ⟨lz,ez⟩:=Qd.mp hz;unfold lJ;rw [HT.sIx_nat,HT.sIx_nat,Nat.min_eq_left (by omega),Nat.min_eq_left (by omega),Nat.add_sub_cancel_left,jag lx,jag ly,jag lz,ex,ey,ez];rfl
section
variable {B G0 H:Hp} {cs:yD} {ds:Dat} {Q:VK} {E:XK} {v w u:V} {K:Frg} {xs ys:List PyData} {vs:List V} {R:It->Hp->Prop}
theorem so (S:Sta B G0 H cs ds) (h:Has ds (.tuple xs) v) (h2:Has ds (.list ys) w) (k:∀J,Wk B G0 J (Gf xs ys) (λcs ds=>Has ds (.tuple xs) v/\(∀x u,Has ds (.list ys) w->Has ((x,u)::ds) (.list ys) w)/\Has ds (.list ys) w)->R J H):kZi false true K R [v,w] H:=by
 obtain ⟨p,vs,rfl,hp,_⟩:=S.tup h;obtain ⟨q,ws,rfl,hq,_⟩:=S.lst h2;exact ⟨p,q,rfl,⟨_,SqT.of hp⟩,⟨_,SqL.of hq⟩,k _ (wC dF WX)⟩
def cU:Sp:=spT (α:=List zg×Rat) (λa=>[zU a.1,frD a.2]) (λa=>∃m n,PathR0 n a.1/\SzQ m a.2/\m+4*n+1<=8999) (λa=>zR (Wd a.1 a.2))
theorem ny  (S:Sta B G0 H cs ds) (h1:Has ds (zU a) v) (h2:Has ds (frD e) w) (ok:PathR0 n a) (z:SzQ m e) (hz:m+4*n+1<=8999)
 (k:∀r H',zV H H'->Sta B G0 H' cs ((zR (Wd a e),r)::ds)->Q r H'):cU [v,w] H Q E:=
 Zl (a,e) S (.cons h1 (.cons h2 .nil)) ⟨m,n,ok,z,hz⟩ k
structure ReachOk (m k n b:Nat) (P:List zg) (L:List Rat):Prop where
 pm:PathM m P
 pr:PathR0 n P
 kn:k<m
 lev:∀l∈L,SzQ b l/\∀c,P[0]? =some c->c.2.getD k 0<=l
 sz:b+6*n+4<=8999
 few:L.length<=450
def pP:Sp:=spL (α:=List zg×Nat×List Rat) (λa=>[zU a.1, .int (a.2.1:Nat), .list (a.2.2.map frD)]) (λa=>∃m n b,ReachOk m a.2.1 n b a.1 a.2.2) (λa=>(a.2.2.filterMap (yZ a.1 a.2.1)).map frD)
theorem DX  (S:Sta B G0 H cs ds) (h1:Has ds (zU P) v) (h3:Has ds (.list (L.map frD)) u) (ok:ReachOk m k n b P L)
 (q:∀p H',zV H H'->Sta B G0 H' ((p,(L.filterMap (yZ P k)).map frD)::cs) ds->Q (.ref p) H'):pP [v, .int (k:Nat),u] H Q E:=
 Zm (P,k,L) S (.cons h1 (.cons .int (.cons h3 .nil))) ⟨m,n,b,ok⟩ q
def wY:Sp:=spB (α:=zg) (λc=>[zA c]) (λc=>(∃n,SzC n c/\n<=9000)/\c.2.length<=1000/\zM c.2=c.1) (λ_=> .bl true)
theorem Hv  (S:Sta B G0 H cs ds) (h:Has ds (zA c) v) (z:SzC n c) (hn:n<=9000) (hl:c.2.length<=1000) (hs:zM c.2=c.1) (k:∀H',Sta B G0 H' cs ds->Q (.bl true) H'):wY [v] H Q E:=
 WA c (S.hpAll (.cons h .nil)) ⟨⟨n,z,hn⟩,hl,hs⟩ λH' e=>k H' (S.same e)
def jW:Sp:=spB (α:=Nat×List zg) (λa=>[zU a.2, .int (a.1:Nat)]) (λa=>∃n,IsP n a.1 a.2/\5*n+1<=8999/\a.1<=1000) (λ_=> .bl true)
theorem BV (h1:Is H x v) (h2:Is H y w):zL H [x,y] [v,w]:=by
 simp only [zL];exact ⟨_,_,rfl,h1,_,_,rfl,h2,rfl⟩
theorem AK  (S:Sta B G0 H cs ds) (h:Is H (zU F) v) (ok:IsP n N F) (hn:5*n+1<=8999) (hN:N<=1000) (k:∀H',zV H H'->Sta B G0 H' cs ds->Q (.bl true) H'):jW [v, .int (N:Nat)] H Q E:=
 WA (N,F) (BV h (by rw [Is])) ⟨n,ok,hn,hN⟩ λH' e=>k H' e (S.same e)
end
section
variable {P:List zg} {Qs:List (List zg)}
theorem PathR.r0  (h:PathR n a):PathR0 n a:=⟨h.ne,h.sz,h.len,h.few,h.rise⟩
end
theorem cZ:∀(xs ys:List Rat),xs.length<=(yw xs ys).length
 |[],ys=>jal _
 |x::xs,[]=>by rw [yw];exact Qv _
 |x::xs,y::ys=>by
  have h1:=cZ xs (y::ys);have h2:=cZ xs ys;have h3:=cZ (x::xs) ys;rw [yw]
  split
  ·simp only [QA] at*;omega
  ·split
   ·simp only [QA] at*;omega
   ·simp only [QA] at*;omega
termination_by xs ys=>xs.length+ys.length
structure PWO (P:List zg) (Qs:List (List zg)) (e:Rat):Prop where
 p:PathR 700 P
 q:∀Q∈Qs,PathR 700 Q/\∀c∈Q,c.2.length<=8
 len:(zh P e).length=Qs.length
 few:Qs.length<=8
 ez:SzQ 700 e
 e0:0<=e
 part:∀p∈zh P e,SzQ 700 p/\0<=p
structure WithO (P:List zg) (Qs:List (List zg)):Prop where
 nest:Nest P Qs
 pr:PathR 700 P
 qr:∀Q∈Qs,PathR 700 Q/\∀c∈Q,c.2.length<=8
 szM:∀e∈wpV P Qs,SzQ 700 e/\∀p∈zh P e,SzQ 700 p
 ql:∀Q∈Qs,Q.length<=401
 pl:P.length<=401
 few:Qs.length<=8
 lenV:(wpV P Qs).length<=401
section
variable {B G0 H:Hp} {cs:yD} {ds:Dat} {Q:VK} {E:XK} {v w u:V} {K:Frg} {xs ys:List PyData} {vs:List V} {P:List zg} {Qs:List (List zg)}
def ak:Sp:=spT (α:=List zg×List (List zg)×Rat) (λa=>[zU a.1, .list (a.2.1.map zU),frD a.2.2]) (λa=>PWO a.1 a.2.1 a.2.2) (λa=>zR (yQ a.2.1 (zh a.1 a.2.2)))
theorem qi (S:Sta B G0 H cs ds) (h1:Has ds (zU P) v) (h2:Has ds (.list (Qs.map zU)) w) (h3:Has ds (frD e) u) (ok:PWO P Qs e)
 (k:∀r H',zV H H'->Sta B G0 H' cs ((zR (yQ Qs (zh P e)),r)::ds)->Q r H'):ak [v,w,u] H Q E:=
 Zl (P,Qs,e) S (.cons h1 (.cons h2 (.cons h3 .nil))) ok k
def Um:Sp:=spL (α:=List zg×List (List zg)) (λa=>[zU a.1, .list (a.2.map zU)]) (λa=>WithO a.1 a.2) (λa=>(yu a.1 a.2).map zA)
theorem uC (S:Sta B G0 H cs ds) (h1:Has ds (zU P) v) (h2:Has ds (.list (Qs.map zU)) w) (ok:WithO P Qs)
 (k:∀p H',zV H H'->Sta B G0 H' ((p,(yu P Qs).map zA)::cs) ds->Q (.ref p) H'):Um [v,w] H Q E:=
 Zm (P,Qs) S (.cons h1 (.cons h2 .nil)) ok k
theorem EZ  (i:Nat):(wpF P 0 (Qs.take i) M).length<=(wpF P 0 Qs M).length:=by
 have mono:∀(Qs:List (List zg)) (k:Nat) (M:List Rat),M.length<=(wpF P k Qs M).length:=by
  intro Qs
  induction Qs with
  |nil=>intro k M;rw [wpF];exact Qv _
  |cons Q Qs ih=>
   intro k M;rw [wpF];refine QU ?_ (ih (k+1) _);exact cZ M _
 have:∀(Qs:List (List zg)) (i k:Nat) (M:List Rat),(wpF P k (Qs.take i) M).length<=(wpF P k Qs M).length:=by
  intro Qs
  induction Qs with
  |nil=>intro i k M;rw [List.take_nil];exact Qv _
  |cons Q Qs ih=>
   intro i k M
   cases i with
   |zero=>rw [List.take_zero,wpF];exact mono _ k M
   |succ i=>rw [List.take_succ_cons,wpF,wpF];exact ih i (k+1) _
 exact this Qs i 0 M
theorem WithO.len (h:WithO P Qs) (i:Nat):(wpF P 0 (Qs.take i) (yb P)).length<=401:=QU (EZ i) h.lenV
theorem WithO.pw (h:WithO P Qs) (he:e∈wpV P Qs):PWO P Qs e:=by
 have r:=h.nest.in_range he;refine ⟨h.pr,h.qr,h.nest.plen e,h.few,(h.szM e he).1,r.1,λp hp=>⟨(h.szM e he).2 p hp,?_⟩⟩;obtain ⟨k,hk⟩:=Qx.mp hp;have Nu:k<Qs.length:=by rw [<-h.nest.plen e];exact (Qd.mp hk).1
 exact (h.nest.range r.1 r.2 (Qb Nu) hk).1
theorem WithO.reach (h:WithO P Qs) {k:Nat} {Q:List zg} (hk:Qs[k]? =some Q):ReachOk Qs.length k 700 700 P (yb Q):=by
 have hQ:=Qc hk;have Nu:k<Qs.length:=(Qd.mp hk).1;refine ⟨h.nest.pm,h.pr.r0,Nu,λl hl=>?_,by decide,by unfold yb;rw [Qa];have:=h.ql Q hQ;omega⟩;obtain ⟨c,hc,rfl⟩:=Qj.mp hl;refine ⟨((h.qr Q hQ).1.sz c hc).1,λd hd=>?_⟩;obtain ⟨r,e⟩:=h.nest.p0;rw [e] at hd;cases hd;rw [Qk,QZ,QH Nu];exact (h.nest.qpos hk c hc).1
theorem uI  (S:Sta B G0 H ((L,xs)::cs) ds) (hy:Has ds (.list ys) w) (hz:xs.length+ys.length<=1000) (k:∀H',Sta B G0 H' ((L,xs++ys)::cs) ds->Q .non H'):AR (.ref L) [w] H Q:=by
 obtain ⟨p,us,e,hp,hl,S2,al⟩:=S.lstAll hy;obtain ⟨vs,hL,Le,put⟩:=S2.put;subst e;refine ⟨L,p,vs,us,rfl,rfl,hL,hp,?_,k _ ((put (xs++ys) (vs++us) λG a b=>b.app (al G a)).weak (jbl _) λq hq=> .mem (QE _ hq))⟩;rw [<-hl,<-Le];exact QU hz (jcc rfl)
theorem Hx  (S:Sta B G0 H cs ds) (h:(L,[d])∈cs) (hn:n<=1000) (k:∀l H',zV H H'->Sta B G0 H' ((l,List.replicate n d)::cs) ds->Q (.ref l) H'):rRep (.ref L) (.int (n:Int)) H Q:=by
 obtain ⟨vs,hp,hl,S2,_⟩:=S.cellAll h
 obtain ⟨z,rfl⟩:=List.length_eq_one_iff.mp hl.symm
 ·refine ⟨L,(n:Int),_,rfl,rfl,hp,by omega,by omega,?_,λp Ll=>?_⟩
  ·show 1*n<=sizeLine;have:1000<=sizeLine:=by decide
   omega
  ·rw [Tg];show Q (.ref p) (upd H p (.lst (List.replicate n [z]).flatten));rw [qg];have S3:Sta B G0 H cs ((d,z)::ds):=S2;refine k p _ (zV.new Ll _) ((S3.newL (xs:=List.replicate n d) (vs:=List.replicate n z) Ll λG a=>?_).dat λq hq=> .mem (Qf _ hq));have i1:Is G d z:=a (d,z) (Qe ..);clear hn k
   induction n with
   |zero=>rw [List.replicate_zero,List.replicate_zero,zL]
   |succ n ih=>rw [Tu,Tu,zL];exact ⟨_,_,rfl,i1,ih⟩
theorem dP (p:Rat) (i:Nat):∀(z:List (Rat×Nat)) (w:List Rat),xM (z++[(p,i)]) w=(xM z w).set i p
 |[],w=>rfl
 |(q,j)::z,w=>by rw [TF,xM,xM,dP p i z]
theorem IA (h:j<n):ixN n (j:Int)=some j:=by
 unfold ixN;rw [QH (by omega),QH (by omega),Tg]
theorem Cg {α β:Type} (p:α->Bool) (f:α->β):∀xs:List α,xs.filterMap (λj=>if p j=true then some (f j) else none)=(xs.filter p).map f
 |[]=>rfl
 |x::xs=>by
  rw [jaW,jbK,Cg p f xs]
  split
  ·rename_i h
   split at h
   ·cases h
   ·rw [QO (by assumption)]
  ·rename_i h
   split at h
   ·cases h;rw [QH (by assumption),Qo]
   ·cases h
theorem eU (p:Cl->Bool) (l:List Cl):(List.range l.length).filterMap (λj=>if p (l.getD j (0,0,0)) then some (PyData.int (j:Int)) else none)=(zO p l).map λ(i:Nat)=>PyData.int (i:Int):=by
 unfold zO;exact Cg (λj=>p (l.getD j (0,0,0))) (λ(j:Nat)=>PyData.int (j:Int)) _
theorem iY (p:Cl->Bool) (l:List Cl):(List.range l.length).filterMap (λj=>if p (l.getD j (0,0,0)) then some (PyData.int (0+(j:Int))) else none)=(zO p l).map λ(i:Nat)=>PyData.int (i:Int):=by
 rw [<-eU];simp only [Int.zero_add]
theorem qw:∀{l:List Int} {x:Int},x∈l->pB l<=x/\pB l∈l
 |[],x,h=>absurd h Qn
 |[a],x,h=>by rw [Qq.mp h,pB];exact ⟨jbL _,jaT _⟩
 |a::b::l,x,h=>by
  have e:pB (a::b::l)=min a (pB (b::l)):=by rw [pB];simp
  have ih:=qw (l:=b::l) (Qe ..);rw [e];refine ⟨?_,?_⟩
  ·rcases Qm.mp h with rfl|h
   ·omega
   ·have:=(qw (l:=b::l) h).1;omega
  ·rcases Int.le_total a (pB (b::l)) with z|z
   ·rw [Int.min_eq_left z];exact Qe ..
   ·rw [Int.min_eq_right z];exact Qf _ ih.2
theorem BC  (h:m∈l) (low:∀x∈l,m<=x):m=pB l:=by
 have:=qw h;have:=low _ this.2;omega
def plD (pl:List Nat):PyData:= .list (pl.map λ(i:Nat)=>PyData.int (i:Int))
def dG:Sp:=spL (α:=List Cl×List Nat) (λa=>[zm a.1,plD a.2]) (λa=>(∀i∈a.2,i<a.1.length)/\a.2.length<=8) (λa=>(yn (0,0,0) a.2 a.1).map zC)
theorem kH  (S:Sta B G0 H cs ds) (h1:Has ds (zm l) v) (h2:Has ds (plD pl) w) (lt:∀i∈pl,i<l.length) (few:pl.length<=8) (k:∀p H',zV H H'->Sta B G0 H' ((p,(yn (0,0,0) pl l).map zC)::cs) ds->Q (.ref p) H'):dG [v,w] H Q E:=
 Zm (l,pl) S (.cons h1 (.cons h2 .nil)) ⟨lt,few⟩ k
def XE (p:Int->Cl->Bool):Sp:=spL (α:=List Cl×Int) (λa=>[zm a.1, .int a.2]) (λa=>a.1.length<=8) (λa=>(zO (p a.2) a.1).map λ(i:Nat)=>PyData.int (i:Int))
theorem nv  (S:Sta B G0 H cs ds) (h1:Has ds (zm l) v) (few:l.length<=8) (k:∀q H',zV H H'->Sta B G0 H' ((q,(zO (p g) l).map λ(i:Nat)=>PyData.int (i:Int))::cs) ds->Q (.ref q) H'):XE p [v, .int g] H Q E:=
 Zm (l,g) S (.cons h1 (.cons Has.int .nil)) few k
def DK:Sp:=spT (α:=List Cl×Int) (λa=>[zm a.1, .int a.2]) (λa=>0<a.1.length/\a.1.length<=8) (λa=>zC (wt a.2 a.1))
theorem rd_one  (S:Sta B G0 H cs ds) (h1:Has ds (zm l) v) (pos:0<l.length) (few:l.length<=8) (k:∀q H',zV H H'->Sta B G0 H' cs ((zC (wt g l),q)::ds)->Q q H'):DK [v, .int g] H Q E:=
 Zl (l,g) S (.cons h1 (.cons Has.int .nil)) ⟨pos,few⟩ k
structure SpO (pl:List Nat) (n:Nat) (v:List Rat):Prop where
 pls:Pls n pl
 len:v.length=pl.length
 few:n<=8
def dI:Sp:=spT (α:=List Rat×List Nat×Nat) (λa=>[zR a.1,plD a.2.1, .int (a.2.2:Int)]) (λa=>SpO a.2.1 a.2.2 a.1) (λa=>zR (yc a.2.1 a.2.2 a.1))
theorem uF  (S:Sta B G0 H cs ds) (h1:Has ds (zR x) v) (h2:Has ds (plD pl) w) (ok:SpO pl n x) (k:∀q H',zV H H'->Sta B G0 H' cs ((zR (yc pl n x),q)::ds)->Q q H'):dI [v,w, .int (n:Int)] H Q E:=
 Zl (x,pl,n) S (.cons h1 (.cons h2 (.cons Has.int .nil))) ok k
def Uo:Sp:=spL (α:=List zg×List Nat×Nat) (λa=>[zU a.1,plD a.2.1, .int (a.2.2:Int)]) (λa=>(∀c∈a.1,SpO a.2.1 a.2.2 c.2)/\a.1.length<=450) (λa=>(yq a.2.1 a.2.2 a.1).map zA)
theorem nk  (S:Sta B G0 H cs ds) (h1:Has ds (zU x) v) (h2:Has ds (plD pl) w) (ok:∀c∈x,SpO pl n c.2) (few:x.length<=450) (k:∀q H',zV H H'->Sta B G0 H' ((q,(yq pl n x).map zA)::cs) ds->Q (.ref q) H'):Uo [v,w, .int (n:Int)] H Q E:=
 Zm (x,pl,n) S (.cons h1 (.cons h2 (.cons Has.int .nil))) ⟨ok,few⟩ k
noncomputable def Xg (t n:Nat):Sp:=spL (α:=Rl×List Cl) (λa=>[a.1.shape,zm a.2]) (λa=>(RuS t a.1/\a.1.deep<=n)/\ClS t a.2) (λa=>(zI a.1 a.2).map zA)
theorem Zy  (S:Sta B G0 H cs ds) (h1:Has ds r.shape v) (h:Has ds (zm l) w) (ru:RuS t r) (hn:r.deep<=n) (ok:ClS t l) (k:∀p H',zV H H'->Sta B G0 H' ((p,(zI r l).map zA)::cs) ds->Q (.ref p) H'):Xg t n [v,w] H Q E:=Zm (r,l) S (.cons h1 (.cons h .nil)) ⟨⟨ru,hn⟩,ok⟩ k
noncomputable def jS (t n:Nat):Sp:=spL (α:=Rl×List Cl) (λa=>[a.1.shape,zm a.2]) (λa=>(RuS t a.1/\a.1.deep<=n)/\ClS t a.2) (λa=>(Vv (λl=>zI a.1 l) a.2).map zA)
theorem AD  (S:Sta B G0 H cs ds) (h1:Has ds r.shape v) (h:Has ds (zm l) w) (ru:RuS t r) (hn:r.deep<=n) (ok:ClS t l) (k:∀p H',zV H H'->Sta B G0 H' ((p,(Vv (λl=>zI r l) l).map zA)::cs) ds->Q (.ref p) H'):jS t n [v,w] H Q E:=Zm (r,l) S (.cons h1 (.cons h .nil)) ⟨⟨ru,hn⟩,ok⟩ k
noncomputable def dM (t n:Nat):Sp:=spL (α:=(Rl×Rl)×List Cl) (λa=>[a.1.1.shape,a.1.2.shape,zm a.2]) (λa=>(RuS t (.groups a.1.1 a.1.2)/\a.1.1.deep<=n/\a.1.2.deep<=n)/\ClS t a.2) (λa=>(xr (λl=>zI a.1.1 l) (λl=>zI a.1.2 l) a.2).map zA)
theorem uG  (S:Sta B G0 H cs ds) (h1:Has ds a.shape v) (h2:Has ds b.shape u) (h:Has ds (zm l) w) (ru:RuS t (.groups a b)) (ha:a.deep<=n) (hb:b.deep<=n) (ok:ClS t l) (k:∀p H',zV H H'->Sta B G0 H' ((p,(xr (λl=>zI a l) (λl=>zI b l) l).map zA)::cs) ds->Q (.ref p) H'):dM t n [v,u,w] H Q E:=Zm ((a,b),l) S (.cons h1 (.cons h2 (.cons h .nil))) ⟨⟨ru,ha,hb⟩,ok⟩ k
noncomputable def jT (A:RAd) (t n:Nat):Sp:=spL (α:=Rl×List Cl) (λa=>[a.1.ins A,zm a.2]) (λa=>(RuS t a.1/\a.1.deep<=n)/\ClS t a.2) (λa=>(zI a.1 a.2).map zA)
theorem Uz   (S:Sta B G0 H cs ds) (h1:Has ds (r.ins A) v) (h:Has ds (zm l) w) (ru:RuS t r) (hn:r.deep<=n) (ok:ClS t l) (k:∀p H',zV H H'->Sta B G0 H' ((p,(zI r l).map zA)::cs) ds->Q (.ref p) H'):jT A t n [v,w] H Q E:=Zm (r,l) S (.cons h1 (.cons h .nil)) ⟨⟨ru,hn⟩,ok⟩ k
noncomputable def jU (A:RAd) (t n:Nat):Sp:=spT (α:=Rl×List Cl×Rat) (λa=>[a.1.ins A,zm a.2.1,frD a.2.2]) (λa=>((RuS t a.1/\a.1.deep<=n)/\ClS t a.2.1)/\SzQ 300 a.2.2/\0<=a.2.2) (λa=>zR (zh (zI a.1 a.2.1) a.2.2))
theorem AE   (S:Sta B G0 H cs ds) (h1:Has ds (r.ins A) v) (h:Has ds (zm l) w) (h3:Has ds (frD e) u) (ru:RuS t r) (hn:r.deep<=n) (ok:ClS t l) (ze:SzQ 300 e) (e0:0<=e) (k:∀p H',zV H H'->Sta B G0 H' cs ((zR (zh (zI r l) e),p)::ds)->Q p H'):jU A t n [v,w,u] H Q E:=Zl (r,l,e) S (.cons h1 (.cons h (.cons h3 .nil))) ⟨⟨⟨ru,hn⟩,ok⟩,ze,e0⟩ k
end
theorem Sta.rot3   (S:Sta B G0 H (c1::c2::c3::cs) ds):Sta B G0 H (c3::c1::c2::cs) ds:=S.permC ((List.Perm.cons _ (List.Perm.swap _ _ _)).trans (List.Perm.swap _ _ _))
theorem oi:∀{Ls:List (List Nat)},(∀L∈Ls,L.length<=8)->Ls.flatten.length<=8*Ls.length
 |[],_=>by simp
 |L::Ls,h=>by
  have h1:=h L (Qe ..);have h2:=oi λL' hL=>h L' (Qf _ hL);rw [TY,Qz,QA];omega
theorem ful_sz {m d t:Nat} {T:Rat} {as:List Rat} {P:List zg} {Z:Int} (h:Ful m T as P) (hd:DP d P) (hT:T<=(Z:Rat)) (Z0:0<=Z) (hZ:Z<=2 ^ t):∀c∈P,SzC (t+d+2) c:=λc hc=>by
 have rg:=h.std.range hc;have cT:c.1<=(Z:Rat):=TL rg.2 hT
 have nn:∀q∈c.2,0<=q:=λq hq=>by
  obtain ⟨i,hi⟩:=Qx.mp hq;exact h.std.nn h.mono c hc i q hi
 have le:=(Yr nn).2;rw [(h.std.ok c hc).2] at le;exact ⟨(hd c hc).1.sz rg.1 cT Z0 hZ,λx hx=>((hd c hc).2 x hx).sz (nn x hx) (TL (le x hx) cT) Z0 hZ⟩
theorem GS:∀{l:List Cl},(∀c∈l,0<=c.1)->zM (asD done l)<=zM (amQ l)
 |[],_=>QQ
 |c::l,nn=>by
  have ih:=GS (done:=done) λx hx=>nn x (Qf _ hx);have h0:=bt (nn c (Qe ..));have e1:asD done (c::l)=(if c.2.1∈done then (c.1:Rat) else 0)::asD done l:=rfl;have e2:amQ (c::l)=(c.1:Rat)::amQ l:=rfl;rw [e1,e2,zM,zM]
  split<;>grind
noncomputable def rkP (r:Rl) (l:List Cl) (i:Nat):List zg:=((zS l).take i).foldl (Zk (λl=>zI r l) l) (jG l.length)
section
variable {t:Nat} {r a b:Rl} {l:List Cl} {i:Nat} {k:Int}
theorem DV (hk:(zS l)[i]? =some k):rkP r l (i+1)=Zk (λl=>zI r l) l (rkP r l i) k:=by
 unfold rkP;rw [TH,hk,List.foldl_append];rfl
theorem Ht (r:Rl) (l:List Cl):rkP r l (zS l).length=Vv (λl=>zI r l) l:=by
 unfold rkP Vv;rw [List.take_length]
theorem rkP_ok (ru:RuS t r) (ok:ClS t l) (i:Nat):RkI r l ((zS l).take i) (rkP r l i)/\(∀c∈rkP r l i,SzC 700 c)/\(rkP r l i).length<=401:=by
 have pw:([]++(zS l).take i).Pairwise (·<·):=jbf (List.take_sublist _ _) (yE l).1;have gf:∀k∈(zS l).take i,GF r (l.filter (zK k)) (zI r (l.filter (zK k)))/\DP (Wn t r) (zI r (l.filter (zK k))):=λk _=>⟨yW ru.pok (xh ok.n1 _),Xa ru.pok (xh ok.n1 _) (jbA (Xo ok.n1 _) ok.sum)⟩;have R:=qf (f:=λl=>zI r l) ((zS l).take i) [] _ (RkI.nil (r:=r) (l:=l)) pw λk hk=>(gf k hk).1
 have D:=Aw (d:=Wn t r) (f:=λl=>zI r l) ((zS l).take i) [] _ (RkI.nil (r:=r) (l:=l)) pw gf λc hc=>by
  rw [Qq.mp hc];refine ⟨DQ.zero.mono (by omega),λx hx=>?_⟩;rw [List.eq_of_mem_replicate hx];exact DQ.zero.mono (by omega)
 rw [jaI] at R;refine ⟨R,λc hc=>?_,?_⟩
 ·have T0:=bY (Wl ok.n1);have le:=GS (done:=(zS l).take i) ok.n1;rw [xQ] at le;exact (ful_sz R.ful D le T0 ok.sum c hc).mono ru.den
 ·have f:=lh (f:=λl=>zI r l) (l:=l) (c:=WM r) ((zS l).take i) (jG l.length) λk _=>YZ ru.pok (xh ok.n1 _);have h2:=dd (·.2.1) (yE l).1 l λc hc=>((yE l).2 _).mpr (Qj.mpr ⟨c,hc,rfl⟩);have e:((zS l).map λk=>(l.filter (zK k)).length).sum=l.length:=h2
  have sub:(((zS l).take i).map λk=>(l.filter (zK k)).length).sum<=((zS l).map λk=>(l.filter (zK k)).length).sum:=by
   conv=>rhs;rw [<-List.take_append_drop i (zS l)]
   rw [QP,List.sum_append];omega
  rw [e] at sub;have m1:=Nat.mul_le_mul_left (WM r) sub;have m2:=Nat.mul_le_mul ru.len ok.few;have z:(jG l.length).length=1:=rfl;unfold rkP;omega
theorem AW   (st:Std m T as P) (hm:m<=8) (sz:∀c∈P,SzC 700 c) (few:P.length<=401):PathIn P:=
 ⟨st.ne,λc hc=>(sz c hc).mono (by decide),λc hc=>by rw [(st.ok c hc).1];omega,by omega⟩
theorem wW  (hp:Pls n pl) (hl:∀c∈P,c.2.length=pl.length) (h:∀c∈P,SzC 700 c):∀c∈yq pl n P,SzC 700 c:=λc hc=>by
 obtain ⟨c,Kx,rfl⟩:=Qj.mp hc;refine ⟨(h c Kx).1,λx hx=>?_⟩;obtain ⟨i,hi⟩:=Qx.mp hx
 rcases xZ hp (hl c Kx) hi with ⟨j,_,hj⟩|⟨_,rfl⟩
 ·exact (h c Kx).2 x (Qc hj)
 ·unfold SzQ Sz;decide
theorem Ax (ru:RuS t r) (ok:ClS t l) (hk:(zS l)[i]? =some k):
 PathIn (rkP r l i)/\PathIn (yq (zO (zK k) l) l.length (zI r (l.filter (zK k))))/\PathOk l.length (rkP r l i++yF (rkP r l i) (yq (zO (zK k) l) l.length (zI r (l.filter (zK k))))):=by
 obtain ⟨R,sz,few⟩:=rkP_ok ru ok i;have okk:=ok.filter (zK k) (eM (Qc hk));have g:=(ru.gf okk).ful;have Rk:=ru.R okk;have lk:=Zf (zK k) l;have pk:=YJ (zK k) l;have gs:=g.spread pk lk;have szS:=wW pk (λc hc=>by rw [(g.std.ok c hc).1,lk]) Rk.sz;have lenS:(yq (zO (zK k) l) l.length (zI r (l.filter (zK k)))).length<=401:=by unfold yq;rw [Qa];exact ru.few okk
 have st:=gu R.ful.std gs.std;refine ⟨AW R.ful.std ok.few sz few,AW gs.std ok.few szS lenS,λc hc=>?_,λc hc=>(st.ok c hc).1,by have:=ok.few;omega,?_⟩
 ·rcases QS.mp hc with z|z
  ·exact (sz c z).mono (by decide)
  ·obtain ⟨d,hd,rfl⟩:=Qj.mp z;have z1:=sz _ (nX R.ful.std.ne);have z2:=szS d (TR hd);refine ⟨(z1.1.add z2.1).mono (by decide),λq hq=>?_⟩;obtain ⟨u,hu,v,hv,rfl⟩:=dA hq;exact ((z1.2 u hu).add (z2.2 v hv)).mono (by decide)
 ·unfold yF;simp only [Qz,Qa,jaR];omega
theorem Cb (ru:RuS t (.groups a b)) (ok:ClS t l):WithO (zI a (zG l)) (zX (λl=>zI b l) l):=by
 obtain ⟨ra,rb⟩:=ru.groups;have oks:=ok.sums;have okg:∀g∈zB l,ClS t (l.filter (zu g)):=λg hg=>ok.filter (zu g) (Xn hg);have ga:=ra.gf oks;have gb:=λg hg=>rb.gf (okg g hg);have nest:=VZ (fa:=λl=>zI a l) (fb:=λl=>zI b l) ga.ful λg hg=>(gb g hg).ful;have T0:=bY (Wl ok.n1)
 have hl:(lastC (zI a (zG l))).1<=(((amV l).sum:Int):Rat):=by
  rw [ga.ful.std.lastC];show zM (amQ (zG l))<=_;rw [xQ,cP];exact QQ
 have dn:=ru.den;simp only [Wn] at dn;have G8:=Yh l;have e8:=ok.few;refine ⟨nest,ra.R oks,λQ hQ=>?_,λe he=>?_,λQ hQ=>?_,ra.few oks,by rw [Yf];omega,?_⟩
 ·obtain ⟨g,hg,rfl⟩:=Qj.mp hQ;refine ⟨rb.R (okg g hg),λc hc=>?_⟩;rw [((gb g hg).ful.std.ok c hc).1];exact (okg g hg).few
 ·have D:=nest.den (Xa (t:=t) ra.pok oks.n1 oks.sum) (b:=Wn t b) (λQ hQ=>by
   obtain ⟨g,hg,rfl⟩:=Qj.mp hQ
   exact Xa rb.pok (okg g hg).n1 (okg g hg).sum) hl ok.sum he
  have rg:=nest.in_range he;refine ⟨(D.1.sz rg.1 (TL rg.2 hl) T0 ok.sum).mono (by omega),λp hp=>?_⟩
  have nn:∀q∈zh (zI a (zG l)) e,0<=q:=λq hq=>by
   obtain ⟨k,hk⟩:=Qx.mp hq;have Nu:k<(zX (λl=>zI b l) l).length:=by rw [<-nest.plen e];exact (Qd.mp hk).1
   exact (nest.range rg.1 rg.2 (Qb Nu) hk).1
  have le:=(Yr nn).2 p hp;rw [ga.ful.std.sum rg.1] at le;have mle:mn e (zM (amQ (zG l)))<=e:=by unfold mn;split<;>grind
  exact ((D.2 p hp).sz (nn p hp) (by have:=rg.2;grind) T0 ok.sum).mono (by omega)
 ·obtain ⟨g,hg,rfl⟩:=Qj.mp hQ;exact rb.few (okg g hg)
 ·have f:=ru.few ok
  have e:(zI (.groups a b) l).length=(wpV (zI a (zG l)) (zX (λl=>zI b l) l)).length:=by
   show (xr (λl=>zI a l) (λl=>zI b l) l).length=_;unfold xr yq yu;rw [Qa,Qa]
  omega
theorem Cc (ru:RuS t (.groups a b)) (ok:ClS t l):(∀c∈yu (zI a (zG l)) (zX (λl=>zI b l) l),SpO (uN l) l.length c.2)/\(yu (zI a (zG l)) (zX (λl=>zI b l) l)).length<=450:=by
 obtain ⟨ra,rb⟩:=ru.groups;have w:=Cb ru ok;have okg:∀g∈zB l,ClS t (l.filter (zu g)):=λg hg=>ok.filter (zu g) (Xn hg);have ga:=ra.gf ok.sums;have lk:=fo (fb:=λl=>zI b l) (l:=l) λg hg=>(rb.gf (okg g hg)).ful;have W:=kR w.nest (T:=zM (amQ (zG l))) (as:=amQ (zG l)) (by rw [Yf,<-xG];exact ga.ful.std);refine ⟨λc hc=>⟨kK l,by rw [(W.std.ok c hc).1,lk],ok.few⟩,?_⟩;have:=w.lenV;unfold yu;rw [Qa];omega
theorem iO  (ok:PathIn P) (h:∀c∈P,SzC 700 c) (hp:SzQ m p) (hm:m<=1000):PathIn (zW p P):=by
 refine ⟨λe=>ok.ne (List.map_eq_nil_iff.mp e),λc hc=>(ar h hp c hc).mono (by omega),λc hc=>?_,by unfold zW;rw [Qa];exact ok.few⟩;obtain ⟨d,hd,rfl⟩:=Qj.mp hc;rw [Qa];exact ok.len d hd
theorem RuS.up  (h:RuS t (.upto t' b' x y)) (ok:ClS t l):UpOk (Rat.divInt t' b') (zI x l) (zI y l):=by
 obtain ⟨hx,hy⟩:=h.upto;have zp:=HM h.pok.1;have one:SzQ 1 (1:Rat):=by unfold SzQ Sz;decide+kernel
 have zq:SzQ 212 (1 - Rat.divInt t' b'):=(one.sub zp).mono (by decide);have px:=hx.R (l:=l) ok;have py:=hy.R (l:=l) ok;have gx:=(hx.gf ok).ful.std;have gy:=(hy.gf ok).ful.std;have ix:=hx.inn (l:=l) ok;have iy:=hy.inn (l:=l) ok;have pi:=eS h.pok.1;have sx:=ar px.sz zp;have sy:=ar py.sz zq;have fx:=YZ hx.pok ok.n1;have fy:=YZ hy.pok ok.n1;have f:=h.len;simp only [WM] at f;have e8:=ok.few;have m1:=Nat.mul_le_mul (show WM x+WM y<=50 from f) e8;rw [Nat.add_mul] at m1;have st:=gu (Wt pi.1 gx) (Wt (show 0<1 - Rat.divInt t' b' by grind) gy);refine ⟨zp.mono (by decide),ix,iy,iO ix px.sz zp (by decide),iO iy py.sz zq (by decide),l.length,⟨λc hc=>?_,λc hc=>(st.ok c hc).1,by omega,?_⟩⟩
 ·rcases QS.mp hc with z|z
  ·exact (sx c z).mono (by decide)
  ·obtain ⟨d,hd,rfl⟩:=Qj.mp z;have a:=sx _ (nX (λe=>ix.ne (List.map_eq_nil_iff.mp e)));have b:=sy d (TR hd);refine ⟨(a.1.add b.1).mono (by decide),λq hq=>?_⟩;obtain ⟨u,hu,v,hv,rfl⟩:=dA hq;exact ((a.2 u hu).add (b.2 v hv)).mono (by decide)
 ·unfold yF zW;simp only [Qz,Qa,jaR];omega
end
def UZ (gs:List Int) (l:List Cl) (tk:List Int):List Int:=gs.map λg=>(yn 0 (zO (zu g) l) tk).sum
section
variable {r a b:Rl} {l:List Cl} {tk:List Int} {k:Int}
theorem vN (h:∀i∈pl,i<tk.length):yO (yn 0 pl tk)=yn 0 pl (yO tk):=by
 unfold yO yn;rw [Qr];refine QI λi hi=>?_;show (((tk.getD i 0):Int):Rat)=(tk.map λ(p:Int)=>(p:Rat)).getD i 0;rw [Qk,Qk,Qh,Qb (h i hi)];rfl
theorem eV (p:Cl->Bool) (q:Row->Bool) (hq:∀c x,q (xJ c x)=p c) (hl:tk.length=l.length):(zH l (yO tk)).filter q=zH (l.filter p) (yO (yn 0 (zO p l) tk)):=by
 rw [Yv (p:=p) q hq (by rw [WU];exact hl),vN λi hi=>by rw [hl];exact (YJ p l).lt i hi]
theorem FitG.ranks (h:FitG (.ranks r) l tk) (k:Int):FitG r (l.filter (zK k)) (yn 0 (zO (zK k) l) tk):=by
 refine ⟨by rw [WE,Zf],?_⟩;have:=h.fit.2.1 k;rwa [eV (zK k) _ (λc x=>rfl) h.len] at this
theorem FitG.order (h:FitG (.ranks r) l tk) {i j:Nat} {c d:Cl} {p q:Int} (hc:l[i]? =some c) (hp:tk[i]? =some p) (hd:l[j]? =some d) (hq:tk[j]? =some q) (lt:c.2.1<d.2.1) (pos:0<q):p=c.1:=by
 have g:∀{n:Nat} {x:Int},tk[n]? =some x->(yO tk)[n]? =some (x:Rat):=λ{n x} hx=>by unfold yO;rw [Qh,hx];rfl
 have:=h.fit.2.2 _ (XN hc (g hp)) _ (XN hd (g hq)) lt (YM pos);exact Rat.intCast_inj.mp this
theorem FitG.group (h:FitG (.groups a b) l tk) (g:Int):FitG b (l.filter (zu g)) (yn 0 (zO (zu g) l) tk):=by
 refine ⟨by rw [WE,Zf],?_⟩;have:=h.fit.2.1 g;rwa [eV (zu g) _ (λc x=>rfl) h.len] at this
theorem FitG.outer (h:FitG (.groups a b) l tk):FitG a (zG l) (UZ (zB l) l tk):=by
 refine ⟨by unfold UZ;rw [Qa,xG],?_⟩;have f:=h.fit.2.2
 have eg:YY (zH l (yO tk))=zB l:=by
  have:(zH l (yO tk)).map (·.group)=l.map (·.2.2):=by
   unfold zH;rw [jbJ]
   apply Tj
   intro i;rw [Qt,Qh]
   cases e1:l[i]? with
   |none=>rfl
   |some c=>
    have il:=(Qd.mp e1).1;rw [Qb (l:=yO tk) (i:=i) (by rw [WU,h.len];exact il)];rfl
  exact ZJ (Ve _).1 (ya l).1 λk=>by rw [(Ve _).2,this,(ya l).2]
 have es:jI (zH l (yO tk))=zH (zG l) (yO (UZ (zB l) l tk)):=by
  unfold jI;rw [eg];unfold zH zG yO UZ;rw [Qr,jbI,List.zipWith_self];refine QI λg _=>?_;have pk:=eV (l:=l) (tk:=tk) (zu g) (λx=>decide (x.group=g)) (λc x=>rfl) h.len;unfold zH at pk;have ln:(yO (yn 0 (zO (zu g) l) tk)).length=(l.filter (zu g)).length:=by rw [WU,WE,Zf]
  have sA:=Xj ln;have sP:=Ym ln;unfold zH at sA sP
  have e5:(List.zipWith xJ (l.filter (zu g)) (yO (yn 0 (zO (zu g) l) tk))).map (·.rank)=(l.filter (zu g)).map (·.2.1):=by
   rw [jbJ]
   apply Tj
   intro i;rw [Qt,Qh]
   cases e1:(l.filter (zu g))[i]? with
   |none=>rfl
   |some c=>
    have il:=(Qd.mp e1).1;rw [Qb (l:=yO (yn 0 (zO (zu g) l) tk)) (i:=i) (by rw [ln];exact il)];rfl
  show Row.mk (pG ((List.zipWith xJ l (yO tk)).filter λx=>decide (x.group=g))) (pB (((List.zipWith xJ l (yO tk)).filter λx=>decide (x.group=g)).map (·.rank))) g (wo ((List.zipWith xJ l (yO tk)).filter λx=>decide (x.group=g)))=xJ (wt g (l.filter (zu g))) (((yn 0 (zO (zu g) l) tk).sum:Int):Rat);rw [pk,sA,sP,e5,ag,xQ];rfl
 rw [es] at f;exact f
end
structure FitA (n:Nat) (r:Rl) (l:List Cl) (tk:List Int):Prop where
 pok:POk r
 dep:Vr r<=n
 hn:n<=20
 few:l.length<=8
 sz:∀x∈amV l,Sz (100000 - 300*n) x
 fit:FitG r l tk
section
variable {B G0 H:Hp} {cs:yD} {ds:Dat} {Q:VK} {E:XK} {v w u:V} {K:Frg} {n:Nat} {r x y a b':Rl} {l:List Cl} {tk:List Int} {t b:Int} {k g:Int}
def VJ (n:Nat):Sp:=spB (α:=Rl×List Cl×List Int) (λa=>[a.1.shape,zm a.2.1,xI a.2.2]) (λa=>FitA n a.1 a.2.1 a.2.2) (λ_=> .bl true)
theorem YI (S:Sta B G0 H cs ds) (h1:Has ds r.shape u) (h2:Has ds (zm l) v) (h3:Has ds (xI tk) w) (ok:FitA n r l tk) (k:∀H',zV H H'->Sta B G0 H' cs ds->Q (.bl true) H'):VJ n [u,v,w] H Q E:=WA (r,l,tk) (S.hpAll (.cons h1 (.cons h2 (.cons h3 .nil)))) ok λH' e=>k H' e (S.same e)
def Hh (n:Nat):Sp:=spB (α:=(Int×Int)×(Rl×Rl)×List Cl×List Int) (λa=>[(Rl.upto a.1.1 a.1.2 a.2.1.1 a.2.1.2).shape,zm a.2.2.1,xI a.2.2.2]) (λa=>FitA n (Rl.upto a.1.1 a.1.2 a.2.1.1 a.2.1.2) a.2.2.1 a.2.2.2) (λ_=> .bl true)
theorem rd_upA (S:Sta B G0 H cs ds) (h1:Has ds (Rl.upto t b x y).shape u) (h2:Has ds (zm l) v) (h3:Has ds (xI tk) w) (ok:FitA n (.upto t b x y) l tk) (k:∀H',zV H H'->Sta B G0 H' cs ds->Q (.bl true) H'):Hh n [u,v,w] H Q E:=WA ((t,b),(x,y),l,tk) (S.hpAll (.cons h1 (.cons h2 (.cons h3 .nil)))) ok λH' e=>k H' e (S.same e)
def Hj (n:Nat):Sp:=spB (α:=Rl×List Cl×List Int) (λa=>[a.1.shape,zm a.2.1,xI a.2.2]) (λa=>FitA n (.ranks a.1) a.2.1 a.2.2) (λ_=> .bl true)
theorem rd_rkF (S:Sta B G0 H cs ds) (h1:Has ds r.shape u) (h2:Has ds (zm l) v) (h3:Has ds (xI tk) w) (ok:FitA n (.ranks r) l tk) (k:∀H',zV H H'->Sta B G0 H' cs ds->Q (.bl true) H'):Hj n [u,v,w] H Q E:=WA (r,l,tk) (S.hpAll (.cons h1 (.cons h2 (.cons h3 .nil)))) ok λH' e=>k H' e (S.same e)
def Hl (n:Nat):Sp:=spB (α:=(Rl×Rl)×List Cl×List Int) (λa=>[(Rl.groups a.1.1 a.1.2).shape,zm a.2.1,xI a.2.2]) (λa=>FitA n (.groups a.1.1 a.1.2) a.2.1 a.2.2) (λ_=> .bl true)
theorem rd_grF (S:Sta B G0 H cs ds) (h1:Has ds (Rl.groups x y).shape u) (h2:Has ds (zm l) v) (h3:Has ds (xI tk) w) (ok:FitA n (.groups x y) l tk) (k:∀H',zV H H'->Sta B G0 H' cs ds->Q (.bl true) H'):Hl n [u,v,w] H Q E:=WA ((x,y),l,tk) (S.hpAll (.cons h1 (.cons h2 (.cons h3 .nil)))) ok λH' e=>k H' e (S.same e)
theorem FitA.other (h:FitA (n+1) (.other r) l tk):FitA n r l (xU (amV l) tk):=
 ⟨h.pok,by have:=h.dep;simp only [Vr] at this;omega,by have:=h.hn;omega,h.few,λx hx=>(h.sz x hx).mono (by omega),h.fit.other⟩
theorem FitA.halves (h:FitA (n+1) .halves l tk):FitA n (.upto 1 2 .evenly .losses) l tk:=
 ⟨⟨port12,trivial,trivial⟩,by have:=h.dep;simp only [Vr] at this⊢;omega,by have:=h.hn;omega,h.few,λx hx=>(h.sz x hx).mono (by omega),h.fit.halves⟩
theorem FitA.upto (h:FitA (n+1) (.upto t b x y) l tk):if (yT b tk).sum<=(amV (yd t l)).sum then FitA n x (yd t l) (yT b tk) else FitA n y (yd (b - t) l) (xU (yT b tk) (amV (yd t l))):=by
 have p:=h.pok.1;have b0:0<b:=by have:=p.2.1;have:=p.2.2.1;omega
 have f:=h.fit.upto b0;have d:=h.dep;simp only [Vr] at d;have hn:=h.hn;have e:100000 - 300*(n+1)+300=100000 - 300*n:=by omega
 split
 ·rename_i c;rw [QH c] at f;exact ⟨h.pok.2.1,by omega,by omega,by rw [Za];exact h.few,by rw [<-e];exact rM (p.1.1.mono (by decide)) h.sz,f⟩
 ·rename_i c;rw [QO c] at f;have zb:Sz 211 (b - t):=p.1.2.sub p.1.1;exact ⟨h.pok.2.2,by omega,by omega,by rw [Za];exact h.few,by rw [<-e];exact rM zb h.sz,f⟩
theorem gv (p:Cl->Bool) {x:Int} (h:x∈amV (l.filter p)):x∈amV l:=by
 obtain ⟨c,hc,rfl⟩:=Qj.mp h;exact Qj.mpr ⟨c,(Tq.mp hc).1,rfl⟩
theorem FitA.ranks (h:FitA (n+1) (.ranks r) l tk) (k:Int):FitA n r (l.filter (zK k)) (yn 0 (zO (zK k) l) tk):=
 ⟨h.pok,by have:=h.dep;simp only [Vr] at this;omega,by have:=h.hn;omega,QU (jaA _ _) h.few,λx hx=>(h.sz x (gv _ hx)).mono (by omega),h.fit.ranks k⟩
theorem FitA.group (h:FitA (n+1) (.groups a b') l tk) (g:Int):FitA n b' (l.filter (zu g)) (yn 0 (zO (zu g) l) tk):=
 ⟨h.pok.2,by have:=h.dep;simp only [Vr] at this;omega,by have:=h.hn;omega,QU (jaA _ _) h.few,λx hx=>(h.sz x (gv _ hx)).mono (by omega),h.fit.group g⟩
theorem Gm:∀{as:List Int} (j:Nat),as.length<=j->(∀a∈as,Sz m a)->Sz (m+j+1) as.sum
 |[],j,_,_=>by unfold Sz;exact Nat.pow_pos (by decide)
 |a::as,0,h,_=>by simp at h
 |a::as,j+1,h,hz=>by
  have h1:=Gm (m:=m) (as:=as) j (by simpa using h) λx hx=>hz x (Qf _ hx);have h2:=(hz a (Qe ..)).mono (show m<=m+j+1 by omega);rw [QN];exact (h2.add h1).mono (by omega)
theorem FitA.outer (h:FitA (n+1) (.groups a b') l tk):FitA n a (zG l) (UZ (zB l) l tk):=by
 refine ⟨h.pok.1,by have:=h.dep;simp only [Vr] at this;omega,by have:=h.hn;omega,by rw [xG];exact QU (Yh l) h.few,λx hx=>?_,h.fit.outer⟩;obtain ⟨c,hc,rfl⟩:=Qj.mp hx;obtain ⟨g,hg,rfl⟩:=Qj.mp hc;have hn:=h.hn;refine (Gm (m:=100000 - 300*(n+1)) (as:=amV (l.filter (zu g))) 8 ?_ λa ha=>h.sz a (gv _ ha)).mono (by omega);rw [yj];exact QU (jaA _ _) h.few
theorem CM (h:i<l.length):(l.getD i (0,0,0)).1=(amV l).getD i 0:=by
 unfold amV;rw [Qk,Qk,Qh,Qb h];rfl
noncomputable def jR (t:Nat):Sp:=spB (α:=Rl×List Cl×Rat) (λa=>[a.1.shape,zm a.2.1,frD a.2.2,zR (zh (zI a.1 a.2.1) a.2.2)]) (λa=>((RuS t a.1/\Vr a.1<=12)/\ClS t a.2.1)/\SzQ 700 a.2.2/\0<=a.2.2) (λ_=> .bl true)
theorem nu  (S:Sta B G0 H cs ds) (h1:Has ds r.shape u) (h2:Has ds (zm l) v) (h3:Has ds (frD e) w) (h4:Has ds (zR (zh (zI r l) e)) z) (ru:RuS m r) (hd:Vr r<=12) (ok:ClS m l) (ze:SzQ 700 e) (e0:0<=e) (k:∀H',zV H H'->Sta B G0 H' cs ds->Q (.bl true) H'):jR m [u,v,w,z] H Q E:=WA (r,l,e) (S.hpAll (.cons h1 (.cons h2 (.cons h3 (.cons h4 .nil))))) ⟨⟨⟨ru,hd⟩,ok⟩,ze,e0⟩ λH' e=>k H' e (S.same e)
def jQ (A:RAd) (n:Nat):Sp:=spT (α:=Rl) (λr=>[r.shape]) (λr=>r.deep<=n) (λr=>r.ins A)
theorem YF  (S:Sta B G0 H cs ds) (h:Has ds r.shape v) (hn:r.deep<=n) (k:∀p H',zV H H'->Sta B G0 H' cs ((r.ins A,p)::ds)->Q p H'):jQ A n [v] H Q E:=Zl r S (.cons h .nil) hn k
end
structure ClZ (size:Int) (l:List Cl):Prop where
 pos:0<l.length
 few:l.length<=8
 nn:∀c∈l,0<=c.1/\0<=c.2.1/\0<=c.2.2
 lt:∀c∈l,c.1<size
theorem dD (h0:0<=size):∀{as:List Int},(∀a∈as,a<size)->as.sum<=(as.length:Int)*size
 |[],_=>by simp
 |a::as,h=>by
  have h1:=h a (Qe ..);have h2:=dD h0 (as:=as) λx hx=>h x (Qf _ hx);rw [QN,QA,Int.natCast_add,Int.add_mul];omega
theorem ClZ.S  (h:ClZ size l) (h0:0<=size) (hs:size<=2 ^ s):ClS (s+3) l:=by
 refine ⟨h.pos,h.few,h.nn,?_⟩
 have h1:=dD h0 (as:=amV l) λa ha=>by
  obtain ⟨c,hc,rfl⟩:=Qj.mp ha;exact h.lt c hc
 rw [yj] at h1;have h2:(l.length:Int)*size<=8*size:=jbo (by have:=h.few;omega) h0;rw [Int.pow_add];have e:(2:Int) ^ 3=8:=by decide
 rw [e];omega
section
variable {B G0 H:Hp} {cs:yD} {ds:Dat} {Q:VK} {E:XK} {v w u:V} {K:Frg}
def dN (K:Frg):Sp:=λvs H Q _=>∃(G:Hp) (a:Addr) (ns:List Int) (at' many size:Int),vs=[.ref a, .int at', .int many, .int size]/\zV G H/\SqL K H a (ns.map V.int)/\(0<=at'/\1<=many/\many<=8/\10<=size/\size<=10 ^ 46)/\
 ∀(l:List Cl) (p:Addr) (H' G':Hp) (us:List V),l.length=many.toNat->ClZ size l->Grow G H G' H'->H p=none->G' p=none->H' p=some (.lst us)->zL G' (l.map zC) us->Q (.ref p) H'
theorem uJ {a:Addr} {ns:List Int} {at' many size:Int} (S:Sta B G0 H cs ds) (hS:SqL K H a (ns.map V.int)) (hb:0<=at'/\1<=many/\many<=8/\10<=size/\size<=10 ^ 46)
 (k:∀(l:List Cl) (p:Addr) (H':Hp),l.length=many.toNat->ClZ size l->zV H H'->Sta B G0 H' ((p,l.map zC)::cs) ds->Q (.ref p) H'):dN K [.ref a, .int at', .int many, .int size] H Q E:=by
 obtain ⟨G,S⟩:=S;exact ⟨G,a,ns,at',many,size,rfl,S.2.1,hS,hb,λl p H' G' us h1 h2 gr hp hg hu hv=>k l p H' h1 h2 gr.h (Sta.put_call S gr hp hg hu hv)⟩
def Uh (n:Int):List Int:=if n % 5=0 then [7,10,2] else if n % 5=1 then [10 ^ 40+5,9,30] else if n % 5=2 then [2024,10 ^ 20,100] else if n % 5=3 then [6,3,12,0,9,100,5,1] else [0,1,2]
theorem BO (n:Int):0<(Uh n).length/\∀x∈Uh n,0<=x:=by
 unfold Uh
 split
 ·exact ⟨by decide,by decide⟩
 split
 ·exact ⟨by decide,by decide⟩
 split
 ·exact ⟨by decide,by decide⟩
 split
 ·exact ⟨by decide,by decide⟩
 ·exact ⟨by decide,by decide⟩
theorem qH (n:Int):((((Uh n).map PyData.int).length:Nat):Int)≠0:=by
 have:=(BO n).1;rw [Qa];omega
theorem BP (n i:Int):∃x,0<=x/\atI ((Uh n).map PyData.int) (i.fmod ((((Uh n).map PyData.int).length:Nat):Int))=some (.int x):=by
 obtain ⟨h1,h2⟩:=BO n;have ne:=qH n;have e:=Tp i (show 0<=((((Uh n).map PyData.int).length:Nat):Int) by omega);have m1:=jaB i ne;have m2:=jaj i (show 0<((((Uh n).map PyData.int).length:Nat):Int) by omega);rw [<-e] at m1 m2;generalize i.fmod ((((Uh n).map PyData.int).length:Nat):Int)=j at*;rw [Qa] at m2;have hj:j.toNat<(Uh n).length:=by omega
 refine ⟨(Uh n)[j.toNat],h2 _ (Td hj),?_⟩;have:=yi (xs:=(Uh n).map PyData.int) (j:=j.toNat) (v:= .int (Uh n)[j.toNat]) (by rw [Qh,Qb hj];rfl);rwa [Int.toNat_of_nonneg m1] at this
def dJ:Sp:=spL (α:=Int) (λn=>[.int n]) (λ_=>True) (λn=>(Uh n).map PyData.int)
theorem iV (S:Sta B G0 H cs ds) (k:∀p H',zV H H'->Sta B G0 H' ((p,(Uh n).map PyData.int)::cs) ds->Q (.ref p) H'):dJ [.int n] H Q E:=Zm n S (.cons Has.int .nil) trivial k
def D26 (r:Rl):Prop:=(RuS 103 r/\Vr r<=12)/\r.deep<=4
end
def nd:Rl->Nat
 | .other r=>nd r+1
 | .ranks r=>nd r+1
 | .groups a b=>nd a+nd b+1
 | .upto _ _ x y=>nd x+nd y+1
 |_=>1
theorem fi:∀r:Rl,1<=nd r
 | .shares=>Qv _
 | .evenly=>Qv _
 | .losses=>Qv _
 | .halves=>Qv _
 | .other r=>by simp [nd]
 | .ranks r=>by simp [nd]
 | .groups a b=>by simp [nd]
 | .upto _ _ x y=>by simp [nd]
def PS6:Rl->Prop
 | .other r=>PS6 r
 | .ranks r=>PS6 r
 | .groups a b=>PS6 a/\PS6 b
 | .upto t b x y=>(Vy t b/\UK b<=6)/\PS6 x/\PS6 y
 |_=>True
theorem PS6.pok:∀{r:Rl},PS6 r->POk r
 | .shares,_=>trivial
 | .evenly,_=>trivial
 | .losses,_=>trivial
 | .halves,_=>trivial
 | .other r,h=>PS6.pok (r:=r) h
 | .ranks r,h=>PS6.pok (r:=r) h
 | .groups a b,h=>⟨PS6.pok h.1,PS6.pok h.2⟩
 | .upto _ _ x y,h=>⟨h.1.1,PS6.pok h.2.1,PS6.pok h.2.2⟩
theorem fm:∀{r:Rl},PS6 r->(nd r<=2->Wn t r<=2)/\(nd r<=4->Wn t r<=18+2*t)/\(nd r<=6->Wn t r<=98+12*t)
 | .shares,_=>⟨λ_=>by simp only [Wn];omega,λ_=>by simp only [Wn];omega,λ_=>by simp only [Wn];omega⟩
 | .evenly,_=>⟨λ_=>by simp only [Wn];omega,λ_=>by simp only [Wn];omega,λ_=>by simp only [Wn];omega⟩
 | .losses,_=>⟨λ_=>by simp only [Wn];omega,λ_=>by simp only [Wn];omega,λ_=>by simp only [Wn];omega⟩
 | .halves,_=>⟨λ_=>by simp only [Wn];omega,λ_=>by simp only [Wn];omega,λ_=>by simp only [Wn];omega⟩
 | .other r,h=>by
   have ih:=fm (t:=t) (r:=r) h;simp only [Wn,nd];exact ⟨λz=>ih.1 (by omega),λz=>ih.2.1 (by omega),λz=>ih.2.2 (by omega)⟩
 | .ranks r,h=>by
   have ih:=fm (t:=t) (r:=r) h;simp only [Wn,nd];exact ⟨λz=>ih.1 (by omega),λz=>ih.2.1 (by omega),λz=>ih.2.2 (by omega)⟩
 | .groups a b,h=>by
   obtain ⟨a1,a2,a3⟩:=fm (t:=t) (r:=a) h.1;obtain ⟨b1,b2,b3⟩:=fm (t:=t) (r:=b) h.2;have pa:=fi a;have pb:=fi b;simp only [Wn,nd];refine ⟨λz=>absurd z (by omega),λz=>?_,λz=>?_⟩
   ·have:=a1 (by omega);have:=b1 (by omega);omega
   ·by_cases c:nd a<=2
    ·have:=a1 c
     by_cases d:nd b<=2
     ·have:=b1 d;omega
     ·have:=b2 (by omega);omega
    ·have:=a2 (by omega);have:=b1 (by omega);omega
 | .upto p b x y,h=>by
   obtain ⟨a1,a2,a3⟩:=fm (t:=t) (r:=x) h.2.1;obtain ⟨b1,b2,b3⟩:=fm (t:=t) (r:=y) h.2.2;have pa:=fi x;have pb:=fi y;have l6:=h.1.2;simp only [Wn,nd];refine ⟨λz=>absurd z (by omega),λz=>?_,λz=>?_⟩
   ·have:=a1 (by omega);have:=b1 (by omega);omega
   ·have:=a2 (by omega);have:=b2 (by omega);omega
theorem fj:∀r:Rl,WM r<=2*nd r
 | .shares=>by simp [WM,nd]
 | .evenly=>by simp [WM,nd]
 | .losses=>by simp [WM,nd]
 | .halves=>by simp [WM,nd]
 | .other r=>by have:=fj r;simp only [WM,nd];omega
 | .ranks r=>by have:=fj r;simp only [WM,nd];omega
 | .groups a b=>by have:=fj a;have:=fj b;simp only [WM,nd];omega
 | .upto _ _ x y=>by have:=fj x;have:=fj y;simp only [WM,nd];omega
theorem cg:∀r:Rl,Vr r<=nd r+2/\r.deep<=nd r
 | .shares=>by simp [Vr,nd,Rl.deep]
 | .evenly=>by simp [Vr,nd,Rl.deep]
 | .losses=>by simp [Vr,nd,Rl.deep]
 | .halves=>by simp [Vr,nd,Rl.deep]
 | .other r=>by have:=cg r;simp only [Vr,nd,Rl.deep];omega
 | .ranks r=>by have:=cg r;simp only [Vr,nd,Rl.deep];omega
 | .groups a b=>by have:=cg a;have:=cg b;simp only [Vr,nd,Rl.deep];omega
 | .upto _ _ x y=>by have:=cg x;have:=cg y;simp only [Vr,nd,Rl.deep];omega
structure JOk (t k N:Nat) (r:Rl):Prop where
 ps:PS6 r
 pos:1<=N
 den:Wn t r<=98+12*t+6*k
 len:WM r<=2*N
 dep:Vr r<=N+2
 deep:r.deep<=N
theorem JOk.of  (h:PS6 r) (hn:nd r<=6):JOk t 0 (nd r) r:=
 ⟨h,fi r,by have:=(fm (t:=t) h).2.2 hn;omega,fj r,(cg r).1,(cg r).2⟩
theorem JOk.join  (hp:Vy p b) (hb:UK b<=6) (hx:JOk t 0 M x) (hy:JOk t k N y):JOk t (k+1) (M+N) (.upto p b x y):=by
 have a:=hx.den;have c:=hy.den;have a2:=hx.len;have c2:=hy.len;have a3:=hx.dep;have c3:=hy.dep;have a4:=hx.deep;have c4:=hy.deep;have a5:=hx.pos;have c5:=hy.pos;exact ⟨⟨⟨hp,hb⟩,hx.ps,hy.ps⟩,by omega,by simp only [Wn];omega,by simp only [WM];omega,by simp only [Vr];omega,by simp only [Rl.deep];omega⟩
theorem JOk.ru  (h:JOk t k N r) (ht:t<=36) (hk:k<=6) (hN:N<=7):RuS t r/\Vr r<=12/\r.deep<=7:=by
 have a:=h.den;have b:=h.len;have c:=h.dep;have d:=h.deep;exact ⟨⟨h.ps.pok,by omega,by omega,by omega⟩,by omega,by omega⟩
theorem GD (h0:0<b) (h:b<=61):UK b<=6:=by
 unfold UK
 have:b.toNat.log2<=5:=by
  by_cases z:b.toNat=0
  ·rw [z];decide
  ·have:=(Nat.log2_lt z (k:=6)).mpr (by omega);omega
 omega
theorem Small.ps (h:Small t b):Vy t b/\UK b<=6:=⟨h.port,GD (by have:=h.port.2.1;have:=h.port.2.2.1;omega) h.le⟩
theorem Ci (n:Nat):PS6 (iq n)/\nd (iq n)=1:=by
 match n with
 |0=>exact ⟨trivial,rfl⟩
 |1=>exact ⟨trivial,rfl⟩
 |2=>exact ⟨trivial,rfl⟩
 |n+3=>exact ⟨trivial,rfl⟩
def ndS (rs:List Rl):Nat:=(rs.map nd).sum
theorem ZZ (rs:List Rl) (r:Rl):ndS (rs++[r])=ndS rs+nd r:=by unfold ndS;rw [QP,List.sum_append];rfl
theorem WJ:∀rs:List Rl,rs.length<=ndS rs
 |[]=>Qv _
 |r::rs=>by
  have:=WJ rs;have:=fi r;unfold ndS at*;rw [Qo,QN,QA];omega
def Drn (r:Rl):Prop:=∃k N,(∀t,JOk t k N r)/\k<=6/\N<=7
section
variable {B G0 H:Hp} {cs:yD} {ds:Dat} {Q:VK} {E:XK} {v w u:V} {K:Frg}
def pS:Sp:=λvs H Q _=>∃(G:Hp) (c:Int),vs=[.int c]/\zV G H/\∀v H' G' (n:Nat),Grow G H G' H'->Is G' (iq n).shape v->Q v H'
theorem Ea (S:Sta B G0 H cs ds) (k:∀v H' (n:Nat),zV H H'->Sta B G0 H' cs (((iq n).shape,v)::ds)->Q v H'):pS [.int c] H Q E:=by
 obtain ⟨G,S⟩:=S;refine ⟨G,c,rfl,S.2.1,λv H' G' n gr hv=>k v H' n gr.h ?_⟩;obtain ⟨a',b',c',d',e',f',g'⟩:=S.grow gr;exact ⟨G',a',b',c',d',e',f',g'.cons hv⟩
theorem Az  (S:Sta H G H' cs ds) (k:∀v H' G' (n:Nat),Grow G H G' H'->Is G' (iq n).shape v->Q v H') (h:Has ds (iq n).shape v):Q v H':=by
 obtain ⟨G',gr,al⟩:=S.leave;exact k v H' G' n gr (h G' al)
def jO:Sp:=λvs H Q _=>∃(G:Hp) (ns:List Int) (g:Bool) (v:V),vs=[v, .bl g]/\zV G H/\Is G (xI ns) v/\ns.length<=6/\∀w H' G' (r:Rl),Grow G H G' H'->Is G' r.shape w->Drn r->Q w H'
theorem AB  (S:Sta B G0 H cs ds) (h:Has ds (xI ns) v) (hl:ns.length<=6) (k:∀w H' (r:Rl),Drn r->zV H H'->Sta B G0 H' cs ((r.shape,w)::ds)->Q w H'):jO [v, .bl g] H Q E:=by
 obtain ⟨G,S⟩:=S;refine ⟨G,ns,g,v,rfl,S.2.1,h G S.2.2.2.2.2.2,hl,λw H' G' r gr hv good=>k w H' r good gr.h ?_⟩;obtain ⟨a',b',c',d',e',f',g'⟩:=S.grow gr;exact ⟨G',a',b',c',d',e',f',g'.cons hv⟩
theorem iQ  (S:Sta H G H' cs ds) (k:∀w H' G' (r:Rl),Grow G H G' H'->Is G' r.shape w->Drn r->Q w H') (h:Has ds r.shape w) (hg:Drn r):Q w H':=by
 obtain ⟨G',gr,al⟩:=S.leave;exact k w H' G' r gr (h G' al) hg
end
theorem tG (xs:List PyData) (x:PyData):lJ (xs++[x]) none (some (-1))=xs:=by
 have e:HT.sIx (xs++[x]).length (xs++[x]).length (some (-1))=xs.length:=by
  rw [Qz,TJ];unfold HT.sIx
  simp
  try omega
 unfold lJ;rw [HT.sIx_none,e,List.drop_zero,Nat.sub_zero];exact List.take_left
theorem lH (xs:List PyData) (x y:PyData):lJ (xs++[x,y]) none (some (-2))=xs:=by
 have e:HT.sIx (xs++[x,y]).length (xs++[x,y]).length (some (-2))=xs.length:=by
  rw [Qz];unfold HT.sIx
  simp
  try omega
 unfold lJ;rw [HT.sIx_none,e,List.drop_zero,Nat.sub_zero];exact List.take_left
theorem RuS.isP  (h:RuS t r) (ok:ClS t l):IsP 700 l.length (zI r l):=by
 have g:=(h.gf ok).ful;have R:=h.R ok;refine ⟨R.r0,λc hc=>(g.std.ok c hc).1,g.std.head,λi c d hc hd=>?_,λc hc=>(g.std.ok c hc).2,λi x y z hx hy hz=>g.thin i x y z hx hy hz⟩;obtain ⟨lc,rfl⟩:=Qd.mp hc;obtain ⟨ld,rfl⟩:=Qd.mp hd;exact QJ.mp g.mono i (i+1) lc ld (by omega)
theorem RuS.corner   (h:RuS t r) (ok:ClS t l) (hc:c∈zI r l):zh (zI r l) c.1=c.2/\0<=c.1/\SzQ 700 c.1:=
 ⟨(h.gf ok).ful.std.at_corner hc,((h.gf ok).ful.std.range hc).1,((h.R ok).sz c hc).1⟩
theorem RuS.ende  (h:RuS t r) (ok:ClS t l):(zI r l).getLast? =some (zP (amV l)):=by
 have e:=(h.gf ok).ful.std.last;rw [xQ,Vn] at e;exact e
theorem RuS.lawAt  (h:RuS t r) (ok:ClS t l) (e:Rat):Wd (zI r l) e=zh (zI r l) e:=
 nW (m:=l.length) (h.gf ok).ful.std.rise λc hc=>((h.gf ok).ful.std.ok c hc).1
theorem ClZ.more  (h:ClZ size l) (hl:l.length<=7) (hs:2<=size):ClZ size (l++[(1,0,0)]):=by
 have a:∀c∈l++[((1:Int),(0:Int),(0:Int))],c∈l\/c=(1,0,0):=λc hc=>by
  rcases QS.mp hc with z|z
  ·exact .inl z
  ·exact .inr (Qq.mp z)
 refine ⟨by rw [Qz];exact QY h.pos (Nat.le_add_right _ _),by rw [Qz];exact Nat.succ_le_succ hl,λc hc=>?_,λc hc=>?_⟩
 ·rcases a c hc with z|rfl
  ·exact h.nn c z
  ·exact ⟨by decide,by decide,by decide⟩
 ·rcases a c hc with z|rfl
  ·exact h.lt c z
  ·show (1:Int)<size;omega
section
variable {B G0 H:Hp} {cs:yD} {ds:Dat} {Q:VK} {E:XK} {v w u:V} {K:Frg}
def Aa:Sp:=spT (α:=List Cl) (λl=>[zm l]) (λl=>l.length<=8) (λl=>zA (zP (amV l)))
theorem HI (S:Sta B G0 H cs ds) (h:Has ds (zm l) v) (ok:l.length<=8) (k:∀w H',zV H H'->Sta B G0 H' cs ((zA (zP (amV l)),w)::ds)->Q w H'):Aa [v] H Q E:=Zl l S (.cons h .nil) ok k
end
theorem if2 {p q:Bool} {A X Y:Prop} (h:(if q=true then X else Y)->A) (h1:p=true->q=true->X) (h2:(p && q)=false->Y):if p=true then A else Y:=by
 cases p
 ·exact h2 rfl
 ·cases q
  ·exact h (h2 rfl)
  ·exact h (h1 rfl rfl)
theorem if3 {p q r:Bool} {A A' X Y:Prop} (h:(if q=true then A' else Y)->A) (h':(if r=true then X else Y)->A') (h1:p=true->q=true->r=true->X) (h2:(p && (q && r))=false->Y):if p=true then A else Y:=by
 cases p
 ·exact h2 rfl
 ·cases q
  ·exact h (h2 rfl)
  ·exact h (h' (by
    cases r
    ·exact h2 rfl
    ·exact h1 rfl rfl rfl))
theorem all1 {p:List Value->Prop} (h:∀a,p [a]) (us:List Value) (hl:us.length=1):p us:=by
 obtain ⟨a,rfl⟩:=List.length_eq_one_iff.mp hl;exact h a
theorem all2 {p:List Value->Prop} (h:∀a b,p [a,b]) (us:List Value) (hl:us.length=2):p us:=by
 cases us with
 |nil=>cases hl
 |cons a us=>exact all1 (p:=λus=>p (a::us)) (h a) us (Nat.succ.inj hl)
theorem all3 {p:List Value->Prop} (h:∀a b c,p [a,b,c]) (us:List Value) (hl:us.length=3):p us:=by
 cases us with
 |nil=>cases hl
 |cons a us=>exact all2 (p:=λus=>p (a::us)) (h a) us (Nat.succ.inj hl)
theorem all4 {p:List Value->Prop} (h:∀a b c d,p [a,b,c,d]) (us:List Value) (hl:us.length=4):p us:=by
 cases us with
 |nil=>cases hl
 |cons a us=>exact all3 (p:=λus=>p (a::us)) (h a) us (Nat.succ.inj hl)
structure DkT (K:Frg) (mg:Str->Option Value) (nm:Str) (st:Stmt) (f:Addr) (fd:FuncData) (ps:List Str):Prop where
 F:Fun K nm nm st f fd
 m:mg nm=some (.ref f)
 b:xi K fd ps []
structure FkT (K:Frg) (x q:Str) (st:Stmt) (f:Addr) (fd:FuncData) (ps:List Str):Prop where
 F:Fun K x q st f fd
 b:xi K fd ps []
 k:PySem.W.keepIn K (.ref f)=true
section
variable {K:Frg} {h:Heap} {mg:Str->Option Value} {x q:Str} {st:Stmt} {f:Addr} {oc:Value} {od an:Option Addr} {osl:Array (Option Value)} {kV doc pm Kt ct:Value} {ps:List Str}
theorem fk_mk (l:K.lookup f=some ⟨oc,od, .func (PySem.W.fnOf x q (ZS st) (Zj st) (zk st) .none kV doc pm an Kt ct),osl⟩) (c:PySem.W.codeIn K Kt q=true) (k:PySem.W.keepIn K (.ref f)=true)
 (b:∀(kV doc pm:Value) (an:Option Addr) (Kt ct:Value) (us:List Value),us.length=ps.length->bindArgs (PySem.W.fnOf x q (ZS st) (Zj st) (zk st) .none kV doc pm an Kt ct) ⟨us,[]⟩=pure (ps.zip us)):
 FkT K x q st f (PySem.W.fnOf x q (ZS st) (Zj st) (zk st) .none kV doc pm an Kt ct) ps:=⟨og l c k,(og l c k).binds b,k⟩
theorem dk_mk (X:K.In h) (G:h.Ns mainGlobals mg) (a:PySem.W.nsIn K mainGlobals x=some (some (.ref f))) (l:K.lookup f=some ⟨oc,od, .func (PySem.W.fnOf x x (ZS st) (Zj st) (zk st) .none kV doc pm an Kt ct),osl⟩) (c:PySem.W.codeIn K Kt x=true) (k:PySem.W.keepIn K (.ref f)=true)
 (b:∀(kV doc pm:Value) (an:Option Addr) (Kt ct:Value) (us:List Value),us.length=ps.length->bindArgs (PySem.W.fnOf x x (ZS st) (Zj st) (zk st) .none kV doc pm an Kt ct) ⟨us,[]⟩=pure (ps.zip us)):
 DkT K mg x st f (PySem.W.fnOf x x (ZS st) (Zj st) (zk st) .none kV doc pm an Kt ct) ps:=⟨og l c k,jaD X G a,(og l c k).binds b⟩
end
structure CkT (K:Frg) (c fI Ru fS fT fP fQ:Addr):Prop where
 e:PySem.W.findIn K (.ref c) "__init__"=some (some (.ref fI))
 es:PySem.W.findIn K (.ref c) "shape"=some (some (.ref fS))
 et:PySem.W.findIn K (.ref c) "text"=some (some (.ref fT))
 ep:PySem.W.findIn K (.ref c) "path"=some (some (.ref fP))
 eq:PySem.W.findIn K (.ref c) "parts"=some (some (.ref fQ))
 pg:PySem.W.plainGet K c Str.empty=true
 hd:PySem.W.hasDictIn K c=true
 po:PySem.W.plainOver K c=true
 sa:PySem.W.findIn K (.ref c) "__setattr__"=some (some (.builtin "object.__setattr__"))
 na:PySem.W.findIn K (.ref c) "form"=some none
 ha:PySem.W.findIn K (.ref c) "__class__"=some (some (.builtin "object.__class__"))
 mo:PySem.W.mroIn K c (.type "object")=some true
 kt:PySem.W.kitOne K (.ref c) (.ref Ru)=some true
 mq:PySem.W.makesIn K c=true
 nf:PySem.W.isFn K (.ref fI)=true
 kc:PySem.W.keepIn K (.ref c)=true
section
variable {K:Frg} {c fI Ru fS fT fP fQ:Addr}
theorem CkT.ok (Q:CkT K c fI Ru fS fT fP fQ) (n1:PySem.W.isFn K (.ref fS)=true) (k1:PySem.W.keepIn K (.ref fS)=true) (n2:PySem.W.isFn K (.ref fT)=true) (k2:PySem.W.keepIn K (.ref fT)=true) (hn:PySem.W.specialIn K (.builtin "object.__class__") "__get__"=some (some (.builtin "getset_descriptor.__get__"))) (ht:PySem.W.takesIn K (.builtin "object.__class__")=some true):ROk K fS fT Ru c:=
 ⟨⟨Q.pg,Q.hd,Q.po,Q.sa⟩,Q.na,⟨Q.es,n1,k1⟩,⟨Q.et,n2,k2⟩,Q.ha,hn,ht,Q.mo,Q.kt⟩
theorem CkT.MK (Q:CkT K c fI Ru fS fT fP fQ):Mk K c fI:=⟨Q.mq,Q.e,Q.nf,Q.kc⟩
theorem CkT.mp (Q:CkT K c fI Ru fS fT fP fQ) (n:PySem.W.isFn K (.ref fP)=true) (k:PySem.W.keepIn K (.ref fP)=true) (n2:PySem.W.isFn K (.ref fQ)=true) (k2:PySem.W.keepIn K (.ref fQ)=true):Meth K c "path" fP/\Meth K c "parts" fQ:=⟨⟨Q.ep,n,k⟩,⟨Q.eq,n2,k2⟩⟩
end
section
variable {X:Cx}
theorem ps_a (i:Nat)   (hN:X.N.Nodup) (he:PE X e te) (hi:X.N[i]? =some x:=by rfl) (hx:Loc X.env.scope x:=by walk_at "o") (hs:swapsWith e (some (.Name x pos')) pos.line X.env=pure false:=by rfl) (hf:X.fn x=true\/X.env.scope.names.lookup x=some .local:=by walk_at "f"):
 PS X (.Assign [.Name x pos'] e pos) (Jj te (lE i)):=ps_set hN hi hx he hs hf
theorem pg_a (i:Nat)  (hN:X.N.Nodup) (hi:X.N[i]? =some x:=by rfl) (hx:Loc X.env.scope x:=by walk_at "o") (hf:X.fn x=true\/X.env.scope.names.lookup x=some .local:=by walk_at "f"):PG X (.Name x pos) (lE i):=qt hN hi hx hf
theorem pcl     (C:Cal X.prog X.w X.K X.mg X.base CX0 k x ps sp) (hr:Room j X.A) (ha:PA X (e::es) t) (hk:k<=j:=by walk_at "l") (hg:Gl X x:=by rfl) (LL:(x==("__debug__":Str))=false:=by decide) (he:starEach (e::es) X.env=(false,eval e X.env)::starEach es X.env:=by rfl) (Ln:(backTo pos (starEach es X.env)).any (·.1)=false:=by rfl):
 PE X (.Call (.Name x p) (e::es) [] pos) (ur sp [] E0 t):=pe_cal C hr hk pass0 hg ha LL he Ln
theorem pix (i:Nat)   (hN:X.N[i]? =some x:=by rfl) (hv:Vis X.env.scope x:=by walk_at "v") (hd:(x==("__debug__":Str))=false:=by decide) (hc:(x==("__classdict__":Str))=false:=by decide):PE X (.Subscript (.Name x p1) (.Constant (.int k) j p2) p3) (tOp (rIx X.K) (tVar i) (tC (.int k))):=pe_ix ix_seq (pv i hN hv hd hc) sE (λ_ _=>rfl)
theorem pg_c (i:Nat)     (hN:N.Nodup:=by decide+kernel) (hi:(xu X N scope C ex s H).N[i]? =some x:=by rfl) (hx:Loc (xu X N scope C ex s H).env.scope x:=by walk_at "o") (hf:(xu X N scope C ex s H).fn x=true\/(xu X N scope C ex s H).env.scope.names.lookup x=some .local:=by walk_at "f"):
 PG (xu X N scope C ex s H) (.Name x pos) (lE i):=qt hN hi hx hf
theorem pcf (N:List Str) (n:Nat) (fr:List Nat)     (hi:PI X tg iter wi) (hg:∀{C ex s H},PG (xu X N scope C ex s H) tg (g C ex s H)) (ht:∀{C ex s H},PIf (xu X N scope C ex s H) ifs (tt C ex s H)) (he:∀{C ex s H},PE (xu X N scope C ex s H) elt (te C ex s H))
 (hc:X.calm=true:=by rfl) (O:CompOk X N n fr scope:=by exact ⟨rfl,by decide+kernel,rfl,by decide,rfl,rfl,rfl,rfl,rfl⟩) (hs:∀x,foldedSetIterable iter X.env x=pure x:=by intro _;rfl):
 PE X (.ListComp elt [⟨tg,iter,ifs,0⟩] scope pos) (uq n fr wi g tt te):=HR hc O hi (λ_ _ _ _=>hg) (λ_ _ _ _=>ht) (λ_ _ _ _=>he) hs
theorem pscf (i:Nat) (hN:X.N.Nodup) (N:List Str) (n:Nat) (fr:List Nat)      (hi:PI X tg iter wi) (hg:∀{C ex s H},PG (xu X N scope C ex s H) tg (g C ex s H)) (ht:∀{C ex s H},PIf (xu X N scope C ex s H) ifs (tt C ex s H)) (he:∀{C ex s H},PE (xu X N scope C ex s H) elt (te C ex s H))
 (hx:X.N[i]? =some x:=by rfl) (hk:X.env.scope.names.lookup x=some .local:=by rfl) (hc:X.calm=true:=by rfl) (O:CompOk X N n fr scope:=by exact ⟨rfl,by decide+kernel,rfl,by decide,rfl,rfl,rfl,rfl,rfl⟩)
 (Rf:swapsWith (.ListComp elt [⟨tg,iter,ifs,0⟩] scope pos) (some (.Name x px)) spos.line X.env=pure true:=by rfl) (hs:∀x,foldedSetIterable iter X.env x=pure x:=by intro _;rfl):
 PS X (.Assign [.Name x px] (.ListComp elt [⟨tg,iter,ifs,0⟩] scope pos) spos) (Jj (uq n fr wi g tt te) (lE i)):=uL hN hx hk hc O hi (λ_ _ _ _=>hg) (λ_ _ _ _=>ht) (λ_ _ _ _=>he) Rf hs
theorem xt  (a:sc.kind= .function:=by rfl) (b:sc.isCoroutine=false:=by rfl) (c:sc.isGenerator=false:=by rfl) (d:N.Nodup:=by decide+kernel) (e:N.take P.length=P:=by rfl) (f:∀x∈P,sc.names.lookup x=some .local\/sc.names.lookup x=some .cell:=by decide+kernel) (g:∀y∈sc.names,y.2≠ .free:=by decide+kernel):FnScope N P sc:=⟨a,b,c,d,e,f,g⟩
theorem _root_.L2.Fun.oo {P:Program} {w:World} {K:Frg} {mg:Str->Option Value} {base:Heap} {x qual:Str} {st:Stmt} {f:Addr} {fd:FuncData} {N ps:List Str} {k:Nat} {sp:Sp} (F:Fun K x qual st f fd) (s1:FnScope N ps (zk st))
 (Lr:∀{Kt:Value} {A:Around} {outer:List Env} {s:Shared} (H:Hp) (vs:List V) (Q:VK) (E:XK),Room k (A.deeper (envOfC qual (zk st) s.heap.objs.size f Kt))->N.Nodup->sp vs H Q E->
  ∃t,PSs (GL CX0 P w K mg base N qual (zk st) f Kt A outer s H E).nox (Zj st) t/\t {nx:=λ_ H'=>Q .non H',rt:=Q} (jN N vs) H) (len:∀vs H Q E,sp vs H Q E->vs.length=ps.length:=by walk_at "n"):FnOk P w K mg base CX0 (k+1) f fd ps sp:=F.ok s1 len λ_ _ _ _ H vs Q E hr h=>Lr H vs Q E hr s1.nd h
theorem yh       (w:Wk B G0 J xs P) (f:Nat->PyData) (hy:(List.range xs.length).map f=ys) (s1:Sta B G0 H cs ds)
 (hs:∀(i:Nat) (x:PyData) (v:V) {B' G':Hp} {Kd:VK} {Kn:Hp->Prop} {C ex s0 H0},xs[i]? =some x->Turn1 B G0 cs B' G'->Sta B' G' B' [] ((x,v)::ds)->(∀{y:V} {H6:Hp} {cs':yD} {ds':Dat},Sta B' G' H6 cs' ds'->Has ds' (f i) y->Kd y H6)->
  g C ex s0 H0 v (List.replicate n none++frσ σ fr) B' λσ4 H4=>σ4.drop n=frσ σ fr/\tt C ex s0 H0 σ4 H4 λb H5=>if b=true then te C ex s0 H0 σ4 H5 Kd else Kn H5)
 (k:∀D H',zV H H'->Sta B G0 H' ((D,ys)::cs) ds->Q (.ref D) H') (Nh:∀D ys,P ((D,ys)::cs) ds:=by intro _ _;exact .mem (by walk_at "mem")) (hn:xs.length<=1000:=by rw [Qa];omega):Ff n fr g tt te σ Q J H:=
 yt w f hy s1 Nh hn (λi x v _ _ _ _ a b c d _ _ _ _=>hs i x v a b c d) k
theorem kxx {CX:CXT} {P:Program} {w:World} {K:Frg} {mg:Str->Option Value} {base:Heap} {N:List Str} {q:Str} {sc:Scope} {f:Addr} {cd:Value} {A:Around} {o:List Env} {s:Shared} {H:Hp} {E:XK}:(GL CX P w K mg base N q sc f cd A o s H E).nox.K=K:=rfl
theorem kyy {N:List Str} {sc:Scope} {C:Addr} {ex:List Addr} {s:Shared} {H:Hp}:(xu X N sc C ex s H).K=X.K:=rfl
end
theorem Has.mm {ds:Dat} {x:PyData} {v:V} (h:(x,v)∈ds:=by walk_at "mem"):Has ds x v:= .mem h
end S
namespace K
open PySem L2 S
abbrev paa:List Str:=["_law_shape_here","_law_claims_here","_law_parts"]
abbrev pab:List Str:=["one","two"]
abbrev pac:List Str:=["self"]
abbrev pae:List Str:=["self","form"]
abbrev paf:List Str:=["_law_one","_law_two"]
abbrev pag:List Str:=["_law_shape_here","_law_claims_here","_law_purse_here","_law_parts"]
abbrev pah:List Str:=["claims","group"]
abbrev pai:List Str:=["_law_script","_law_at_here","_law_many","_law_size"]
abbrev paj:List Str:=["ones","twos"]
abbrev pak:List Str:=["self","portion","first","last"]
abbrev pal:List Str:=["self","inner"]
abbrev pam:List Str:=["claims"]
abbrev pan:List Str:=["path","places","count"]
abbrev pao:List Str:=["_law_path","_law_purse_here"]
abbrev paq:List Str:=["_law_found"]
abbrev pas:List Str:=["start","end","portion"]
abbrev pau:List Str:=["self","claims","purse"]
abbrev pav:List Str:=["start","end","amount"]
abbrev paw:List Str:=["self","outer","inner"]
abbrev pax:List Str:=["shape","claims"]
abbrev pay:List Str:=["_law_script","_law_k"]
abbrev paz:List Str:=["self","claims"]
abbrev paA:List Str:=["claims","places"]
abbrev paB:List Str:=["_law_shape_here"]
abbrev paC:List Str:=["portion","first","last"]
abbrev paD:List Str:=["outer","inner","claims"]
abbrev paE:List Str:=["_law_top","_law_bottom"]
abbrev paF:List Str:=["_law_whole_here","_law_cell"]
abbrev paG:List Str:=["ahead","corner","following"]
abbrev paH:List Str:=["_law_cell"]
abbrev paI:List Str:=["_law_amounts","_law_parts"]
abbrev paJ:List Str:=["top","bottom"]
abbrev paK:List Str:=["_law_cells","_law_groups"]
abbrev paL:List Str:=["_law_found","_law_parts"]
abbrev paM:List Str:=["parts","places","count"]
abbrev paN:List Str:=["_law_cell","_law_place"]
abbrev paO:List Str:=["path","second"]
abbrev paP:List Str:=["claims","rank"]
abbrev paQ:List Str:=["amounts","amount"]
abbrev paR:List Str:=["path","place","levels"]
abbrev paS:List Str:=["path","others","purse"]
abbrev paT:List Str:=["_law_claims_here"]
abbrev paU:List Str:=["start","end","purse"]
abbrev paV:List Str:=["path","portion"]
abbrev paW:List Str:=["inner","claims"]
abbrev paX:List Str:=["path","others"]
local macro_rules|`(tactic|assumption)=>`(tactic|first|exact .mm|fail)
local macro_rules|`(tactic|right)=>`(tactic|walk_at "mem")
local macro_rules|`(tactic|left)=>`(tactic|walk_at "walk")
abbrev mtM:=Lean.MacroM (Lean.TSyntax `tactic)
def mwt (s:String):mtM:=`(tactic|walk_at $(Lean.quote s))
def mtU (c:Char):mtM:=match c with
 |'a'=>`(tactic|assumption)
 |'H'=>mwt "has"
 |'M'=>mwt "mem"
 |'A'=>mwt "hasall"
 |'z'=>mwt "szq"
 |'D'=>mwt "dom"
 |'m'=>mwt "mul"
 |'s'=>mwt "sz"
 |'u'=>mwt "sub"
 |'v'=>mwt "dats"
 |'r'=>`(tactic|exact rfl)
 |'o'=>`(tactic|omega)
 |'d'=>`(tactic|decide)
 |'K'=>`(tactic|decide+kernel)
 |'x'=>`(tactic|first|decide|omega)
 |'y'=>`(tactic|first|assumption|omega)
 |'t'=>`(tactic|exact ⟨by decide,by decide⟩)
 |'T'=>`(tactic|exact ⟨by decide,by decide,by decide⟩)
 |'N'=>`(tactic|exact jcc rfl)
 |'i'=>`(tactic|(show (0:Int)<_;decide))
 |'j'=>`(tactic|(show (0:Int)<_;omega))
 |'q'=>`(tactic|first|exact kit_tt|exact kit_tl|exact kit_lt|exact kit_ll|exact kit_it|exact kit_il|exact kit_ib|exact kit_ii|exact kit_st|exact kit_sl|exact kit_sb|exact kit_si|exact kit_ss)
 |'L'=>`(tactic|first|assumption|omega|(simp only [str_len];omega)|(simp only [str_len] at*;omega))
 |_=>Lean.Macro.throwUnsupported
def mtY (n:Lean.Name) (s:List Char):mtM:=do
 match s with
 |'!'::c::_=>mtU c
 |'*'::c::_=>Lean.Macro.throwUnsupported
 |'='::r=>do
  let mut a:Array Lean.Term:=#[]
  for c in r do
   if c=='_' then a:=a.push (<-`(_))
   else
    let u<-mtU c
    a:=a.push (<-`(by $u:tactic))
  `(tactic|exact $(Lean.Syntax.mkApp (Lean.mkIdent n) a))
 |_=>do
  let r:=if s.head? ==some '+' then s.tail else s
  let mut a:Array Lean.Term:=#[]
  let mut cs:Array (Lean.TSyntax `tactic):=#[]
  for c in r do
   if c=='_' then a:=a.push (<-`(_))
   else if c.isDigit then
    for _ in List.range (c.toNat - 48) do cs:=cs.push (<-`(tactic|intro _))
   else
    let h:=Lean.mkIdent (<-Lean.Macro.addMacroScope (Lean.Name.mkSimple (if c=='k' then "k" else s!"x{a.size}")))
    a:=a.push (<-`(?$h))
    if c !='k' then
     let u<-mtU c
     cs:=cs.push (<-`(tactic|case $h:ident=>$u:tactic))
  let e:Lean.Term:=Lean.Syntax.mkApp (Lean.mkIdent n) a
  let t<-`(tactic|refine' $e)
  let t<-if s.head? ==some '+' then pure t else `(tactic|with_reducible $t:tactic)
  `(tactic|($t:tactic;$[$cs:tactic];*))
def mtTK:String:="rk:rd_var k:rd_c k:rd_cons k:rd_nil k:rd_seq k:rd_asg k:zE k:rd_nx k:rd_op k:rd_next k:rd_call k:rd_cb k:rd_tup k:rd_fld k:xf k:yN k:XO k:rd_if k:rd_test k:rd_tB k:rd_rI0 k:rd_bm k:rd_rt k:rd_ret k:rd_for k:rd_comp k:rd_drop k:rd_lst k:Gv k:rd_make k:rd_sl k:rd_part k:rd_kPart k:rd_un k:rd_and k:rd_or k:rd_not aHrk:rd_ixTS aqkr:rd_isi k:rd_methA k:rd_eqS aHHzzdDk4:qh aHHzzdk:nD aok:rd_cell ok:rd_div2 aqk:rd_isi k:rd_noPart k:rd_iRv k:rd_true k:rd_gsub k:rd_mix aHk:rd_sumL aMk:rd_sumC k:rd_addI aHrk:rd_ixTI aHrk2:nA aHrk:Yo aHrk2:yr mk:rd_mulB xk:rd_modL yk:rd_modN tk:rd_fdivL ak:rd_fdivB Tk:rd_pow k:rd_nxL k:rd_rtL aANk4:rd_kTup aANk4:rd_kLst k:rd_isbl k:rd_eqI k:rd_neI k:rd_andV k:rd_notV k:rd_rU aHk:rd_lenT aHk:rd_lenL aMk:rd_lenC k:rd_abs k:rd_min k:rd_iList k:rd_iTup k:rd_iR1 k:rd_iR2 k:rd_iEn k:rd_iZi aHk3:xc k:rd_bm0 aMk:rd_kBM aMk:rd_kBM0 aHk4:rd_listL aMk4:rd_listC aMk4:rd_tupleC k:rd_par k:rd_is2 rk:rd_aug k:rd_ipI k:iteT k:iteF k:iteNT . =_:List.Mem.head +_M:List.Mem.tail . =:Has.int =:Has.bl =:Has.non =:Has.str =:Has.mm . =:yH.nil +HA:yH.cons . !a:- =a:SzQ.num =a:SzQ.den =ss:Sz.mul =ss:Sz.add' =ss:Sz.sub' =d:Sz.lit . !a:- =d:IntMulOk.of_left =d:IntMulOk.of_right =d:mulModOk =ssd:Sz.mulOk . !i:- !j:- !d:- !a:- . =_:List.Sublist.refl =_:List.nil_sublist +_u:List.Sublist.cons₂ +_u:List.Sublist.cons . =:Dats.nil +Hv:Dats.cons . !a:- =zz:SzQ.add =zz:SzQ.sub =zz:SzQ.mul =zz:SzQ.div . =:True.intro !a:- . aHHaak4:rd_gap . rk:iteSY Kk:iteSN k:rd_sortS k:rd_methB . k:rd_whole . k:rd_methB ."
def mtK (k:Nat):String:=(mtTK.splitOn " ").getD k "."
def mtN (c:Char):Nat:=if c.isDigit then c.toNat - 48 else c.toNat - 87
def mtT:String:="`aWI # #`bpv %`cfh`dsE`esC # #`feR #`gpix %`hpcl !3 hr #`ips_ret #`jBw _`kps_a % nd0 #`lps_if # # #`mDF hr`nAU`ope_ix ix_seq # # !1`pqo # # # #`qpg_c %`rpe_op op_mulB # #`spe_tup #`top_eqA #`uqp`vkL #`wpgs_cons # #`xpe_str`ypcf $ % & # # # #`zpg_a % nd0`Ape_op AY # #`BcY oy rfl B.len GP #`Cpe_bl`Dpe_lst #`Ept_val #`Fpe_op op_mod # #`Gps_expr #`Hps_for PassesOwn.never rfl # # #`Ipgs_nil`Jpt_not #`Kpg_tup rfl #`LPW.pt #`Mpe_un un_neg #`Npe_op op_sub # #`Opw_or # #`Pop_neA #`Qpo_some #`Rpscf % nd0 $ % & # # # #`ScY # rfl B.sum bt_sum #`Tcall_sumA rfl`Uqo op_gt # # #`Vpe_op op_fdiv # #`Wpw_or1 #`Xpe_slice sl_list # # #`Ype_bm PySem.F.plainAttrs_list PySem.F.slot_list_append PySem.F.type_list_append nN # #`Zpe_callTy IM rfl B.tuple bt_tuple #`0pe_op op_modN # #`1qo op_lt # # #`2pw_and # #`3po_none`4pe_ccall rfl Zn eE eO xW # hr xV xX pass0 #`5xY.mono !2`6pw_and1 #`7pe_op op_fdivB # #`8cY call_isi rfl B.isinstance FA #`9pe_op op_pow # #`+pe_methA # # hr xp pass0`-ZN.mono !2`*ps_while PassesOwn.never # #`/pi_zip false false rfl B.zip #`<pif_one #`>pi_tup #`=ps_asg # #`!pe_methB # # hr XW pass0 #`?Ug.mono !2`@pe_cmpR # # # #`#pi_zip true true rfl B.zip #`$pe_op op_addS # #`%pi_enum true rfl B.enumerate #`&Eh rfl rfl B2.sorted rfl B2.set #`^pe_bltn !4 rfl B.tuple bt_tuple rfl`~pi_range1 rfl B.range #`|cY call_absA rfl B.abs bt_abs #`:ps_aug !6 nd0 rfl !7 # ip_add`.cY # rfl B.min GO #`,pe_and # #`;pe_one #`_pe_callTy Jm rfl B.list bt_list #`(eR sD`)pe_cmpR op_lt # # #`[pe_fld # rfl`]pe_op op_rep # #`{pi_zip false true rfl B.zip #`}call_minL rfl`αcY # rfl B.max bt_max #`βcall_maxL rfl`γpi_range2 rfl B.range #`δpi_enum false rfl B.enumerate #`εpi_rev rfl B.reversed #`ζps_fld # # rfl`ηpe_bm PySem.F.plainAttrs_list PySem.F.slot_list_extend PySem.F.type_list_extend Jk # #`θpg_sub # # set_list`ιpe_bm PySem.F.plainAttrs_list PySem.F.slot_list_extend PySem.F.type_list_extend mt_extend # #`κps_par !6 !a rfl nd0 rfl rfl !b rfl rfl # rfl`νpe_bltn !4 rfl B.int bt_int rfl`ξpe_not #`πpe_bltn !4 rfl B.bool bt_bool rfl`ρpe_cmpR op_gt # # #`σqo op_le # # #`τCD rfl`υpe_make0 oM # hr rfl td CY !8 pass0`φDi.mono !2`χpe_make0 oQ # hr rfl tq Df !8 pass0`ψDn.mono !2`ωpe_make0 oN # hr rfl tf CZ !8 pass0`ΓDj.mono !2`Δpe_make0 oO # hr rfl tj Dc !8 pass0`ΘDk.mono !2`Ξpe_make tP # hr rfl Ce FR !8 pass0 #`ΠFZ.mono !2`Σpe_make tO # hr rfl Cd FQ !8 pass0 #`ΦFY.mono !2`Ψpe_make oP # hr rfl tm Dd !8 pass0 #`ΩDm.mono !2`аpe_make CP # hr rfl GI GQ !8 pass0 #`бGX.mono !2`вpe_bltn !4 rfl B.list bt_list rfl`гcY # rfl B2.all bt_all #`дcall_allA rfl`еpg_lst rfl #`жcY call_isC rfl B.isinstance FA #`зHQ !5 rfl Zn rfl`иpe_methB # # hr cp pass0 #`йcx.mono !2`кpe_bm0 PySem.F.plainAttrs_list PySem.F.slot_list_clear PySem.F.type_list_clear mt_clear #"
def mtG:Nat->List Char->Lean.MacroM (Lean.Term×List Char)
 |0,_=>Lean.Macro.throwUnsupported
 |_,[]=>Lean.Macro.throwUnsupported
 |k+1,c::r=>do
  let mut a:Array Lean.Term:=#[]
  let mut r:=r
  for w in ((((mtT.splitOn ("`"++c.toString)).getD 1 "").splitOn "`").head!).splitOn " " do
   if w=="#" then
    let p<-mtG k r
    a:=a.push p.1
    r:=p.2
   else if w=="%" then
    a:=a.push (Lean.quote (mtN r.head!))
    r:=r.tail!
   else if w=="$" then
    a:=a.push (Lean.quote ((String.ofList (r.takeWhile (·!=';'))).splitOn ","))
    r:=(r.dropWhile (·!=';')).tail!
   else if w=="&" then
    a:=a.push (Lean.quote ((r.takeWhile (·!=';')).map mtN))
    r:=(r.dropWhile (·!=';')).tail!
   else if w=="_" then a:=a.push (<-`(_))
   else if w=="!1" then a:=a.push (<-`(λ_ _=>rfl))
   else if w=="!2" then a:=a.push (<-`(by walk_at "l"))
   else if w=="!4" then
    a:=a.push ⟨<-`(Lean.Parser.Term.namedArgument|(v:= .ty $(Lean.quote (String.ofList (r.takeWhile (·!=';')))):term))⟩
    r:=(r.dropWhile (·!=';')).tail!
   else if w=="!5" then a:=a.push ⟨<-`(Lean.Parser.Term.namedArgument|(v:= .ref _))⟩
   else if w=="!6" then
    a:=a.push ⟨<-`(Lean.Parser.Term.namedArgument|(i:=$(Lean.quote (mtN r.head!))))⟩
    r:=r.tail!
   else if w=="!7" then a:=a.push (<-`(by walk_at "o"))
   else if w=="!8" then a:=a.push (<-`(.nil))
   else if w=="!9" then a:=a.push (<-`(⟨_,rfl⟩))
   else if w=="!a" then a:=a.push ⟨<-`(Lean.Parser.Term.namedArgument|(j:=1))⟩
   else if w=="!b" then a:=a.push (<-`(by decide))
   else if w=="!3" then a:=a.push (<-`(by assumption))
   else a:=a.push (Lean.mkIdent w.toName)
  return (Lean.Syntax.mkApp a[0]! (a.extract 1 a.size),r)
local macro_rules|`(tactic|walk_at $s:str)=>do
 match s.getString.toList with
 |'='::r=>
  let p<-mtG 999 r
  `(tactic|(refine ⟨_,$(p.1),kI ?_⟩;try dsimp only [kxx,kyy]))
 |_=>Lean.Macro.throwUnsupported
local macro_rules|`(tactic|fail $s:str)=>do
 match s.getString.toList with
 |'&'::r=>
  let k:=(String.ofList r).toNat! +1
  if mtK k=="." then Lean.Macro.throwUnsupported
  else `(tactic|fail $(Lean.quote ("&"++toString k)))
 |_=>Lean.Macro.throwUnsupported
local macro_rules|`(tactic|fail $s:str)=>do
 match s.getString.toList with
 |'&'::r=>
  let w:=mtK (String.ofList r).toNat!
  if w=="." then Lean.Macro.throwUnsupported
  else match w.splitOn ":" with
   |[c,n]=>mtY n.toName c.toList
   |_=>Lean.Macro.throwUnsupported
 |_=>Lean.Macro.throwUnsupported
local macro_rules|`(tactic|walk_at "n")=>`(tactic|(intro _ _ _ _ h;first|(obtain ⟨_,_,_,h,_⟩:=h;rw [<-h.len];rfl)|(obtain ⟨_,h,_⟩:=h;rw [<-h.len];rfl)|(obtain ⟨_,_,e,_⟩:=h;subst e;rfl)|(obtain ⟨_,_,_,e,_⟩:=h;subst e;rfl)|(obtain ⟨_,e,_⟩:=h;subst e;rfl)|(obtain ⟨_,_,_,_,e,_⟩:=h;subst e;rfl)|(obtain ⟨_,_,_,_,_,e,_⟩:=h;subst e;rfl)|(obtain ⟨_,_,_,_,_,_,e,_⟩:=h;subst e;rfl)))
local macro_rules|`(tactic|walk_at "mem")=>`(tactic|first|fail "&100"|fail)
local macro_rules|`(tactic|walk_at "has")=>`(tactic|first|fail "&103"|fail)
local macro_rules|`(tactic|walk_at "hasall")=>`(tactic|first|fail "&109"|fail)
local macro_rules|`(tactic|walk_at "sz")=>`(tactic|first|fail "&112"|fail)
local macro_rules|`(tactic|walk_at "mul")=>`(tactic|first|fail "&120"|fail)
local macro_rules|`(tactic|walk_at "div")=>`(tactic|exact ⟨by decide,by decide⟩)
local macro_rules|`(tactic|walk_at "mod")=>`(tactic|first|fail "&126"|fail)
local macro_rules|`(tactic|walk_at "rd")=>`(tactic|first|fail "&0"|fail)
local macro_rules|`(tactic|walk_at "sub")=>`(tactic|first|fail "&131"|fail)
local macro_rules|`(tactic|walk_at "dats")=>`(tactic|first|fail "&136"|fail)
local macro_rules|`(tactic|walk_at "walk")=>`(tactic|repeat walk_at "rd")
local macro_rules|`(tactic|walk_at "szq")=>`(tactic|first|fail "&139"|fail)
local macro_rules|`(tactic|walk_at "dom")=>`(tactic|first|fail "&145"|fail)
def DL (K:Frg):Sp:=λvs H Q _=>∃(a:Addr) (ns:List Int),vs=[.ref a]/\SqL K H a (ns.map V.int)/\ns.length<=63/\Only H/\∀H',Q (.bl true) H'
theorem UM {P:Program} {w:World} {K:Frg} {mg:Str->Option Value} {base:Heap} {f:Addr} {fd:FuncData} {k:Nat} {x:Str} {st:Stmt} {ps:List Str} {sp:Sp} (F:Fun K x x st f fd) (G:FnOk P w K mg base CX0 k f fd ps sp) (hm:mg x=some (.ref f)) (b:xi K fd ps []):Cal P w K mg base CX0 k x ps sp:=⟨f,fd,G,hm,F.kp,b⟩
section
variable {P:Program} {w:World} {K:Frg} {mg:Str->Option Value} {base:Heap} {f:Addr} {fd:FuncData}
def top (i:Nat):Stmt:=PySem.Challenge.pw_shortpurse_k27_the_path_of_a_rule.main.body.getD i (.Pass ⟨0,0,0,0⟩)
abbrev Zd:Stmt:=top 20
theorem VO:FnScope ["one","two","rest"] pab (zk Zd):=xt
abbrev kv:Stmt:=top 19
theorem Am:FnScope ["top","bottom","divisor"] paJ (zk kv):=xt
def spGcd:Sp:=λvs H Q _=>∃a b:Int,vs=[.int a, .int b]/\0<=a/\0<=b/\Q (.int (Int.gcd a b:Nat)) H
theorem ok_gcd (F:Fun K "greatest_divisor" "greatest_divisor" Zd f fd):FnOk P w K mg base CX0 1 f fd pab spGcd:=by
 refine F.oo VO λH vs Q E hr nd0 h=>?_;obtain ⟨a,b,rfl,ha,hb,q⟩:=h;walk_at "=e*pPmb1djek20b0b1ek0b1fk1b2fib0";refine pC (λm σ H2=>∃(x y:Int) (v:Option V),σ=[some (.int x),some (.int y),v]/\0<=x/\0<=y/\Int.gcd x y=Int.gcd a b/\H2=H/\m=y.toNat) _ ⟨a,b,none,rfl,ha,hb,rfl,rfl,rfl⟩ ?_
 rintro m σ H2 ⟨x,y,v,rfl,hx,hy,hg,rfl,rfl⟩
 left;refine uD (λc=>?_) (λc=>?_)
 ·have c:y≠0:=by simpa using c
  left;have e:x.fmod y=x % y:=Tp x hy;have l1:=jaB x c;have l2:=jaj x (show 0<y by omega);refine ⟨(x.fmod y).toNat,by rw [e];omega,y,x.fmod y,_,rfl,hy,by rw [e];exact l1,?_,rfl,rfl⟩;rw [e,sY,hg]
 ·have c:y=0:=by simpa using c
  subst c;left;have e:x=((Int.gcd a b:Nat):Int):=by rw [<-hg,Int.gcd_zero];omega
  show Q (.int x) H2;rw [e];exact q
theorem Bk (B:Bl mg) (ui:Cal P w K mg base CX0 1 "greatest_divisor" pab spGcd) (F:Fun K "lowest" "lowest" kv f fd):FnOk P w K mg base CX0 2 f fd paJ WY:=by
 refine F.oo Am λH vs Q E hr nd0 h=>?_;obtain ⟨G,⟨a,b⟩,eG,hA,⟨hb,sb⟩,k⟩:=h;cases (yJ (ns:=[a,b]) hA);have S:Sta H G H [] []:=Sta.enter eG λp hp=>absurd hp Qn;dsimp only at hb sb k;walk_at "=ek2ha|ab0ca|ab1ccel1b1djfk2Mb2nfisa7b0b2a7b1b2c";left;refine ⟨_,_,rfl,by omega,by omega,?_⟩;rw [show Int.gcd (a.natAbs:Int) (b.natAbs:Int)=Int.gcd a b by simp;rfl];have gp:0<Int.gcd a b:=jbu a hb
 have gs:Sz 8999 (Int.gcd a b:Nat):=by
  refine Sz.le sb ?_;have:=Nat.le_of_dvd (by omega) (jbQ a b);omega
 left;refine Yw (λc=>?_) (λc=>?_)
 ·have hc:CDv a (-((Int.gcd a b:Nat):Int)):=⟨by omega,gs.le (by omega)⟩;left;refine xN (by assumption) k (.mem ?_);rw [show frD (Rat.divInt a b)= .tuple [.int (a.fdiv (-((Int.gcd a b:Nat):Int))), .int (b.fdiv (-((Int.gcd a b:Nat):Int)))] by unfold frD;rw [<-(BG c).1,<-(BG c).2]];walk_at "mem"
 ·have hc:CDv a ((Int.gcd a b:Nat):Int):=⟨by omega,gs⟩;left;refine xN (by assumption) k (.mem ?_);rw [show frD (Rat.divInt a b)= .tuple [.int (a.fdiv ((Int.gcd a b:Nat):Int)), .int (b.fdiv ((Int.gcd a b:Nat):Int))] by unfold frD;rw [<-(aS (show 0<b by omega)).1,<-(aS (show 0<b by omega)).2]];walk_at "mem"
abbrev Au:Stmt:=top 14
theorem Hq:FnScope pab pab (zk Au):=xt
theorem HX (YO:Cal P w K mg base CX0 2 "lowest" paJ WY) (F:Fun K "plus" "plus" Au f fd):FnOk P w K mg base CX0 3 f fd pab rV:=by
 refine F.oo Hq λH vs Q E hr nd0 h=>?_;obtain ⟨G,⟨p,q⟩,eG,hA,⟨⟨m,n,hp,hq,LB⟩,_⟩,k⟩:=h;obtain ⟨v,w',rfl,al⟩:=xo hA;have S:Sta H G H [] _:=Sta.enter eG al;dsimp only at hp hq k S;have o1:IntMulOk p.num (q.den:Int):=hp.1.mulOk hq.2 (by omega);have o2:IntMulOk q.num (p.den:Int):=hq.1.mulOk hp.2 (by omega);have o3:IntMulOk (p.den:Int) (q.den:Int):=hp.2.mulOk hq.2 (by omega);have o4:IntMulOk p.num q.num:=hp.1.mulOk hq.1 (by omega);walk_at "=fihaArg0g1rg1g0arg0g1c";left;refine UA (by assumption) (xw p q) ((hp.2.mul hq.2).mono LB) λr H' e S=>?_;rw [CN] at S;exact xN S k ‹_›
abbrev qe:Stmt:=top 15
theorem DU:FnScope pab pab (zk qe):=xt
theorem Ew (YO:Cal P w K mg base CX0 2 "lowest" paJ WY) (F:Fun K "minus" "minus" qe f fd):FnOk P w K mg base CX0 3 f fd pab ao:=by
 refine F.oo DU λH vs Q E hr nd0 h=>?_;obtain ⟨G,⟨p,q⟩,eG,hA,⟨⟨m,n,hp,hq,LB⟩,_⟩,k⟩:=h;obtain ⟨v,w',rfl,al⟩:=xo hA;have S:Sta H G H [] _:=Sta.enter eG al;dsimp only at hp hq k S;have o1:IntMulOk p.num (q.den:Int):=hp.1.mulOk hq.2 (by omega);have o2:IntMulOk q.num (p.den:Int):=hq.1.mulOk hp.2 (by omega);have o3:IntMulOk (p.den:Int) (q.den:Int):=hp.2.mulOk hq.2 (by omega);have o4:IntMulOk p.num q.num:=hp.1.mulOk hq.1 (by omega);walk_at "=fihaNrg0g1rg1g0arg0g1c";left;refine UA (by assumption) (xw p q) ((hp.2.mul hq.2).mono LB) λr H' e S=>?_;rw [wR] at S;exact xN S k ‹_›
abbrev qd:Stmt:=top 16
theorem DS:FnScope pab pab (zk qd):=xt
theorem Ek (YO:Cal P w K mg base CX0 2 "lowest" paJ WY) (F:Fun K "times" "times" qd f fd):FnOk P w K mg base CX0 3 f fd pab pO:=by
 refine F.oo DS λH vs Q E hr nd0 h=>?_;obtain ⟨G,⟨p,q⟩,eG,hA,⟨⟨m,n,hp,hq,LB⟩,_⟩,k⟩:=h;obtain ⟨v,w',rfl,al⟩:=xo hA;have S:Sta H G H [] _:=Sta.enter eG al;dsimp only at hp hq k S;have o1:IntMulOk p.num (q.den:Int):=hp.1.mulOk hq.2 (by omega);have o2:IntMulOk q.num (p.den:Int):=hq.1.mulOk hp.2 (by omega);have o3:IntMulOk (p.den:Int) (q.den:Int):=hp.2.mulOk hq.2 (by omega);have o4:IntMulOk p.num q.num:=hp.1.mulOk hq.1 (by omega);walk_at "=fiharg0g1arg0g1c";left;refine UA (by assumption) (xw p q) ((hp.2.mul hq.2).mono LB) λr H' e S=>?_;rw [Bx] at S;exact xN S k ‹_›
abbrev Av:Stmt:=top 17
theorem Hr:FnScope pab pab (zk Av):=xt
theorem HY (YO:Cal P w K mg base CX0 2 "lowest" paJ WY) (F:Fun K "over" "over" Av f fd):FnOk P w K mg base CX0 3 f fd pab Gq:=by
 refine F.oo Hr λH vs Q E hr nd0 h=>?_;obtain ⟨G,⟨p,q⟩,eG,hA,⟨⟨m,n,hp,hq,LB⟩,h0⟩,k⟩:=h;obtain ⟨v,w',rfl,al⟩:=xo hA;have S:Sta H G H [] _:=Sta.enter eG al;dsimp only at hp hq k S h0;have o1:IntMulOk p.num (q.den:Int):=hp.1.mulOk hq.2 (by omega);have o2:IntMulOk (p.den:Int) q.num:=hp.2.mulOk hq.1 (by omega);have h1:=Gy h0;walk_at "=elptmg1dj(nfiharg0g1arg0g1c";left;refine Yw (λc=>absurd c h1) (λ_=>?_);left;refine UA (by assumption) (Int.mul_ne_zero (Int.ne_of_gt (den_pos p)) h1) ((hp.2.mul hq.1).mono LB) λr H' e S=>?_;rw [Cq p q h0] at S;exact xN S k ‹_›
abbrev kF:Stmt:=top 18
theorem Ar:FnScope pab pab (zk kF):=xt
theorem Bt (F:Fun K "before" "before" kF f fd):FnOk P w K mg base CX0 1 f fd pab cV:=by
 refine F.oo Ar λH vs Q E hr nd0 h=>?_;obtain ⟨⟨p,q⟩,hA,⟨m,n,hp,hq,LB⟩,k⟩:=h;obtain ⟨v,w',rfl,al⟩:=xo hA;have S:Sta H H H [] _:=Sta.enter (zV.refl _) al;dsimp only at hp hq k S;have o1:IntMulOk p.num (q.den:Int):=hp.1.mulOk hq.2 (by omega);have o2:IntMulOk q.num (p.den:Int):=hq.1.mulOk hp.2 (by omega);walk_at "=fi)rg0g1rg1g0j";left;rw [show decide (p<q)=decide (p.num*(q.den:Int)<q.num*(p.den:Int)) from decide_eq_decide.mpr (Rat.lt_iff p q)] at k;exact k
abbrev YV:Stmt:=top 35
theorem dX:FnScope ["amounts","amount","low","high","middle"] paQ (zk YV):=xt
theorem Ia (B:Bl mg) (dz:Cal P w K mg base CX0 1 "before" pab cV) (F:Fun K "last_reached" "last_reached" YV f fd):FnOk P w K mg base CX0 2 f fd paQ rX:=by
 refine F.oo dX λH vs Q E hr nd0 h=>?_;obtain ⟨qs,e,n,hA,⟨Rh,Mw,zq,ze,hn,RG⟩,k⟩:=h;obtain ⟨va,ve,rfl,al⟩:=xo hA;have S:Sta H H H [] [(.list (qs.map frD),va),(frD e,ve)]:=Sta.enter (zV.refl _) al;have Sg:n+n<=100000000:=by omega
 walk_at "=ek2dek3Bab0ce*UNb3b2djek4VAb2b3dflEhab1aob0b4cfk3b4fk2b4fib2";left
 refine pC (λm σ H2=>∃(low high:Nat) (x4:Option V) (q:Rat),σ=[some va,some ve,some (.int (low:Nat)),some (.int (high:Nat)),x4]/\H2=H/\low<high/\high<=qs.length/\qs[low]? =some q/\q<=e/\(high=qs.length\/∃r,qs[high]? =some r/\e<r)/\m=high - low) (qs.length - 0) ⟨0,qs.length,none,qs[0],by
  rw [Qa];rfl,rfl,Rh,Qv _,Qb Rh,RG _ (Qb Rh), .inl rfl,rfl⟩ ?_
 rintro m σ H2 ⟨low,high,x4,q,rfl,rfl,hlh,hhn,hq,Lz,OU,rfl⟩
 left;refine uD (λc=>?_) (λc=>?_)
 ·have c:1<(high:Int) - low:=by simpa using c
  have em:((low:Int)+high) / 2=(((low+high) / 2:Nat):Int):=by omega
  have hm1:low<(low+high) / 2:=by omega
  have Rt:(low+high) / 2<high:=by omega
  left;rw [em];generalize (low+high) / 2=mid at*;have OS:qs[mid]? =some (qs[mid]'(by omega)):=Qb _;generalize (qs[mid]'(by omega))=p at*;refine yr (xs:=qs.map frD) (x:=frD p) S ‹_› (yi (by rw [Qh,OS];rfl)) λwp S2=>?_;have zp:=zq p (Qc OS);refine nD (m:=n) (n:=n) S2 ‹_› ‹_› ze zp Sg ?_;left;refine Yw (λc1=>?_) (λc1=>?_)
  ·left;exact ⟨mid - low,by omega,low,mid,_,q,rfl,rfl,hm1,by omega,hq,Lz, .inr ⟨p,OS,c1⟩,rfl⟩
  ·left;exact ⟨high - mid,by omega,mid,high,_,p,rfl,rfl,Rt,hhn,OS,Tf.mp c1,OU,rfl⟩
 ·have c:¬1<(high:Int) - low:=by simpa using c
  have e1:high=low+1:=by omega
  subst e1;left;exact k low q hq Lz OU
abbrev Zq:Stmt:=top 31
theorem Uu:FnScope pav pav (zk Zq):=xt
theorem uS (Xd:Cal P w K mg base CX0 3 "minus" pab ao) (GZ:Cal P w K mg base CX0 3 "over" pab Gq) (F:Fun K "portion_reached" "portion_reached" Zq f fd):FnOk P w K mg base CX0 4 f fd pav Up:=by
 refine F.oo Uu λH vs Q E hr nd0 h=>?_;obtain ⟨G,⟨s',e',x⟩,eG,hA,⟨⟨m,n,z1,z2,z3,hz⟩,KN⟩,k⟩:=h;obtain ⟨v1,v2,v3,rfl,al⟩:=ZT hA;have S:Sta H G H [] _:=Sta.enter eG al;dsimp only at z1 z2 z3 KN k S;walk_at "=fihahab2ab0cahab1ab0cc";left;refine qh S ‹_› ‹_› z3 z1 (by omega) True.intro λr1 H1 e1 S1=>?_;left;refine qh S1 ‹_› ‹_› z2 z1 (by omega) True.intro λr2 H2 e2 S2=>?_;left;refine qh S2 ‹_› ‹_› (z3.sub z1) (z2.sub z1) (by omega) (λz=>KN (by grind)) λr3 H3 e3 S3=>?_;exact xN S3 k ‹_›
abbrev VW:Stmt:=top 32
theorem mV:FnScope pas pas (zk VW):=xt
theorem Bu (jF:Cal P w K mg base CX0 3 "plus" pab rV) (Xd:Cal P w K mg base CX0 3 "minus" pab ao) (mf:Cal P w K mg base CX0 3 "times" pab pO) (F:Fun K "amount_at" "amount_at" VW f fd):FnOk P w K mg base CX0 4 f fd pas cW:=by
 refine F.oo mV λH vs Q E hr nd0 h=>?_;obtain ⟨G,⟨s',e',t⟩,eG,hA,⟨m,n,z1,z2,z3,hz⟩,k⟩:=h;obtain ⟨v1,v2,v3,rfl,al⟩:=ZT hA;have S:Sta H G H [] _:=Sta.enter eG al;dsimp only at z1 z2 z3 k S;walk_at "=fihab0ahab2ahab1ab0ccc";left;refine qh S ‹_› ‹_› z2 z1 (by omega) True.intro λr1 H1 e1 S1=>?_;left;refine qh S1 ‹_› ‹_› z3 (z2.sub z1) (by omega) True.intro λr2 H2 e2 S2=>?_;left;refine qh S2 ‹_› ‹_› z1 (z3.mul (z2.sub z1)) (by omega) True.intro λr3 H3 e3 S3=>?_;exact xN S3 k ‹_›
abbrev Yj:Stmt:=top 30
theorem cz:FnScope ["start","end","purse","portion"] paU (zk Yj):=xt
theorem uZ (B:Bl mg) (bU:Cal P w K mg base CX0 4 "portion_reached" pav Up) (rH:Cal P w K mg base CX0 4 "amount_at" pas cW) (F:Fun K "parts_between" "parts_between" Yj f fd):FnOk P w K mg base CX0 5 f fd paU dO:=by
 refine F.oo cz λH vs Q E hr nd0 h=>?_;obtain ⟨G,⟨c,d,e⟩,eG,hA,⟨⟨m,n,z1,z2,z3,hz⟩,Kr,hl⟩,k⟩:=h;obtain ⟨v1,v2,v3,rfl,al⟩:=ZT hA;have S:Sta H G H [] _:=Sta.enter eG al;dsimp only at z1 z2 z3 Kr hl k S;walk_at "=ek3hag0ag1ab2cfiZayone,two,portion;23;/ag0ag1cKwq0wq1Iuhab0ab1ab2cc";left;rename_i w1 S1 w2 S2;refine iT S2 ‹_› ‹_› ‹_› z1.1 z2.1 z3 (by omega) (λz=>by rw [z] at Kr;exact jaS Kr) λr3 H3 e3 S3=>?_;have zt:SzQ (m+3*n+2) ((e - c.1) / (d.1 - c.1)):=((z3.sub z1.1).div (z2.1.sub z1.1)).mono (by omega);left;rename_i w4 S4 w5 S5;unfold Yx at k;generalize (e - c.1) / (d.1 - c.1)=t at*;refine UB (xs:=c.2.map frD) (ys:=d.2.map frD) S5 ‹_› ‹_› λJ wk=>?_;refine yt wk (λj=>frD ((List.zipWith (xC t) c.2 d.2).getD j 0)) (ys:=(List.zipWith (xC t) c.2 d.2).map frD) ?_ S5 (λ_ _=>⟨.mem (by right),λ_ _ h=>h.tail, .mem (by right)⟩) (by rw [yR,Qa,Qa];omega) (λj x v B' G' Kd Kn hx t1 S hd C ex s0 H0=>?_) λD H1 e1 S1=>?_
 ·rw [yR,Qa,Qa,show min c.2.length d.2.length=(List.zipWith (xC t) c.2 d.2).length by rw [Qy]];exact zo frD 0 _
 ·obtain ⟨x1,x2,h1,h2,rfl⟩:=Zo hx;obtain ⟨n1,LF,rfl⟩:=zJ h1;obtain ⟨n2,Lp,rfl⟩:=zJ h2;refine xf (xc S ‹_› λw1 w2 S=>?_);refine yN (zE (yN (zE (XO ⟨rfl,?_⟩))));left;refine nE S ‹_› ‹_› ‹_› (z1.2 n1 (Qc LF)) (z2.2 n2 (Qc Lp)) zt (by omega) λr6 H6 e6 S6=>?_;refine hd S6 ?_;rw [zF (n:=xC t n1 n2) (by rw [Qt,LF,Lp])];exact .mem (by right)
 left;exact xN (by assumption) k ‹_›
abbrev ax:Stmt:=top 23
theorem pX:FnScope ["path","purse","place"] ["path","purse"] (zk ax):=xt
theorem uU (B:Bl mg) (iI:Cal P w K mg base CX0 2 "last_reached" paQ rX) (CU:Cal P w K mg base CX0 5 "parts_between" paU dO) (F:Fun K "parts_at" "parts_at" ax f fd):FnOk P w K mg base CX0 6 f fd ["path","purse"] Uq:=by
 refine F.oo pX λH vs Q E hr nd0 h=>?_;obtain ⟨G,⟨a,e⟩,eG,hA,⟨m,n,ok,ze,hz,h0⟩,k⟩:=h;obtain ⟨v1,v2,rfl,al⟩:=xo hA;have S:Sta H G H [] _:=Sta.enter eG al;dsimp only at ok ze h0 k S;have few:=ok.few
 have Mo:¬e.num<0:=by
  have:=Rat.num_nonneg.mpr h0;omega
 have la:0<a.length:=jaz.mpr ok.ne;walk_at "=el1g1dj(nek2haycorner;1;vb0q0ug0ab1celptmb2NBab0cdjfioob0b2dnfihaob0b2aob0Ab2dab1c";left;refine Yw (λc=>absurd c Mo) (λ_=>?_);left;refine zN (xs:=a.map zA) S ‹_› λJ wk=>?_;refine yh wk (λj=>frD ((λc:zg=>c.1) (a.getD j (0,[])))) (ys:=(a.map λc=>c.1).map frD) (by rw [Qa,Qr];exact zo (λc:zg=>frD c.1) (0,[]) a) S (λj x v=>λhx t1 S hd=>?_) λD H1 e1 S1=>?_
 ·obtain ⟨c,hc,rfl⟩:=zJ hx;refine zE ⟨rfl,?_⟩;left;refine hd (by assumption) ?_;rw [zF hc];exact .mem (by right)
 left;refine AH (qs:=a.map λc=>c.1) (e:=e) (n:=9000) S1 (S1.hpC (by right)) (S1.hp ‹_›) ⟨by rw [Qa];exact la,by rw [Qa];omega,λq hq=>?_,ze.mono (by omega),by decide,λq hq=>?_⟩ λi q hi Lz MZ=>?_
 ·obtain ⟨c,hc,rfl⟩:=Qj.mp hq;exact (ok.sz c hc).1.mono (by omega)
 ·obtain ⟨c,hc,rfl⟩:=zJ hq;rw [ok.zero c hc];exact h0
 obtain ⟨c,hc,rfl⟩:=zJ hi;have OT:i<a.length:=(Qd.mp hc).1
 have key:=Zg (E:=e) ok.rise hc Lz (by
  rcases MZ with h|⟨r,Lg,h⟩
  ·exact Or.inl (by simpa using h)
  ·obtain ⟨d,hd,rfl⟩:=zJ Lg
   exact .inr ⟨d,hd,h⟩)
 left;refine Yw (λc1=>?_) (λc1=>?_)
 ·rw [Qa] at c1;rw [QF (show a.length<=i+1 by omega)] at key;left;refine yr (xs:=a.map zA) (x:=zA c) S1 ‹_› (yi (by rw [Qh,hc];rfl)) λwc S2=>?_;left;rw [key] at k;exact xN (by assumption) k ‹_›
 ·rw [Qa] at c1;have Kr:i+1<a.length:=by omega
  have hd:=Qb Kr;have Lg:=ok.rise;unfold yl at Lg;rw [QJ] at Lg;have Ku:=Lg i (i+1) OT Kr (by omega);rw [List.getElem_eq_iff OT|>.mpr hc] at Ku;generalize a[i+1]=d at*;rw [hd] at key;left;refine yr (xs:=a.map zA) (x:=zA c) S1 ‹_› (yi (by rw [Qh,hc];rfl)) λwc S2=>?_;left;refine yr (xs:=a.map zA) (x:=zA d) S2 ‹_› (by rw [show ((i:Nat):Int)+1=((i+1:Nat):Int) by omega];exact yi (by rw [Qh,hd];rfl)) λwd S3=>?_;left;refine uK S3 ‹_› ‹_› ‹_› (ok.sz c (Qc hc)) (ok.sz d (Qc hd)) ze hz Ku (ok.len c (Qc hc)) λr4 H4 e4 S4=>?_;rw [key] at k;exact xN S4 k ‹_›
local macro_rules|`(tactic|walk_at "rd")=>`(tactic|first|fail "&148"|fail)
abbrev Hs:Stmt:=top 29
theorem sc_gap:FnScope pab pab (zk Hs):=xt
abbrev XM:Stmt:=top 28
theorem gR:FnScope ["ahead","corner","following","near","far","place","start","rise","whole"] paG (zk XM):=xt
abbrev ef:Stmt:=top 22
theorem ux:FnScope ["corners","last"] ["corners"] (zk ef):=xt
theorem ok_gap (F:Fun K "gap" "gap" Hs f fd):FnOk P w K mg base CX0 1 f fd pab Hm:=by
 refine F.oo sc_gap λH vs Q E hr nd0 h=>?_;obtain ⟨G,⟨p,q⟩,eG,hA,⟨hp,hq⟩,k⟩:=h;obtain ⟨v,w',rfl,al⟩:=xo hA;have S:Sta H G H [] _:=Sta.enter eG al;dsimp only at hp hq k S;have o1:IntMulOk q.num (p.den:Int):=hq.1.mulOk hp.2 (by decide);have o2:IntMulOk p.num (q.den:Int):=hp.1.mulOk hq.2 (by decide);have o3:IntMulOk (p.den:Int) (q.den:Int):=hp.2.mulOk hq.2 (by decide);walk_at "=fisaNrg1g0rg0g1arg0g1c";left;exact xN (by assumption) k ‹_›
theorem qv (B:Bl mg) (JR:Cal P w K mg base CX0 1 "gap" pab Hm) (F:Fun K "is_straight" "is_straight" XM f fd):FnOk P w K mg base CX0 2 f fd paG Hi:=by
 refine F.oo gR λH vs Q E hr nd0 h=>?_;obtain ⟨⟨a,b,c⟩,hA,⟨sa,sb,sc,l1,l2,l3⟩,k⟩:=h;obtain ⟨va,vb,vc,rfl,al⟩:=ZT hA;have S:Sta H H H [] _:=Sta.enter (zV.refl _) al;dsimp only at sa sb sc l1 l2 l3 k S;have za:=sa.1;have zb:=sb.1;have zc:=sc.1;have zn:=sZ za zb;have zf:=sZ za zc;walk_at "=ek3hag0ag1cek4hag0ag2ceHδag0cKwz5wz6Iek7hab6aog1b5cek8hab6aog2b5cflpPmrrrg7g3g8g4rrrg8g4g7g3jfiCnfiC";left;rename_i w1 _ w2 _ vn H1 e1 S1 w3 _ w4 _ vf H2 e2 S2 w5 S3;refine HF (xs:=a.2.map frD) S3 ‹_› λJ wk=>?_;have S4:Sta H H H2 [] [(zR a.2,w5),(Jl a.1 b.1,vn),(Jl a.1 c.1,vf),(zA a,va),(zA b,vb),(zA c,vc)]:=S3.dat (by walk_at "dats")
 refine xF wk (λi σ cs ds=>∃(x5 x6 x7 x8:Option V),σ=[some va,some vb,some vc,some vn,some vf,x5,x6,x7,x8]/\cs=[]/\ds=[(zR a.2,w5),(Jl a.1 b.1,vn),(Jl a.1 c.1,vf),(zA a,va),(zA b,vb),(zA c,vc)]/\
  ∀(j:Nat) (x y z:Rat),j<i->a.2[j]? =some x->b.2[j]? =some y->c.2[j]? =some z->(y - x)*(c.1 - a.1)=(z - x)*(b.1 - a.1)) S4 ⟨none,none,none,none,rfl,rfl,rfl,λj x y z hj=>absurd hj (Nat.not_lt_zero _)⟩ (λi σ cs ds h=>?_) ?_ ?_
 ·obtain ⟨_,_,_,_,_,_,rfl,_⟩:=h;exact .mem (by right)
 ·rintro i x u σ H5 cs ds hx ⟨x5,x6,x7,x8,rfl,rfl,rfl,inv⟩ S5
  obtain ⟨x0,Lc,rfl⟩:=Vg hx;obtain ⟨p,hp,rfl⟩:=zJ Lc;have hi:i<a.2.length:=(Qd.mp hp).1;have OR:b.2[i]? =some (b.2[i]'(by omega)):=Qb _;have OQ:c.2[i]? =some (c.2[i]'(by omega)):=Qb _;generalize (b.2[i]'(by omega))=q at*;generalize (c.2[i]'(by omega))=r at*;have zp:SzQ 2000 p:=sa.2 p (Qc hp);have zq:SzQ 2000 q:=sb.2 q (Qc OR);have zr:SzQ 2000 r:=sc.2 r (Qc OQ);have zx:=sZ zp zq;have zw:=sZ zp zr;have ib:atI (b.2.map frD) ((i:Nat):Int)=some (frD q):=yi (by rw [Qh,OR];rfl);have ic:atI (c.2.map frD) ((i:Nat):Int)=some (frD r):=yi (by rw [Qh,OQ];rfl);refine xf (xc S5 ‹_› λu1 u2 S6=>?_);cases S6.int1;left;rename_i u3 S7;refine nA (xs:=b.2.map frD) S7 ‹_› ib λu4 S8=>?_;left;rename_i vr H9 e9 S9 u5 KU;refine nA (xs:=c.2.map frD) KU ‹_› ic λu6 KO=>?_;have m1:=zx.1.mul zn.2;have m2:=m1.mul zw.2;have m3:=zw.1.mul zf.2;have m4:=m3.mul zx.2;have o1:=zx.1.mulOk zn.2 (by decide);have o2:=m1.mulOk zw.2 (by decide);have o3:=m2.mulOk zf.1 (by decide);have o4:=zw.1.mulOk zf.2 (by decide);have o5:=m3.mulOk zx.2 (by decide);have o6:=m4.mulOk zn.1 (by decide);left
  have cr:=Cy (rn:=q.num*(p.den:Int) - p.num*(q.den:Int)) (rd:=(p.den:Int)*(q.den:Int)) (nn:=b.1.num*(a.1.den:Int) - a.1.num*(b.1.den:Int)) (nd:=(a.1.den:Int)*(b.1.den:Int))
   (wn:=r.num*(p.den:Int) - p.num*(r.den:Int)) (wd:=(p.den:Int)*(r.den:Int)) (fn:=c.1.num*(a.1.den:Int) - a.1.num*(c.1.den:Int)) (fd:=(a.1.den:Int)*(c.1.den:Int)) (xw _ _) (xw _ _) (xw _ _) (xw _ _)
  rw [aV,aV,aV,aV] at cr;refine BU (λz=>?_) (λz=>?_)
  ·left;have KD:¬zQ a b c:=λst=>z (cr.mp (st i _ _ _ hp OR OQ));rw [show (@decide (zQ a b c) (Classical.propDecidable _))=false from @decide_eq_false _ (Classical.propDecidable _) KD] at k;exact DW (by assumption) k
  ·left;rename_i vw LN Pk KZ;refine ZK (KZ.dat (by walk_at "dats")) ⟨_,_,_,_,rfl,rfl,rfl,λj x y z' hj LJ LQ PV=>?_⟩
   by_cases Od:j<i
   ·exact inv j x y z' Od LJ LQ PV
   ·have:j=i:=by omega
    subst this;rw [hp] at LJ;rw [OR] at LQ;rw [OQ] at PV;cases LJ;cases LQ;cases PV;exact cr.mpr z
 ·rintro σ H5 cs ds ⟨x5,x6,x7,x8,rfl,rfl,rfl,inv⟩ S5
  left
  have KD:zQ a b c:=λi x y z hx hy hz=>inv i x y z (by
   have:=(Qd.mp hx).1
   rw [xO,Qa];exact this) hx hy hz
  rw [show (@decide (zQ a b c) (Classical.propDecidable _))=true from @decide_eq_true _ (Classical.propDecidable _) KD] at k;exact DW S5 k
theorem uP (B:Bl mg) (Ge:Cal P w K mg base CX0 2 "is_straight" paG Hi) (F:Fun K "thinned" "thinned" ef f fd):FnOk P w K mg base CX0 3 f fd ["corners"] dH:=by
 refine F.oo ux λH vs Q E hr nd0 h=>?_;obtain ⟨G,a,eG,hA,⟨m,ok⟩,k⟩:=h;obtain ⟨v0,rfl,al⟩:=Yu hA;have S:Sta H G H [] _:=Sta.enter eG al;have few:=ok.few;walk_at "=ek1NBab0cdfiyplace,corner,corners,last;201;%ab0cKwq0wq1I<LOptmb0djOptmb0b3jWJEhaob2Nb0dab1aob2Ab0dcb1";left;refine kJ (xs:=a.map zA) S ‹_› λJ wk=>?_;refine bq wk (λj=>if Yt a j then (a[j]?).map zA else none) S (λ_ _=> .mem (by right)) (by rw [xO,Qa];omega) (λi x v B' G' Kd Kn hx t1 S hd hn C ex s0 H0=>?_) λD H1 e1 S1=>?_
 ·obtain ⟨x0,Lc,rfl⟩:=Vg hx;obtain ⟨c,hc,rfl⟩:=zJ Lc;have hi:i<a.length:=(Qd.mp hc).1;refine xf (xc S ‹_› λu1 u2 S2=>?_);cases S2.int1;refine yN (zE (yN (zE (XO ⟨rfl,?_⟩))));rw [hc] at hd hn;have yes:Yt a i=true->∀{H5:Hp} {cs':yD} {ds':Dat},Sta B' G' H5 cs' ds'->Has ds' (zA c) u2->Kd u2 H5:=λhk {H5 cs' ds'} S5 h5=>hd (by rw [hk];rfl) S5 h5;have no:Yt a i=false->∀{H5:Hp} {cs':yD} {ds':Dat},Sta B' G' H5 cs' ds'->Kn H5:=λhk {H5 cs' ds'} S5=>hn (by rw [hk];rfl) S5;left;refine Yw (λc0=>?_) (λc0=>?_)
  ·left;exact yes (Xl (.inl (by omega))) S2 ‹_›
  ·left;refine Yw (λc1=>?_) (λc1=>?_)
   ·left;rw [Qa] at c1;exact yes (Xl (.inr (.inl (by omega)))) S2 ‹_›
   ·rw [Qa] at c1;have h0:i - 1<a.length:=by omega
    have h2:i+1<a.length:=by omega
    have g0:=Qb h0;have g2:=Qb h2;have y0:=Td h0;have y2:=Td h2;generalize a[i - 1]=c0' at*;generalize a[i+1]=c2' at*;have y1:=Qc hc;left;refine yr (xs:=a.map zA) (x:=zA c0') S2 ‹_› (GR (by omega) (by rw [show ((i:Int) - 1).toNat=i - 1 by omega,Qh,g0];rfl)) λu3 S3=>?_;left;refine yr (xs:=a.map zA) (x:=zA c2') S3 ‹_› (GR (by omega) (by rw [show ((i:Int)+1).toNat=i+1 by omega,Qh,g2];rfl)) λu4 S4=>?_;left;refine rd_str S4 ‹_› ‹_› ‹_› (ok.sz _ y0) (ok.sz _ y1) (ok.sz _ y2) (by rw [ok.len _ y1,ok.len _ y0]) (by rw [ok.len _ y2,ok.len _ y0]) (by rw [ok.len _ y0];exact ok.m) λH5 S5=>?_;left;refine @BU _ _ _ (_) (λz=>?_) (λz=>?_)
    ·left;exact yes (Xl (.inr (.inr λq=>z (q _ _ _ g0 hc g2)))) S5 ‹_›
    ·refine no ?_ S5;refine jk ?_
     rintro (q|q|q)
     ·omega
     ·omega
     ·refine q λx y z' hx hy hz=>?_;rw [g0] at hx;rw [hc] at hy;rw [g2] at hz;cases hx;cases hy;cases hz;exact z
 ·left;rw [xO,Qa,vy] at S1;exact xH S1 k
abbrev VP:Stmt:=top 33
theorem mM:FnScope paj paj (zk VP):=xt
theorem nJ (B:Bl mg) (jF:Cal P w K mg base CX0 3 "plus" pab rV) (F:Fun K "plus_each" "plus_each" VP f fd):FnOk P w K mg base CX0 4 f fd paj (mH λp q=>p+q):=by
 refine F.oo mM λH vs Q E hr nd0 h=>?_;obtain ⟨G,⟨p,q⟩,eG,hA,⟨s1,s2,hl⟩,k⟩:=h;obtain ⟨v,w',rfl,al⟩:=xo hA;have S:Sta H G H [] _:=Sta.enter eG al;dsimp only at s1 s2 hl k S;walk_at "=fiZayone,two;2;/ab0ab1cKwq0wq1Iuhab0ab1cc";left;refine UB (xs:=p.map frD) (ys:=q.map frD) S ‹_› ‹_› λJ wk=>?_;refine yt wk (λj=>frD ((List.zipWith (λp q=>p+q) p q).getD j 0)) (ys:=(List.zipWith (λp q=>p+q) p q).map frD) ?_ S (λ_ _=>⟨.mem (by right),λ_ _ h=>h.tail, .mem (by right)⟩) (by rw [yR,Qa,Qa];omega) (λj x v B' G' Kd Kn hx t1 S hd C ex s0 H0=>?_) λD H1 e1 S1=>?_
 ·rw [yR,Qa,Qa,show min p.length q.length=(List.zipWith (λp q=>p+q) p q).length by rw [Qy]];exact zo frD 0 _
 ·obtain ⟨x1,x2,h1,h2,rfl⟩:=Zo hx;obtain ⟨n1,LF,rfl⟩:=zJ h1;obtain ⟨n2,Lp,rfl⟩:=zJ h2;have z1:=s1 n1 (Qc LF);have z2:=s2 n2 (Qc Lp);refine xf (xc S ‹_› λw1 w2 S=>?_);refine yN (zE (yN (zE (XO ⟨rfl,?_⟩))));left;rename_i r H2 e2 S2;refine hd S2 ?_;rw [zF (n:=n1+n2) (by rw [Qt,LF,Lp])];exact .mem (by right)
 left;exact xN (by assumption) k ‹_›
abbrev VQ:Stmt:=top 34
theorem mN:FnScope paj paj (zk VQ):=xt
theorem nK (B:Bl mg) (Xd:Cal P w K mg base CX0 3 "minus" pab ao) (F:Fun K "less_each" "less_each" VQ f fd):FnOk P w K mg base CX0 4 f fd paj (mH λp q=>p - q):=by
 refine F.oo mN λH vs Q E hr nd0 h=>?_;obtain ⟨G,⟨p,q⟩,eG,hA,⟨s1,s2,hl⟩,k⟩:=h;obtain ⟨v,w',rfl,al⟩:=xo hA;have S:Sta H G H [] _:=Sta.enter eG al;dsimp only at s1 s2 hl k S;walk_at "=fiZayone,two;2;/ab0ab1cKwq0wq1Iuhab0ab1cc";left;refine UB (xs:=p.map frD) (ys:=q.map frD) S ‹_› ‹_› λJ wk=>?_;refine yt wk (λj=>frD ((List.zipWith (λp q=>p - q) p q).getD j 0)) (ys:=(List.zipWith (λp q=>p - q) p q).map frD) ?_ S (λ_ _=>⟨.mem (by right),λ_ _ h=>h.tail, .mem (by right)⟩) (by rw [yR,Qa,Qa];omega) (λj x v B' G' Kd Kn hx t1 S hd C ex s0 H0=>?_) λD H1 e1 S1=>?_
 ·rw [yR,Qa,Qa,show min p.length q.length=(List.zipWith (λp q=>p - q) p q).length by rw [Qy]];exact zo frD 0 _
 ·obtain ⟨x1,x2,h1,h2,rfl⟩:=Zo hx;obtain ⟨n1,LF,rfl⟩:=zJ h1;obtain ⟨n2,Lp,rfl⟩:=zJ h2;have z1:=s1 n1 (Qc LF);have z2:=s2 n2 (Qc Lp);refine xf (xc S ‹_› λw1 w2 S=>?_);refine yN (zE (yN (zE (XO ⟨rfl,?_⟩))));left;rename_i r H2 e2 S2;refine hd S2 ?_;rw [zF (n:=n1 - n2) (by rw [Qt,LF,Lp])];exact .mem (by right)
 left;exact xN (by assumption) k ‹_›
abbrev kj:Stmt:=top 24
theorem Ah:FnScope ["path","end"] ["path"] (zk kj):=xt
theorem Ba (B:Bl mg) (Xd:Cal P w K mg base CX0 3 "minus" pab ao) (Jd:Cal P w K mg base CX0 4 "less_each" paj (mH λp q=>p - q)) (F:Fun K "turned" "turned" kj f fd):FnOk P w K mg base CX0 5 f fd ["path"] cR:=by
 refine F.oo Ah λH vs Q E hr nd0 h=>?_;obtain ⟨G,a,eG,hA,ok,k⟩:=h;obtain ⟨v0,rfl,al⟩:=Yu hA;have S:Sta H G H [] _:=Sta.enter eG al;have few:=ok.few;obtain ⟨KG,Mb⟩:=ok.last;have zl:=ok.sz _ Mb;have zl1:=zl.1;walk_at "=ek1ob0Mdfiycorner,end;11;εab0cq0usahag1ag0cahag1ag0cc";left;refine yr (xs:=a.map zA) (x:=zA (lastC a)) S ‹_› (dh (by rw [jan,KG];rfl)) λve S1=>?_;left;refine HD (xs:=a.map zA) S1 ‹_› λJ wk=>?_;refine yt wk (λj=>zA (VH (lastC a) (a.reverse.getD j (0,[])))) (ys:=(yv a).map zA) ?_ S1 (λ_ _=> .mem (by right)) (by rw [Tv,Qa];omega) (λj x v B' G' Kd Kn hx t1 S hd C ex s0 H0=>?_) λD H2 e2 S2=>?_
 ·unfold yv;rw [Qr,Tv,Qa,<-Tv];exact zo (λc=>zA (VH (lastC a) c)) (0,[]) _
 ·rw [<-List.map_reverse] at hx;obtain ⟨c,hc,rfl⟩:=zJ hx;have cm:c∈a:=jbH.mp (Qc hc);have zc:=ok.sz c cm;have SG:=zc.1;refine zE ⟨rfl,?_⟩;left;refine AM (p:=(lastC a).2) (q:=c.2) (by assumption) ‹_› ‹_› zl.2 zc.2 (ok.len _ Mb) λr H3 e3 S3=>?_;left;refine hd (by assumption) ?_;rw [zF hc];exact .mem (by right)
 exact xH S2 k
abbrev kq:Stmt:=top 25
theorem Ak:FnScope paV paV (zk kq):=xt
theorem Be (B:Bl mg) (mf:Cal P w K mg base CX0 3 "times" pab pO) (F:Fun K "scaled" "scaled" kq f fd):FnOk P w K mg base CX0 4 f fd paV jP:=by
 refine F.oo Ak λH vs Q E hr nd0 h=>?_;obtain ⟨G,⟨a,p⟩,eG,hA,⟨ok,zp⟩,k⟩:=h;obtain ⟨v0,vp,rfl,al⟩:=xo hA;have S:Sta H G H [] _:=Sta.enter eG al;dsimp only at ok zp k S;have few:=ok.few;walk_at "=fiycorner,portion;11;vb0q0usahag0ab1caZaypart,portion;11;>g0q0uhab0ab1ccc";left;refine zN (xs:=a.map zA) S ‹_› λJ wk=>?_;refine yh wk (λj=>zA ((λc:zg=>(c.1*p,c.2.map (·*p))) (a.getD j (0,[])))) (ys:=(zW p a).map zA) ?_ S (λj x v=>λhx t1 S hd=>?_) λD H2 e2 S2=>?_
 ·unfold zW;rw [Qr,Qa];exact zo (λc=>zA ((λc:zg=>(c.1*p,c.2.map (·*p))) c)) (0,[]) _
 ·obtain ⟨c,hc,rfl⟩:=zJ hx;have zc:=ok.sz c (Qc hc);have SG:=zc.1;have lc:=ok.len c (Qc hc);refine zE ⟨rfl,?_⟩;left;rename_i w1 S1 r1 H1 e1 S2 w2 S3;refine eJ (xs:=c.2.map frD) S3 ‹_› λJ2 Lu=>?_;refine yt Lu (λj=>frD (c.2.getD j 0*p)) (ys:=(c.2.map (·*p)).map frD) (by rw [Qa,Qr];exact zo (λx=>frD (x*p)) 0 c.2) S3 (λ_ _=> .mem (by right)) (by rw [Qa];exact lc) (λj x v B' G' Kd2 Kn2 Ly t2 S hd2 C ex s0 H0=>?_) λD2 H4 e4 S4=>?_
  ·obtain ⟨y,hy,rfl⟩:=zJ Ly;have zy:=zc.2 y (Qc hy);refine zE ⟨rfl,?_⟩;left;rename_i r5 H5 e5 S5;refine hd2 S5 ?_;rw [zF hy];exact .mem (by right)
  left;refine hd (by assumption) ?_;rw [zF hc];exact .mem (by right)
 exact xH S2 k
abbrev kE:Stmt:=top 26
theorem Aq:FnScope ["path","second","end","moved"] paO (zk kE):=xt
theorem Bs (B:Bl mg) (jF:Cal P w K mg base CX0 3 "plus" pab rV) (Jc:Cal P w K mg base CX0 4 "plus_each" paj (mH λp q=>p+q)) (oY:Cal P w K mg base CX0 3 "thinned" ["corners"] dH) (F:Fun K "behind" "behind" kE f fd):FnOk P w K mg base CX0 5 f fd paO Ur:=by
 refine F.oo Aq λH vs Q E hr nd0 h=>?_;obtain ⟨G,⟨a,b⟩,eG,hA,⟨ok,Nq,m,OJ⟩,k⟩:=h;obtain ⟨v0,v1,rfl,al⟩:=xo hA;have S:Sta H G H [] _:=Sta.enter eG al;dsimp only at ok Nq OJ k S;have few:=ok.few;have few2:=Nq.few;obtain ⟨KG,Mb⟩:=ok.last;have zl:=ok.sz _ Mb;have zl1:=zl.1;walk_at "=ek2ob0MdeR3corner,end;12;vXb1Qd3q0usahag1ag0cahag1ag0ccfihaAb0b3c";left;refine yr (xs:=a.map zA) (x:=zA (lastC a)) S ‹_› (dh (by rw [jan,KG];rfl)) λve S1=>?_;left;refine iS (xs:=b.map zA) S1 ‹_› λl2 H2 e2 S2=>?_
 have ec:lJ (b.map zA) (some 1) none=b.tail.map zA:=by
  unfold lJ;rw [HT.sIx_none,show (some (1:Int))=some ((1:Nat):Int) from rfl,HT.sIx_nat,Qa];have hb:1<=b.length:=jaz.mpr Nq.ne;rw [Nat.min_eq_left hb,Ti (by rw [Ts,Qa];exact Qv _),<-List.map_drop,List.drop_one]
 rw [ec] at S2;refine AI (xs:=b.tail.map zA) S2 (by right) λJ wk=>?_;refine yt wk (λj=>zA (Vq (lastC a) (b.tail.getD j (0,[])))) (ys:=(yF a b).map zA) ?_ S2 (λ_ _=>Qf _ (by right)) (by rw [Qa,jaR];omega) (λj x v B' G' Kd Kn hx t1 S hd C ex s0 H0=>?_) λD H3 e3 S3=>?_
 ·unfold yF;rw [Qr,Qa];exact zo (λc=>zA (Vq (lastC a) c)) (0,[]) _
 ·obtain ⟨c,hc,rfl⟩:=zJ hx;have cm:c∈b:=TR (Qc hc);have zc:=Nq.sz c cm;have SG:=zc.1;refine zE ⟨rfl,?_⟩;left;refine AM (p:=(lastC a).2) (q:=c.2) (by assumption) ‹_› ‹_› zl.2 zc.2 (ok.len _ Mb) λr H3 e3 S3=>?_;left;refine hd (by assumption) ?_;rw [zF hc];exact .mem (by right)
 left;obtain ⟨pa,rfl⟩:=S3.refL (xs:=a.map zA) (v:=v0) ‹_›
 refine Ze S3 (S3.vwL (xs:=a.map zA) ‹_›) (S3.vwC (by right)) (by
  rw [Qa,Qa];unfold yF
  rw [Qa,jaR];omega) λp4 H4 e4 S4=>?_
 rw [<-QP] at S4;have S5:=S4.freeze;left;refine uE (a:=a++yF a b) S5 ‹_› OJ λp6 H6 e6 S6=>?_;exact xH (S6.weak (cs':=[_]) (by walk_at "sub") Dats.nil) k
section
variable {fS fT Ru:Addr} {A:RAd}
abbrev Yl:Stmt:=ZE (top 52) 0
theorem Wc:FnScope pae pae (zk Yl):=xt
theorem Eo (F:Fun K "__init__" "Rule.__init__" Yl f fd):FnOk P w K mg base CX0 1 f fd pae (YR K fS fT Ru):=by
 refine F.ok Wc (λvs H Q E h=>?_) (λKt A outer s H vs Q E hr h=>?_)
 ·obtain ⟨C,ok,G,d,x,dx,us,rfl,_,_,_,hA,_⟩:=h;rw [QA,<-hA.len];rfl
 obtain ⟨C,ok,G,d,x,dx,us,rfl,eG,gx,hx,hA,k⟩:=h;obtain ⟨v,rfl,al⟩:=Yu hA;have nd0:=Wc.nd;walk_at "=fζb0b1";refine ⟨v,rfl, .ref x,rfl,x,C,dx,[],rfl,hx,ok.cl,ok.na,by decide,?_⟩;refine k _ G v (λp o hp ho=>by rw [yg hp];exact ho) (zV.refl _) (λp o hp=>?_) (λ_ _=>rfl) ?_ (al _ (Qq.mpr rfl))
 ·rw [yg (yk hp gx)];exact eG p o hp
 ·rw [yM];rfl
abbrev Wy:Stmt:=ZE (top 52) 1
theorem kg:FnScope pac pac (zk Wy):=xt
theorem Em (Kw:∀r:Rl,ROk K fS fT Ru (A.cls r)) (F:Fun K "shape" "Rule.shape" Wy f fd):FnOk P w K mg base CX0 1 f fd pac (aj A):=by
 refine F.oo kg λH vs Q E hr nd0 h=>?_;obtain ⟨G,r,eG,hA,_,k⟩:=h;obtain ⟨v,rfl,al⟩:=Yu hA;have S:Sta H G H [] _:=Sta.enter eG al;walk_at "=fi[b0";refine rd_ret (rd_fld ?_);left;refine AJ S ‹_› (Kw r) λw S1=>?_;exact xN S1 k ‹_›
abbrev Zt:Stmt:=ZE (top 53) 0
theorem YA:FnScope pac pac (zk Zt):=xt
theorem gT (Zn:mg "Rule"=some (.ref Ru)) (eE:PySem.W.specialIn K (.ref Ru) "__getattribute__"=some (some (.builtin "type.__getattribute__"))) (eO:PySem.W.readsIn K Ru (.type "type")=true) {fI:Addr} {KY:FuncData} (xW:PySem.W.findCls K (.ref Ru) (.type "type") "__init__"=some (.val (.ref fI))) (xY:FnOk P w K mg base CX0 1 fI KY pae (YR K fS fT Ru)) (xV:PySem.W.keepIn K (.ref fI)=true) (xX:xi K KY pae []) (ok:ROk K fS fT Ru (A.cls .shares)) (F:Fun K "__init__" "Shares.__init__" Zt f fd):FnOk P w K mg base CX0 2 f fd pac (xj (A.cls .shares) (α:=Unit) (λ_=>[]) (λ_=>Rl.shares.shape)):=by
 refine F.ok YA (λvs H Q E h=>?_) (λKt A outer s H vs Q E hr h=>?_)
 ·obtain ⟨G,d,x,dx,us,rfl,_,_,_,hA,_⟩:=h;rw [QA,<-hA.len];rfl
 obtain ⟨G,d,x,dx,us,rfl,eG,gx,hx,hA,k⟩:=h;rw [zL] at hA;subst hA;have S:Sta H G H [] []:=Sta.enter eG λp hp=>absurd hp Qn;have nd0:=YA.nd;walk_at "=fG45ab0asaxcc";left;refine YG (d:=Rl.shares.shape) (by assumption) gx hx ok ‹_› λH' G' w h1 h2 h3 h4 h5 h6=>?_;exact k H' G' w h1 h2 h3 h4 h5 h6
abbrev Zx:Stmt:=ZE (top 54) 0
theorem YE:FnScope pac pac (zk Zx):=xt
theorem gY (Zn:mg "Rule"=some (.ref Ru)) (eE:PySem.W.specialIn K (.ref Ru) "__getattribute__"=some (some (.builtin "type.__getattribute__"))) (eO:PySem.W.readsIn K Ru (.type "type")=true) {fI:Addr} {KY:FuncData} (xW:PySem.W.findCls K (.ref Ru) (.type "type") "__init__"=some (.val (.ref fI))) (xY:FnOk P w K mg base CX0 1 fI KY pae (YR K fS fT Ru)) (xV:PySem.W.keepIn K (.ref fI)=true) (xX:xi K KY pae []) (ok:ROk K fS fT Ru (A.cls .evenly)) (F:Fun K "__init__" "Evenly.__init__" Zx f fd):FnOk P w K mg base CX0 2 f fd pac (xj (A.cls .evenly) (α:=Unit) (λ_=>[]) (λ_=>Rl.evenly.shape)):=by
 refine F.ok YE (λvs H Q E h=>?_) (λKt A outer s H vs Q E hr h=>?_)
 ·obtain ⟨G,d,x,dx,us,rfl,_,_,_,hA,_⟩:=h;rw [QA,<-hA.len];rfl
 obtain ⟨G,d,x,dx,us,rfl,eG,gx,hx,hA,k⟩:=h;rw [zL] at hA;subst hA;have S:Sta H G H [] []:=Sta.enter eG λp hp=>absurd hp Qn;have nd0:=YE.nd;walk_at "=fG45ab0asaxcc";left;refine YG (d:=Rl.evenly.shape) (by assumption) gx hx ok ‹_› λH' G' w h1 h2 h3 h4 h5 h6=>?_;exact k H' G' w h1 h2 h3 h4 h5 h6
abbrev Zu:Stmt:=ZE (top 55) 0
theorem YB:FnScope pac pac (zk Zu):=xt
theorem gU (Zn:mg "Rule"=some (.ref Ru)) (eE:PySem.W.specialIn K (.ref Ru) "__getattribute__"=some (some (.builtin "type.__getattribute__"))) (eO:PySem.W.readsIn K Ru (.type "type")=true) {fI:Addr} {KY:FuncData} (xW:PySem.W.findCls K (.ref Ru) (.type "type") "__init__"=some (.val (.ref fI))) (xY:FnOk P w K mg base CX0 1 fI KY pae (YR K fS fT Ru)) (xV:PySem.W.keepIn K (.ref fI)=true) (xX:xi K KY pae []) (ok:ROk K fS fT Ru (A.cls .losses)) (F:Fun K "__init__" "Losses.__init__" Zu f fd):FnOk P w K mg base CX0 2 f fd pac (xj (A.cls .losses) (α:=Unit) (λ_=>[]) (λ_=>Rl.losses.shape)):=by
 refine F.ok YB (λvs H Q E h=>?_) (λKt A outer s H vs Q E hr h=>?_)
 ·obtain ⟨G,d,x,dx,us,rfl,_,_,_,hA,_⟩:=h;rw [QA,<-hA.len];rfl
 obtain ⟨G,d,x,dx,us,rfl,eG,gx,hx,hA,k⟩:=h;rw [zL] at hA;subst hA;have S:Sta H G H [] []:=Sta.enter eG λp hp=>absurd hp Qn;have nd0:=YB.nd;walk_at "=fG45ab0asaxcc";left;refine YG (d:=Rl.losses.shape) (by assumption) gx hx ok ‹_› λH' G' w h1 h2 h3 h4 h5 h6=>?_;exact k H' G' w h1 h2 h3 h4 h5 h6
abbrev Zv:Stmt:=ZE (top 56) 0
theorem YC:FnScope pac pac (zk Zv):=xt
theorem gW (Zn:mg "Rule"=some (.ref Ru)) (eE:PySem.W.specialIn K (.ref Ru) "__getattribute__"=some (some (.builtin "type.__getattribute__"))) (eO:PySem.W.readsIn K Ru (.type "type")=true) {fI:Addr} {KY:FuncData} (xW:PySem.W.findCls K (.ref Ru) (.type "type") "__init__"=some (.val (.ref fI))) (xY:FnOk P w K mg base CX0 1 fI KY pae (YR K fS fT Ru)) (xV:PySem.W.keepIn K (.ref fI)=true) (xX:xi K KY pae []) (ok:ROk K fS fT Ru (A.cls .halves)) (F:Fun K "__init__" "Halves.__init__" Zv f fd):FnOk P w K mg base CX0 2 f fd pac (xj (A.cls .halves) (α:=Unit) (λ_=>[]) (λ_=>Rl.halves.shape)):=by
 refine F.ok YC (λvs H Q E h=>?_) (λKt A outer s H vs Q E hr h=>?_)
 ·obtain ⟨G,d,x,dx,us,rfl,_,_,_,hA,_⟩:=h;rw [QA,<-hA.len];rfl
 obtain ⟨G,d,x,dx,us,rfl,eG,gx,hx,hA,k⟩:=h;rw [zL] at hA;subst hA;have S:Sta H G H [] []:=Sta.enter eG λp hp=>absurd hp Qn;have nd0:=YC.nd;walk_at "=fG45ab0asaxcc";left;refine YG (d:=Rl.halves.shape) (by assumption) gx hx ok ‹_› λH' G' w h1 h2 h3 h4 h5 h6=>?_;exact k H' G' w h1 h2 h3 h4 h5 h6
abbrev ZQ:Stmt:=ZE (top 57) 0
theorem Xi:FnScope pal pal (zk ZQ):=xt
theorem kO (Zn:mg "Rule"=some (.ref Ru)) (eE:PySem.W.specialIn K (.ref Ru) "__getattribute__"=some (some (.builtin "type.__getattribute__"))) (eO:PySem.W.readsIn K Ru (.type "type")=true) {fI:Addr} {KY:FuncData} (xW:PySem.W.findCls K (.ref Ru) (.type "type") "__init__"=some (.val (.ref fI))) (xY:FnOk P w K mg base CX0 1 fI KY pae (YR K fS fT Ru)) (xV:PySem.W.keepIn K (.ref fI)=true) (xX:xi K KY pae []) {fdS:FuncData} (ZN:FnOk P w K mg base CX0 1 fS fdS pac (aj A)) (xp:xi K fdS pac []) (Kw:∀r:Rl,ROk K fS fT Ru (A.cls r)) (F:Fun K "__init__" "Other.__init__" ZQ f fd):FnOk P w K mg base CX0 2 f fd pal (xj (A.cls (.other .shares)) (α:=Rl) (λr=>[r.ins A]) (λr=>(Rl.other r).shape)):=by
 refine F.ok Xi (λvs H Q E h=>?_) (λKt A' outer s H vs Q E hr h=>?_)
 ·obtain ⟨G,d,x,dx,us,rfl,_,_,_,hA,_⟩:=h;rw [QA,<-hA.len];rfl
 obtain ⟨G,r,x,dx,us,rfl,eG,gx,hx,hA,k⟩:=h;obtain ⟨v,rfl,al⟩:=Yu hA;have S:Sta H G H [] _:=Sta.enter eG al;have nd0:=Xi.nd;walk_at "=fG45ab0asaxa+b1-cc";left;refine iW S ‹_› (Kw r) ?_;refine Vb S ‹_› λw1 H1 e1 S1=>?_;left;refine YG (d:=(Rl.other r).shape) (by assumption) gx hx (Kw (.other .shares)) ‹_› λH' G' w h1 h2 h3 h4 h5 h6=>?_;exact k H' G' w h1 h2 h3 h4 h5 h6
abbrev ZP:Stmt:=ZE (top 58) 0
theorem Xh:FnScope pal pal (zk ZP):=xt
theorem kN (Zn:mg "Rule"=some (.ref Ru)) (eE:PySem.W.specialIn K (.ref Ru) "__getattribute__"=some (some (.builtin "type.__getattribute__"))) (eO:PySem.W.readsIn K Ru (.type "type")=true) {fI:Addr} {KY:FuncData} (xW:PySem.W.findCls K (.ref Ru) (.type "type") "__init__"=some (.val (.ref fI))) (xY:FnOk P w K mg base CX0 1 fI KY pae (YR K fS fT Ru)) (xV:PySem.W.keepIn K (.ref fI)=true) (xX:xi K KY pae []) {fdS:FuncData} (ZN:FnOk P w K mg base CX0 1 fS fdS pac (aj A)) (xp:xi K fdS pac []) (Kw:∀r:Rl,ROk K fS fT Ru (A.cls r)) (F:Fun K "__init__" "Ranks.__init__" ZP f fd):FnOk P w K mg base CX0 2 f fd pal (xj (A.cls (.ranks .shares)) (α:=Rl) (λr=>[r.ins A]) (λr=>(Rl.ranks r).shape)):=by
 refine F.ok Xh (λvs H Q E h=>?_) (λKt A' outer s H vs Q E hr h=>?_)
 ·obtain ⟨G,d,x,dx,us,rfl,_,_,_,hA,_⟩:=h;rw [QA,<-hA.len];rfl
 obtain ⟨G,r,x,dx,us,rfl,eG,gx,hx,hA,k⟩:=h;obtain ⟨v,rfl,al⟩:=Yu hA;have S:Sta H G H [] _:=Sta.enter eG al;have nd0:=Xh.nd;walk_at "=fG45ab0asaxa+b1-cc";left;refine iW S ‹_› (Kw r) ?_;refine Vb S ‹_› λw1 H1 e1 S1=>?_;left;refine YG (d:=(Rl.ranks r).shape) (by assumption) gx hx (Kw (.ranks .shares)) ‹_› λH' G' w h1 h2 h3 h4 h5 h6=>?_;exact k H' G' w h1 h2 h3 h4 h5 h6
abbrev Zw:Stmt:=ZE (top 59) 0
theorem YD:FnScope paw paw (zk Zw):=xt
theorem gX (Zn:mg "Rule"=some (.ref Ru)) (eE:PySem.W.specialIn K (.ref Ru) "__getattribute__"=some (some (.builtin "type.__getattribute__"))) (eO:PySem.W.readsIn K Ru (.type "type")=true) {fI:Addr} {KY:FuncData} (xW:PySem.W.findCls K (.ref Ru) (.type "type") "__init__"=some (.val (.ref fI))) (xY:FnOk P w K mg base CX0 1 fI KY pae (YR K fS fT Ru)) (xV:PySem.W.keepIn K (.ref fI)=true) (xX:xi K KY pae []) {fdS:FuncData} (ZN:FnOk P w K mg base CX0 1 fS fdS pac (aj A)) (xp:xi K fdS pac []) (Kw:∀r:Rl,ROk K fS fT Ru (A.cls r)) (F:Fun K "__init__" "Groups.__init__" Zw f fd):FnOk P w K mg base CX0 2 f fd paw (xj (A.cls (.groups .shares .shares)) (α:=Rl×Rl) (λr=>[r.1.ins A,r.2.ins A]) (λr=>(Rl.groups r.1 r.2).shape)):=by
 refine F.ok YD (λvs H Q E h=>?_) (λKt A' outer s H vs Q E hr h=>?_)
 ·obtain ⟨G,d,x,dx,us,rfl,_,_,_,hA,_⟩:=h;rw [QA,<-hA.len];rfl
 obtain ⟨G,⟨r,r2⟩,x,dx,us,rfl,eG,gx,hx,hA,k⟩:=h;obtain ⟨v,v2,rfl,al⟩:=xo hA;have S:Sta H G H [] _:=Sta.enter eG al;dsimp only at k S;have nd0:=YD.nd;walk_at "=fG45ab0asaxa+b1-a+b2-cc";left;refine iW S ‹_› (Kw r) ?_;refine Vb S ‹_› λw1 H1 e1 S1=>?_;left;refine iW S1 ‹_› (Kw r2) ?_;refine Vb S1 ‹_› λw2 H2 e2 S2=>?_;left;refine YG (d:=(Rl.groups r r2).shape) (by assumption) gx hx (Kw (.groups .shares .shares)) ‹_› λH' G' w h1 h2 h3 h4 h5 h6=>?_;exact k H' G' w h1 h2 h3 h4 h5 h6
abbrev Yk:Stmt:=ZE (top 60) 0
theorem Wb:FnScope pak pak (zk Yk):=xt
theorem nL (Zn:mg "Rule"=some (.ref Ru)) (eE:PySem.W.specialIn K (.ref Ru) "__getattribute__"=some (some (.builtin "type.__getattribute__"))) (eO:PySem.W.readsIn K Ru (.type "type")=true) {fI:Addr} {KY:FuncData} (xW:PySem.W.findCls K (.ref Ru) (.type "type") "__init__"=some (.val (.ref fI))) (xY:FnOk P w K mg base CX0 1 fI KY pae (YR K fS fT Ru)) (xV:PySem.W.keepIn K (.ref fI)=true) (xX:xi K KY pae []) {fdS:FuncData} (ZN:FnOk P w K mg base CX0 1 fS fdS pac (aj A)) (xp:xi K fdS pac []) (Kw:∀r:Rl,ROk K fS fT Ru (A.cls r)) (F:Fun K "__init__" "Upto.__init__" Yk f fd):FnOk P w K mg base CX0 2 f fd pak (xj (A.cls (.upto 0 0 .shares .shares)) (α:=(Int×Int)×Rl×Rl) (λr=>[.tuple [.int r.1.1, .int r.1.2],r.2.1.ins A,r.2.2.ins A]) (λr=>(Rl.upto r.1.1 r.1.2 r.2.1 r.2.2).shape)):=by
 refine F.ok Wb (λvs H Q E h=>?_) (λKt A' outer s H vs Q E hr h=>?_)
 ·obtain ⟨G,d,x,dx,us,rfl,_,_,_,hA,_⟩:=h;rw [QA,<-hA.len];rfl
 obtain ⟨G,⟨⟨t,b⟩,r,r2⟩,x,dx,us,rfl,eG,gx,hx,hA,k⟩:=h;obtain ⟨v0,v,v2,rfl,al⟩:=ZT hA;have S:Sta H G H [] _:=Sta.enter eG al;dsimp only at k S;have nd0:=Wb.nd;walk_at "=fG45ab0asaxab1a+b2-a+b3-cc";left;refine iW S ‹_› (Kw r) ?_;refine Vb S ‹_› λw1 H1 e1 S1=>?_;left;refine iW S1 ‹_› (Kw r2) ?_;refine Vb S1 ‹_› λw2 H2 e2 S2=>?_;left;refine YG (d:=(Rl.upto t b r r2).shape) (by assumption) gx hx (Kw (.upto 0 0 .shares .shares)) ‹_› λH' G' w h1 h2 h3 h4 h5 h6=>?_;exact k H' G' w h1 h2 h3 h4 h5 h6
end
abbrev eD:Stmt:=ZE (top 52) 2
theorem Gr:FnScope pac pac (zk eD):=xt
local macro_rules|`(tactic|walk_at "rd")=>`(tactic|first|fail "&150"|fail)
section
variable {A:RAd}
abbrev YW:Stmt:=top 8
theorem Wu:FnScope ["claims","claim"] pam (zk YW):=xt
theorem EA (B:Bl mg) (g_MOST:mg "MOST"=some (.int 8 tM)) (F:Fun K "check_claims" "check_claims" YW f fd):FnOk P w K mg base CX0 1 f fd pam pT:=by
 refine F.oo Wu λH vs Q E hr nd0 h=>?_;obtain ⟨l,hA,ok,k⟩:=h;obtain ⟨v,rfl,al⟩:=Yu hA;have S:Sta H H H [] [(zm l,v)]:=Sta.enter (zV.refl _) al;have pos:=ok.pos;have few:=ok.few;refine ⟨_,(sC (ps_if (PW.pt (pw_or (qo (op_eqA (DF hr)) (cY oy rfl B.len GP (WI (pv 0) fh)) sE (Bw _)) (pw_or1 (qo op_gt (cY oy rfl B.len GP (WI (pv 0) fh)) (HQ (v:= .int 8) rfl g_MOST ⟨_,rfl⟩) (Bw _))))) (eR sD) AU) (eR (ps_for PassesOwn.never rfl (kL (pv 0)) (pg_a 1 Wu.nd) (eR (ps_if (qo op_lt (cY (CC rfl) rfl B.min GO (WI (pv 1) fh)) sE (Bw _)) (eR sD) AU))))),kI ?_⟩;left;refine Yw (λc=>absurd c (by rw [Qa];omega)) (λ_=>?_);left;refine Yw (λc=>absurd c (by rw [Qa];omega)) (λ_=>?_);left;refine zN (xs:=l.map zC) S ‹_› λJ wk=>?_;refine xF wk (λi σ cs ds=>(∃x,σ=[some v,x])/\cs=[]/\ds=[(zm l,v)]) S ⟨⟨none,rfl⟩,rfl,rfl⟩ (λi σ cs ds h=>?_) ?_ ?_
 ·obtain ⟨_,rfl,rfl⟩:=h;exact .mem (by right)
 ·rintro i x u σ H2 cs ds hx ⟨⟨x1,rfl⟩,rfl,rfl⟩ S2
  obtain ⟨c,hc,rfl⟩:=zJ hx;have nn:=ok.nn c (Qc hc);left;refine Hz (ns:=[c.1,c.2.1,c.2.2]) S2 ‹_› (Nat.zero_lt_succ _) λm hm _=>?_
  have m0:¬m<0:=by
   simp only [Qm,Qn,or_false] at hm
   rcases hm with rfl|rfl|rfl<;>omega
  left;refine Yw (λc=>absurd c m0) (λ_=>?_);left;exact ZK (S2.dat (by walk_at "dats")) ⟨⟨_,rfl⟩,rfl,rfl⟩
 ·rintro σ H2 cs ds ⟨⟨x1,rfl⟩,rfl,rfl⟩ S2
  exact k _ S2.base
abbrev YS:Stmt:=top 48
theorem dR:FnScope ["parts"] ["parts"] (zk YS):=xt
theorem ok_wc (B:Bl mg) (F:Fun K "whole_corner" "whole_corner" YS f fd):FnOk P w K mg base CX0 1 f fd ["parts"] spWC:=by
 refine F.oo dR λH vs Q E hr nd0 h=>?_;obtain ⟨G,l,eG,hA,ok,k⟩:=h;obtain ⟨v,rfl,al⟩:=Yu hA;have S:Sta H G H [] _:=Sta.enter eG al;walk_at "=fisasaSTab0cadcaZaypart;1;vb0q0usab0adccc";left;rename_i p1 H1 e1 S1;refine zN (xs:=l.map PyData.int) S1 ‹_› λJ wk=>?_;refine yh wk (λj=>frD ((l.getD j 0:Int):Rat)) (ys:=(zP l).2.map frD) (by unfold zP;rw [Qa,Qr];exact zo (λx:Int=>frD ((x:Int):Rat)) 0 l) S1 (λj x v=>λhx t1 S hd=>?_) λD H2 e2 S2=>?_
 ·obtain ⟨y,hy,rfl⟩:=zJ hx;cases S.int1;refine zE ⟨rfl,?_⟩;left;refine hd (by assumption) ?_;rw [zF hy];exact .mem (by right)
 left;exact xN (by assumption) k ‹_›
abbrev el:Stmt:=top 47
theorem uy:FnScope ["count"] ["count"] (zk el):=xt
theorem uV (Xc:Cal P w K mg base CX0 1 "whole_corner" ["parts"] spWC) (F:Fun K "nothing" "nothing" el f fd):FnOk P w K mg base CX0 2 f fd ["count"] Wq:=by
 refine F.oo uy λH vs Q E hr nd0 h=>?_;obtain ⟨G,n,eG,hA,ok,k⟩:=h;cases (yJ (ns:=[(n:Int)]) hA);have S:Sta H G H [] []:=Sta.enter eG λp hp=>absurd hp Qn;walk_at "=fiDaha]Dadcb0cc";left;rename_i p1 H1 e1 S1;refine Hy S1 (by right) (by omega) λl2 H2 e2 S2=>?_;have S3:Sta H G H2 [] [(.list ((ZV n).map PyData.int), .ref l2)]:=S2.freeze.weak (by walk_at "sub") (by walk_at "dats");refine Hu S3 ‹_› (by rw [Ui];exact ok) λw4 H4 e4 S4=>?_;left;exact xH (by assumption) k
abbrev ko:Stmt:=top 41
theorem Aj:FnScope ["claims","amounts"] pam (zk ko):=xt
theorem Bc (B:Bl mg) (XA:Cal P w K mg base CX0 2 "nothing" ["count"] Wq) (Xc:Cal P w K mg base CX0 1 "whole_corner" ["parts"] spWC) (F:Fun K "shares" "shares" ko f fd):FnOk P w K mg base CX0 3 f fd pam (cc 0):=by
 refine F.oo Aj λH vs Q E hr nd0 h=>?_;obtain ⟨G,l,eG,hA,ok,k⟩:=h;obtain ⟨v,rfl,al⟩:=Yu hA;have S:Sta H G H [] _:=Sta.enter eG al;have few:=ok.few;walk_at "=eR1claim;1;vb0q0ug0elptmSTab1cdjfihaBab1ccnfiAhaBab1ccDahab1cc";left;refine zN (xs:=l.map zC) S ‹_› λJ wk=>?_;refine yh wk (λj=> .int (l.getD j (0,0,0)).1) (ys:=(amV l).map PyData.int) (by unfold amV;rw [Qa,Qr];exact zo (λc:Cl=>PyData.int c.1) (0,0,0) l) S (λj x v=>λhx t1 S hd=>?_) λD H1 e1 S1=>?_
 ·obtain ⟨c,hc,rfl⟩:=zJ hx;refine zE ⟨rfl,?_⟩;left;refine hd (by assumption) ?_;rw [zF hc];exact Has.int
 have S2:Sta H G H1 [] [(.list ((amV l).map PyData.int), .ref D)]:=S1.freeze.weak (by walk_at "sub") (by walk_at "dats");clear S1;have l8:(amV l).length<=8:=by rw [yj];omega
 dsimp only at k;unfold flV at k;have ek:IG (amV l) (lvV (amV l)) 0=shP (amV l):=rfl;rw [ek] at k;generalize amV l=as at*;unfold shP at k;left;refine Yw (λc=>?_) (λc=>?_)
 ·rw [QH c] at k;left;rw [Qa];refine aH S2 l8 λp3 H3 e3 S3=>?_;exact xH S3 k
 ·rw [QO c] at k;left;rw [Qa];refine aH S2 l8 λp3 H3 e3 S3=>?_;left;refine Hu S3 ‹_› l8 λw4 H4 e4 S4=>?_;left;rename_i p5 H5 e5 S5;refine Ze S5 (S5.vwC (by right)) (S5.vwC (by right)) (by show 1+1<=1000;decide) λp6 H6 e6 S6=>?_;exact xH S6 k
abbrev kC:Stmt:=top 42
theorem mU:FnScope ["claims","amounts"] pam (zk kC):=xt
theorem Bq (B:Bl mg) (B2:Bl3 mg) (Xc:Cal P w K mg base CX0 1 "whole_corner" ["parts"] spWC) (F:Fun K "evenly" "evenly" kC f fd):FnOk P w K mg base CX0 2 f fd pam (cc 1):=by
 refine F.oo mU λH vs Q E hr nd0 h=>?_;obtain ⟨G,l,eG,hA,ok,k⟩:=h;obtain ⟨v,rfl,al⟩:=Yu hA;have S:Sta H G H [] _:=Sta.enter eG al;have few:=ok.few;refine ⟨_,(sC (ps_a 1 mU.nd (pcf ["claim"] 1 [] (kL (pv 0)) (pg_c 0) qp (pix 0))) (eR (ps_ret (Ei (N:=["level","amounts"]) (n:=1) (fr:=[1]) (y:="level") rfl ⟨rfl,by decide+kernel,rfl,by decide,rfl,rfl,λ_ _=>rfl,λ_=>rfl,rfl,rfl,rfl,rfl⟩ (kL (Eh rfl rfl B2.sorted rfl B2.set (pe_op AY (pe_lst (WI sE fh)) (pv 1)))) (λ_ _ _ _=>(qt (i:=0) (show (["level","amounts"]:List Str).Nodup from by decide+kernel) rfl (by walk_at "o"))) (λ_ _ _ _=>qp) (λ_ _ _ _=>(pcl Xc hr (WI (pcf ["amount","level"] 1 [0] (kL (pv 1)) (pg_c 0) qp (cY (CD rfl) rfl B.min GO (WI (pv 0) (WI (pv 1) fh)))) fh))))))),kI ?_⟩;left;refine zN (xs:=l.map zC) S ‹_› λJ wk=>?_;refine yh wk (λj=> .int (l.getD j (0,0,0)).1) (ys:=(amV l).map PyData.int) (by unfold amV;rw [Qa,Qr];exact zo (λc:Cl=>PyData.int c.1) (0,0,0) l) S (λj x v=>λhx t1 S hd=>?_) λD H1 e1 S1=>?_
 ·obtain ⟨c,hc,rfl⟩:=zJ hx;refine zE ⟨rfl,?_⟩;left;refine hd (by assumption) ?_;rw [zF hc];exact Has.int
 have S2:Sta H G H1 [] [(.list ((amV l).map PyData.int), .ref D)]:=S1.freeze.weak (by walk_at "sub") (by walk_at "dats");clear S1;have l8:(amV l).length<=8:=by rw [yj];omega
 have L:=ok.lv;have Lf:=L.few;dsimp only at k;unfold flV at k;have ek:IG (amV l) (lvV (amV l)) 1=evP (amV l) (lvV (amV l)):=rfl;rw [ek] at k;generalize amV l=as at*;left;rename_i p3 H3 e3 S3;refine Ze S3 (S3.vwC (by right)) (S3.vwL ‹_›) (by rw [Qa];show 1+_<=1000;omega) λp4 H4 e4 S4=>?_;rw [show [PyData.int 0]++as.map PyData.int=(0::as).map PyData.int from rfl] at S4;refine WC S4 (by right) (by rw [QA];omega) λos l5 H5 h1 h2 e5 S5=>?_;cases lvV_eq h1 h2;generalize lvV as=ls at*;refine AI (xs:=ls.map PyData.int) S5 (by right) λJ2 Lu=>?_;refine yt Lu (λj=>zA (zP (Wm as (ls.getD j 0)))) (ys:=(evP as ls).map zA) (by unfold evP;rw [Qa,Qr];exact zo (λz:Int=>zA (zP (Wm as z))) 0 ls) S5 (λ_ _=>Qf _ (by right)) (by rw [Qa];omega) (λj x v B' G' Kd Kn hx t1 S hd C ex s0 H0=>?_) λD6 H6 e6 S6=>?_
 ·obtain ⟨z,hz,rfl⟩:=zJ hx;cases S.int1;refine zE ⟨rfl,?_⟩;left;refine zN (xs:=as.map PyData.int) S ‹_› λJ3 LI=>?_;refine yt LI (λi=> .int (min (as.getD i 0) z)) (ys:=(Wm as z).map PyData.int) (by unfold Wm;rw [Qa,Qr];exact zo (λa:Int=>PyData.int (min a z)) 0 as) S (λ_ _=> .mem (by right)) (by rw [Qa];omega) (λi x u B3 G3 Kd2 Kn2 Ly t2 S2 hd2 C2 ex2 s2 H2=>?_) λD7 H7 e7 S7=>?_
  ·obtain ⟨a,ha,rfl⟩:=zJ Ly;cases S2.int1;refine zE ⟨rfl,?_⟩;left;refine hd2 S2 ?_;rw [zF ha];exact Has.int
  left;refine Hu S7.freeze ‹_› (by unfold Wm;rw [Qa];exact l8) λw8 H8 e8 S8=>?_;refine hd S8 ?_;rw [zF hz];exact .mem (by right)
 exact xH S6 k
abbrev kz:Stmt:=top 43
theorem An:FnScope pam pam (zk kz):=xt
theorem Bm (dw:Cal P w K mg base CX0 2 "evenly" pam (cc 1)) (du:Cal P w K mg base CX0 5 "turned" ["path"] cR) (F:Fun K "losses" "losses" kz f fd):FnOk P w K mg base CX0 6 f fd pam (cc 2):=by
 refine F.oo An λH vs Q E hr nd0 h=>?_;obtain ⟨G,l,eG,hA,ok,k⟩:=h;obtain ⟨v,rfl,al⟩:=Yu hA;have S:Sta H G H [] _:=Sta.enter eG al;walk_at "=fihahab0cc";left;refine aI S ‹_› ok λp1 H1 e1 S1=>?_;left;refine nj (a:=flV 1 l) S1.freeze ‹_› (ok.lv.inE ok.am) λp2 H2 e2 S2=>?_;rw [show yv (flV 1 l)=flV 2 l from dC ok.lv] at S2;exact xH S2 k
abbrev As:Stmt:=top 46
theorem Ho:FnScope paC paC (zk As):=xt
theorem HV (Vp:Cal P w K mg base CX0 5 "behind" paO Ur) (uf:Cal P w K mg base CX0 4 "scaled" paV jP) (Xd:Cal P w K mg base CX0 3 "minus" pab ao) (F:Fun K "upto" "upto" As f fd):FnOk P w K mg base CX0 6 f fd paC wX:=by
 refine F.oo Ho λH vs Q E hr nd0 h=>?_;obtain ⟨G,⟨p,a,b⟩,eG,hA,ok,k⟩:=h;obtain ⟨v0,v1,v2,rfl,al⟩:=ZT hA;have S:Sta H G H [] _:=Sta.enter eG al;dsimp only at ok k S;have zp:=ok.sz;have one:SzQ 1 (1:Rat):=by unfold SzQ Sz;decide+kernel
 obtain ⟨m,pm⟩:=ok.m;walk_at "=fihahab1ab0cahab2ahasadadcab0ccc";left;refine nr (a:=a) (p:=p) S ‹_› ‹_› ok.pa (zp.mono (by decide)) λp1 H1 e1 S1=>?_;have S2:=S1.freeze;left;rename_i p3 H3 e3 S3;refine qh (p:=(1:Rat)) (q:=p) S3 ‹_› ‹_› one zp (by decide) True.intro λw4 H4 e4 S4=>?_;left;refine nr (a:=b) (p:=1 - p) S4 ‹_› ‹_› ok.pb ((one.sub zp).mono (by decide)) λp5 H5 e5 S5=>?_;left;refine nC (a:=zW p a) (b:=zW (1 - p) b) S5.freeze ‹_› ‹_› ok.sa ok.sb pm λp6 H6 e6 S6=>?_;exact xH S6 k
abbrev kD:Stmt:=top 40
theorem dY:FnScope ["shape","claims","word"] pax (zk kD):=xt
abbrev VX:Stmt:=ZE (top 52) 3
theorem mW:FnScope paz paz (zk VX):=xt
abbrev Wz:Stmt:=ZE (top 52) 4
theorem kh:FnScope pau pau (zk Wz):=xt
end
abbrev ku:Stmt:=top 38
theorem Al:FnScope ["ones","twos","numbers","one","two"] paj (zk ku):=xt
theorem Bj (B:Bl mg) (dz:Cal P w K mg base CX0 1 "before" pab cV) (F:Fun K "merged" "merged" ku f fd):FnOk P w K mg base CX0 2 f fd paj jV:=by
 refine F.oo Al λH vs Q E hr nd0 h=>?_;obtain ⟨G,⟨p,q⟩,eG,hA,⟨⟨n,z1,z2,hn⟩,l1,l2⟩,k⟩:=h;obtain ⟨v1,v2,rfl,al⟩:=xo hA;have S:Sta H G H [] [(.list (p.map frD),v1),(.list (q.map frD),v2)]:=Sta.enter eG al;dsimp only at z1 z2 l1 l2 k;have Sg:n+n<=100000000:=by omega
 walk_at "=ek2Dcek3dek4de*L21b3Bab0cj61b4Bab1cjflEhaob0b3aob1b4ceGYb2aob0b3cf:3delptmob0b3ob1b4jf:3dneGYb2aob1b4cf:4dfiAAb2Xb0Qb33Xb1Qb43";left;rename_i pn H1 e1 S1;refine my (λm σ cs ds=>∃(i j:Nat) (ns:List Rat),σ=[some v1,some v2,some (.ref pn),some (.int (i:Nat)),some (.int (j:Nat))]/\cs=[(pn,ns.map frD)]/\ds=[(.list (p.map frD),v1),(.list (q.map frD),v2)]/\i<=p.length/\j<=q.length/\ns.length<=i+j/\ns++yw (p.drop i) (q.drop j)=yw p q/\m=(p.length - i)+(q.length - j)) ((p.length - 0)+(q.length - 0)) S1 ⟨0,0,[],rfl,rfl,rfl,jal _,jal _,jal _,rfl,rfl⟩ ?_
 rintro m σ H2 cs ds ⟨i,j,ns,rfl,rfl,rfl,hi,hj,LU,Lh,rfl⟩ S2
 have cd:∀(l:List Rat) (t:Nat),t<=l.length->lJ (l.map frD) (some ((t:Nat):Int)) none=(l.drop t).map frD:=by
  intro l t ht;unfold lJ;rw [HT.sIx_none,HT.sIx_nat,Qa,Nat.min_eq_left ht,Ti (by rw [Ts,Qa];exact Qv _),<-List.map_drop]
 left;refine Yw (λc1=>?_) (λc1=>?_)
 ·rw [Qa] at c1;left;refine uD (λc2=>?_) (λc2=>?_)
  ·rw [Qa,decide_eq_true_eq] at c2;have Kv:i<p.length:=by omega
   have Md:j<q.length:=by omega
   have gi:=Qb Kv;have gj:=Qb Md;have di:=jag Kv;have dj:=jag Md;have zi:=z1 _ (Td Kv);have zj:=z2 _ (Td Md);generalize p[i]=x at*;generalize q[j]=y at*;have ix:atI (p.map frD) ((i:Nat):Int)=some (frD x):=yi (by rw [Qh,gi];rfl);have iy:atI (q.map frD) ((j:Nat):Int)=some (frD y):=yi (by rw [Qh,gj];rfl);rw [di,dj,yw] at Lh;left;refine yr (xs:=p.map frD) (x:=frD x) S2 ‹_› ix λw3 S3=>?_;left;refine yr (xs:=q.map frD) (x:=frD y) S3 ‹_› iy λw4 S4=>?_;left;refine nD S4 ‹_› ‹_› zi zj Sg ?_;left;refine Yw (λc3=>?_) (λc3=>?_)
   ·rw [QH c3] at Lh;left;refine yr (xs:=p.map frD) (x:=frD x) S4 ‹_› ix λw5 S5=>?_;left;refine yK (y:=frD x) S5 ‹_› (by rw [Qa];omega) λH6 S6=>?_;left;refine ⟨_,?_,_,_,S6.dat (by walk_at "dats"),i+1,j,ns++[x],rfl,by rw [QP];rfl,rfl,Kv,hj,by rw [Qz,TJ];omega,?_,rfl⟩
    ·omega
    ·rw [<-Lh,dj,jae];rfl
   ·rw [QO c3] at Lh;left;refine yr (xs:=p.map frD) (x:=frD x) S4 ‹_› ix λw5 S5=>?_;left;refine yr (xs:=q.map frD) (x:=frD y) S5 ‹_› iy λw6 S6=>?_;refine nB (x:=frD x) (y:=frD y) (S6.hp ‹_›) (S6.hp ‹_›) (iL _) (iL _) ?_;rw [qP];left;refine Yw (λc4=>?_) (λc4=>?_)
    ·rw [QH c4] at Lh;left;refine yr (xs:=q.map frD) (x:=frD y) S6 ‹_› iy λw7 S7=>?_;left;refine yK (y:=frD y) S7 ‹_› (by rw [Qa];omega) λH8 S8=>?_;left;refine ⟨_,?_,_,_,S8.dat (by walk_at "dats"),i+1,j+1,ns++[y],rfl,by rw [QP];rfl,rfl,Kv,Md,by rw [Qz,TJ];omega,?_,rfl⟩
     ·omega
     ·rw [<-Lh,jae];rfl
    ·rw [QO c4] at Lh;left;refine yr (xs:=q.map frD) (x:=frD y) S6 ‹_› iy λw7 S7=>?_;left;refine yK (y:=frD y) S7 ‹_› (by rw [Qa];omega) λH8 S8=>?_;left;refine ⟨_,?_,_,_,S8.dat (by walk_at "dats"),i,j+1,ns++[y],rfl,by rw [QP];rfl,rfl,hi,Md,by rw [Qz,TJ];omega,?_,rfl⟩
     ·omega
     ·rw [<-Lh,di,jae];rfl
  ·rw [Qa,decide_eq_false_iff_not] at c2;have LC:p.length<=i\/q.length<=j:= .inr (by omega);left;refine iS (xs:=p.map frD) S2 ‹_› λl3 H3 e3 S3=>?_;rw [cd p i hi] at S3;refine Ze S3 (S3.vwC (by right)) (S3.vwC (by right)) (by rw [Qa,Qa,Ts];omega) λp4 H4 e4 S4=>?_;left;refine iS (xs:=q.map frD) S4 ‹_› λl5 H5 e5 S5=>?_;rw [cd q j hj] at S5;refine Ze S5 (S5.vwC (by right)) (S5.vwC (by right)) (by rw [Qz,Qa,Qa,Qa,Ts,Ts];omega) λp6 H6 e6 S6=>?_;refine Gv ?_
   have em:(ns.map frD++(p.drop i).map frD)++(q.drop j).map frD=(yw p q).map frD:=by
    rw [<-Lh,QP,jae]
    congr 1
    rcases LC with h|h
    ·rw [jbt h,yw];simp
    ·rw [jbt h,ft];simp
   rw [em] at S6;exact xH (S6.weak (cs':=[_]) (by walk_at "sub") Dats.nil) k
 ·rw [Qa] at c1;have LC:p.length<=i\/q.length<=j:= .inl (by omega);refine uD (λh=>by cases h) (λ_=>?_);left;refine iS (xs:=p.map frD) S2 ‹_› λl3 H3 e3 S3=>?_;rw [cd p i hi] at S3;refine Ze S3 (S3.vwC (by right)) (S3.vwC (by right)) (by rw [Qa,Qa,Ts];omega) λp4 H4 e4 S4=>?_;left;refine iS (xs:=q.map frD) S4 ‹_› λl5 H5 e5 S5=>?_;rw [cd q j hj] at S5;refine Ze S5 (S5.vwC (by right)) (S5.vwC (by right)) (by rw [Qz,Qa,Qa,Qa,Ts,Ts];omega) λp6 H6 e6 S6=>?_;refine Gv ?_
  have em:(ns.map frD++(p.drop i).map frD)++(q.drop j).map frD=(yw p q).map frD:=by
   rw [<-Lh,QP,jae]
   congr 1
   rcases LC with h|h
   ·rw [jbt h,yw];simp
   ·rw [jbt h,ft];simp
  rw [em] at S6;exact xH (S6.weak (cs':=[_]) (by walk_at "sub") Dats.nil) k
abbrev Zp:Stmt:=top 36
theorem Ut:FnScope ["path","place","levels","amounts","purses","level","reached","portion"] paR (zk Zp):=xt
theorem Ep (B:Bl mg) (iI:Cal P w K mg base CX0 2 "last_reached" paQ rX) (bU:Cal P w K mg base CX0 4 "portion_reached" pav Up) (rH:Cal P w K mg base CX0 4 "amount_at" pas cW) (F:Fun K "purses_reaching" "purses_reaching" Zp f fd):FnOk P w K mg base CX0 5 f fd paR pP:=by
 refine F.oo Ut λH vs Q E hr nd0 h=>?_;obtain ⟨G,⟨a,kk,L⟩,eG,hA,⟨m,n,b,ok⟩,k⟩:=h;obtain ⟨v1,v2,v3,rfl,al⟩:=ZT hA;have S:Sta H G H [] [(zU a,v1),(.int (kk:Nat),v2),(.list (L.map frD),v3)]:=Sta.enter eG al;dsimp only at ok k;cases (S.hp (x:= .int (kk:Nat)) (v:=v2) ‹_›).int_of;have la:0<a.length:=jaz.mpr ok.pr.ne;have fa:=ok.pr.few;have fl:=ok.few;have hz:=ok.sz;walk_at "=eR3corner,place;11;vb0q0uog0b1ek4DceHvb2z5ek6hab3ab5cfl1b6NBab0cdjek7haob3b6aob3Ab6dab5cfGYb4ahaoob0b6daoob0Ab6ddab7ccnfib4";left;refine zN (xs:=a.map zA) S ‹_› λJ wk=>?_;refine yh wk (λj=>frD ((λc:zg=>c.2.getD kk 0) (a.getD j (0,[])))) (ys:=(a.map λc=>c.2.getD kk 0).map frD) (by rw [Qa,Qr];exact zo (λc:zg=>frD (c.2.getD kk 0)) (0,[]) a) S (λj x v=>λhx t1 S hd=>?_) λD H1 e1 S1=>?_
 ·obtain ⟨c,hc,rfl⟩:=zJ hx;have gc:=getD_some (l:=c.2) (k:=kk) (by rw [ok.pm.t.len c (Qc hc)];exact ok.kn);refine zE ⟨rfl,?_⟩;left;rename_i w2 S2;refine nA (xs:=c.2.map frD) (x:=frD (c.2.getD kk 0)) S2 ‹_› (yi (by rw [Qh,gc];rfl)) λw3 S3=>?_;refine hd S3 ?_;rw [zF hc];exact .mem (by right)
 have S2:=S1.freeze;clear S1;left;rename_i pp H3 e3 S3;have S4:Sta H G H3 [(pp,[])] [(.list ((a.map λc=>c.2.getD kk 0).map frD), .ref D),(zU a,v1),(.list (L.map frD),v3)]:=S3.dat (by walk_at "dats");refine zN (xs:=L.map frD) S4 ‹_› λJ wk=>?_;refine xF wk (λi σ cs ds=>∃(x5 x6 x7:Option V),σ=[some v1,some (.int (kk:Nat)),some v3,some (.ref D),some (.ref pp),x5,x6,x7]/\cs=[(pp,((L.take i).filterMap (yZ a kk)).map frD)]/\ds=[(.list ((a.map λc=>c.2.getD kk 0).map frD), .ref D),(zU a,v1),(.list (L.map frD),v3)]) S4 ⟨none,none,none,rfl,rfl,rfl⟩ (λi σ cs ds h=>?_) ?_ ?_
 ·obtain ⟨_,_,_,_,_,rfl⟩:=h;exact .mem (by right)
 ·rintro i x u σ H5 cs ds hx ⟨x5,x6,x7,rfl,rfl,rfl⟩ S5
  obtain ⟨l,hl,rfl⟩:=zJ hx;obtain ⟨zl,l0⟩:=ok.lev l (Qc hl);have OT:i<L.length:=(Qd.mp hl).1;have zq:∀c∈a,SzQ n (c.2.getD kk 0):=λc hc=>(ok.pr.sz c hc).2 _ (Qc (getD_some (l:=c.2) (k:=kk) (by rw [ok.pm.t.len c hc];exact ok.kn)))
  have stepL:∀o:Option Rat,yZ a kk l=o->((L.take (i+1)).filterMap (yZ a kk)).map frD=((L.take i).filterMap (yZ a kk)).map frD++(o.toList.map frD):=λo ho=>by
   rw [TH,hl,List.filterMap_append,QP]
   congr 1
   cases o with
   |none=>simp [ho]
   |some y=>simp [ho]
  left;refine AH (qs:=a.map λc=>c.2.getD kk 0) (e:=l) (n:=9000) S5 (S5.hp ‹_›) (S5.hp ‹_›) ⟨by rw [Qa];exact la,by rw [Qa];omega,λq hq=>?_,zl.mono (by omega),by decide,λq hq=>?_⟩ λr q hi Lz MZ=>?_
  ·obtain ⟨c,hc,rfl⟩:=Qj.mp hq;exact (zq c hc).mono (by omega)
  ·obtain ⟨c,hc,rfl⟩:=zJ hq;exact l0 c hc
  obtain ⟨c,hc,rfl⟩:=zJ hi;have hra:r<a.length:=(Qd.mp hc).1;rw [Qa] at MZ;left;refine Yw (λc1=>?_) (λc1=>?_)
  ·rw [Qa] at c1
   obtain ⟨y,hy,Rv⟩:∃y,(a.map λc=>c.2.getD kk 0)[r+1]? =some y/\l<y:=by
    rcases MZ with h|h
    ·omega
    ·exact h
   obtain ⟨d,hd,rfl⟩:=zJ hy
   have key:yZ a kk l=some (xC ((l - c.2.getD kk 0) / (d.2.getD kk 0 - c.2.getD kk 0)) c.1 d.1):=by
    have pm:=ok.pm;have okk:=ok.kn
    obtain ⟨c0,r0,e0⟩:∃c r,a=c::r:=by
     cases a with
     |nil=>simp at hra
     |cons c r=>exact ⟨c,r,rfl⟩
    rw [e0] at pm hc hd⊢;exact ni okk pm hc hd Lz Rv
   have zc:=zq c (Qc hc);have zd:=zq d (Qc hd);have z1:=(ok.pr.sz c (Qc hc)).1;have z2:=(ok.pr.sz d (Qc hd)).1;have er:((r:Nat):Int)+1=((r+1:Nat):Int):=by omega
   have KN:d.2.getD kk 0≠c.2.getD kk 0:=λz=>by rw [z] at Rv;exact jaf.mpr Rv Lz
   have zt:=SzQ.port zl zc zd;have st:=stepL _ key;left;refine yr (xs:=(a.map λc=>c.2.getD kk 0).map frD) (x:=frD (c.2.getD kk 0)) S5 ‹_› (yi (by rw [Qh,hi];rfl)) λw6 S6=>?_;left;refine yr (xs:=(a.map λc=>c.2.getD kk 0).map frD) (x:=frD (d.2.getD kk 0)) S6 ‹_› (by rw [er];exact yi (by rw [Qh,hy];rfl)) λw7 S7=>?_;left;generalize c.2.getD kk 0=x0 at*;generalize d.2.getD kk 0=y0 at*;refine iT S7 ‹_› ‹_› ‹_› zc zd zl (by omega) KN λr8 H8 e8 S8=>?_;generalize (l - x0) / (y0 - x0)=t at*;left;refine yr (xs:=a.map zA) (x:=zA c) S8 ‹_› (yi (by rw [Qh,hc];rfl)) λw9 S9=>?_;left;rename_i Mt KU;refine yr (xs:=a.map zA) (x:=zA d) KU ‹_› (by rw [er];exact yi (by rw [Qh,hd];rfl)) λPy KO=>?_;left;rename_i Px KZ;refine nE KZ ‹_› ‹_› ‹_› z1 z2 zt (by omega) λr13 OF Ox KR=>?_;left;refine yK (y:=frD (xC t c.1 d.1)) KR ‹_› ?_ λPp LW=>?_
   ·rw [Qa];have:=jbm (yZ a kk) (L.take i);rw [TB] at this;omega
   left;exact ZK (LW.dat (by walk_at "dats")) ⟨_,_,_,rfl,by rw [st];rfl,rfl⟩
  ·rw [Qa] at c1;have hrl:r+1=a.length:=by omega
   have key:yZ a kk l=none:=by
    have pm:=ok.pm;have okk:=ok.kn
    obtain ⟨c0,r0,e0⟩:∃c r,a=c::r:=by
     cases a with
     |nil=>simp at hra
     |cons c r=>exact ⟨c,r,rfl⟩
    rw [e0] at pm hc hrl⊢;refine iR okk pm λl' KJ=>?_;rw [jav,<-hrl,Nat.add_sub_cancel,hc] at KJ;cases KJ;exact Lz
   have st:=stepL _ key;left;exact ZK (S5.dat (by walk_at "dats")) ⟨_,_,_,rfl,by rw [st];simp,rfl⟩
 ·rintro σ H5 cs ds ⟨x5,x6,x7,rfl,rfl,rfl⟩ S5
  rw [Qa,List.take_length] at S5;left;exact xH S5 k
abbrev YU:Stmt:=top 37
theorem dU:FnScope ["path","others","purse","parts","part","other"] paS (zk YU):=xt
theorem uR (B:Bl mg) (wg:Cal P w K mg base CX0 6 "parts_at" ["path","purse"] Uq) (F:Fun K "parts_within" "parts_within" YU f fd):FnOk P w K mg base CX0 7 f fd paS ak:=by
 refine F.oo dU λH vs Q E hr nd0 h=>?_;obtain ⟨G,⟨a,Qs,e⟩,eG,hA,ok,k⟩:=h;obtain ⟨v1,v2,v3,rfl,al⟩:=ZT hA;have S:Sta H G H [] [(zU a,v1),(.list (Qs.map zU),v2),(frD e,v3)]:=Sta.enter eG al;dsimp only at ok k;unfold yQ at k;have few:=ok.few;have len:=ok.len;have part:=ok.part;walk_at "=ek3DceH{ahab0ab2cab1cKwz4wz5IfGηb3ahab5ab4ccfiZab3c";left;rename_i pp H1 e1 S1;refine aG (a:=a) (e:=e) (m:=700) (n:=700) S1 ‹_› ‹_› ok.p ok.ez (by decide) ok.e0 λr2 H2 e2 S2=>?_;left;generalize zh a e=ps at*;have S3:Sta H G H2 [(pp,[])] [(zR ps,r2),(.list (Qs.map zU),v2)]:=S2.dat (by walk_at "dats");refine so (xs:=ps.map frD) (ys:=Qs.map zU) S3 ‹_› ‹_› λJ wk=>?_;refine xF wk (λi σ cs ds=>∃(x4 x5:Option V),σ=[some v1,some v2,some v3,some (.ref pp),x4,x5]/\cs=[(pp,(((List.zipWith zh Qs ps).take i).flatten).map frD)]/\ds=[(zR ps,r2),(.list (Qs.map zU),v2)]) S3 ⟨none,none,rfl,rfl,rfl⟩ (λi σ cs ds h=>?_) ?_ ?_
 ·obtain ⟨_,_,_,_,rfl⟩:=h;exact ⟨.mem (by right),λ_ _ h=>h.tail, .mem (by right)⟩
 ·rintro i z u σ H4 cs ds hz ⟨x4,x5,rfl,rfl,rfl⟩ S4
  obtain ⟨z1,z2,h1,h2,rfl⟩:=Zo hz;obtain ⟨p,hp,rfl⟩:=zJ h1;obtain ⟨Q',hQ,rfl⟩:=zJ h2;have op:=part p (Qc hp);obtain ⟨oq,ql⟩:=ok.q Q' (Qc hQ);refine xf (xc S4 ‹_› λw4 w5 S5=>?_);left;refine aG (a:=Q') (e:=p) (m:=700) (n:=700) S5 ‹_› ‹_› oq op.1 (by decide) op.2 λr6 H6 e6 S6=>?_;left;refine uH (ys:=(zh Q' p).map frD) S6 ‹_› ?_ λH7 S7=>?_
  ·rw [Qa,Qa];have l1:=Cj (ps:=ps) i λQ hQ c hc=>(ok.q Q hQ).2 c hc;have l2:=fe (e:=p) ql;omega
  left;refine ZK (S7.dat (by walk_at "dats")) ⟨_,_,rfl,?_,rfl⟩;rw [TH,Qt,hQ,hp]
  simp
 ·rintro σ H4 cs ds ⟨x4,x5,rfl,rfl,rfl⟩ S4
  rw [yR,Qa,Qa,Ti (by rw [Qy];omega)] at S4;left;exact xN (by assumption) k ‹_›
abbrev ki:Stmt:=top 27
theorem Ag:FnScope ["path","others","purses","place","other"] paX (zk ki):=xt
theorem AZ (B:Bl mg) (ug:Cal P w K mg base CX0 2 "merged" paj jV) (we:Cal P w K mg base CX0 5 "purses_reaching" paR pP) (Dq:Cal P w K mg base CX0 7 "parts_within" paS ak) (F:Fun K "within" "within" ki f fd):FnOk P w K mg base CX0 8 f fd paX Um:=by
 refine F.oo Ag λH vs Q E hr nd0 h=>?_;obtain ⟨G,⟨a,Qs⟩,eG,hA,ok,k⟩:=h;obtain ⟨v1,v2,rfl,al⟩:=xo hA;have S:Sta H G H [] [(zU a,v1),(.list (Qs.map zU),v2)]:=Sta.enter eG al;dsimp only at ok k;have pl:=ok.pl;have few:=ok.few;walk_at "=eR2corner;1;vb0q0ug0eH%ab1cKwz3wz4Ifk2hab2ahab0ab3aycorner;1;vb4q0ug0ccfiypurse,path,others;101;vb2q0usab0ahab1ab2ab0cc";left;refine zN (xs:=a.map zA) S ‹_› λJ wk=>?_;refine yh wk (λj=>frD ((λc:zg=>c.1) (a.getD j (0,[])))) (ys:=(yb a).map frD) (by unfold yb;rw [Qa,Qr];exact zo (λc:zg=>frD c.1) (0,[]) a) S (λj x v=>λhx t1 S hd=>?_) λD H1 e1 S1=>?_
 ·obtain ⟨c,hc,rfl⟩:=zJ hx;refine zE ⟨rfl,?_⟩;left;refine hd (by assumption) ?_;rw [zF hc];exact .mem (by right)
 have S2:=S1.freeze;clear S1;left;refine kJ (xs:=Qs.map zU) S2 ‹_› λJ wk=>?_;refine xF wk (λi σ cs ds=>∃(pp:Addr) (x3 x4:Option V),σ=[some v1,some v2,some (.ref pp),x3,x4]/\cs=[]/\ds=[(.list ((wpF a 0 (Qs.take i) (yb a)).map frD), .ref pp),(zU a,v1),(.list (Qs.map zU),v2)]) S2 ⟨D,none,none,rfl,rfl,rfl⟩ (λi σ cs ds h=>?_) ?_ ?_
 ·obtain ⟨_,_,_,_,_,rfl⟩:=h;exact .mem (by right)
 ·rintro i x u σ H3 cs ds hx ⟨pp,x3,x4,rfl,rfl,rfl⟩ S3
  obtain ⟨x0,Lc,rfl⟩:=Vg hx;obtain ⟨Q',hQ,rfl⟩:=zJ Lc;have OT:i<Qs.length:=(Qd.mp hQ).1;have ql:=ok.ql Q' (Qc hQ);refine xf (xc S3 ‹_› λw3 w4 S4=>?_);cases S4.int1;left;refine zN (xs:=Q'.map zA) S4 ‹_› λJ2 Lu=>?_;refine yh Lu (λj=>frD ((λc:zg=>c.1) (Q'.getD j (0,[])))) (ys:=(yb Q').map frD) (by unfold yb;rw [Qa,Qr];exact zo (λc:zg=>frD c.1) (0,[]) Q') S4 (λj x v=>λhx t1 S hd=>?_) λD5 H5 e5 S5=>?_
  ·obtain ⟨c,hc,rfl⟩:=zJ hx;refine zE ⟨rfl,?_⟩;left;refine hd (by assumption) ?_;rw [zF hc];exact .mem (by right)
  have S6:=S5.freeze;clear S5;left;refine DX (P:=a) (k:=i) (L:=yb Q') S6 ‹_› ‹_› (ok.reach hQ) λp7 H7 e7 S7=>?_;have S8:Sta H G H7 [] [(.list ((Yn a i Q').map frD), .ref p7),(.list ((wpF a 0 (Qs.take i) (yb a)).map frD), .ref pp),(zU a,v1),(.list (Qs.map zU),v2)]:=S7.freeze.dat (by walk_at "dats");clear S7;left;refine AG (p:=wpF a 0 (Qs.take i) (yb a)) (q:=Yn a i Q') (n:=700) S8 ‹_› ‹_› (λq hq=>(ok.szM _ (DD hq)).1) (λq hq=>(ok.szM _ (aM.mpr (.inr ⟨i,Q',hQ,by rw [jbP];exact hq⟩))).1) (by decide) (by have:=ok.len i;omega) ?_ λpm H9 e9 S9=>?_
  ·unfold Yn;have:=jbm (yZ a i) (yb Q');have e:(yb Q').length=Q'.length:=by unfold yb;rw [Qa]
   omega
  left;have et:Qs.take (i+1)=Qs.take i++[Q']:=by rw [TH,hQ];rfl
  have ew:wpF a 0 (Qs.take (i+1)) (yb a)=yw (wpF a 0 (Qs.take i) (yb a)) (Yn a i Q'):=by
   rw [et,rJ,jbP,TB,Nat.min_eq_left (by omega)]
  refine ZK (S9.freeze.dat (ds':=[(.list ((yw (wpF a 0 (Qs.take i) (yb a)) (Yn a i Q')).map frD), .ref pm),(zU a,v1),(.list (Qs.map zU),v2)]) (by walk_at "dats")) ⟨pm,_,_,rfl,rfl,by rw [ew]⟩
 ·rintro σ H3 cs ds ⟨pp,x3,x4,rfl,rfl,rfl⟩ S3
  rw [xO,Qa,List.take_length] at S3;left;refine zN (xs:=(wpV a Qs).map frD) S3 ‹_› λJ2 Lu=>?_;refine yt Lu (λj=>zA ((λe:Rat=>(e,yQ Qs (zh a e))) ((wpV a Qs).getD j 0))) (ys:=(yu a Qs).map zA) (by unfold yu;rw [Qa,Qr];exact zo (λe:Rat=>zA (e,yQ Qs (zh a e))) 0 (wpV a Qs)) S3 (λ_ _=> .mem (by right)) (by rw [Qa];have:=ok.lenV;omega) (λj x v B' G' Kd Kn hx t1 S hd C ex s0 H0=>?_) λD5 H5 e5 S5=>?_
  ·obtain ⟨e,he,rfl⟩:=zJ hx;refine zE ⟨rfl,?_⟩;left;refine qi (P:=a) (Qs:=Qs) (e:=e) S ‹_› ‹_› ‹_› (ok.pw (Qc he)) λr6 H6 e6 S6=>?_;left;refine hd (by assumption) ?_;rw [zF he];exact .mem (by right)
  left;exact xH S5 k
abbrev aw:Stmt:=top 9
theorem pW:FnScope paA paA (zk aw):=xt
theorem El (F:Fun K "those_at" "those_at" aw f fd):FnOk P w K mg base CX0 1 f fd paA dG:=by
 refine F.oo pW λH vs Q E hr nd0 h=>?_;obtain ⟨G,⟨l,pl⟩,eG,hA,⟨lt,few⟩,k⟩:=h;obtain ⟨v0,v1,rfl,al⟩:=xo hA;have S:Sta H G H [] [(zm l,v0),(plD pl,v1)]:=Sta.enter eG al;dsimp only at lt few k;walk_at "=fiyplace,claims;10;vb1q0uob1b0";left;refine zN (xs:=pl.map λ(i:Nat)=>PyData.int (i:Int)) S ‹_› λJ wk=>?_;refine yh wk (λj=>zC (l.getD (pl.getD j 0) (0,0,0))) (ys:=(yn (0,0,0) pl l).map zC) (by unfold yn;rw [Qa,Qr];exact zo (λi:Nat=>zC (l.getD i (0,0,0))) 0 pl) S (λj x v=>λhx t1 S hd=>?_) λD H1 e1 S1=>?_
 ·obtain ⟨i,hi,rfl⟩:=zJ hx;cases S.int1;have il:=lt i (Qc hi);have hc:=Qb il;refine zE ⟨rfl,?_⟩;left;refine yr (xs:=l.map zC) (x:=zC l[i]) S ‹_› (yi (by rw [Qh,hc];rfl)) λw2 S2=>?_;refine hd S2 ?_;rw [zF hi,zF hc];exact .mem (by right)
 exact xH S1 k
abbrev ZO:Stmt:=top 10
theorem au:FnScope paP paP (zk ZO):=xt
theorem Bh (B:Bl mg) (F:Fun K "places_of_rank" "places_of_rank" ZO f fd):FnOk P w K mg base CX0 1 f fd paP (XE zK):=by
 refine F.oo au λH vs Q E hr nd0 h=>?_;obtain ⟨G,⟨l,g⟩,eG,hA,few,k⟩:=h;obtain ⟨v0,v1,rfl,al⟩:=xo hA;have S0:Sta H G H [] [(.int g,v1),(zm l,v0)]:=(Sta.enter eG al).dat (by walk_at "dats");cases S0.int1;have S:Sta H G H [] [(zm l,v0)]:=S0.dat (by walk_at "dats");dsimp only at few k;walk_at "=fiyplace,claim,rank;21;%ab0cKwq0wq1I<ptmg1b2jb0";left;refine kJ (xs:=l.map zC) S ‹_› λJ wk=>?_;refine bq wk (λj=>if zK g (l.getD j (0,0,0)) then some (.int (j:Int)) else none) S (λ_ _=> .mem (by right)) (by rw [xO,Qa];omega) (λi x v B' G' Kd Kn hx t1 S hd hn C ex s0 H0=>?_) λD H1 e1 S1=>?_
 ·obtain ⟨x0,Lc,rfl⟩:=Vg hx;obtain ⟨c,hc,rfl⟩:=zJ Lc;refine xf (xc S ‹_› λu1 u2 S2=>?_);cases S2.int1;refine yN (zE (yN (zE (XO ⟨rfl,?_⟩))));rw [zF hc] at hd hn;left;refine Yw (λz=>?_) (λz=>?_)
  ·left;exact hd (QH (QX z)) S2 Has.int
  ·exact hn (QO λy=>z (QB y)) S2
 rw [xO,Qa,eU] at S1;exact xH S1 k
abbrev Zr:Stmt:=top 11
theorem Uv:FnScope pah pah (zk Zr):=xt
theorem uT (B:Bl mg) (F:Fun K "places_of_group" "places_of_group" Zr f fd):FnOk P w K mg base CX0 1 f fd pah (XE zu):=by
 refine F.oo Uv λH vs Q E hr nd0 h=>?_;obtain ⟨G,⟨l,g⟩,eG,hA,few,k⟩:=h;obtain ⟨v0,v1,rfl,al⟩:=xo hA;have S0:Sta H G H [] [(.int g,v1),(zm l,v0)]:=(Sta.enter eG al).dat (by walk_at "dats");cases S0.int1;have S:Sta H G H [] [(zm l,v0)]:=S0.dat (by walk_at "dats");dsimp only at few k;walk_at "=fiyplace,claim,group;21;%ab0cKwq0wq1I<ptmg1b2jb0";left;refine kJ (xs:=l.map zC) S ‹_› λJ wk=>?_;refine bq wk (λj=>if zu g (l.getD j (0,0,0)) then some (.int (j:Int)) else none) S (λ_ _=> .mem (by right)) (by rw [xO,Qa];omega) (λi x v B' G' Kd Kn hx t1 S hd hn C ex s0 H0=>?_) λD H1 e1 S1=>?_
 ·obtain ⟨x0,Lc,rfl⟩:=Vg hx;obtain ⟨c,hc,rfl⟩:=zJ Lc;refine xf (xc S ‹_› λu1 u2 S2=>?_);cases S2.int1;refine yN (zE (yN (zE (XO ⟨rfl,?_⟩))));rw [zF hc] at hd hn;left;refine Yw (λz=>?_) (λz=>?_)
  ·left;exact hd (QH (QX z)) S2 Has.int
  ·exact hn (QO λy=>z (QB y)) S2
 rw [xO,Qa,eU] at S1;exact xH S1 k
abbrev YX:Stmt:=top 12
theorem dZ:FnScope pah pah (zk YX):=xt
theorem ok_one (B:Bl mg) (F:Fun K "as_one_claim" "as_one_claim" YX f fd):FnOk P w K mg base CX0 1 f fd pah DK:=by
 refine F.oo dZ λH vs Q E hr nd0 h=>?_;obtain ⟨G,⟨l,g⟩,eG,hA,⟨pos,few⟩,k⟩:=h;obtain ⟨v0,v1,rfl,al⟩:=xo hA;have S0:Sta H G H [] [(.int g,v1),(zm l,v0)]:=(Sta.enter eG al).dat (by walk_at "dats");cases S0.int1;have S:Sta H G H [] [(zm l,v0)]:=S0.dat (by walk_at "dats");dsimp only at pos few k;walk_at "=fisaSTayclaim;1;vb0q0ug0ca.}ayclaim;1;vb0q0ug0cab1c";left;refine zN (xs:=l.map zC) S ‹_› λJ wk=>?_;refine yh wk (λj=> .int (l.getD j (0,0,0)).1) (ys:=(amV l).map PyData.int) (by unfold amV;rw [Qa,Qr];exact zo (λc:Cl=>PyData.int c.1) (0,0,0) l) S (λj x v=>λhx t1 S hd=>?_) λD H1 e1 S1=>?_
 ·obtain ⟨c,hc,rfl⟩:=zJ hx;refine zE ⟨rfl,?_⟩;left;refine hd (by assumption) ?_;rw [zF hc];exact Has.int
 left;have S2:Sta H G H1 [] [(zm l,v0)]:=S1.dropC;clear S1;refine zN (xs:=l.map zC) S2 ‹_› λJ wk=>?_;refine yh wk (λj=> .int (l.getD j (0,0,0)).2.1) (ys:=(l.map (·.2.1)).map PyData.int) (by rw [Qa,Qr];exact zo (λc:Cl=>PyData.int c.2.1) (0,0,0) l) S2 (λj x v=>λhx t1 S hd=>?_) λD3 H3 e3 S3=>?_
 ·obtain ⟨c,hc,rfl⟩:=zJ hx;refine zE ⟨rfl,?_⟩;left;refine hd (by assumption) ?_;rw [zF hc];exact Has.int
 left;refine AF (ns:=l.map (·.2.1)) S3 (by right) (by rw [Qa];exact pos) λm hm low=>?_;have em:m=pB (l.map (·.2.1)):=BC hm low;subst em;left;exact xN (by assumption) k ‹_›
abbrev YT:Stmt:=top 50
theorem dS:FnScope ["parts","places","count","wide","part","place"] paM (zk YT):=xt
theorem uQ (B:Bl mg) (F:Fun K "spread_parts" "spread_parts" YT f fd):FnOk P w K mg base CX0 1 f fd paM dI:=by
 refine F.oo dS λH vs Q E hr nd0 h=>?_;obtain ⟨G,⟨x,pl,n⟩,eG,hA,ok,k⟩:=h;obtain ⟨v0,v1,v2,rfl,al⟩:=ZT hA;have S0:Sta H G H [] [(.int (n:Int),v2),(zR x,v0),(plD pl,v1)]:=(Sta.enter eG al).dat (by walk_at "dats");cases S0.int1;have S:Sta H G H [] [(zR x,v0),(plD pl,v1)]:=S0.dat (by walk_at "dats");dsimp only at ok k;have few:=ok.few;walk_at "=ek3]Dasadadccb2eH{ab0ab1cKwz4wz5If=b4θb3b5fiZab3c";left;rename_i q1 H1 e1 S1 q2 H2 e2 S2;refine Hx (n:=n) S2 (by right) (by omega) λq3 H3 e3 S3=>?_;left
 have ez:List.replicate n (PyData.tuple [.int 0, .int 1])=(xM ((x.zip pl).take 0) (List.replicate n 0)).map frD:=by
  rw [List.take_zero,xM,jaO];rfl
 rw [ez] at S3;have S4:Sta H G H3 [(q3,(xM ((x.zip pl).take 0) (List.replicate n 0)).map frD)] [(zR x,v0),(plD pl,v1)]:=S3.weak (by walk_at "sub") (by walk_at "dats");clear S3 S2 S1;refine so (xs:=x.map frD) (ys:=pl.map λ(i:Nat)=>PyData.int (i:Int)) S4 ‹_› ‹_› λJ wk=>?_;refine xF wk (λi σ cs ds=>∃(x4 x5:Option V),σ=[some v0,some v1,some (.int (n:Int)),some (.ref q3),x4,x5]/\cs=[(q3,(xM ((x.zip pl).take i) (List.replicate n 0)).map frD)]/\ds=[(zR x,v0),(plD pl,v1)]) S4 ⟨none,none,rfl,rfl,rfl⟩ (λi σ cs ds h=>?_) ?_ ?_
 ·obtain ⟨_,_,_,_,rfl⟩:=h;exact ⟨.mem (by right),λ_ _ h=>h.tail, .mem (by right)⟩
 ·rintro i z u σ H5 cs ds hz ⟨x4,x5,rfl,rfl,rfl⟩ S5
  obtain ⟨z1,z2,h1,h2,rfl⟩:=Zo hz;obtain ⟨p,hp,rfl⟩:=zJ h1;obtain ⟨j,hj,rfl⟩:=zJ h2;have jl:=ok.pls.lt j (Qc hj);refine xf (xc S5 ‹_› λw4 w5 S6=>?_);have S7:Sta H G H5 [(q3,(xM ((x.zip pl).take i) (List.replicate n 0)).map frD)] [(.int (j:Int),w5),(frD p,w4),(zR x,v0),(plD pl,v1)]:=S6.dat (by walk_at "dats");cases S7.int1;left;refine Hw (j:=j) (y:=frD p) S7 ‹_› (IA (by rw [Qa,aq,QD];exact jl)) λH8 S8=>?_;left;refine ZK (S8.dat (by walk_at "dats")) ⟨_,_,rfl,?_,rfl⟩;have MU:(x.zip pl)[i]? =some (p,j):=by rw [Tr];exact ⟨hp,hj⟩
  rw [TH,MU];show [(q3,_)]=[(q3,(xM ((x.zip pl).take i++[(p,j)]) (List.replicate n 0)).map frD)];rw [dP,List.map_set]
 ·rintro σ H5 cs ds ⟨x4,x5,rfl,rfl,rfl⟩ S5
  rw [yR,Qa,Qa,Ti (by rw [List.length_zip];exact Qv _)] at S5;left;exact xN (by assumption) k ‹_›
abbrev km:Stmt:=top 49
theorem Ai:FnScope pan pan (zk km):=xt
theorem Bb (Dp:Cal P w K mg base CX0 1 "spread_parts" paM dI) (F:Fun K "spread" "spread" km f fd):FnOk P w K mg base CX0 2 f fd pan Uo:=by
 refine F.oo Ai λH vs Q E hr nd0 h=>?_;obtain ⟨G,⟨x,pl,n⟩,eG,hA,⟨ok,few⟩,k⟩:=h;obtain ⟨v0,v1,v2,rfl,al⟩:=ZT hA;have S0:Sta H G H [] [(.int (n:Int),v2),(zU x,v0),(plD pl,v1)]:=(Sta.enter eG al).dat (by walk_at "dats");cases S0.int1;have S:Sta H G H [] [(zU x,v0),(plD pl,v1)]:=S0.dat (by walk_at "dats");dsimp only at ok few k;walk_at "=fiycorner,places,count;112;vb0q0usag0ahag0ab1ab2cc";left;refine zN (xs:=x.map zA) S ‹_› λJ wk=>?_;refine yt wk (λj=>zA (YQ pl n (x.getD j (0,[])))) (ys:=(yq pl n x).map zA) (by unfold yq;rw [Qa,Qr];exact zo (λc:zg=>zA (YQ pl n c)) (0,[]) x) S (λ_ _=> .mem (by right)) (by rw [Qa];omega) (λj x' v B' G' Kd Kn hx t1 S hd C ex s0 H0=>?_) λD H1 e1 S1=>?_
 ·obtain ⟨c,hc,rfl⟩:=zJ hx;refine zE ⟨rfl,?_⟩;left;refine uF (x:=c.2) (pl:=pl) (n:=n) (by assumption) ‹_› ‹_› (ok c (Qc hc)) λw3 H3 e3 S3=>?_;left;refine hd (by assumption) ?_;rw [zF hc];exact .mem (by right)
 exact xH S1 k
section
variable {A:RAd} {t:Nat}
abbrev kr:Stmt:=top 44
theorem DT:FnScope ["inner","claims","path","rank","places","paid"] paW (zk kr):=xt
theorem Bg {n:Nat} (B:Bl mg) (B2:Bl3 mg) (XA:Cal P w K mg base CX0 2 "nothing" ["count"] Wq) (Wi:Cal P w K mg base CX0 1 "places_of_rank" paP (XE zK)) (Vo:Cal P w K mg base CX0 1 "those_at" paA dG) (XZ:Cal P w K mg base CX0 (2*n+8) "course" pax (Xg t n)) (dv:Cal P w K mg base CX0 2 "spread" pan Uo) (Vp:Cal P w K mg base CX0 5 "behind" paO Ur) (F:Fun K "ranks" "ranks" kr f fd):FnOk P w K mg base CX0 (2*n+9) f fd paW (jS t n):=by
 refine F.oo DT λH vs Q E hr nd0 h=>?_;obtain ⟨G,⟨r,l⟩,eG,hA,⟨⟨ru,hd⟩,ok⟩,k⟩:=h;obtain ⟨v0,v1,rfl,al⟩:=xo hA;have S:Sta H G H [] [(r.shape,v0),(zm l,v1)]:=Sta.enter eG al;dsimp only at ru hd ok k;have few:=ok.few;walk_at "=ek2haBab1cceHv&yclaim;1;vb1q0ug0z3ek4hab1ab3cek5hab0ahab1ab4ccfk2hab2ahab5ab4aBab1cccfib2";left;rw [Qa];refine aH S few λp1 H1 e1 S1=>?_;have ez:[zP (ZV l.length)]=rkP r l 0:=by rw [Wa];rfl
 rw [ez] at S1;left;refine zN (xs:=l.map zC) S1 ‹_› λJ wk=>?_;refine yh wk (λj=> .int (l.getD j (0,0,0)).2.1) (ys:=(l.map (·.2.1)).map PyData.int) (by rw [Qa,Qr];exact zo (λc:Cl=>PyData.int c.2.1) (0,0,0) l) S1 (λj x v=>λhx t1 S hd=>?_) λD2 H2 e2 S2=>?_
 ·obtain ⟨c,hc,rfl⟩:=zJ hx;refine zE ⟨rfl,?_⟩;left;refine hd (by assumption) ?_;rw [zF hc];exact Has.int
 refine WC S2 (by right) (by rw [Qa];omega) λos l3 H3 h1 h2 e3 S3=>?_;have eo:os=zS l:=ZJ h1 (yE l).1 λz=>by rw [h2,(yE l).2]
 subst eo;have S4:Sta H G H3 [(p1,(rkP r l 0).map zA)] [(.list ((zS l).map PyData.int), .ref l3),(r.shape,v0),(zm l,v1)]:=S3.freeze.weak (by walk_at "sub") (by walk_at "dats");clear S1 S2 S3;left;refine zN (xs:=(zS l).map PyData.int) S4 ‹_› λJ wk=>?_;refine xF wk (λi σ cs ds=>∃(pp:Addr) (x3 x4 x5:Option V),σ=[some v0,some v1,some (.ref pp),x3,x4,x5]/\cs=[(pp,(rkP r l i).map zA)]/\ds=[(.list ((zS l).map PyData.int), .ref l3),(r.shape,v0),(zm l,v1)]) S4 ⟨p1,none,none,none,rfl,rfl,rfl⟩ (λi σ cs ds h=>?_) ?_ ?_
 ·obtain ⟨_,_,_,_,_,_,rfl⟩:=h;exact .mem (by right)
 ·rintro i x u σ H5 cs ds hx ⟨pp,x3,x4,x5,rfl,rfl,rfl⟩ S5
  obtain ⟨kk,hk,rfl⟩:=zJ hx;cases S5.int1;have okk:=ok.filter (zK kk) (eM (Qc hk));obtain ⟨b1,b2,b3⟩:=Ax ru ok hk;have pk:=YJ (zK kk) l;have lk:=Zf (zK kk) l;have fk:=okk.few;have gk:=(ru.gf okk).ful.std;have fw:=ru.few okk;left;refine nv (p:=zK) (l:=l) (g:=kk) S5 ‹_› few λp6 H6 e6 S6=>?_;have S7:=S6.freeze;left;refine kH (l:=l) (pl:=zO (zK kk) l) S7 ‹_› ‹_› pk.lt (by omega) λp8 H8 e8 S8=>?_;rw [<-ZL] at S8;have S9:=S8.freeze;left;refine Zy (r:=r) (l:=l.filter (zK kk)) S9 ‹_› ‹_› ru hd okk λSX Mn Oy KU=>?_;have KO:=KU.freeze;left;rw [Qa];refine nk (x:=zI r (l.filter (zK kk))) (pl:=zO (zK kk) l) (n:=l.length) KO ‹_› ‹_› (λc hc=>⟨pk,by rw [(gk.ok c hc).1,lk],few⟩) (by omega) λNN LN Pk KZ=>?_;have KR:Sta H G LN [(pp,(rkP r l i).map zA)] [(zU (yq (zO (zK kk) l) l.length (zI r (l.filter (zK kk)))), .ref NN),(.list ((zS l).map PyData.int), .ref l3),(r.shape,v0),(zm l,v1)]:=KZ.freeze.dat (by walk_at "dats");have LW:=KR.freeze;clear S6 S7 S8 S9 KU KO KZ KR;left;refine nC (a:=rkP r l i) (b:=yq (zO (zK kk) l) l.length (zI r (l.filter (zK kk)))) LW ‹_› ‹_› b1 b2 b3 λSW OE Pj Mm=>?_;left;refine ZK (Mm.dat (ds':=[(.list ((zS l).map PyData.int), .ref l3),(r.shape,v0),(zm l,v1)]) (by walk_at "dats")) ⟨SW,_,_,_,rfl,?_,rfl⟩;rw [DV hk];rfl
 ·rintro σ H5 cs ds ⟨pp,x3,x4,x5,rfl,rfl,rfl⟩ S5
  rw [Qa,Ht] at S5;left;exact xH S5 k
abbrev cX:Stmt:=top 45
theorem Ap:FnScope ["outer","inner","claims","sums","others","places","group","members"] paD (zk cX):=xt
theorem uW {n:Nat} (B:Bl mg) (B2:Bl3 mg) (Xz:Cal P w K mg base CX0 1 "places_of_group" pah (XE zu)) (Vo:Cal P w K mg base CX0 1 "those_at" paA dG) (VG:Cal P w K mg base CX0 1 "as_one_claim" pah DK) (XZ:Cal P w K mg base CX0 (2*n+8) "course" pax (Xg t n)) (dv:Cal P w K mg base CX0 2 "spread" pan Uo) (dk:Cal P w K mg base CX0 8 "within" paX Um) (F:Fun K "groups" "groups" cX f fd):FnOk P w K mg base CX0 (2*n+9) f fd paD (dM t n):=by
 refine F.oo Ap λH vs Q E hr nd0 h=>?_;obtain ⟨G,⟨⟨a,b⟩,l⟩,eG,hA,⟨⟨ru,da,db⟩,ok⟩,k⟩:=h;obtain ⟨v0,v1,v2,rfl,al⟩:=ZT hA;have S:Sta H G H [] [(a.shape,v0),(b.shape,v1),(zm l,v2)]:=Sta.enter eG al;dsimp only at ru da db ok k;obtain ⟨ra,rb⟩:=ru.groups;have few:=ok.few;have gfew:=Yh l;walk_at "=ek3Dcek4Dcek5DceHv&yclaim;1;vb2q0ug0z6ek7hab2ab6ceGYb3ahahab2ab7cab6cceGYb4ahab1ahab2ab7cccfGιb5ab7cfihahahab0ab3cab4cab5aBab2cc";left;rename_i p1 H1 e1 S1 p2 H2 e2 S2 p3 H3 e3 S3;refine zN (xs:=l.map zC) S3 ‹_› λJ wk=>?_;refine yh wk (λj=> .int (l.getD j (0,0,0)).2.2) (ys:=(l.map (·.2.2)).map PyData.int) (by rw [Qa,Qr];exact zo (λc:Cl=>PyData.int c.2.2) (0,0,0) l) S3 (λj x v=>λhx t1 S hd=>?_) λD4 H4 e4 S4=>?_
 ·obtain ⟨c,hc,rfl⟩:=zJ hx;refine zE ⟨rfl,?_⟩;left;refine hd (by assumption) ?_;rw [zF hc];exact Has.int
 refine WC S4 (by right) (by rw [Qa];omega) λos l5 H5 h1 h2 e5 S5=>?_;have eo:os=zB l:=ZJ h1 (ya l).1 λz=>by rw [h2,(ya l).2]
 subst eo;have S6:Sta H G H5 [(p3,((mi l).take 0).flatten.map λ(i:Nat)=>PyData.int (i:Int)),(p2,((zX (λl=>zI b l) l).take 0).map zU),(p1,((zG l).take 0).map zC)] [(.list ((zB l).map PyData.int), .ref l5),(a.shape,v0),(b.shape,v1),(zm l,v2)]:=S5.freeze.weak (by walk_at "sub") (by walk_at "dats");clear S1 S2 S3 S4 S5;left;refine zN (xs:=(zB l).map PyData.int) S6 ‹_› λJ wk=>?_;refine xF wk (λi σ cs ds=>∃(x6 x7:Option V),σ=[some v0,some v1,some v2,some (.ref p1),some (.ref p2),some (.ref p3),x6,x7]/\cs=[(p3,((mi l).take i).flatten.map λ(i:Nat)=>PyData.int (i:Int)),(p2,((zX (λl=>zI b l) l).take i).map zU),(p1,((zG l).take i).map zC)]/\ds=[(.list ((zB l).map PyData.int), .ref l5),(a.shape,v0),(b.shape,v1),(zm l,v2)]) S6 ⟨none,none,rfl,rfl,rfl⟩ (λi σ cs ds h=>?_) ?_ ?_
 ·obtain ⟨_,_,_,_,rfl⟩:=h;exact .mem (by right)
 ·rintro i x u σ H7 cs ds hx ⟨x6,x7,rfl,rfl,rfl⟩ S7
  obtain ⟨g,hg,rfl⟩:=zJ hx;cases S7.int1;have gl:=(Qd.mp hg).1;have okg:=ok.filter (zu g) (Xn (Qc hg));have pk:=YJ (zu g) l;have lk:=Zf (zu g) l;have fk:=okg.few
  have t1:(zG l).take (i+1)=(zG l).take i++[wt g (l.filter (zu g))]:=by
   rw [TH];unfold zG;rw [Qh,hg];rfl
  have t2:(zX (λl=>zI b l) l).take (i+1)=(zX (λl=>zI b l) l).take i++[zI b (l.filter (zu g))]:=by
   rw [TH];unfold zX;rw [Qh,hg];rfl
  have t3:((mi l).take (i+1)).flatten=((mi l).take i).flatten++zO (zu g) l:=by
   rw [TH,List.flatten_append];unfold mi;rw [Qh,hg];show _++(zO (zu g) l++[])=_;rw [jaX]
  have fl:((mi l).take i).flatten.length<=64:=by
   have:∀L∈(mi l).take i,L.length<=8:=λL hL=>by
    obtain ⟨g',Nv,rfl⟩:=Qj.mp (List.mem_of_mem_take hL);rw [Zf];exact QU (jaA _ _) few
   have h1:=oi this;have h2:((mi l).take i).length<=8:=by rw [TB];unfold mi;rw [Qa];omega
   omega
  left;refine nv (p:=zu) (l:=l) (g:=g) S7 ‹_› few λp8 H8 e8 S8=>?_;have S9:=S8.freeze;left;refine kH (l:=l) (pl:=zO (zu g) l) S9 ‹_› ‹_› pk.lt (by omega) λSX Mn Oy KU=>?_;rw [<-ZL] at KU;have KO:=KU.freeze;left;refine rd_one (l:=l.filter (zu g)) (g:=g) KO ‹_› okg.pos fk λq12 LN Pk KZ=>?_;have KR:Sta H G LN [(p1,((zG l).take i).map zC),(p3,((mi l).take i).flatten.map λ(i:Nat)=>PyData.int (i:Int)),(p2,((zX (λl=>zI b l) l).take i).map zU)] [(zC (wt g (l.filter (zu g))),q12),(plD (zO (zu g) l), .ref p8),(.list ((zB l).map PyData.int), .ref l5),(a.shape,v0),(b.shape,v1),(zm l,v2)]:=(KZ.dat (by walk_at "dats")).rot3;left;refine yK (y:=zC (wt g (l.filter (zu g)))) KR ‹_› (by rw [Qa,TB];unfold zG;rw [Qa];omega) λPp LW=>?_;left;refine kH (l:=l) (pl:=zO (zu g) l) LW ‹_› ‹_› pk.lt (by omega) λSW OE Pj Mm=>?_;rw [<-ZL] at Mm;have Nn:=Mm.freeze;left;refine Zy (r:=b) (l:=l.filter (zu g)) Nn ‹_› ‹_› rb db okg λp17 H17 e17 MO=>?_;have MN:=MO.freeze.rot3;clear S8 S9 KU KO KZ KR LW Mm Nn MO;left;refine yK (y:=zU (zI b (l.filter (zu g)))) MN ‹_› (by rw [Qa,TB];unfold zX;rw [Qa];omega) λSF MM=>?_;have ML:=MM.rot3;left;refine uI (ys:=(zO (zu g) l).map λ(i:Nat)=>PyData.int (i:Int)) ML ‹_› (by rw [Qa,Qa];omega) λOD OB=>?_;left;refine ZK (OB.dat (ds':=[(.list ((zB l).map PyData.int), .ref l5),(a.shape,v0),(b.shape,v1),(zm l,v2)]) (by walk_at "dats")) ⟨_,_,rfl,?_,rfl⟩;rw [t1,t2,t3,QP,QP,QP];rfl
 ·rintro σ H7 cs ds ⟨x6,x7,rfl,rfl,rfl⟩ S7
  have e1:(zG l).take (zB l).length=zG l:=Ti (by rw [xG];exact Qv _);have e2:(zX (λl=>zI b l) l).take (zB l).length=zX (λl=>zI b l) l:=Ti (by rw [Yf];exact Qv _);have e3:(mi l).take (zB l).length=mi l:=Ti (by unfold mi;rw [Qa];exact Qv _);rw [Qa,e1,e2,e3] at S7;have S8:Sta H G H7 [] [(zm (zG l), .ref p1),(.list ((zX (λl=>zI b l) l).map zU), .ref p2),(plD (uN l), .ref p3),(a.shape,v0),(zm l,v2)]:=S7.freeze.freeze.freeze.dat (by walk_at "dats");clear S7;obtain ⟨g1,g2⟩:=Cc ru ok;left;refine Zy (r:=a) (l:=zG l) S8 ‹_› ‹_› ra da ok.sums λp9 H9 e9 S9=>?_;left;refine uC (P:=zI a (zG l)) (Qs:=zX (λl=>zI b l) l) S9.freeze ‹_› ‹_› (Cb ru ok) λSX Mn Oy KU=>?_;left;rw [Qa];refine nk (x:=yu (zI a (zG l)) (zX (λl=>zI b l) l)) (pl:=uN l) (n:=l.length) KU.freeze ‹_› ‹_› g1 g2 λp11 MP Nl KO=>?_;exact xH KO k
theorem uY (B:Bl mg) (B2:Bl3 mg) (ue:Cal P w K mg base CX0 3 "shares" pam (cc 0)) (dw:Cal P w K mg base CX0 2 "evenly" pam (cc 1)) (uh:Cal P w K mg base CX0 6 "losses" pam (cc 2)) (GY:Cal P w K mg base CX0 6 "upto" paC wX) (du:Cal P w K mg base CX0 5 "turned" ["path"] cR)
 (XA:Cal P w K mg base CX0 2 "nothing" ["count"] Wq) (Wi:Cal P w K mg base CX0 1 "places_of_rank" paP (XE zK)) (Xz:Cal P w K mg base CX0 1 "places_of_group" pah (XE zu)) (Vo:Cal P w K mg base CX0 1 "those_at" paA dG) (VG:Cal P w K mg base CX0 1 "as_one_claim" pah DK) (dv:Cal P w K mg base CX0 2 "spread" pan Uo) (Vp:Cal P w K mg base CX0 5 "behind" paO Ur) (dk:Cal P w K mg base CX0 8 "within" paX Um)
 {fr fg:Addr} {fdr fdg:FuncData} (Fr:Fun K "ranks" "ranks" kr fr fdr) (Rq:mg "ranks"=some (.ref fr)) (br:xi K fdr paW []) (Fg:Fun K "groups" "groups" cX fg fdg) (Lh:mg "groups"=some (.ref fg)) (bg:xi K fdg paD [])
 (F:Fun K "course" "course" kD f fd) (hm:mg "course"=some (.ref f)) (b:xi K fd pax []):∀n:Nat,FnOk P w K mg base CX0 (2*n+8) f fd pax (Xg t n):=by
 intro n
 induction n with
 |zero=>
  refine F.ok dY (λvs H Q E h=>?_) (λKt A outer s H vs Q E hr h=>?_)
  ·obtain ⟨G,a,_,h,_⟩:=h;rw [<-h.len];rfl
  obtain ⟨G,⟨r,l⟩,_,_,⟨⟨_,hd⟩,_⟩,_⟩:=h;exact absurd hd (by cases r<;>simp [Rl.deep])
 |succ n ih=>
  have XZ:Cal P w K mg base CX0 (2*n+8) "course" pax (Xg t n):=UM F ih hm b;have Ko:Cal P w K mg base CX0 (2*n+9) "ranks" paW (jS t n):=UM Fr (Bg B B2 XA Wi Vo XZ dv Vp Fr) Rq br;have Ke:Cal P w K mg base CX0 (2*n+9) "groups" paD (dM t n):=UM Fg (uW B B2 Xz Vo VG XZ dv dk Fg) Lh bg;refine F.ok dY (λvs H Q E h=>?_) (λKt A outer s H vs Q E hr h=>?_)
  ·obtain ⟨G,a,_,h,_⟩:=h;rw [<-h.len];rfl
  obtain ⟨G,⟨r,l⟩,eG,hA,⟨⟨ru,hd⟩,Kz⟩,k⟩:=h;obtain ⟨v0,v1,rfl,al⟩:=xo hA;have S:Sta H G H [] _:=Sta.enter eG al;dsimp only at ru hd Kz k S;have ok:=Kz.ok ru.ht;have nd0:=dY.nd;walk_at "=ek2g0elptmb2xjfihab1cnelptmb2xjfihab1cnelptmb2xjfihab1cnelptmb2xjfihasadadcahab1cahab1ccnelptmb2xjfihahag0ab1ccnelptmb2xjfihag0ab1cnelptmb2xjfihag0ag0ab1cnfihag0ahag0ab1cahag0ab1cc"
  cases r with
  |shares=>
   simp only [Rl.shape] at S;left;refine aI (n:=0) S ‹_› ok λp1 H1 e1 S1=>?_;exact xH S1 k
  |evenly=>
   simp only [Rl.shape] at S;left;refine aI (n:=1) S ‹_› ok λp1 H1 e1 S1=>?_;exact xH S1 k
  |losses=>
   simp only [Rl.shape] at S;left;refine aI (n:=2) S ‹_› ok λp1 H1 e1 S1=>?_;exact xH S1 k
  |halves=>
   simp only [Rl.shape] at S;left;rename_i p0 H0 e0 S0
   have eh:PyData.tuple [.int 1, .int 2]=frD (1 / 2):=by
    unfold frD;rw [show ((1:Rat) / 2).num=1 by decide+kernel,show ((1:Rat) / 2).den=2 by decide+kernel];rfl
   rw [eh] at S0;refine aI (n:=1) S0 ‹_› ok λp1 H1 e1 S1=>?_;have S2:=S1.freeze;left;refine aI (n:=2) S2 ‹_› ok λp3 H3 e3 S3=>?_;have S4:=S3.freeze;left;refine AA (p:=1 / 2) (a:=flV 1 l) (b:=flV 2 l) S4 ‹_› ‹_› ‹_› (up_ok ok) λp5 H5 e5 S5=>?_;rw [wI] at S5;exact xH S5 k
  |other r=>
   simp only [Rl.shape] at S;left;rename_i w1 S1;refine Zy (r:=r) S1 ‹_› ‹_› ru.other (by simp only [Rl.deep] at hd;omega) Kz λp2 H2 e2 S2=>?_;left;refine nj (a:=zI r l) S2.freeze ‹_› (ru.other.inn Kz) λp3 H3 e3 S3=>?_;exact xH S3 k
  |upto t b x y=>
   obtain ⟨px,py⟩:=ru.upto;have dx:x.deep<=n:=by simp only [Rl.deep] at hd;omega
   have dy:y.deep<=n:=by simp only [Rl.deep] at hd;omega
   have hp:PyData.tuple [.int t, .int b]=frD (Rat.divInt t b):=Eg ru.pok.1;simp only [Rl.shape] at S;rw [hp] at S;left;rename_i w1 S1 w2 S2;refine Zy (r:=x) S2 ‹_› ‹_› px dx Kz λp3 H3 e3 S3=>?_;have S4:=S3.freeze;left;rename_i w5 S5;refine Zy (r:=y) S5 ‹_› ‹_› py dy Kz λp6 H6 e6 S6=>?_;have S7:=S6.freeze;left;refine AA (p:=Rat.divInt t b) (a:=zI x l) (b:=zI y l) S7 ‹_› ‹_› ‹_› (ru.up Kz) λp8 H8 e8 S8=>?_;exact xH S8 k
  |ranks r=>
   simp only [Rl.shape] at S;left;rename_i w1 S1;refine AD (r:=r) S1 ‹_› ‹_› ru.ranks (by simp only [Rl.deep] at hd;omega) Kz λp2 H2 e2 S2=>?_;exact xH S2 k
  |groups a b=>
   simp only [Rl.shape] at S;left;rename_i w1 S1 w2 S2;refine uG (a:=a) (b:=b) S2 ‹_› ‹_› ‹_› ru (by simp only [Rl.deep] at hd;omega) (by simp only [Rl.deep] at hd;omega) Kz λp3 H3 e3 S3=>?_;exact xH S3 k
theorem Et {fS fT Ru:Addr} {n:Nat} (Kw:∀r:Rl,ROk K fS fT Ru (A.cls r)) (Ds:Cal P w K mg base CX0 1 "check_claims" pam pT) (XZ:Cal P w K mg base CX0 (2*n+8) "course" pax (Xg t n)) (F:Fun K "path" "Rule.path" VX f fd):FnOk P w K mg base CX0 (2*n+9) f fd paz (jT A t n):=by
 refine F.oo mW λH vs Q E hr nd0 h=>?_;obtain ⟨G,⟨r,l⟩,eG,hA,⟨⟨pl,hn⟩,Kz⟩,k⟩:=h;obtain ⟨v0,v1,rfl,al⟩:=xo hA;have S:Sta H G H [] _:=Sta.enter eG al;dsimp only at pl hn Kz k S;have ok:=Kz.ok pl.ht;walk_at "=eGhab1cfiha[b0ab1c";left;refine Ed S ‹_› ok λH1 e1 S1=>?_;left;refine AJ S1 ‹_› (Kw r) λw2 S2=>?_;left;refine Zy S2 ‹_› ‹_› pl hn Kz λp3 H3 e3 S3=>?_;exact xH S3 k
theorem Bi {fS fT Ru fP:Addr} {fdP:FuncData} {n:Nat} (Kw:∀r:Rl,ROk K fS fT Ru (A.cls r)) (LY:∀r:Rl,Meth K (A.cls r) "path" fP) (Ug:FnOk P w K mg base CX0 (2*n+9) fP fdP paz (jT A t n)) (XW:xi K fdP paz []) (wg:Cal P w K mg base CX0 6 "parts_at" ["path","purse"] Uq) (F:Fun K "parts" "Rule.parts" Wz f fd):FnOk P w K mg base CX0 (2*n+10) f fd pau (jU A t n):=by
 refine F.oo kh λH vs Q E hr nd0 h=>?_;obtain ⟨G,⟨r,l,e⟩,eG,hA,⟨⟨⟨pl,hn⟩,Kz⟩,ze,e0⟩,k⟩:=h;obtain ⟨v0,v1,v2,rfl,al⟩:=ZT hA;have S:Sta H G H [] _:=Sta.enter eG al;dsimp only at pl hn Kz ze e0 k S;walk_at "=fiha!b0?ab1cab2c";left;refine iX (C:=A.cls r) S ‹_› (Kw r).cl (LY r) (by decide+kernel) ?_;left;refine Uz (r:=r) S ‹_› ‹_› pl hn Kz λp1 H1 e1 S1=>?_;left;refine aG (a:=zI r l) (e:=e) (m:=300) (n:=700) S1.freeze ‹_› ‹_› (pl.R Kz) ze (by decide) e0 λw2 H2 e2 S2=>?_;exact xN S2 k ‹_›
end
abbrev XJ:Stmt:=top 62
theorem gQ:FnScope pay pay (zk XJ):=xt
theorem Ig (B:Bl mg) (F:Fun K "_law_cell_at" "_law_cell_at" XJ f fd):FnOk P w K mg base CX0 1 f fd pay (rZ K):=by
 refine F.oo gQ λH vs Q E hr nd0 h=>?_;obtain ⟨a,ns,k,rfl,hS,h0,q⟩:=h;walk_at "=el1b1Bab0cjfiob0b1nfid";left;refine HC hS ?_;left;refine Yw (λc=>?_) (λc=>?_)
 ·left;refine rd_ixS hS h0 c ?_;unfold fZ at q;rw [QH c] at q;exact q
 ·left;unfold fZ at q;rw [QO c] at q;exact q
abbrev VV:Stmt:=top 63
theorem mT:FnScope ["_law_cell","_law_place","_law_number"] paN (zk VV):=xt
theorem Eu (F:Fun K "_law_mixed" "_law_mixed" VV f fd):FnOk P w K mg base CX0 1 f fd paN Hk:=by
 refine F.oo mT λH vs Q E hr nd0 h=>?_;obtain ⟨c,p,rfl,q⟩:=h;walk_at "=ek2FAArFb0ddrdb1ddek2FAArb2b2rdb1ddfiFrb2dd";left;exact q
abbrev XI:Stmt:=top 64
theorem gP:FnScope paf paf (zk XI):=xt
theorem uX (B:Bl mg) (F:Fun K "_law_divisor" "_law_divisor" XI f fd):FnOk P w K mg base CX0 1 f fd paf mJ:=by
 refine F.oo gP λH vs Q E hr nd0 h=>?_;obtain ⟨a,b,rfl,hb,q⟩:=h;walk_at "=e*pPmb1djfκ0ab1a0b0b1cfi|ab0c";refine pC (λm σ H2=>∃(x y:Int),σ=[some (.int x),some (.int y)]/\0<=y/\Int.gcd x y=Int.gcd a b/\H2=H/\m=y.toNat) _ ⟨a,b,rfl,hb,rfl,rfl,rfl⟩ ?_
 rintro m σ H2 ⟨x,y,rfl,hy,hg,rfl,rfl⟩
 left;refine uD (λc=>?_) (λc=>?_)
 ·have c:y≠0:=by simpa using c
  left;have e:x.fmod y=x % y:=Tp x hy;have l1:=jaB x c;have l2:=jaj x (show 0<y by omega);refine ⟨(x.fmod y).toNat,by rw [e];omega,y,x.fmod y,rfl,by rw [e];exact l1,?_,rfl,rfl⟩;rw [e,sY,hg]
 ·have c:y=0:=by simpa using c
  subst c;left
  have e:(x.natAbs:Int)=((Int.gcd a b:Nat):Int):=by
   rw [<-hg,Int.gcd_zero]
  rw [e];exact q
abbrev Wv:Stmt:=top 65
theorem jY:FnScope ["_law_top","_law_bottom","_law_by"] paE (zk Wv):=xt
theorem Bn (UW:Cal P w K mg base CX0 1 "_law_divisor" paf mJ) (F:Fun K "_law_lowest" "_law_lowest" Wv f fd):FnOk P w K mg base CX0 2 f fd paE cS:=by
 refine F.oo jY λH vs Q E hr nd0 h=>?_;obtain ⟨G,⟨a,b⟩,eG,hA,⟨hb,sb⟩,k⟩:=h;cases (yJ (ns:=[a,b]) hA);have S:Sta H G H [] []:=Sta.enter eG λp hp=>absurd hp Qn;dsimp only at hb sb k;have gp:0<Int.gcd a b:=jbu a (by omega)
 have hc:CDv a ((Int.gcd a b:Nat):Int):=⟨by omega,by
  refine Sz.le sb ?_;have:=Nat.le_of_dvd (by omega) (jbQ a b)
  omega⟩
 walk_at "=ek2hab0ab1cfisa7b0b2a7b1b2c";left;refine xN (by assumption) k (.mem ?_);rw [show frD (Rat.divInt a b)= .tuple [.int (a.fdiv ((Int.gcd a b:Nat):Int)), .int (b.fdiv ((Int.gcd a b:Nat):Int))] by unfold frD;rw [<-(aS hb).1,<-(aS hb).2]];walk_at "mem"
local macro_rules|`(tactic|walk_at "rd")=>`(tactic|first|fail "&155"|fail)
abbrev VR:Stmt:=top 68
theorem mO:FnScope paq paq (zk VR):=xt
theorem Ej (B:Bl mg) (F:Fun K "_law_whole" "_law_whole" VR f fd):FnOk P w K mg base CX0 1 f fd paq pM:=by
 refine F.oo mO λH vs Q E hr nd0 h=>?_;obtain ⟨n,rfl,q⟩:=h;have S:Sta H H H [] []:=Sta.enter (zV.refl _) λp hp=>absurd hp Qn;have hi:Is H (.int n) (.int n):=S.hp Has.int;walk_at "=fi,8ab0aνint;c;ξ8ab0aπbool;c";left;exact q
abbrev Zs:Stmt:=top 69
theorem Uw:FnScope paq paq (zk Zs):=xt
theorem Ib (B:Bl mg) (Je:Cal P w K mg base CX0 1 "_law_whole" paq pM) (UW:Cal P w K mg base CX0 1 "_law_divisor" paf mJ) (F:Fun K "_law_is_fraction" "_law_is_fraction" Zs f fd):FnOk P w K mg base CX0 2 f fd paq rY:=by
 refine F.oo Uw λH vs Q E hr nd0 h=>?_;obtain ⟨a,hA,_,k⟩:=h;obtain ⟨v,rfl,al⟩:=Yu hA;have S:Sta H H H [] [(frD a,v)]:=Sta.enter (zV.refl _) al;have hv:=S.hp (x:=frD a) (v:=v) ‹_›;walk_at "=elLOJE8ab0a^tuple;cOpPmBab0cdjOJEhag0cWJEhag0cfiCnfi,ρg0dj;@tmhag0ag0cdj";left;refine vE rfl ?_;left;refine Yw (λ_=>?_) (λc=>absurd (by have:=a.den_pos;omega) c);left
 have hg:((a.num.gcd (a.den:Int):Nat):Int)=1:=by
  have:=a.reduced;unfold Nat.Coprime at this;rw [Int.gcd,Int.natAbs_natCast,this];rfl
 rw [QX hg];exact k H (zV.refl _)
section
variable {A:RAd}
abbrev Ww:Stmt:=top 72
theorem jZ:FnScope ["_law_number"] ["_law_number"] (zk Ww):=xt
theorem Bo (F:Fun K "_law_labels" "_law_labels" Ww f fd):FnOk P w K mg base CX0 1 f fd ["_law_number"] dJ:=by
 refine F.oo jZ λH vs Q E hr nd0 h=>?_;obtain ⟨G,n,eG,hA,_,k⟩:=h;cases (yJ (ns:=[n]) hA);have S:Sta H G H [] []:=Sta.enter eG λp hp=>absurd hp Qn;dsimp only at k;unfold Uh at k;walk_at "=elptmFb0ddjfiDadadadcnelptmFb0ddjfiDaA9dddadadcnelptmFb0ddjfiDada9ddadcnelptmFb0ddjfiDadadadadadadadadcnfiDadadadc";left;refine Yw (λc=>?_) (λc=>?_)
 ·rw [QH c] at k;left;exact xH (by assumption) k
 rw [QO c] at k;left;refine Yw (λc=>?_) (λc=>?_)
 ·rw [QH c] at k;left;exact xH (by assumption) k
 rw [QO c] at k;left;refine Yw (λc=>?_) (λc=>?_)
 ·rw [QH c] at k;left;exact xH (by assumption) k
 rw [QO c] at k;left;refine Yw (λc=>?_) (λc=>?_)
 ·rw [QH c] at k;left;exact xH (by assumption) k
 rw [QO c] at k;left;exact xH (by assumption) k
abbrev aE:Stmt:=top 77
theorem qc:FnScope ["_law_amounts","_law_parts","_law_level","_law_amount","_law_part"] paI (zk aE):=xt
theorem Ic (B:Bl mg) (F:Fun K "_law_even" "_law_even" aE f fd):FnOk P w K mg base CX0 1 f fd paI wZ:=by
 refine F.oo qc λH vs Q E hr nd0 h=>?_;obtain ⟨⟨am,tk⟩,hA,⟨l8,ok⟩,k⟩:=h;obtain ⟨v0,v1,rfl,al⟩:=xo hA;have S:Sta H H H [] [(xI am,v0),(xI tk,v1)]:=Sta.enter (zV.refl _) al;dsimp only at l8 ok;have lt:=ok.1;walk_at "=ek2αβaADadcb1ceH#ab0ab1cKwz3wz4IflLO1b4djOUb4b3jWL21b4b3j6pPmb4b2jfiCnfiC";left;rename_i p1 H1 e1 S1;obtain ⟨a1,rfl⟩:=S1.refL (xs:=tk.map PyData.int) (v:=v1) ‹_›;refine Ze S1 (S1.vwC (by right)) (S1.vwL ‹_›) (by rw [Qa];show 1+_<=1000;omega) λp2 H2 e2 S2=>?_;left;refine HB (ns:=0::tk) S2 (by right) (Nat.zero_lt_succ _) λm hm top=>?_;have S3:Sta H H H2 [] [(xI am,v0),(xI tk, .ref a1)]:=S2.weak (by walk_at "sub") (by walk_at "dats");clear S2 S1;left;refine UC (xs:=am.map PyData.int) (ys:=tk.map PyData.int) S3 ‹_› ‹_› λJ wk=>?_;refine xF wk (λi σ cs ds=>(∃x3 x4,σ=[some v0,some (.ref a1),some (.int m),x3,x4])/\cs=[]/\ds=[(xI am,v0),(xI tk, .ref a1)]) S3 ⟨⟨none,none,rfl⟩,rfl,rfl⟩ (λi σ cs ds h=>?_) ?_ ?_
 ·obtain ⟨_,rfl,rfl⟩:=h;exact ⟨.mem (by right),λ_ _ h=>h.tail, .mem (by right)⟩
 ·rintro i x u σ H4 cs ds hx ⟨⟨x3,x4,rfl⟩,rfl,rfl⟩ S4
  obtain ⟨xa,xb,h1,h2,rfl⟩:=Zo hx;obtain ⟨a,ha,rfl⟩:=zJ h1;obtain ⟨p,hp,rfl⟩:=zJ h2;obtain ⟨b1,b2,b3⟩:=ok.2 i a p ha hp;refine xf (xc S4 ‹_› λw1 w2 S5=>?_);cases S5.int1;cases S5.drop1.int1;left;refine Yw (λc=>absurd c (by omega)) (λ_=>?_);left;refine Yw (λc=>absurd c (by omega)) (λ_=>?_);left;have fin:∀σ',(∃x3 x4,σ'=[some v0,some (.ref a1),some (.int m),x3,x4])->AtP H H (λσ cs ds=>(∃x3 x4,σ=[some v0,some (.ref a1),some (.int m),x3,x4])/\cs=[]/\ds=[(xI am,v0),(xI tk, .ref a1)]) σ' H4:=λσ' h=>ZK (S5.dat (by walk_at "dats")) ⟨h,rfl,rfl⟩;refine Yw (λc=>?_) (λc=>?_)
  ·have e:p=m:=by
    have t1:=top p (Qf _ (Qc hp))
    rcases Qm.mp hm with z|z
    ·omega
    ·have:=b3 c m z;omega
   left;refine vE e ?_;left;exact fin _ ⟨_,_,rfl⟩
  ·left;exact fin _ ⟨_,_,rfl⟩
 ·rintro σ H4 cs ds ⟨⟨x3,x4,rfl⟩,rfl,rfl⟩ S4
  left;exact k _ S4.base
end
section
variable {A:RAd}
abbrev Wx:Stmt:=top 73
theorem kd:FnScope ["_law_script","_law_at_here","_law_many","_law_size","_law_labels_here","_law_ranks","_law_groups","_law_claims_here","_law_k","_law_cell","_law_amount","_law_rank"] pai (zk Wx):=xt
theorem Br (B:Bl mg) (mh:Cal P w K mg base CX0 1 "_law_cell_at" pay (rZ K)) (Ji:Cal P w K mg base CX0 1 "_law_mixed" paN Hk) (Hb:Cal P w K mg base CX0 1 "_law_labels" ["_law_number"] dJ) (F:Fun K "_law_claims" "_law_claims" Wx f fd):FnOk P w K mg base CX0 2 f fd pai (dN K):=by
 refine F.oo kd λH vs Q E hr nd0 h=>?_;obtain ⟨G,a,ns,at',many,size,rfl,eG,hS,⟨Pb,hm1,hm8,hs0,NX⟩,k⟩:=h;have S:Sta H G H [] []:=Sta.enter eG λp hp=>absurd hp Qn;walk_at "=ek4hahab0ab1cadcek5hab4cek6haVb4dcek7DceH~ab2cz8ek9hab0aAb1b8ceka0Vb9db3elptmFb9ddjfkaFVb9ddnelL2ptmFb9ddj6Ub8djfkaoob70Vb9db8dnekbob50hab9adcBab5cfGYb7asabaabbaob60hab9adcBab6cccfib7";left;generalize mixV (fZ ns at') 3=Ld at*;refine iV S λp1 H1 e1 S1=>?_;have S1':=S1.freeze;left;refine iV S1' λp2 H2 e2 S2=>?_;have S2':=S2.freeze;left;rename_i p3 H3 e3 S3;refine sq H G (by omega) (by omega) λJ wk=>?_
 refine xF wk (λi σ cs ds=>∃(l:List Cl) (x8 x9 LD LX:Option V),σ=[some (.ref a),some (.int at'),some (.int many),some (.int size),some (.int Ld),some (.ref p1),some (.ref p2),some (.ref p3),x8,x9,LD,LX]/\cs=[(p3,l.map zC)]/\ds=[(xI (Uh (Ld / 5)), .ref p2),(xI (Uh Ld), .ref p1)]/\l.length=i/\∀c∈l,(0<=c.1/\0<=c.2.1/\0<=c.2.2)/\c.1<size) S3
  ⟨[],none,none,none,none,rfl,rfl,rfl,rfl,λc hc=>absurd hc Qn⟩ (λ_ _ _ _ _=>trivial) ?_ ?_
 ·rintro i x v σ H4 cs ds hx ⟨l,x8,x9,LD,LX,rfl,rfl,rfl,hlen,hok⟩ S4
  obtain ⟨hi,rfl⟩:=Yp hx;cases S4.int1;have hS4:SqL K H4 a (ns.map V.int):=S4.base.seq hS;have S4:=S4.drop1;left;generalize fZ ns (at'+(0+(i:Int)))=c at*
  have fin:∀(am:Int) (y8 y9 Np NI:Option V) (r g:Int) (H5:Hp),0<=am->am<size->0<=r->0<=g->Sta H G H5 [(p3,l.map zC++[zC (am,r,g)])] [(xI (Uh (Ld / 5)), .ref p2),(xI (Uh Ld), .ref p1)]->
   AtP H G (λσ cs ds=>∃(l:List Cl) (x8 x9 LD LX:Option V),σ=[some (.ref a),some (.int at'),some (.int many),some (.int size),some (.int Ld),some (.ref p1),some (.ref p2),some (.ref p3),x8,x9,LD,LX]/\cs=[(p3,l.map zC)]/\ds=[(xI (Uh (Ld / 5)), .ref p2),(xI (Uh Ld), .ref p1)]/\l.length=i+1/\∀c∈l,(0<=c.1/\0<=c.2.1/\0<=c.2.2)/\c.1<size) [some (.ref a),some (.int at'),some (.int many),some (.int size),some (.int Ld),some (.ref p1),some (.ref p2),some (.ref p3),y8,y9,Np,NI] H5:=by
   intro am y8 y9 Np NI r g H5 h0 hz hr hg S5;refine ZK S5 ⟨l++[(am,r,g)],y8,y9,Np,NI,rfl,by rw [QP];rfl,rfl,by rw [Qz,hlen];rfl,λc hc=>?_⟩
   rcases QS.mp hc with z|z
   ·exact hok c z
   ·rw [Qq.mp z];exact ⟨⟨h0,hr,hg⟩,hz⟩
  have lmem:(l.map zC).length<=1000:=by rw [Qa];omega
  obtain ⟨r,OP,OO⟩:=BP Ld (mixV c 1);obtain ⟨g,OW,OV⟩:=BP (Ld / 5) (mixV c 2);have ln1:=qH Ld;have ln2:=qH (Ld / 5);have sz0:size≠0:=by omega
  have f0:(c / 9).fmod size=c / 9 % size:=Tp _ (by omega);have m1:=jaB (c / 9) sz0;have m2:=jaj (c / 9) (show 0<size by omega);left;refine Yw (λc1=>?_) (λc1=>?_)
  ·left;refine Yw (λc2=>absurd c2 (by omega)) (λ_=>?_);left;refine Yo (xs:=(Uh Ld).map PyData.int) S4 ‹_› OO ?_;left;refine Yo (xs:=(Uh (Ld / 5)).map PyData.int) S4 ‹_› OV ?_;left;rename_i q5 H5 e5 S5;refine yK (y:=zC (c / 9 % 5,r,g)) S5 ‹_› lmem λH6 S6=>?_;left;exact fin (c / 9 % 5) _ _ _ _ r g H6 (by omega) (by omega) OP OW (S6.dat (by walk_at "dats"))
  ·have q0:0<=(c / 9).fmod size:=by rw [f0];exact m1
   have qz:(c / 9).fmod size<size:=by rw [f0];exact m2
   left;refine Yw (λc2=>?_) (λ_=>?_)
   ·left;refine Yw (λc3=>?_) (λ_=>?_)
    ·have i0:0+(i:Int)≠0:=by omega
     have e1:=Tp (c / 9) (show 0<=0+(i:Int) by omega);have n1:=jaB (c / 9) i0;have n2:=jaj (c / 9) (show 0<0+(i:Int) by omega);rw [<-e1] at n1 n2;left;have hj:((c / 9).fmod (0+(i:Int))).toNat<l.length:=by omega
     have Kx:=Qb hj
     have NA:atI (l.map zC) ((c / 9).fmod (0+(i:Int)))=some (zC (l[((c / 9).fmod (0+(i:Int))).toNat])):=by
      have:=yi (xs:=l.map zC) (j:=((c / 9).fmod (0+(i:Int))).toNat) (v:=zC (l[((c / 9).fmod (0+(i:Int))).toNat])) (by rw [Qh,Kx];rfl);rwa [Int.toNat_of_nonneg n1] at this
     have okc:=hok _ (Td hj);generalize l[((c / 9).fmod (0+(i:Int))).toNat]=c' at*;refine Xk (x:=zC c') S4 (by right) NA λw7 S7=>?_;left;refine Yo (xs:=(Uh Ld).map PyData.int) S7 ‹_› OO ?_;left;refine Yo (xs:=(Uh (Ld / 5)).map PyData.int) S7 ‹_› OV ?_;left;rename_i q5 H5 e5 S5;refine yK (y:=zC (c'.1,r,g)) S5 ‹_› lmem λH6 S6=>?_;left;exact fin (c'.1) _ _ _ _ r g H6 okc.1.1 okc.2 OP OW (S6.dat (by walk_at "dats"))
    ·skip
     left;refine Yo (xs:=(Uh Ld).map PyData.int) S4 ‹_› OO ?_;left;refine Yo (xs:=(Uh (Ld / 5)).map PyData.int) S4 ‹_› OV ?_;left;rename_i q5 H5 e5 S5;refine yK (y:=zC ((c / 9).fmod size,r,g)) S5 ‹_› lmem λH6 S6=>?_;left;exact fin ((c / 9).fmod size) _ _ _ _ r g H6 q0 qz OP OW (S6.dat (by walk_at "dats"))
   ·skip
    left;refine Yo (xs:=(Uh Ld).map PyData.int) S4 ‹_› OO ?_;left;refine Yo (xs:=(Uh (Ld / 5)).map PyData.int) S4 ‹_› OV ?_;left;rename_i q5 H5 e5 S5;refine yK (y:=zC ((c / 9).fmod size,r,g)) S5 ‹_› lmem λH6 S6=>?_;left;exact fin ((c / 9).fmod size) _ _ _ _ r g H6 q0 qz OP OW (S6.dat (by walk_at "dats"))
 ·rintro σ H4 cs ds ⟨l,x8,x9,LD,LX,rfl,rfl,rfl,hlen,hok⟩ S4
  left;rw [xg] at hlen;obtain ⟨G',a',b',c',d',e',f',g'⟩:=S4;obtain ⟨z1,z2,us,z3,z4⟩:=e' _ (Qe ..);exact k l p3 H4 G' us hlen ⟨by omega,by omega,λc hc=>(hok c hc).1,λc hc=>(hok c hc).2⟩ ⟨c',a',b',d'⟩ z1 z2 z3 z4
abbrev VU:Stmt:=top 84
theorem mS:FnScope ["_law_whole_here","_law_cell","_law_kind","_law_number"] paF (zk VU):=xt
theorem Er (oZ:Cal P w K mg base CX0 2 "_law_lowest" paE cS) (F:Fun K "_law_purse" "_law_purse" VU f fd):FnOk P w K mg base CX0 3 f fd paF pQ:=by
 refine F.oo mS λH vs Q E hr nd0 h=>?_;obtain ⟨G,wh,c,rfl,eG,⟨w0,wz⟩,k⟩:=h;have S:Sta H G H [] []:=Sta.enter eG λp hp=>absurd hp Qn;have good:∀(i j:Int),0<=i->0<j->Sz 300 i->Sz 300 j->0<=Rat.divInt i j/\SzQ 300 (Rat.divInt i j):=λi j h1 h2 z1 z2=>⟨Rat.divInt_nonneg h1 (by omega),SzQ.divInt z1 z2 (by omega)⟩;have n3:wh+3≠0:=by omega
 have n5:2*wh+5≠0:=by omega
 have b0:wh<2 ^ 180:=by unfold Sz at wz;omega
 have NN:(0:Int)<10 ^ Int.toNat 12:=by decide
 walk_at "=ek2Fb1dek3Vb1delptmb2djfisa0b3Ab0dadcnelptmb2djfihab0adcnelptmb2djfiha0b3Ardb0dadcnelptmb2djfiharb0Fb3dadcnfiha0b3rAb0d9dda9ddc";left;refine Yw (λ_=>?_) (λ_=>?_)
 ·left;rename_i p1 H1 e1 S1;have e:=Tp (c / 5) (show 0<=wh+3 by omega);have m1:=jaB (c / 5) n3;have m2:=jaj (c / 5) (show 0<wh+3 by omega);rw [<-e] at m1 m2;have hq:PyData.tuple [.int ((c / 5).fmod (wh+3)), .int 1]=frD (((c / 5).fmod (wh+3):Int):Rat):=rfl;rw [hq] at S1;exact nh S1 k ‹_› ⟨bt m1,by show Sz 300 ((c / 5).fmod (wh+3));unfold Sz;omega,by show Sz 300 1;unfold Sz;decide⟩
 left;refine Yw (λ_=>?_) (λ_=>?_)
 ·left;refine WB S (by decide) (by unfold Sz;decide+kernel) λr H1 e1 S1=>?_;exact nh S1 k ‹_› (good _ _ w0 (by decide) (wz.mono (by decide)) (by unfold Sz;decide))
 left;refine Yw (λ_=>?_) (λ_=>?_)
 ·left;have e:=Tp (c / 5) (show 0<=2*wh+5 by omega);have m1:=jaB (c / 5) n5;have m2:=jaj (c / 5) (show 0<2*wh+5 by omega);rw [<-e] at m1 m2;refine WB S (by decide) (by unfold Sz;decide+kernel) λr H1 e1 S1=>?_;exact nh S1 k ‹_› (good _ _ m1 (by decide) (by unfold Sz;omega) (by unfold Sz;decide))
 left;refine Yw (λ_=>?_) (λ_=>?_)
 ·have o:IntMulOk wh (c / 5 % 1009):=wz.mulOk (n:=10) (by unfold Sz;omega) (by decide);left;refine WB S (by decide) (by unfold Sz;decide+kernel) λr H1 e1 S1=>?_;exact nh S1 k ‹_› (good _ _ (Int.mul_nonneg w0 (by omega)) (by decide) ((wz.mul (n:=10) (by unfold Sz;omega)).mono (by decide)) (by unfold Sz;decide))
 have z1:Sz 181 (wh+1):=by unfold Sz;omega
 have z2:Sz 60 ((10:Int) ^ Int.toNat 12):=by unfold Sz;decide
 have o2:IntMulOk (wh+1) (10 ^ Int.toNat 12):=z1.mulOk z2 (by decide);have zz:=z1.mul z2;have pp:0<(wh+1)*(10:Int) ^ Int.toNat 12:=Int.mul_pos (by omega) NN;have nz:(wh+1)*(10:Int) ^ Int.toNat 12≠0:=by omega
 have e:=Tp (c / 5) (show 0<=(wh+1)*(10:Int) ^ Int.toNat 12 by omega);have m1:=jaB (c / 5) nz;have m2:=jaj (c / 5) pp;rw [<-e] at m1 m2;left;refine WB S NN (z2.mono (by decide)) λr H1 e1 S1=>?_;exact nh S1 k ‹_› (good _ _ m1 NN ((mD m1 (jbn m2) zz).mono (by decide)) (z2.mono (by decide)))
end
abbrev aD:Stmt:=top 78
theorem VN:FnScope ["_law_shape_here","_law_claims_here","_law_parts","_law_amounts","_law_whole_here","_law_purse_here","_law_amount","_law_part"] paa (zk aD):=xt
abbrev ZG:Stmt:=top 79
theorem dW:FnScope ["_law_shape_here","_law_claims_here","_law_parts","_law_top","_law_bottom","_law_many","_law_here","_law_there"] paa (zk ZG):=xt
theorem ok_upA {n:Nat} (B:Bl mg) (ZF:Cal P w K mg base CX0 (2*n+2) "_law_fits" paa (VJ n)) (F:Fun K "_law_upto_fit" "_law_upto_fit" ZG f fd):FnOk P w K mg base CX0 (2*n+3) f fd paa (Hh (n+1)):=by
 refine F.oo dW λH vs Q E hr nd0 h=>?_;obtain ⟨⟨⟨t,b⟩,⟨x,y⟩,l,tk⟩,hA,ok,k⟩:=h;obtain ⟨v0,v1,v2,rfl,al⟩:=ZT hA;dsimp only at ok al;have S:Sta H H H [] [((Rl.upto t b x y).shape,v0),(zm l,v1),(xI tk,v2)]:=Sta.enter (zV.refl _) al;have few:=ok.few;have inb:=ok.fit.inB;have l8:(amV l).length<=8:=by rw [yj];exact few
 have step:=ok.upto;obtain ⟨it,ia⟩:=inb.inS l8 ok.sz;have po:=ok.pok.1.1;have lt:=ok.fit.len;have la:∀{i:Nat} {c:Cl},l[i]? =some c->c.1∈amV l:=λhc=>Qj.mpr ⟨_,Qc hc,rfl⟩;walk_at "=e=g0Kwz3wz4IeR5_law_part,_law_bottom;14;vb2q0urb1b0eR6_law_claim,_law_top;13;vb1q0usarb1g0ag0ag0celσSTab5cSTay_law_claim;1;vb6q0ug0cjfihag0ab6ab5cneR7_law_claim,_law_top,_law_bottom;134;vb1q0usarNb2b1g0ag0ag0cfihag0ab7ay_law_part,_law_claim;2;#ab5ab6cKwq0wq1IuNb0g1c";simp only [Rl.shape] at S;left;rename_i w1 S1;refine xf (xc S1 ‹_› λw2 w3 S2=>?_);cases S2.int1;cases S2.drop1.int1;left;refine zN (xs:=tk.map PyData.int) S2 ‹_› λJ wk=>?_;refine yt wk (λj=> .int (b*tk.getD j 0)) (ys:=(yT b tk).map PyData.int) (by unfold yT;rw [Qa,Qr];exact zo (λx:Int=>PyData.int (b*x)) 0 tk) S2 (λ_ _=> .mem (by right)) (by rw [Qa,inb.1];omega) (λj x v B' G' Kd Kn hx t1 S hd C ex s0 H0=>?_) λD3 H3 e3 S3=>?_
 ·obtain ⟨y,hy,rfl⟩:=zJ hx;cases S.int1;have o:IntMulOk b y:=po.2.mulOk (it.2 y (Qc hy)).2 (by omega);refine zE ⟨rfl,?_⟩;left;refine hd S ?_;rw [zF hy];exact Has.int
 have S4:=S3.freeze;left;refine zN (xs:=l.map zC) S4 ‹_› λJ wk=>?_
 refine yt wk (λj=>zC ((λc:Cl=>((t*c.1,c.2):Cl)) (l.getD j (0,0,0)))) (ys:=(yd t l).map zC) (by
  unfold yd;rw [Qr,Qa];exact zo (λc:Cl=>zC ((t*c.1,c.2):Cl)) (0,0,0) l) S4 (λ_ _=> .mem (by right)) (by rw [Qa];omega) (λj x v B' G' Kd Kn hx t1 S hd C ex s0 H0=>?_) λD5 H5 e5 S5=>?_
 ·obtain ⟨c,hc,rfl⟩:=zJ hx;have o:IntMulOk t c.1:=po.1.mulOk (ok.sz _ (la hc)) (by omega);refine zE ⟨rfl,?_⟩;left;refine hd (by assumption) ?_;rw [zF hc];exact .mem (by right)
 have S6:=S5.freeze;have tl:=Za t l;left;refine zN (xs:=(yd t l).map zC) S6 ‹_› λJ wk=>?_;refine yh wk (λj=> .int ((yd t l).getD j (0,0,0)).1) (ys:=(amV (yd t l)).map PyData.int) (by unfold amV;rw [Qa,Qr];exact zo (λc:Cl=>PyData.int c.1) (0,0,0) (yd t l)) S6 (λj x v=>λhx t1 S hd=>?_) λD7 H7 e7 S7=>?_
 ·obtain ⟨c,hc,rfl⟩:=zJ hx;refine zE ⟨rfl,?_⟩;left;refine hd (by assumption) ?_;rw [zF hc];exact Has.int
 left;refine Yw (λc=>?_) (λc=>?_)
 ·rw [QH c] at step;left;rename_i w8 S8;refine YI (r:=x) (l:=yd t l) (tk:=yT b tk) S8 ‹_› ‹_› ‹_› step λH9 e9 S9=>?_;exact k _ S9.base
 ·rw [QO c] at step;have S8:=S7.freeze;have zs:Sz 211 (b - t):=po.2.sub po.1;left;refine zN (xs:=l.map zC) S8 ‹_› λJ wk=>?_
  refine yt wk (λj=>zC ((λc:Cl=>(((b - t)*c.1,c.2):Cl)) (l.getD j (0,0,0)))) (ys:=(yd (b - t) l).map zC) (by
   unfold yd;rw [Qr,Qa];exact zo (λc:Cl=>zC (((b - t)*c.1,c.2):Cl)) (0,0,0) l) S8 (λ_ _=> .mem (by right)) (by rw [Qa];omega) (λj x v B' G' Kd Kn hx t1 S hd C ex s0 H0=>?_) λD9 H9 e9 S9=>?_
  ·obtain ⟨c,hc,rfl⟩:=zJ hx;have o:IntMulOk (b - t) c.1:=zs.mulOk (ok.sz _ (la hc)) (by omega);refine zE ⟨rfl,?_⟩;left;refine hd (by assumption) ?_;rw [zF hc];exact .mem (by right)
  have KU:=S9.freeze;left;rename_i Py KO;have ld:(yT b tk).length=(amV (yd t l)).length:=by rw [Xe,yj,Za];exact lt
  have ll:(xU (yT b tk) (amV (yd t l))).length=(amV (yd t l)).length:=by rw [WL ld.symm,ld]
  have l9:(amV (yd t l)).length<=8:=by rw [yj,Za];exact few
  refine UC (xs:=(yT b tk).map PyData.int) (ys:=(yd t l).map zC) KO ‹_› ‹_› λJ3 LI=>?_;refine yt LI (λj=> .int ((xU (yT b tk) (amV (yd t l))).getD j 0)) (ys:=(xU (yT b tk) (amV (yd t l))).map PyData.int) ?_ KO (λ_ _=>⟨.mem (by right),λ_ _ h=>h.tail, .mem (by right)⟩) ?_ (λj x v B' G' Kd Kn hx t1 S hd C ex s0 H0=>?_) λD12 LN Pk KZ=>?_
  ·rw [yR,Qa,Qa,ld,yj,TN,<-yj,<-ll];exact zo (λx=>PyData.int x) 0 _
  ·rw [yR,Qa,Qa];omega
  ·obtain ⟨x1,x2,h1,h2,rfl⟩:=Zo hx;obtain ⟨n1,LF,rfl⟩:=zJ h1;obtain ⟨c2,Nz,rfl⟩:=zJ h2;refine xf (xc S ‹_› λw1 w2 S=>?_);cases S.int1;refine yN (zE (yN (zE (XO ⟨rfl,?_⟩))));left;refine hd (by assumption) ?_;rw [zF (show (xU (yT b tk) (amV (yd t l)))[j]? =some (n1 - c2.1) by unfold xU amV;rw [Qt,LF,Qh,Nz];rfl)];exact Has.int
  left;refine YI (r:=y) (l:=yd (b - t) l) (tk:=xU (yT b tk) (amV (yd t l))) KZ.freeze ‹_› ‹_› ‹_› step λOF Ox KR=>?_;exact k _ KR.base
abbrev Zc:Stmt:=top 80
theorem cA:FnScope ["_law_shape_here","_law_claims_here","_law_parts","_law_full","_law_rank","_law_places","_law_some"] paa (zk Zc):=xt
theorem ok_rkF {n:Nat} (B:Bl mg) (B2:Bl3 mg) (ZF:Cal P w K mg base CX0 (2*n+2) "_law_fits" paa (VJ n)) (F:Fun K "_law_ranks_fit" "_law_ranks_fit" Zc f fd):FnOk P w K mg base CX0 (2*n+3) f fd paa (Hj (n+1)):=by
 refine F.oo cA λH vs Q E hr nd0 h=>?_;obtain ⟨⟨r,l,tk⟩,hA,ok,k⟩:=h;obtain ⟨v0,v1,v2,rfl,al⟩:=ZT hA;dsimp only at ok al;have S:Sta H H H [] [(r.shape,v0),(zm l,v1),(xI tk,v2)]:=Sta.enter (zV.refl _) al;have few:=ok.few;have tl:=ok.fit.len;walk_at "=ek3CeHv&y_law_claim;1;vb1q0ug0z4eR5_law_k,_law_claims_here,_law_rank;114;~aBab1ccq0<ptmoob1b0db2jb0eR6_law_k,_law_parts;12;vb5q0uob1b0elL2JEb36Uαβab6cdjfiCnelJEhab0ay_law_k,_law_claims_here;11;vb5q0uob1b0ab6cfiCnfk3,b3;@tmb6y_law_k,_law_claims_here;11;vb5q0uoob1b0djfiC";left;refine zN (xs:=l.map zC) S ‹_› λJ wk=>?_;refine yh wk (λj=> .int (l.getD j (0,0,0)).2.1) (ys:=(l.map (·.2.1)).map PyData.int) (by rw [Qa,Qr];exact zo (λc:Cl=>PyData.int c.2.1) (0,0,0) l) S (λj x v=>λhx t1 S hd=>?_) λD2 H2 e2 S2=>?_
 ·obtain ⟨c,hc,rfl⟩:=zJ hx;refine zE ⟨rfl,?_⟩;left;refine hd (by assumption) ?_;rw [zF hc];exact Has.int
 refine WC S2 (by right) (by rw [Qa];omega) λos l3 H3 h1 h2 e3 S3=>?_;have eo:os=zS l:=ZJ h1 (yE l).1 λz=>by rw [h2,(yE l).2]
 subst eo;have S4:Sta H H H3 [] [(.list ((zS l).map PyData.int), .ref l3),(r.shape,v0),(zm l,v1),(xI tk,v2)]:=S3.freeze.weak (by walk_at "sub") (by walk_at "dats");clear S2 S3;left;refine zN (xs:=(zS l).map PyData.int) S4 ‹_› λJ wk=>?_;refine xF wk (λi σ cs ds=>∃(fl:Bool) (x4 x5 x6:Option V),σ=[some v0,some v1,some v2,some (.bl fl),x4,x5,x6]/\cs=[]/\ds=[(.list ((zS l).map PyData.int), .ref l3),(r.shape,v0),(zm l,v1),(xI tk,v2)]/\(fl=false->∃(j:Nat) (c:Cl) (p:Int),l[j]? =some c/\tk[j]? =some p/\p≠c.1/\∀z∈(zS l).drop i,c.2.1<z)) S4 ⟨true,none,none,none,rfl,rfl,rfl,λz=>Bool.noConfusion z⟩ (λi σ cs ds h=>?_) ?_ ?_
 ·obtain ⟨_,_,_,_,_,_,rfl,_⟩:=h;exact .mem (by right)
 ·rintro i x u σ H5 cs ds hx ⟨fl,x4,x5,x6,rfl,rfl,rfl,inv⟩ S5
  obtain ⟨kk,hk,rfl⟩:=zJ hx;cases S5.int1;have pk:=YJ (zK kk) l;have lk:=Zf (zK kk) l;have fk:=QU (jaA (zK kk) l) few;have pos:=eM (Qc hk);have step:=ok.ranks kk;left;refine sq H H (by rw [Qa];omega) (by rw [Qa];omega) λJ6 Pw=>?_;refine bq Pw (λj=>if zK kk (l.getD j (0,0,0)) then some (.int (0+(j:Int))) else none) S5 (λ_ _=>trivial) (by rw [xg,Tg,Qa];omega) (λj x v B' G' Kd Kn hx t1 S hd hn C ex s0 H0=>?_) λD6 H6 e6 S6=>?_
  ·obtain ⟨hj,rfl⟩:=Yp hx;rw [Tg,Qa] at hj;cases S.int1;have hc:=Qb hj;rw [zF hc] at hd hn;refine zE ⟨rfl,?_⟩;left;refine yr (xs:=l.map zC) (x:=zC l[j]) S ‹_› (by rw [Int.zero_add];exact yi (by rw [Qh,hc];rfl)) λw2 S2=>?_;left;refine Yw (λz=>?_) (λz=>?_)
   ·left;exact hd (QH (QX z)) S2 Has.int
   ·exact hn (QO λy=>z (QB y)) S2
  rw [xg,Tg,Qa,iY] at S6;have S7:Sta H H H6 [] [(plD (zO (zK kk) l), .ref D6),(.list ((zS l).map PyData.int), .ref l3),(r.shape,v0),(zm l,v1),(xI tk,v2)]:=S6.freeze.weak (by walk_at "sub") (by walk_at "dats");clear S6;left;refine zN (xs:=(zO (zK kk) l).map λ(i:Nat)=>PyData.int (i:Int)) S7 ‹_› λJ8 Pu=>?_;refine yh Pu (λj=> .int (tk.getD ((zO (zK kk) l).getD j 0) 0)) (ys:=(yn 0 (zO (zK kk) l) tk).map PyData.int) (by unfold yn;rw [Qa,Qr];exact zo (λi:Nat=>PyData.int (tk.getD i 0)) 0 (zO (zK kk) l)) S7 (λj x v=>λhx t1 S hd=>?_) λD8 H8 e8 S8=>?_
  ·obtain ⟨i',Kv,rfl⟩:=zJ hx;cases S.int1;have il:=pk.lt i' (Qc Kv);have hc:=Qb (l:=tk) (i:=i') (by omega);refine zE ⟨rfl,?_⟩;left;refine Yo (xs:=tk.map PyData.int) S ‹_› (yi (by rw [Qh,hc];rfl)) ?_;refine hd S ?_;rw [zF Kv,zF hc];exact Has.int
  have S9:Sta H H H8 [] [(xI (yn 0 (zO (zK kk) l) tk), .ref D8),(plD (zO (zK kk) l), .ref D6),(.list ((zS l).map PyData.int), .ref l3),(r.shape,v0),(zm l,v1),(xI tk,v2)]:=S8.freeze.weak (by walk_at "sub") (by walk_at "dats");clear S8;have plen:(yn 0 (zO (zK kk) l) tk).length=(zO (zK kk) l).length:=WE ..;left;refine Eb (q:=(yn 0 (zO (zK kk) l) tk).any λx=>decide (0<x)) (λhh=>?_) (λc=>?_) (λc=>?_)
  ·left;refine HA (ns:=yn 0 (zO (zK kk) l) tk) S9 ‹_› (by rw [plen];omega) λm hm top=>?_;left
   have em:decide (0<m)=(yn 0 (zO (zK kk) l) tk).any λx=>decide (0<x):=jbS.mpr ⟨λh=>List.any_eq_true.mpr ⟨m,hm,h⟩,λh=>by
    obtain ⟨x,hx,Ly⟩:=List.any_eq_true.mp h;have:=top x hx;have:=QB Ly
    exact QX (by omega)⟩
   rw [em];exact hh
  ·obtain ⟨c1,c2⟩:=Bool.and_eq_true_iff.mp c;obtain ⟨j,c0,p,RV,hp,ne,later⟩:=inv (by cases fl<;>simp_all);obtain ⟨x,hx,Ly⟩:=List.any_eq_true.mp c2;obtain ⟨i',Kv,rfl⟩:=Qj.mp hx;have il:=pk.lt i' Kv;have KS:=Qb il;have rk:l[i'].2.1=kk:=QB ((Yq KS).mp Kv);have ht:=Qb (l:=tk) (i:=i') (by omega);rw [zF ht] at Ly;have lt:=later kk (Qc (i:=0) (by rw [jar,Nat.add_zero];exact hk));exact absurd (ok.fit.order RV hp KS ht (by rw [rk];exact lt) (QB Ly)) ne
  ·left;refine zN (xs:=(zO (zK kk) l).map λ(i:Nat)=>PyData.int (i:Int)) S9 ‹_› λJ10 wk10=>?_;refine yh wk10 (λj=>zC (l.getD ((zO (zK kk) l).getD j 0) (0,0,0))) (ys:=(l.filter (zK kk)).map zC) (by rw [ZL];unfold yn;rw [Qa,Qr];exact zo (λi:Nat=>zC (l.getD i (0,0,0))) 0 (zO (zK kk) l)) S9 (λj x v=>λhx t1 S hd=>?_) λPr Mn Oy KU=>?_
   ·obtain ⟨i',Kv,rfl⟩:=zJ hx;cases S.int1;have il:=pk.lt i' (Qc Kv);have hc:=Qb il;refine zE ⟨rfl,?_⟩;left;refine yr (xs:=l.map zC) (x:=zC l[i']) S ‹_› (yi (by rw [Qh,hc];rfl)) λw2 S2=>?_;refine hd S2 ?_;rw [zF Kv,zF hc];exact .mem (by right)
   left;refine YI (r:=r) (l:=l.filter (zK kk)) (tk:=yn 0 (zO (zK kk) l) tk) KU.freeze ‹_› ‹_› ‹_› step λMP Nl KO=>?_;left;have KZ:Sta H H MP [] [(xI (yn 0 (zO (zK kk) l) tk), .ref D8),(plD (zO (zK kk) l), .ref D6),(.list ((zS l).map PyData.int), .ref l3),(r.shape,v0),(zm l,v1),(xI tk,v2)]:=KO.dat (by walk_at "dats")
   cases fl with
   |false=>
    rw [QO QK];left;refine ZK (KZ.dat (by walk_at "dats")) ⟨false,_,_,_,rfl,rfl,rfl,λ_=>?_⟩;obtain ⟨j,c0,p,RV,hp,ne,later⟩:=inv rfl;exact ⟨j,c0,p,RV,hp,ne,λz hz=>later z (by rw [jag (Qd.mp hk).1];exact Qf _ hz)⟩
   |true=>
    rw [QH rfl];left;refine zN (xs:=(zO (zK kk) l).map λ(i:Nat)=>PyData.int (i:Int)) KZ ‹_› λJ13 wk13=>?_
    refine yt wk13 (λj=> .int (l.getD ((zO (zK kk) l).getD j 0) (0,0,0)).1) (ys:=(yn 0 (zO (zK kk) l) (amV l)).map PyData.int) (by
     unfold yn;rw [Qa,Qr];refine (zo (λi:Nat=>PyData.int (l.getD i (0,0,0)).1) 0 (zO (zK kk) l)).trans (QI λi hi=>?_);show PyData.int _=PyData.int _
     rw [CM (pk.lt i hi)]) KZ (λ_ _=> .mem (by right)) (by rw [Qa];omega) (λj x v B' G' Kd Kn hx t1 S hd C ex s0 H0=>?_) λPq OF Ox KR=>?_
    ·obtain ⟨i',Kv,rfl⟩:=zJ hx;cases S.int1;have il:=pk.lt i' (Qc Kv);have hc:=Qb il;refine zE ⟨rfl,?_⟩;left;refine yr (xs:=l.map zC) (x:=zC l[i']) S ‹_› (yi (by rw [Qh,hc];rfl)) λw2 S2=>?_;left;refine hd (by assumption) ?_;rw [zF Kv,zF hc];exact Has.int
    refine nB (x:=xI (yn 0 (zO (zK kk) l) tk)) (y:=xI (yn 0 (zO (zK kk) l) (amV l))) (KR.hp ‹_›) (KR.hpC (by right)) (WZ _) (WZ _) ?_;rw [Cn];left;refine ZK (KR.dropC.dat (by walk_at "dats")) ⟨_,_,_,_,rfl,rfl,rfl,λz=>?_⟩;have ne:=of_decide_eq_false z
    obtain ⟨i',Kv,ne'⟩:∃i'∈zO (zK kk) l,tk.getD i' 0≠(amV l).getD i' 0:=by
     refine Classical.byContradiction λno=>ne (QI λi hi=>Classical.byContradiction λh=>no ⟨i,hi,h⟩)
    have il:=pk.lt i' Kv;have KS:=Qb il;have rk:l[i'].2.1=kk:=QB ((Yq KS).mp Kv);have ht:=Qb (l:=tk) (i:=i') (by omega);rw [zF ht,<-CM il,zF KS] at ne';refine ⟨i',l[i'],tk[i'],KS,ht,ne',λz hz=>?_⟩;rw [rk];have pw:=(yE l).1;obtain ⟨kl,ek⟩:=Qd.mp hk;obtain ⟨j,hj,rfl⟩:=QR hz;rw [List.getElem_drop,<-ek];exact QJ.mp pw i (i+1+j) kl (by rw [Ts] at hj;omega) (by omega)
 ·rintro σ H5 cs ds ⟨fl,x4,x5,x6,rfl,rfl,rfl,inv⟩ S5
  left;exact k _ S5.base
abbrev xR:Stmt:=top 81
theorem av:FnScope ["_law_shape_here","_law_claims_here","_law_parts","_law_sums_here","_law_told","_law_group","_law_places","_law_some"] paa (zk xR):=xt
theorem ok_grF {n:Nat} (B:Bl mg) (B2:Bl3 mg) (ZF:Cal P w K mg base CX0 (2*n+2) "_law_fits" paa (VJ n)) (F:Fun K "_law_groups_fit" "_law_groups_fit" xR f fd):FnOk P w K mg base CX0 (2*n+3) f fd paa (Hl (n+1)):=by
 refine F.oo av λH vs Q E hr nd0 h=>?_;obtain ⟨⟨⟨a,b⟩,l,tk⟩,hA,ok,k⟩:=h;obtain ⟨v0,v1,v2,rfl,al⟩:=ZT hA;dsimp only at ok al;have S:Sta H H H [] [((Rl.groups a b).shape,v0),(zm l,v1),(xI tk,v2)]:=Sta.enter (zV.refl _) al;have few:=ok.few;have tl:=ok.fit.len;have gfew:=Yh l;simp only [Rl.shape] at S;walk_at "=ek3Dcek4DceHv&y_law_claim;1;vb1q0ug0z5eR6_law_k,_law_claims_here,_law_group;115;~aBab1ccq0<ptmoob1b0db2jb0eR7_law_k,_law_claims_here;11;vb6q0uob1b0eGYb3asaSTay_law_claim;1;vb7q0ug0ca.}ay_law_claim;1;vb7q0ug0cab5cceGYb4aSTay_law_k,_law_parts;12;vb6q0uob1b0ccflJEhag0ab7ay_law_k,_law_parts;12;vb6q0uob1b0cfiCnfihag0ab3ab4c";left;rename_i p1 H1 e1 S1 p2 H2 e2 S2;refine zN (xs:=l.map zC) S2 ‹_› λJ wk=>?_;refine yh wk (λj=> .int (l.getD j (0,0,0)).2.2) (ys:=(l.map (·.2.2)).map PyData.int) (by rw [Qa,Qr];exact zo (λc:Cl=>PyData.int c.2.2) (0,0,0) l) S2 (λj x v=>λhx t1 S hd=>?_) λD3 H3 e3 S3=>?_
 ·obtain ⟨c,hc,rfl⟩:=zJ hx;refine zE ⟨rfl,?_⟩;left;refine hd (by assumption) ?_;rw [zF hc];exact Has.int
 refine WC S3 (by right) (by rw [Qa];omega) λos l4 H4 h1 h2 e4 S4=>?_;have eo:os=zB l:=ZJ h1 (ya l).1 λz=>by rw [h2,(ya l).2]
 subst eo;have S5:Sta H H H4 [(p2,(UZ ((zB l).take 0) l tk).map PyData.int),(p1,((zG l).take 0).map zC)] [(.list ((zB l).map PyData.int), .ref l4),(.tuple [.str "groups",a.shape,b.shape],v0),(zm l,v1),(xI tk,v2)]:=S4.freeze.weak (by walk_at "sub") (by walk_at "dats");clear S1 S2 S3 S4;left;refine zN (xs:=(zB l).map PyData.int) S5 ‹_› λJ wk=>?_;refine xF wk (λi σ cs ds=>∃(x5 x6 x7:Option V),σ=[some v0,some v1,some v2,some (.ref p1),some (.ref p2),x5,x6,x7]/\cs=[(p2,(UZ ((zB l).take i) l tk).map PyData.int),(p1,((zG l).take i).map zC)]/\ds=[(.list ((zB l).map PyData.int), .ref l4),(.tuple [.str "groups",a.shape,b.shape],v0),(zm l,v1),(xI tk,v2)]) S5 ⟨none,none,none,rfl,rfl,rfl⟩ (λi σ cs ds h=>?_) ?_ ?_
 ·obtain ⟨_,_,_,_,_,rfl⟩:=h;exact .mem (by right)
 ·rintro i x u σ H6 cs ds hx ⟨x5,x6,x7,rfl,rfl,rfl⟩ S6
  obtain ⟨g,hg,rfl⟩:=zJ hx;cases S6.int1;have gl:=(Qd.mp hg).1;have pk:=YJ (zu g) l;have lk:=Zf (zu g) l;have fk:=QU (jaA (zu g) l) few;have pos:=Xn (Qc hg);have step:=ok.group g
  have t1:(zG l).take (i+1)=(zG l).take i++[wt g (l.filter (zu g))]:=by
   rw [TH];unfold zG;rw [Qh,hg];rfl
  have t2:UZ ((zB l).take (i+1)) l tk=UZ ((zB l).take i) l tk++[(yn 0 (zO (zu g) l) tk).sum]:=by
   rw [TH,hg];unfold UZ;rw [QP];rfl
  left;refine sq H H (by rw [Qa];omega) (by rw [Qa];omega) λJ7 wk7=>?_;refine bq wk7 (λj=>if zu g (l.getD j (0,0,0)) then some (.int (0+(j:Int))) else none) S6 (λ_ _=>trivial) (by rw [xg,Tg,Qa];omega) (λj x v B' G' Kd Kn hx t1 S hd hn C ex s0 H0=>?_) λD7 H7 e7 S7=>?_
  ·obtain ⟨hj,rfl⟩:=Yp hx;rw [Tg,Qa] at hj;cases S.int1;have hc:=Qb hj;rw [zF hc] at hd hn;refine zE ⟨rfl,?_⟩;left;refine yr (xs:=l.map zC) (x:=zC l[j]) S ‹_› (by rw [Int.zero_add];exact yi (by rw [Qh,hc];rfl)) λw2 S2=>?_;left;refine Yw (λz=>?_) (λz=>?_)
   ·left;exact hd (QH (QX z)) S2 Has.int
   ·exact hn (QO λy=>z (QB y)) S2
  rw [xg,Tg,Qa,iY] at S7;have S8:=S7.freeze;clear S7;left;refine zN (xs:=(zO (zu g) l).map λ(i:Nat)=>PyData.int (i:Int)) S8 ‹_› λJ9 NJ=>?_;refine yh NJ (λj=>zC (l.getD ((zO (zu g) l).getD j 0) (0,0,0))) (ys:=(l.filter (zu g)).map zC) (by rw [ZL];unfold yn;rw [Qa,Qr];exact zo (λi:Nat=>zC (l.getD i (0,0,0))) 0 (zO (zu g) l)) S8 (λj x v=>λhx t1 S hd=>?_) λD9 H9 e9 S9=>?_
  ·obtain ⟨i',Kv,rfl⟩:=zJ hx;cases S.int1;have il:=pk.lt i' (Qc Kv);have hc:=Qb il;refine zE ⟨rfl,?_⟩;left;refine yr (xs:=l.map zC) (x:=zC l[i']) S ‹_› (yi (by rw [Qh,hc];rfl)) λw2 S2=>?_;refine hd S2 ?_;rw [zF Kv,zF hc];exact .mem (by right)
  have KU:=S9.freeze;clear S9;generalize hlg:l.filter (zu g)=lg at*;left;refine zN (xs:=lg.map zC) KU ‹_› λJ11 wk11=>?_;refine yh wk11 (λj=> .int (lg.getD j (0,0,0)).1) (ys:=(amV lg).map PyData.int) (by unfold amV;rw [Qa,Qr];exact zo (λc:Cl=>PyData.int c.1) (0,0,0) lg) KU (λj x v=>λhx t1 S hd=>?_) λD11 MP Nl KO=>?_
  ·obtain ⟨c,hc,rfl⟩:=zJ hx;refine zE ⟨rfl,?_⟩;left;refine hd (by assumption) ?_;rw [zF hc];exact Has.int
  left;have KZ:=KO.dropC;clear KO;refine zN (xs:=lg.map zC) KZ ‹_› λJ13 wk13=>?_;refine yh wk13 (λj=> .int (lg.getD j (0,0,0)).2.1) (ys:=(lg.map (·.2.1)).map PyData.int) (by rw [Qa,Qr];exact zo (λc:Cl=>PyData.int c.2.1) (0,0,0) lg) KZ (λj x v=>λhx t1 S hd=>?_) λPq OF Ox KR=>?_
  ·obtain ⟨c,hc,rfl⟩:=zJ hx;refine zE ⟨rfl,?_⟩;left;refine hd (by assumption) ?_;rw [zF hc];exact Has.int
  left;refine AF (ns:=lg.map (·.2.1)) KR (by right) (by rw [Qa];exact pos) λm hm low=>?_;have em:m=pB (lg.map (·.2.1)):=BC hm low;subst em;have LW:=KR.dropC;clear KR;left;rename_i q15 OE Pj Mm;have Nn:Sta H H OE [(p1,((zG l).take i).map zC),(p2,(UZ ((zB l).take i) l tk).map PyData.int)] [(zC (wt g lg), .ref q15),(zm lg, .ref D9),(plD (zO (zu g) l), .ref D7),(.list ((zB l).map PyData.int), .ref l4),(.tuple [.str "groups",a.shape,b.shape],v0),(zm l,v1),(xI tk,v2)]:=(Mm.dat (by walk_at "dats")).swap;clear S8 KU KZ LW Mm;refine yK (y:=zC (wt g lg)) Nn ‹_› (by rw [Qa,TB];unfold zG;rw [Qa];omega) λH17 MO=>?_;have MN:=MO.swap;clear Nn MO;left;refine zN (xs:=(zO (zu g) l).map λ(i:Nat)=>PyData.int (i:Int)) MN ‹_› λJ19 wk19=>?_;refine yh wk19 (λj=> .int (tk.getD ((zO (zu g) l).getD j 0) 0)) (ys:=(yn 0 (zO (zu g) l) tk).map PyData.int) (by unfold yn;rw [Qa,Qr];exact zo (λi:Nat=>PyData.int (tk.getD i 0)) 0 (zO (zu g) l)) MN (λj x v=>λhx t1 S hd=>?_) λD19 SF e19 MM=>?_
  ·obtain ⟨i',Kv,rfl⟩:=zJ hx;cases S.int1;have il:=pk.lt i' (Qc Kv);have hc:=Qb (l:=tk) (i:=i') (by omega);refine zE ⟨rfl,?_⟩;left;refine Yo (xs:=tk.map PyData.int) S ‹_› (yi (by rw [Qh,hc];rfl)) ?_;refine hd S ?_;rw [zF Kv,zF hc];exact Has.int
  left;have ML:=MM.dropC;clear MN MM;refine yK (y:= .int (yn 0 (zO (zu g) l) tk).sum) ML Has.int (by rw [Qa];unfold UZ;rw [Qa,TB];omega) λOD OB=>?_;left;rename_i w22 NH;refine zN (xs:=(zO (zu g) l).map λ(i:Nat)=>PyData.int (i:Int)) NH ‹_› λJ23 wk23=>?_;refine yh wk23 (λj=> .int (tk.getD ((zO (zu g) l).getD j 0) 0)) (ys:=(yn 0 (zO (zu g) l) tk).map PyData.int) (by unfold yn;rw [Qa,Qr];exact zo (λi:Nat=>PyData.int (tk.getD i 0)) 0 (zO (zu g) l)) NH (λj x v=>λhx t1 S hd=>?_) λD23 H23 e23 SA=>?_
  ·obtain ⟨i',Kv,rfl⟩:=zJ hx;cases S.int1;have il:=pk.lt i' (Qc Kv);have hc:=Qb (l:=tk) (i:=i') (by omega);refine zE ⟨rfl,?_⟩;left;refine Yo (xs:=tk.map PyData.int) S ‹_› (yi (by rw [Qh,hc];rfl)) ?_;refine hd S ?_;rw [zF Kv,zF hc];exact Has.int
  left;refine YI (r:=b) (l:=lg) (tk:=yn 0 (zO (zu g) l) tk) SA.freeze ‹_› ‹_› ‹_› step λOC Sm Sy=>?_;left;refine ZK (Sy.dat (ds':=[(.list ((zB l).map PyData.int), .ref l4),(.tuple [.str "groups",a.shape,b.shape],v0),(zm l,v1),(xI tk,v2)]) (by walk_at "dats")) ⟨_,_,_,rfl,?_,rfl⟩;rw [t1,t2,QP,QP];rfl
 ·rintro σ H6 cs ds ⟨x5,x6,x7,rfl,rfl,rfl⟩ S6
  have e1:(zG l).take (zB l).length=zG l:=Ti (by rw [xG];exact Qv _);rw [Qa,e1,List.take_length] at S6;have S7:=S6.freeze.freeze;clear S6;left;rename_i w8 S8;refine YI (r:=a) (l:=zG l) (tk:=UZ (zB l) l tk) S8 ‹_› ‹_› ‹_› ok.outer λH9 e9 S9=>?_;exact k _ S9.base
theorem Ez (B:Bl mg) (B2:Bl3 mg) (Jp:Cal P w K mg base CX0 1 "_law_even" paI wZ) {fu:Addr} {fdu:FuncData} (Fu:Fun K "_law_upto_fit" "_law_upto_fit" ZG fu fdu) (hmu:mg "_law_upto_fit"=some (.ref fu)) (bu:xi K fdu paa []) {fr fg:Addr} {fdr fdg:FuncData} (Fr:Fun K "_law_ranks_fit" "_law_ranks_fit" Zc fr fdr) (Rq:mg "_law_ranks_fit"=some (.ref fr)) (br:xi K fdr paa []) (Fg:Fun K "_law_groups_fit" "_law_groups_fit" xR fg fdg) (Lh:mg "_law_groups_fit"=some (.ref fg)) (bg:xi K fdg paa []) (F:Fun K "_law_fits" "_law_fits" aD f fd) (hm:mg "_law_fits"=some (.ref f)) (bf:xi K fd paa []):∀n:Nat,FnOk P w K mg base CX0 (2*n+2) f fd paa (VJ n):=by
 intro n
 induction n with
 |zero=>
  refine F.ok VN (λvs H Q E h=>?_) (λKt A outer s H vs Q E hr h=>?_)
  ·obtain ⟨a,h,_⟩:=h;rw [<-h.len];rfl
  obtain ⟨⟨r,l,tk⟩,_,ok,_⟩:=h;dsimp only at ok;exact absurd ok.dep (by have:=Fw r;omega)
 |succ n ih=>
  have ZF:Cal P w K mg base CX0 (2*n+2) "_law_fits" paa (VJ n):=UM F ih hm bf;have Dr:Cal P w K mg base CX0 (2*n+3) "_law_upto_fit" paa (Hh (n+1)):=UM Fu (ok_upA B ZF Fu) hmu bu;have CV:Cal P w K mg base CX0 (2*n+3) "_law_ranks_fit" paa (Hj (n+1)):=UM Fr (ok_rkF B B2 ZF Fr) Rq br;have wy:Cal P w K mg base CX0 (2*n+3) "_law_groups_fit" paa (Hl (n+1)):=UM Fg (ok_grF B B2 ZF Fg) Lh bg;refine F.ok VN (λvs H Q E h=>?_) (λKt A outer s H vs Q E hr h=>?_)
  ·obtain ⟨a,h,_⟩:=h;rw [<-h.len];rfl
  obtain ⟨⟨r,l,tk⟩,hA,ok,k⟩:=h;obtain ⟨v0,v1,v2,rfl,al⟩:=ZT hA;dsimp only at ok al;have S:Sta H H H [] [(r.shape,v0),(zm l,v1),(xI tk,v2)]:=Sta.enter (zV.refl _) al;have few:=ok.few;have hn20:=ok.hn;have nd0:=VN.nd;walk_at "=eR3_law_claim;1;vb1q0ug0ek4STab3cek5STab2ceH#ab3ab2cKwz6wz7IflLO1b7djWUb7b6jfiCnelptmg0xjfi@tmy_law_part,_law_whole_here;14;vb2q0urb0b1y_law_amount,_law_purse_here;15;vb3q0urb0b1jnelptmg0xjfihab3ab2cnelptmg0xjfihab3ay_law_amount,_law_part;2;#ab3ab2cKwq0wq1IuNb0b1cnelptmg0xjfihasaxasadadcasaxcasaxccab1ab2cnelptmg0xjfihag0ab1ay_law_amount,_law_part;2;#ab3ab2cKwq0wq1IuNb0b1cnelptmg0xjfihag0ab1ab2cnelptmg0xjfihab0ab1ab2cnfihab0ab1ab2c";left;refine zN (xs:=l.map zC) S ‹_› λJ wk=>?_;refine yh wk (λj=> .int (l.getD j (0,0,0)).1) (ys:=(amV l).map PyData.int) (by unfold amV;rw [Qa,Qr];exact zo (λc:Cl=>PyData.int c.1) (0,0,0) l) S (λj x v=>λhx t1 S hd=>?_) λD H1 e1 S1=>?_
  ·obtain ⟨c,hc,rfl⟩:=zJ hx;refine zE ⟨rfl,?_⟩;left;refine hd (by assumption) ?_;rw [zF hc];exact Has.int
  have S2:Sta H H H1 [] [(xI (amV l), .ref D),(r.shape,v0),(zm l,v1),(xI tk,v2)]:=S1.freeze;clear S1;have l8:(amV l).length<=8:=by rw [yj];exact few
  have LR:=ok.sz;have inb:=ok.fit.inB;left;refine UC (xs:=(amV l).map PyData.int) (ys:=tk.map PyData.int) S2 ‹_› ‹_› λJ2 Lu=>?_;refine xF Lu (λi σ cs ds=>(∃x6 x7,σ=[some v0,some v1,some v2,some (.ref D),some (.int (amV l).sum),some (.int tk.sum),x6,x7])/\cs=[]/\ds=[(xI (amV l), .ref D),(r.shape,v0),(zm l,v1),(xI tk,v2)]) S2 ⟨⟨none,none,rfl⟩,rfl,rfl⟩ (λi σ cs ds h=>?_) ?_ ?_
  ·obtain ⟨_,rfl,rfl⟩:=h;exact ⟨.mem (by right),λ_ _ h=>h.tail, .mem (by right)⟩
  ·rintro i x u σ H2 cs ds hx ⟨⟨x6,x7,rfl⟩,rfl,rfl⟩ S3
   obtain ⟨xa,xb,h1,h2,rfl⟩:=Zo hx;obtain ⟨a,ha,rfl⟩:=zJ h1;obtain ⟨p,hp,rfl⟩:=zJ h2;have b:=inb.2 i a p ha hp;refine xf (xc S3 ‹_› λw1 w2 S4=>?_);cases S4.int1;cases S4.drop1.int1;left;refine Yw (λc=>absurd c (by omega)) (λ_=>?_);left;refine Yw (λc=>absurd c (by omega)) (λ_=>?_);left;exact ZK (S4.dat (by walk_at "dats")) ⟨⟨_,_,rfl⟩,rfl,rfl⟩
  rintro σ H2 cs ds ⟨⟨x6,x7,rfl⟩,rfl,rfl⟩ S3
  clear S2 wk Lu
  cases r with
  |shares=>
   simp only [Rl.shape] at S3;obtain ⟨it,ia⟩:=inb.inS l8 LR;have st:=it.sum.2;have sa:=ia.sum.2;left;refine zN (xs:=tk.map PyData.int) S3 ‹_› λJ3 LI=>?_;refine yt LI (λj=> .int (tk.getD j 0*(amV l).sum)) (ys:=(tk.map (·*(amV l).sum)).map PyData.int) (by rw [Qa,Qr];exact zo (λx:Int=>PyData.int (x*(amV l).sum)) 0 tk) S3 (λ_ _=> .mem (by right)) (by rw [Qa,inb.1];omega) (λj x v B' G' Kd Kn hx t1 S hd C ex s0 H0=>?_) λD4 H4 e4 S4=>?_
   ·obtain ⟨y,hy,rfl⟩:=zJ hx;cases S.int1;have o:IntMulOk y (amV l).sum:=(it.2 y (Qc hy)).2.mulOk sa (by omega);refine zE ⟨rfl,?_⟩;left;refine hd S ?_;rw [zF hy];exact Has.int
   left;refine zN (xs:=(amV l).map PyData.int) S4 ‹_› λJ5 wk5=>?_;refine yh wk5 (λj=> .int ((amV l).getD j 0*tk.sum)) (ys:=((amV l).map (·*tk.sum)).map PyData.int) (by rw [Qa,Qr];exact zo (λx:Int=>PyData.int (x*tk.sum)) 0 (amV l)) S4 (λj x v=>λhx t1 S hd=>?_) λD6 H6 e6 S6=>?_
   ·obtain ⟨y,hy,rfl⟩:=zJ hx;cases S.int1;have o:IntMulOk y tk.sum:=(ia.2 y (Qc hy)).2.mulOk st (by omega);refine zE ⟨rfl,?_⟩;left;refine hd S ?_;rw [zF hy];exact Has.int
   refine nB (x:=xI (tk.map (·*(amV l).sum))) (y:=xI ((amV l).map (·*tk.sum))) (S6.hpC (by right)) (S6.hpC (by right)) (WZ _) (WZ _) ?_;rw [Cn,QX (show tk.map (·*(amV l).sum)=(amV l).map (·*tk.sum) from ok.fit.shares)];exact k _ S6.base
  |evenly=>
   simp only [Rl.shape] at S3;left;refine AL S3 ‹_› ‹_› l8 ok.fit.evenly λH4 e4 S4=>?_;exact k _ S4.base
  |losses=>
   simp only [Rl.shape] at S3;left;refine UC (xs:=(amV l).map PyData.int) (ys:=tk.map PyData.int) S3 ‹_› ‹_› λJ3 LI=>?_;have ll:(xU (amV l) tk).length=(amV l).length:=WL inb.1;refine yt LI (λj=> .int ((xU (amV l) tk).getD j 0)) (ys:=(xU (amV l) tk).map PyData.int) ?_ S3 (λ_ _=>⟨.mem (by right),λ_ _ h=>h.tail, .mem (by right)⟩) ?_ (λj x v B' G' Kd Kn hx t1 S hd C ex s0 H0=>?_) λD4 H4 e4 S4=>?_
   ·rw [yR,Qa,Qa,inb.1,TN,<-ll];exact zo (λx=>PyData.int x) 0 _
   ·rw [yR,Qa,Qa];omega
   ·obtain ⟨x1,x2,h1,h2,rfl⟩:=Zo hx;obtain ⟨n1,LF,rfl⟩:=zJ h1;obtain ⟨n2,Lp,rfl⟩:=zJ h2;refine xf (xc S ‹_› λw1 w2 S=>?_);cases S.int1;cases S.drop1.int1;refine yN (zE (yN (zE (XO ⟨rfl,?_⟩))));left;refine hd S ?_;rw [zF (show (xU (amV l) tk)[j]? =some (n1 - n2) by unfold xU;rw [Qt,LF,Lp])];exact Has.int
   left;refine AL (am:=amV l) (tk:=xU (amV l) tk) S4.freeze ‹_› ‹_› l8 ok.fit.losses λH5 e5 S5=>?_;exact k _ S5.base
  |halves=>
   simp only [Rl.shape] at S3;left;rename_i p4 H4 e4 S4;refine YI (r:= .upto 1 2 .evenly .losses) (l:=l) (tk:=tk) S4 ‹_› ‹_› ‹_› ok.halves λH5 e5 S5=>?_;exact k _ S5.base
  |other r=>
   simp only [Rl.shape] at S3;left;rename_i w4 S4';have S3:=S4';refine UC (xs:=(amV l).map PyData.int) (ys:=tk.map PyData.int) S3 ‹_› ‹_› λJ3 LI=>?_;have ll:(xU (amV l) tk).length=(amV l).length:=WL inb.1;refine yt LI (λj=> .int ((xU (amV l) tk).getD j 0)) (ys:=(xU (amV l) tk).map PyData.int) ?_ S3 (λ_ _=>⟨.mem (by right),λ_ _ h=>h.tail, .mem (by right)⟩) ?_ (λj x v B' G' Kd Kn hx t1 S hd C ex s0 H0=>?_) λD4 H4 e4 S4=>?_
   ·rw [yR,Qa,Qa,inb.1,TN,<-ll];exact zo (λx=>PyData.int x) 0 _
   ·rw [yR,Qa,Qa];omega
   ·obtain ⟨x1,x2,h1,h2,rfl⟩:=Zo hx;obtain ⟨n1,LF,rfl⟩:=zJ h1;obtain ⟨n2,Lp,rfl⟩:=zJ h2;refine xf (xc S ‹_› λw1 w2 S=>?_);cases S.int1;cases S.drop1.int1;refine yN (zE (yN (zE (XO ⟨rfl,?_⟩))));left;refine hd S ?_;rw [zF (show (xU (amV l) tk)[j]? =some (n1 - n2) by unfold xU;rw [Qt,LF,Lp])];exact Has.int
   left;refine YI (r:=r) (l:=l) (tk:=xU (amV l) tk) S4.freeze ‹_› ‹_› ‹_› ok.other λH5 e5 S5=>?_;exact k _ S5.base
  |upto t b x y=>
   have S4:=S3;simp only [Rl.shape] at S3;left;refine rd_upA (t:=t) (b:=b) (x:=x) (y:=y) (l:=l) (tk:=tk) S4 ‹_› ‹_› ‹_› ok λH5 e5 S5=>?_;exact k _ S5.base
  |ranks r=>
   simp only [Rl.shape] at S3;left;rename_i w4 S4;refine rd_rkF (r:=r) (l:=l) (tk:=tk) S4 ‹_› ‹_› ‹_› ok λH5 e5 S5=>?_;exact k _ S5.base
  |groups x y=>
   have S4:=S3;simp only [Rl.shape] at S3;left;refine rd_grF (x:=x) (y:=y) (l:=l) (tk:=tk) S4 ‹_› ‹_› ‹_› ok λH5 e5 S5=>?_;exact k _ S5.base
abbrev VT:Stmt:=top 82
theorem mR:FnScope ["_law_shape_here","_law_claims_here","_law_purse_here","_law_parts","_law_by","_law_part","_law_told","_law_due"] pag (zk VT):=xt
theorem Bf {t:Nat} (B:Bl mg) (bV:Cal P w K mg base CX0 2 "_law_is_fraction" paq rY) (UW:Cal P w K mg base CX0 1 "_law_divisor" paf mJ) (ZF:Cal P w K mg base CX0 26 "_law_fits" paa (VJ 12)) (F:Fun K "_law_right" "_law_right" VT f fd):FnOk P w K mg base CX0 27 f fd pag (jR t):=by
 refine F.oo mR λH vs Q E hr nd0 h=>?_;obtain ⟨⟨r,l,e⟩,hA,⟨⟨⟨pl,Mq⟩,Kz⟩,ze,e0⟩,k⟩:=h;obtain ⟨v0,v1,v2,v3,rfl,al⟩:=IB hA;dsimp only at pl Mq Kz ze e0 al;have ok:=Kz.ok pl.ht;have S:Sta H H H [] [(r.shape,v0),(zm l,v1),(frD e,v2),(zR (zh (zI r l) e),v3)]:=Sta.enter (zV.refl _) al;have g:=(pl.gf (l:=l) Kz).good;have LR:∀p∈zh (zI r l) e,SzQ 4904 p:=nG ze (pl.R (l:=l) Kz).sz;have hlen:(zh (zI r l) e).length=l.length:=g.std.len;have key:=λB (hB:0<B) de hd=>vG (B:=B) (e:=e) g hB e0 de hd;have few:=ok.few;generalize zh (zI r l) e=ps at*;have hv:=S.hp (x:=zR ps) (v:=v3) ‹_›;walk_at "=elLOJE8ab3a^tuple;cWpPmBab3cBab1cjfiCnek4g2eH>b3z5elJEhab5cfiCnfk4r7b4hab4ag5cg5eR6_law_part,_law_by;14;>b3q0urg07b1g0ek7.τarg27b4g2arb4STay_law_claim;1;vb1q0ug0ccelpPmSTab6cb7jfiCnfihab0ay_law_claim,_law_by;14;vb1q0usarb1g0ag0ag0cab6c";left;refine vE (by rw [Qa,Qa,hlen]) ?_;left;refine eJ (xs:=ps.map frD) S ‹_› λJ wk=>?_
 refine xF wk (λi σ cs ds=>∃(b:Int) (x5 x6 x7:Option V),σ=[some v0,some v1,some v2,some v3,some (.int b),x5,x6,x7]/\cs=[]/\ds=[(r.shape,v0),(zm l,v1),(frD e,v2),(zR ps,v3)]/\0<b/\Sz (700+i*4904) b/\(e.den:Int)∣b/\∀j p,j<i->ps[j]? =some p->(p.den:Int)∣b) S
  ⟨(e.den:Int),none,none,none,rfl,rfl,rfl,den_pos e,ze.2.mono (by omega),⟨1,by rw [jbZ]⟩,λj p hj=>absurd hj (Nat.not_lt_zero _)⟩ (λi σ cs ds h=>?_) ?_ ?_
 ·obtain ⟨_,_,_,_,_,_,rfl,_⟩:=h;exact .mem (by right)
 ·rintro i x u σ H2 cs ds hx ⟨b,x5,x6,x7,rfl,rfl,rfl,b0,zb,de,hd⟩ S2
  obtain ⟨p,hp,rfl⟩:=zJ hx;have zp:=LR p (Qc hp);have pd:=den_pos p;have st:=Fc b0 pd;left;refine qk S2 ‹_› λH3 S3=>?_;have gp:0<Int.gcd b (p.den:Int):=jbu b (by omega)
  have hc:CDv b ((Int.gcd b (p.den:Int):Nat):Int):=⟨by omega,by
   refine (Sz.le zp.2 ?_).mono (by decide);have:=Nat.le_of_dvd (by omega) (jbQ b (p.den:Int))
   omega⟩
  have qn:0<=b.fdiv ((Int.gcd b (p.den:Int):Nat):Int):=by
   rw [Tx _ (by omega)];exact Int.ediv_nonneg (by omega) (by omega)
  have ql:b.fdiv ((Int.gcd b (p.den:Int):Nat):Int)<=b:=by
   rw [Tx _ (by omega)];exact Int.ediv_le_self _ (by omega)
  have zq:=mD qn ql zb;have hi:i<ps.length:=(Qd.mp hp).1;have o:IntMulOk (b.fdiv ((Int.gcd b (p.den:Int):Nat):Int)) (p.den:Int):=zq.mulOk zp.2 (by omega);left;refine ZK ((by assumption:Sta H H H3 [] _).dat (by walk_at "dats")) ⟨_,_,_,_,rfl,rfl,rfl,st.1,(zq.mul zp.2).mono (by omega),Int.dvd_trans de st.2.1,λj q hj hq=>?_⟩
  by_cases Od:j<i
  ·exact Int.dvd_trans (hd j q Od hq) st.2.1
  ·have:j=i:=by omega
   subst this;rw [hp] at hq;cases hq;exact st.2.2
 rintro σ H2 cs ds ⟨b,x5,x6,x7,rfl,rfl,rfl,b0,zb,de,hd⟩ S2
 rw [Qa,hlen] at zb;have zb:Sz 40000 b:=zb.mono (by omega)
 have OZ:∀p∈ps,(p.den:Int)∣b:=λp hp=>by
  obtain ⟨j,hj,rfl⟩:=QR hp;exact hd j _ (by rw [Qa];exact hj) (Qb hj)
 obtain ⟨ks,kf⟩:=key b b0 de OZ
 have dq:∀d:Int,0<d->0<=b.fdiv d/\b.fdiv d<=b:=λd RO=>by
  rw [Tx _ (by omega)];exact ⟨Int.ediv_nonneg (by omega) (by omega),Int.ediv_le_self _ (by omega)⟩
 left;refine eJ (xs:=ps.map frD) S2 ‹_› λJ3 LI=>?_;refine yh LI (λj=> .int ((tkV b ps).getD j 0)) (ys:=(tkV b ps).map PyData.int) (by rw [Qa,show ps.length=(tkV b ps).length by unfold tkV;rw [Qa]];exact zo (λx=>PyData.int x) 0 _) S2 (λj x v=>λhx t1 S hd=>?_) λD4 H4 e4 S4=>?_
 ·obtain ⟨p,hp,rfl⟩:=zJ hx;have zp:=LR p (Qc hp);have pd:=den_pos p;have hc:CDv b (p.den:Int):=⟨by omega,zp.2.mono (by decide)⟩;have o:IntMulOk p.num (b.fdiv (p.den:Int)):=zp.1.mulOk (mD (dq _ pd).1 (dq _ pd).2 zb) (by decide);refine zE ⟨rfl,?_⟩;left;refine hd (by assumption) ?_;rw [zF (show (tkV b ps)[j]? =some (p.num*b.fdiv (p.den:Int)) by unfold tkV;rw [Qh,hp];rfl)];exact Has.int
 have S5:=S4.freeze;have ed:=den_pos e;have Ny:CDv b (e.den:Int):=⟨by omega,ze.2.mono (by decide)⟩;have o1:IntMulOk e.num (b.fdiv (e.den:Int)):=ze.1.mulOk (mD (dq _ ed).1 (dq _ ed).2 zb) (by decide);have o2:IntMulOk b (amV l).sum:=zb.mulOk ok.am.sum.2 (by decide);left;refine zN (xs:=l.map zC) (by assumption) ‹_› λJ6 Pw=>?_;refine yh Pw (λj=> .int (l.getD j (0,0,0)).1) (ys:=(amV l).map PyData.int) (by unfold amV;rw [Qa,Qr];exact zo (λc:Cl=>PyData.int c.1) (0,0,0) l) (by assumption) (λj x v=>λhx t1 S hd=>?_) λD6 H6 e6 S6=>?_
 ·obtain ⟨c,hc,rfl⟩:=zJ hx;refine zE ⟨rfl,?_⟩;left;refine hd (by assumption) ?_;rw [zF hc];exact Has.int
 left;refine vE ks ?_;have S7:=S6.freeze;left;refine zN (xs:=l.map zC) S7 ‹_› λJ8 Pu=>?_
 refine yt Pu (λj=>zC ((λc:Cl=>((b*c.1,c.2):Cl)) (l.getD j (0,0,0)))) (ys:=(yd b l).map zC) (by
  unfold yd;rw [Qr,Qa];exact zo (λc:Cl=>zC ((b*c.1,c.2):Cl)) (0,0,0) l) S7 (λ_ _=> .mem (by right)) (by rw [Qa];omega) (λj x v B' G' Kd Kn hx t1 S hd C ex s0 H0=>?_) λD8 H8 e8 S8=>?_
 ·obtain ⟨c,hc,rfl⟩:=zJ hx;have o:IntMulOk b c.1:=zb.mulOk (ok.sz c (Qc hc)) (by decide);refine zE ⟨rfl,?_⟩;left;refine hd (by assumption) ?_;rw [zF hc];exact .mem (by right)
 left;refine YI (r:=r) (l:=yd b l) (tk:=tkV b ps) S8.freeze ‹_› ‹_› ‹_› (by exact ⟨pl.pok,Mq,by decide,by rw [Za];exact few,λx hx=>by rw [WV] at hx;obtain ⟨a,ha,rfl⟩:=Qj.mp hx;exact (zb.mul (ok.am.2 a ha).2).mono (by decide),kf⟩) λH9 e9 S9=>?_;exact k _ S9.base
abbrev aA:Stmt:=top 83
theorem VM:FnScope paB paB (zk aA):=xt
section
variable {A:RAd}
theorem En (mShares:Vt P w K mg base "Shares" (A.cls .shares) pac (xj (A.cls .shares) (α:=Unit) (λ_=>[]) (λ_=>Rl.shares.shape))) (mEvenly:Vt P w K mg base "Evenly" (A.cls .evenly) pac (xj (A.cls .evenly) (α:=Unit) (λ_=>[]) (λ_=>Rl.evenly.shape))) (mLosses:Vt P w K mg base "Losses" (A.cls .losses) pac (xj (A.cls .losses) (α:=Unit) (λ_=>[]) (λ_=>Rl.losses.shape))) (mHalves:Vt P w K mg base "Halves" (A.cls .halves) pac (xj (A.cls .halves) (α:=Unit) (λ_=>[]) (λ_=>Rl.halves.shape))) (mOther:Vt P w K mg base "Other" (A.cls (.other .shares)) pal (xj (A.cls (.other .shares)) (α:=Rl) (λr=>[r.ins A]) (λr=>(Rl.other r).shape))) (mRanks:Vt P w K mg base "Ranks" (A.cls (.ranks .shares)) pal (xj (A.cls (.ranks .shares)) (α:=Rl) (λr=>[r.ins A]) (λr=>(Rl.ranks r).shape))) (mGroups:Vt P w K mg base "Groups" (A.cls (.groups .shares .shares)) paw (xj (A.cls (.groups .shares .shares)) (α:=Rl×Rl) (λr=>[r.1.ins A,r.2.ins A]) (λr=>(Rl.groups r.1 r.2).shape))) (mUpto:Vt P w K mg base "Upto" (A.cls (.upto 0 0 .shares .shares)) pak (xj (A.cls (.upto 0 0 .shares .shares)) (α:=(Int×Int)×Rl×Rl) (λr=>[.tuple [.int r.1.1, .int r.1.2],r.2.1.ins A,r.2.2.ins A]) (λr=>(Rl.upto r.1.1 r.1.2 r.2.1 r.2.2).shape))) (F:Fun K "_law_rule" "_law_rule" aA f fd) (hm:mg "_law_rule"=some (.ref f)) (b:xi K fd paB []):∀n:Nat,FnOk P w K mg base CX0 (n+4) f fd paB (jQ A n):=by
 obtain ⟨JY,JH,oM,Di,CY,td⟩:=mShares;obtain ⟨Kc,JL,oQ,Dn,Df,tq⟩:=mEvenly;obtain ⟨JZ,JI,oN,Dj,CZ,tf⟩:=mLosses;obtain ⟨Ka,JJ,oO,Dk,Dc,tj⟩:=mHalves;obtain ⟨Kk,JX,tP,FZ,FR,Ce⟩:=mOther;obtain ⟨Kj,JW,tO,FY,FQ,Cd⟩:=mRanks;obtain ⟨Kb,JK,oP,Dm,Dd,tm⟩:=mGroups;obtain ⟨Kp,Ki,CP,GX,GQ,GI⟩:=mUpto;intro n
 induction n with
 |zero=>
  refine F.ok VM (λvs H Q E h=>?_) (λKt A' outer s H vs Q E hr h=>?_)
  ·obtain ⟨G,a,_,h,_⟩:=h;rw [<-h.len];rfl
  obtain ⟨G,r,_,_,hd,_⟩:=h;exact absurd hd (by cases r<;>simp [Rl.deep])
 |succ n ih=>
  have wj:Cal P w K mg base CX0 (n+4) "_law_rule" paB (jQ A n):=UM F ih hm b;refine F.ok VM (λvs H Q E h=>?_) (λKt A' outer s H vs Q E hr h=>?_)
  ·obtain ⟨G,a,_,h,_⟩:=h;rw [<-h.len];rfl
  obtain ⟨G,r,eG,hA,hd,k⟩:=h;obtain ⟨v,rfl,al⟩:=Yu hA;have S:Sta H G H [] [(r.shape,v)]:=Sta.enter eG al;have nd0:=VM.nd;walk_at "=elptmg0xjfiυφnelptmg0xjfiχψnelptmg0xjfiωΓnelptmg0xjfiΔΘnelptmg0xjfiΞΠahag0ccnelptmg0xjfiΣΦahag0ccnelptmg0xjfiΨΩahag0cahag0ccnfiабag0ahag0cahag0cc"
  cases r with
  |shares=>
   simp only [Rl.shape] at S;left;refine YH () S yH.nil λx1 H1 e1 S1=>?_;exact xN S1 k ‹_›
  |evenly=>
   simp only [Rl.shape] at S;left;refine YH () S yH.nil λx1 H1 e1 S1=>?_;exact xN S1 k ‹_›
  |losses=>
   simp only [Rl.shape] at S;left;refine YH () S yH.nil λx1 H1 e1 S1=>?_;exact xN S1 k ‹_›
  |halves=>
   simp only [Rl.shape] at S;left;refine YH () S yH.nil λx1 H1 e1 S1=>?_;exact xN S1 k ‹_›
  |other r=>
   simp only [Rl.shape] at S;left;rename_i w1 S1;refine YF (r:=r) S1 ‹_› (by simp only [Rl.deep] at hd;omega) λw2 H2 e2 S2=>?_;left;refine YH r S2 (yH.cons ‹_› yH.nil) λx1 H3 e3 S3=>?_;exact xN S3 k ‹_›
  |upto t b x y=>
   have dx:x.deep<=n:=by simp only [Rl.deep] at hd;omega
   have dy:y.deep<=n:=by simp only [Rl.deep] at hd;omega
   simp only [Rl.shape] at S;left;rename_i w1 S1 w2 S2;refine YF (r:=x) S2 ‹_› dx λw3 H3 e3 S3=>?_;left;rename_i w4 S4;refine YF (r:=y) S4 ‹_› dy λw5 H5 e5 S5=>?_;left;refine YH (((t,b),x,y):(Int×Int)×Rl×Rl) S5 (yH.cons ‹_› (yH.cons ‹_› (yH.cons ‹_› yH.nil))) λx1 H6 e6 S6=>?_;exact xN S6 k ‹_›
  |ranks r=>
   simp only [Rl.shape] at S;left;rename_i w1 S1;refine YF (r:=r) S1 ‹_› (by simp only [Rl.deep] at hd;omega) λw2 H2 e2 S2=>?_;left;refine YH r S2 (yH.cons ‹_› yH.nil) λx1 H3 e3 S3=>?_;exact xN S3 k ‹_›
  |groups x y=>
   have dx:x.deep<=n:=by simp only [Rl.deep] at hd;omega
   have dy:y.deep<=n:=by simp only [Rl.deep] at hd;omega
   simp only [Rl.shape] at S;left;rename_i w1 S1;refine YF (r:=x) S1 ‹_› dx λw3 H3 e3 S3=>?_;left;rename_i w4 S4;refine YF (r:=y) S4 ‹_› dy λw5 H5 e5 S5=>?_;left;refine YH ((x,y):Rl×Rl) S5 (yH.cons ‹_› (yH.cons ‹_› yH.nil)) λx1 H6 e6 S6=>?_;exact xN S6 k ‹_›
end
abbrev aB:Stmt:=top 66
theorem pZ:FnScope paf paf (zk aB):=xt
theorem HZ (F:Fun K "_law_less" "_law_less" aB f fd):FnOk P w K mg base CX0 1 f fd paf rW:=by
 refine F.oo pZ λH vs Q E hr nd0 h=>?_;obtain ⟨⟨p,q⟩,hA,⟨m,n,hp,hq,LB⟩,k⟩:=h;obtain ⟨v,w',rfl,al⟩:=xo hA;have S:Sta H H H [] _:=Sta.enter (zV.refl _) al;dsimp only at hp hq k S;have o1:IntMulOk p.num (q.den:Int):=hp.1.mulOk hq.2 (by omega);have o2:IntMulOk q.num (p.den:Int):=hq.1.mulOk hp.2 (by omega);walk_at "=fi)rg0g1rg1g0j";left;rw [show decide (p<q)=decide (p.num*(q.den:Int)<q.num*(p.den:Int)) from decide_eq_decide.mpr (Rat.lt_iff p q)] at k;exact k
abbrev kA:Stmt:=top 67
theorem Ao:FnScope ["_law_path","_law_purse_here","_law_k","_law_low","_law_here","_law_high","_law_there","_law_up","_law_long","_law_found","_law_one","_law_two","_law_top"] pao (zk kA):=xt
theorem Ey (B:Bl mg) (wm:Cal P w K mg base CX0 1 "_law_less" paf rW) (oZ:Cal P w K mg base CX0 2 "_law_lowest" paE cS) (F:Fun K "_law_at" "_law_at" kA f fd):FnOk P w K mg base CX0 3 f fd pao cU:=by
 refine F.oo Ao λH vs Q E hr nd0 h=>?_;obtain ⟨G,⟨a,e⟩,eG,hA,⟨m,n,ok,ze,hz⟩,k⟩:=h;obtain ⟨v1,v2,rfl,al⟩:=xo hA;have S:Sta H G H [] [(zU a,v1),(frD e,v2)]:=Sta.enter eG al;dsimp only at ok ze k;have few:=ok.few;have la:0<a.length:=jaz.mpr ok.ne;have Rr:n+m<=100000000:=by omega
 walk_at "=eHγadaBab0ccz2flJEhaoob0b2dab1ce=ob0Nb2dKwz3wz4Ie=ob0b2Kwz5wz6Iek7rNrg1g3rg3g1g5ek8rNrg5g3rg3g5g1ek9DceH/ab4ab6cKwzawzbIekcArrgagbNb8b7rrgbgab7fGYb9ahabcarrgagbb8ccfiZab9cnfioob0Mdd";left;refine Gw H G ⟨by omega,by omega⟩ ⟨by rw [Qa];omega,by rw [Qa];omega⟩ λJ wk=>?_;refine xF wk (λi σ cs ds=>∃(x2 x3 x4 x5 x6 x7 x8 x9 LD LX Mz:Option V),σ=[some v1,some v2,x2,x3,x4,x5,x6,x7,x8,x9,LD,LX,Mz]/\cs=[]/\ds=[(zU a,v1),(frD e,v2)]/\∀(j:Nat) (x:zg),j<i->a[j+1]? =some x->x.1<e) S ⟨none,none,none,none,none,none,none,none,none,none,none,rfl,rfl,rfl,λj x hj=>absurd hj (Nat.not_lt_zero _)⟩ (λ_ _ _ _ _=>trivial) ?_ ?_
 ·rintro i x u σ H2 cs ds hx ⟨x2,x3,x4,x5,x6,x7,x8,x9,LD,LX,Mz,rfl,rfl,rfl,inv⟩ S2
  obtain ⟨hi,rfl⟩:=Yp hx;cases S2.int1;rw [Qa] at hi;have Oe:i+1<a.length:=by omega
  have Nf:i<a.length:=by omega
  have hd:=Qb Oe;have hc:=Qb Nf;have Lg:=ok.rise;unfold yl at Lg;rw [QJ] at Lg;have Ku:=Lg i (i+1) Nf Oe (by omega);generalize a[i]=c at*;generalize a[i+1]=d at*;have zc:=ok.sz c (Qc hc);have zd:=ok.sz d (Qc hd);have lc:=ok.len c (Qc hc);have i1:atI (a.map zA) (1+(i:Int))=some (zA d):=by rw [show 1+(i:Int)=((i+1:Nat):Int) by omega];exact yi (by rw [Qh,hd];rfl)
  have i0:atI (a.map zA) (1+(i:Int) - 1)=some (zA c):=by rw [show 1+(i:Int) - 1=((i:Nat):Int) by omega];exact yi (by rw [Qh,hc];rfl)
  left;refine yr (xs:=a.map zA) (x:=zA d) S2 ‹_› i1 λw3 S3=>?_;left;rename_i w4 S4;refine qj S4 ‹_› ‹_› zd.1 ze Rr ?_;left;refine BU (λc1=>?_) (λc1=>?_)
  rotate_left
  ·left;refine ZK (S4.dat (by walk_at "dats")) ⟨_,_,_,_,_,_,_,_,_,_,_,rfl,rfl,rfl,λj x hj LJ=>?_⟩
   by_cases Od:j<i
   ·exact inv j x Od LJ
   ·have:j=i:=by omega
    subst this;rw [hd] at LJ;cases LJ;exact c1
  have key:=fJ (E:=e) inv hc hd (Tf.mp c1);rw [key] at k;left;refine yr (xs:=a.map zA) (x:=zA c) S4 ‹_› i0 λw5 S5=>?_;refine xf (xc S5 ‹_› λw6 w7 S6=>?_);left;refine yr (xs:=a.map zA) (x:=zA d) S6 ‹_› i1 λw8 S7=>?_;refine xf (xc S7 ‹_› λw9 Mt S8=>?_);have q1:=ze.1.mul zc.1.2;have q2:=zc.1.1.mul ze.2;have q3:=zd.1.1.mul zc.1.2;have q4:=zc.1.1.mul zd.1.2;have o1:IntMulOk e.num (c.1.den:Int):=ze.1.mulOk zc.1.2 (by omega);have o2:IntMulOk c.1.num (e.den:Int):=zc.1.1.mulOk ze.2 (by omega);have o3:IntMulOk d.1.num (c.1.den:Int):=zd.1.1.mulOk zc.1.2 (by omega);have o4:IntMulOk c.1.num (d.1.den:Int):=zc.1.1.mulOk zd.1.2 (by omega);have q5:Sz (m+n+1) (e.num*(c.1.den:Int) - c.1.num*(e.den:Int)):=q1.sub (q2.mono (by omega));have q6:Sz (n+n+1) (d.1.num*(c.1.den:Int) - c.1.num*(d.1.den:Int)):=q3.sub q4;have o5:IntMulOk (e.num*(c.1.den:Int) - c.1.num*(e.den:Int)) (d.1.den:Int):=q5.mulOk zd.1.2 (by omega);have o6:IntMulOk (d.1.num*(c.1.den:Int) - c.1.num*(d.1.den:Int)) (e.den:Int):=q6.mulOk ze.2 (by omega);have q7:=q5.mul zd.1.2;have q8:=q6.mul ze.2;have q9:Sz (m+n+1+n+(n+n+1+m)+1) ((d.1.num*(c.1.den:Int) - c.1.num*(d.1.den:Int))*(e.den:Int) - (e.num*(c.1.den:Int) - c.1.num*(e.den:Int))*(d.1.den:Int)):=(q8.mono (by omega)).sub (q7.mono (by omega));left;rename_i pf H9 e9 S9;unfold Yx at k;have lm:=λx y:Rat=>Iw (x:=x) (y:=y) (e:=e) Ku;have Lq:=(lm 0 0).2;generalize (d.1.num*(c.1.den:Int) - c.1.num*(d.1.den:Int))*(e.den:Int)=long at*;generalize (e.num*(c.1.den:Int) - c.1.num*(e.den:Int))*(d.1.den:Int)=up at*;generalize (e - c.1) / (d.1 - c.1)=t at*;refine UB (xs:=c.2.map frD) (ys:=d.2.map frD) S9 ‹_› ‹_› λJ2 Lu=>?_;have KU:Sta H G H9 [(pf,[])] [(zR c.2,w7),(zR d.2,Mt),(zU a,v1),(frD e,v2)]:=S9.dat (by walk_at "dats");refine xF Lu (λi2 σ cs ds=>∃(LD LX Mz:Option V),σ=[some v1,some v2,some (.int (1+(i:Int))),some w6,some w7,some w9,some Mt,some (.int up),some (.int long),some (.ref pf),LD,LX,Mz]/\cs=[(pf,((List.zipWith (xC t) c.2 d.2).take i2).map frD)]/\ds=[(zR c.2,w7),(zR d.2,Mt),(zU a,v1),(frD e,v2)]) KU ⟨_,_,_,rfl,rfl,rfl⟩ (λi2 σ cs ds h=>?_) ?_ ?_
  ·obtain ⟨_,_,_,_,_,rfl⟩:=h;exact ⟨.mem (by right),λ_ _ h=>h.tail, .mem (by right)⟩
  ·rintro i2 x u σ MP cs ds Ly ⟨Np,NI,SH,rfl,rfl,rfl⟩ KO
   obtain ⟨xa,xb,h1,h2,rfl⟩:=Zo Ly;obtain ⟨p,hp,rfl⟩:=zJ h1;obtain ⟨q,hq,rfl⟩:=zJ h2;have zp:=zc.2 p (Qc hp);have zq:=zd.2 q (Qc hq);have MU:(List.zipWith (xC t) c.2 d.2)[i2]? =some (xC t p q):=by rw [Qt,hp,hq]
   have r1:=zp.1.mul zq.2;have r2:=zq.1.mul zp.2;have r3:=zp.2.mul zq.2;have o7:IntMulOk p.num (q.den:Int):=zp.1.mulOk zq.2 (by omega);have o8:IntMulOk (p.num*(q.den:Int)) (long - up):=r1.mulOk q9 (by omega);have o9:IntMulOk q.num (p.den:Int):=zq.1.mulOk zp.2 (by omega);have o10:IntMulOk (q.num*(p.den:Int)) up:=r2.mulOk q7 (by omega);have o11:IntMulOk (p.den:Int) (q.den:Int):=zp.2.mulOk zq.2 (by omega);have o12:IntMulOk ((p.den:Int)*(q.den:Int)) long:=r3.mulOk q8 (by omega);refine xf (xc KO ‹_› λPx w13 KZ=>?_);left;refine WB KZ (Int.mul_pos (Int.mul_pos (den_pos p) (den_pos q)) Lq) ((r3.mul q8).mono (by omega)) λr13 OF Ox KR=>?_;rw [(lm p q).1] at KR;left;refine yK (y:=frD (xC t p q)) KR ‹_› (by rw [Qa,TB,Qy];omega) λPp LW=>?_;left;refine ZK (LW.dat (by walk_at "dats")) ⟨_,_,_,rfl,?_,rfl⟩;rw [TH,MU]
   simp
  ·rintro σ MP cs ds ⟨Np,NI,SH,rfl,rfl,rfl⟩ KO
   rw [yR,Qa,Qa,Ti (by rw [Qy];exact Qv _)] at KO;left;exact xN (by assumption) k ‹_›
 ·rintro σ H2 cs ds ⟨x2,x3,x4,x5,x6,x7,x8,x9,LD,LX,Mz,rfl,rfl,rfl,inv⟩ S2
  rw [xg,Qa] at inv;obtain ⟨l,hl⟩:∃l,a.getLast? =some l:=⟨_,Tc ok.ne⟩
  have key:=ji (E:=e) (λj x hx=>inv j x (by
   have:=(Qd.mp hx).1
   omega) hx) hl
  rw [key] at k;left;refine yr (xs:=a.map zA) (x:=zA l) S2 ‹_› (dh (by rw [jan,hl];rfl)) λw3 S3=>?_;left;exact xN (by assumption) k ‹_›
abbrev ay:Stmt:=top 71
theorem pY:FnScope ["_law_corner","_law_top","_law_bottom","_law_part"] ["_law_corner"] (zk ay):=xt
theorem HW (F:Fun K "_law_sums" "_law_sums" ay f fd):FnOk P w K mg base CX0 1 f fd ["_law_corner"] wY:=by
 refine F.oo pY λH vs Q E hr nd0 h=>?_;obtain ⟨c,hA,⟨⟨n,z,hn⟩,hl,hs⟩,k⟩:=h;obtain ⟨v,rfl,al⟩:=Yu hA;have S:Sta H H H [] [(zA c,v)]:=Sta.enter (zV.refl _) al;walk_at "=ek1dek2deH>g0z3ek1Arb1g3rg3b2fk2rb2g3fi@tmrb1og0drog0db2j";left;rename_i w1 S1;have S2:Sta H H H [] [(zR c.2,w1),(zA c,v)]:=S1.dat (by walk_at "dats");clear S1;refine eJ (xs:=c.2.map frD) S2 ‹_› λJ wk=>?_;refine xF wk (λi σ cs ds=>∃(top bot:Int) (x3:Option V),σ=[some v,some (.int top),some (.int bot),x3]/\cs=[]/\ds=[(zR c.2,w1),(zA c,v)]/\0<bot/\Sz (i*(n+1)+1) bot/\Sz (i*(n+1)+1) top/\(top:Rat)=zM (c.2.take i)*(bot:Rat)) S2 ⟨0,1,none,rfl,rfl,rfl,by decide,by rw [Nat.zero_mul];show (1:Int).natAbs<2 ^ 1;decide,by rw [Nat.zero_mul];show (0:Int).natAbs<2 ^ 1;decide,?_⟩ (λi σ cs ds h=>?_) ?_ ?_
 ·rw [List.take_zero,zM];show ((0:Int):Rat)=0*((1:Int):Rat);rw [jbe];rfl
 ·obtain ⟨_,_,_,_,_,rfl,_⟩:=h;exact .mem (by right)
 ·rintro i x u σ H3 cs ds hx ⟨top,bot,x3,rfl,rfl,rfl,b0,zb,zt,eq⟩ S3
  obtain ⟨q,hq,rfl⟩:=zJ hx;have zq:=z.2 q (Qc hq);have hi:i<c.2.length:=(Qd.mp hq).1;have Mp:i*(n+1)<=1000*9001:=Nat.mul_le_mul (by omega) (by omega);have o1:IntMulOk top (q.den:Int):=zt.mulOk zq.2 (by omega);have o2:IntMulOk q.num bot:=zq.1.mulOk zb (by omega);have o3:IntMulOk bot (q.den:Int):=zb.mulOk zq.2 (by omega);have m1:=zt.mul zq.2;have m2:=zq.1.mul zb;have m3:=zb.mul zq.2;left;refine ZK (S3.dat (by walk_at "dats")) ⟨_,_,_,rfl,rfl,rfl,Int.mul_pos b0 (den_pos q),m3.mono (by rw [Nat.succ_mul];omega),((m1.mono (show _<=i*(n+1)+1+n by omega)).add (m2.mono (by omega))).mono (by rw [Nat.succ_mul];omega),?_⟩;rw [wQ hq];have hd:=Ct q;simp only [Rat.intCast_add,QV];rw [<-hd,eq]
  grind
 ·rintro σ H3 cs ds ⟨top,bot,x3,rfl,rfl,rfl,b0,zb,zt,eq⟩ S3
  rw [Qa,List.take_length,hs] at eq;rw [Qa] at zb zt;have Mp:c.2.length*(n+1)<=1000*9001:=Nat.mul_le_mul (by omega) (by omega);have o1:IntMulOk top (c.1.den:Int):=zt.mulOk z.1.2 (by omega);have o2:IntMulOk c.1.num bot:=z.1.1.mulOk zb (by omega)
  have e:top*(c.1.den:Int)=c.1.num*bot:=by
   apply Rat.intCast_inj.mp
   have hd:=Ct c.1;simp only [QV];rw [<-hd,eq]
   grind
  left;rw [QX e];exact DW S3 k
abbrev XH:Stmt:=top 70
theorem gO:FnScope ["_law_found","_law_parts","_law_corner","_law_k","_law_one","_law_two","_law_low","_law_middle","_law_high"] paL (zk XH):=xt
theorem Bp (B:Bl mg) (B2:Bl2 mg) (bV:Cal P w K mg base CX0 2 "_law_is_fraction" paq rY) (wm:Cal P w K mg base CX0 1 "_law_less" paf rW) (Jn:Cal P w K mg base CX0 1 "_law_sums" ["_law_corner"] wY) (Gd:Cal P w K mg base CX0 3 "_law_at" pao cU) (F:Fun K "_law_is_path" "_law_is_path" XH f fd):FnOk P w K mg base CX0 4 f fd paL jW:=by
 refine F.oo gO λH vs Q E hr nd0 h=>?_;obtain ⟨⟨N,T⟩,hA,⟨n,ok,hn,hN⟩,k⟩:=h;obtain ⟨v,v2,rfl,al⟩:=xo hA;dsimp only at ok hN al;have S:Sta H H H [] [(zU T,v),(.int (N:Nat),v2)]:=Sta.enter (zV.refl _) al;cases (S.hp (x:= .int (N:Nat)) (v:=v2) ‹_›).int_of;have S0:Sta H H H [] [(zU T,v)]:=S.dat (by walk_at "dats");clear S;have hv:=S0.hp (x:=zU T) (v:=v) ‹_›;have few:=ok.pr.few;have la:0<T.length:=jaz.mpr ok.pr.ne;walk_at "=elLOJE8ab0aвlist;cWptmBab0cdjfiCneHvb0z2elLOJE8ab2a^tuple;cOpPmBab2cdjWJEhag2cfiCnelLOJE8ag2a^tuple;cWpPmBag2cb1jfiCnflJEгдay_law_part;1;>g2q0uhab0ccfiCnelpPmg0sasadadcaZay_law_k;1;~ab1cq0usadadcccjfiCneHγadaBab0ccz3elJEhaoob0Nb3ddaoob0b3dcfiCneH/aoob0Nb3ddaoob0b3dcKwz4wz5IflEhab5ab4cfiCnelJEhaob0b3cfiCnflUb3dje=Xb0QNb3dQAb3dеwz6wz7wz8IflptmhaDab6ab8cag7cg7jfiCnnfiC";left;refine Yw (λc=>absurd c (by rw [Qa];omega)) (λ_=>?_);left;refine zN (xs:=T.map zA) S0 ‹_› λJ wk=>?_;refine xF wk (λi σ cs ds=>∃(x2:Option V),σ=[some v,some (.int (N:Nat)),x2,none,none,none,none,none,none]/\cs=[]/\ds=[(zU T,v)]) S0 ⟨none,rfl,rfl,rfl⟩ (λi σ cs ds h=>?_) ?_ ?_
 ·obtain ⟨_,_,_,rfl⟩:=h;exact .mem (by right)
 ·rintro i x u σ H2 cs ds hx ⟨x2,rfl,rfl,rfl⟩ S2
  obtain ⟨c,hc,rfl⟩:=zJ hx;have lc:=ok.len c (Qc hc);have hcu:=S2.hp (x:=zA c) (v:=u) ‹_›;left;refine vE rfl ?_;left;rename_i w3 S3;refine qk S3 ‹_› λH4 S4=>?_;left;rename_i w5 S5;have hw5:=S5.hp (x:=zR c.2) (v:=w5) ‹_›;left;rename_i w6 S6;refine vE (by rw [Qa,lc]) ?_;left;rename_i w7 S7;refine eJ (xs:=c.2.map frD) S7 ‹_› λJ2 Lu=>?_;refine yh Lu (λj=> .bool true) (ys:=(List.replicate c.2.length true).map PyData.bool) (by rw [Qa,jaO];exact nP _ _) S7 (λj x v=>λhx t1 S hd=>?_) λD8 H8 e8 S8=>?_
  ·obtain ⟨q,hq,rfl⟩:=zJ hx;refine zE ⟨rfl,?_⟩;left;refine qk S ‹_› λH9 S9=>?_;exact hd S9 Has.bl
  left;refine HJ (bs:=List.replicate c.2.length true) S8 (by right) ?_;rw [show (List.replicate c.2.length true).all id=true by simp];left;exact ZK (S8.weak (cs':=[]) (by walk_at "sub") (by walk_at "dats")) ⟨_,rfl,rfl,rfl⟩
 ·rintro σ H2 cs ds ⟨x2,rfl,rfl,rfl⟩ S2
  left;refine yr (xs:=T.map zA) (x:=zA (0,List.replicate N 0)) S2 ‹_› (yi (j:=0) (by rw [Qh,ok.head];rfl)) λw3 S3=>?_;left;rename_i p4 H4 e4 S4;refine sq H H (by omega) (by omega) λJ2 Lu=>?_;refine yt Lu (λj=>frD 0) (ys:=(List.replicate N (0:Rat)).map frD) (by rw [xg,jaO,Tg];exact nP _ _) S4 (λ_ _=>trivial) (by rw [xg];omega) (λj x v B' G' Kd Kn hx t1 S hd C ex s0 H0=>?_) λD5 H5 e5 S5=>?_
  ·obtain ⟨_,rfl⟩:=Yp hx;refine zE ⟨rfl,?_⟩;left;exact hd (by assumption) ‹_›
  left;rename_i p6 H6 e6 S6 p7 H7 e7 S7;refine iU (x:=zA (0,List.replicate N 0)) (y:=zA (0,List.replicate N 0)) (S7.hp ‹_›) (S7.hp ‹_›) (Yz _) (Yz _) ?_;rw [Co,QX rfl];left;have S8:Sta H H H7 [] [(zU T,v)]:=S7.weak (by walk_at "sub") (by walk_at "dats");clear S7 S6 S5 S4 S3 S2;refine Gw H H ⟨by omega,by omega⟩ ⟨by rw [Qa];omega,by rw [Qa];omega⟩ λJ3 LI=>?_;refine xF LI (λi σ cs ds=>∃(x3 x4 x5 x6 x7 x8:Option V),σ=[some v,some (.int (N:Nat)),x2,x3,x4,x5,x6,x7,x8]/\cs=[]/\ds=[(zU T,v)]) S8 ⟨_,_,_,_,_,_,rfl,rfl,rfl⟩ (λ_ _ _ _ _=>trivial) ?_ ?_
  ·rintro i x u σ H9 cs ds hx ⟨x3,x4,x5,x6,x7,x8,rfl,rfl,rfl⟩ S9
   obtain ⟨hi,rfl⟩:=Yp hx;cases S9.int1;rw [Qa] at hi;have Oe:i+1<T.length:=by omega
   have Nf:i<T.length:=by omega
   have hd:=Qb Oe;have hc:=Qb Nf;have Lg:=ok.pr.rise;unfold yl at Lg;rw [QJ] at Lg;have Ku:=Lg i (i+1) Nf Oe (by omega);generalize T[i]=c at*;generalize T[i+1]=d at*;have zc:=ok.pr.sz c (Qc hc);have zd:=ok.pr.sz d (Qc hd);have i1:atI (T.map zA) (1+(i:Int))=some (zA d):=by rw [show 1+(i:Int)=((i+1:Nat):Int) by omega];exact yi (by rw [Qh,hd];rfl)
   have i0:atI (T.map zA) (1+(i:Int) - 1)=some (zA c):=by rw [show 1+(i:Int) - 1=((i:Nat):Int) by omega];exact yi (by rw [Qh,hc];rfl)
   left;refine yr (xs:=T.map zA) (x:=zA c) S9 ‹_› i0 λMt KU=>?_;left;rename_i Py KO;refine yr (xs:=T.map zA) (x:=zA d) KO ‹_› i1 λPx KZ=>?_;left;rename_i w13 KR;refine qj KR ‹_› ‹_› zc.1 zd.1 (by omega) ?_;rw [QX Ku];left;refine yr (xs:=T.map zA) (x:=zA c) KR ‹_› i0 λw14 LW=>?_;left;rename_i SM Mm;refine yr (xs:=T.map zA) (x:=zA d) Mm ‹_› i1 λw16 Nn=>?_;left;rename_i SK MO;have MN:Sta H H H9 [] [(zR c.2,SM),(zR d.2,SK),(zU T,v)]:=MO.dat (by walk_at "dats");clear MO Nn Mm LW KR KZ KO KU S9;refine UB (xs:=c.2.map frD) (ys:=d.2.map frD) MN ‹_› ‹_› λJ4 wk4=>?_;refine xF wk4 (λi2 σ cs ds=>∃(y4 y5:Option V),σ=[some v,some (.int (N:Nat)),x2,some (.int (1+(i:Int))),y4,y5,x6,x7,x8]/\cs=[]/\ds=[(zR c.2,SM),(zR d.2,SK),(zU T,v)]) MN ⟨_,_,rfl,rfl,rfl⟩ (λi2 σ cs ds h=>?_) ?_ ?_
   ·obtain ⟨_,_,_,_,rfl⟩:=h;exact ⟨.mem (by right),λ_ _ h=>h.tail, .mem (by right)⟩
   ·rintro i2 x u2 σ SF cs ds Ly ⟨y4,y5,rfl,rfl,rfl⟩ MM
    obtain ⟨xa,xb,h1,h2,rfl⟩:=Zo Ly;obtain ⟨p,hp,rfl⟩:=zJ h1;obtain ⟨q,hq,rfl⟩:=zJ h2;refine xf (xc MM ‹_› λw20 w21 ML=>?_);left;refine qj ML ‹_› ‹_› (zd.2 q (Qc hq)) (zc.2 p (Qc hp)) (by omega) ?_;rw [Th (Tf.mpr (ok.le i c d hc hd i2 p q hp hq))];left;exact ZK (ML.dat (by walk_at "dats")) ⟨_,_,rfl,rfl,rfl⟩
   ·rintro σ SF cs ds ⟨y4,y5,rfl,rfl,rfl⟩ MM
    left;refine yr (xs:=T.map zA) (x:=zA d) MM ‹_› i1 λw20 ML=>?_;left;refine Hv ML ‹_› zd (by omega) (ok.pr.len d (Qc hd)) (ok.sums d (Qc hd)) λOD OB=>?_;left;refine Yw (λc1=>?_) (λc1=>?_)
    ·obtain ⟨j,rfl⟩:∃j,i=j+1:=⟨i - 1,by omega⟩;have hb:=Qb (l:=T) (i:=j) (by omega);have Li:=Lg j (j+1) (by omega) Nf (by omega);rw [(List.getElem_eq_iff Nf).mpr hc] at Li;generalize T[j]=b at*;have zb:=ok.pr.sz b (Qc hb);have lb:=ok.len b (Qc hb);have lc:=ok.len c (Qc hc);have ld:=ok.len d (Qc hd);have hbd:=yU Li Ku;have e1:(1:Int)+((j+1:Nat):Int) - 2=((j:Nat):Int):=by omega
     have e2:(1:Int)+((j+1:Nat):Int)+1=((j+3:Nat):Int):=by omega
     have cut:=cut3 (xs:=T.map zA) (j:=j) (x:=zA b) (y:=zA c) (z:=zA d) (by rw [Qh,hb];rfl) (by rw [Qh,hc];rfl) (by rw [Qh,hd];rfl);have NA:Wd [b,d] c.1=Yx b d c.1:=fJ (i:=0) (λj x hj=>absurd hj (Nat.not_lt_zero _)) rfl rfl (QC Ku)
     have pr:PathR0 n [b,d]:=⟨by simp,λe he=>by
      rcases Qm.mp he with rfl|he
      ·exact zb
      ·rw [Qq.mp he];exact zd,λe he=>by
      rcases Qm.mp he with rfl|he
      ·omega
      ·rw [Qq.mp he];omega,by simp,Ql.mpr ⟨λe he=>by rw [Qq.mp he];exact hbd,jab _ _⟩⟩
     have KN:=nM (ok.str j b c d hb hc hd) hbd (by rw [lb,ld]) (by rw [lb,lc]);left;refine iS (xs:=T.map zA) OB ‹_› λl22 H22 e22 NH=>?_;rw [e1,e2,cut] at NH;refine HH (HE NH (by right) λw23 SJ w25 SA=>?_);left;rename_i p24 OC Sm Sy w26 Po;have Pn:Sta H H OC [] [(zU [b,d], .ref p24),(frD c.1,w26),(zA c,SJ),(zU T,v)]:=Po.freeze.weak (by walk_at "sub") (by walk_at "dats");clear Po Sy SA NH;refine ny (a:=[b,d]) (e:=c.1) (m:=n) (n:=n) Pn ‹_› ‹_› pr zc.1 (by omega) λr27 H27 e27 OA=>?_;rw [NA] at OA;left;rename_i w28 Nm;refine nB (x:=zR (Yx b d c.1)) (y:=zR c.2) (Nm.hp ‹_›) (Nm.hp ‹_›) (ZW _) (ZW _) ?_;rw [jr,Th KN];left;exact ZK (Nm.dat (by walk_at "dats")) ⟨_,_,_,_,_,_,rfl,rfl,rfl⟩
    ·left;exact ZK (OB.dat (by walk_at "dats")) ⟨_,_,_,_,_,_,rfl,rfl,rfl⟩
  ·rintro σ H9 cs ds ⟨x3,x4,x5,x6,x7,x8,rfl,rfl,rfl⟩ S9
   left;exact DW S9 k
abbrev XG:Stmt:=top 74
theorem gN:FnScope ["_law_cell","_law_number"] paH (zk XG):=xt
theorem Es (F:Fun K "_law_portion" "_law_portion" XG f fd):FnOk P w K mg base CX0 1 f fd paH pR:=by
 refine F.oo gN λH vs Q E hr nd0 h=>?_;obtain ⟨G,c,rfl,eG,k⟩:=h;have S:Sta H G H [] []:=Sta.enter eG λp hp=>absurd hp Qn;walk_at "=ek1Fb09ddelptmFb1ddjfisadaAdFVb1ddcnelptmFb1ddjfisaAdFVb1ddadcnfisaAdFVb1ddaAdFVb1ddc";left;generalize c % 10 ^ Int.toNat 9=m at*;have hm:0<=m / 3 % 60/\m / 3 % 60<60:=by omega
 have sm:∀t b:Int,0<t->t<b->b<=61->Int.gcd t b=1->Small t b:=λt b h1 h2 h3 h4=>⟨⟨⟨by unfold Sz;omega,by unfold Sz;omega⟩,h1,h2,h4⟩,h3⟩;refine Yw (λ_=>?_) (λ_=>?_)
 ·left;exact Ay (by assumption) k ‹_› (sm _ _ (by decide) (by omega) (by omega) (by rw [Int.gcd_one_left]))
 left;refine Yw (λ_=>?_) (λ_=>?_)
 ·left;refine Ay (by assumption) k ‹_› (sm _ _ (by omega) (by omega) (by omega) ?_);obtain ⟨i,hi,e⟩:∃i:Nat,i<60/\m / 3 % 60=(i:Int):=⟨(m / 3 % 60).toNat,by omega,by omega⟩;rw [e];clear e hm
  revert hi
  revert i
  decide+kernel
 left;refine Ay (by assumption) k ‹_› (sm _ _ (by omega) (by omega) (by omega) ?_);obtain ⟨i,hi,e⟩:∃i:Nat,i<60/\m / 3 % 60=(i:Int):=⟨(m / 3 % 60).toNat,by omega,by omega⟩;rw [e];clear e hm
 revert hi
 revert i
 decide+kernel
abbrev aC:Stmt:=top 75
theorem qb:FnScope paH paH (zk aC):=xt
theorem Ex (F:Fun K "_law_leaf" "_law_leaf" aC f fd):FnOk P w K mg base CX0 1 f fd paH pS:=by
 refine F.oo qb λH vs Q E hr nd0 h=>?_;obtain ⟨G,c,rfl,eG,k⟩:=h;have S:Sta H G H [] []:=Sta.enter eG λp hp=>absurd hp Qn;walk_at "=fioDasaxcasaxcasaxcasaxccFb0d";left;rename_i q1 G1 i1 T1 q2 G2 i2 T2 q3 G3 i3 T3 q4 G4 i4 T4 q5 G5 i5 T5
 obtain ⟨n,hn⟩:∃n,atI [PyData.tuple [.str "shares"], .tuple [.str "evenly"], .tuple [.str "losses"], .tuple [.str "halves"]] (c % 4)=some (iq n).shape:=by
  rcases (by omega:c % 4=0\/c % 4=1\/c % 4=2\/c % 4=3) with h|h|h|h<;>rw [h]
  ·exact ⟨0,rfl⟩
  ·exact ⟨1,rfl⟩
  ·exact ⟨2,rfl⟩
  ·exact ⟨3,rfl⟩
 refine Xk (x:=(iq n).shape) T5 (by right) hn λw6 T6=>?_;exact Az (n:=n) T6 k ‹_›
abbrev VS:Stmt:=top 76
theorem mP:FnScope ["_law_cells","_law_groups","_law_pile","_law_cell","_law_more","_law_kind"] paK (zk VS):=xt
theorem Bd (B:Bl mg) (Ga:Cal P w K mg base CX0 1 "_law_portion" paH pR) (Jo:Cal P w K mg base CX0 1 "_law_leaf" paH pS) (F:Fun K "_law_shape" "_law_shape" VS f fd):FnOk P w K mg base CX0 2 f fd paK jO:=by
 refine F.oo mP λH vs Q E hr nd0 h=>?_;obtain ⟨G,ns,g,v,rfl,eG,hv,hl6,k⟩:=h;have S:Sta H G H [] [(xI ns,v)]:=Sta.enter eG λp hp=>by rw [Qq.mp hp];exact hv
 have two:∀rs:List Rl,1<rs.length->∃ls ra rb,rs=ls++[ra,rb]:=λrs h=>by
  refine ⟨rs.dropLast.dropLast,rs.dropLast.getLast (λz=>?_),rs.getLast (λz=>?_),?_⟩
  ·have:=congrArg List.length z;rw [List.length_dropLast,List.length_nil] at this;omega
  ·rw [z,List.length_nil] at h;omega
  ·rw [show ∀a b:Rl,[a,b]=[a]++[b] from λ_ _=>rfl,<-jae,jak,jak]
 have one:∀rs:List Rl,0<rs.length->∃ls ra,rs=ls++[ra]:=λrs h=>by
  refine ⟨rs.dropLast,rs.getLast (λz=>?_),?_⟩
  ·rw [z,List.length_nil] at h;omega
  ·rw [jak]
 have Sn:∀(ls:List Rl) (r:Rl),atI ((ls++[r]).map Rl.shape) (-1)=some r.shape:=λls r=>by
  rw [QP];exact tL _ _
 have at2:∀(ls:List Rl) (r q:Rl),atI ((ls++[r,q]).map Rl.shape) (-2)=some r.shape/\atI ((ls++[r,q]).map Rl.shape) (-1)=some q.shape:=λls r q=>⟨by rw [QP];exact FT,by rw [show ls++[r,q]=ls++[r]++[q] by simp];exact Sn _ _⟩;walk_at "=ek2DceHvb0z3ek4FVb3d9ddek5Fb3dflL2ptmb5dj6UBab2cdjfk2$Xb23QMdDasaxaob2MdccflL2ptmb5dj6UBab2cdjfk2$Xb23QMdDasaxaob2MdccflL2ptmb5dj2UBab2cdj6Eb1fk2$Xb23QMdDasaxaob2Mdaob2MdccflL2Ub5dj6UBab2cdjfk2$Xb23QMdDasaxahab4caob2Mdaob2MdccfGYb2ahab4ccelptmBab2cdjfisaxcne*UBab2cdjfk2$Xb23QMdDasaxasadaAdBab2ccaob2Mdaob2Mdccfig2";left;rename_i p1 H1 e1 S1;refine zN (xs:=ns.map PyData.int) S1 ‹_› λJ wk=>?_;refine xF wk (λi σ cs ds=>∃(rs:List Rl) (p:Addr) (x3 x4 x5:Option V),σ=[some v,some (.bl g),some (.ref p),x3,x4,x5]/\cs=[(p,rs.map Rl.shape)]/\ds=[(xI ns,v)]/\(∀r∈rs,PS6 r)/\ndS rs<=i) S1 ⟨[],p1,none,none,none,rfl,rfl,rfl,λr hr=>absurd hr Qn,Qv _⟩ (λi σ cs ds h=>?_) ?_ ?_
 ·obtain ⟨_,_,_,_,_,_,_,rfl,_⟩:=h;exact .mem (by right)
 ·rintro i x u σ H2 cs ds hx ⟨rs,p,x3,x4,x5,rfl,rfl,rfl,Lk,Oa⟩ S2
  obtain ⟨c,hc,rfl⟩:=zJ hx;have hi:=(Qd.mp hc).1;cases S2.int1;have S2:=S2.drop1;have ll:=WJ rs
  have fin:∀(q:Addr) (ls:List Rl) (r:Rl) (y3 y4 y5:Option V) (H5:Hp),(∀r∈ls,PS6 r)->PS6 r->ndS ls+nd r<=i+1->Sta H G H5 [(q,ls.map Rl.shape++[r.shape])] [(xI ns,v)]->
   AtP H G (λσ cs ds=>∃(rs:List Rl) (p:Addr) (x3 x4 x5:Option V),σ=[some v,some (.bl g),some (.ref p),x3,x4,x5]/\cs=[(p,rs.map Rl.shape)]/\ds=[(xI ns,v)]/\(∀r∈rs,PS6 r)/\ndS rs<=i+1) [some v,some (.bl g),some (.ref q),y3,y4,y5] H5:=by
   intro q ls r y3 y4 y5 H5 h1 h2 h3 S5;refine ZK S5 ⟨ls++[r],q,y3,y4,y5,rfl,by rw [QP];rfl,rfl,λz hz=>?_,by rw [ZZ];exact h3⟩
   rcases QS.mp hz with z'|z'
   ·exact h1 z z'
   ·rw [Qq.mp z'];exact h2
  left;refine' if2 ?gh1 ?gk1 ?gn1
  case gh1=>
   intro z;left;exact z
  case gk1=>
   intro c1 c2;have c2:=QB c2;rw [Qa] at c2;left;obtain ⟨ls,ra,rfl⟩:=one rs (by omega);have oa:=Lk ra (by simp);have nn:=ZZ ls ra;refine nq S2 (by right) λq3 H3 e3 S3=>?_;rw [show lJ ((ls++[ra]).map Rl.shape) none (some (-1))=ls.map Rl.shape by rw [QP];exact tG _ _] at S3;left;refine Xk (x:=ra.shape) S3 (by right) (Sn ls ra) λw4 S4=>?_;left;rename_i q5 H5 e5 S5 q6 H6 e6 S6;refine .inl (Ze (xs:=ls.map Rl.shape) (zs:=[(Rl.other ra).shape]) S6 (S6.vwC (by right)) (S6.vwC (by right)) (by have:=WJ ls;rw [Qa];show _+1<=1000;omega) λq7 H7 e7 S7=>?_);left;exact fin q7 ls (Rl.other ra) _ _ _ H7 (λr hr=>Lk r (by simp [hr])) oa (by simp only [nd];omega) (S7.weak (by walk_at "sub") (by walk_at "dats"))
  intro _;left;refine' if2 ?gh2 ?gk2 ?gn2
  case gh2=>
   intro z;left;exact z
  case gk2=>
   intro c1 c2;have c2:=QB c2;rw [Qa] at c2;left;obtain ⟨ls,ra,rfl⟩:=one rs (by omega);have oa:=Lk ra (by simp);have nn:=ZZ ls ra;refine nq S2 (by right) λq3 H3 e3 S3=>?_;rw [show lJ ((ls++[ra]).map Rl.shape) none (some (-1))=ls.map Rl.shape by rw [QP];exact tG _ _] at S3;left;refine Xk (x:=ra.shape) S3 (by right) (Sn ls ra) λw4 S4=>?_;left;rename_i q5 H5 e5 S5 q6 H6 e6 S6;refine .inl (Ze (xs:=ls.map Rl.shape) (zs:=[(Rl.ranks ra).shape]) S6 (S6.vwC (by right)) (S6.vwC (by right)) (by have:=WJ ls;rw [Qa];show _+1<=1000;omega) λq7 H7 e7 S7=>?_);left;exact fin q7 ls (Rl.ranks ra) _ _ _ H7 (λr hr=>Lk r (by simp [hr])) oa (by simp only [nd];omega) (S7.weak (by walk_at "sub") (by walk_at "dats"))
  intro _;left;refine' if3 ?gh3 ?gi3 ?gk3 ?gn3
  case gh3=>
   intro z;left;exact z
  case gi3=>
   intro z;left;exact z
  case gk3=>
   intro c1 c2 _;have c2:=QB c2;rw [Qa] at c2;left;obtain ⟨ls,ra,rb,rfl⟩:=two rs (by omega);have oa:=Lk ra (by simp);have ob:=Lk rb (by simp);have nn:ndS (ls++[ra,rb])=ndS ls+nd ra+nd rb:=by rw [show ls++[ra,rb]=ls++[ra]++[rb] by simp,ZZ,ZZ]
   refine nq S2 (by right) λq3 H3 e3 S3=>?_;rw [show lJ ((ls++[ra,rb]).map Rl.shape) none (some (-2))=ls.map Rl.shape by rw [QP];exact lH _ _ _] at S3;left;refine Xk (x:=ra.shape) S3 (by right) (at2 ls ra rb).1 λw4 S4=>?_;left;refine Xk (x:=rb.shape) S4 (by right) (at2 ls ra rb).2 λw5 S5=>?_;left;rename_i q6 H6 e6 S6 q7 H7 e7 S7;refine .inl (Ze (xs:=ls.map Rl.shape) (zs:=[(Rl.groups ra rb).shape]) S7 (S7.vwC (by right)) (S7.vwC (by right)) (by have:=WJ ls;rw [Qa];show _+1<=1000;omega) λq8 H8 e8 S8=>?_);left;exact fin q8 ls (Rl.groups ra rb) _ _ _ H8 (λr hr=>Lk r (by simp [hr])) ⟨oa,ob⟩ (by simp only [nd];omega) (S8.weak (by walk_at "sub") (by walk_at "dats"))
  intro _;left;refine' if2 ?gh4 ?gk4 ?gn4
  case gh4=>
   intro z;left;exact z
  case gk4=>
   intro c1 c2;have c2:=QB c2;rw [Qa] at c2;left;obtain ⟨ls,ra,rb,rfl⟩:=two rs (by omega);have oa:=Lk ra (by simp);have ob:=Lk rb (by simp);have nn:ndS (ls++[ra,rb])=ndS ls+nd ra+nd rb:=by rw [show ls++[ra,rb]=ls++[ra]++[rb] by simp,ZZ,ZZ]
   refine nq S2 (by right) λq3 H3 e3 S3=>?_;rw [show lJ ((ls++[ra,rb]).map Rl.shape) none (some (-2))=ls.map Rl.shape by rw [QP];exact lH _ _ _] at S3;left;refine DZ S3 λwp Hp t b sm ep Sp=>?_;left;refine Xk (x:=ra.shape) Sp (by right) (at2 ls ra rb).1 λw4 S4=>?_;left;refine Xk (x:=rb.shape) S4 (by right) (at2 ls ra rb).2 λw5 S5=>?_;left;rename_i q6 H6 e6 S6 q7 H7 e7 S7;refine .inl (Ze (xs:=ls.map Rl.shape) (zs:=[(Rl.upto t b ra rb).shape]) S7 (S7.vwC (by right)) (S7.vwC (by right)) (by have:=WJ ls;rw [Qa];show _+1<=1000;omega) λq8 H8 e8 S8=>?_);left;exact fin q8 ls (Rl.upto t b ra rb) _ _ _ H8 (λr hr=>Lk r (by simp [hr])) ⟨sm.ps,oa,ob⟩ (by simp only [nd];omega) (S8.weak (by walk_at "sub") (by walk_at "dats"))
  intro _;left;refine Ea S2 λw3 H3 n e3 S3=>?_;left;refine yK (y:=(iq n).shape) S3 ‹_› (by rw [Qa];omega) λH4 S4=>?_;left;exact fin p rs (iq n) _ _ _ H4 Lk (Ci n).1 (by rw [(Ci n).2];omega) (S4.dat (by walk_at "dats"))
 ·rintro σ H2 cs ds ⟨rs,p,x3,x4,x5,rfl,rfl,rfl,Lk,Oa⟩ S2
  rw [Qa] at Oa;have ll:=WJ rs;left;rw [Qa];refine Yw (λc1=>?_) (λc1=>?_)
  ·left;exact iQ (r:= .halves) (by assumption) k ‹_› ⟨0,1,λt=>JOk.of (r:= .halves) trivial (by decide),by decide,by decide⟩
  obtain ⟨ls,y,rfl⟩:=one rs (by omega);have nn:=ZZ ls y;left;refine my (λm σ cs ds=>∃(ls:List Rl) (y:Rl) (p:Addr) (j N:Nat),σ=[some v,some (.bl g),some (.ref p),x3,x4,x5]/\cs=[(p,(ls++[y]).map Rl.shape)]/\ds=[(xI ns,v)]/\(∀r∈ls,PS6 r)/\(∀t,JOk t j N y)/\j+ls.length<=5/\N+ndS ls<=6/\m=ls.length) _ S2 ⟨ls,y,p,0,nd y,rfl,rfl,rfl,λr hr=>Lk r (by simp [hr]),λt=>JOk.of (Lk y (by simp)) (by omega),by rw [Qz,TJ] at ll;omega,by omega,rfl⟩ ?_;clear Lk Oa S2 ll nn c1
  rintro m σ H3 cs ds ⟨ls,y,p,j,N,rfl,rfl,rfl,Lk,hy,hj,hN,rfl⟩ S3
  left;rw [Qa,Qz,TJ];refine uD (λc=>?_) (λc=>?_)
  ·have c:0<ls.length:=by
    have:=QB c;omega
   obtain ⟨ls,ra,rfl⟩:=one ls c;have oa:=Lk ra (by simp);have nn:=ZZ ls ra;have pa:=fi ra;have ll:=WJ ls;rw [Qz,TJ] at hj;rw [show ls++[ra]++[y]=ls++[ra,y] by simp] at S3;have hb:(((ls++[ra,y]).map Rl.shape).length:Int)=ls.length+2:=by rw [Qa,Qz];rfl
   left;refine nq S3 (by right) λq4 H4 e4 S4=>?_;rw [show lJ ((ls++[ra,y]).map Rl.shape) none (some (-2))=ls.map Rl.shape by rw [QP];exact lH _ _ _] at S4;left;rename_i q5 H5 e5 S5;rw [hb] at S5;refine Xk (x:=ra.shape) S5 (by right) (at2 ls ra y).1 λw6 S6=>?_;left;refine Xk (x:=y.shape) S6 (by right) (at2 ls ra y).2 λw7 S7=>?_;left;rename_i q8 H8 e8 S8 q9 H9 e9 S9;refine .inl (Ze (xs:=ls.map Rl.shape) (zs:=[(Rl.upto 1 (1+((ls.length:Int)+2)) ra y).shape]) S9 (S9.vwC (by right)) (S9.vwC (by right)) (by rw [Qa];show _+1<=1000;omega) λqa Ha ea Sa=>?_);left;have po:Vy 1 (1+((ls.length:Int)+2)):=⟨⟨by unfold Sz;omega,by unfold Sz;omega⟩,by omega,by omega,Int.gcd_one_left _⟩;refine ⟨ls.length,by simp,_,_,Sa.weak (cs':=[(qa,ls.map Rl.shape++[(Rl.upto 1 (1+((ls.length:Int)+2)) ra y).shape])]) (ds':=[(xI ns,v)]) (by walk_at "sub") (by walk_at "dats"),ls,_,qa,j+1,nd ra+N,rfl,by rw [QP];rfl,rfl,λr hr=>Lk r (by simp [hr]),λt=>JOk.join po (GD (by omega) (by omega)) (JOk.of oa (by omega)) (hy t),by omega,by omega,rfl⟩
  ·have c:ls=[]:=by
    have:=of_decide_eq_false c;exact List.length_eq_zero_iff.mp (by omega)
   subst c;left;refine Xk (x:=y.shape) S3 (by right) rfl λw4 S4=>?_;exact iQ (r:=y) S4 k ‹_› ⟨j,N,hy,by omega,by omega⟩
abbrev eB:Stmt:=top 85
theorem uz:FnScope paT paT (zk eB):=xt
theorem Ie (B:Bl mg) (F:Fun K "_law_end" "_law_end" eB f fd):FnOk P w K mg base CX0 1 f fd paT Aa:=by
 refine F.oo uz λH vs Q E hr nd0 h=>?_;obtain ⟨G,l,eG,hA,ok,k⟩:=h;obtain ⟨v,rfl,al⟩:=Yu hA;have S:Sta H G H [] _:=Sta.enter eG al;walk_at "=fisasaSTay_law_claim;1;vb0q0ug0cadcaZay_law_claim;1;vb0q0usag0adccc";left;refine zN (xs:=l.map zC) S ‹_› λJ9 NJ=>?_;refine yh NJ (λj=> .int (l.getD j (0,0,0)).1) (ys:=(amV l).map PyData.int) (by unfold amV;rw [Qa,Qr];exact zo (λc:Cl=>PyData.int c.1) (0,0,0) l) S (λj x v=>λhx t1 S hd=>?_) λPr Mn Oy KU=>?_
 ·obtain ⟨c,hc,rfl⟩:=zJ hx;refine zE ⟨rfl,?_⟩;left;refine hd (by assumption) ?_;rw [zF hc];exact Has.int
 left;rename_i p11 MP Nl KO;refine zN (xs:=l.map zC) KO ‹_› λJ12 wk12=>?_;refine yh wk12 (λj=>frD (((l.getD j (0,0,0)).1:Int):Rat)) (ys:=(zP (amV l)).2.map frD) (by unfold zP amV;rw [Qa,Qr,Qr];exact zo (λc:Cl=>frD ((c.1:Int):Rat)) (0,0,0) l) KO (λj x v=>λhx t1 S hd=>?_) λPq OF Ox KR=>?_
 ·obtain ⟨c,hc,rfl⟩:=zJ hx;refine zE ⟨rfl,?_⟩;left;refine hd (by assumption) ?_;rw [zF hc];exact .mem (by right)
 left;exact xN (by assumption) k ‹_›
local macro_rules|`(tactic|walk_at "rd")=>`(tactic|first|fail "&157"|fail)
section
variable {A:RAd}
abbrev kB:Stmt:=top 86
theorem sc_law:FnScope ["_law_script","_law_first","_law_many","_law_claims_here","_law_shape_here","_law_rule_here","_law_handed","_law_found","_law_corner","_law_whole_here","_law_cell","_law_held","_law_purse_here","_law_parts"] ["_law_script"] (zk kB):=xt
theorem ok_law {fS fT fP fQ ZM:Addr} {fdP fdQ:FuncData} (B:Bl mg) (Kw:∀r:Rl,ROk K fS fT ZM (A.cls r)) (LY:∀r:Rl,Meth K (A.cls r) "path" fP/\Meth K (A.cls r) "parts" fQ) (Zn:mg "Rule"=some (.ref ZM)) (Ug:FnOk P w K mg base CX0 23 fP fdP paz (jT A 23 7)) (XW:xi K fdP paz []) (cx:FnOk P w K mg base CX0 24 fQ fdQ pau (jU A 23 7)) (cp:xi K fdQ pau [])
 (mh:Cal P w K mg base CX0 1 "_law_cell_at" pay (rZ K)) (Hc:Cal P w K mg base CX0 2 "_law_claims" pai (dN K)) (Jf:Cal P w K mg base CX0 2 "_law_shape" paK jO) (wj:Cal P w K mg base CX0 11 "_law_rule" paB (jQ A 7)) (Gb:Cal P w K mg base CX0 4 "_law_is_path" paL jW) (JQ:Cal P w K mg base CX0 1 "_law_end" paT Aa) (Gd:Cal P w K mg base CX0 3 "_law_at" pao cU) (Jh:Cal P w K mg base CX0 3 "_law_purse" paF pQ) (Jg:Cal P w K mg base CX0 27 "_law_right" pag (jR 23)) (F:Fun K "law" "law" kB f fd):FnOk P w K mg base CX0 28 f fd ["_law_script"] (DL K):=by
 refine F.oo sc_law λH vs Q E hr nd0 h=>?_;obtain ⟨a,ns,rfl,hS,hlen,_,q⟩:=h;have S:Sta H H H [] []:=Sta.enter (zV.refl _) λp hp=>absurd hp Qn;walk_at "=ek1hab0adcek2AdFb1dek3hab0adab2aoDada9ddcFVb1ddcek4haXb0QdQdaCcek5hab4celJEжab5aзcfiCnek6_ab3cek7!b5?ab6celLOJEhab7ab2cOpPmob7Mdhab3cjWpPmb6b3jfiCneHvb7z8flJEhab4ab3ag8ag8cfiCnek9STay_law_claim;1;vb3q0ug0ceHvADadcXb0QAdb2QAdb2zaekchab9abacekdhab7abccflLOJEhab4ab3abcabdcWpPmиb5йab6abccbdjfiCnekb_ab7ceGкb7elLOpPm!b5?ab6cbbjWpPmb6b3jfiCneGYb6asadadadccfi@tm!b5?ab6c!hab4c?a_ab6ccj";left;generalize fZ ns 0=c at*;rename_i p1 H1 e1 S1
 obtain ⟨size,NA,NX,LS⟩:∃n:Int,atI [PyData.int 10, .int (10 ^ Int.toNat 6)] (c / 6 % 2)=some (.int n)/\10<=n/\n<=10 ^ 6:=by
  rcases (by omega:c / 6 % 2=0\/c / 6 % 2=1) with h|h<;>rw [h]
  ·exact ⟨10,rfl,by decide,by decide⟩
  ·exact ⟨10 ^ Int.toNat 6,rfl,by decide,by decide⟩
 refine HG S1 (by right) NA ?_;have S2:Sta H H H1 [] []:=S1.dropC;clear S1;have hS1:SqL K H1 a (ns.map V.int):=S2.base.seq hS;left;have p46:(10:Int) ^ 6<=10 ^ 46:=by decide+kernel
 refine uJ S2 hS1 ⟨by decide,by omega,by omega,NX,by omega⟩ λl p3 H3 hl OI e3 S3=>?_
 have Pt:size<=2 ^ 20:=by
  have:(10:Int) ^ 6<=2 ^ 20:=by decide+kernel
  omega
 have Kz:ClS 23 l:=OI.S (s:=20) (by omega) Pt;have few:=OI.few;have SY:ClS 23 (l++[(1,0,0)]):=(OI.more (by omega) (by omega)).S (s:=20) (by omega) Pt;have em:1+c % 6=((l.length:Nat):Int):=by omega
 rw [em];clear hl NA OI p46 Pt NX LS;have S4:Sta H H H3 [] [(zm l, .ref p3)]:=S3.freeze;clear S3 S2;have hS3:SqL K H3 a (ns.map V.int):=S4.base.seq hS
 have Om:(Fx ns (some 1) (some 6)).length<=6:=by
  unfold Fx;rw [TB,show HT.sIx ns.length ns.length (some 6)=min 6 ns.length from HT.sIx_nat _ _ 6];omega
 left;refine Gu S4 hS3 λp5 H5 e5 S5=>?_;have S5':Sta H H H5 [] ((xI (Fx ns (some 1) (some 6)), .ref p5)::_):=S5.freeze;clear S5 S4;left;refine AB S5' ‹_› Om λw6 H6 r dr e6 S6'=>?_;obtain ⟨j,N,hJ,hj,hN⟩:=dr;obtain ⟨ru,LV,Mq⟩:=(hJ 23).ru (by decide) hj hN;have S6:Sta H H H6 [] [(r.shape,w6),(zm l, .ref p3)]:=S6'.dat (by walk_at "dats");clear S6' S5' hJ hj hN Om;left;refine YF (A:=A) (r:=r) S6 ‹_› Mq λw7 H7 e7 S7=>?_;left;refine rd_isC (C:=A.cls r) S7 ‹_› (Kw r) ?_;left;rename_i ph H8 e8 S8;clear S7 S6
 have T:Sta H8 H8 H8 [] [(zm l, .ref ph),(r.ins A,w7),(r.shape,w6),(zm l, .ref p3)]:=Sta.enter (zV.refl _) λp hp=>by
  simp only [Qm,Qn,or_false] at hp
  rcases hp with rfl|rfl|rfl|rfl
  ·exact S8.hpC (by right)
  ·exact S8.hp ‹_›
  ·exact S8.hp ‹_›
  ·exact S8.hp ‹_›
 refine iX (C:=A.cls r) T ‹_› (Kw r).cl (LY r).1 (by decide+kernel) ?_;left;refine Uz (r:=r) (l:=l) T ‹_› ‹_› ru Mq Kz λpf H9 e9 T9=>?_;clear T;left;refine AK (N:=l.length) T9 (T9.hpC (by right)) (ru.isP Kz) (by decide) (by omega) λMn Oy T10=>?_;clear T9;left;refine Xk (x:=zA (zP (amV l))) T10 (by right) (dh (by rw [jan,ru.ende Kz];rfl)) λPy T11=>?_;clear T10;left;refine HI (l:=l) T11 ‹_› Kz.few λPx LN Pk NG=>?_;clear T11;left;refine iU (x:=zA (zP (amV l))) (y:=zA (zP (amV l))) (NG.hp ‹_›) (NG.hp ‹_›) (Yz _) (Yz _) ?_;rw [SeqAt.eqv_refl _ (lr _)];left;refine iU (x:=zm l) (y:=zm l) (NG.hp ‹_›) (NG.hp ‹_›) (ZX _) (ZX _) ?_;rw [SeqAt.eqv_refl _ (aT _)];left;have MJ:Sta H8 H8 LN [(pf,(zI r l).map zA)] [(zm l, .ref ph),(r.ins A,w7),(r.shape,w6),(zm l, .ref p3)]:=NG.weak (by walk_at "sub") (by walk_at "dats");clear NG;have Sb:SqL K LN a (ns.map V.int):=MJ.base.seq (S8.base.seq hS)
 have U:Sta LN LN LN [] [(zU (zI r l), .ref pf),(zm l, .ref ph),(r.ins A,w7),(r.shape,w6),(zm l, .ref p3)]:=Sta.enter (zV.refl _) λp hp=>by
  simp only [Qm,Qn,or_false] at hp
  rcases hp with rfl|rfl|rfl|rfl|rfl
  ·exact MJ.hpC (by right)
  ·exact MJ.hp ‹_›
  ·exact MJ.hp ‹_›
  ·exact MJ.hp ‹_›
  ·exact MJ.hp ‹_›
 refine zN (xs:=(zI r l).map zA) U ‹_› λJ wk=>?_;refine xF wk (λi σ cs ds=>(∃x8,σ=[some (.ref a),some (.int c),some (.int (l.length:Nat)),some (.ref p3),some w6,some w7,some (.ref ph),some (.ref pf),x8,none,none,none,none,none])/\cs=[]/\ds=[(zU (zI r l), .ref pf),(zm l, .ref ph),(r.ins A,w7),(r.shape,w6),(zm l, .ref p3)]) U ⟨⟨none,rfl⟩,rfl,rfl⟩ (λi σ cs ds h=>?_) ?_ ?_
 ·obtain ⟨_,rfl,rfl⟩:=h;exact .mem (by right)
 ·rintro i x u σ Pp cs ds hx ⟨⟨x8,rfl⟩,rfl,rfl⟩ Pm
  obtain ⟨cn,KQ,rfl⟩:=zJ hx;obtain ⟨pe,c0,zc⟩:=ru.corner Kz (Qc KQ);left;rename_i wa Ua wb Ub;refine nu (r:=r) (l:=l) (e:=cn.1) Ub ‹_› ‹_› ‹_› (by rw [pe];exact .mem (by right)) ru LV Kz zc c0 λOE Pj Sw=>?_;left;exact ZK (Sw.dat (by walk_at "dats")) ⟨⟨_,rfl⟩,rfl,rfl⟩
 rintro σ Pp cs ds ⟨⟨x8,rfl⟩,rfl,rfl⟩ Pm
 clear U wk J;left;refine zN (xs:=l.map zC) Pm ‹_› λJ9 NJ=>?_;refine yh NJ (λj=> .int (l.getD j (0,0,0)).1) (ys:=(amV l).map PyData.int) (by unfold amV;rw [Qa,Qr];exact zo (λc:Cl=>PyData.int c.1) (0,0,0) l) Pm (λj x v=>λhx t1 S hd=>?_) λPr OE Pj Sw=>?_
 ·obtain ⟨c,hc,rfl⟩:=zJ hx;refine zE ⟨rfl,?_⟩;left;refine hd (by assumption) ?_;rw [zF hc];exact Has.int
 have ok:ClOk 160 l:=Kz.ok (by decide);have sum:=ok.am.sum;left;generalize (amV l).sum=wh at*;rename_i p16 H16 e16 Sv;clear Pm;have RZ:SqL K H16 a (ns.map V.int):=Sv.base.seq Sb;refine Gu Sv RZ λp17 H17 e17 Pl=>?_;have Mr:(Fx ns (some (7+(l.length:Int))) (some (11+(l.length:Int)))).length<=63:=by unfold Fx;rw [TB,Ts];omega
 generalize Fx ns (some (7+(l.length:Int))) (some (11+(l.length:Int)))=cells at*;refine Ze Pl (Pl.vwC (by right)) (Pl.vwC (by right)) (by rw [Qa];show 1+_<=1000;omega) λSV H18 e18 Su=>?_;rw [show [PyData.int 1]++cells.map PyData.int=(1::cells).map PyData.int from rfl] at Su;have Ss:Sta LN LN H18 [] [(xI (1::cells), .ref SV),(zU (zI r l), .ref pf),(zm l, .ref ph),(r.ins A,w7),(r.shape,w6),(zm l, .ref p3)]:=Su.freeze.weak (by walk_at "sub") (by walk_at "dats");clear Sw Sv Pl Su;refine zN (xs:=(1::cells).map PyData.int) Ss ‹_› λJ wk=>?_;refine xF wk (λi σ cs ds=>(∃x8 LD Mz SI,σ=[some (.ref a),some (.int c),some (.int (l.length:Nat)),some (.ref p3),some w6,some w7,some (.ref ph),some (.ref pf),x8,some (.int wh),LD,none,Mz,SI])/\cs=[]/\ds=[(xI (1::cells), .ref SV),(zU (zI r l), .ref pf),(zm l, .ref ph),(r.ins A,w7),(r.shape,w6),(zm l, .ref p3)]) Ss ⟨⟨_,_,_,_,rfl⟩,rfl,rfl⟩ (λi σ cs ds h=>?_) ?_ ?_
 ·obtain ⟨_,rfl,rfl⟩:=h;exact .mem (by right)
 ·rintro i x u σ H20 cs ds hx ⟨⟨x8,LD,Mz,SI,rfl⟩,rfl,rfl⟩ ND
  obtain ⟨y,hy,rfl⟩:=zJ hx;cases ND.int1;left;refine DY ND ⟨sum.1,sum.2.mono (by decide)⟩ λw21 OD e ⟨g0,gz⟩ e21 U21=>?_;clear ND;left;refine ny (e:=e) U21 ‹_› ‹_› (ru.R Kz).r0 gz (by decide) λw22 H22 e22 Sr=>?_;rw [ru.lawAt Kz] at Sr;clear U21;left;refine nu (r:=r) (l:=l) (e:=e) Sr ‹_› ‹_› ‹_› ‹_› ru LV Kz (gz.mono (by decide)) g0 λH23 e23 Sq=>?_;clear Sr;left;refine iX (C:=A.cls r) Sq ‹_› (Kw r).cl (LY r).2 (by decide+kernel) ?_;left;refine AE (r:=r) (l:=l) Sq ‹_› ‹_› ‹_› ru Mq Kz gz g0 λSJ OC Sm So=>?_;clear Sq;left;refine iU (x:=zR (zh (zI r l) e)) (y:=zR (zh (zI r l) e)) (So.hp ‹_›) (So.hp ‹_›) (ZW _) (ZW _) ?_;rw [SeqAt.eqv_refl _ (fG _)];left;exact ZK (So.dat (by walk_at "dats")) ⟨⟨_,_,_,_,rfl⟩,rfl,rfl⟩
 rintro σ H20 cs ds ⟨⟨y8,Np,SH,y13,rfl⟩,rfl,rfl⟩ ND
 have T20:Sta H8 H8 H20 [(pf,(zI r l).map zA)] [(zm l, .ref ph),(r.ins A,w7),(r.shape,w6),(zm l, .ref p3)]:=MJ.same ND.base;clear ND Ss MJ wk J;left;rename_i pl OD e21 T21;have T22:Sta H8 H8 OD [(pf,(zI r l).map zA)] [(zU (zI r l), .ref pl),(zm l, .ref ph),(r.ins A,w7),(r.shape,w6),(zm l, .ref p3)]:=T21.freeze;clear T21 T20;refine Ec T22 λH23 Sx=>?_;clear T22;left;refine iX (C:=A.cls r) Sx ‹_› (Kw r).cl (LY r).1 (by decide+kernel) ?_;left;refine Uz (r:=r) (l:=l) Sx ‹_› ‹_› ru Mq Kz λpg OC Sm NF=>?_;clear Sx;left;refine iU (x:=zU (zI r l)) (y:=zU (zI r l)) (NF.hpC (by right)) (NF.hp ‹_›) (XF _) (XF _) ?_;rw [SeqAt.eqv_refl _ (lj _)];left;refine iU (x:=zm l) (y:=zm l) (NF.hp ‹_›) (NF.hp ‹_›) (ZX _) (ZX _) ?_;rw [SeqAt.eqv_refl _ (aT _)];have Po:Sta H H OC [(ph,l.map zC)] [(r.ins A,w7),(r.shape,w6),(zm l, .ref p3)]:=S8.same NF.base;clear NF S8;left;rename_i q26 H26 e26 Pn;refine yK (y:=zC (1,0,0)) Pn ‹_› (by rw [Qa];omega) λH27 OA=>?_;rw [show l.map zC++[zC (1,0,0)]=(l++[(1,0,0)]).map zC by rw [QP];rfl] at OA;have Nm:Sta H H H27 [] [(zm (l++[(1,0,0)]), .ref ph),(r.ins A,w7),(r.shape,w6)]:=OA.freeze.dat (by walk_at "dats");clear OA Pn Po;generalize l++[((1:Int),(0:Int),(0:Int))]=l' at*;left;refine iX (C:=A.cls r) Nm ‹_› (Kw r).cl (LY r).1 (by decide+kernel) ?_;left;refine Uz (r:=r) (l:=l') Nm ‹_› ‹_› ru Mq SY λp29 H29 e29 S29=>?_;clear Nm;left;refine YF (A:=A) (r:=r) S29 ‹_› Mq λw30 H30 e30 S30=>?_;clear S29;left;refine iX (C:=A.cls r) S30 ‹_› (Kw r).cl (LY r).1 (by decide+kernel) ?_;left;rename_i q31 H31 e31 S31;have S32:Sta H H H31 _ ((zm l', .ref q31)::_):=S31.freeze;clear S31 S30;refine Uz (r:=r) (l:=l') S32 ‹_› ‹_› ru Mq SY λp33 H33 e33 S33=>?_;left;refine nB (x:=zU (zI r l')) (y:=zU (zI r l')) (S33.hpC (by right)) (S33.hpC (by right)) (XF _) (XF _) ?_;rw [SeqAt.eqv_refl _ (lj _)];exact q _
end
end
theorem all_mk {l:PySem.W.OpenLaw} {w:World} {K:Frg} {h:Heap} {mg:Str->Option Value} {fa:Addr} (X:K.In h) (G:h.Ns mainGlobals mg) (hfa:mg "law"=some (.ref fa))
 {od65 an65:Option Addr} {sl65:Array (Option Value)} {oc65 kV65 dc65 pm65 cd65 ct65:Value}
 (D1:DkT K mg "check_claims" YW f1 d1 pam)
 (D2:DkT K mg "those_at" aw f2 d2 paA)
 (D3:DkT K mg "places_of_rank" ZO f3 d3 paP)
 (D4:DkT K mg "places_of_group" Zr f4 d4 pah)
 (D5:DkT K mg "as_one_claim" YX f5 d5 pah)
 (D6:DkT K mg "plus" Au f6 d6 pab)
 (D7:DkT K mg "minus" qe f7 d7 pab)
 (D8:DkT K mg "times" qd f8 d8 pab)
 (D9:DkT K mg "over" Av f9 d9 pab)
 (Pr:DkT K mg "before" kF f10 d10 pab)
 (D11:DkT K mg "lowest" kv f11 d11 paJ)
 (D12:DkT K mg "greatest_divisor" Zd f12 d12 pab)
 (Pq:DkT K mg "thinned" ef f13 d13 ["corners"])
 (D14:DkT K mg "parts_at" ax f14 d14 ["path","purse"])
 (D15:DkT K mg "turned" kj f15 d15 ["path"])
 (D16:DkT K mg "scaled" kq f16 d16 paV)
 (D17:DkT K mg "behind" kE f17 d17 paO)
 (D18:DkT K mg "is_straight" XM f18 d18 paG)
 (D19:DkT K mg "gap" Hs f19 d19 pab)
 (D20:DkT K mg "parts_between" Yj f20 d20 paU)
 (D21:DkT K mg "portion_reached" Zq f21 d21 pav)
 (D22:DkT K mg "amount_at" VW f22 d22 pas)
 (D23:DkT K mg "plus_each" VP f23 d23 paj)
 (D24:DkT K mg "less_each" VQ f24 d24 paj)
 (D25:DkT K mg "last_reached" YV f25 d25 paQ)
 (D26:DkT K mg "purses_reaching" Zp f26 d26 paR)
 (D27:DkT K mg "parts_within" YU f27 d27 paS)
 (D28:DkT K mg "merged" ku f28 d28 paj)
 (D29:DkT K mg "within" ki f29 d29 paX)
 (D30:DkT K mg "course" kD f30 d30 pax)
 (D31:DkT K mg "shares" ko f31 d31 pam)
 (D32:DkT K mg "evenly" kC f32 d32 pam)
 (D33:DkT K mg "losses" kz f33 d33 pam)
 (D34:DkT K mg "ranks" kr f34 d34 paW)
 (D35:DkT K mg "groups" cX f35 d35 paD)
 (D36:DkT K mg "upto" As f36 d36 paC)
 (D37:DkT K mg "nothing" el f37 d37 ["count"])
 (D38:DkT K mg "whole_corner" YS f38 d38 ["parts"])
 (D39:DkT K mg "spread" km f39 d39 pan)
 (D40:DkT K mg "spread_parts" YT f40 d40 paM)
 (D41:DkT K mg "_law_cell_at" XJ f41 d41 pay)
 (D42:DkT K mg "_law_mixed" VV f42 d42 paN)
 (D43:DkT K mg "_law_divisor" XI f43 d43 paf)
 (D44:DkT K mg "_law_lowest" Wv f44 d44 paE)
 (D45:DkT K mg "_law_whole" VR f45 d45 paq)
 (D46:DkT K mg "_law_is_fraction" Zs f46 d46 paq)
 (D47:DkT K mg "_law_labels" Ww f47 d47 ["_law_number"])
 (D48:DkT K mg "_law_claims" Wx f48 d48 pai)
 (D49:DkT K mg "_law_even" aE f49 d49 paI)
 (D50:DkT K mg "_law_fits" aD f50 d50 paa)
 (D51:DkT K mg "_law_upto_fit" ZG f51 d51 paa)
 (D52:DkT K mg "_law_ranks_fit" Zc f52 d52 paa)
 (D53:DkT K mg "_law_groups_fit" xR f53 d53 paa)
 (D54:DkT K mg "_law_right" VT f54 d54 pag)
 (D55:DkT K mg "_law_rule" aA f55 d55 paB)
 (D56:DkT K mg "_law_less" aB f56 d56 paf)
 (D57:DkT K mg "_law_at" kA f57 d57 pao)
 (D58:DkT K mg "_law_is_path" XH f58 d58 paL)
 (D59:DkT K mg "_law_sums" ay f59 d59 ["_law_corner"])
 (D60:DkT K mg "_law_portion" XG f60 d60 paH)
 (D61:DkT K mg "_law_leaf" aC f61 d61 paH)
 (D62:DkT K mg "_law_shape" VS f62 d62 paK)
 (D63:DkT K mg "_law_end" eB f63 d63 paT)
 (D64:DkT K mg "_law_purse" VU f64 d64 paF)
 (a65:PySem.W.nsIn K mainGlobals "law"=some (some (.ref f65))) (l65:K.lookup f65=some ⟨oc65,od65, .func (PySem.W.fnOf "law" "law" (ZS kB) (Zj kB) (zk kB) .none kV65 dc65 pm65 an65 cd65 ct65),sl65⟩) (c65:PySem.W.codeIn K cd65 "law"=true) (k65:PySem.W.keepIn K (.ref f65)=true)
 {ZM Vh Vl Vi Vj bx bw Vk js WQ yo yG yL yy Xp Xt Xq Xr Wg Wf Xs WO:Addr} {fX om qS qT ou aZ bo ba bh cF cE bj fW:FuncData} {t_MOST:Tok} (Jr:PySem.W.nsIn K mainGlobals "Rule"=some (some (.ref ZM))) (yA:PySem.W.findCls K (.ref ZM) (.type "type") "__init__"=some (.val (.ref WQ)))
 (Dv:PySem.W.nsIn K mainGlobals "Shares"=some (some (.ref Vh)))
 (DB:PySem.W.nsIn K mainGlobals "Evenly"=some (some (.ref Vl)))
 (Dw:PySem.W.nsIn K mainGlobals "Losses"=some (some (.ref Vi)))
 (Dz:PySem.W.nsIn K mainGlobals "Halves"=some (some (.ref Vj)))
 (He:PySem.W.nsIn K mainGlobals "Other"=some (some (.ref bx)))
 (Hd:PySem.W.nsIn K mainGlobals "Ranks"=some (some (.ref bw)))
 (DA:PySem.W.nsIn K mainGlobals "Groups"=some (some (.ref Vk)))
 (Jq:PySem.W.nsIn K mainGlobals "Upto"=some (some (.ref js)))
 (lW:CkT K Vh Xp ZM yo yG yL yy)
 (md:CkT K Vl Xt ZM yo yG yL yy)
 (lX:CkT K Vi Xq ZM yo yG yL yy)
 (lY:CkT K Vj Xr ZM yo yG yL yy)
 (rF:CkT K bx Wg ZM yo yG yL yy)
 (rE:CkT K bw Wf ZM yo yG yL yy)
 (lZ:CkT K Vk Xs ZM yo yG yL yy)
 (CO:CkT K js WO ZM yo yG yL yy)
 (gA:FkT K "__init__" "Rule.__init__" Yl WQ fX pae)
 (oJ:FkT K "shape" "Rule.shape" Wy yo om pac)
 (rC:FkT K "text" "Rule.text" eD yG qS pac)
 (rD:FkT K "path" "Rule.path" VX yL qT paz)
 (oK:FkT K "parts" "Rule.parts" Wz yy ou pau)
 (bJ:FkT K "__init__" "Shares.__init__" Zt Xp aZ pac)
 (bN:FkT K "__init__" "Evenly.__init__" Zx Xt bo pac)
 (bK:FkT K "__init__" "Losses.__init__" Zu Xq ba pac)
 (bL:FkT K "__init__" "Halves.__init__" Zv Xr bh pac)
 (cL:FkT K "__init__" "Other.__init__" ZQ Wg cF pal)
 (cK:FkT K "__init__" "Ranks.__init__" ZP Wf cE pal)
 (bM:FkT K "__init__" "Groups.__init__" Zw Xs bj paw)
 (gw:FkT K "__init__" "Upto.__init__" Yk WO fW pak)
 (xk:PySem.W.isFn K (.ref yo)=true) (xA:PySem.W.isFn K (.ref yG)=true) (xB:PySem.W.isFn K (.ref yL)=true) (xl:PySem.W.isFn K (.ref yy)=true) (x_MOST:PySem.W.nsIn K mainGlobals "MOST"=some (some (.int 8 t_MOST)))
 (Wo:PySem.W.specialIn K (.ref ZM) "__getattribute__"=some (some (.builtin "type.__getattribute__"))) (WD:PySem.W.readsIn K ZM (.type "type")=true) (Mo:PySem.W.specialIn K (.builtin "object.__class__") "__get__"=some (some (.builtin "getset_descriptor.__get__"))) (MD:PySem.W.takesIn K (.builtin "object.__class__")=some true) (B:Bl mg) (B2:Bl3 mg) (B3:Bl2 mg):
 ∃fd:FuncData,(∀(s:Shared) (v:Value),BindsTo s fd ⟨[v],[]⟩ [("_law_script",v)])/\∀base:Heap,K.In base->base.Ns mainGlobals mg->FnOk l.prog w K mg base CX0 28 fa fd ["_law_script"] (DL K):=by
 have e:=hfa.symm.trans (jaD X G a65);cases e;obtain ⟨VE,ij,iE⟩:=D1;obtain ⟨jx,vk,vU⟩:=D2;obtain ⟨Wh,cC,cG⟩:=D3;obtain ⟨Xx,aP,bB⟩:=D4;obtain ⟨VF,ik,iF⟩:=D5;obtain ⟨GV,JD,JN⟩:=D6;obtain ⟨CT,Io,IS⟩:=D7;obtain ⟨CS,Il,IP⟩:=D8;obtain ⟨GW,JE,JO⟩:=D9;obtain ⟨ud,ES,FP⟩:=Pr;obtain ⟨tX,EJ,FI⟩:=D11;obtain ⟨YN,UJ,UN⟩:=D12;obtain ⟨oR,BD,CH⟩:=Pq;obtain ⟨jy,vm,vV⟩:=D14;obtain ⟨tS,EE,FD⟩:=D15;obtain ⟨tV,EH,FG⟩:=D16;obtain ⟨uc,ER,FO⟩:=D17;obtain ⟨UU,kY,lU⟩:=D18;obtain ⟨JP,Kh,Kl⟩:=D19;obtain ⟨WW,fv,gh⟩:=D20;obtain ⟨Xw,aO,bA⟩:=D21;obtain ⟨gJ,qF,rz⟩:=D22;obtain ⟨gB,qx,qY⟩:=D23;obtain ⟨gC,qy,qZ⟩:=D24;obtain ⟨VD,ig,iD⟩:=D25;obtain ⟨Xv,aN,bz⟩:=D26;obtain ⟨VC,hV,iB⟩:=D27;obtain ⟨tW,EI,FH⟩:=D28;obtain ⟨tR,ED,FC⟩:=D29;obtain ⟨ub,sL,tK⟩:=D30;obtain ⟨tU,EG,FF⟩:=D31;obtain ⟨ua,EO,FN⟩:=D32;obtain ⟨tY,EK,FJ⟩:=D33;obtain ⟨Ja,Im,IQ⟩:=D34;obtain ⟨FX,EM,FL⟩:=D35;obtain ⟨GU,JC,JM⟩:=D36;obtain ⟨oU,BE,CI⟩:=D37;obtain ⟨VA,gZ,iw⟩:=D38;obtain ⟨tT,EF,FE⟩:=D39;obtain ⟨VB,hU,iA⟩:=D40;obtain ⟨UT,kX,lT⟩:=D41;obtain ⟨gI,qE,rm⟩:=D42;obtain ⟨US,kW,lS⟩:=D43;obtain ⟨cu,nR,oF⟩:=D44;obtain ⟨gD,qA,rf⟩:=D45;obtain ⟨Xy,aQ,bC⟩:=D46;obtain ⟨cv,nS,oG⟩:=D47;obtain ⟨cw,nU,oH⟩:=D48;obtain ⟨jE,vv,vZ⟩:=D49;obtain ⟨jD,jf,jv⟩:=D50;obtain ⟨iH,ie,iC⟩:=D51;obtain ⟨gG,fA,gm⟩:=D52;obtain ⟨cM,cD,cH⟩:=D53;obtain ⟨gF,qC,rj⟩:=D54;obtain ⟨jA,je,ju⟩:=D55;obtain ⟨jB,vq,vX⟩:=D56;obtain ⟨tZ,EL,FK⟩:=D57;obtain ⟨UR,kU,lR⟩:=D58;obtain ⟨jz,vo,vW⟩:=D59;obtain ⟨UQ,kS,lO⟩:=D60;obtain ⟨jC,vt,vY⟩:=D61;obtain ⟨gE,qB,rh⟩:=D62;obtain ⟨oV,BF,CJ⟩:=D63;obtain ⟨gH,qD,rl⟩:=D64;have Km:=og (st:=kB) l65 c65 k65;refine ⟨PySem.W.fnOf "law" "law" (ZS kB) (Zj kB) (zk kB) .none kV65 dc65 pm65 an65 cd65 ct65,λs v=> .of_eq rfl,λbase XB GB=>?_⟩;obtain ⟨gM,yC,yx⟩:=gA;obtain ⟨ZN,xp,xm⟩:=oJ;obtain ⟨Jb,IT,xD⟩:=rC;obtain ⟨Ug,XW,xE⟩:=rD;obtain ⟨cx,cp,xn⟩:=oK;obtain ⟨bO,bD,vz⟩:=bJ;obtain ⟨bS,bH,vD⟩:=bN;obtain ⟨bP,bE,vA⟩:=bK;obtain ⟨bQ,bF,vB⟩:=bL;obtain ⟨cO,cJ,wx⟩:=cL;obtain ⟨cN,cI,wu⟩:=cK;obtain ⟨bR,bG,vC⟩:=bM;obtain ⟨gK,gn,BR⟩:=gw;have Zn:=jaD XB GB Jr;have g_MOST:=jaD XB GB x_MOST;have td:=jaD XB GB Dv;have oM:=lW.MK;have Js:=lW.ok xk xm xA xD Mo MD;have Jx:=lW.mp xB xE xl xn;have tq:=jaD XB GB DB;have oQ:=md.MK;have Jw:=md.ok xk xm xA xD Mo MD;have JB:=md.mp xB xE xl xn;have tf:=jaD XB GB Dw;have oN:=lX.MK;have Jt:=lX.ok xk xm xA xD Mo MD;have Jy:=lX.mp xB xE xl xn;have tj:=jaD XB GB Dz;have oO:=lY.MK;have Ju:=lY.ok xk xm xA xD Mo MD;have Jz:=lY.mp xB xE xl xn;have Ce:=jaD XB GB He;have tP:=rF.MK;have JT:=rF.ok xk xm xA xD Mo MD;have JV:=rF.mp xB xE xl xn;have Cd:=jaD XB GB Hd;have tO:=rE.MK;have JS:=rE.ok xk xm xA xD Mo MD;have JU:=rE.mp xB xE xl xn;have tm:=jaD XB GB DA;have oP:=lZ.MK;have Jv:=lZ.ok xk xm xA xD Mo MD;have JA:=lZ.mp xB xE xl xn;have GI:=jaD XB GB Jq;have CP:=CO.MK;have Kf:=CO.ok xk xm xA xD Mo MD;have Kg:=CO.mp xB xE xl xn;have Kw:∀r:Rl,ROk K yo yG ZM ((⟨Vh,Vl,Vi,Vj,bx,bw,Vk,js⟩:RAd).cls r):=λr=>by cases r<;>assumption
 have LY:∀r:Rl,Meth K ((⟨Vh,Vl,Vi,Vj,bx,bw,Vk,js⟩:RAd).cls r) "path" yL/\Meth K ((⟨Vh,Vl,Vi,Vj,bx,bw,Vk,js⟩:RAd).cls r) "parts" yy:=λr=>by cases r<;>assumption
 generalize MI:(⟨Vh,Vl,Vi,Vj,bx,bw,Vk,js⟩:RAd)=A at Kw LY;have F_rinit:=Eo (P:=l.prog) (w:=w) (mg:=mg) (base:=base) (fS:=yo) (fT:=yG) (Ru:=ZM) gM;have F_shape:=Em (P:=l.prog) (w:=w) (mg:=mg) (base:=base) Kw ZN;have Fj:=gT (A:=A) Zn Wo WD yA F_rinit yx yC (Kw .shares) bO
 have ET:Vt l.prog w K mg base "Shares" (A.cls .shares) pac (xj (A.cls .shares) (α:=Unit) (λ_=>[]) (λ_=>Rl.shares.shape)):=by
  subst MI;exact ⟨_,_,oM,Fj,bD,td⟩
 have Fo:=gY (A:=A) Zn Wo WD yA F_rinit yx yC (Kw .evenly) bS
 have EX:Vt l.prog w K mg base "Evenly" (A.cls .evenly) pac (xj (A.cls .evenly) (α:=Unit) (λ_=>[]) (λ_=>Rl.evenly.shape)):=by
  subst MI;exact ⟨_,_,oQ,Fo,bH,tq⟩
 have Fl:=gU (A:=A) Zn Wo WD yA F_rinit yx yC (Kw .losses) bP
 have EU:Vt l.prog w K mg base "Losses" (A.cls .losses) pac (xj (A.cls .losses) (α:=Unit) (λ_=>[]) (λ_=>Rl.losses.shape)):=by
  subst MI;exact ⟨_,_,oN,Fl,bE,tf⟩
 have Fm:=gW (A:=A) Zn Wo WD yA F_rinit yx yC (Kw .halves) bQ
 have EV:Vt l.prog w K mg base "Halves" (A.cls .halves) pac (xj (A.cls .halves) (α:=Unit) (λ_=>[]) (λ_=>Rl.halves.shape)):=by
  subst MI;exact ⟨_,_,oO,Fm,bF,tj⟩
 have ID:=kO (A:=A) Zn Wo WD yA F_rinit yx yC F_shape xp Kw cO
 have Iq:Vt l.prog w K mg base "Other" (A.cls (.other .shares)) pal (xj (A.cls (.other .shares)) (α:=Rl) (λr=>[r.ins A]) (λr=>(Rl.other r).shape)):=by
  subst MI;exact ⟨_,_,tP,ID,cJ,Ce⟩
 have IC:=kN (A:=A) Zn Wo WD yA F_rinit yx yC F_shape xp Kw cN
 have Ip:Vt l.prog w K mg base "Ranks" (A.cls (.ranks .shares)) pal (xj (A.cls (.ranks .shares)) (α:=Rl) (λr=>[r.ins A]) (λr=>(Rl.ranks r).shape)):=by
  subst MI;exact ⟨_,_,tO,IC,cI,Cd⟩
 have Fn:=gX (A:=A) Zn Wo WD yA F_rinit yx yC F_shape xp Kw bR
 have EW:Vt l.prog w K mg base "Groups" (A.cls (.groups .shares .shares)) paw (xj (A.cls (.groups .shares .shares)) (α:=Rl×Rl) (λr=>[r.1.ins A,r.2.ins A]) (λr=>(Rl.groups r.1 r.2).shape)):=by
  subst MI;exact ⟨_,_,oP,Fn,bG,tm⟩
 have JG:=nL (A:=A) Zn Wo WD yA F_rinit yx yC F_shape xp Kw gK
 have JF:Vt l.prog w K mg base "Upto" (A.cls (.upto 0 0 .shares .shares)) pak (xj (A.cls (.upto 0 0 .shares .shares)) (α:=(Int×Int)×Rl×Rl) (λr=>[.tuple [.int r.1.1, .int r.1.2],r.2.1.ins A,r.2.2.ins A]) (λr=>(Rl.upto r.1.1 r.1.2 r.2.1 r.2.2).shape)):=by
  subst MI;exact ⟨_,_,CP,JG,gn,GI⟩
 have cm {f:Addr} {fd:FuncData} {k:Nat} {x:Str} {st:Stmt} {ps:List Str} {sp:Sp} (F:Fun K x x st f fd) (a:FnOk l.prog w K mg base CX0 k f fd ps sp) (hm:mg x=some (.ref f)) (b:xi K fd ps []):Cal l.prog w K mg base CX0 k x ps sp:=UM F a hm b;have C_gcd:=cm YN (ok_gcd YN) UJ UN;have YO:=cm tX (Bk B C_gcd tX) EJ FI;have jF:=cm GV (HX YO GV) JD JN;have Xd:=cm CT (Ew YO CT) Io IS;have mf:=cm CS (Ek YO CS) Il IP;have GZ:=cm GW (HY YO GW) JE JO;have dz:=cm ud (Bt ud) ES FP;have C_last:=cm VD (Ia B dz VD) ig iD;have C_portion:=cm Xw (uS Xd GZ Xw) aO bA;have C_amount:=cm gJ (Bu jF Xd mf gJ) qF rz;have C_between:=cm WW (uZ B C_portion C_amount WW) fv gh;have C_partsat:=cm jy (uU B C_last C_between jy) vm vV;have JR:=cm JP (ok_gap JP) Kh Kl;have C_straight:=cm UU (qv B JR UU) kY lU;have oY:=cm oR (uP B C_straight oR) BD CH;have C_pe:=cm gB (nJ B jF gB) qx qY;have C_le:=cm gC (nK B Xd gC) qy qZ;have du:=cm tS (Ba B Xd C_le tS) EE FD;have uf:=cm tV (Be B mf tV) EH FG;have Vp:=cm uc (Bs B jF C_pe oY uc) ER FO;have C_check:=cm VE (EA B g_MOST VE) ij iE;have C_wc:=cm VA (ok_wc B VA) gZ iw;have XA:=cm oU (uV C_wc oU) BE CI;have ue:=cm tU (Bc B XA C_wc tU) EG FF;have dw:=cm ua (Bq B B2 C_wc ua) EO FN;have uh:=cm tY (Bm dw du tY) EK FJ;have GY:=cm GU (HV Vp uf Xd GU) JC JM;have C_reach:=cm Xv (Ep B C_last C_portion C_amount Xv) aN bz;have C_pwith:=cm VC (uR B C_partsat VC) hV iB;have ug:=cm tW (Bj B dz tW) EI FH;have dk:=cm tR (AZ B ug C_reach C_pwith tR) ED FC;have C_those:=cm jx (El jx) vk vU;have C_plr:=cm Wh (Bh B Wh) cC cG;have C_plg:=cm Xx (uT B Xx) aP bB;have C_one:=cm VF (ok_one B VF) ik iF;have C_sprv:=cm VB (uQ B VB) hU iA;have C_spr:=cm tT (Bb C_sprv tT) EF FE;have XZ:=cm ub (uY (t:=23) B B2 ue dw uh GY du XA C_plr C_plg C_those C_one C_spr Vp dk Ja Im IQ FX EM FL ub sL tK 7) sL tK;have F_path:=Et (A:=A) (t:=23) (n:=7) Kw C_check XZ Ug;have F_parts:=Bi (A:=A) (t:=23) (n:=7) Kw (λr=>(LY r).1) F_path XW C_partsat cx;have C_cell:=cm UT (Ig B UT) kX lT;have C_mix:=cm gI (Eu gI) qE rm;have C_div:=cm US (uX B US) kW lS;have C_low:=cm cu (Bn C_div cu) nR oF;have C_whole:=cm gD (Ej B gD) qA rf;have C_frac:=cm Xy (Ib B C_whole C_div Xy) aQ bC;have C_labels:=cm cv (Bo cv) nS oG;have C_claims:=cm cw (Br B C_cell C_mix C_labels cw) nU oH;have C_even:=cm jE (Ic B jE) vv vZ;have C_fits:=cm jD (Ez B B2 C_even iH ie iC gG fA gm cM cD cH jD jf jv 12) jf jv;have C_right:=cm gF (Bf (t:=23) B C_frac C_div C_fits gF) qC rj;have C_rule:=cm jA (En ET EX EU EV Iq Ip EW JF jA je ju 7) je ju;have C_less:=cm jB (HZ jB) vq vX;have C_at:=cm tZ (Ey B C_less C_low tZ) EL FK;have C_sums:=cm jz (HW jz) vo vW;have C_isp:=cm UR (Bp B B3 C_frac C_less C_sums C_at UR) kU lR;have C_por:=cm UQ (Es UQ) kS lO;have C_leaf:=cm jC (Ex jC) vt vY;have C_shape:=cm gE (Bd B C_por C_leaf gE) qB rh;have C_end:=cm oV (Ie B oV) BF CJ;have C_purse:=cm gH (Er C_low gH) qD rl;exact ok_law (A:=A) B Kw LY Zn F_path XW F_parts cp C_cell C_claims C_shape C_rule C_isp C_end C_at C_purse C_right Km
theorem walk {l:PySem.W.OpenLaw} {q:Program} {loose:List Str} {XP:(Str->Option Value)->Heap->Prop} {YP:World->Heap->Prop} {d:DefRec} {K:Params->Frg} (hn:l.most=some 63) (LV:d.params.defaults=[])
 (hY:∀(w:World) (h:Heap),YP w h->(K w.params).In h)
 (F:∀(w:World) (mg:Str->Option Value) (fa:Addr) (h:Heap),(K w.params).In h->h.Ns mainGlobals mg->mg d.name=some (.ref fa)->
  ∃fd:FuncData,(∀(s:Shared) (u:Value),BindsTo s fd ⟨[u],[]⟩ [("_law_script",u)])/\∀base:Heap,(K w.params).In base->base.Ns mainGlobals mg->FnOk l.prog w (K w.params) mg base CX0 28 fa fd ["_law_script"] (DL (K w.params))):
 PySem.W.WalkO q loose XP YP l.row.toRowW d [] (λf vs=>PySem.call f vs):=
 L2.Hf (n:=63) (k:=28) (x:="_law_script") (CX:=λ_=>CX0) (sp:=λw=>DL (K w.params)) hn (by decide) LV ⟨rfl,by decide,by decide⟩ hY F (λ_ _ a ns hl hO hS=>⟨a,ns,rfl,hS,hl,hO,λ_=>rfl⟩) λ_ _ _ _ _ z=>z
end K
structure PySem.W.Fast:Prop where(tw4673782627141963778 tw7852703319091619650 tw6379318202941049010 tw15031140121731407441 tw4965790421375279047 tw10450761028673039455 tw10936788007335421415 tw8002924543331665756 tw3469411438852439668 tw15430158301425871682 tw15962996879841768218 tw12400814032065111432 tw9980524771666752680 tw14803767673970680141 tw669236233374942868 tw7021497936974209885 tw4305040718409805351 tw8437669737475204554 tw11864570013295688645 tw1951598871111432194 tw8477565975073630413 tw15759016048552446542 tw4730887409774389004 tw18258220700178189802 tw7218766387602945166 tw11049940291925677069 tw14464673486682406152 tw12621636940211333440 tw6685110910653956066 tw15419710168141654780 tw18360681170810309776 tw18294181901929895601 tw2421629110892757008 tw15013028683228752713 tw16226733133524737150 tw5763024813042155042 tw9823072066555119429 tw6880064201071527696 tw2806346681895551598 tw6745359559895173046 tw11027108638901301686 tw5088694208096045789 tw9346649095198722784 tw12680669347308835902 tw10477022450641962815 tw15080421882018446286 tw9131165916025035907 tw7663951066634292377 tw9082784136210195946 tw894212672311575279 tw11641478347136243744 tw10475385158290158029 tw262531636892892722 tw642227491354012252 tw8234274213414570327 tw3894494363935163517 tw18368216977511013951 tw13165124292378063094 tw9799388156124399101 tw8872696062287828914 tw18235699488857569888 tw5911541127482746496 tw7252557859518953869 tw15998249965459863406 tw10442331335126529227 tw6071869962566466301 tw3527863737950414630 tw2869429789434166093 tw8304268888664801574 tw5689004511095524695 tw8240277495137768968 tw5977145347772383432 tw1029378763276334790 tw14080134611767099048 tw11912380759746336978 tw17033934822453366796 tw15133734899751996676 tw15423410024973273206 tw11835569424755306871 tw14983273839523524429 tw10979716180659924597 tw1108331094245037449 tw1136968054232474505 tw10876623252768063199 tw2858953977466996075 tw447100063341153902 tw8884583550559564297 tw990258609943641767 tw14871657643578454685 tw15174096362953600555 tw3974172204651630433 tw256073432327478488 tw12836702205370361546 tw11838736946156873573 tw8469974365153317549 tw15679878899777580423 tw9450607470867165695 tw15742584473398802257 tw13281168966226768545 tw8104322431808158414 tw9725415985061680249 tw6029376707104643656 tw9901813446525164024 tw955907575377974436 tw4203354031957487778 tw12937848498496816987 tw15116167143666755502 tw65893089353558404 tw3011952424560776790 tw10445326438882203140 tw10986118812559313847 tw5780798794856161971 tw5103876801982791685 tw12980271779821422862 tw12231968777358995354 tw3167265877900942295 tw4353372494387163124 tw12066139196690019576 tw10712741062877019304 tw17484235704305570732 tw3284423685650795250 tw3846880532517906391 tw15366368465714421428 tw5823142889319399588 tw3061057591760989775 tw4519248076578511251 tw16402363172076665304 tw4592160271479040840 tw7299516517978171021 tw18206839455796728006 tw18213487281566372292 tw17530083806064164036 tw3043802340291442258 tw15950850594504333062 tw12821283276395289847 tw16616188383429515347 tw5215450942478111447 tw525980962973139515 tw517446771420256758 tw1880489240485357175 tw11438329847289958610 tw10669781224299075042 tw12040454488613451627 tw138349013247776491 tw2995262008719654526 tw3134758630756955997 tw1163701966425804955 tw2312016528651288235 tw418291820697528385 tw4028536121146331507 tw5032804457236510241 tw17149283430015737803 tw4610935610995427712 tw1457362821549638113 tw14808055180109101002 tw17170643629991659395 tw11039012801875173585 tw4126666206178930712 tw4132082184476249221 tw4600077169524498433 tw22549615883798639 tw6701200294685231132 tw1282126898131200924 tw16746912878600292839 tw3982625582968988645 tw12527147423681083005 tw9388482456631259801 tw718146516526639160 tw4855179388033610472 tw9846032710955227413 tw5077259868249933465 tw2409106619800076405 tw13479484253748059961 tw13855029122151751703 tw2628143965791340072 tw16575175680386501495 tw5295062590822657834 tw8717030874901138054 tw11447378436126968667 tw325330139896764561 tw17323359452020476512 tw4459360954521230451 tw12053096378633285695 tw17573666286357089808 tw632411818642239744 tw4984392554396557584 tw16322118477163943690 tw14562097579564152901 tw6685349198011749098 tw4793030170287381633 tw12809858369312187275 tw9802982374091407020 tw16447424834681729398 tw2321066719550281864 tw9883711077727529180 tw7895645172755795491 tw17579748386018699880 tw10799276007379147993 tw10835738074916685138 tw9678926099428285437 tw10240919539185275605 tw13444810026085384252 tw3436230214037195074 tw16020373155233332426 tw10876566365716608340 tw4687324412288152034 tw17037628208263318961 tw10784510663334016124 tw4183669492855407605 tw1983829932913403780 tw3747854162271973346 tw4477973871204517527 tw6575772583087512769 tw7028014914078192594 tw16435213578674545627 tw18166826978040768043 tw14475719175982245674 tw2709740545973405575 tw6253408252435532353 tw10263301854125100763 tw3208015099412560498 tw2619631114705411502 tw1434768319068751882 tw11031127708583493091 tw6190178407550275496 tw16230197652698293242 tw7994931817072864814 tw4160262728160566657 tw7120260077706688345 tw5092166594914397694 tw14408133123685689322 tw5927879151709695823 tw6719460918593326284 tw7070987570439262930 tw10775803409218502425 tw644766253078719007 tw16063907810180599393 tw8558839348182835657 tw15896795082426193621 tw15857583683569127112 tw553500783231416329 tw14702552932823428668 tw13429003594670381847 tw13340680370391317398 tw10878903550511992752 tw18315756053102154038 tw5647679698941939894 tw3736030615806250825 tw2043078249302212332 tw17181706706298733870 tw5993608002603077553 tw10301933980116304307 tw603968407191629215 tw5601344812179350050 tw258470364539623034 tw9672801765345287690 tw3240435372172642930 tw9265334347133919873 tw15452509373492463431 tw3882740230041704982 tw1121321627281698374 tw16462091308399462976 tw18008215564213903093 tw13275302743292177803 tw8172512824254475354 tw2401160365490412796 tw13067185907731444081 tw8581829132051487153 tw950695286595096671 tw4489432269538579244 tw5896034860338473865 tw4798873714218425975 tw13349235166623162115 tw640374179520283860 tw5723414776143102117 tw4791802984729639797 tw8727826847930318967 tw3264704391464011831 tw2282490378581745563 tw15739787332226662669 tw7917568419157970709 tw950545181918607276 tw16876051175769562869 tw3914900350826287109 tw13211312123812191211 tw7151160527540923785 tw4134829907930354496 tw6465160159233730305 tw8196439240500811345 tw965849460039518211 tw7743884559148240549 tw10052451114272228678 tw1695988670338856816 tw8113054259208483205 tw11183221113142990672 tw15309079560666422864 tw5981802888553908114 tw11060903606768167355 tw16309666923584518156 tw12556643586126466793 tw17325614225024611677 tw10401164262571687259 tw13366917315911660380 tw15123145250870875902 tw3217232778998779630 tw1043040530294165512 tw1976579428099077977 tw2390201137693702632 tw17586847204850058225 tw7579610356622046206 tw8126673122479232850 tw5835442305058037121 tw6771743728378300811 tw17834690412004611187 tw3725035577261149888 tw10526821737698575986 tw170321644198570581 tw14290963152169824276 tw13094014752064719193 tw3013463368572932554 tw283590906148331995 tw1878634515416229964 tw1067069897545622859 tw16146733966924545756 tw5381296329650279235 tw7985246329650287463 tw15606818173980327299 tw7226515923399100977 tw508172326873283464 tw6850520054997125811 tw628393992878735695 tw2546263236400597367 tw6538604133316467349 tw15629311659673202517 tw9634043914793613911 tw4542729634129042761 tw14571017517303196916 tw12810274023493529350 tw14478100792221966141 tw15867294836605972977 tw3372080331079936175 tw8276267578359581477 tw15622085363083452053 tw12344799311571673165 tw13463547516046055511 tw1408597620840315061 tw76367047665592008 tw9773027911577424929 tw13910269373483828316 tw3630681010794086516 tw14445217833067066681 tw18445514690898386051 tw12923567041804462736 tw40831558072244380 tw6193539305880851894 tw16027626640524570580 tw12704851634035161472 tw5009069312459460236 tw11298035726115510925 tw17886232722891210223 tw8758244142499104590 tw9202233809453231277 tw17737454550814686207 tw12156020594087249785 tw4313685858707626021 tw4347739878026505691 tw181250866815440920 tw14996326730519129769 tw3665910089519432223 tw8676225614035179606 tw10557619764159898330 tw3511557553225201728 tw13803943302549705696 tw7699824814932846944 tw15356118050553905658 tw15015745195462817462 tw2538591704506760768 tw14468910853870547583 tw4357286889821671731 tw2475992233747307233 tw10182413131057151846 tw3342596309026973523 tw14992739668335120930 tw10841248869352714903 tw489220192375683301 tw1071173071045967260 tw16034887970897582174 tw2381394331847761105 tw5486518358251055284 tw4026669237241848868 tw8732254673959505119 tw14886101351897023796 tw7058675938491200950 tw10703963065237085780 tw1087743581866657602 tw7738320494295297257 tw4937774416014835166 tw6738032189023271025 tw2501861726838812846 tw6260416320725179057 tw915812878799209666 tw11851786927378826411 tw2160628186824312026 tw3180210303299440456 tw8536872336625022788 tw5548029526507251151 tw10688061878379167697 tw988205946760414515 tw6860748970411704701 tw10101813633534680618 tw3933194559039348144 tw4774255764056746670 tw5334804213416303255 tw9730466065395170756 tw16228173818245461314 tw15105255866602604213 tw13690024041654220214 tw18004682618324053872 tw13891713261814946041 tw12183690971863566471 tw13642512479527901459 tw3891175213171590754 tw10653901319022458438 tw14807142324715224851 tw3249697812307189760 tw13060725244645295563 tw9023585175029350002 tw14985417911334079510 tw15589299146036587858 tw5054738546570894687 tw7688458192878278385 tw15114653467972472407 tw15951230409432206458 tw17138559133036959727 tw10894480650514978249 tw17644115226884254001 tw7272730312332635246 tw3665041556375540691 tw14333159628025193999 tw1781624940116622740 tw1514946551352592871 tw18433017654546675555 tw7096563507345696798 tw3467615150669342735 tw13075316481100607563 tw18364826340977986523 tw4039926311966537807 tw3088418874187792632 tw3015175541383407541 tw10961300092929070754 tw6063633550944401072 tw13896283145611784372 tw15584272256088169682 tw17760331922991752125 tw8799210375530931138 tw9268709741652971440 tw15007361894128229628 tw10463547057220183235 tw4129809818003538440 tw13143338137141936255 tw12940980027384183936 tw10341927513882195919 tw15969118560256245091 tw1300391456157480136 tw6718724810272177201 tw8229952266515867287 tw3783508884292713086 tw13895172802719055751 tw11081880410460110758 tw14161168479112511668 tw12506485960532334443 tw2339719723156685660 tw16626911859405587762 tw13844251514033316754 tw2399548248978101079 tw15581339369355237466 tw6930173179965801771 tw14123055511575598000 tw487577715723703276:True)
open PySem PySem.W PyProof.Rows
set_option maxRecDepth 100000 in
set_option maxHeartbeats 0 in
theorem PySem.Challenge.cw_shortpurse_k27_the_path_of_a_rule_holds : PySem.Challenge.rw_shortpurse_k27_the_path_of_a_rule.Holds := by
 w_on;o_law;k_head;(case hw=>w_witness2)
 k_fill
 refine K.walk (l:=PySem.Challenge.rw_shortpurse_k27_the_path_of_a_rule) rfl rfl (λw h Y=>PySem.W.kIn_of Y) ?F
 case F=>
  intro w mg fa h KX G Lh;refine' K.all_mk KX G Lh ?_ ?_ ?_ ?_ ?_ ?_ ?_ ?_ ?_ ?_ ?_ ?_ ?_ ?_ ?_ ?_ ?_ ?_ ?_ ?_ ?_ ?_ ?_ ?_ ?_ ?_ ?_ ?_ ?_ ?_ ?_ ?_ ?_ ?_ ?_ ?_ ?_ ?_ ?_ ?_ ?_ ?_ ?_ ?_ ?_ ?_ ?_ ?_ ?_ ?_ ?_ ?_ ?_ ?_ ?_ ?_ ?_ ?_ ?_ ?_ ?_ ?_ ?_ ?_ ?_ ?_ ?_ ?_ ?_ ?_ ?_ ?_ ?_ ?_ ?_ ?_ ?_ ?_ ?_ ?_ ?_ ?_ ?_ ?_ ?_ ?_ ?_ ?_ ?_ ?_ ?_ ?_ ?_ ?_ ?_ ?_ ?_ ?_ ?_ ?_ ?_ ?_ ?_ ?_ ?_ ?_ ?_ ?_ ?_ ?_ ?_
  all_goals try first
   |(refine' S.dk_mk KX G ?a ?l ?c ?k ?b;(case a=>k_is);(case l=>k_is);(case c=>k_is);(case k=>k_is);(case b=>first|(exact λ_ _ _ _ _ _=>S.all1 λ_=>rfl)|(exact λ_ _ _ _ _ _=>S.all2 λ_ _=>rfl)|(exact λ_ _ _ _ _ _=>S.all3 λ_ _ _=>rfl)|(exact λ_ _ _ _ _ _=>S.all4 λ_ _ _ _=>rfl)))
   |(refine' S.fk_mk ?l ?c ?k ?b;(case l=>k_is);(case c=>k_is);(case k=>k_is);(case b=>first|(exact λ_ _ _ _ _ _=>S.all1 λ_=>rfl)|(exact λ_ _ _ _ _ _=>S.all2 λ_ _=>rfl)|(exact λ_ _ _ _ _ _=>S.all3 λ_ _ _=>rfl)|(exact λ_ _ _ _ _ _=>S.all4 λ_ _ _ _=>rfl)))
   |(exact S.CkT.mk (by k_is) (by k_is) (by k_is) (by k_is) (by k_is) (by k_is) (by k_is) (by k_is) (by k_is) (by k_is) (by k_is) (by k_is) (by kit_is) (by k_is) (by k_is) (by k_is))
   |(refine' S.Bl.mk ?_ ?_ ?_ ?_ ?_ ?_ ?_ ?_ ?_ ?_ ?_ ?_ ?_ ?_ ?_ ?_;all_goals exact PySem.W.mg_none_of KX G (by k_is))
   |(refine' S.Bl3.mk ?_ ?_;all_goals exact PySem.W.mg_none_of KX G (by k_is))
   |(refine' S.Bl2.mk ?_ ?_;all_goals exact PySem.W.mg_none_of KX G (by k_is))
   |k_is
