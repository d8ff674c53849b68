import PyProof.Rows.All
import Wide.All
import OpenK.KLine
import OpenK.KWalk
import OpenK.KOwn
import KE.RegKIsAll
import KE.IntBitsLaws
import KE.KItem
import Wide.FinOn
import Lean
import PyProof.EqAt
import PyProof.EqKinds
import PyProof.TupleCall
import PyProof.Draws
import PyProof.EnumMake
import PyProof.ZipIter
import PyProof.Rows.SumAny
import KE.KRevIter
import PyProof.StrCalls2
import KE.KRevSl
import KE.LcSums
import PyProof.Rows.SetFrom
import PyProof.DictIter
import PyProof.CollectWalk
import PyProof.Rows.SortRev
import PySem.Challenge.RW_shortpurse_k32_two_by_two
set_option autoImplicit true
set_option relaxedAutoImplicit true
set_option compiler.extract_closed false
set_option genSizeOfSpec false
set_option Elab.async false
set_option linter.all false
set_option maxRecDepth 100000
set_option maxHeartbeats 4000000
def Qa:=@List.length_map
def Qb:=@List.getElem?_eq_getElem
def Qc:=@List.mem_of_getElem?
def Qd:=@List.getElem?_eq_some_iff
def Qe:=@List.mem_cons_self
def Qf:=@List.mem_cons_of_mem
def Qg:=@List.getElem?_map
def Qh:=@PySem.wpAny_bind
def Qi:=@List.mem_map
def Qj:=@PySem.Heap.get?_push_of_some
def Qk:=@List.map_cons
def Ql:=@List.getD_eq_getElem?_getD
def Qm:=@List.map_map
def Qn:=@List.mem_cons
def Qo:=@List.pairwise_cons
def Qp:=@List.not_mem_nil
def Qq:=@List.mem_singleton
def Qr:=@List.getElem?_zipWith
def Qt:=@PySem.wpAny_pure
def Qu:=@Nat.le_refl
def Qv:=@List.mem_iff_getElem?
def Qw:=@of_decide_eq_true
def Qx:=@PySem.Heap.get?_push_size
def Qy:=@List.length_cons
def Qz:=@PySem.Heap.lt_size
def QA:=@List.length_append
def QB:=@List.length_zipWith
def QC:=@List.map_congr_left
def QD:=@List.getElem?_eq_none
def QE:=@Rat.le_of_lt
def QF:=@List.length_replicate
def QG:=@List.mem_append_right
def QH:=@if_pos
def QI:=@List.getElem_of_mem
def QJ:=@Option.some.inj
def QK:=@Rat.intCast_le_intCast
def QL:=@List.size_toArray
def QM:=@Bool.false_ne_true
def QN:=@List.pairwise_iff_getElem
def QO:=@Rat.mul_nonneg
def QP:=@Rat.intCast_mul
def QQ:=@Rat.le_refl
def QR:=@List.sum_cons
def QS:=@if_neg
def QT:=@List.map_append
def QU:=@Nat.ne_of_lt
def QV:=@Int.fdiv_eq_ediv_of_nonneg
def QW:=@List.mem_append
def QX:=@List.getElem?_replicate
def QY:=@List.getElem_mem
def QZ:=@List.pairwise_map
def Ta:=@List.getElem_zipWith
def Tb:=@List.mem_filter
def Tc:=@Nat.le_trans
def Td:=@PySem.Heap.size_push
def Te:=@decide_eq_true
def Tf:=@Nat.lt_of_lt_of_le
def Tg:=@List.ext_getElem?
def Th:=@Int.fmod_eq_emod_of_nonneg
def Ti:=@Rat.not_lt
def Tj:=@List.getLast?_eq_some_getLast
def Tn:=@Int.toNat_natCast
def To:=@Rat.mul_inv_cancel
def Tp:=@Nat.lt_succ_self
def Tq:=@List.getElem?_append_right
def Tr:=@List.getElem?_zip_eq_some
def Ts:=@List.ext_getElem
def Tt:=@List.replicate_succ
def Tu:=@List.length_reverse
def Tv:=@List.take_of_length_le
def Tw:=@List.getElem_replicate
def Tx:=@Nat.min_self
def Tz:=@Nat.lt_succ_of_lt
def TB:=@List.cons_append
def TC:=@List.map_nil
def TF:=@decide_eq_false
def TH:=@List.length_singleton
def TK:=@PySem.wpAny_callSpecial?_slot
def TL:=@Rat.le_trans
def TM:=@List.getLast?_cons_cons
def TN:=@List.pairwise_append
def TQ:=@List.mem_of_mem_tail
def TR:=@List.length_drop
def TU:=@List.all_eq_true
def TV:=@PyProof.Rows.callWith_type1
def TX:=@List.nodup_cons
def TY:=@List.flatten_cons
def TZ:=@List.take_add_one
def jaa:=@Int.emod_lt_of_pos
def jab:=@PySem.Heap.SameBut.update
def jac:=@Rat.div_def
def jad:=@List.length_take
def jae:=@PySem.wpAny_call_entry
def jaf:=@PySem.wpAny_newObj_type
def jag:=@List.getElem?_append_left
def jah:=@List.append_assoc
def jai:=@List.mem_append_left
def jaj:=@List.mem_of_getLast?
def jak:=@List.zipWith_cons_cons
def jal:=@List.dropLast_concat_getLast
def jam:=@Int.emod_nonneg
def jan:=@Rat.not_le
def jao:=@List.pairwise_singleton
def jap:=@Nat.zero_le
def jaq:=@Nat.le_succ
def jar:=@PySem.wpAny_pyIter_tuple
def jas:=@List.getLast?_eq_getElem?
def jat:=@Nat.lt_irrefl
def jau:=@Array.length_toList
def jav:=@List.length_filter_le
def jaw:=@Int.gcd_pos_of_ne_zero_right
def jax:=@List.getElem?_drop
def jay:=@PySem.W.mg_of
def jaz:=@Bool.and_eq_true
def jaA:=@List.getElem_map
def jaB:=@Rat.intCast_lt_intCast
def jaC:=@PySem.wpAny_pyIter_list
def jaD:=@PySem.mem_of_lookup
def jaE:=@List.length_range
def jaF:=@List.getLast?_map
def jaG:=@PySem.Heap.get?_update_self
def jaH:=@List.length_set
def jaI:=@List.nil_append
def jaJ:=@Rat.divInt_mul_divInt
def jaK:=@Rat.le_antisymm
def jaL:=@Int.le_trans
def jaM:=@PySem.wpAny_Call_Name_kw
def jaN:=@Option.isSome_iff_exists
def jaO:=@List.lookup_cons
def jaP:=@PySem.wpAny_field
def jaQ:=@List.length_tail
def jaR:=@List.getElem?_set_ne
def jaS:=@Rat.lt_irrefl
def jaT:=@List.mem_singleton_self
def jaU:=@PyProof.Rows.F.plain_set_update_loop
def jaV:=@List.filterMap_cons
def jaW:=@PySem.W.kia_one
def jaX:=@List.append_nil
def jaY:=@List.map_const'
def jaZ:=@Rat.intCast_sub
def jba:=@List.length_pos_iff
def jbb:=@List.length_pos_of_mem
def jbc:=@PySem.F.slot_tuple_iterator_next
def jbd:=@Array.getElem?_eq_some_iff
def jbe:=@List.map_zipWith
def jbf:=@Nat.ne_of_gt
def jbg:=@PySem.wpAny_setField_rec
def jbh:=@List.Pairwise.sublist
def jbi:=@PySem.wpAny_seqItems
def jbj:=@PySem.wpAny_setField
def jbk:=@List.getElem?_eq_none_iff
def jbl:=@PySem.Around.under_plainId
def jbm:=@PySem.wpAny_passesOwn
def jbn:=@List.Sublist.refl
def jbo:=@List.length_filterMap_le
def jbp:=@Int.le_of_lt
def jbq:=@Int.mul_le_mul_of_nonneg_right
def jbr:=@PySem.wpAny_holding
def jbs:=@beq_eq_false_iff_ne
def jbt:=@Rat.mul_pos
def jbu:=@PySem.wpAny_setEntries_of
def jbv:=@List.zipWith_map
def jbw:=@List.filter_cons
def jbx:=@PySem.Heap.get?_update_other
def jby:=@PySem.SeqAt.canLay_of_shaped
def jbz:=@List.drop_eq_nil_of_le
def jbA:=@Rat.num_divInt_den
def jbB:=@List.map_replicate
def jbC:=@Bool.eq_iff_iff
def jbD:=@List.of_mem_zip
def jbE:=@PySem.wpAny_loadPart'
def jbF:=@Int.le_refl
def jbG:=@PySem.codeAny_builtin
def jbH:=@PySem.F.called_set
def jbI:=@PySem.wpAny_attempt
def jbJ:=@PySem.wpAny_setState_of
def jbK:=@List.Pairwise.imp
def jbL:=@List.drop_eq_getElem_cons
def jbM:=@List.mem_reverse
def jbN:=@Int.mul_one
def jbO:=@Nat.le_of_lt
def jbP:=@PySem.wpAny_comprehension_free
def jbQ:=@Rat.divInt_eq_divInt_iff
def jbR:=@Nat.zero_add
def jbS:=@Rat.zero_mul
def jbT:=@Int.gcd_dvd_natAbs_right
def jbU:=@List.mem_filterMap
def jbV:=@PySem.W.callWith_K
def jbW:=@Bool.false_eq_true
def jbX:=@PySem.Obj.data_mapFields
def jbY:=@Int.natCast_pow
def jbZ:=@List.getLast?_cons
def jca:=@PySem.wpAny_truthy_bool
def jcb:=@List.mem_range
def jcc:=@PySem.codeAny_mono
def jcd:=@Nat.le_of_ble_eq_true
def jce:=@PySem.wpAny_rule
abbrev Frg:=PySem.W.Frag
abbrev Pn:=List (PySem.Addr×PySem.Obj)
set_option exponentiation.threshold 2000
local macro_rules|`(⋯)=>`(by first|lia|omega)
local macro_rules|`(nofun)=>`(by decide)
local macro_rules|`(‹$h:ident›)=>`(by simpa using $h)
local macro_rules|`(‹()›)=>`(by walk_at "dats")
local macro_rules|`(tactic|walk_at "f")=>`(tactic|first|exact .inl rfl|exact .inr rfl|assumption)
local macro_rules|`(tactic|walk_at "o")=>`(tactic|first|exact Or.inl rfl|exact Or.inr rfl)
local macro_rules|`(tactic|walk_at "v")=>`(tactic|first|exact Or.inl rfl|exact Or.inr (Or.inl rfl)|exact Or.inr (Or.inr rfl))
local macro_rules|`(tactic|walk_at "l")=>`(tactic|first|decide|exact Qu _|lia|omega)
namespace L2
open PySem PySem.Spec PyProof.Rows
abbrev Key:=Sum Int Str
inductive V where
 |non|bl (b:Bool)|int (i:Int)|str (x:Str)|ref (a:Addr)|ty (n:String)
 deriving DecidableEq
def YF:V->Value->Prop
 | .non,u=>u=Value.none
 | .bl b,u=>u=Value.bool b
 | .int i,u=>∃t,u=Value.int i t
 | .str x,u=>∃t,u=Value.str x t
 | .ref a,u=>u=Value.ref a
 | .ty n,u=>u=Value.type n
abbrev xV:List V->List Value->Prop:=Paired YF
def xV.length {xs:List V} {us:List Value} (r:xV xs us):xs.length=us.length:=Paired.length r
theorem xV.get:∀{xs:List V} {us:List Value} {i:Nat} {x:V},xV xs us->xs[i]? =some x->∃u,us[i]? =some u/\YF x u
 |_,_,_,_, .nil,e=>by simp at e
 |_,_,0,_, .cons r _,e=>by simp at e;subst e;exact ⟨_,rfl,r⟩
 |_,_,i+1,x, .cons _ t,e=>by
  obtain ⟨u,m,g⟩:=xV.get (i:=i) (x:=x) t ‹e›;exact ⟨u,by simpa using m,g⟩
theorem xV.set {x:V} {u:Value} (r:YF x u):∀{xs:List V} {us:List Value} (i:Nat),xV xs us->xV (xs.set i x) (us.set i u)
 |_,_,_, .nil=> .nil
 |_,_,0, .cons _ t=> .cons r t
 |_,_,i+1, .cons q t=> .cons q (xV.set r i t)
def xV.append {xs ys:List V} {us ws:List Value} (h:xV xs us) (s:xV ys ws):xV (xs++ys) (us++ws):=by
 induction h with
 |nil=>exact s
 |cons r t g=>exact .cons r g
theorem xV.take:∀{xs:List V} {us:List Value} (n:Nat),xV xs us->xV (xs.take n) (us.take n)
 |_,_,0,_=> .nil
 |_,_,_+1, .nil=> .nil
 |_,_,n+1, .cons r t=> .cons r (xV.take n t)
theorem xV.drop:∀{xs:List V} {us:List Value} (n:Nat),xV xs us->xV (xs.drop n) (us.drop n)
 |_,_,0,r=>r
 |_,_,_+1, .nil=> .nil
 |_,_,n+1, .cons _ t=>xV.drop n t
def HU:Option V->Option Value->Prop
 |some v,some u=>YF v u
 |none,none=>True
 |_,_=>False
def kV:Key->V
 | .inl i=> .int i
 | .inr x=> .str x
inductive HO where
 |lst (xs:List V)
 |tup (xs:List V)
 |ins (C dx:Addr) (fs:List (Str×V))
 |own (x:Addr)
 |frz (o:Obj) (u:HO)
 |tbl (ps:Array Value)
abbrev Hp:=Addr->Option HO
def upd (H:Hp) (a:Addr) (o:HO):Hp:=λb=>if b=a then some o else H b
def yU {H:Hp} {a:Addr} {o:HO}:upd H a o a=some o:=by unfold upd;rw [QH rfl]
def ym {H:Hp} {a b:Addr} {o:HO} (h:b≠a):upd H a o b=H b:=by unfold upd;rw [QS h]
def yn {H:Hp} {a b:Addr} {o:HO} (h:H a=some o) (h':H b=none):a≠b:=by
 intro e;subst e;rw [h] at h';cases h'
section
variable (P:Program) (w:World)
def YU (P:Program) (w:World) (H:Hp) (h:Heap) (a:Addr):HO->Prop
 | .lst xs=>xs.length<=sizeLine/\∃(its:List Value) (n:Nat),xV xs its/\h.get? a=some {cls:= .type "list",data:= .seq its.toArray n}
 | .tup xs=>xs.length<=sizeLine/\∃its:List Value,xV xs its/\IsTup h a its.toArray
 | .ins C g fs=>H g=some (.own a)/\fs.length<=1000/\g≠a/\h.get? a=some (PySem.W.instObj C g)/\
  ∃m,h.Ns1 g m/\(∀f,HU (fs.lookup f) (m f))/\PySem.Within m (fs.map (·.1))
 | .own _=>∃o,h.get? a=some o
 | .frz o u=>h.get? a=some o/\YU P w H h a u
 | .tbl ps=>h.get? a=some {cls:= .none,data:= .fields ps}
def HOk (H:Hp) (h:Heap):Prop:=∀a o,H a=some o->YU P w H h a o
end
section
def YU.lt (x:YU P w H h a o):a<h.objs.size:=by
 cases o with
 |lst xs=>obtain ⟨_,_,_,_,e⟩:=x;exact Qz e
 |tup xs=>obtain ⟨_,_,_,p⟩:=x;exact p.lt
 |ins C m fs=>obtain ⟨_,_,_,e,_⟩:=x;exact Qz e
 |own y=>obtain ⟨_,e⟩:=x;exact Qz e
 |frz g u=>obtain ⟨e,_⟩:=x;exact Qz e
 |tbl ps=>exact Qz (show h.get? a=some _ from x)
def YU.stay (x:YU P w H h a o) (k:∀b u,(b=a\/H b=some (.own a))->h.get? b=some u->h'.get? b=some u)
 (t:∀b,H b=some (.own a)->H' b=some (.own a)) (ht:∀b xs,H b=some (.tup xs)->H' b=some (.tup xs)):YU P w H' h' a o:=by
 induction o with
 |lst xs=>obtain ⟨z,its,n,r,e⟩:=x;exact ⟨z,its,n,r,k _ _ (.inl rfl) e⟩
 |tup xs=>obtain ⟨z,its,r,g,e,c⟩:=x;exact ⟨z,its,r,g,k _ _ (.inl rfl) e,c⟩
 |ins C D fs=>
  obtain ⟨d,z,ne,e,p,⟨m,es,ep,A,c⟩,r⟩:=x;exact ⟨t _ d,z,ne,k _ _ (.inl rfl) e,p,⟨m,es,ep,k _ _ (.inr d) A,c⟩,r⟩
 |own y=>obtain ⟨g,e⟩:=x;exact ⟨g,k _ _ (.inl rfl) e⟩
 |frz g u s=>obtain ⟨e,q⟩:=x;exact ⟨k _ _ (.inl rfl) e,s q⟩
 |tbl ps=>
  have e:h.get? a=some {cls:= .none,data:= .fields ps}:=x;show h'.get? a=some {cls:= .none,data:= .fields ps};exact k a _ (.inl rfl) e
def HOk.lt (x:HOk P w H h) (e:H a=some o):a<h.objs.size:=(x a o e).lt
def HOk.fresh (x:HOk P w H h) (e:h.objs.size<=a):H a=none:=by
 cases q:H a with
 |none=>rfl
 |some u=>exact absurd (Tf (x.lt q) e) (jat _)
def HOk.kept (x:HOk P w H h) (k:∀b u,h.get? b=some u->h'.get? b=some u):HOk P w H h':=λa o e=>
 (x a o e).stay (λb u _ q=>k b u q) (λ_ q=>q) λ_ _ q=>q
def HOk.laid (x:HOk P w H h) (k:∀b u,h.get? b=some u->h'.get? b=some u) (hp:h.objs.size<=a) (new:YU P w (upd H a o) h' a o):HOk P w (upd H a o) h':=λb u e=>by
 have hn:=x.fresh hp
 by_cases g:b=a
 ·subst g;rw [yU] at e;cases e;exact new
 ·rw [ym g] at e;exact (x b u e).stay (λc v _ q=>k c v q) (λc q=>by rw [ym (yn q hn)];exact q) λc xs q=>by rw [ym (yn q hn)];exact q
end
def Rd (H:Hp) (a:Addr) (u:HO):Prop:=H a=some u\/∃o,H a=some (.frz o u)
def Rd.ok {P:Program} {w:World} {H:Hp} {h:Heap} {a:Addr} {u:HO} (r:Rd H a u) (x:HOk P w H h):YU P w H h a u:=by
 rcases r with r|⟨o,r⟩
 ·exact x a u r
 ·obtain ⟨_,q⟩:=x a _ r;exact q
def Mut:Option HO->Prop
 |some (.lst _)=>True
 |some (.ins _ _ _)=>True
 |_=>False
section
def HOk.write (ok:HOk P w H h) (p:Mut (H x)) (he:e=x\/H e=some (.own x)) (k:∀b u,b≠e->h.get? b=some u->h'.get? b=some u) (G:∃u,h'.get? e=some u)
 (new:YU P w (upd H x o') h' x o'):HOk P w (upd H x o') h':=λb u q=>by
 have g:∀c y,H c=some (.own y)->c≠x:=λc y r z=>by subst z;rw [r] at p;exact p
 have m:∀c xs,H c=some (.tup xs)->c≠x:=λc xs r z=>by subst z;rw [r] at p;exact p
 by_cases t:b=x
 ·subst t;rw [yU] at q;cases q;exact new
 ·rw [ym t] at q
  by_cases A:b=e
  ·have C:H b=some (.own x):=by
    rcases he with z|z
    ·exact absurd (A.trans z) t
    ·rw [A];exact z
   rw [q] at C;cases C;obtain ⟨v,D⟩:=G;exact ⟨v,by rw [A];exact D⟩
  ·refine (ok b u q).stay (λc v s r=>k c v ?_ r) (λc r=>by rw [ym (g c b r)];exact r) λc xs r=>by rw [ym (m c xs r)];exact r
   rcases s with rfl|s
   ·exact A
   ·rintro rfl
    rcases he with z|z
    ·exact g c b s z
    ·rw [s] at z;cases z;exact t rfl
end
structure Un (fs ex:List Addr) (H H':Hp) (h h':Heap):Prop where
 keep:∀b o,h.get? b=some o->H b=none->b∉fs->b∉ex->h'.get? b=some o
 slot:∀b o,h.get? b=some o->H b=none->b∈fs->b∉ex->∃sl,h'.get? b=some {o with slots:=sl}
 free:∀b o,h.get? b=some o->H b=none->b∉ex->H' b=none
 there:∀b o,h.get? b=some o->b∉ex->∃o',h'.get? b=some o'
 tups:∀b xs,H b=some (.tup xs)->H' b=some (.tup xs)
 frzs:∀b o u,H b=some (.frz o u)->H' b=some (.frz o u)
 tbls:∀b ps,H b=some (.tbl ps)->∃more,H' b=some (.tbl (ps++more))
section
def Un.any (u:Un fs ex H H1 h h1) {b:Addr} {g:Obj} (q:h.get? b=some g) (n:H b=none) (m:b∉ex):∃r,h1.get? b=some {g with slots:=r}:=by
 by_cases p:b∈fs
 ·exact u.slot b g q n p m
 ·exact ⟨g.slots,u.keep b g q n p m⟩
def Un.trans (a:Un fs ex H H1 h h1) (b:Un fs ex H1 H2 h1 h2):Un fs ex H H2 h h2 where
 keep:=λc g q n r m=>b.keep c g (a.keep c g q n r m) (a.free c g q n m) r m
 slot:=λc g q n r m=>by
  obtain ⟨w,p⟩:=a.slot c g q n r m;obtain ⟨u,t⟩:=b.slot c _ p (a.free c g q n m) r m;exact ⟨u,t⟩
 free:=λc g q n m=>by
  obtain ⟨s,p⟩:=a.there c g q m;exact b.free c s p (a.free c g q n m) m
 there:=λc g q m=>by
  obtain ⟨s,p⟩:=a.there c g q m;exact b.there c s p m
 tups:=λc xs q=>b.tups c xs (a.tups c xs q)
 frzs:=λc g xs q=>b.frzs c g xs (a.frzs c g xs q)
 tbls:=λc ps q=>by
  obtain ⟨m1,p⟩:=a.tbls c ps q;obtain ⟨m2,t⟩:=b.tbls c _ p;exact ⟨m1++m2,by rw [t,Array.append_assoc]⟩
def Un.kept (k:∀b u,h.get? b=some u->h'.get? b=some u):Un fs ex H H h h':=
 ⟨λb g q _ _ _=>k b g q,λb g q _ _ _=>⟨g.slots,k b g q⟩,λ_ _ _ n _=>n,λb g q _=>⟨g,k b g q⟩,λ_ _ q=>q,λ_ _ _ q=>q,λ_ ps q=>⟨#[],by rw [q];simp⟩⟩
def Un.refl:Un fs ex H H h h:=Un.kept λ_ _ q=>q
def Un.laid (k:∀b u,h.get? b=some u->h'.get? b=some u) (hp:h.objs.size<=a) (hn:H a=none):Un fs ex H (upd H a o) h h' where
 keep:=λb u q _ _ _=>k b u q
 slot:=λb u q _ _ _=>⟨u.slots,k b u q⟩
 free:=λb u q n _=>by rw [ym (QU (Tf (Qz q) hp))];exact n
 there:=λb u q _=>⟨u,k b u q⟩
 tups:=λb xs q=>by rw [ym (yn q hn)];exact q
 frzs:=λb u xs q=>by rw [ym (yn q hn)];exact q
 tbls:=λb ps q=>⟨#[],by rw [ym (yn q hn),q];simp⟩
def Un.write (g:Mut (H x)) (he:e=x\/H e=some (.own x)) (k:∀b u,b≠e->h.get? b=some u->h'.get? b=some u) (t:∃u,h'.get? e=some u):Un fs ex H (upd H x o) h h':=by
 have m:∀b,H b=none->b≠x:=λb n z=>by subst z;rw [n] at g;exact g
 have p:∀b,H b=none->b≠e:=λb n z=>by
  subst z
  rcases he with r|r
  ·exact m b n r
  ·rw [n] at r;cases r
 have hm:∀b u,H b=some u->¬Mut (some u)->b≠x:=λb u q nm z=>by subst z;rw [q] at g;exact nm g
 refine ⟨λb u q n _ _=>k b u (p b n) q,λb u q n _ _=>⟨u.slots,k b u (p b n) q⟩,λb u q n _=>by rw [ym (m b n)];exact n,λb u q _=>?_,
  λb xs q=>by rw [ym (hm b _ q λz=>z)];exact q,λb u xs q=>by rw [ym (hm b _ q λz=>z)];exact q,λb ps q=>⟨#[],by rw [ym (hm b _ q λz=>z),q];simp⟩⟩
 by_cases s:b=e
 ·subst s;exact t
 ·exact ⟨u,k b u s q⟩
end
def trk (h:Heap) (H:Hp):List Addr:=(List.range h.objs.size).filter λa=>(H a).isSome
def Hm (h:Heap) (H:Hp):Heap:=PySem.W.hideAll h (trk h H)
def DJ (h:Heap) (H:Hp):(Hm h H).objs.size=h.objs.size:=PySem.W.hideAll_size _ _
def Hl {h:Heap} {H:Hp} {b:Addr} {o:Obj} (e:h.get? b=some o) (n:H b=none):(Hm h H).get? b=some o:=
 PySem.W.hideAll_get _ e λhm=>by
  have q:(H b).isSome=true:=(Tb.mp hm).2;rw [n] at q;simp at q
def Ka {h:Heap} {H:Hp} {b:Addr} {o:Obj} (e:(Hm h H).get? b=some o):h.get? b=some o/\H b=none:=by
 have g:h.get? b=some o:=PySem.W.of_hideAll (trk h H) e;refine ⟨g,?_⟩
 cases q:H b with
 |none=>rfl
 |some x=>
  have hm:b∈trk h H:=Tb.mpr ⟨jcb.mpr (Qz g),by simp [q]⟩;have z:(Hm h H).get? b=none:=PySem.W.hideAll_none (trk h H) hm;rw [z] at e;cases e
def KU (g h:Heap) (L:Addr):List (Addr×Obj):=(List.range h.objs.size).filterMap λa=>if a=L\/(g.get? a).isSome=true then none else (h.get? a).map λo=>(a,o)
def rest (g h:Heap) (L d:Addr):List (Addr×Obj):=(KU g h L).filter λp=>decide (p.1≠d)
structure Mod (K:Frg) (mg:Str->Option Value) (base:Heap):Prop where
 kin:K.In base
 glob:base.Ns mainGlobals mg
 blt:∃mb,base.Ns builtinsNs mb/\∀x:Str,x≠"__name__"->mb x=bootBuiltins x
 nolimit:base.NoLimit
structure Cx where
 prog:Program
 w:World
 K:Frg
 mg:Str->Option Value
 base:Heap
 A:Around
 N:List Str
 s₀:Shared
 H₀:Hp
 env:Env
 outer:List Env
 stack:List Env
 ex:List Addr
 fn:Str->Bool
 calm:Bool
 pn:List (Addr×Obj)
 xe:Value->Shared->Prop
def frs (l:List Env):List Addr:=l.filterMap (·.frame)
abbrev Cx.fs (X:Cx):List Addr:=frs X.outer
def Vis (sc:Scope) (x:Str):Prop:=sc.names.lookup x=some .local\/sc.names.lookup x=some .cell\/sc.names.lookup x=some .free
def Loc (sc:Scope) (x:Str):Prop:=sc.names.lookup x=some .local\/sc.names.lookup x=some .cell
def Look (env:Env) (h:Heap) (m:Str->Option Value) (x:Str) (u:Value):Prop:=
 (env.kindOf x=some .local/\m x=some u)\/((env.kindOf x=some .cell\/env.kindOf x=some .free)/\∃c,env.cells.lookup x=some c/\h.IsCell c (some u))
structure Cx.Ok (X:Cx):Prop where
 mod:Mod X.K X.mg X.base
 kind:X.env.scope.kind= .function
 glob:X.env.globals=mainGlobals
 blt:X.env.builtins=builtinsNs
 above:X.s₀.heap.objs.size<=X.env.locals
 inj:∀x y c,X.env.cells.lookup x=some c->X.env.cells.lookup y=some c->x=y
 has:∀x,(X.env.kindOf x=some .cell\/X.env.kindOf x=some .free)->∃c,X.env.cells.lookup x=some c
 cab:∀x c,X.fn x=true->X.env.cells.lookup x=some c->X.s₀.heap.objs.size<=c
 hd:X.calm=true->X.A.handled=none
 frames:X.A.frames=some X.stack
 stk:X.stack=X.outer\/(X.stack=X.env::X.outer/\X.env.frame=some X.env.locals)
 exf:∀b∈X.ex,b≠X.env.locals/\∀x c,X.env.cells.lookup x=some c->c≠b
 bs:∀b o,X.base.get? b=some o->X.s₀.heap.get? b=some o/\X.H₀ b=none
 bsz:X.base.objs.size<=X.s₀.heap.objs.size
 noex:∀b o,X.base.get? b=some o->b∉X.ex
 exfs:∀b∈X.ex,b∉X.fs
 funs:X.s₀.heap.FunFrames X.base X.outer
 frf:∀b∈X.fs,X.H₀ b=none
structure Inv (X:Cx) (pins:Pn) (σ:List (Option V)) (H:Hp) (s:Shared):Prop where
 ok:X.Ok
 os:s.os=X.s₀.os
 bare:AllBare s.gens
 base:Un X.fs X.ex X.H₀ H X.s₀.heap s.heap
 loc:∃m,s.heap.Ns X.env.locals m/\∀(i:Nat) (x:Str) (v:V),X.N[i]? =some x->σ[i]? =some (some v)->Vis X.env.scope x->∃u,YF v u/\Look X.env s.heap m x u
 cell:∀x c,X.env.cells.lookup x=some c->∃v,s.heap.IsCell c v
 free:H X.env.locals=none
 freeC:∀x c,X.env.cells.lookup x=some c->H c=none
 pin:∀p∈X.pn++pins,s.heap.get? p.1=some p.2/\H p.1=none/\p.1≠X.env.locals/\p.1∉X.fs/\∀v,p.2.data≠ .cell v
 hok:HOk X.prog X.w H s.heap
 len:σ.length=X.N.length
section
variable {X:Cx} {pins:Pn} {σ:List (Option V)} {H H':Hp} {s:Shared}
def Cx.Ok.nofr (ok:X.Ok) {b:Addr} {o:Obj} (e:X.base.get? b=some o):b∉X.fs:=λg=>by
 have:=(ok.funs.mem g).1;rw [e] at this;cases this
def Inv.bs (I:Inv X pins σ H s):∀b o,X.base.get? b=some o->s.heap.get? b=some o/\H b=none:=λb o e=>
 ⟨I.base.keep b o (I.ok.bs b o e).1 (I.ok.bs b o e).2 (I.ok.nofr e) (I.ok.noex b o e),I.base.free b o (I.ok.bs b o e).1 (I.ok.bs b o e).2 (I.ok.noex b o e)⟩
def Inv.bk (I:Inv X pins σ H s):∀b o,X.base.get? b=some o->s.heap.get? b=some o:=λb o e=>(I.bs b o e).1
def Inv.mod (I:Inv X pins σ H s):Mod X.K X.mg X.base:=I.ok.mod
def Inv.kIn (I:Inv X pins σ H s):X.K.In s.heap:=I.ok.mod.kin.keeps I.bk
def Inv.lt (I:Inv X pins σ H s):X.env.locals<s.heap.objs.size:=by
 obtain ⟨_,hn,_⟩:=I.loc;exact hn.lt
def Inv.sz (I:Inv X pins σ H s):X.s₀.heap.objs.size<=s.heap.objs.size:=Tc I.ok.above (jbO I.lt)
def Inv.nofs (I:Inv X pins σ H s) {a:Addr} (h:s.heap.objs.size<=a):a∉X.fs:=λm=>by
 obtain ⟨_,o,g,_⟩:=I.ok.funs.mem m;exact absurd (Tf (Qz g) (Tc I.sz h)) (jat _)
def Inv.cne (I:Inv X pins σ H s):∀x c,X.env.cells.lookup x=some c->c≠X.env.locals:=λx c e z=>by
 obtain ⟨v,o,g,hd⟩:=I.cell x c e;obtain ⟨m,⟨r,es,ep,p,q,_⟩,_⟩:=I.loc;rw [z,p] at g;cases g;rw [q] at hd;cases hd
def Inv.funs (I:Inv X pins σ H s):s.heap.FunFrames X.base X.outer:=by
 have all:∀(l:List Env),(∀b∈frs l,b∈X.fs)->X.s₀.heap.FunFrames X.base l->s.heap.FunFrames X.base l:=by
  intro l
  induction l with
  |nil=>intro _ _;trivial
  |cons env r q=>
   intro p u;obtain ⟨w,⟨L,o,hf,hn,t,hd⟩,hr⟩:=u;have m:L∈X.fs:=p L (by unfold frs;rw [jaV,hf];exact Qe);obtain ⟨y,e⟩:=I.base.slot L o t (I.ok.frf L m) m λz=>I.ok.exfs L z m;exact ⟨w,⟨L,_,hf,hn,e,hd⟩,q (λb g=>p b (by unfold frs;rw [jaV,hf];exact Qf _ g)) hr⟩
 exact all X.outer (λ_ g=>g) I.ok.funs
def Inv.stack (I:Inv X pins σ H s):s.heap.FunFrames X.base X.stack:=by
 rcases I.ok.stk with e|⟨e,hf⟩
 ·rw [e];exact I.funs
 ·rw [e];obtain ⟨m,hn,_⟩:=I.loc;refine .cons (by rw [I.ok.kind];decide) hf hn ?_ I.funs;exact Heap.get?_none_of_le (Tc I.ok.bsz I.ok.above)
def Inv.stkSub (I:Inv X pins σ H s):∀b∈frs X.stack,b∈X.env.locals::X.fs:=λb g=>by
 rcases I.ok.stk with e|⟨e,hf⟩
 ·rw [e] at g;exact Qf _ g
 ·rw [e] at g;unfold frs at g;rw [jaV,hf] at g;exact g
def Inv.stkFree (I:Inv X pins σ H s):∀b∈frs X.stack,H b=none:=λb g=>by
 rcases Qn.mp (I.stkSub b g) with e|g
 ·rw [e];exact I.free
 ·obtain ⟨_,o,m,_⟩:=I.ok.funs.mem g;exact I.base.free b o m (I.ok.frf b g) λz=>I.ok.exfs b z g
def Inv.step {g':Array GenState} {t':Nat} {d':Drawn} {ch:List Addr} (I:Inv X pins σ H s)
 (L:∀b∈ch,(b∈X.ex\/X.s₀.heap.objs.size<=b)/\b≠X.env.locals/\(∀x c,X.env.cells.lookup x=some c->c≠b)/\∀p∈X.pn++pins,p.1≠b)
 (keep:∀b o,b≠X.env.locals->b∉X.fs->b∉ch->s.heap.get? b=some o->H b=none->h'.get? b=some o)
 (slot:∀b o,b≠X.env.locals->b∈X.fs->b∉ch->s.heap.get? b=some o->H b=none->∃M,h'.get? b=some {o with slots:=M}) (free:∀b o,b∉ch->s.heap.get? b=some o->H b=none->H' b=none)
 (there:∀b o,b∉ch->s.heap.get? b=some o->∃G,h'.get? b=some G)
 (tups:∀b xs,H b=some (.tup xs)->H' b=some (.tup xs)) (frzs:∀b o u,H b=some (.frz o u)->H' b=some (.frz o u)) (tbls:∀b ps,H b=some (.tbl ps)->∃more,H' b=some (.tbl (ps++more)))
 (ns:∀m,s.heap.Ns X.env.locals m->h'.Ns X.env.locals m) (hok:HOk X.prog X.w H' h') (P:AllBare g'):
 Inv X pins σ H' {s with heap:=h',gens:=g',drawn:=d',toks:=t'}:=by
 have J:∀b o,X.s₀.heap.get? b=some o->b≠X.env.locals:=λb o e=>QU (Tf (Qz e) I.ok.above)
 have y:∀b o,X.s₀.heap.get? b=some o->b∉X.ex->b∉ch:=λb o e g C=>by
  rcases (L b C).1 with z|z
  ·exact g z
  ·exact absurd (Tf (Qz e) z) (jat _)
 have cellK:∀x c,X.env.cells.lookup x=some c->∀v,s.heap.IsCell c v->h'.IsCell c v:=λx c e v ⟨o,D,hd⟩=>by
  have t:c∉ch:=λz=>(L c z).2.2.1 x c e rfl
  by_cases N:c∈X.fs
  ·obtain ⟨M,q⟩:=slot c o (I.cne x c e) N t D (I.freeC x c e);exact ⟨_,q,hd⟩
  ·exact ⟨o,keep c o (I.cne x c e) N t D (I.freeC x c e),hd⟩
 refine ⟨I.ok,I.os,P,⟨λb o e n C g=>?_,λb o e n C g=>?_,λb o e n g=>?_,λb o e g=>?_,λb xs e=>tups b xs (I.base.tups b xs e),λb o xs e=>frzs b o xs (I.base.frzs b o xs e),λb ps e=>?_⟩,?_,λx c e=>?_,?_,λx c e=>?_,λp hp=>?_,hok,I.len⟩
 ·exact keep b o (J b o e) C (y b o e g) (I.base.keep b o e n C g) (I.base.free b o e n g)
 ·obtain ⟨M,A⟩:=I.base.slot b o e n C g;obtain ⟨U,K⟩:=slot b _ (J b o e) C (y b o e g) A (I.base.free b o e n g);exact ⟨U,K⟩
 ·obtain ⟨G,A⟩:=I.base.there b o e g;exact free b G (y b o e g) A (I.base.free b o e n g)
 ·obtain ⟨G,A⟩:=I.base.there b o e g;exact there b G (y b o e g) A
 ·obtain ⟨m1,A⟩:=I.base.tbls b ps e;obtain ⟨m2,K⟩:=tbls b _ A;exact ⟨m1++m2,by rw [K,Array.append_assoc]⟩
 ·obtain ⟨m,hn,O⟩:=I.loc;refine ⟨m,ns m hn,λi x v A K T=>?_⟩;obtain ⟨u,r,l⟩:=O i x v A K T;refine ⟨u,r,?_⟩
  rcases l with l|⟨k,c,e,z⟩
  ·exact .inl l
  ·exact .inr ⟨k,c,e,cellK x c e _ z⟩
 ·obtain ⟨v,z⟩:=I.cell x c e;exact ⟨v,cellK x c e v z⟩
 ·obtain ⟨m,⟨o,_,_,D,_⟩,_⟩:=I.loc;exact free _ o (λz=>(L _ z).2.1 rfl) D I.free
 ·obtain ⟨v,o,D,hd⟩:=I.cell x c e;exact free c o (λz=>(L c z).2.2.1 x c e rfl) D (I.freeC x c e)
 ·obtain ⟨e,n,ne,nf,d⟩:=I.pin p hp;have t:p.1∉ch:=λz=>(L p.1 z).2.2.2 p hp rfl;exact ⟨keep p.1 p.2 ne nf t e n,free p.1 p.2 t e n,ne,nf,d⟩
def Inv.un {t':Nat} (I:Inv X pins σ H s) (u:Un X.fs [] H H' s.heap h') (hok:HOk X.prog X.w H' h'):Inv X pins σ H' {s with heap:=h',toks:=t'}:=by
 obtain ⟨m,⟨o,es,ep,q,r⟩,_⟩:=id I.loc;obtain ⟨D,A⟩:=u.any q I.free (by simp)
 exact I.step (g':=s.gens) (d':=s.drawn) (ch:=[]) (λ_ z=>nomatch z) (λb o _ g _ e n=>u.keep b o e n g (by simp)) (λb o _ g _ e n=>u.slot b o e n g (by simp)) (λb o _ e n=>u.free b o e n (by simp)) (λb o _ e=>u.there b o e (by simp)) u.tups u.frzs u.tbls (λJ hm=>by
  obtain ⟨G,p,C,t,y⟩:=hm;rw [q] at t;cases t
  exact ⟨_,p,C,A,y⟩) hok I.bare
def Inv.call {g':Array GenState} {t':Nat} {d':Drawn} {ch:List Addr} (I:Inv X pins σ H s) (u:Un (frs X.stack) ch H H' s.heap h') (hok:HOk X.prog X.w H' h') (G:AllBare g')
 (C:∀b∈ch,(b∈X.ex\/X.s₀.heap.objs.size<=b)/\b≠X.env.locals/\(∀x c,X.env.cells.lookup x=some c->c≠b)/\∀p∈X.pn++pins,p.1≠b):
 Inv X pins σ H' {s with heap:=h',gens:=g',drawn:=d',toks:=t'}:=by
 obtain ⟨m,⟨o,es,ep,y,r⟩,_⟩:=id I.loc;obtain ⟨L,q⟩:=u.any y I.free λz=>(C _ z).2.1 rfl
 exact I.step (ch:=ch) C (λb o q J g e n=>u.keep b o e n (λz=>(Qn.mp (I.stkSub b z)).elim q J) g) (λb o _ _ g e n=>u.any e n g) (λb o g e n=>u.free b o e n g) (λb o g e=>u.there b o e g) u.tups u.frzs u.tbls (λN hm=>by
  obtain ⟨M,t,K,A,D⟩:=hm;rw [y] at A;cases A
  exact ⟨_,t,K,q,D⟩) hok G
def Inv.turned {t':Nat} {it:Addr} (I:Inv X pins σ H s) (k:∀b o,b≠it->s.heap.get? b=some o->h'.get? b=some o) (hn:H it=none) (w:it≠X.env.locals)
 (G:it∈X.ex\/X.s₀.heap.objs.size<=it) (D:∀x c,X.env.cells.lookup x=some c->c≠it) (C:∀p∈X.pn++pins,p.1≠it):Inv X pins σ H {s with heap:=h',toks:=t'}:=by
 have t:∀b u,H b=some u->b≠it:=λb u e z=>by rw [z,hn] at e;cases e
 refine I.step (g':=s.gens) (d':=s.drawn) (ch:=[it]) (λb A=>?_) (λb o _ _ g e _=>k b o (λz=>g (by simp [z])) e) (λb o _ _ g e _=>⟨o.slots,k b o (λz=>g (by simp [z])) e⟩) (λ_ _ _ _ n=>n)
  (λb o g e=>⟨o,k b o (λz=>g (by simp [z])) e⟩) (λ_ _ e=>e) (λ_ _ _ e=>e) (λb ps e=>⟨#[],by rw [e];simp⟩) (λm hm=>?_) (λb u e=>?_) I.bare
 ·have e:b=it:=by simpa using A
  subst e;exact ⟨G,w,D,C⟩
 ·obtain ⟨o,es,ep,y,r⟩:=hm;exact ⟨o,es,ep,k _ o (Ne.symm w) y,r⟩
 ·refine (I.hok b u e).stay (λc v g q=>k c v ?_ q) (λ_ q=>q) λ_ _ q=>q
  rcases g with z|z
  ·rw [z];exact t b u e
  ·exact t c _ z
def Inv.tok (I:Inv X pins σ H s) (t:Nat):Inv X pins σ H {s with toks:=t}:=I.un (h':=s.heap) (t':=t) Un.refl I.hok
def Inv.kept {t':Nat} (I:Inv X pins σ H s) (k:∀b u,s.heap.get? b=some u->h'.get? b=some u):Inv X pins σ H {s with heap:=h',toks:=t'}:=I.un (Un.kept k) (I.hok.kept k)
def Inv.laid {a:Addr} {o:HO} {t':Nat} (I:Inv X pins σ H s) (k:∀b u,s.heap.get? b=some u->h'.get? b=some u) (hp:s.heap.objs.size<=a) (new:YU X.prog X.w (upd H a o) h' a o):
 Inv X pins σ (upd H a o) {s with heap:=h',toks:=t'}:=I.un (Un.laid k hp (I.hok.fresh hp)) (I.hok.laid k hp new)
def Inv.write {x e:Addr} {o:HO} {t':Nat} (I:Inv X pins σ H s) (g:Mut (H x)) (he:e=x\/H e=some (.own x)) (k:∀b u,b≠e->s.heap.get? b=some u->h'.get? b=some u) (m:∃u,h'.get? e=some u)
 (new:YU X.prog X.w (upd H x o) h' x o):Inv X pins σ (upd H x o) {s with heap:=h',toks:=t'}:=I.un (Un.write g he k m) (I.hok.write g he k m new)
def Inv.weak {σ':List (Option V)} (I:Inv X pins σ H s) (g:σ'.length=σ.length) (w:∀(i:Nat) v,σ'[i]? =some (some v)->σ[i]? =some (some v)):Inv X pins σ' H s:=
 ⟨I.ok,I.os,I.bare,I.base,let ⟨m,hn,t⟩:=I.loc;⟨m,hn,λi x v r q p=>t i x v r (w i v q) p⟩,I.cell,I.free,I.freeC,I.pin,I.hok,g.trans I.len⟩
def Inv.pins_of {g:List (Addr×Obj)} (I:Inv X pins σ H s) (h:∀p∈g,s.heap.get? p.1=some p.2/\H p.1=none/\p.1≠X.env.locals/\p.1∉X.fs/\∀v,p.2.data≠ .cell v):Inv X g σ H s:=
 ⟨I.ok,I.os,I.bare,I.base,I.loc,I.cell,I.free,I.freeC,λp hp=>(QW.mp hp).elim (λz=>I.pin p (jai _ z)) (h p),I.hok,I.len⟩
def uh {N:List Str} (g:N.Nodup) {i j:Nat} {x:Str} (a:N[i]? =some x) (b:N[j]? =some x):i=j:=by
 obtain ⟨r,p⟩:=Qd.mp a;obtain ⟨q,m⟩:=Qd.mp b;exact (List.getElem_inj g).mp (p.trans m.symm)
def oi {M:Model} {A:Around} {E:Value->Shared->Prop} {i:Nat} {x:Str} {v:V} {u:Value} {Q:Unit->Shared->Prop} (I:Inv X pins σ H s) (hN:X.N.Nodup) (K:X.N[i]? =some x) (D:Loc X.env.scope x) (r:YF v u)
 (h:∀s',Inv X pins (σ.set i (some v)) H s'->(∃a,Heap.SameBut a s.heap s'.heap/\(a=X.env.locals\/X.env.cells.lookup x=some a))->Q () s') (hf:X.fn x=true\/X.env.scope.names.lookup x=some .local:=by walk_at "f"):wpAny M A (storeName X.env x u) Q E s:=by
 obtain ⟨m,hn,hl⟩:=id I.loc;have Y:(X.env.scope.kind== .class||(X.env.scope.kind== .module && X.env.locals !=X.env.globals))=false:=by rw [I.ok.kind];rfl
 have Kσ:i<σ.length:=by rw [I.len];exact (Qd.mp K).1
 have cne:=I.cne
 have tracked:∀{a:Addr} {h':Heap},(∃o,s.heap.get? a=some o/\H a=none)->Heap.SameBut a s.heap h'->HOk X.prog X.w H h':=λ{a h'} ha g b ob e=>by
  obtain ⟨_,_,OM⟩:=ha;refine (I.hok b ob e).stay (λc Z C q=>(g.2 c ?_).trans q) (λ_ q=>q) λ_ _ q=>q
  rintro rfl
  rcases C with rfl|C
  ·rw [OM] at e;cases e
  ·rw [OM] at C;cases C
 rcases D with J|J
 ·refine wpAny_storeName_local J hn (λh' hn' g=>?_) Y;obtain ⟨oL,_,_,hoL,_⟩:=id hn;refine h _ ⟨I.ok,I.os,I.bare,⟨λb o e n P D=>?_,λb o e n P D=>?_,I.base.free,λb o e D=>?_,I.base.tups,I.base.frzs,I.base.tbls⟩,⟨_,hn',λj y v' t G e3=>?_⟩,λy c e=>?_,I.free,I.freeC,λp hp=>?_,tracked ⟨oL,hoL,I.free⟩ g,by simpa using I.len⟩ ⟨_,g, .inl rfl⟩
  ·exact (g.2 b (QU (Tf (Qz e) I.ok.above))).trans (I.base.keep b o e n P D)
  ·obtain ⟨sl,t⟩:=I.base.slot b o e n P D;exact ⟨sl,(g.2 b (QU (Tf (Qz e) I.ok.above))).trans t⟩
  ·obtain ⟨o',t⟩:=I.base.there b o e D;exact ⟨o',(g.2 b (QU (Tf (Qz e) I.ok.above))).trans t⟩
  ·by_cases L:j=i
   ·subst L;rw [K] at t;cases t;rw [List.getElem?_set_self Kσ] at G;cases G;exact ⟨u,r, .inl ⟨J,by simp⟩⟩
   ·rw [jaR (Ne.symm L)] at G;obtain ⟨u',r',q⟩:=hl j y v' t G e3;refine ⟨u',r',?_⟩
    rcases q with ⟨k,e⟩|⟨k,c,e,z⟩
    ·refine .inl ⟨k,?_⟩;have:y≠x:=λe=>L (uh hN t (e▸K));simp [this,e]
    ·exact .inr ⟨k,c,e,z.sameBut g (cne y c e)⟩
  ·obtain ⟨Z,z⟩:=I.cell y c e;exact ⟨Z,z.sameBut g (cne y c e)⟩
  ·obtain ⟨e,n,ne,nf,d⟩:=I.pin p hp;exact ⟨(g.2 p.1 ne).trans e,n,ne,nf,d⟩
 ·have O:X.fn x=true:=by
   rcases hf with z|z
   ·exact z
   ·rw [z] at J;cases J
  obtain ⟨c,C⟩:=I.ok.has x (.inl J);obtain ⟨Z,z⟩:=I.cell x c C;refine wpAny_storeName_cell I.ok.kind J C z (λh' Mx g=>?_);obtain ⟨oc,U,T⟩:=id z;refine h {s with heap:=h'} ⟨I.ok,I.os,I.bare,⟨λb o e n P D=>?_,λb o e n P D=>?_,I.base.free,λb o e D=>?_,I.base.tups,I.base.frzs,I.base.tbls⟩,⟨m,hn.sameBut g (Ne.symm (cne x c C)),λj y v' t G e3=>?_⟩,λy c' e=>?_,I.free,I.freeC,λp hp=>?_,tracked ⟨oc,U,I.freeC x c C⟩ g,by simpa using I.len⟩ ⟨c,g, .inr C⟩
  ·exact (g.2 b (QU (Tf (Qz e) (I.ok.cab x c O C)))).trans (I.base.keep b o e n P D)
  ·obtain ⟨sl,t⟩:=I.base.slot b o e n P D;exact ⟨sl,(g.2 b (QU (Tf (Qz e) (I.ok.cab x c O C)))).trans t⟩
  ·obtain ⟨o',t⟩:=I.base.there b o e D;exact ⟨o',(g.2 b (QU (Tf (Qz e) (I.ok.cab x c O C)))).trans t⟩
  ·by_cases L:j=i
   ·subst L;rw [K] at t;cases t;rw [List.getElem?_set_self Kσ] at G;cases G;exact ⟨u,r, .inr ⟨.inl J,c,C,Mx⟩⟩
   ·rw [jaR (Ne.symm L)] at G;obtain ⟨u',r',q⟩:=hl j y v' t G e3;refine ⟨u',r',?_⟩
    rcases q with q|⟨k,c',e,z'⟩
    ·exact .inl q
    ·refine .inr ⟨k,c',e,z'.sameBut g ?_⟩
     rintro rfl
     exact L (uh hN t (I.ok.inj _ _ _ e C▸K))
  ·by_cases So:c'=c
   ·subst So;exact ⟨_,Mx⟩
   ·obtain ⟨w2,z2⟩:=I.cell y c' e;exact ⟨w2,z2.sameBut g So⟩
  ·obtain ⟨e,n,ne,nf,d⟩:=I.pin p hp;refine ⟨(g.2 p.1 ?_).trans e,n,ne,nf,d⟩;intro q;rw [q,U] at e;have q':oc=p.2:=QJ e;exact d Z (by rw [<-q'];exact T)
def UQ {M:Model} {A:Around} {E:Value->Shared->Prop} {i:Nat} {x:Str} {v:V} {u:Value} {Q:Unit->Shared->Prop} (I:Inv X pins σ H s) (q:X.N.Nodup) (p:X.N[i]? =some x) (m:Loc X.env.scope x) (r:YF v u)
 (h:∀g,Inv X pins (σ.set i (some v)) H g->Q () g) (hf:X.fn x=true\/X.env.scope.names.lookup x=some .local:=by walk_at "f"):wpAny M A (storeName X.env x u) Q E s:=
 oi I q p m r (λg t _=>h g t) hf
def Inv.call' {g:Shared} {ch:List Addr} (I:Inv X pins σ H s) (q:g.os=s.os) (u:Un (frs X.stack) ch H H' s.heap g.heap) (hok:HOk X.prog X.w H' g.heap) (r:AllBare g.gens)
 (t:∀b∈ch,(b∈X.ex\/X.s₀.heap.objs.size<=b)/\b≠X.env.locals/\(∀x c,X.env.cells.lookup x=some c->c≠b)/\∀p∈X.pn++pins,p.1≠b):Inv X pins σ H' g:=by
 obtain ⟨h',g',d',t',m⟩:=g;have e:m=s.os:=q;subst e;exact I.call (g':=g') (t':=t') (d':=d') u hok r t
end
abbrev XK:=Value->Option Addr->Hp->Prop
abbrev St:=List (Option V)
abbrev VK:=V->Hp->Prop
abbrev TE:=St->Hp->VK->Prop
abbrev TT:=St->Hp->(Bool->Hp->Prop)->Prop
abbrev TA:=St->Hp->(List V->Hp->Prop)->Prop
structure Ends where
 nx:St->Hp->Prop
 rt:VK
 bk:St->Hp->Prop:=λ_ _=>False
 ct:St->Hp->Prop:=λ_ _=>False
abbrev TS:=Ends->St->Hp->Prop
def EP (X:Cx) (pins:Pn) (σ:St) (Q:VK) (u:Value) (g:Shared):Prop:=∃v H',Inv X pins σ H' g/\YF v u/\Q v H'
def TP (X:Cx) (pins:Pn) (σ:St) (Q:Bool->Hp->Prop) (b:Bool) (g:Shared):Prop:=∃H',Inv X pins σ H' g/\Q b H'
def AP (X:Cx) (pins:Pn) (σ:St) (Q:List V->Hp->Prop) (us:List Value) (g:Shared):Prop:=∃vs H',Inv X pins σ H' g/\xV vs us/\Q vs H'
def SP (X:Cx) (pins:Pn) (D:Ends) (f:Flow) (g:Shared):Prop:=
 match f with
 | .next=>∃σ' H',Inv X pins σ' H' g/\D.nx σ' H'
 | .brk=>∃σ' H',Inv X pins σ' H' g/\D.bk σ' H'
 | .cont=>∃σ' H',Inv X pins σ' H' g/\D.ct σ' H'
 | .ret u=>∃v σ' H',Inv X pins σ' H' g/\YF v u/\D.rt v H'
def PE (X:Cx) (e:Expr) (t:TE):Prop:=
 ∀(pins:Pn) (s:Shared) (σ:St) (H:Hp) (Q:VK),Inv X pins σ H s->t σ H Q->wpAny (model X.prog X.w) X.A (eval e X.env) (EP X pins σ Q) X.xe s
def PT (X:Cx) (e:Expr) (t:TT):Prop:=
 ∀(pins:Pn) (s:Shared) (σ:St) (H:Hp) (Q:Bool->Hp->Prop),Inv X pins σ H s->t σ H Q->wpAny (model X.prog X.w) X.A (isTrue e X.env (eval e X.env)) (TP X pins σ Q) X.xe s
def PW (X:Cx) (e:Expr) (t:TT):Prop:=
 ∀(whole:Sem Value) (pins:Pn) (s:Shared) (σ:St) (H:Hp) (Q:Bool->Hp->Prop),Inv X pins σ H s->t σ H Q->wpAny (model X.prog X.w) X.A (isTrue e X.env whole) (TP X pins σ Q) X.xe s
def PW.pt {X:Cx} {e:Expr} {t:TT} (h:PW X e t):PT X e t:=h _
def PA (X:Cx) (es:List Expr) (t:TA):Prop:=
 ∀(pos:Pos) (pins:Pn) (s:Shared) (σ:St) (H:Hp) (Q:List V->Hp->Prop),Inv X pins σ H s->t σ H Q->wpAny (model X.prog X.w) X.A (spliced (backTo pos (starEach es X.env))) (AP X pins σ Q) X.xe s
def PS (X:Cx) (st:Stmt) (t:TS):Prop:=
 ∀(pins:Pn) (s:Shared) (σ:St) (H:Hp) (D:Ends),Inv X pins σ H s->t D σ H->wpAny (model X.prog X.w) X.A (exec st X.env) (SP X pins D) X.xe s
def PSs (X:Cx) (st:List Stmt) (t:TS):Prop:=
 ∀(pins:Pn) (s:Shared) (σ:St) (H:Hp) (D:Ends),Inv X pins σ H s->t D σ H->wpAny (model X.prog X.w) X.A (execs st X.env) (SP X pins D) X.xe s
def thn {α:Type} {t:Sem α} {Q g:α->Shared->Prop} {M:Model} {A:Around} {E:Value->Shared->Prop} {s:Shared} (h:wpAny M A t Q E s) (m:∀a s,Q a s->g a s):wpAny M A t g E s:=wpAny_mono h m λ_ _ x=>x
section
variable {X:Cx}
def tVar (i:Nat):TE:=λσ H Q=>∃v,σ[i]? =some (some v)/\Q v H
def tC (v:V):TE:=λ_ H Q=>Q v H
def pe_var {i:Nat} {x:Str} {pos:Pos} (y:X.N[i]? =some x) (t:Vis X.env.scope x) (hd:(x==("__debug__":Str))=false:=by decide) (z:(x==("__classdict__":Str))=false:=by decide):PE X (.Name x pos) (tVar i):=by
 intro pins s σ H Q I h;obtain ⟨v,e,h⟩:=h;obtain ⟨m,hn,w⟩:=I.loc;obtain ⟨u,r,l⟩:=w i x v y e t;have fin:EP X pins σ Q u s:=⟨v,H,I,r,h⟩
 rcases l with ⟨g,hm⟩|⟨g,c,p,q⟩
 ·exact wpAny_Name (wpAny_loadName_local I.ok.kind g hn hm fin) hd
 ·rcases g with g|g
  ·exact wpAny_Name (wpAny_loadName_cell I.ok.kind g p q fin) hd
  ·exact wpAny_Name (wpAny_loadName_free I.ok.kind g p q fin z) hd
def ug {i j pos}:PE X (.Constant (.int i) j pos) (tC (.int i)):=λ_ _ _ H _ I h=>wpAny_Constant_int ⟨.int i,H,I.tok _,⟨_,rfl⟩,h⟩
def pe_bl {b j pos}:PE X (.Constant (.bool b) j pos) (tC (.bl b)):=λ_ _ _ H _ I h=>Constant_bool ⟨.bl b,H,I,rfl,h⟩
def pe_non {j pos}:PE X (.Constant .none j pos) (tC .non):=λ_ _ _ H _ I h=>Constant_none ⟨.non,H,I,rfl,h⟩
def pe_str {x j pos}:PE X (.Constant (.str x) j pos) (tC (.str x)):=λ_ _ _ H _ I h=>Calls.Constant_str ⟨.str x,H,I.tok _,⟨_,rfl⟩,h⟩
def Gl (X:Cx) (x:Str):Prop:=X.env.kindOf x=some .globalImplicit
def gR {E:Value->Shared->Prop} {pins:Pn} {s:Shared} {σ:St} {H:Hp} {x:Str} {u:Value} {pos:Pos} {Q:Value->Shared->Prop} (I:Inv X pins σ H s) (g:Gl X x) (hm:X.mg x=some u) (h:Q u s)
 (hd:(x==("__debug__":Str))=false:=by decide):wpAny (model X.prog X.w) X.A (eval (.Name x pos) X.env) Q E s:=
 Calls.Name_function_global I.ok.kind g (Calls.loadGlobal_global (by rw [I.ok.glob];exact I.mod.glob.keeps I.bk) hm h) hd
def Uc {E:Value->Shared->Prop} {pins:Pn} {s:Shared} {σ:St} {H:Hp} {x:Str} {u:Value} {pos:Pos} {Q:Value->Shared->Prop} (I:Inv X pins σ H s) (m:Gl X x) (hm:X.mg x=none) (g:bootBuiltins x=some u) (h:Q u s)
 (hn:x≠"__name__":=by decide) (hd:(x==("__debug__":Str))=false:=by decide):wpAny (model X.prog X.w) X.A (eval (.Name x pos) X.env) Q E s:=by
 obtain ⟨r,q,p⟩:=I.mod.blt;exact Calls.Name_function_global I.ok.kind m (Calls.loadGlobal_builtin (by rw [I.ok.glob];exact I.mod.glob.keeps I.bk) hm (by rw [I.ok.blt];exact q.keeps I.bk) ((p x hn).trans g) h) hd
def JO {x:Str} {v:V} {u:Value} {pos:Pos} (g:Gl X x) (hm:X.mg x=some u) (r:YF v u) (hd:(x==("__debug__":Str))=false:=by decide):PE X (.Name x pos) (tC v):=
 λ_ _ _ H _ I h=>gR I g hm ⟨v,H,I,r,h⟩ hd
def pe_bltn {x:Str} {v:V} {u:Value} {pos:Pos} (m:Gl X x) (hm:X.mg x=none) (g:bootBuiltins x=some u) (r:YF v u) (hn:x≠"__name__":=by decide) (hd:(x==("__debug__":Str))=false:=by decide):PE X (.Name x pos) (tC v):=
 λ_ _ _ H _ I h=>Uc I m hm g ⟨v,H,I,r,h⟩ hn hd
variable {a b:Expr} {ta tb:TE} {pos:Pos}
def tB (t:TE):TT:=λσ H Q=>t σ H λx H1=>∃c,x= .bl c/\Q c H1
def pt_val {e:Expr} {t:TE} (h:PE X e t) (he:∀whole,isTrue e X.env whole=(do let v<-whole;standAt e.pos;holding [v] (truthy v)):=by intro _;rfl):PT X e (tB t):=by
 intro pins s σ H Q I hw;refine isTrue_plain (thn (h pins s σ H _ I hw) ?_) (he _);rintro v s1 ⟨x,H1,p,g,m⟩;obtain ⟨d,rfl,q⟩:=m;cases g;exact jca ⟨H1,p,q⟩
variable {tA tB':TT} {rest:List Expr}
def tAnd (t u:TT):TT:=λσ H Q=>t σ H λc H1=>if c=true then u σ H1 Q else Q false H1
def tOr (t u:TT):TT:=λσ H Q=>t σ H λc H1=>if c=true then Q true H1 else u σ H1 Q
def tNot (t:TT):TT:=λσ H Q=>t σ H λc H1=>Q (!c) H1
def pw_and1 (ha:PT X a tA):PW X (.BoolOp .And [a] pos) tA:=by
 intro wh pins s σ H Q I h;refine isTrue_and (thn (ha pins s σ H Q I h) λc s1 e=>?_)
 cases c with
 |true=>exact isTrue_and_nil e
 |false=>exact e
def pw_or1 (ha:PT X a tA):PW X (.BoolOp .Or [a] pos) tA:=by
 intro wh pins s σ H Q I h;refine isTrue_or (thn (ha pins s σ H Q I h) λc s1 e=>?_)
 cases c with
 |false=>exact isTrue_or_nil e
 |true=>exact e
def pw_and (ha:PT X a tA) (q:PW X (.BoolOp .And (b::rest) pos) tB'):PW X (.BoolOp .And (a::b::rest) pos) (tAnd tA tB'):=by
 intro wh pins s σ H Q I h;refine isTrue_and (thn (ha pins s σ H _ I h) λc s1 p=>?_);obtain ⟨H1,m,g⟩:=p
 cases c with
 |true=>exact q wh pins s1 σ H1 Q m g
 |false=>exact ⟨H1,m,g⟩
def pw_or (ha:PT X a tA) (q:PW X (.BoolOp .Or (b::rest) pos) tB'):PW X (.BoolOp .Or (a::b::rest) pos) (tOr tA tB'):=by
 intro wh pins s σ H Q I h;refine isTrue_or (thn (ha pins s σ H _ I h) λc s1 p=>?_);obtain ⟨H1,m,g⟩:=p
 cases c with
 |true=>exact ⟨H1,m,g⟩
 |false=>exact q wh pins s1 σ H1 Q m g
def pt_not (ha:PT X a tA):PT X (.UnaryOp .Not a pos) (tNot tA):=by
 intro pins s σ H Q I h;exact isTrue_not (ha pins s σ H (λc H1=>Q (!c) H1) I h)
def tAndV (ta tb:TE):TE:=λσ H Q=>ta σ H λx H1=>∃c,x= .bl c/\if c=true then tb σ H1 Q else Q (.bl false) H1
def tNotV (ta:TE):TE:=λσ H Q=>ta σ H λx H1=>∃c,x= .bl c/\Q (.bl (!c)) H1
def pe_one {op} {t:TE} (h:PE X a t):PE X (.BoolOp op [a] pos) t:=λpins s σ H Q I hw=>BoolOp_one (h pins s σ H Q I hw)
def pe_and (ha:PE X a ta) (r:PE X (.BoolOp .And (b::rest) pos) tb):PE X (.BoolOp .And (a::b::rest) pos) (tAndV ta tb):=by
 intro pins s σ H Q I h;refine BoolOp_and (thn (ha pins s σ H _ I h) λv s1 q=>?_);obtain ⟨x,H1,m,p,g⟩:=q;obtain ⟨c,rfl,g⟩:=g;cases p;refine jca ?_
 cases c with
 |true=>exact r pins s1 σ H1 Q m g
 |false=>exact ⟨.bl false,H1,m,rfl,g⟩
def pe_not (ha:PE X a ta):PE X (.UnaryOp .Not a pos) (tNotV ta):=by
 intro pins s σ H Q I h;refine UnaryOp_ (thn (ha pins s σ H _ I h) λv s1 p=>?_);obtain ⟨x,H1,q,m,g⟩:=p;obtain ⟨c,rfl,g⟩:=g;cases m;exact not_of (jca ⟨.bl (!c),H1,q,rfl,g⟩)
end
def SqL (K:Frg) (H:Hp) (a:Addr) (xs:List V):Prop:=
 Rd H a (.lst xs)\/
  ∃(o:Obj) (its:Array Value) (n:Nat),K.lookup a=some o/\o.cls= .type "list"/\o.dict=none/\o.data= .seq its n/\its.size<=sizeLine/\xV xs its.toList
def SqT (K:Frg) (H:Hp) (a:Addr) (xs:List V):Prop:=
 Rd H a (.tup xs)\/
  ∃(o:Obj) (its:Array Value) (n:Nat),K.lookup a=some o/\o.cls= .type "tuple"/\o.data= .seq its n/\its.size<=sizeLine/\xV xs its.toList
def absV:Value->Option V
 | .none=>some .non
 | .bool b=>some (.bl b)
 | .int i _=>some (.int i)
 | .str x _=>some (.str x)
 | .ref a=>some (.ref a)
 | .type n=>some (.ty n)
 |_=>none
def YF.abs {x:V} {u:Value} (r:YF x u):absV u=some x:=by
 cases x with
 |non=>cases r;rfl
 |bl _=>cases r;rfl
 |int _=>obtain ⟨t,rfl⟩:=r;rfl
 |str _=>obtain ⟨t,rfl⟩:=r;rfl
 |ref _=>cases r;rfl
 |ty _=>cases r;rfl
def YF.inj {x y:V} {u:Value} (r:YF x u) (q:YF y u):x=y:=QJ (r.abs.symm.trans q.abs)
def xV.inj {xs ys:List V} {us:List Value} (h:xV xs us) (g:xV ys us):xs=ys:=by
 induction h generalizing ys with
 |nil=>cases g;rfl
 |cons r t p=>
  cases g with
  |cons m t'=>rw [r.inj m,p t']
section
def SqL.of {K:Frg} (h:H a=some (.lst xs)):SqL K H a xs:= .inl (.inl h)
def SqT.of {K:Frg} (h:H a=some (.tup xs)):SqT K H a xs:= .inl (.inl h)
def Inv.list (I:Inv X pins σ H s) (h:SqL X.K H a xs):∃its:List Value,xV xs its/\PlainL s.heap a its.toArray/\xs.length<=sizeLine:=by
 rcases h with h|⟨o,its,n,m,p,hd,g,q,r⟩
 ·obtain ⟨z,its,n,r,e⟩:=h.ok I.hok;exact ⟨its,r,⟨_,n,e,rfl,rfl,rfl⟩,z⟩
 ·refine ⟨its.toList,r,⟨o,n,I.kIn a o m,p,hd,by simpa using g⟩,?_⟩;have e:=r.length;simp only [jau] at e;lia
def Inv.tuple (I:Inv X pins σ H s) (h:SqT X.K H a xs):∃its:List Value,xV xs its/\IsTup s.heap a its.toArray/\xs.length<=sizeLine:=by
 rcases h with h|⟨o,its,n,m,q,g,t,r⟩
 ·obtain ⟨z,its,r,p⟩:=h.ok I.hok;exact ⟨its,r,p,z⟩
 ·refine ⟨its.toList,r,⟨o,I.kIn a o m,q,n,by simpa using g⟩,?_⟩;have e:=r.length;simp only [jau] at e;lia
def Inv.list_inj (I:Inv X pins σ H s) (h:SqL X.K H a xs) (h':SqL X.K H a ys):xs=ys:=by
 obtain ⟨its,r,⟨o,n,e,_,_,d⟩,_⟩:=I.list h;obtain ⟨its',m,⟨q,t,g,_,_,d'⟩,_⟩:=I.list h';rw [e] at g;cases g;rw [d] at d'
 injection d' with p _
 have:its=its':=by simpa using congrArg Array.toList p
 subst this;exact r.inj m
def Inv.tuple_inj (I:Inv X pins σ H s) (h:SqT X.K H a xs) (h':SqT X.K H a ys):xs=ys:=by
 obtain ⟨its,r,⟨o,e,_,n,d⟩,_⟩:=I.tuple h;obtain ⟨its',m,⟨q,g,_,t,d'⟩,_⟩:=I.tuple h';rw [e] at g;cases g;rw [d] at d'
 injection d' with p _
 have:its=its':=by simpa using congrArg Array.toList p
 subst this;exact r.inj m
end
abbrev Cx.wish (X:Cx) (E:Value->Shared->Prop):Cx:={X with xe:=E}
abbrev Cx.nox (X:Cx):Cx:=X.wish λ_ _=>False
def Cx.Ok.wish {X:Cx} (ok:X.Ok) (E:Value->Shared->Prop):(X.wish E).Ok:=
 ⟨ok.mod,ok.kind,ok.glob,ok.blt,ok.above,ok.inj,ok.has,ok.cab,ok.hd,ok.frames,ok.stk,ok.exf,ok.bs,ok.bsz,ok.noex,ok.exfs,ok.funs,ok.frf⟩
def Cx.Ok.unwish {X:Cx} {E:Value->Shared->Prop} (ok:(X.wish E).Ok):X.Ok:=
 ⟨ok.mod,ok.kind,ok.glob,ok.blt,ok.above,ok.inj,ok.has,ok.cab,ok.hd,ok.frames,ok.stk,ok.exf,ok.bs,ok.bsz,ok.noex,ok.exfs,ok.funs,ok.frf⟩
section
def Inv.wish (I:Inv X pins σ H s) (E:Value->Shared->Prop):Inv (X.wish E) pins σ H s:=⟨I.ok.wish E,I.os,I.bare,I.base,I.loc,I.cell,I.free,I.freeC,I.pin,I.hok,I.len⟩
def Inv.unwish (I:Inv (X.wish E) pins σ H s):Inv X pins σ H s:=⟨I.ok.unwish,I.os,I.bare,I.base,I.loc,I.cell,I.free,I.freeC,I.pin,I.hok,I.len⟩
def SP.unwish {D:Ends} {f:Flow} {g:Shared} (h:SP (X.wish E) pins D f g):SP X pins D f g:=by
 cases f with
 |next=>obtain ⟨σ',H',I,q⟩:=h;exact ⟨σ',H',I.unwish,q⟩
 |brk=>obtain ⟨σ',H',I,q⟩:=h;exact ⟨σ',H',I.unwish,q⟩
 |cont=>obtain ⟨σ',H',I,q⟩:=h;exact ⟨σ',H',I.unwish,q⟩
 |ret u=>obtain ⟨v,σ',H',I,r,q⟩:=h;exact ⟨v,σ',H',I.unwish,r,q⟩
def PSs.nox {st:List Stmt} {t:TS} (h:PSs X.nox st t):PSs X st t:=λpins s σ H D I hw=>
 wpAny_mono (h pins s σ H D (I.wish _) hw) (λ_ _ q=>q.unwish) λ_ _ z=>False.elim z
end
section
variable {X:Cx} {st:Stmt} {rest:List Stmt} {t u:TS}
def tNext:TS:=λD σ H=>D.nx σ H
def tSeq (t u:TS):TS:=λD σ H=>t {D with nx:=u D} σ H
def Cu:PSs X [] tNext:=λ_ _ σ H _ I h=>wpAny_execs_nil ⟨σ,H,I,h⟩
def ue (m:PS X st t) (g:PSs X rest u):PSs X (st::rest) (tSeq t u):=by
 intro pins s σ H D I h;refine wpAny_execs_cons (thn (m pins s σ H {D with nx:=u D} I h) λf s1 q=>?_)
 cases f with
 |next=>
  obtain ⟨σ',H',p,q⟩:=q;exact g pins s1 σ' H' D p q
 |ret v=>exact q
 |brk=>exact q
 |cont=>exact q
def gh (g:PS X st t):PSs X [st] t:=by
 intro pins s σ H D I h;refine wpAny_execs_cons (thn (g pins s σ H D I h) λf s1 q=>?_)
 cases f with
 |next=>exact wpAny_execs_nil q
 |ret v=>exact q
 |brk=>exact q
 |cont=>exact q
def Inv.quiet {pins:Pn} {σ:St} {H:Hp} {s:Shared} (I:Inv X pins σ H s):interactive X.env=false:=by simp [interactive,I.ok.kind]
def tDrop (g:TE):TS:=λD σ H=>g σ H λ_ H1=>D.nx σ H1
def ps_expr (he:PE X e te) (m:swapsWith e none pos.line X.env=pure false:=by rfl):PS X (.Expr e pos) (tDrop te):=by
 intro pins s σ H D I h;refine wpAny_Expr_any (thn (he pins s σ H _ I h) ?_) I.quiet m;rintro v s1 ⟨x,H1,p,q,g⟩;exact ⟨σ,H1,p,g⟩
def tRet (g:TE):TS:=λD σ H=>g σ H D.rt
def ps_ret (he:PE X e te):PS X (.Return (some e) pos) (tRet te):=by
 intro pins s σ H D I h;refine wpAny_Return_some (thn (he pins s σ H _ I h) ?_);rintro v s1 ⟨x,H1,p,g,m⟩;exact ⟨x,σ,H1,p,g,m⟩
def tIfS (c:TT) (t u:TS):TS:=λD σ H=>c σ H λb H1=>if b=true then t D σ H1 else u D σ H1
def ps_if {c:Expr} {a b:List Stmt} {g:TT} (r:PT X c g) (ha:PSs X a t) (w:PSs X b u):PS X (.If c a b pos) (tIfS g t u):=by
 intro pins s σ H D I h;refine wpAny_If (thn (r pins s σ H _ I h) λd s1 q=>?_);obtain ⟨H1,p,m⟩:=q
 cases d with
 |true=>exact ha pins s1 σ H1 D p m
 |false=>exact w pins s1 σ H1 D p m
def tNever:TS:=λ_ _ _=>False
def uf:PS X st tNever:=λ_ _ _ _ _ _ h=>h.elim
end
abbrev TG:=V->St->Hp->(St->Hp->Prop)->Prop
abbrev TGs:=List V->St->Hp->(St->Hp->Prop)->Prop
def PG (X:Cx) (target:Expr) (t:TG):Prop:=
 ∀(pins:Pn) (s:Shared) (σ:St) (H:Hp) (v:V) (u:Value) (Q:St->Hp->Prop),Inv X pins σ H s->YF v u->t v σ H Q->
  wpAny (model X.prog X.w) X.A (assign target X.env u) (λ_ g=>∃σ' H',Inv X pins σ' H' g/\Q σ' H') X.xe s
def PGs (X:Cx) (g:List Expr) (t:TGs):Prop:=
 ∀(pins:Pn) (s:Shared) (σ:St) (H:Hp) (vs:List V) (us:List Value) (Q:St->Hp->Prop),Inv X pins σ H s->xV vs us->t vs σ H Q->
  wpAny (model X.prog X.w) X.A (assignInOrder ((assignEach g X.env).map (·.2)) us) (λ_ m=>∃σ' H',Inv X pins σ' H' m/\Q σ' H') X.xe s
abbrev TSet:=V->V->V->Hp->(Hp->Prop)->Prop
def PSet (X:Cx) (t:TSet):Prop:=
 ∀(pins:Pn) (s:Shared) (σ:St) (H:Hp) (o i v:V) (g m u:Value) (Q:Hp->Prop),Inv X pins σ H s->YF o g->YF i m->YF v u->t o i v H Q->
  wpAny (model X.prog X.w) X.A (setItem g m u) (λ_ p=>∃H',Inv X pins σ H' p/\Q H') X.xe s
abbrev TIp:=V->V->Hp->VK->Prop
def PIp (X:Cx) (op:Operator) (t:TIp):Prop:=
 ∀(pins:Pn) (s:Shared) (σ:St) (H:Hp) (x y:V) (v u:Value) (Q:VK),Inv X pins σ H s->YF x v->YF y u->t x y H Q->
  wpAny (model X.prog X.w) X.A (inplaceOp op v u) (EP X pins σ Q) X.xe s
section
def nk (i:Nat):TG:=λv σ H Q=>Q (σ.set i (some v)) H
def rN {i:Nat} {x:Str} (p:X.N.Nodup) (m:X.N[i]? =some x) (g:Loc X.env.scope x) (hf:X.fn x=true\/X.env.scope.names.lookup x=some .local:=by walk_at "f"):PG X (.Name x pos) (nk i):=by
 intro pins s σ H v u Q I r h;exact wpAny_assign_Name (UQ I p m g r (λt q=>⟨_,H,q,h⟩) hf)
def gNil:TGs:=λvs σ H Q=>vs=[]/\Q σ H
def gCons (t:TG) (u:TGs):TGs:=λvs σ H Q=>∃v r,vs=v::r/\t v σ H λσ' H'=>u r σ' H' Q
def pgs_nil:PGs X [] gNil:=by
 intro pins s σ H vs us Q I r h;obtain ⟨e,h⟩:=h;subst e;cases r;exact assignInOrder_nil ⟨σ,H,I,h⟩
def pgs_cons {e:Expr} {es:List Expr} {t:TG} {u:TGs} (y:PG X e t) (w:PGs X es u)
 (p:(assignEach (e::es) X.env).map (·.2)=assign e X.env::(assignEach es X.env).map (·.2):=by rfl):PGs X (e::es) (gCons t u):=by
 intro pins s σ H vs us Q I r h;obtain ⟨v,C,z,h⟩:=h;subst z
 cases r with
 |cons r g=>
  rw [p];refine assignInOrder_cons (thn (y pins s σ H _ _ _ I r h) λ_ s1 q=>?_);obtain ⟨σ1,H1,A,m⟩:=q;exact w pins s1 σ1 H1 _ _ Q A g m
def gTup (K:Frg) (n:Nat) (t:TGs):TG:=λv σ H Q=>∃a xs,v= .ref a/\SqT K H a xs/\xs.length=n/\t xs σ H Q
def pg_tup {es:List Expr} {k:Nat} {t:TGs} {n:Nat} (w:X.calm=true) (h:PGs X es t)
 (hn:(assignEach es X.env).length=n:=by rfl) (z:(assignEach es X.env).findIdx? (·.1)=none:=by rfl):PG X (.Tuple es k pos) (gTup X.K n t):=by
 intro pins s σ H v u Q I r hw;obtain ⟨a,xs,y,p,q,hw⟩:=hw;subst y;cases r;obtain ⟨its,g,ht,C⟩:=I.tuple p;refine assign_Tuple_tuple (I.ok.hd w) ht (by simp [hn,<-q,g.length]) z λh' m=>?_;have A:Inv X pins σ H {s with heap:=h'}:=I.kept (t':=s.toks) λb o e=>m b o (QU (Qz e)) e;exact h pins _ σ H xs _ Q A ‹g› hw
def gSub (to g:TE) (t:TSet):TG:=λv σ H Q=>to σ H λo H1=>g σ H1 λi p=>t o i v p λm=>Q σ m
def pg_sub {o i:Expr} {to q:TE} {t:TSet} (J:PE X o to) (K:PE X i q) (G:PSet X t)
 (ha:∀v,assign (.Subscript o i pos) X.env v=(do
  let g<-holding [v] (eval o X.env)
  let m<-holding [v,g] (eval i X.env)
  standAt pos
  holding [v,g,m] (setItem g m v)
  release [v,g,m] []):=by intro _;rfl):PG X (.Subscript o i pos) (gSub to q t):=by
 intro pins s σ H v u Q I r h;rw [ha];refine Qh (jbr (thn (J pins s σ H _ I h) λg s1 p=>?_));obtain ⟨x,H1,N,z,D⟩:=p;refine Qh (jbr (thn (K pins s1 σ H1 _ N D) λm s2 p=>?_));obtain ⟨y,P,M,w,C⟩:=p;refine Qh (wpAny_standAt (Qh (jbr (thn (G pins s2 σ P x y v g m u _ M z w r C) λ_ s3 p=>?_))));obtain ⟨O,L,A⟩:=p;exact wpAny_release ⟨σ,O,L,A⟩
def Li (m:TE) (g:TG):TS:=λD σ H=>m σ H λx H1=>g x σ H1 D.nx
def ps_asg {m e:Expr} {p:TE} {g:TG} (he:PE X e p) (w:PG X m g) (u:swapsWithSole [m] e pos.line X.env=pure false:=by rfl) (hw:swappedStores [m] e X.env=pure none:=by rfl)
 (y:(assignEach [m] X.env).map (·.2)=[assign m X.env]:=by rfl):PS X (.Assign [m] e pos) (Li p g):=by
 intro pins s σ H D I h;refine wpAny_Assign_stores (thn (he pins s σ H _ I h) ?_) u hw;rintro v s1 ⟨x,H1,z,r,t⟩;rw [y];exact thn (w pins s1 σ H1 x v _ z r t) λ_ s2 q=>q
def ps_set {i:Nat} {x:Str} {e:Expr} {g:TE} {pos':Pos} (u:X.N.Nodup) (t:X.N[i]? =some x) (q:Loc X.env.scope x) (he:PE X e g) (r:swapsWith e (some (.Name x pos')) pos.line X.env=pure false:=by rfl) (hf:X.fn x=true\/X.env.scope.names.lookup x=some .local:=by walk_at "f"):
 PS X (.Assign [.Name x pos'] e pos) (Li g (nk i)):=by
 intro pins s σ H D I h;refine wpAny_Assign_Name (thn (he pins s σ H _ I h) ?_) r;rintro v s1 ⟨y,H1,z,m,p⟩;exact UQ z u t q m (λs2 w=>⟨_,H1,w,p⟩) hf
def tPar (i j:Nat) (g:TA):TS:=λD σ H=>g σ H λvs H1=>∃v w,vs=[v,w]/\D.nx ((σ.set i (some v)).set j (some w)) H1
def ps_par {i j:Nat} {x y:Str} {a b:Expr} {u:TA} {t py pt:Pos} {kt k2 SV} (Z:X.calm=true) (G:X.N.Nodup) (U:X.N[i]? =some x) (T:X.N[j]? =some y) (ME:i≠j)
 (C:X.env.scope.names.lookup x=some .local) (z:X.env.scope.names.lookup y=some .local) (ha:PA X [a,b] u)
 (hw:swappedStores [.Tuple [.Name x t, .Name y py] kt pt] (.Tuple [a,b] k2 SV) X.env=pure (some [x,y]))
 (P:swapsWithSole [.Tuple [.Name x t, .Name y py] kt pt] (.Tuple [a,b] k2 SV) pos.line X.env=pure false:=by rfl):
 PS X (.Assign [.Tuple [.Name x t, .Name y py] kt pt] (.Tuple [a,b] k2 SV) pos) (tPar i j u):=by
 intro pins s σ H D I h;rw [exec_Assign_arm];refine Qh (wpAny_standAt ?_);rw [P];refine Qh (Qt ?_);rw [QS nofun];refine Qh (Tuple_ (thn (ha _ pins s σ H _ I h) λus s1 Y=>?_));obtain ⟨vs,H1,I1,L,r⟩:=Y;obtain ⟨v,w,e1,r⟩:=r;subst e1
 obtain ⟨m,g,rfl,K,NO⟩:∃m g,us=[m,g]/\YF v m/\YF w g:=by
  cases L with
  |cons p q=>
   cases q with
   |cons O M=>
    cases M;exact ⟨_,_,rfl,p,O⟩
 refine jaf ?_ (by show 2<=sizeLine;decide);have I2:Inv X pins σ H1 {s1 with heap:=s1.heap.push {cls:= .type "tuple",data:= .seq [m,g].toArray}}:=I1.kept (t':=s1.toks) λb o e=>Qj _ e;rw [hw];refine Qh (Qt ?_);show wpAny (model X.prog X.w) X.A (do rule "assign.swapped-stores";let items<-unpackItems (.ref s1.heap.objs.size) 2 none;assignInOrder [λv=>bindName X.env y v,λv=>bindName X.env x v] items.reverse;pure Flow.next) _ _ _;refine Qh (jce (Qh (unpackItems_tuple (items:=#[m,g]) (I.ok.hd Z) (IsTup.new s1.heap _) λh' MI=>?_)));have I3:=I2.kept (h':=h') (t':=s1.toks) λb o e=>MI b o (QU (Qz e)) e;show wpAny _ _ (assignInOrder [λv=>bindName X.env y v,λv=>bindName X.env x v] [g,m]>>=λ_=>pure Flow.next) _ _ _;refine Qh (assignInOrder_cons (wpAny_bindName (UQ I3 G T (.inl z) NO (λs2 I4=>?_) (.inr z))));refine assignInOrder_cons (wpAny_bindName (UQ I4 G U (.inl C) K (λs3 J=>assignInOrder_nil (Qt ?_)) (.inr C)));rw [List.set_comm _ _ (Ne.symm ME)] at J;exact ⟨_,H1,J,r⟩
def tAug (i:Nat) (m:TE) (g:TIp):TS:=λD σ H=>∃x,σ[i]? =some (some x)/\m σ H λy H1=>g x y H1 λz p=>D.nx (σ.set i (some z)) p
def ps_aug {i:Nat} {x:Str} {e:Expr} {G:TE} {op:Operator} {C:TIp} {pos':Pos} (Y:X.N.Nodup) (J:X.N[i]? =some x) (q:Loc X.env.scope x) (he:PE X e G) (P:PIp X op C) (hf:X.fn x=true\/X.env.scope.names.lookup x=some .local:=by walk_at "f"):
 PS X (.AugAssign (.Name x pos') op e pos) (tAug i G C):=by
 intro pins s σ H D I h;obtain ⟨v,Z,h⟩:=h;obtain ⟨m,hn,T⟩:=I.loc
 have p:Vis X.env.scope x:=by rcases q with k|k;exact .inl k;exact .inr (.inl k)
 obtain ⟨u,r,l⟩:=T i x v J Z p;refine wpAny_AugAssign_Name ?_
 have go:wpAny (model X.prog X.w) X.A (eval e X.env) (λw s₂=>wpAny (model X.prog X.w) X.A (inplaceOp op u w) (λr s₃=>wpAny (model X.prog X.w) X.A (storeName X.env x r) (λ_=>SP X pins D .next) X.xe s₃) X.xe s₂) X.xe s:=by
  refine thn (he pins s σ H _ I h) λw s1 t=>?_;obtain ⟨y,H1,I1,L,O⟩:=t;refine thn (P pins s1 σ H1 v y u w _ I1 r L O) λz s2 t=>?_;obtain ⟨zv,H2,I2,K,M⟩:=t;exact UQ I2 Y J q K (λs3 I3=>⟨_,H2,I3,M⟩) hf
 rcases l with ⟨g,hm⟩|⟨g,c,U,ND⟩
 ·exact wpAny_loadName_local I.ok.kind g hn hm go
 ·rcases g with g|g
  ·exact wpAny_loadName_cell I.ok.kind g U ND go
  ·rcases q with k|k
   ·have:X.env.scope.names.lookup x=some .free:=g;rw [k] at this;cases this
   ·have:X.env.scope.names.lookup x=some .free:=g;rw [k] at this;cases this
def ipI (f:Int->Int->Int):TIp:=λx y H Q=>∃i j,x= .int i/\y= .int j/\Q (.int (f i j)) H
def ip_add:PIp X .Add (ipI λi j=>i+j):=by
 intro pins s σ H x y v u Q I r1 r2 h;obtain ⟨i,j,m,g,q⟩:=h;subst m;subst g;obtain ⟨t,rfl⟩:=r1;obtain ⟨t',rfl⟩:=r2;exact iadd_int ⟨.int _,H,I.tok _,⟨_,rfl⟩,q⟩
end
section
def Bg (c:TT) (p:TS):TS:=λD σ H=>∃W:Nat->St->Hp->Prop,(∃m,W m σ H)/\∀m σ H,W m σ H->
 c σ H λb H1=>if b=true then ∃N:St->Hp->Prop,(∀σ' H',N σ' H'->∃g,g<m/\W g σ' H')/\p {D with nx:=N,ct:=N,bk:=D.nx} σ H1 else D.nx σ H1
def ps_while {c:Expr} {body:List Stmt} {y:TT} {z:TS} (hp:PassesOwn (model X.prog X.w) X.A X.env X.xe) (O:PT X c y) (P:PSs X body z):PS X (.While c body [] pos) (Bg y z):=by
 intro pins s σ H D I h;obtain ⟨W,⟨m0,K⟩,turn⟩:=h;refine wpAny_While (codeAny_whileLoop (λn L=>∃σ' H',Inv X pins σ' H' L/\W n σ' H') ?_ m0 ⟨σ,H,I,K⟩)
 rintro n s1 ⟨σ1,H1,I1,w1⟩
 refine jbm hp (thn (O pins s1 σ1 H1 _ I1 (turn n σ1 H1 w1)) λb s2 M=>?_);obtain ⟨J,G,p⟩:=M
 cases b with
 |true=>
  obtain ⟨N,C,p⟩:=p;rw [QH rfl];refine jbm hp (thn (P pins s2 σ1 J _ G p) λf s3 m=>?_)
  cases f with
  |next=>
   obtain ⟨σ3,g,u,r⟩:=m;obtain ⟨t,hm,q⟩:=C σ3 g r;exact ⟨t,hm,σ3,g,u,q⟩
  |cont=>
   obtain ⟨σ3,g,u,r⟩:=m;obtain ⟨t,hm,q⟩:=C σ3 g r;exact ⟨t,hm,σ3,g,u,q⟩
  |brk=>exact m
  |ret v=>exact m
 |false=>
  rw [QS QM];exact wpAny_execs_nil ⟨σ1,J,G,p⟩
end
structure It where
 go:Nat->Hp->Prop
 yld:Nat->Hp->V->Hp->Prop
 stop:Nat->Hp->Prop
def tm (X:Cx) (pins:Pn) (H:Hp) (b:Addr):Prop:=
 H b=none/\b≠X.env.locals/\b∉X.fs/\(b∈X.ex\/X.s₀.heap.objs.size<=b)/\(∀x c,X.env.cells.lookup x=some c->c≠b)/\∀p∈X.pn++pins,p.1≠b
def Inv.fpOk {X:Cx} {pins:Pn} {σ:St} {H H':Hp} {s:Shared} {b:Addr} (I:Inv X pins σ H s) (g:s.heap.objs.size<=b) (hn:H' b=none):tm X pins H' b:=by
 refine ⟨hn,jbf (Tf I.lt g),I.nofs g, .inr (Tc I.sz g),λx c e z=>?_,λp hp z=>?_⟩
 ·obtain ⟨v,q⟩:=I.cell x c e;exact absurd (Tf q.lt (by rw [z];exact g)) (jat _)
 ·exact absurd (Tf (Qz (I.pin p hp).1) (by rw [z];exact g)) (jat _)
structure Turn (P:Program) (w:World) (K:Frg) (tg:Expr) (J:It) (fp:List Addr) (it:Addr) (tn:Nat->Heap->Prop):Prop where
 mem:it∈fp
 obj:∀i h,tn i h->∀b∈fp,∃o,h.get? b=some o/\∀v,o.data≠ .cell v
 keep:∀i h h',tn i h->(∀b∈fp,∀o,h.get? b=some o->h'.get? b=some o)->tn i h'
 item:∀(X:Cx),X.prog=P->X.w=w->X.K=K->X.calm=true->∀(i:Nat) (pins:Pn) (s:Shared) (σ:St) (H:Hp) (E:Value->Shared->Prop),Inv X pins σ H s->(∀b∈fp,tm X pins H b)->tn i s.heap->J.go i H->
  wpAny (model P w) X.A (pyNext (.ref it)) (λr s1=>∃u,r=some u/\
   wpAny (model P w) X.A (letOwnedTupleGo tg (.ref it) u) (λ_ s2=>∃x H',Inv X pins σ H' s2/\YF x u/\J.yld i H x H'/\tn (i+1) s2.heap/\∀b∈fp,H' b=none) E s1) E s
 done:∀(X:Cx),X.prog=P->X.w=w->X.K=K->X.calm=true->∀(i:Nat) (pins:Pn) (s:Shared) (σ:St) (H:Hp) (E:Value->Shared->Prop),Inv X pins σ H s->(∀b∈fp,tm X pins H b)->tn i s.heap->J.stop i H->
  wpAny (model P w) X.A (pyNext (.ref it)) (λr s1=>r=none/\Inv X pins σ H s1) E s
 self:∀(A:Around) (i:Nat) (s:Shared) (Q:Value->Shared->Prop) (E:Value->Shared->Prop),tn i s.heap->Q (.ref it) s->wpAny (model P w) A (pyIter (.ref it)) Q E s
abbrev TI:=St->Hp->(It->Hp->Prop)->Prop
def PIE (X:Cx) (pins:Pn) (σ:St) (p:Expr) (R:It->Hp->Prop) (g:Value) (s2:Shared):Prop:=
 ∃(it:Addr) (m:List Addr) (tn:Nat->Heap->Prop) (J:It) (H':Hp),g= .ref it/\Inv X pins σ H' s2/\Turn X.prog X.w X.K p J m it tn/\tn 0 s2.heap/\(∀b∈m,tm X pins H' b)/\R J H'
def PI (X:Cx) (m iter:Expr) (g:TI):Prop:=
 ∀(pins:Pn) (s:Shared) (σ:St) (H:Hp) (R:It->Hp->Prop),Inv X pins σ H s->g σ H R->
  wpAny (model X.prog X.w) X.A (eval iter X.env) (λv s1=>wpAny (model X.prog X.w) X.A (pyIter v) (PIE X pins σ m R) X.xe s1) X.xe s
def Hn {M:Model} {A:Around} {E:Value->Shared->Prop} {s:Shared} {m:Expr} {it:Addr} {u:Value} {o:Obj} {n:String} {vs:Array Value} {Q:Unit->Shared->Prop} (p:s.heap.get? it=some o) (q:o.cls= .type n) (hd:o.data= .fields vs)
 (hn:["enumerate","zip","dict_itemiterator","dict_reverseitemiterator","odict_iterator","itertools.zip_longest","itertools.pairwise"].contains n=false) (g:Q () s):wpAny M A (letOwnedTupleGo m (.ref it) u) Q E s:=by
 unfold letOwnedTupleGo
 cases m<;>first
  |exact Qt g
  |(cases u<;>first
   |exact Qt g
   |(refine Qh (wpAny_load p ?_)
     rw [q,hd];show wpAny M A (if (["enumerate","zip","dict_itemiterator","dict_reverseitemiterator","odict_iterator","itertools.zip_longest","itertools.pairwise"].contains n && vs[0]? ==some (rawInt _))=true then _ else _) Q E s;rw [QS (by intro h;rw [hn,Bool.false_and] at h;cases h)]
     exact Qt g))
def Itl (K:Frg) (a:Addr):It:=
 ⟨λi H=>∃xs x,SqL K H a xs/\xs[i]? =some x,λi H x H'=>H'=H/\∀xs,SqL K H a xs->xs[i]? =some x,λi H=>∃xs,SqL K H a xs/\xs.length<=i⟩
def Itt (K:Frg) (a:Addr):It:=
 ⟨λi H=>∃xs x,SqT K H a xs/\xs[i]? =some x,λi H x H'=>H'=H/\∀xs,SqT K H a xs->xs[i]? =some x,λi H=>∃xs,SqT K H a xs/\xs.length<=i⟩
def Itr (lo:Int) (n:Nat):It:=⟨λi _=>i<n,λi H x H'=>H'=H/\x= .int (lo+i),λi _=>n<=i⟩
def Be {P:Program} {w:World} {K:Frg} {C:Expr} (a it:Addr):Turn P w K C (Itl K a) [it] it (λi h=>h.IsListIter it a i) where
 mem:=by simp
 obj:=λi h st b g=>by
  have e:b=it:=by simpa using g
  subst e;obtain ⟨o,e,c,d⟩:=st;exact ⟨o,e,λv z=>by rw [d] at z;cases z⟩
 keep:=λi h h' st k=>st.at λo e=>k it (by simp) o e
 item:=by
  intro X hP hw hK hc i pins s σ H E I hf st hg;subst hP hw hK;obtain ⟨xs,x,m,r⟩:=hg;obtain ⟨its,q,p,D⟩:=I.list m;obtain ⟨u,J,ru⟩:=q.get r;obtain ⟨f0,f1,f2,y,f4,t⟩:=hf it (by simp);refine wpAny_pyNext_list_item st p.isList (x:=u) ‹J› λh' A sb=>?_;have M:Inv X pins σ H {s with heap:=h'}:=I.turned (t':=s.toks) (λb o g e=>(sb.2 b g).trans e) f0 f1 y f4 t;obtain ⟨o,e,c,d⟩:=id A;exact ⟨u,rfl,Hn (s:={s with heap:=h'}) e c d nofun ⟨x,H,M,ru,⟨rfl,λys G=>by rw [I.list_inj G m];exact r⟩,A,λb g=>(hf b g).1⟩⟩
 done:=by
  intro X hP hw hK hc i pins s σ H E I hf st hg;subst hP hw hK;obtain ⟨xs,m,r⟩:=hg;obtain ⟨its,q,p,D⟩:=I.list m;obtain ⟨f0,f1,f2,y,f4,t⟩:=hf it (by simp);have N:=q.length;exact wpAny_pyNext_list_end (I.ok.hd hc) st p.isList (by simp;lia) λh' L=>⟨rfl,I.turned (t':=s.toks) (λb o g e=>L b o g e) f0 f1 y f4 t⟩
 self:=λ_ _ _ _ _ st h=>wpAny_pyIter_listiter st h
def vH {P:Program} {w:World} {K:Frg} {C:Expr} (a it:Addr):Turn P w K C (Itt K a) [it] it (λi h=>h.IsTupleIter it a i) where
 mem:=by simp
 obj:=λi h st b g=>by
  have e:b=it:=by simpa using g
  subst e;obtain ⟨o,e,c,d⟩:=st;exact ⟨o,e,λv z=>by rw [d] at z;cases z⟩
 keep:=λi h h' st k=>st.at λo e=>k it (by simp) o e
 item:=by
  intro X hP hw hK hc i pins s σ H E I hf st hg;subst hP hw hK;obtain ⟨xs,x,m,r⟩:=hg;obtain ⟨its,q,p,D⟩:=I.tuple m;obtain ⟨u,J,ru⟩:=q.get r;obtain ⟨f0,f1,f2,y,f4,t⟩:=hf it (by simp);refine wpAny_pyNext_tuple_item st (show s.heap.IsTuple a its.toArray from p) (x:=u) ‹J› λh' A sb=>?_;have M:Inv X pins σ H {s with heap:=h'}:=I.turned (t':=s.toks) (λb o g e=>(sb.2 b g).trans e) f0 f1 y f4 t;obtain ⟨o,e,c,d⟩:=id A;exact ⟨u,rfl,Hn (s:={s with heap:=h'}) e c d nofun ⟨x,H,M,ru,⟨rfl,λys G=>by rw [I.tuple_inj G m];exact r⟩,A,λb g=>(hf b g).1⟩⟩
 done:=by
  intro X hP hw hK hc i pins s σ H E I hf st hg;subst hP hw hK;obtain ⟨xs,m,r⟩:=hg;obtain ⟨its,q,p,D⟩:=I.tuple m;obtain ⟨f0,f1,f2,y,f4,t⟩:=hf it (by simp);have N:=q.length;exact wpAny_pyNext_tuple_end (I.ok.hd hc) st (show s.heap.IsTuple a its.toArray from p) (by simp;lia) λh' L=>⟨rfl,I.turned (t':=s.toks) (λb o g e=>L b o g e) f0 f1 y f4 t⟩
 self:=λ_ _ _ _ _ st h=>wpAny_pyIter_tupleiter st h
def vI {P:Program} {w:World} {K:Frg} {u:Expr} (it:Addr) (lo:Int) (n:Nat):Turn P w K u (Itr lo n) [it] it (λi h=>IsRangeIter h it (lo+(i:Nat)*1) ((n:Int) - (i:Nat)) 1) where
 mem:=by simp
 obj:=λi h st b g=>by
  have e:b=it:=by simpa using g
  subst e
  exact ⟨_,st,λv z=>by
   have r:Data.fields _=Data.cell v:=z
   cases r⟩
 keep:=λi h h' st k=>k it (by simp) _ st
 item:=by
  intro X hP hw hK hc i pins s σ H E I hf st hg;subst hP hw hK;obtain ⟨f0,f1,f2,p,f4,m⟩:=hf it (by simp);have W:=Walks.range (prog:=X.prog) (w:=X.w) (I.ok.hd hc) it lo 1 n;refine W.item i s _ _ hg st λv h' tk A q y=>?_;obtain ⟨t,rfl⟩:=A;have D:Inv X pins σ H {s with heap:=h',toks:=tk}:=I.turned (λb o g e=>y b o ‹g› e) f0 f1 p f4 m;refine ⟨_,rfl,Hn (s:={s with heap:=h',toks:=tk}) (n:="range_iterator") q rfl rfl nofun ⟨.int (lo+i),H,D,⟨t,?_⟩,⟨rfl,rfl⟩,q,λb g=>(hf b g).1⟩⟩;rw [jbN]
 done:=by
  intro X hP hw hK hc i pins s σ H E I hf st hg;subst hP hw hK;obtain ⟨f0,f1,f2,p,f4,m⟩:=hf it (by simp);exact wpAny_pyNext_range_end (I.ok.hd hc) st (by have:n<=i:=hg;lia) λh' C=>⟨rfl,I.turned (t':=s.toks) (λb o g e=>C b o g e) f0 f1 p f4 m⟩
 self:=λ_ _ _ _ _ st h=>wpAny_pyIter_rangeiter st h
section
def iList (K:Frg) (g:TE):TI:=λσ H R=>g σ H λx H1=>∃a,x= .ref a/\(∃xs,SqL K H1 a xs)/\R (Itl K a) H1
def iTup (K:Frg) (g:TE):TI:=λσ H R=>g σ H λx H1=>∃a,x= .ref a/\(∃xs,SqT K H1 a xs)/\R (Itt K a) H1
def mH {l:Expr} {m:TE} (w:PE X l m):PI X tg l (iList X.K m):=by
 intro pins s σ H R I h;refine thn (w pins s σ H _ I h) λv s1 y=>?_;obtain ⟨x,H1,g,r,t⟩:=y;obtain ⟨a,e,⟨xs,u⟩,q⟩:=t;subst e;cases r;obtain ⟨its,A,p,C⟩:=g.list u;refine jaC p.isList ?_;refine ⟨s1.heap.objs.size,[s1.heap.objs.size],_,_,H1,rfl,g.kept (t':=s1.toks) λb o e=>Qj _ e,Be a _,⟨_,Qx _ rfl,rfl,rfl⟩,λb z=>?_,q⟩;have e:b=s1.heap.objs.size:=by simpa using z
 subst e;exact g.fpOk (Qu _) (g.hok.fresh (Qu _))
def pi_tup {l:Expr} {m:TE} (w:PE X l m):PI X tg l (iTup X.K m):=by
 intro pins s σ H R I h;refine thn (w pins s σ H _ I h) λv s1 y=>?_;obtain ⟨x,H1,g,r,t⟩:=y;obtain ⟨a,e,⟨xs,u⟩,q⟩:=t;subst e;cases r;obtain ⟨its,A,p,C⟩:=g.tuple u;refine jar (show s1.heap.IsTuple a its.toArray from p) ?_;refine ⟨s1.heap.objs.size,[s1.heap.objs.size],_,_,H1,rfl,g.kept (t':=s1.toks) λb o e=>Qj _ e,vH a _,⟨_,Qx _ rfl,rfl,rfl⟩,λb z=>?_,q⟩;have e:b=s1.heap.objs.size:=by simpa using z
 subst e;exact g.fpOk (Qu _) (g.hok.fresh (Qu _))
def ub {pins:Pn} {σ:St} {H:Hp} {s:Shared} {R:It->Hp->Prop} {E:Value->Shared->Prop} {lo g:Int} {t u v:Tok} {tk:Nat} (I:Inv X pins σ H s) (C: -(2 ^ 62)<=lo) (z:lo<2 ^ 62) (y: -(2 ^ 62)<=g) (r:g<2 ^ 62)
 (q:R (Itr lo (g - lo).toNat) H):wpAny (model X.prog X.w) X.A (pyIter (.ref s.heap.objs.size)) (PIE X pins σ tg R) E {s with heap:=s.heap.push {cls:= .type "range",data:= .fields #[.int lo t, .int g u, .int 1 v]},toks:=tk}:=by
 refine wpAny_pyIter_range (IsRange.new ..) (small_one C z y r) ?_;have m:Inv X pins σ H {s with heap:=s.heap.push {cls:= .type "range",data:= .fields #[.int lo t, .int g u, .int 1 v]},toks:=tk}:=I.kept λb o e=>Qj _ e
 refine ⟨(s.heap.push {cls:= .type "range",data:= .fields #[.int lo t, .int g u, .int 1 v]}).objs.size,[(s.heap.push {cls:= .type "range",data:= .fields #[.int lo t, .int g u, .int 1 v]}).objs.size],_,_,H,rfl,
  m.kept (t':=tk) λb o e=>Qj _ e,vI _ lo (g - lo).toNat,?_,λb p=>?_,q⟩
 ·have G:lo+((0:Nat):Int)*1=lo:=by simp
  have D:(((g - lo).toNat:Nat):Int) - ((0:Nat):Int)=Builtin.Range.rangeSize lo g 1:=by rw [rangeSize_one];split<;>lia
  show IsRangeIter _ _ (lo+((0:Nat):Int)*1) ((((g - lo).toNat:Nat):Int) - ((0:Nat):Int)) 1;rw [G,D];exact Qx _ rfl
 ·have e:b=(s.heap.push {cls:= .type "range",data:= .fields #[.int lo t, .int g u, .int 1 v]}).objs.size:=by simpa using p
  subst e;exact m.fpOk (Qu _) (m.hok.fresh (Qu _))
def iRng1 (g:TA):TI:=λσ H R=>g σ H λvs H1=>∃j:Int,vs=[.int j]/\ -(2 ^ 62)<=j/\j<2 ^ 62/\R (Itr 0 j.toNat) H1
def iRng2 (g:TA):TI:=λσ H R=>g σ H λvs H1=>∃i j:Int,vs=[.int i, .int j]/\(-(2 ^ 62)<=i/\i<2 ^ 62/\ -(2 ^ 62)<=j/\j<2 ^ 62)/\R (Itr i (j - i).toNat) H1
def pi_range1 {a:Expr} {m:TA} {p pos:Pos} (A:Gl X "range") (hm:X.mg "range"=none) (ha:PA X [a] m) (z:starEach [a] X.env=[(false,eval a X.env)]:=by rfl):PI X tg (.Call (.Name "range" p) [a] [] pos) (iRng1 m):=by
 intro pins s σ H R I h;refine Call_ (Uc I A hm boot_range (TV (thn (ha pos pins s σ H _ I h) ?_) z rfl));rintro us s1 ⟨vs,H1,C,w,g⟩;obtain ⟨j,e,g,y,q⟩:=g;subst e
 cases w with
 |cons r u=>
  cases u;obtain ⟨t,rfl⟩:=r;exact call_range_1 (ub C ⋯ ⋯ g y ‹q›)
def pi_range2 {a b:Expr} {u:TA} {p pos:Pos} (J:Gl X "range") (hm:X.mg "range"=none) (ha:PA X [a,b] u) (G:starEach [a,b] X.env=[(false,eval a X.env),(false,eval b X.env)]:=by rfl) (w:starEach [b] X.env=[(false,eval b X.env)]:=by rfl):
 PI X tg (.Call (.Name "range" p) [a,b] [] pos) (iRng2 u):=by
 intro pins s σ H R I h;refine Call_ (Uc I J hm boot_range (TV (thn (ha pos pins s σ H _ I h) ?_) (by rw [G,w]) (by rw [w];rfl)));rintro us s1 ⟨vs,H1,K,y,m⟩;obtain ⟨i,j,e,⟨m,D,C,A⟩,q⟩:=m;subst e
 cases y with
 |cons r g=>
  cases g with
  |cons z g=>
   cases g;obtain ⟨t,rfl⟩:=r;obtain ⟨t',rfl⟩:=z;exact call_range_2 (ub K m D C A q)
def tFor (q:TI) (g:TG) (r:TS):TS:=λD σ H=>q σ H λJ H1=>∃W:Nat->Nat->St->Hp->Prop,(∃m,W 0 m σ H1)/\∀i m σ H,W i m σ H->
 (J.stop i H/\D.nx σ H)\/(J.go i H/\∃N:St->Hp->Prop,(∀σ' H',N σ' H'->∃p,p<m/\W (i+1) p σ' H')/\∀x H',J.yld i H x H'->g x σ H' λσ2 H2=>r {D with nx:=N,ct:=N,bk:=D.nx} σ2 H2)
def jV (g:List Addr) (h:Heap):List (Addr×Obj):=g.filterMap λb=>(h.get? b).map λo=>(b,o)
def YD {g:List Addr} {h:Heap} {b:Addr} {o:Obj} (m:b∈g) (e:h.get? b=some o):(b,o)∈jV g h:=jbU.mpr ⟨b,m,by rw [e];rfl⟩
def CZ {g:List Addr} {h:Heap} {p:Addr×Obj} (hp:p∈jV g h):p.1∈g/\h.get? p.1=some p.2:=by
 obtain ⟨b,m,e⟩:=jbU.mp hp
 cases q:h.get? b with
 |none=>rw [q] at e;cases e
 |some o=>
  rw [q] at e;have r:(b,o)=p:=QJ e;subst r;exact ⟨m,q⟩
def Inv.pinned {pins:Pn} {σ:St} {H:Hp} {s:Shared} {g:List Addr} (I:Inv X pins σ H s) (hf:∀b∈g,tm X pins H b) (r:∀b∈g,∃o,s.heap.get? b=some o/\∀v,o.data≠ .cell v):Inv X (pins++jV g s.heap) σ H s:=
 I.pins_of λp hp=>(QW.mp hp).elim (λz=>I.pin p (QG _ z)) λz=>by
  obtain ⟨m,e⟩:=CZ z;obtain ⟨f0,f1,f2,_⟩:=hf p.1 m;obtain ⟨o,q,d⟩:=r p.1 m;rw [e] at q;cases q;exact ⟨e,f0,f1,f2,d⟩
def Inv.unpinned {pins pl:List (Addr×Obj)} {σ:St} {H:Hp} {s:Shared} (I:Inv X (pins++pl) σ H s):Inv X pins σ H s:=I.pins_of λp hp=>I.pin p (QG _ (jai _ hp))
def ps_for {iter:Expr} {body:List Stmt} {P:TI} {g:TG} {U:TS} {pos:Pos} (hp:PassesOwn (model X.prog X.w) X.A X.env X.xe) (Z:X.calm=true) (hi:PI X tg iter P) (hg:PG X tg g) (q:PSs X body U)
 (hs:∀x,foldedSetIterable iter X.env x=pure x:=by intro _;rfl):PS X (.For tg iter body [] pos) (tFor P g U):=by
 intro pins s σ H D I h;refine wpAny_For (thn (hi pins s σ H _ I h) λv s1 h1=>thn h1 λitv s2 h2=>?_) hs;obtain ⟨it,K,tn,J,H2,e,I2,T,MW,f2,W,⟨m0,w0⟩,turn⟩:=h2;subst e;have p:∀{H':Hp},(∀b∈K,H' b=none)->∀b∈K,tm X pins H' b:=λhn b q=>⟨hn b q,(f2 b q).2⟩;refine codeAny_forLoop_any (λn Y=>∃i σ' H',Inv X pins σ' H' Y/\tn i Y.heap/\(∀b∈K,H' b=none)/\W i n σ' H') ?_ m0 ⟨0,σ,H2,I2,MW,λb q=>(f2 b q).1,w0⟩
 rintro n s3 ⟨i,σ3,H3,I3,st3,fr3,w3⟩
 rcases turn i n σ3 H3 w3 with ⟨stop,qn⟩|⟨go,N,hN,step⟩
 ·refine jbm hp (thn (T.done X rfl rfl rfl Z i pins s3 σ3 H3 X.xe I3 (p fr3) st3 stop) λr s4 C=>?_);obtain ⟨hr,I4⟩:=C;subst hr;exact wpAny_execs_nil ⟨σ3,H3,I4,qn⟩
 ·refine jbm hp (thn (T.item X rfl rfl rfl Z i pins s3 σ3 H3 X.xe I3 (p fr3) st3 go) λr s4 C=>?_);obtain ⟨u,hr,h4⟩:=C;subst hr;refine jbm hp (thn h4 λ_ s5 C=>?_);obtain ⟨x,H5,I5,r5,y5,M,Pm⟩:=C;have O:=I5.pinned (p Pm) (T.obj _ _ M);refine jbm hp (thn (hg _ s5 σ3 H5 x u _ O r5 (step x H5 y5)) λ_ s6 C=>?_);obtain ⟨σ6,H6,I6,q6⟩:=C;refine jbm hp (thn (q _ s6 σ6 H6 _ I6 q6) λf L z=>?_)
  have again:∀{σ7:St} {y:Hp},Inv X (pins++jV K s5.heap) σ7 y L->N σ7 y->∃m,m<n/\∃i σ' H',Inv X pins σ' H' L/\tn i L.heap/\(∀b∈K,H' b=none)/\W i m σ' H':=λ{σ7 y} t G=>by
   obtain ⟨m',hm,w7⟩:=hN σ7 y G;refine ⟨m',hm,i+1,σ7,y,t.unpinned,T.keep _ _ _ M λb q o e=>(t.pin (b,o) (QG _ (QG _ (YD q e)))).1,λb q=>?_,w7⟩;obtain ⟨o,e,d⟩:=T.obj _ _ M b q;exact (t.pin (b,o) (QG _ (QG _ (YD q e)))).2.1
  cases f with
  |next=>obtain ⟨σ7,y,t,G⟩:=z;exact again t G
  |cont=>obtain ⟨σ7,y,t,G⟩:=z;exact again t G
  |brk=>obtain ⟨σ7,y,t,z⟩:=z;exact ⟨σ7,y,t.unpinned,z⟩
  |ret v=>obtain ⟨x7,σ7,y,t,r7,z⟩:=z;exact ⟨x7,σ7,y,t.unpinned,r7,z⟩
end
abbrev R2:=V->V->Hp->VK->Prop
def OpR (X:Cx) (f:Value->Value->Sem Value) (r:R2):Prop:=
 ∀(pins:Pn) (s:Shared) (σ:St) (H:Hp) (x y:V) (v u:Value) (Q:VK),Inv X pins σ H s->YF x v->YF y u->r x y H Q->
  wpAny (model X.prog X.w) X.A (f v u) (EP X pins σ Q) X.xe s
def UnR (X:Cx) (f:Value->Sem Value) (r:V->Hp->VK->Prop):Prop:=
 ∀(pins:Pn) (s:Shared) (σ:St) (H:Hp) (x:V) (v:Value) (Q:VK),Inv X pins σ H s->YF x v->r x H Q->
  wpAny (model X.prog X.w) X.A (f v) (EP X pins σ Q) X.xe s
def Vz (X:Cx) (f:Value) (r:List V->Hp->VK->Prop):Prop:=
 ∀(pins:Pn) (s:Shared) (σ:St) (H:Hp) (xs:List V) (us:List Value) (Q:VK),Inv X pins σ H s->xV xs us->r xs H Q->
  wpAny (model X.prog X.w) X.A (call f us) (EP X pins σ Q) X.xe s
def tOp (r:R2) (m g:TE):TE:=λσ H Q=>m σ H λx H1=>g σ H1 λy p=>r x y p Q
def tUn (r:V->Hp->VK->Prop) (g:TE):TE:=λσ H Q=>g σ H λx H1=>r x H1 Q
def rI (C:Int->Int->Prop) (g:Int->Int->V):R2:=λx y H Q=>∃i j,x= .int i/\y= .int j/\C i j/\Q (g i j) H
def rI0 (g:Int->Int->V):R2:=λx y H Q=>∃i j,x= .int i/\y= .int j/\Q (g i j) H
def rU (g:Int->V):V->Hp->VK->Prop:=λx H Q=>∃i,x= .int i/\Q (g i) H
section
def binT (ha:PE X a ta) (z:PE X b tb) {pins:Pn} {s:Shared} {σ:St} {H:Hp} {R:V->V->Hp->Prop} (I:Inv X pins σ H s)
 (h:ta σ H λx H1=>tb σ H1 λy g=>R x y g) {Q:Value->Shared->Prop} {f:Value->Value->Sem Value}
 (hf:∀v u s2 x y g,Inv X pins σ g s2->YF x v->YF y u->R x y g->wpAny (model X.prog X.w) X.A (f v u) Q X.xe s2):
 wpAny (model X.prog X.w) X.A (eval a X.env) (λv s₁=>wpAny (model X.prog X.w) X.A (eval b X.env) (λu s₂=>wpAny (model X.prog X.w) X.A (f v u) Q X.xe s₂) X.xe s₁) X.xe s:=by
 refine thn (ha pins s σ H _ I h) λv s1 m=>?_;obtain ⟨x,H1,D,q,t⟩:=m;refine thn (z pins s1 σ H1 _ D t) λu s2 m=>?_;obtain ⟨y,g,C,p,r⟩:=m;exact hf v u s2 x y g C q p r
def pe_op {op:Operator} {r:R2} (p:OpR X (binaryOp op) r) (ha:PE X a ta) (t:PE X b tb):PE X (.BinOp a op b pos) (tOp r ta tb):=by
 intro pins s σ H Q I h;exact wpAny_BinOp (binT ha t I h λv u s2 x y z w m g q=>p pins s2 σ z x y v u Q w m g q)
def pe_un {op:UnaryOp} {r:V->Hp->VK->Prop} (p:UnR X (unaryOp op) r) (ha:PE X a ta):PE X (.UnaryOp op a pos) (tUn r ta):=by
 intro pins s σ H Q I h;refine UnaryOp_ (thn (ha pins s σ H _ I h) ?_);rintro v s1 ⟨x,H1,q,g,m⟩;exact p pins s1 σ H1 x v Q q g m
def opI {f:Value->Value->Sem Value} {C:Int->Int->Prop} {g:Int->Int->Int}
 (rule:∀(i j:Int) (t u:Tok) (s:Shared) (Q:Value->Shared->Prop) (E:Value->Shared->Prop),C i j->Q (.int (g i j) s.toks) {s with toks:=s.toks+1}->wpAny (model X.prog X.w) X.A (f (.int i t) (.int j u)) Q E s):
 OpR X f (rI C λi j=> .int (g i j)):=by
 intro pins s σ H x y v u Q I rx ry h;obtain ⟨i,j,rfl,rfl,m,q⟩:=h;obtain ⟨t,rfl⟩:=rx;obtain ⟨t',rfl⟩:=ry;exact rule i j t t' s _ _ m ⟨.int (g i j),H,I.tok _,⟨_,rfl⟩,q⟩
def opI0 {f:Value->Value->Sem Value} {g:Int->Int->Int}
 (rule:∀(i j:Int) (t u:Tok) (s:Shared) (Q:Value->Shared->Prop) (E:Value->Shared->Prop),Q (.int (g i j) s.toks) {s with toks:=s.toks+1}->wpAny (model X.prog X.w) X.A (f (.int i t) (.int j u)) Q E s):
 OpR X f (rI0 λi j=> .int (g i j)):=by
 intro pins s σ H x y v u Q I rx ry h;obtain ⟨i,j,rfl,rfl,q⟩:=h;obtain ⟨t,rfl⟩:=rx;obtain ⟨t',rfl⟩:=ry;exact rule i j t t' s _ _ ⟨.int (g i j),H,I.tok _,⟨_,rfl⟩,q⟩
def opB0 {f:Value->Value->Sem Value} {g:Int->Int->Bool}
 (rule:∀(i j:Int) (t u:Tok) (s:Shared) (Q:Value->Shared->Prop) (E:Value->Shared->Prop),Q (.bool (g i j)) s->wpAny (model X.prog X.w) X.A (f (.int i t) (.int j u)) Q E s):
 OpR X f (rI0 λi j=> .bl (g i j)):=by
 intro pins s σ H x y v u Q I rx ry h;obtain ⟨i,j,rfl,rfl,q⟩:=h;obtain ⟨t,rfl⟩:=rx;obtain ⟨t',rfl⟩:=ry;exact rule i j t t' s _ _ ⟨.bl (g i j),H,I,rfl,q⟩
def CDiv (i j:Int):Prop:=0<j/\j<1073741824
def CPow (i j:Int):Prop:=0<=j/\j<=1000000/\i.natAbs<2 ^ 64
def CMul (i j:Int):Prop:=(-(2 ^ 64)<i/\i<2 ^ 64)\/(-(2 ^ 64)<j/\j<2 ^ 64)
def CMul.ok {i j:Int} (h:CMul i j):IntMulOk i j:=by
 rcases h with ⟨m,g⟩|⟨m,g⟩
 ·exact .of_left (intBits_le_64 m g)
 ·exact .of_right (intBits_le_64 m g)
def op_add:OpR X (binaryOp .Add) (rI0 λi j=> .int (i+j)):=opI0 λ_ _ _ _ _ _ _ q=>add_int q
def op_sub:OpR X (binaryOp .Sub) (rI0 λi j=> .int (i - j)):=opI0 λ_ _ _ _ _ _ _ q=>sub_int q
def op_fdiv:OpR X (binaryOp .FloorDiv) (rI CDiv λi j=> .int (i / j)):=opI λi j _ _ _ _ _ g q=>by
 have p:(0:Int)<j:=g.1;have m:j<1073741824:=g.2;exact floordiv_int ⋯ (by rw [QV i ⋯];exact q) (.inl (PyProof.noPylong_small ⋯))
def op_mod:OpR X (binaryOp .Mod) (rI (λ_ j=>0<j) λi j=> .int (i % j)):=opI λi j _ _ _ _ _ g q=>by
 have m:(0:Int)<j:=g;exact mod_int' ⋯ (by rw [Th i ⋯];exact q)
def op_modN:OpR X (binaryOp .Mod) (rI (λ_ j=>j≠0) λi j=> .int (i.fmod j)):=opI λ_ _ _ _ _ _ _ g q=>mod_int' g q
def op_pow:OpR X (binaryOp .Pow) (rI CPow λi j=> .int (i ^ j.toNat)):=opI λ_ _ _ _ _ _ _ g q=>pow_int_small g.1 g.2.1 g.2.2 q
def unI {f:Value->Sem Value} {g:Int->Int}
 (rule:∀(i:Int) (t:Tok) (s:Shared) (Q:Value->Shared->Prop) (E:Value->Shared->Prop),Q (.int (g i) s.toks) {s with toks:=s.toks+1}->wpAny (model X.prog X.w) X.A (f (.int i t)) Q E s):
 UnR X f (rU λi=> .int (g i)):=by
 intro pins s σ H x v Q I rx h;obtain ⟨i,rfl,q⟩:=h;obtain ⟨t,rfl⟩:=rx;exact rule i t s _ _ ⟨.int (g i),H,I.tok _,⟨_,rfl⟩,q⟩
def un_neg:UnR X (unaryOp .USub) (rU λi=> .int (-i)):=unI λ_ _ _ _ _ q=>neg_int q
end
def scal:V->V->Bool
 | .non, .non=>true| .non, .int _=>true| .int _, .non=>true| .non, .bl _=>true| .bl _, .non=>true| .non, .str _=>true| .str _, .non=>true
 | .int _, .int _=>true| .bl _, .bl _=>true| .str _, .str _=>true
 | .int _, .str _=>true| .str _, .int _=>true| .bl _, .str _=>true| .str _, .bl _=>true
 |_,_=>false
def rEq:R2:=λx y H Q=>scal x y=true/\Q (.bl (decide (x=y))) H
def rNe:R2:=λx y H Q=>scal x y=true/\Q (.bl (!decide (x=y))) H
def Et {i j:Int}:decide (V.int i=V.int j)=(i==j):=by
 rw [jbC]
 simp
def ID {i j:Bool}:decide (V.bl i=V.bl j)=(i==j):=by
 rw [jbC]
 simp
def Es {i j:Str}:decide (V.str i=V.str j)=(i==j):=by
 rw [jbC]
 simp
section
def xc {pins:Pn} {σ:St} {H:Hp} {s:Shared} {Q:VK} {k g:Bool} (I:Inv X pins σ H s) (q:Q (.bl k) H) (e:k=g):EP X pins σ Q (.bool g) s:=by
 subst e;exact ⟨.bl k,H,I,rfl,q⟩
def op_eq:OpR X (compareOp .Eq) rEq:=by
 intro pins s σ H x y v u Q I rx ry h;obtain ⟨g,q⟩:=h
 cases x with
 |non=>
  cases rx
  cases y with
  |non=>cases ry;exact PySem.EqNone.eq_none_none (xc I q (by simp))
  |bl j=>cases ry;exact PySem.EqNone.eq_none_bool (xc I q (by simp))
  |int j=>obtain ⟨t',rfl⟩:=ry;exact PySem.EqNone.eq_none_int (xc I q (by simp))
  |str j=>obtain ⟨t',rfl⟩:=ry;exact PySem.EqNone.eq_none_str (xc I q (by simp))
  |_=>exact absurd (show false=true from g) QM
 |bl i=>
  cases rx
  cases y with
  |non=>cases ry;exact PySem.EqNone.eq_bool_none (xc I q (by simp))
  |bl j=>cases ry;exact eq_bool (xc I q ID)
  |str j=>obtain ⟨t',rfl⟩:=ry;exact PySem.EqMixed.eq_bool_str (xc I q (by simp))
  |_=>exact absurd (show false=true from g) QM
 |int i=>
  obtain ⟨t,rfl⟩:=rx
  cases y with
  |non=>cases ry;exact PySem.EqNone.eq_int_none (xc I q (by simp))
  |int j=>obtain ⟨t',rfl⟩:=ry;exact eq_int (xc I q Et)
  |str j=>obtain ⟨t',rfl⟩:=ry;exact PySem.EqMixed.eq_int_str (xc I q (by simp))
  |_=>exact absurd (show false=true from g) QM
 |str i=>
  obtain ⟨t,rfl⟩:=rx
  cases y with
  |non=>cases ry;exact PySem.EqNone.eq_str_none (xc I q (by simp))
  |bl j=>cases ry;exact PySem.EqMixed.eq_str_bool (xc I q (by simp))
  |int j=>obtain ⟨t',rfl⟩:=ry;exact PySem.EqMixed.eq_str_int (xc I q (by simp))
  |str j=>obtain ⟨t',rfl⟩:=ry;exact eq_str (xc I q Es)
  |_=>exact absurd (show false=true from g) QM
 |_=>cases y<;>exact absurd (show false=true from g) QM
def op_ne:OpR X (compareOp .NotEq) rNe:=by
 intro pins s σ H x y v u Q I rx ry h;obtain ⟨g,q⟩:=h
 cases x with
 |non=>
  cases rx
  cases y with
  |non=>cases ry;exact PySem.EqNone.ne_none_none (xc I q (by simp))
  |bl j=>cases ry;exact PySem.EqNone.ne_none_bool (xc I q (by simp))
  |int j=>obtain ⟨t',rfl⟩:=ry;exact PySem.EqNone.ne_none_int (xc I q (by simp))
  |str j=>obtain ⟨t',rfl⟩:=ry;exact PySem.EqNone.ne_none_str (xc I q (by simp))
  |_=>exact absurd (show false=true from g) QM
 |bl i=>
  cases rx
  cases y with
  |non=>cases ry;exact PySem.EqNone.ne_bool_none (xc I q (by simp))
  |bl j=>cases ry;exact ne_bool (xc I q (congrArg not ID))
  |str j=>obtain ⟨t',rfl⟩:=ry;exact PySem.EqMixed.ne_bool_str (xc I q (by simp))
  |_=>exact absurd (show false=true from g) QM
 |int i=>
  obtain ⟨t,rfl⟩:=rx
  cases y with
  |non=>cases ry;exact PySem.EqNone.ne_int_none (xc I q (by simp))
  |int j=>obtain ⟨t',rfl⟩:=ry;exact ne_int (xc I q (congrArg not Et))
  |str j=>obtain ⟨t',rfl⟩:=ry;exact PySem.EqMixed.ne_int_str (xc I q (by simp))
  |_=>exact absurd (show false=true from g) QM
 |str i=>
  obtain ⟨t,rfl⟩:=rx
  cases y with
  |non=>cases ry;exact PySem.EqNone.ne_str_none (xc I q (by simp))
  |bl j=>cases ry;exact PySem.EqMixed.ne_str_bool (xc I q (by simp))
  |int j=>obtain ⟨t',rfl⟩:=ry;exact PySem.EqMixed.ne_str_int (xc I q (by simp))
  |str j=>obtain ⟨t',rfl⟩:=ry;exact ne_str (xc I q (congrArg not Es))
  |_=>exact absurd (show false=true from g) QM
 |_=>cases y<;>exact absurd (show false=true from g) QM
def op_lt:OpR X (compareOp .Lt) (rI0 λi j=> .bl (decide (i<j))):=opB0 λ_ _ _ _ _ _ _ q=>lt_int q
def op_le:OpR X (compareOp .LtE) (rI0 λi j=> .bl (decide (i<=j))):=opB0 λ_ _ _ _ _ _ _ q=>le_int q
def op_gt:OpR X (compareOp .Gt) (rI0 λi j=> .bl (decide (j<i))):=opB0 λ_ _ _ _ _ _ _ q=>gt_int q
def op_isN:OpR X (compareOp .Is) (λx y H Q=>y= .non/\Q (.bl (decide (x= .non))) H):=by
 intro pins s σ H x y v u Q I rx ry h;obtain ⟨rfl,q⟩:=h;cases ry;refine is_none_gen (xc I q ?_)
 cases x<;>first
  |(cases rx;rfl)
  |(obtain ⟨t,rfl⟩:=rx;rfl)
def OpR.or {f:Value->Value->Sem Value} {r g:R2} (h:OpR X f r) (h':OpR X f g):OpR X f (λx y H Q=>r x y H Q\/g x y H Q):=by
 intro pins s σ H x y v u Q I rx ry q
 rcases q with q|q
 ·exact h pins s σ H x y v u Q I rx ry q
 ·exact h' pins s σ H x y v u Q I rx ry q
def Dc (b:Expr) {op:CmpOp} (h:op≠ .In:=by decide) (g:op≠ .NotIn:=by decide):behindInMarks op b=false:=by
 have p:(op==CmpOp.In)=false:=by cases op<;>first|rfl|exact absurd rfl h
 have m:(op==CmpOp.NotIn)=false:=by cases op<;>first|rfl|exact absurd rfl g
 cases b<;>simp [behindInMarks,p,m]
def pe_cmpR {op:CmpOp} {r:R2} (p:OpR X (compareOp op) r) (ha:PE X a ta) (t:PE X b tb) (hm:behindInMarks op b=false):PE X (.Compare a [op] [b] pos) (tOp r ta tb):=by
 intro pins s σ H Q I h;exact wpAny_Compare1 (binT ha t I h λv u s2 x y z w m g q=>p pins s2 σ z x y v u Q w m g q) hm
def tTest (t:TE):TT:=λσ H Q=>t σ H λx H'=>∃k,x= .bl k/\Q k H'
def rK {op:CmpOp} {r:R2} (A:OpR X (compareOp op) r) (ha:PE X a ta) (C:PE X b tb) (hm:behindInMarks op b=false):PT X (.Compare a [op] [b] pos) (tTest (tOp r ta tb)):=by
 intro pins s σ H Q I h
 refine wpAny_isTrue_Compare1 (thn (ha pins s σ H _ I h) λv s1 ⟨x,H1,J,p,w⟩=>thn (C pins s1 σ H1 _ J w) λu s2 ⟨y,L,G,m,t⟩=>
  thn (A pins s2 σ L x y v u _ G p m t) λc s3 ⟨z,K,D,g,k,e,q⟩=>?_) hm
 subst e;cases g;exact jca ⟨K,D,q⟩
def pR:(sizeLine:Nat)<2 ^ 63:=by rw [sizeLine_eq];decide
def wo:OpR X (binaryOp .Add) (λx y H Q=>∃i j,x= .str i/\y= .str j/\i.length+j.length<=sizeLine/\Q (.str (i++j)) H):=by
 intro pins s σ H x y v u Q I rx ry h;obtain ⟨i,j,rfl,rfl,g,q⟩:=h;obtain ⟨t,rfl⟩:=rx;obtain ⟨t',rfl⟩:=ry;exact add_str (λt' tk=>⟨.str (i++j),H,I.tok _,⟨_,rfl⟩,q⟩) g
def eR {x:V} {us:List Value} (r:xV [x] us):∃u,us=[u]/\YF x u:=by
 cases r with
 |cons m g=>cases g;exact ⟨_,rfl,m⟩
def Jc {x y:V} {us:List Value} (r:xV [x,y] us):∃u g,us=[u,g]/\YF x u/\YF y g:=by
 cases r with
 |cons s q=>
  cases q with
  |cons p m=>cases m;exact ⟨_,_,rfl,s,p⟩
def Hz:Vz X (.builtin "abs") (λxs H Q=>∃i,xs=[.int i]/\Q (.int (if i<0 then -i else i)) H):=by
 intro pins s σ H xs us Q I r h;obtain ⟨i,rfl,q⟩:=h;obtain ⟨u,rfl,t,rfl⟩:=eR r;exact call_abs_int λu tk=>⟨.int (if i<0 then -i else i),H,I.tok _,⟨_,rfl⟩,q⟩
def EB (m:X.calm=true):Vz X (.builtin "min") (λxs H Q=>∃i j,xs=[.int i, .int j]/\Q (.int (if j<i then j else i)) H):=by
 intro pins s σ H xs us Q I r h;obtain ⟨i,j,rfl,q⟩:=h;obtain ⟨u,p,rfl,⟨t,rfl⟩,⟨t',rfl⟩⟩:=Jc r;refine min_two_ints (I.ok.hd m) λh' tk k=>⟨_,H,I.kept k,?_,q⟩
 by_cases g:j<i
 ·rw [QH g,QH g];exact ⟨_,rfl⟩
 ·rw [QS g,QS g];exact ⟨_,rfl⟩
end
structure ObjM (h:Heap) (x dx C:Addr) (mA:Str->Option Value):Prop where
 obj:h.get? x=some (PySem.W.instObj C dx)
 ns:h.Ns1 dx mA
 ne:dx≠x
def Dm {h:Heap} {r:Addr} {p:Str->Option Value} (n:h.Ns1 r p):∃m,h.get? r=some m/\∀name,PySem.W.lookIn name m=some (p name):=by
 obtain ⟨o,es,ep,u,hd,w,_,hm⟩:=n;refine ⟨o,u,λname=>?_⟩;have e:=hm name;unfold nsFind findBy at e;rw [<-Array.find?_toList] at e;unfold PySem.W.lookIn;rw [hd];dsimp only
 split
 ·rename_i y q;rw [q] at e;exact congrArg some e
 ·rename_i q;rw [q] at e
  have a:es.toList.any (·.refKey)=false:=by
   rw [List.any_eq_false];intro y s;obtain ⟨z,t,g⟩:=w y (Array.mem_toList_iff.mp s);simp [DictEntry.refKey,g]
  have A:¬es.toList.any (·.refKey)=true:=by rw [a];exact QM
  rw [QS A];exact congrArg some e
def ObjM.look {h:Heap} {x p C:Addr} {m:Str->Option Value} (I:ObjM h x p C m):∃g,PySem.W.InstAt h x (PySem.W.instObj C p) C (some g)/\∀name,PySem.W.lookIn name g=some (m name):=
 let ⟨g,q,r⟩:=Dm I.ns
 ⟨g,⟨I.obj,rfl,rfl,q⟩,r⟩
section
variable {prog:Program} {w:World} {A:Around} {E:Value->Shared->Prop} {s:Shared} {K:Frg} {x dx C f:Addr} {mA:Str->Option Value} {name:Str} {v:Value}
def Ku {expr:Bool} {Q:Value->Shared->Prop} (X:K.In s.heap) (I:ObjM s.heap x dx C mA) (q:PySem.W.plainGet K C name=true) (p:PySem.W.hasDictIn K C=true)
 (ha:PySem.W.findIn K (.ref C) name=some none) (g:mA name=some v) (r:PySem.W.handedIn v=true) (h:Q v {s with toks:=s.toks+1}):
 wpAny (model prog w) A (getAttr (.ref x) name expr) Q E s:=by
 obtain ⟨t,J,m⟩:=I.look;exact PySem.W.get_value X J (PySem.W.plainGet_of q).1 (PySem.W.findObj_own p ha rfl (by rw [m,g])) r h
def Ho {pl:Sem Bool} {Q:Value×List Value->Shared->Prop} (X:K.In s.heap) (I:ObjM s.heap x dx C mA) (g:PySem.W.plainGet K C name=true)
 (hf:PySem.W.findIn K (.ref C) name=some (some (.ref f))) (ht:PySem.W.isFn K (.ref f)=true) (p:mA name=none) (h:Q (.ref f,[.ref x]) s):
 wpAny (model prog w) A (getMethod (.ref x) name pl) Q E s:=by
 obtain ⟨m,J,q⟩:=I.look;exact PySem.W.method_fn X J (PySem.W.plainGet_of g).1 (PySem.W.plainGet_of g).2 hf (beq_iff_eq.mp ht) (by show (PySem.W.lookIn name m).map (·.isSome)=some false;rw [q,p];rfl) h
def Jl {ns:List Str} {Q:Unit->Shared->Prop} (X:K.In s.heap) (I:ObjM s.heap x dx C mA)
 (z:PySem.W.findIn K (.ref C) "__setattr__"=some (some (.builtin "object.__setattr__"))) (hp:PySem.W.plainOver K C=true) (ht:PySem.W.takerIn K C name=some none) (D:PySem.W.hasDictIn K C=true)
 (hw:PySem.Within mA ns) (U:ns.length<=sizeLine)
 (h:∀h',ObjM h' x dx C (λy=>if y=name then some v else mA y)->Heap.SameBut dx s.heap h'->Q () {s with heap:=h',toks:=s.toks+2}):
 wpAny (model prog w) A (setAttr (.ref x) name v) Q E s:=by
 obtain ⟨O,J,T⟩:=I.look;refine PySem.W.set_plain X J z (PySem.W.osa_open (s:={s with toks:=s.toks+1}) (r:=none) X J hp ht λb=>?_);obtain ⟨cd,G,N⟩:=PySem.W.any_some D;have u:s.heap.get? x=some ⟨.ref C,some dx, .plain,#[]⟩:=I.obj;refine Qh (Qt (Qh (Qh (wpAny_loadPart u (Qh (PySem.W.Looks.here (s:={s with toks:=s.toks+1}) (PySem.W.looks_clsIn X G) ?_))))));rw [N];refine Qt (a:=some dx) (Qh (Qt (Qh ?_)));refine wpAny_nsSet1 (s:={s with toks:=s.toks+1}) I.ns λh' q t=>?_;obtain ⟨P,L,M,g,m,p⟩:=q.count (PySem.Within.cons name v hw);refine Qh (wpAny_lookBehind g (by rw [m];exact pastItsLine_dict (Tc p (by rw [Qy];lia))) ?_);exact Qt (h _ ⟨(t.2 _ (Ne.symm I.ne)).trans I.obj,q,I.ne⟩ t)
def GA {R:Result->Shared->Prop} {vs:List Value} {kw:List (Str×Value)} (X:K.In s.heap) (hm:PySem.W.makesIn K C=true)
 (m:PySem.W.findIn K (.ref C) "__init__"=some (some (.ref f))) (hf:PySem.W.typeIn K (.ref f)=some (.type "function"))
 (h:codeAny (model prog w) (A.under (.builtin "type.__call__" ⟨.ref C::vs,kw⟩)) (.call (.ref f) ⟨.ref (s.heap.objs.size+1)::vs,kw⟩) (PySem.W.InitBack (s.heap.objs.size+1) R)
  {s with heap:=(s.heap.push PySem.W.emptyDict).push (PySem.W.instObj C s.heap.objs.size)}):
 codeAny (model prog w) A (.call (.ref C) ⟨vs,kw⟩) R s:=by
 obtain ⟨p,g,d,t,os⟩:=s;exact PySem.W.make_core (PySem.W.makes_of X hm) (PySem.W.looks_findIn X m) (λself=>PySem.W.bind_fn X self hf) (.inl rfl) h
end
def qG (f:Str) (v:V):List (Str×V)->List (Str×V)
 |[]=>[(f,v)]
 |(g,x)::r=>if g=f then (g,v)::r else (g,x)::qG f v r
theorem gM (f g:Str) (v:V):∀fs:List (Str×V),(qG f v fs).lookup g=if g=f then some v else fs.lookup g
 |[]=>by
  show List.lookup g [(f,v)]=_
  by_cases h:g=f
  ·have m:(g==f)=true:=beq_iff_eq.mpr h;simp only [List.lookup,m,QH h]
  ·have m:(g==f)=false:=jbs.mpr h;simp only [List.lookup,m,QS h]
 |(k,x)::r=>by
  have q:=gM f g v r;rw [show qG f v ((k,x)::r)=(if k=f then (k,v)::r else (k,x)::qG f v r) from rfl]
  by_cases p:k=f
  ·rw [QH p]
   by_cases h:g=k
   ·have m:(g==k)=true:=beq_iff_eq.mpr h;simp only [List.lookup,m,QH (h.trans p)]
   ·have m:(g==k)=false:=jbs.mpr h;simp only [List.lookup,m,QS (λe:g=f=>h (e.trans p.symm))]
  ·rw [QS p]
   by_cases h:g=k
   ·have m:(g==k)=true:=beq_iff_eq.mpr h;simp only [List.lookup,m,QS (λe:g=f=>p (h.symm.trans e))]
   ·have m:(g==k)=false:=jbs.mpr h;simp only [List.lookup,m];exact q
theorem gU (f:Str) (v:V):∀fs:List (Str×V),f∈(qG f v fs).map (·.1)/\∀g,g∈fs.map (·.1)->g∈(qG f v fs).map (·.1)
 |[]=>⟨by simp [qG],λg h=>by simp at h⟩
 |(k,x)::r=>by
  obtain ⟨q,p⟩:=gU f v r;rw [show qG f v ((k,x)::r)=(if k=f then (k,v)::r else (k,x)::qG f v r) from rfl]
  by_cases m:k=f
  ·rw [QH m];subst m;exact ⟨by simp,λg h=>by simpa using h⟩
  ·rw [QS m];refine ⟨?_,λg h=>?_⟩
   ·rw [Qk];exact Qf _ q
   ·rw [Qk] at h⊢
    rcases Qn.mp h with e|e
    ·exact Qn.mpr (.inl e)
    ·exact Qf _ (p g e)
theorem gP (f:Str) (v:V):∀fs:List (Str×V),(qG f v fs).length<=fs.length+1
 |[]=>by simp [qG]
 |(k,x)::r=>by
  have m:=gP f v r;rw [show qG f v ((k,x)::r)=(if k=f then (k,v)::r else (k,x)::qG f v r) from rfl]
  by_cases g:k=f
  ·rw [QH g,Qy,Qy];lia
  ·rw [QS g,Qy,Qy];lia
def HU.some_of {v:V} {o:Option Value} (r:HU (some v) o):∃u,o=some u/\YF v u:=by
 cases o with
 |none=>exact (show False from r).elim
 |some u=>exact ⟨u,rfl,r⟩
def HU.none_of {o:Option Value} (r:HU none o):o=none:=by
 cases o with
 |none=>rfl
 |some u=>exact (show False from r).elim
def DL {v:V} {u:Value} (r:YF v u):PySem.W.handedIn u=true:=by
 cases v with
 |non=>cases (show u=Value.none from r);rfl
 |bl b=>cases (show u=Value.bool b from r);rfl
 |int i=>obtain ⟨t,e⟩:=(show ∃t,u=Value.int i t from r);cases e;rfl
 |str x=>obtain ⟨t,e⟩:=(show ∃t,u=Value.str x t from r);cases e;rfl
 |ref a=>cases (show u=Value.ref a from r);rfl
 |ty n=>cases (show u=Value.type n from r);rfl
section
def ni (hok:HOk P w H h) (e:H a=some (.ins C dx fs)):∃g,ObjM h a dx C g/\(∀f,HU (fs.lookup f) (g f))/\PySem.Within g (fs.map (·.1))/\fs.length<=1000/\H dx=some (.own a):=by
 obtain ⟨d,z,ne,m,g,n,r,q⟩:=(show YU P w H h a (.ins C dx fs) from hok a _ e);exact ⟨g,⟨m,n,ne⟩,r,q,z,d⟩
end
structure Cls (K:Frg) (C:Addr):Prop where
 pg:PySem.W.plainGet K C Str.empty=true
 hd:PySem.W.hasDictIn K C=true
 po:PySem.W.plainOver K C=true
 sa:PySem.W.findIn K (.ref C) "__setattr__"=some (some (.builtin "object.__setattr__"))
def Cls.get {K:Frg} {C:Addr} (c:Cls K C) (f:Str):PySem.W.plainGet K C f=true:=c.pg
def cZ (K:Frg) (C:Addr) (f:Str):Prop:=PySem.W.findIn K (.ref C) f=some none
def cZ.taker {K:Frg} {C:Addr} {f:Str} (n:cZ K C f):PySem.W.takerIn K C f=some none:=by
 unfold PySem.W.takerIn;rw [show PySem.W.findIn K (.ref C) f=some none from n];rfl
structure Meth (K:Frg) (C:Addr) (m:Str) (f:Addr):Prop where
 at_:PySem.W.findIn K (.ref C) m=some (some (.ref f))
 fn:PySem.W.isFn K (.ref f)=true
 kp:PySem.W.keepIn K (.ref f)=true
section
def Ah {b:Bool} {Q:Value->Shared->Prop} (I:Inv X pins σ H s) (e:H a=some (.ins C dx fs)) (c:Cls X.K C) (n:cZ X.K C f) (l:fs.lookup f=some v)
 (h:∀u g,Inv X pins σ H g->YF v u->Q u g):wpAny (model X.prog X.w) A (getAttr (.ref a) f b) Q E s:=by
 obtain ⟨m,O,r,_,_,_⟩:=ni I.hok e;obtain ⟨u,p,ru⟩:=HU.some_of (v:=v) (o:=m f) (by rw [<-l];exact r f);exact Ku I.kIn O (c.get f) c.hd n p (DL ru) (h u _ (I.tok _) ru)
def km {m:Str} {g:Addr} {pl:Sem Bool} {Q:Value×List Value->Shared->Prop} (I:Inv X pins σ H s) (e:H a=some (.ins C dx fs)) (c:Cls X.K C) (k:Meth X.K C m g) (l:fs.lookup m=none)
 (h:Q (.ref g,[.ref a]) s):wpAny (model X.prog X.w) A (getMethod (.ref a) m pl) Q E s:=by
 obtain ⟨p,O,r,_,_,_⟩:=ni I.hok e;have hn:p m=none:=HU.none_of (by rw [<-l];exact r m);exact Ho I.kIn O (c.get m) k.at_ k.fn hn h
def vN {y:V} {u:Value} {Q:Unit->Shared->Prop} (I:Inv X pins σ H s) (e:H a=some (.ins C dx fs)) (c:Cls X.K C) (n:cZ X.K C f) (T:fs.length<1000) (J:YF y u)
 (h:∀t,Inv X pins σ (upd H a (.ins C dx (qG f y fs))) t->Q () t):wpAny (model X.prog X.w) A (setAttr (.ref a) f u) Q E s:=by
 obtain ⟨D,O,r,p,_,G⟩:=ni I.hok e;have L:(fs.map (·.1)).length<=sizeLine:=by rw [Qa,sizeLine_eq];lia
 refine Jl I.kIn O c.sa c.po n.taker c.hd p L λh' m sb=>h _ ?_;have hd:∃o,h'.get? dx=some o:=let ⟨o,_,_,P,_⟩:=m.ns;⟨o,P⟩
 refine I.write (x:=a) (e:=dx) (by rw [e];exact True.intro) (.inr G) (λb q N z=>(sb.2 b N).trans z) hd ?_;refine ⟨by rw [ym O.ne];exact G,?_,O.ne,m.obj,_,m.ns,λg=>?_,λg M=>?_⟩
 ·have:=gP f y fs;lia
 ·show HU ((qG f y fs).lookup g) (if g=f then some u else D g);rw [gM]
  by_cases q:g=f
  ·rw [QH q,QH q];exact J
  ·rw [QS q,QS q];exact r g
 ·by_cases q:g=f
  ·rw [q];exact (gU f y fs).1
  ·refine (gU f y fs).2 g (p g λz=>M ?_);show (if g=f then some u else D g)=none;rw [QS q];exact z
def Inv.made (I:Inv X pins σ H s):Inv X pins σ (upd (upd H s.heap.objs.size (.own (s.heap.objs.size+1))) (s.heap.objs.size+1) (.ins C s.heap.objs.size []))
 {s with heap:=(s.heap.push PySem.W.emptyDict).push (PySem.W.instObj C s.heap.objs.size)}:=by
 have g:(s.heap.push PySem.W.emptyDict).get? s.heap.objs.size=some PySem.W.emptyDict:=Qx s.heap rfl
 have r:((s.heap.push PySem.W.emptyDict).push (PySem.W.instObj C s.heap.objs.size)).get? (s.heap.objs.size+1)=some (PySem.W.instObj C s.heap.objs.size):=by
  have:=Qx (s.heap.push PySem.W.emptyDict) (o:=PySem.W.instObj C s.heap.objs.size) rfl;rwa [Td] at this
 have p:(s.heap.push PySem.W.emptyDict).Ns s.heap.objs.size (λ_=>none):=⟨PySem.W.emptyDict,#[],_,g,rfl,(λe he=>absurd he (by simp)),λ_=>rfl⟩;have t:=I.laid (a:=s.heap.objs.size) (o:= .own (s.heap.objs.size+1)) (h':=s.heap.push PySem.W.emptyDict) (t':=s.toks) (λb u q=>Qj _ q) (Qu _) ⟨_,g⟩;refine t.laid (a:=s.heap.objs.size+1) (o:= .ins C s.heap.objs.size []) (t':=s.toks) (λb u q=>Qj _ q) (Nat.le_of_eq (Td _ _)) ?_;have ne:s.heap.objs.size≠s.heap.objs.size+1:=QU (Tp _);refine ⟨by rw [ym ne,yU],jap _,ne,r,λ_=>none,(Heap.Ns1.of_empty p).at λo q=>Qj _ q,λ_=>True.intro,λy m=>absurd rfl m⟩
def KQ {prog:Program} {w:World} {env:Env} {e:Expr} {f:Str} {pos:Pos} {s:Shared} {Q:Value->Shared->Prop} (g:attributeBase e f env (eval e env)=eval e env)
 (h:wpAny (model prog w) A (eval e env) (λo s₁=>wpAny (model prog w) A (getAttr o f true) Q E s₁) E s):wpAny (model prog w) A (eval (.Attribute e f pos) env) Q E s:=
 Attribute_any_ h (by rw [arm_eval_Attribute,g])
end
def tFld (K:Frg) (g:TE) (f:Str):TE:=λσ H Q=>g σ H λx H1=>∃a C m fs v,x= .ref a/\H1 a=some (.ins C m fs)/\Cls K C/\cZ K C f/\fs.lookup f=some v/\Q v H1
def sFld (K:Frg) (q p:TE) (f:Str):TS:=λD σ H=>p σ H λy H1=>q σ H1 λx m=>∃a C g fs,x= .ref a/\m a=some (.ins C g fs)/\Cls K C/\cZ K C f/\fs.length<1000/\
 D.nx σ (upd m a (.ins C g (qG f y fs)))
section
def pe_fld (he:PE X e ta) (p:attributeBase e f X.env (eval e X.env)=eval e X.env):PE X (.Attribute e f pos) (tFld X.K ta f):=by
 intro pins s σ H Q I h;refine KQ p (thn (he pins s σ H _ I h) λu s1 m=>?_);obtain ⟨x,H1,w,g,a,C,z,fs,v,ex,r,c,n,l,q⟩:=m;subst ex;obtain rfl:u=Value.ref a:=g;exact Ah w r c n l λy s2 t ru=>⟨v,H1,t,ru,q⟩
def ps_fld (ha:PE X o ta) (t:PE X value tv) (w:swapsWith value (some (.Attribute o f pos')) pos.line X.env=pure false):PS X (.Assign [.Attribute o f pos'] value pos) (sFld X.K ta tv f):=by
 intro pins s σ H D I h;refine plainObj_wpAny_Assign_Attribute (thn (t pins s σ H _ I h) λu s1 ⟨y,H1,L,g,q⟩=>thn (ha pins s1 σ H1 _ L q) λr s2 z=>?_) w;obtain ⟨x,N,J,m,a,C,M,fs,ex,A,c,n,l,p⟩:=z;subst ex;obtain rfl:r=Value.ref a:=m;exact vN J A c n l g λs3 G=>⟨σ,_,G,p⟩
end
section
inductive TyOf (K:Frg) (H:Hp):V->Value->Prop where
 |non:TyOf K H .non (.type "NoneType")
 |bl (x:Bool):TyOf K H (.bl x) (.type "bool")
 |int (i:Int):TyOf K H (.int i) (.type "int")
 |str (x:Str):TyOf K H (.str x) (.type "str")
 |lst {a:Addr} {xs:List V} (e:H a=some (.lst xs)):TyOf K H (.ref a) (.type "list")
 |frz {a:Addr} {o:Obj} {xs:List V} (e:H a=some (.frz o (.lst xs))):TyOf K H (.ref a) (.type "list")
 |tup {a:Addr} {xs:List V} (e:H a=some (.tup xs)):TyOf K H (.ref a) (.type "tuple")
 |ins {a C dx:Addr} {fs:List (Str×V)} (e:H a=some (.ins C dx fs)) (cl:Cls K C) (ha:PySem.W.findIn K (.ref C) "__class__"=some (some (.builtin "object.__class__")))
  (hn:PySem.W.specialIn K (.builtin "object.__class__") "__get__"=some (some (.builtin "getset_descriptor.__get__"))) (htk:PySem.W.takesIn K (.builtin "object.__class__")=some true)
  (hm:PySem.W.mroIn K C (.type "object")=some true):TyOf K H (.ref a) (.ref C)
def DF {x:V} {u t:Value} (I:Inv X pins σ H s) (g:YF x u) (ty:TyOf X.K H x t) (e:PySem.W.kitOne X.K t c=some b) (h:∀tk,Q (.bool b) {s with toks:=tk}):
 wpAny (model X.prog X.w) A (call (.builtin "isinstance") [u,c]) Q E s:=by
 cases ty with
 |non=>cases (show u=Value.none from g);exact jaW PySem.W.kitx_none I.kIn True.intro e (λz=>nomatch z) h
 |bl y=>cases (show u=Value.bool y from g);exact jaW PySem.W.kitx_bool I.kIn True.intro e (λz=>nomatch z) h
 |int i=>obtain ⟨t,q⟩:=(show ∃t,u=Value.int i t from g);cases q;exact jaW PySem.W.kitx_int I.kIn True.intro e (λz=>nomatch z) h
 |str y=>obtain ⟨t,q⟩:=(show ∃t,u=Value.str y t from g);cases q;exact jaW PySem.W.kitx_str I.kIn True.intro e (λz=>nomatch z) h
 |@lst a xs ea=>
  cases (show u=Value.ref a from g);obtain ⟨_,_,n,_,m⟩:=(show YU X.prog X.w H s.heap a (.lst xs) from I.hok a _ ea);exact jaW PySem.W.kitx_list I.kIn ⟨_,m,rfl⟩ e (λz=>nomatch z) h
 |@frz a ob xs ea=>
  cases (show u=Value.ref a from g);obtain ⟨_,_,_,n,_,m⟩:=(show YU X.prog X.w H s.heap a (.frz ob (.lst xs)) from I.hok a _ ea);exact jaW PySem.W.kitx_list I.kIn ⟨_,m,rfl⟩ e (λz=>nomatch z) h
 |@tup a xs ea=>
  cases (show u=Value.ref a from g);obtain ⟨_,_,_,p⟩:=(show YU X.prog X.w H s.heap a (.tup xs) from I.hok a _ ea);obtain ⟨o,m,r,_⟩:=p;exact jaW PySem.W.kitx_tuple I.kIn ⟨o,m,r⟩ e (λz=>nomatch z) h
 |@ins a C dx fs ea cl ha hn htk hm=>
  cases (show u=Value.ref a from g);obtain ⟨G,O,_⟩:=ni I.hok ea;obtain ⟨D,J,_⟩:=O.look;exact jaW (PySem.W.kitx_own (cl.get _) cl.hd ha hn htk hm) I.kIn J e (λz=>nomatch z) h
end
structure Room (k:Nat) (A:Around):Prop where
 hd:A.handled=none
 dp:A.depth+3*k+5<recursionLimit
 un:A.units+16*k+200<cLine
def Room.mono {j k:Nat} {A:Around} (r:Room k A) (h:j<=k):Room j A:=⟨r.hd,by have:=r.dp;lia,by have:=r.un;lia⟩
def Room.deeper {k:Nat} {A:Around} (r:Room (k+1) A) (env:Env):Room k (A.deeper env):=
 ⟨r.hd,by have:=r.dp;show A.depth+1+3*k+5<_;lia,by have:=r.un;show A.units+3+16*k+200<_;lia⟩
def wM {A:Around} {C:Addr} {us:List Value} {kw:List (Str×Value)}:(A.under (.builtin "type.__call__" ⟨.ref C::us,kw⟩)).depth=A.depth+1:=by
 first|rfl|simp [Around.under,Code.weight,Code.isCreation,Code.isGuard,Code.isCaller,Code.frames,Code.isFrame,guardIds]
def wL {A:Around} {C:Addr} {us:List Value} {kw:List (Str×Value)}:(A.under (.builtin "type.__call__" ⟨.ref C::us,kw⟩)).units=A.units+1:=by
 first|rfl|simp [Around.under,Code.cUnits,Code.frames,Code.isFrame]
def Room.make {k:Nat} {A:Around} (r:Room (k+1) A) (C:Addr) (us:List Value) (kw:List (Str×Value)):Room k (A.under (.builtin "type.__call__" ⟨.ref C::us,kw⟩)):=
 ⟨r.hd,by have:=r.dp;rw [wM];lia,by have:=r.un;rw [wL];lia⟩
def Room.depth {k:Nat} {A:Around} (r:Room k A):A.depth<recursionLimit:=by have:=r.dp;lia
def Room.units {k:Nat} {A:Around} (r:Room k A):A.units+64<cLine:=by have:=r.un;lia
def tNil:TA:=λ_ H Q=>Q [] H
def tCons (m:TE) (g:TA):TA:=λσ H Q=>m σ H λx H1=>g σ H1 λxs p=>Q (x::xs) p
section
def gB:PA X [] tNil:=λ_ _ _ _ H Q I h=>Calls.spliced_nil ⟨[],H,I, .nil,h⟩
def Vg (ha:PE X e te) (hr:PA X es t) (r:starEach (e::es) X.env=(false,eval e X.env)::starEach es X.env:=by rfl):PA X (e::es) (tCons te t):=by
 intro pos pins s σ H Q I h;rw [r];show wpAny _ _ (spliced ((false,eval e X.env)::backTo pos (starEach es X.env))) _ _ s;refine Calls.spliced_cons (thn (ha pins s σ H _ I h) λu s1 w=>?_);obtain ⟨x,H1,z,m,q⟩:=w;refine thn (hr pos pins s1 σ H1 _ z q) ?_;rintro us s2 ⟨xs,A,y,g,p⟩;exact ⟨x::xs,A,y, .cons m g,p⟩
def tTup (t:TA):TE:=λσ H Q=>t σ H λxs H1=>xs.length<=sizeLine/\∀p,H1 p=none->Q (.ref p) (upd H1 p (.tup xs))
def tLst (t:TA):TE:=λσ H Q=>t σ H λxs H1=>xs.length<=sizeLine/\∀p,H1 p=none->Q (.ref p) (upd H1 p (.lst xs))
def pe_tup {x1} (h:PA X es t):PE X (.Tuple es x1 pos) (tTup t):=by
 intro pins s σ H Q I hq;refine wpAny_Tuple_spliced (thn (h pos pins s σ H _ I hq) λus s1 ⟨xs,H1,g,r,z,q⟩=>⟨by rw [<-r.length];exact z,?_⟩);have hf:H1 s1.heap.objs.size=none:=g.hok.fresh (Qu _);refine ⟨.ref s1.heap.objs.size,upd H1 s1.heap.objs.size (.tup xs),g.laid (t':=s1.toks) (λb u e=>Qj _ e) (Qu _) ?_,rfl,q _ hf⟩;exact ⟨z,us,r,⟨_,Qx _ rfl,rfl,_,rfl⟩⟩
def pe_lst (h:PA X es t):PE X (.List es pos) (tLst t):=by
 intro pins s σ H Q I hq;refine wpAny_List_spliced (thn (h pos pins s σ H _ I hq) λus s1 ⟨xs,H1,g,r,z,q⟩=>⟨by rw [<-r.length];exact z,?_⟩);have hf:H1 s1.heap.objs.size=none:=g.hok.fresh (Qu _);refine ⟨.ref s1.heap.objs.size,upd H1 s1.heap.objs.size (.lst xs),g.laid (t':=s1.toks) (λb u e=>Qj _ e) (Qu _) ?_,rfl,q _ hf⟩;exact ⟨z,us,0,r,Qx _ rfl⟩
end
abbrev Sp:=List V->Hp->VK->XK->Prop
abbrev CXT:=List Env->Hp->Shared->XK->Value->Shared->Prop
structure Env0 (P:Program) (w:World) (K:Frg) (mg:Str->Option Value) (base:Heap) (A:Around) (outer:List Env) (s:Shared) (H:Hp):Prop where
 frames:A.frames=some outer
 mod:Mod K mg base
 bs:∀b o,base.get? b=some o->s.heap.get? b=some o/\H b=none
 bsz:base.objs.size<=s.heap.objs.size
 funs:s.heap.FunFrames base outer
 frf:∀b∈frs outer,H b=none
 hok:HOk P w H s.heap
 bare:AllBare s.gens
def CE (outer:List Env) (P:Program) (w:World) (H:Hp) (s:Shared) (Q:VK) (u:Value) (g:Shared):Prop:=
 ∃v H',g.os=s.os/\AllBare g.gens/\Un (frs outer) [] H H' s.heap g.heap/\HOk P w H' g.heap/\YF v u/\Q v H'
def CR (CX:CXT) (outer:List Env) (P:Program) (w:World) (H:Hp) (s:Shared) (Q:VK) (E:XK) (r:Result) (g:Shared):Prop:=
 match r with
 | .ok (.ret u)=>CE outer P w H s Q u g
 | .ok _=>False
 | .error e=>CX outer H s E e g
structure FnOk (P:Program) (w:World) (K:Frg) (mg:Str->Option Value) (base:Heap) (CX:CXT) (k:Nat) (f:Addr) (fd:FuncData) (ps:List Str) (sp:Sp):Prop where
 len:∀vs H Q E,sp vs H Q E->vs.length=ps.length
 run:∀(A:Around) (outer:List Env) (s:Shared) (H:Hp) (args:Args) (us:List Value) (vs:List V) (Q:VK) (E:XK),Room k A->Env0 P w K mg base A outer s H->BindsTo s fd args (ps.zip us)->xV vs us->sp vs H Q E->
  codeAny (model P w) A (.call (.ref f) args) (CR CX outer P w H s Q E) s
def FnOk.mono {P:Program} {w:World} {K:Frg} {mg:Str->Option Value} {base:Heap} {CX:CXT} {j k:Nat} {f:Addr} {fd:FuncData} {ps:List Str} {sp:Sp} (F:FnOk P w K mg base CX j f fd ps sp) (h:j<=k):
 FnOk P w K mg base CX k f fd ps sp:=⟨F.len,λA outer s H args us vs Q E hr=>F.run A outer s H args us vs Q E (hr.mono h)⟩
def Env0.make {P:Program} {w:World} {K:Frg} {mg:Str->Option Value} {base:Heap} {A:Around} {outer:List Env} {s:Shared} {H:Hp} (e:Env0 P w K mg base A outer s H) (C:Addr) (us:List Value) (kw:List (Str×Value)):
 Env0 P w K mg base (A.under (.builtin "type.__call__" ⟨.ref C::us,kw⟩)) outer s H:=⟨by first|exact e.frames|(simpa [Around.under,Code.envs,Code.isFrame,pushEnvs] using e.frames),e.mod,e.bs,e.bsz,e.funs,e.frf,e.hok,e.bare⟩
section
def Inv.env0 (I:Inv X pins σ H s):Env0 X.prog X.w X.K X.mg X.base X.A X.stack s H:=
 ⟨I.ok.frames,I.ok.mod,I.bs,Tc I.ok.bsz I.sz,I.stack,I.stkFree,I.hok,I.bare⟩
def Inv.after {Q:VK} {u:Value} (I:Inv X pins σ H s) (h:CE X.stack X.prog X.w H s Q u s'):EP X pins σ Q u s':=by
 obtain ⟨v,H',os,bare,un,hok,r,q⟩:=h;obtain ⟨m,g,d,t,p⟩:=s';obtain rfl:p=s.os:=os;exact ⟨v,H',I.call (h':=m) (g':=g) (d':=d) (t':=t) (ch:=[]) un hok bare (λb z=>absurd z (by simp)),r,q⟩
end
def vK (sp:Sp) (g:List V) (E:XK) (t:TA):TE:=λσ H Q=>t σ H λvs H1=>sp (vs++g) H1 Q E
def Jd (C:Addr) (sp:Sp) (m:List V) (E:XK) (t:TA):TE:=λσ H Q=>t σ H λvs H1=>∀x g,H1 x=none->H1 g=none->g≠x->
 sp (.ref x::(vs++m)) (upd (upd H1 g (.own x)) x (.ins C g [])) (λv p=>v= .non/\Q (.ref x) p) E
def xp (K:Frg) (fd:FuncData) (ps:List Str) (ds:List Value):Prop:=
 ∀(s:Shared) (us:List Value),K.In s.heap->(us++ds).length=ps.length->BindsTo s fd ⟨us,[]⟩ (ps.zip (us++ds))
def xp.all {K:Frg} {fd:FuncData} {ps:List Str} (h:∀us:List Value,us.length=ps.length->bindArgs fd ⟨us,[]⟩=pure (ps.zip us)):xp K fd ps []:=λs us _ g=>by
 rw [jaX] at g⊢;exact .of_eq (h us g)
def Ue (CX:CXT) (X:Cx) (E:XK):Prop:=∀(pins:Pn) (σ:St) (H:Hp) (s:Shared) (e:Value) (g:Shared),Inv X pins σ H s->CX X.stack H s E e g->X.xe e g
section
def tU {pins:Pn} {σ:St} {H:Hp} {s:Shared} {Q:VK} {us:List Value} {vs:List V} (F:FnOk X.prog X.w X.K X.mg X.base CX k f fd ps sp) (hr:Room k X.A) (y:xp X.K fd ps ds) (hd:xV dvs ds) (q:Ue CX X E)
 (I:Inv X pins σ H s) (r:xV vs us) (h:sp (vs++dvs) H Q E):wpAny (model X.prog X.w) X.A (call (.ref f) us) (EP X pins σ Q) X.xe s:=by
 have m:xV (vs++dvs) (us++ds):=r.append hd;have t:(us++ds).length=ps.length:=by rw [<-m.length];exact F.len _ _ _ _ h
 refine wpAny_call (jcc (F.run X.A X.stack s H ⟨us,[]⟩ (us++ds) (vs++dvs) Q E hr I.env0 (y s us I.kIn t) m h) λr p g=>?_)
 cases r with
 |error e=>exact q pins σ H s e p I g
 |ok fl=>
  cases fl with
  |ret u=>exact I.after g
  |next=>exact False.elim g
  |brk=>exact False.elim g
  |cont=>exact False.elim g
def JQ (F:FnOk X.prog X.w X.K X.mg X.base CX k f fd ps sp) (hr:Room k X.A) (y:Gl X x) (hm:X.mg x=some (.ref f)) (u:PySem.W.keepIn X.K (.ref f)=true) (z:xp X.K fd ps ds) (hd:xV dvs ds) (m:Ue CX X E)
 (ha:PA X (e::es) t) (D:(x==("__debug__":Str))=false:=by decide) (he:starEach (e::es) X.env=(false,eval e X.env)::starEach es X.env:=by rfl) (C:(backTo pos (starEach es X.env)).any (·.1)=false:=by rfl):
 PE X (.Call (.Name x p) (e::es) [] pos) (vK sp dvs E t):=by
 intro pins s σ H Q I h;refine jaM (gR I y hm ?_ D);refine jbV (h₀:=X.base) I.ok.mod.kin u (thn (ha pos pins s σ H _ I h) ?_) he C;rintro us s1 ⟨vs,H1,g,r,q⟩;refine ⟨g.kIn,?_⟩;exact tU F hr z hd m g r q
structure Mk (K:Frg) (C f:Addr):Prop where
 makes:PySem.W.makesIn K C=true
 init:PySem.W.findIn K (.ref C) "__init__"=some (some (.ref f))
 fn:PySem.W.isFn K (.ref f)=true
 kp:PySem.W.keepIn K (.ref C)=true
def tT {pins:Pn} {σ:St} {H:Hp} {s:Shared} {Q:VK} {us:List Value} {vs:List V} (M:Mk X.K C f) (F:FnOk X.prog X.w X.K X.mg X.base CX k f fd ps sp) (hr:Room (k+1) X.A) (L:xp X.K fd ps ds) (hd:xV dvs ds)
 (G:Ue CX X E) (I:Inv X pins σ H s) (r:xV vs us)
 (h:∀x m,H x=none->H m=none->m≠x->sp (.ref x::(vs++dvs)) (upd (upd H m (.own x)) x (.ins C m [])) (λv O=>v= .non/\Q (.ref x) O) E):
 wpAny (model X.prog X.w) X.A (call (.ref C) us) (EP X pins σ Q) X.xe s:=by
 have t:=h (s.heap.objs.size+1) s.heap.objs.size (I.hok.fresh (jaq _)) (I.hok.fresh (Qu _)) (QU (Tp _));have p:=Inv.made (C:=C) I;have q:xV (V.ref (s.heap.objs.size+1)::(vs++dvs)) (Value.ref (s.heap.objs.size+1)::(us++ds)):= .cons rfl (r.append hd)
 have J:(Value.ref (s.heap.objs.size+1)::us++ds).length=ps.length:=by
  have e:=q.length;rw [F.len _ _ _ _ t] at e;exact e.symm
 refine wpAny_call (GA (f:=f) I.kIn M.makes M.init (beq_iff_eq.mp M.fn) (jcc (F.run _ X.stack _ _ ⟨Value.ref (s.heap.objs.size+1)::us,[]⟩ (Value.ref (s.heap.objs.size+1)::(us++ds)) _ _ E (hr.make C us [])
  (p.env0.make C us []) (L _ (Value.ref (s.heap.objs.size+1)::us) p.kIn J) q t) λr y g=>?_))
 cases r with
 |error e=>exact G pins σ _ _ e y p g
 |ok fl=>
  cases fl with
  |ret u=>
   obtain ⟨v,H',N,z,ev,D⟩:=p.after g;subst ev;exact ⟨z,⟨V.ref (s.heap.objs.size+1),H',N,rfl,D⟩⟩
  |next=>exact False.elim g
  |brk=>exact False.elim g
  |cont=>exact False.elim g
def pe_make (M:Mk X.K C f) (F:FnOk X.prog X.w X.K X.mg X.base CX k f fd ps sp) (hr:Room (k+1) X.A) (u:Gl X x) (hm:X.mg x=some (.ref C)) (y:xp X.K fd ps ds) (hd:xV dvs ds) (m:Ue CX X E)
 (ha:PA X (e::es) t) (D:(x==("__debug__":Str))=false:=by decide) (he:starEach (e::es) X.env=(false,eval e X.env)::starEach es X.env:=by rfl) (z:(backTo pos (starEach es X.env)).any (·.1)=false:=by rfl):
 PE X (.Call (.Name x p) (e::es) [] pos) (Jd C sp dvs E t):=by
 intro pins s σ H Q I h;refine jaM (gR I u hm ?_ D);refine jbV (h₀:=X.base) I.ok.mod.kin M.kp (thn (ha pos pins s σ H _ I h) ?_) he z;rintro us s1 ⟨vs,H1,g,r,q⟩;refine ⟨g.kIn,?_⟩;exact tT M F hr y hd m g r q
def pe_make0 (M:Mk X.K C f) (F:FnOk X.prog X.w X.K X.mg X.base CX k f fd ps sp) (hr:Room (k+1) X.A) (m:Gl X x) (hm:X.mg x=some (.ref C)) (q:xp X.K fd ps ds) (hd:xV dvs ds) (g:Ue CX X E)
 (r:(x==("__debug__":Str))=false:=by decide):PE X (.Call (.Name x p) [] [] pos) (Jd C sp dvs E tNil):=by
 intro pins s σ H Q I h;refine jaM (gR I m hm ?_ r);exact PySem.W.callWith_K0 I.kIn M.kp (tT (us:=[]) M F hr q hd g I .nil h)
end
section
end
structure FnScope (N P:List Str) (sc:Scope):Prop where
 kind:sc.kind= .function
 co:sc.isCoroutine=false
 gen:sc.isGenerator=false
 nd:N.Nodup
 pre:N.take P.length=P
 par:∀x∈P,sc.names.lookup x=some .local\/sc.names.lookup x=some .cell
 nofree:∀y∈sc.names,y.2≠ .free
theorem qh {kindOf:Str->Option NameKind} {x:Str}:∀{binds:List (Str×Value)} {m:Str->Option Value},(∀v,(x,v)∉binds)->bindL kindOf binds m x=m x
 |[],_,_=>rfl
 |(n,v)::r,m,h=>by
  unfold bindL;rw [qh λw hw=>h w (Qf _ hw)]
  split
  ·have:x≠n:=by rintro rfl;exact h v Qe
   simp [this]
  ·rfl
theorem qj {kindOf:Str->Option NameKind} {x:Str}:∀{binds:List (Str×Value)} {m:Str->Option Value},(∀v,(x,v)∉binds)->bindC kindOf binds m x=m x
 |[],_,_=>rfl
 |(n,v)::r,m,h=>by
  unfold bindC;rw [qj λw hw=>h w (Qf _ hw)]
  split
  ·rfl
  ·have:x≠n:=by rintro rfl;exact h v Qe
   simp [this]
theorem qi {kindOf:Str->Option NameKind} {x:Str} {v:Value}:∀{P:List Str} {vs:List Value} {i:Nat} {m:Str->Option Value},P.Nodup->P[i]? =some x->vs[i]? =some v->kindOf x=some .local->
 bindL kindOf (P.zip vs) m x=some v
 |[],_,_,_,_,h,_,_=>by simp at h
 |_::_,[],_,_,_,_,h,_=>by simp at h
 |p::P,w::vs,0,m,nd,h1,h2,hk=>by
  simp at h1 h2;subst h1;subst h2;show bindL kindOf ((p,w)::P.zip vs) m p=_;unfold bindL;rw [qh λv g=>(TX.mp nd).1 (jbD g).1,QH hk]
  simp
 |p::P,w::vs,i+1,m,nd,h1,h2,hk=>by
  show bindL kindOf ((p,w)::P.zip vs) m x=_;unfold bindL;exact qi (i:=i) (TX.mp nd).2 ‹h1› ‹h2› hk
theorem qk {kindOf:Str->Option NameKind} {x:Str} {v:Value}:∀{P:List Str} {vs:List Value} {i:Nat} {m:Str->Option Value},P.Nodup->P[i]? =some x->vs[i]? =some v->kindOf x≠some .local->
 bindC kindOf (P.zip vs) m x=some v
 |[],_,_,_,_,h,_,_=>by simp at h
 |_::_,[],_,_,_,_,h,_=>by simp at h
 |p::P,w::vs,0,m,nd,h1,h2,hk=>by
  simp at h1 h2;subst h1;subst h2;show bindC kindOf ((p,w)::P.zip vs) m p=_;unfold bindC;rw [qj λv g=>(TX.mp nd).1 (jbD g).1,QS hk]
  simp
 |p::P,w::vs,i+1,m,nd,h1,h2,hk=>by
  show bindC kindOf ((p,w)::P.zip vs) m x=_;unfold bindC;exact qk (i:=i) (TX.mp nd).2 ‹h1› ‹h2› hk
def kS (N:List Str) (vs:List V):St:=vs.map some++List.replicate (N.length - vs.length) none
def IE (CX:CXT) (P:Program) (w:World) (K:Frg) (mg:Str->Option Value) (base:Heap) (N:List Str) (qual:Str) (scope:Scope) (f:Addr) (cd:Value) (A:Around) (outer:List Env) (s:Shared) (H:Hp) (E:XK):Cx where
 prog:=P
 w:=w
 K:=K
 mg:=mg
 base:=base
 A:=A.deeper (envOfC qual scope s.heap.objs.size f cd)
 N:=N
 s₀:=s
 H₀:=H
 env:=envOfC qual scope s.heap.objs.size f cd
 outer:=outer
 stack:=envOfC qual scope s.heap.objs.size f cd::outer
 ex:=[]
 calm:=true
 fn:=λ_=>true
 pn:=[]
 xe:=λe m=>wpAny (model P w) (A.deeper (envOfC qual scope s.heap.objs.size f cd)) (leaving (envOfC qual scope s.heap.objs.size f cd) e) (λ_ g=>CX outer H s E e g) (λp g=>CX outer H s E p g) m
def uT {sc:Scope} {n:Nat} {x:Str} (h:sc.names.lookup x=some .cell):∃c,(cellsFrom n sc.names []).lookup x=some c:=by
 have q:=PySem.W.cellsFrom_some sc.names n [] (.inl h);exact jaN.mp q
def DG {CX:CXT} {P:Program} {w:World} {K:Frg} {mg:Str->Option Value} {base:Heap} {N ps:List Str} {qual:Str} {scope:Scope} {f:Addr} {cd:Value} {A:Around} {outer:List Env} {s s1:Shared} {H:Hp} {E:XK} {us:List Value} {vs:List V}
 (S:FnScope N ps scope) (hd:A.handled=none) (e0:Env0 P w K mg base A outer s H) (M:vs.length=ps.length) (r:xV vs us)
 (x:InCallC s s.heap.objs.size (bindL (envOfC qual scope s.heap.objs.size f cd).kindOf (ps.zip us) λ_=>none) (cellsFrom (s.heap.objs.size+1) scope.names []) (bindC (envOfC qual scope s.heap.objs.size f cd).kindOf (ps.zip us) λ_=>none) s1):
 Inv (IE CX P w K mg base N qual scope f cd A outer s H E) [] (kS N vs) H s1:=by
 have T:ps.length<=N.length:=by have:=congrArg List.length S.pre;rw [jad] at this;lia
 obtain ⟨G,tk,rfl,J⟩:=x.done;have m:∀b:Addr,b∉(IE CX P w K mg base N qual scope f cd A outer s H E).ex:=λb z=>absurd (show b∈([]:List Addr) from z) (by simp)
 refine ⟨⟨e0.mod,S.kind,rfl,rfl,Qu _,λy z c G g=>?_,λy t=>?_,λy c _ h=>?_,λ_=>hd,Around.frames_deeper e0.frames, .inr ⟨rfl,rfl⟩,λb z=>absurd z (m b),e0.bs,e0.bsz,λb _ _=>m b,λb z=>absurd z (m b),e0.funs,e0.frf⟩,
  rfl,e0.bare,Un.kept J,⟨_,x.toInCall.ns,λi y v G g O=>?_⟩,λy c h=>⟨_,x.cell y c h⟩,e0.hok.fresh (Qu _),λy c h=>?_,λp hp=>absurd (show p∈([]:List (Addr×Obj)) from hp) (by simp),e0.hok.kept J,?_⟩
 ·exact name_of_addr x.apart (jaD G) (jaD g)
 ·have t:scope.names.lookup y=some .cell\/scope.names.lookup y=some .free:=t
  rcases t with t|t
  ·exact uT t
  ·exact absurd rfl (S.nofree _ (jaD t))
 ·exact jbO (x.above y c (jaD h))
 ·have D:i<vs.length:=by
   unfold kS at g
   by_cases D:i<vs.length
   ·exact D
   ·rw [Tq ‹D›] at g;rw [QX] at g
    split at g<;>cases g
  have ha:vs[i]? =some v:=by
   unfold kS at g;rw [jag ‹D›,Qg] at g
   cases e:vs[i]? with
   |none=>rw [e] at g;cases g
   |some a=>rw [e] at g;cases g;rfl
  obtain ⟨u,I,L⟩:=r.get ha
  have hp:ps[i]? =some y:=by
   rw [<-S.pre,List.getElem?_take_of_lt ⋯];exact G
  have C:ps.Nodup:=by rw [<-S.pre];exact S.nd.sublist (List.take_sublist _ _)
  refine ⟨u,L,?_⟩
  rcases S.par y (Qc hp) with k|k
  ·exact .inl ⟨k,qi C hp I k⟩
  ·obtain ⟨c,e⟩:=uT (n:=s.heap.objs.size+1) k;refine .inr ⟨.inl k,c,e,?_⟩;have q:=x.cell y c e;rw [qk C hp I (by show scope.names.lookup y≠_;rw [k];decide)] at q;exact q
 ·exact e0.hok.fresh (jbO (x.above y c (jaD h)))
 ·unfold kS;show _=N.length;rw [QA,Qa,QF];lia
def fn_of {CX:CXT} {P:Program} {w:World} {K:Frg} {mg:Str->Option Value} {base:Heap} {k:Nat} {f:Addr} {name qual:Str} {params:Arguments} {body:List Stmt} {scope:Scope} {D kV doc pm g ct O:Value} {an M:Option Addr}
 {C:Array (Option Value)} {N ps:List Str} {sp:Sp} (T:K.lookup f=some ⟨O,M, .func (PySem.W.fnOf name qual params body scope D kV doc pm an g ct),C⟩) (My:PySem.W.codeIn K g qual=true) (S:FnScope N ps scope)
 (len:∀vs H Q E,sp vs H Q E->vs.length=ps.length)
 (Np:∀(A:Around) (outer:List Env) (s:Shared) (H:Hp) (vs:List V) (Q:VK) (E:XK),Room k (A.deeper (envOfC qual scope s.heap.objs.size f g))->sp vs H Q E->
  ∃t,PSs (IE CX P w K mg base N qual scope f g A outer s H E) body t/\t {nx:=λ_ H'=>Q .non H',rt:=Q} (kS N vs) H):
 FnOk P w K mg base CX (k+1) f (PySem.W.fnOf name qual params body scope D kV doc pm an g ct) ps sp:=by
 refine ⟨len,λA outer s H args us vs Q E hr e0 Z r G=>?_⟩;have Y:=len _ _ _ _ G;have L:K.In s.heap:=e0.mod.kin.keeps λb o e=>(e0.bs b o e).1;have lim:s.heap.NoLimit:=e0.mod.nolimit.keeps λb o e=>(e0.bs b o e).1
 have Rj:∀y∈ps.zip us,scope.names.lookup y.1=some .local\/(scope.names.lookup y.1=some .cell/\((cellsFrom (s.heap.objs.size+1) scope.names []).lookup y.1).isSome=true):=λ⟨n,v⟩ U=>by
  rcases S.par n (jbD U).1 with q|q
  ·exact .inl q
  ·exact .inr ⟨q,PySem.W.cellsFrom_some _ _ _ (.inl q)⟩
 refine codeAny_call_function hr.depth (L _ _ T) rfl S.co S.gen rfl (PySem.W.codeRec_of L My) (Z _ _ _ _ ?_);refine wpAny_newFunctionEnv_cells S.kind Rj λenv he s1 x=>?_;subst he;refine ⟨lim.keeps x.toInCall.keep,codeAny_func ?_⟩;obtain ⟨t,ht,X⟩:=Np A outer s H vs Q E (hr.deeper _) G;have I:Inv (IE CX P w K mg base N qual scope f g A outer s H E) [] (kS N vs) H s1:=DG S hr.hd e0 Y r x;refine wpAny_mono (ht [] s1 (kS N vs) H _ I X) (λfl p m=>?_) λe p m=>m
 have fin:∀{σ':St} {H':Hp} {v:V} {u:Value},Inv (IE CX P w K mg base N qual scope f g A outer s H E) [] σ' H' p->YF v u->Q v H'->CE outer P w H s Q u p:=
  λ{σ' H' v u} J z q=>⟨v,H',J.os,J.bare,J.base,J.hok,z,q⟩
 cases fl with
 |ret u=>
  obtain ⟨v,σ',H',J,z,q⟩:=m;exact fin J z q
 |next=>
  obtain ⟨σ',H',J,q⟩:=m;exact fin (v:=V.non) (u:=Value.none) J rfl q
 |brk=>
  obtain ⟨_,_,_,q⟩:=m;exact False.elim q
 |cont=>
  obtain ⟨_,_,_,q⟩:=m;exact False.elim q
section
variable {X:Cx} {x:Str} {p pos:Pos} {e:Expr} {es:List Expr} {t:TA} {id T:String} {r:List V->Hp->VK->Prop}
def tCB (r:List V->Hp->VK->Prop) (t:TA):TE:=λσ H Q=>t σ H λvs H1=>r vs H1 Q
def dZ (w:Vz X (.builtin id) r) (u:Gl X x) (hm:X.mg x=none) (q:bootBuiltins x=some (.builtin id)) (ha:PA X (e::es) t) (hn:x≠"__name__":=by decide) (z:(x==("__debug__":Str))=false:=by decide)
 (he:starEach (e::es) X.env=(false,eval e X.env)::starEach es X.env:=by rfl) (y:(backTo pos (starEach es X.env)).any (·.1)=false:=by rfl):PE X (.Call (.Name x p) (e::es) [] pos) (tCB r t):=by
 intro pins s σ H Q I h;refine jaM (Uc I u hm q ?_ hn z);refine PyProof.Rows.callWith_builtin1 (thn (ha pos pins s σ H _ I h) ?_) he y;rintro us s1 ⟨vs,H1,A,g,m⟩;exact w pins s1 σ H1 vs us Q A g m
def pe_callTy (w:Vz X (.type T) r) (u:Gl X x) (hm:X.mg x=none) (q:bootBuiltins x=some (.type T)) (ha:PA X (e::es) t) (hn:x≠"__name__":=by decide) (z:(x==("__debug__":Str))=false:=by decide)
 (he:starEach (e::es) X.env=(false,eval e X.env)::starEach es X.env:=by rfl) (y:(backTo pos (starEach es X.env)).any (·.1)=false:=by rfl):PE X (.Call (.Name x p) (e::es) [] pos) (tCB r t):=by
 intro pins s σ H Q I h;refine jaM (Uc I u hm q ?_ hn z);refine TV (thn (ha pos pins s σ H _ I h) ?_) he y;rintro us s1 ⟨vs,H1,A,g,m⟩;exact w pins s1 σ H1 vs us Q A g m
end
end L2
namespace HT
open PySem PyProof.Rows
section
open PySem.SeqAt
open PySem.AutoSeq1 (wpAny_loadPart')
open PySem.MeetsSeq PySem.MeetsSeq2 PySem.MeetsSeq3
end
section
def sIx (n d:Nat):Option Int->Nat
 |none=>d
 |some v=>if v<0 then (v+(n:Int)).toNat else min v.toNat n
def sIx_none (n d:Nat):sIx n d none=d:=rfl
def sIx_nat (n d k:Nat):sIx n d (some (k:Int))=min k n:=by
 show (if (k:Int)<0 then ((k:Int)+(n:Int)).toNat else min (k:Int).toNat n)=min k n;rw [QS ⋯,Tn]
end
end HT
namespace L2
open PySem PySem.Spec PyProof.Rows
abbrev TO:=St->Hp->(Option Int->Hp->Prop)->Prop
def PO (X:Cx) (e:Option Expr) (t:TO):Prop:=
 ∀(pins:Pn) (s:Shared) (σ:St) (H:Hp) (Q:Option Int->Hp->Prop),Inv X pins σ H s->t σ H Q->
  wpAny (model X.prog X.w) X.A (evalPart e X.env) (λu g=>∃o H',Inv X pins σ H' g/\IsPart u o/\Q o H') X.xe s
def Bh:TO:=λ_ H Q=>Q none H
def tPart (t:TE):TO:=λσ H Q=>t σ H λx H1=>∃i,x= .int i/\Q (some i) H1
def XJ {ns:List Int}:∀{us:List Value},xV (ns.map V.int) us->IntsAre us ns:=by
 induction ns with
 |nil=>intro us r;rw [TC] at r;cases r;exact .nil
 |cons n ns p=>
  intro us r;rw [Qk] at r
  cases r with
  |cons m g=>
   obtain ⟨t,e⟩:=m;subst e;exact .cons n t (p g)
section
variable {X:Cx} {e:Expr} {te:TE} {lo hi:Option Expr} {tl th:TO} {pos p2:Pos}
def po_none:PO X none Bh:=by
 intro pins s σ H Q I h;rw [evalPart_none];exact Qt ⟨none,H,I, .none,h⟩
def po_some (h:PE X e te):PO X (some e) (tPart te):=by
 intro pins s σ H Q I hw;rw [evalPart_some];refine thn (h pins s σ H _ I hw) λu s1 p=>?_;obtain ⟨x,H1,r,g,m⟩:=p;obtain ⟨i,rfl,q⟩:=m;obtain ⟨t,rfl⟩:=g;exact ⟨some i,H1,r, .int i t,q⟩
def SlR (X:Cx) (r:V->Option Int->Option Int->Hp->VK->Prop):Prop:=
 ∀(pins:Pn) (s:Shared) (σ:St) (H:Hp) (x:V) (v m g:Value) (lo hi:Option Int) (p:Addr) (Q:VK),Inv X pins σ H s->YF x v->s.heap.IsSliceOf p m g .none->IsPart m lo->IsPart g hi->r x lo hi H Q->
  ∃T id,typeLookup (.type T) "__getitem__"=pure (some (.builtin id))/\s.TypeIs v T/\wpAny (model X.prog X.w) X.A (getItem v (.ref p)) (EP X pins σ Q) X.xe s
def tSl (r:V->Option Int->Option Int->Hp->VK->Prop) (te:TE) (tl th:TO):TE:=λσ H Q=>te σ H λx H1=>tl σ H1 λl m=>th σ m λu g=>r x l u g Q
def pe_slice {r:V->Option Int->Option Int->Hp->VK->Prop} (hr:SlR X r) (he:PE X e te) (J:PO X lo tl) (G:PO X hi th):PE X (.Subscript e (.Slice lo hi none p2) pos) (tSl r te tl th):=by
 intro pins s σ H Q I h;refine Subscript_ (thn (he pins s σ H _ I h) λv s1 p=>?_);obtain ⟨x,H1,P,y,D⟩:=p;refine wpAny_Slice (thn (J pins s1 σ H1 _ P D) λm s2 ⟨l,U,O,pl,C⟩=>thn (G pins s2 σ U _ O C) λg s3 p=>?_);obtain ⟨u,t,N,pu,z⟩:=p;rw [evalPart_none];refine Qt ?_;have M:Inv X pins σ t {s3 with heap:=s3.heap.push {cls:= .type "slice",data:= .fields #[m,g, .none]}}:=N.kept (t':=s3.toks) λb Y q=>Qj _ q;obtain ⟨T,id,L,ht,K⟩:=hr pins {s3 with heap:=s3.heap.push {cls:= .type "slice",data:= .fields #[m,g, .none]}} σ t x v m g l u s3.heap.objs.size Q M y (Heap.IsSliceOf.new ..) pl pu z;show wpAny (model X.prog X.w) X.A (subscriptTail e (.Slice lo hi none p2) v (.ref s3.heap.objs.size)) (EP X pins σ Q) X.xe {s3 with heap:=s3.heap.push {cls:= .type "slice",data:= .fields #[m,g, .none]}};exact tail_any (ops:=[.ref s3.heap.objs.size,v]) ht L K (by with_unfolding_all rfl)
def IF (xs:List V) (lo hi:Option Int):List V:=(xs.drop (HT.sIx xs.length 0 lo)).take (HT.sIx xs.length xs.length hi - HT.sIx xs.length 0 lo)
def sH (xs:List V) (lo hi:Option Int):(IF xs lo hi).length<=xs.length:=by
 unfold IF;rw [jad,TR];lia
end
def ixN (n:Nat) (i:Int):Option Nat:=if 0<=i then (if i<n then some i.toNat else none) else if -(n:Int)<=i then some (i+n).toNat else none
def atI {α:Type} (xs:List α) (i:Int):Option α:=(ixN xs.length i).bind λj=>xs[j]?
def DD {n:Nat} {i:Int} {j:Nat} (h:ixN n i=some j):seqIndex? i n=some j/\j<n/\ -(n:Int)<=i/\i<n:=by
 unfold ixN at h
 by_cases h0:0<=i
 ·rw [QH h0] at h
  by_cases g:i<n
  ·rw [QH g] at h;have e:i.toNat=j:=QJ h;exact ⟨by rw [seqIndex_of h0 g,e],⋯,⋯,g⟩
  ·rw [QS g] at h;cases h
 ·rw [QS h0] at h
  by_cases g: -(n:Int)<=i
  ·rw [QH g] at h;have e:(i+n).toNat=j:=QJ h;exact ⟨by rw [seqIndex_neg ⋯ g,e],⋯,g,⋯⟩
  ·rw [QS g] at h;cases h
def sX {α:Type} {xs:List α} {i:Int} {v:α} (h:atI xs i=some v):∃j,seqIndex? i xs.length=some j/\xs[j]? =some v/\j<xs.length/\ -(xs.length:Int)<=i/\i<xs.length:=by
 unfold atI at h
 cases e:ixN xs.length i with
 |none=>rw [e] at h;cases h
 |some j=>
  rw [e] at h;obtain ⟨q,p,m,g⟩:=DD e;exact ⟨j,q,h,p,m,g⟩
def zZ {α:Type} {xs:List α} {j:Nat} {v:α} (h:xs[j]? =some v):atI xs (j:Int)=some v:=by
 have g:j<xs.length:=(Qd.mp h).1
 have e:ixN xs.length (j:Int)=some j:=by
  unfold ixN;rw [QH ⋯,QH ⋯];simp
 unfold atI;rw [e];exact h
def uY {α:Type} (xs:List α) (v:α):atI (xs++[v]) (-1)=some v:=by
 have g:(xs++[v]).length=xs.length+1:=by simp
 have e:ixN (xs++[v]).length (-1)=some xs.length:=by
  unfold ixN;rw [g,QS nofun,QH ⋯]
  congr 1
  lia
 unfold atI;rw [e];show (xs++[v])[xs.length]? =some v
 simp
def KY (b:Expr):Prop:=∀o i,subscripted b false o i=operate [o,i] (getItem o i)
def IxR (X:Cx) (r:R2):Prop:=
 ∀(value slice:Expr) (pins:Pn) (s:Shared) (σ:St) (H:Hp) (x y:V) (v u:Value) (Q:VK),Inv X pins σ H s->YF x v->YF y u->r x y H Q->
  subscripted slice false v u=operate [v,u] (getItem v u)->wpAny (model X.prog X.w) X.A (subscriptTail value slice v u) (EP X pins σ Q) X.xe s
def MtR (X:Cx) (id:String) (r:V->List V->Hp->VK->Prop):Prop:=
 ∀(pins:Pn) (s:Shared) (σ:St) (H:Hp) (x:V) (xs:List V) (v:Value) (us:List Value) (Q:VK),Inv X pins σ H s->YF x v->xV xs us->r x xs H Q->
  wpAny (model X.prog X.w) X.A (call (.builtin id) (v::us)) (EP X pins σ Q) X.xe s
section
variable {X:Cx}
def IxR.or {r g:R2} (h:IxR X r) (h':IxR X g):IxR X (λx y H Q=>r x y H Q\/g x y H Q):=by
 intro value slice pins s σ H x y v u Q I rx ry q hs
 rcases q with q|q
 ·exact h value slice pins s σ H x y v u Q I rx ry q hs
 ·exact h' value slice pins s σ H x y v u Q I rx ry q hs
def pe_ix {r:R2} (hr:IxR X r) (ha:PE X a ta) (t:PE X b tb) (p:KY b):PE X (.Subscript a b pos) (tOp r ta tb):=by
 intro pins s σ H Q I h;exact Subscript_ (binT ha t I h λv u s2 x y z w m g q=>hr a b pins s2 σ z x y v u Q w m g q (p _ _))
def rIxL (K:Frg):R2:=λx y H Q=>∃p xs i v,x= .ref p/\y= .int i/\SqL K H p xs/\atI xs i=some v/\Q v H
def rIxT (K:Frg):R2:=λx y H Q=>∃p xs i v,x= .ref p/\y= .int i/\SqT K H p xs/\atI xs i=some v/\Q v H
def rIxS:R2:=λx y H Q=>∃z i c,x= .str z/\y= .int i/\z.length<=sizeLine/\atI z.cps.toList i=some c/\Q (.str ⟨#[c]⟩) H
def Kq:IxR X (rIxL X.K):=by
 intro value slice pins s σ H x y v u Q I rx ry h hs;obtain ⟨p,xs,i,z,rfl,rfl,D,he,q⟩:=h;cases rx;obtain ⟨t,rfl⟩:=ry;obtain ⟨its,r,pl,O⟩:=I.list D;obtain ⟨j,g,M,P,L,J⟩:=sX he;obtain ⟨w,A,N⟩:=r.get M;have G:=r.length;have hn:=pR;have fin:EP X pins σ Q w s:=⟨z,H,I,N,q⟩
 by_cases h0:0<=i
 ·have m:i.toNat=j:=by
   rw [seqIndex_of h0 J] at g;exact QJ g
  exact item_listR pl.isList h0 ⋯ (by rw [m];simpa using A) fin hs
 ·have m:(i+(its.toArray.size:Int)).toNat=j:=by
   rw [seqIndex_neg ⋯ L] at g;rw [QL,<-G];exact QJ g
  exact subscriptTail_builtinR (x:=w) pl.isList.typeIs slot_list_getitem.lookup
   (wpAny_getItem_list_neg (Q:=λr C=>r=w/\EP X pins σ Q r C) pl.isList ⋯ (by rw [QL]<;>lia) ⋯ (by rw [m];simpa using A) ⟨rfl,fin⟩) hs
def ix_tup:IxR X (rIxT X.K):=by
 intro value slice pins s σ H x y v u Q I rx ry h hs;obtain ⟨p,xs,i,z,rfl,rfl,m,he,q⟩:=h;cases rx;obtain ⟨t,rfl⟩:=ry;obtain ⟨its,r,pl,L⟩:=I.tuple m;obtain ⟨j,D,C,O,N,M⟩:=sX he;obtain ⟨w,G,J⟩:=r.get C;have A:=r.length;have hn:=pR;have fin:EP X pins σ Q w s:=⟨z,H,I,J,q⟩
 exact subscriptTail_builtinR (x:=w) pl.typeIs slot_tuple_getitem.lookup
  (getItem_tuple (j:=j) (Q:=λr g=>r=w/\EP X pins σ Q r g) pl ⋯ ⋯ (by rw [QL,<-A];exact D) ‹G› ⟨rfl,fin⟩) hs
def ix_str:IxR X rIxS:=by
 intro value slice pins s σ H x y v u Q I rx ry h hs;obtain ⟨z,i,c,rfl,rfl,D,he,q⟩:=h;obtain ⟨t,rfl⟩:=rx;obtain ⟨t',rfl⟩:=ry;obtain ⟨j,g,w,G,r,p⟩:=sX he;have m:z.cps.toList.length=z.length:=by simp [Str.length]
 rw [m] at g r p;have hn:=pR
 exact tail_any (typeIs_str s z t) slot_str_getitem.lookup (getItem_str (c:=c) (by
  have C:decide (i< -(2 ^ 63:Int))=false:=TF ⋯;have A:decide (i≥2 ^ 63)=false:=TF ⋯
  rw [C,A,Bool.or_false]) (by rw [g];simpa using w) ⟨.str ⟨#[c]⟩,H,I.tok _,⟨_,rfl⟩,q⟩) hs
def rIx (K:Frg):R2:=λx y H Q=>rIxL K x y H Q\/rIxT K x y H Q\/rIxS x y H Q
def ix_seq:IxR X (rIx X.K):=Kq.or (ix_tup.or ix_str)
def wK (its:List Value) (n j:Nat) (u:Value):Obj.mapSeq (·.setIfInBounds j u) {cls:= .type "list",data:= .seq its.toArray n}={cls:= .type "list",data:= .seq (its.set j u).toArray n}:=by
 simp [Obj.mapSeq]
def Inv.lst {pins:Pn} {σ:St} {H:Hp} {s:Shared} {p:Addr} {xs:List V} (I:Inv X pins σ H s) (h:H p=some (.lst xs)):
 ∃(its:List Value) (n:Nat),xV xs its/\s.heap.get? p=some {cls:= .type "list",data:= .seq its.toArray n}/\xs.length<=sizeLine:=by
 obtain ⟨z,its,n,r,e⟩:=I.hok p _ h;exact ⟨its,n,r,e,z⟩
def Inv.lstUpd {pins:Pn} {σ:St} {H:Hp} {s:Shared} {p:Addr} {xs ys:List V} {its its':List Value} {n g:Nat} {f:Obj->Obj} (I:Inv X pins σ H s) (h:H p=some (.lst xs))
 (w:s.heap.get? p=some {cls:= .type "list",data:= .seq its.toArray n}) (hf:f {cls:= .type "list",data:= .seq its.toArray n}={cls:= .type "list",data:= .seq its'.toArray g}) (r:xV ys its') (m:ys.length<=sizeLine) (t:Nat):
 Inv X pins σ (upd H p (.lst ys)) {s with heap:=s.heap.update p f,toks:=t}:=by
 have e:(s.heap.update p f).get? p=some {cls:= .type "list",data:= .seq its'.toArray g}:=by
  rw [jaG f w (by rw [hf]<;>rfl),hf]
 refine I.write (x:=p) (e:=p) (by rw [h];trivial) (.inl rfl) (λb u y q=>(jbx _ _ (Ne.symm y)).trans q) ⟨_,e⟩ ?_;exact ⟨m,its',g,r,e⟩
def rSetL:V->V->V->Hp->(Hp->Prop)->Prop:=λo i v H Q=>∃p xs k j,o= .ref p/\i= .int k/\H p=some (.lst xs)/\ixN xs.length k=some j/\Q (upd H p (.lst (xs.set j v)))
def set_list:PSet X rSetL:=by
 intro pins s σ H o i v ov iv u Q I ro ri rv h;obtain ⟨p,xs,k,j,rfl,rfl,hp,G,q⟩:=h;cases ro;obtain ⟨t,rfl⟩:=ri;obtain ⟨its,n,r,m,D⟩:=I.lst hp;obtain ⟨g,J,A,z⟩:=DD G;have w:=r.length;have hn:=pR
 have C:Inv X pins σ (upd H p (.lst (xs.set j v))) {s with heap:=s.heap.update p (Obj.mapSeq (·.setIfInBounds j u))}:=
  I.lstUpd hp m (wK its n j u) (r.set rv j) (by rw [jaH];exact D) s.toks
 by_cases h0:0<=k
 ·have y:k.toNat=j:=by
   rw [seqIndex_of h0 z] at g;exact QJ g
  exact PySem.W.ki_setAt m h0 ⋯ (by rw [QL,<-w];exact z) (by rw [y];exact ⟨_,C,q⟩)
 ·have y:(k+(its.toArray.size:Int)).toNat=j:=by
   rw [seqIndex_neg ⋯ A] at g;rw [QL,<-w];exact QJ g
  exact PySem.W.ki_setBack m ⋯ (by rw [QL,<-w];exact A) ⋯ (by rw [y];exact ⟨_,C,q⟩)
def ox (lo g:Option Int) (n:Nat):(sliceBounds lo g none n).1=((HT.sIx n 0 lo:Nat):Int)/\(sliceBounds lo g none n).2.1=((HT.sIx n n g:Nat):Int)/\(sliceBounds lo g none n).2.2=1:=by
 refine ⟨?_,?_,rfl⟩
 ·cases lo with
  |none=>simp [sliceBounds,HT.sIx]
  |some i=>
   simp only [sliceBounds,HT.sIx,Option.getD_none,show (1:Int)>0 by decide,if_true]
   by_cases h:i<0
   ·simp only [h,if_true]<;>lia
   ·simp only [h,if_false]<;>lia
 ·cases g with
  |none=>simp [sliceBounds,HT.sIx]
  |some i=>
   simp only [sliceBounds,HT.sIx,Option.getD_none,show (1:Int)>0 by decide,if_true]
   by_cases h:i<0
   ·simp only [h,if_true]<;>lia
   ·simp only [h,if_false]<;>lia
def lC (its:List Value) (lo g:Option Int):slicePick its.toArray lo g none=((its.drop (HT.sIx its.length 0 lo)).take (HT.sIx its.length its.length g - HT.sIx its.length 0 lo)).toArray:=by
 obtain ⟨q,p,m⟩:=ox lo g its.toArray.size;unfold slicePick;rw [q,p,m];simp only [sliceRange_one,pick_run,QL]<;>rfl
def rSlL (K:Frg):V->Option Int->Option Int->Hp->VK->Prop:=λx lo g H Q=>∃a xs,x= .ref a/\SqL K H a xs/\∀p,H p=none->Q (.ref p) (upd H p (.lst (IF xs lo g)))
def sl_list:SlR X (rSlL X.K):=by
 intro pins s σ H x v vl vu lo hi sl Q I rx hs pl pu h;obtain ⟨a,xs,rfl,m,q⟩:=h;cases rx;obtain ⟨its,r,ht,g⟩:=I.list m;have hlen:=r.length;refine ⟨"list",_,slot_list_getitem.lookup,ht.isList.typeIs,?_⟩;refine wpAny_getItem_list_slice ht.isList hs pl pu .none (by simp) ?_ (by rw [QL]<;>lia);rw [lC,<-hlen];refine ⟨.ref s.heap.objs.size,_,I.laid (t':=s.toks) (o:= .lst (IF xs lo hi)) (λb p q=>Qj _ q) (Qu _) ?_,rfl,q _ (I.hok.fresh (Qu _))⟩;exact ⟨Tc (sH xs lo hi) g,_,0,(r.drop (HT.sIx xs.length 0 lo)).take (HT.sIx xs.length xs.length hi - HT.sIx xs.length 0 lo),Qx _ rfl⟩
def qe:Vz X (.builtin "len") (λxs H Q=>∃p ys,xs=[.ref p]/\(SqL X.K H p ys\/SqT X.K H p ys)/\Q (.int ys.length) H):=by
 intro pins s σ H xs us Q I r h;obtain ⟨p,ys,rfl,g,q⟩:=h;obtain ⟨u,rfl,t⟩:=eR r;cases t;have hn:=pR
 rcases g with g|g
 ·obtain ⟨its,m,pl,w⟩:=I.list g;have hlen:=m.length;exact Calls.call_len_list pl.isList (by simp only [QL]<;>lia) ⟨.int ys.length,H,I.tok _,⟨s.toks+1,by rw [QL,hlen]⟩,q⟩
 ·obtain ⟨its,m,pl,w⟩:=I.tuple g;have hlen:=m.length;exact len_tuple pl (by simp only [QL]<;>lia) ⟨.int ys.length,H,I.tok _,⟨s.toks+1,by rw [QL,hlen]⟩,q⟩
def qc:Vz X (.type "list") (λxs H Q=>∃p ys,xs=[.ref p]/\(SqL X.K H p ys\/SqT X.K H p ys)/\∀l,H l=none->Q (.ref l) (upd H l (.lst ys))):=by
 intro pins s σ H xs us Q I r h;obtain ⟨p,ys,rfl,y,q⟩:=h;obtain ⟨u,rfl,D⟩:=eR r;cases D
 have fin:∀(its:List Value),xV ys its->ys.length<=sizeLine->∀(h':Heap) (m:Nat),(∀b C,s.heap.get? b=some C->h'.get? b=some C)->
  h'.get? s.heap.objs.size=some {cls:= .type "list",dict:=none,data:= .seq its.toArray m,slots:=#[]}->EP X pins σ Q (.ref s.heap.objs.size) {s with heap:=h'}:=λits g t h' m kp e=>
  ⟨.ref s.heap.objs.size,_,I.laid (t':=s.toks) kp (Qu _) (show YU X.prog X.w _ h' _ (.lst ys) from ⟨t,its,m,g,e⟩),rfl,q _ (I.hok.fresh (Qu _))⟩
 rcases y with y|y
 ·obtain ⟨its,g,pl,t⟩:=I.list y;have hlen:=g.length;obtain ⟨o,z,A,n,hd⟩:=pl.isList;exact call_list_seq p (.inl rfl) z A hd (λh' m kp e=>fin its g t h' m kp e) (by simp only [QL]<;>lia)
 ·obtain ⟨its,g,pl,t⟩:=I.tuple y;have hlen:=g.length;obtain ⟨o,z,A,n,hd⟩:=pl;exact call_list_seq p (.inr rfl) z A hd (λh' m kp e=>fin its g t h' m kp e) (by simp only [QL]<;>lia)
def nA:Vz X (.type "tuple") (λxs H Q=>∃p ys,xs=[.ref p]/\((SqL X.K H p ys/\∀l,H l=none->Q (.ref l) (upd H l (.tup ys)))\/(SqT X.K H p ys/\Q (.ref p) H))):=by
 intro pins s σ H xs us Q I r h;obtain ⟨p,ys,rfl,h⟩:=h;obtain ⟨u,rfl,z⟩:=eR r;cases z
 rcases h with ⟨m,q⟩|⟨m,q⟩
 ·obtain ⟨its,g,pl,t⟩:=I.list m;have hlen:=g.length;refine call_tuple_list pl.isList (λh' kp=>?_) (by simp only [QL]<;>lia);have y:Inv X pins σ H {s with heap:=h'}:=I.kept (t':=s.toks) kp
  have A:Inv X pins σ (upd H h'.objs.size (.tup ys)) {s with heap:=h'.push {cls:= .type "tuple",data:= .seq its.toArray}}:=
   y.laid (t':=s.toks) (λb o e=>Qj _ e) (Qu _) (show YU X.prog X.w _ _ _ (.tup ys) from ⟨t,its,g,IsTup.new _ _⟩)
  exact ⟨.ref h'.objs.size,_,A,rfl,q _ (y.hok.fresh (Qu _))⟩
 ·obtain ⟨its,g,pl,t⟩:=I.tuple m;exact call_tuple_same pl ⟨.ref p,H,I,rfl,q⟩
def tyV (K:Frg) (T:String) (x:V) (H:Hp):Prop:=match x with
 | .str _=>T="str"
 | .int _=>T="int"
 | .ref p=>(T="list"/\∃xs,SqL K H p xs)\/(T="tuple"/\∃o,K.lookup p=some o/\o.cls= .type "tuple"/\o.dict=none)
 |_=>False
def tyV_is {pins:Pn} {σ:St} {H:Hp} {s:Shared} {T:String} {x:V} {v:Value} (I:Inv X pins σ H s) (r:YF x v) (ty:tyV X.K T x H):
 s.TypeIs v T/\∀a,v= .ref a->∃g,s.heap.get? a=some g/\g.dict=none:=by
 cases x with
 |str z=>
  obtain ⟨t,rfl⟩:=r;cases (show T="str" from ty);exact ⟨typeIs_str s z t,λ_ e=>nomatch e⟩
 |int i=>
  obtain ⟨t,rfl⟩:=r;cases (show T="int" from ty);exact ⟨typeIs_int s i t,λ_ e=>nomatch e⟩
 |ref p=>
  cases r
  rcases ty with ⟨rfl,xs,q⟩|⟨rfl,o,m,u,hd⟩
  ·obtain ⟨its,_,pl,_⟩:=I.list q;refine ⟨pl.isList.typeIs,λa e=>?_⟩;cases e;obtain ⟨o,n,e,c,hd,_⟩:=pl;exact ⟨o,e,hd⟩
  ·refine ⟨⟨o,I.kIn p o m,u⟩,λa e=>?_⟩;cases e;exact ⟨o,I.kIn _ o m,hd⟩
 |_=>exact False.elim ty
def tBM (K:Frg) (T:String) (r:V->List V->Hp->VK->Prop) (to:TE) (t:TA):TE:=λσ H Q=>to σ H λx H1=>tyV K T x H1/\t σ H1 λxs g=>r x xs g Q
variable {o e:Expr} {es:List Expr} {to:TE} {t:TA} {name:Str} {apos cpos:Pos} {T id:String} {r:V->List V->Hp->VK->Prop}
def pe_bm (pa:PlainAttrs T) (slot:Slot T name id) (m:typeOf (.builtin id)=pure (.type "method_descriptor")) (hm:MtR X id r) (C:PE X o to) (ha:PA X (e::es) t)
 (M:attributeBase o name X.env (eval o X.env)=eval o X.env:=by rfl)
 (g:((backTo cpos (starEach (e::es) X.env)).all (λx=>!x.1) && (backToKw cpos (keywordEach [] X.env)).all (λx=>x.1.isSome)
  && decide ((e::es).length+([]:List Keyword).length+(if ([]:List Keyword).isEmpty then 0 else 1)<30))=true:=by rfl)
 (L:(apos.endLine==cpos.line)=true:=by rfl) (A:starEach (e::es) X.env=(false,eval e X.env)::starEach es X.env:=by rfl) (N:(backTo cpos (starEach es X.env)).any (·.1)=false:=by rfl):
 PE X (.Call (.Attribute o name apos) (e::es) [] cpos) (tBM X.K T r to t):=by
 intro pins s σ H Q I h;refine wpAny_Call_method_late M g L rfl (thn (C pins s σ H _ I h) λv s1 D=>?_);obtain ⟨x,H1,u,p,ty,z⟩:=D;obtain ⟨J,G⟩:=tyV_is u p ty;refine ⟨T,id,pa,slot,m,J,G,?_⟩;have q:=ha cpos pins s1 σ H1 _ u z;rw [A] at q⊢;refine Calls.callWith_builtin (by show (false||(backTo cpos (starEach es X.env)).any (·.1))=false;rw [N]<;>rfl) (Calls.evalArgs_plain ?_);refine thn q ?_;rintro us s2 ⟨vs,P,O,w,y⟩;exact hm pins s2 σ P x vs v us Q O p w y
end
def MtM (X:Cx) (id:String) (r:V->List V->Hp->VK->Prop):Prop:=
 ∀(pins:Pn) (s:Shared) (σ:St) (H:Hp) (x:V) (xs:List V) (v:Value) (us:List Value) (Q:VK),Inv X pins σ H s->YF x v->xV xs us->r x xs H Q->
  wpAny (model X.prog X.w) X.A (call (.builtin id) (v::us)) (EP X pins σ Q) X.xe s
def xV.one {x:V} {us:List Value} (h:xV [x] us):∃u,us=[u]/\YF x u:=by
 cases h with
 |cons r t=>
  cases t;exact ⟨_,rfl,r⟩
theorem xV.zero:∀{us:List Value},xV [] us->us=[]
 |_, .nil=>rfl
theorem xV.rep {xs:List V} {us:List Value} (h:xV xs us):∀k:Nat,xV (List.replicate k xs).flatten (List.replicate k us).flatten
 |0=> .nil
 |k+1=>by
  rw [Tt,Tt,TY,TY];exact xV.append h (xV.rep h k)
theorem pW (its:List Value):∀(k:Nat) (acc:List Value),
 List.foldl (λm g=>m++g) acc.toArray (List.replicate k its.toArray)=(acc++(List.replicate k its).flatten).toArray
 |0,acc=>by simp
 |k+1,acc=>by
  have e:acc.toArray++its.toArray=(acc++its).toArray:=by simp
  have p:(acc++its)++(List.replicate k its).flatten=acc++(List.replicate (k+1) its).flatten:=by
   rw [Tt,TY,jah]
  rw [<-p,<-pW its k (acc++its),<-e,Tt,List.foldl_cons]
section
def Inv.lset {its its':List Value} {n:Nat} {f:Array Value->Array Value} {t':Nat} (I:Inv X pins σ H s) (t:H l=some (.lst xs))
 (e:s.heap.get? l=some {cls:= .type "list",data:= .seq its.toArray n}) (hf:f its.toArray=its'.toArray) (m:xV ys its') (g:ys.length<=sizeLine):
 Inv X pins σ (upd H l (.lst ys)) {s with heap:=s.heap.update l (Obj.mapSeq f),toks:=t'}:=by
 have q:=PySem.IsL.update e f;rw [hf] at q;refine I.write (x:=l) (e:=l) (by rw [t];exact trivial) (.inl rfl) (λw u r p=>(jbx s.heap (Obj.mapSeq f) (Ne.symm r)).trans p) ⟨_,q⟩ ?_;exact ⟨g,its',_,m,q⟩
def Inv.lnew {its:List Value} {t':Nat} (I:Inv X pins σ H s) (m:xV ys its) (g:ys.length<=sizeLine):
 Inv X pins σ (upd H s.heap.objs.size (.lst ys)) {s with heap:=s.heap.push {cls:= .type "list",data:= .seq its.toArray},toks:=t'}:=
 I.laid (λ_ _ q=>Qj _ q) (Qu _) ⟨g,its,0,m,Qx _ rfl⟩
def Inv.fresh (I:Inv X pins σ H s):H s.heap.objs.size=none:=I.hok.fresh (Qu _)
def Inv.lstM (I:Inv X pins σ H s) (g:H l=some (.lst xs)):xs.length<=sizeLine/\∃(its:List Value) (n:Nat),xV xs its/\xs.length=its.length/\s.heap.get? l=some {cls:= .type "list",data:= .seq its.toArray n}:=by
 obtain ⟨z,its,n,r,e⟩:=I.hok l _ g;exact ⟨z,its,n,r,r.length,e⟩
def mM {n:Nat} (h:n<=sizeLine):Builtin.List.listTooLong n=false:=by
 unfold Builtin.List.listTooLong;exact TF ⋯
end
section
def Ct:V->List V->Hp->VK->Prop:=λx vs H Q=>∃l xs y,x= .ref l/\vs=[y]/\H l=some (.lst xs)/\xs.length<sizeLine/\Q .non (upd H l (.lst (xs++[y])))
def pK:MtM X "list.append" Ct:=by
 intro pins s σ H x vs v us Q I rx rv h;obtain ⟨l,xs,y,rfl,rfl,g,m,q⟩:=h;cases rx;obtain ⟨u,rfl,ru⟩:=rv.one;obtain ⟨z,its,n,r,p,e⟩:=I.lstM g;refine call_meets F.slot_list_append ⟨_,e,rfl⟩ F.entry_list_append (F.args_list_append_2 _ _) (PySem.list_append l its.toArray n u (by rw [QL];lia)) ⟨e,?_⟩;refine ⟨.non,_,I.lset (its':=its++[u]) g e (by simp) (r.append (.cons ru .nil)) ?_,rfl,q⟩;rw [QA,TH];lia
def Cs:V->List V->Hp->VK->Prop:=λx vs H Q=>∃l b xs zs,x= .ref l/\vs=[.ref b]/\H l=some (.lst xs)/\H b=some (.lst zs)/\xs.length+zs.length<=sizeLine/\Q .non (upd H l (.lst (xs++zs)))
def mt_extend:MtM X "list.extend" Cs:=by
 intro pins s σ H x vs v us Q I rx rv h;obtain ⟨l,b,xs,zs,rfl,rfl,m,w,D,q⟩:=h;cases rx;obtain ⟨u,rfl,ru⟩:=rv.one;cases ru;obtain ⟨z,its,n,r,G,e⟩:=I.lstM m;obtain ⟨z2,g,t,p,J,y⟩:=I.lstM w;have A:its.toArray.size+g.toArray.size<=sizeLine:=by rw [QL,QL];lia
 have C:¬(!its.toArray.isEmpty && Builtin.List.listTooLong (its.toArray.size+g.toArray.size))=true:=by
  rw [mM A,Bool.and_false];exact QM
 refine call_meets F.slot_list_extend ⟨_,e,rfl⟩ F.entry_list_extend (F.args_list_extend_2 _ _)
  (AutoSeq1.list_extend_list_list_0 l its.toArray n b g.toArray t C (by rw [QL];lia) ⋯) ⟨e,y,?_⟩
 refine ⟨.non,_,I.lset (its':=its++g) m e (by simp) (r.append p) ?_,rfl,q⟩;rw [QA];lia
def rCat:R2:=λx y H Q=>∃l b xs zs,x= .ref l/\y= .ref b/\H l=some (.lst xs)/\H b=some (.lst zs)/\xs.length+zs.length<=sizeLine/\∀p,H p=none->Q (.ref p) (upd H p (.lst (xs++zs)))
def op_cat:OpR X (binaryOp .Add) rCat:=by
 intro pins s σ H x y v u Q I rx ry h;obtain ⟨l,b,xs,zs,rfl,rfl,p,t,D,q⟩:=h;cases rx;cases ry;obtain ⟨z,its,n,r,G,e⟩:=I.lstM p;obtain ⟨z2,g,C,m,J,A⟩:=I.lstM t;refine PySem.P.add_list e A ?_ (by rw [QL,QL];lia);have w:its.toArray++g.toArray=(its++g).toArray:=by simp
 rw [w];exact ⟨.ref _,_,I.lnew (t':=s.toks) (r.append m) (by rw [QA];lia),rfl,q _ I.fresh⟩
def rRep:R2:=λx y H Q=>∃l k xs,x= .ref l/\y= .int k/\H l=some (.lst xs)/\ -(2 ^ 63)<=k/\k<2 ^ 63/\xs.length*k.toNat<=sizeLine/\
 ∀p,H p=none->Q (.ref p) (upd H p (.lst (List.replicate k.toNat xs).flatten))
def Kl {α:Type} (xs:List α) (k:Nat):(List.replicate k xs).flatten.length=k*xs.length:=by
 induction k with
 |zero=>simp
 |succ k g=>rw [Tt,TY,QA,g,Nat.succ_mul,Nat.add_comm]
def op_rep:OpR X (binaryOp .Mult) rRep:=by
 intro pins s σ H x y v u Q I rx ry h;obtain ⟨l,k,xs,rfl,rfl,K,M,L,D,q⟩:=h;cases rx;obtain ⟨t,rfl⟩:=ry;obtain ⟨z,its,n,r,J,e⟩:=I.lstM K;have hlen:its.toArray.size*k.toNat<=sizeLine:=by rw [QL,<-J];exact D
 have w:¬its.toArray.size*k.toNat>(2 ^ 63 - 1) / 8:=by
  have:(sizeLine:Nat)<=(2 ^ 63 - 1) / 8:=by decide
  lia
 have p:¬(!Builtin.List.listFitsIndex k)=true:=by
  rw [fitsIndex_both M L];exact QM
 have N:¬Builtin.List.listTooLong (its.toArray.size*k.toNat)=true:=by
  rw [mM hlen];exact QM
 have g:List.foldl (λC A=>C++A) #[] (List.replicate (if its.toArray.isEmpty=true then 0 else k.toNat) its.toArray)=(List.replicate k.toNat its).flatten.toArray:=by
  have f0:∀m:Nat,List.foldl (λC A=>C++A) #[] (List.replicate m its.toArray)=(List.replicate m its).flatten.toArray:=λm=>by
   have:=pW its m [];rw [jaI] at this;exact this
  rw [f0]
  cases its with
  |nil=>simp
  |cons a O=>rw [QS (by simp)]
 refine wpAny_binaryOp_repeat_ref (T:="list") (U:="int") nofun ⟨_,e,rfl⟩ (λG=>typeIs_int G k t) noFill_list_mul F.fills_int_mul F.slot_int_rmul repeat_list F.slot_int_index.lookup
  (call_meets F.slot_int_rmul (typeIs_int s k t) F.entry_int_rmul (F.args_int_rmul_2 _ _) (int___rmul___int_list k t l its.toArray n)
   ⟨e,rfl,⟨_,e,rfl⟩,call_meets F.slot_list_mul ⟨_,e,rfl⟩ F.entry_list_mul (F.args_list_mul_2 _ _) (AutoListH.list___mul___list_int_3 l its.toArray n k t p w N) ⟨e,?_⟩⟩)
 rw [g];exact ⟨.ref _,_,I.lnew (t':=s.toks) (r.rep k.toNat) (by rw [Kl,Nat.mul_comm];exact D),rfl,q _ I.fresh⟩
end
section
set_option maxRecDepth 100000 in
end
section
end
end L2
namespace Att
open PySem PySem.W PySem.Calls PyProof.Rows
def gW {P:Params} {h:Heap}:∀(ns:List Int) (vs:List Value),WellAll P h vs (ns.map WData.int)->IntsAre vs ns:=by
 intro ns
 induction ns with
 |nil=>
  intro vs w;rw [TC] at w;cases w;exact .nil
 |cons n ns g=>
  intro vs w;rw [Qk] at w
  cases w with
  |cons a b=>
   cases a;exact .cons _ _ (g _ b)
def BB {l:OpenLaw} {n:Nat} (hn:l.most=some n) {P:Params} {h:Heap} {args:List WData} {vals:List Value}
 (w:l.row.toRowW.claim.pre args=true) (s:WellAll P h vals args):
 ∃a vs ns,vals=[Value.ref a]/\args=[WData.list (ns.map WData.int)]/\h.get? a=some {cls:= .type "list",data:= .seq vs.toArray}/\IntsAre vs ns/\ns.length<=n:=by
 have t:WShape.hasAll [] args [.list .int]=true:=(pre_splitW w).1;have u:l.pre.holds [] {args:=args}=true:=(pre_splitW w).2;obtain ⟨d,r,rfl,I,G⟩:=hasAllW_cons t;obtain rfl:=hasAllW_nil G;obtain ⟨xs,rfl,D⟩:=hasW_list I;obtain ⟨ns,rfl⟩:=items_int D
 have hlen:ns.length<=n:=by
  unfold OpenLaw.pre at u
  have p:(WTm.not (.lt (.lit (.int (n:Int))) (.len (.arg 0)))).holds [] {args:=[.list (ns.map .int)]}=true:=by
   have p:=(holds_andW u).1;rw [hn] at p;exact p
  have m:=condW_of p (w_not (w_lt w_lit (w_len_list (w_arg rfl))));rw [Qa] at m;refine Nat.le_of_not_lt λq=>?_;have A:(n:Int)<((ns.length:Nat):Int):=⋯
  first
   |(rw [Te A] at m;exact absurd m nofun)
   |(simp at m;lia)
 cases s with
 |cons z y=>
  cases y
  cases z with
  |list C g=>exact ⟨_,_,ns,rfl,rfl,C,gW ns _ g,hlen⟩
def Cv (l:OpenLaw) (args:List WData):l.row.toRowW.claim.post args (.bool true) args=true:=
 postW_of (r:=l.row.toRowW) (X:=(true==true))
  (show WShape.has [] (.bool true) .bool=true by first|rfl|decide|simp [WShape.has,WShape.arms,WShape.armsAll])
  (show (WTm.eq .res (.lit (.bool true))).value [] {args:=args,res:=some (.bool true),after:=args}=some (.bool (true==true)) from w_eq_bool (w_res rfl) w_lit) rfl
def attach_call {l:OpenLaw} {n:Nat} {q:Program} {loose:List Str} {u:(Str->Option Value)->Heap->Prop} {t:World->Heap->Prop} {d:DefRec}
 (hn:l.most=some n) (I:d.params.defaults=[])
 (call:∀(w:World) (s₀ s₁:Shared) (mg p:Str->Option Value) (g:Addr) (o:Obj) (pm cd doc:Value) (a:Addr) (vs:List Value) (ns:List Int),
  Ground q loose [] u w s₀ mg p s₁.heap->t w s₁.heap->
  s₁.heap.get? g=some o->o.data= .func (docDef d.name d.params d.body d.scope pm cd doc)->s₁.heap.CodeRec cd d.name->mg d.name=some (.ref g)->
  s₁.heap.get? a=some {cls:= .type "list",data:= .seq vs.toArray}->IntsAre vs ns->ns.length<=n->s₁.gens=#[]->
  codeAny (model l.prog w) callerA (.call (.ref g) ⟨[.ref a],[]⟩) (λr m=>r= .ok (.ret (.bool true))/\OldK s₁.heap m.heap/\m.os=s₁.os/\AllBare m.gens) s₁):
 WalkO q loose u t l.row.toRowW d [] (λf vs=>PySem.call f vs):=by
 intro w s₀ s₁ mg p G Y g o pm cd doc dV kV ho hd My hD Nc hg args vals as Ox hlay hrd hwl hlo;obtain rfl:dV= .none:=Dflts.none hD I;obtain rfl:kV= .none:=Dflts.noKw hD;obtain ⟨a,vs,ns,rfl,rfl,D,hints,hlen⟩:=BB hn Ox hwl;refine enter_call (jcc (call w s₀ s₁ mg p g o pm cd doc a vs ns G Y ho (fd_plain hd) My Nc D hints hlen hg) λr m y=>?_);obtain ⟨rfl,C,A,z⟩:=y;exact ⟨.inl ⟨.bool true, .bool true,[],rfl,λ_=>rfl, .bool true,Cv l _,λ_=>⟨List.Pairwise.nil,λ_ hm=>(nomatch hm)⟩⟩,C,A,z⟩
section
def ledger (h:Heap) (L d:Addr):List (Addr×Obj):=(List.range h.objs.size).filterMap λa=>if a=L\/a=d then none else (h.get? a).map λo=>(a,o)
end
end Att
namespace L2
open PySem PySem.Spec PyProof.Rows
theorem nV:∀{vs:List Value} {ns:List Int},IntsAre vs ns->xV (ns.map V.int) vs
 |_,_, .nil=> .nil
 |_,_, .cons n t h=> .cons ⟨t,rfl⟩ (nV h)
def Only (H:Hp):Prop:=∀b,H b=none\/∃o xs,H b=some (.frz o (.lst xs))
def Hc {P:Program} {w:World} {K:Frg} {mg I:Str->Option Value} {CX:CXT} {k:Nat} {M a:Addr} {fd:FuncData} {x:Str} {sp:Sp} {s₁:Shared} {vs:List Value} {ns:List Int}
 (KX:K.In s₁.heap) (NR:s₁.heap.Ns mainGlobals mg) (p:s₁.heap.Ns builtinsNs I) (J:∀x:Str,x≠"__name__"->I x=bootBuiltins x) (C:s₁.heap.NoLimit) (hg:s₁.gens=#[])
 (ha:s₁.heap.get? a=some {cls:= .type "list",data:= .seq vs.toArray}) (U:IntsAre vs ns) (T:ns.length<=sizeLine) (hr:Room k callerA)
 (F:∀base:Heap,K.In base->base.Ns mainGlobals mg->FnOk P w K mg base CX k M fd [x] sp) (RB:∀(s:Shared) (u:Value),BindsTo s fd ⟨[u],[]⟩ [(x,u)])
 (OH:∀H:Hp,Only H->SqL K H a (ns.map V.int)->sp [.ref a] H (λv _=>v= .bl true) λ_ _ _=>False)
 (L:∀H e t,CX [] H s₁ (λ_ _ _=>False) e t->False):
 codeAny (model P w) callerA (.call (.ref M) ⟨[.ref a],[]⟩) (λr t=>r= .ok (.ret (.bool true))/\OldK s₁.heap t.heap/\t.os=s₁.os/\AllBare t.gens) s₁:=by
 have O:=nV U;have lenV:=U.length
 have core:∀H:Hp,Only H->SqL K H a (ns.map V.int)->HOk P w H s₁.heap->(∀b,H b≠none->b=a)->(H a≠none->K.lookup a=none)->
  codeAny (model P w) callerA (.call (.ref M) ⟨[.ref a],[]⟩) (λr t=>r= .ok (.ret (.bool true))/\OldK s₁.heap t.heap/\t.os=s₁.os/\AllBare t.gens) s₁:=by
  intro H X hS hok Y hK;have g:∀{b:Addr} {o:Obj},s₁.heap.get? b=some o->H b=none->(Hm s₁.heap H).get? b=some o:=λe n=>Hl e n
  have G:∀{b:Addr} {o:Obj} {es:Array DictEntry} {ep:Nat},s₁.heap.get? b=some o->o.data= .dict es ep->H b=none:=λ{b o es ep} e d=>by
   cases q:H b with
   |none=>rfl
   |some u=>
    have N:b=a:=Y b (by rw [q];simp);subst N;rw [ha] at e;cases e;have d':Data.seq vs.toArray _=Data.dict es ep:=d;cases d'
  have y:∀{b:Addr} {m:Str->Option Value},s₁.heap.Ns b m->(Hm s₁.heap H).Ns b m:=λ{b m} ⟨o,es,ep,e,d,r⟩=>⟨o,es,ep,g e (G e d),d,r⟩
  have D:K.In (Hm s₁.heap H):=λb o e=>g (KX b o e) (by
   cases q:H b with
   |none=>rfl
   |some u=>
    have N:b=a:=Y b (by rw [q];simp);subst N
    rw [hK (by rw [q];simp)] at e;cases e)
  have hM:Mod K mg (Hm s₁.heap H):=⟨D,y NR,⟨I,y p,J⟩,let ⟨mc,h1,h2⟩:=C;⟨mc,y h1,h2⟩⟩;have e0:Env0 P w K mg (Hm s₁.heap H) callerA [] s₁ H:=⟨rfl,hM,λb o e=>Ka e,Nat.le_of_eq (DJ _ _),trivial,λb p=>absurd (show b∈([]:List Addr) from p) (by simp),hok, .of_eq hg⟩;refine jcc ((F _ D (y NR)).run callerA [] s₁ H ⟨[.ref a],[]⟩ [.ref a] [.ref a] _ _ hr e0 (RB s₁ (.ref a)) (.cons rfl .nil) (OH H X hS)) λr t h=>?_
  cases r with
  |error e=>exact (L H e t h).elim
  |ok fl=>
   cases fl with
   |next=>exact False.elim h
   |brk=>exact False.elim h
   |cont=>exact False.elim h
   |ret u=>
    obtain ⟨v,H',os,bare,un,NX,r',q⟩:=h;have q':v= .bl true:=q;subst q';obtain rfl:u=Value.bool true:=r';refine ⟨rfl,OldK.of_keep λb o e=>?_,os,bare⟩
    cases q:H b with
    |none=>exact un.keep b o e q (by intro z;exact absurd (show b∈([]:List Addr) from z) (by simp)) (by simp)
    |some u=>
     rcases X b with z|⟨ob,xs,z⟩
     ·rw [q] at z;cases z
     ·have z2:=un.frzs b ob _ z;obtain ⟨Z,_⟩:=hok b _ z;obtain ⟨e2,_⟩:=NX b _ z2;rw [e] at Z;cases Z;exact e2
 cases hk:K.lookup a with
 |some o=>
  have e:=KX a o hk;rw [ha] at e;cases e;refine core (λ_=>none) (λ_=> .inl rfl) (.inr ⟨_,vs.toArray,_,hk,rfl,rfl,rfl,by rw [QL,lenV];exact T,by simpa using O⟩) (λb u z=>by have A:(none:Option HO)=some u:=z;cases A) (λb z=>absurd rfl z) λz=>absurd rfl z
 |none=>
  refine core (λb=>if b=a then some (.frz {cls:= .type "list",data:= .seq vs.toArray} (.lst (ns.map V.int))) else none) (λb=>?_) (.inl (.inr ⟨{cls:= .type "list",data:= .seq vs.toArray},QH rfl⟩)) (λb u z=>?_) (λb z=>?_) λ_=>hk
  ·by_cases p:b=a
   ·exact .inr ⟨_,_,QH p⟩
   ·exact .inl (QS p)
  ·by_cases p:b=a
   ·have A:=(QH p).symm.trans z;cases A;subst p;exact ⟨ha,by rw [Qa];exact T,vs,_,O,ha⟩
   ·have A:=(QS p).symm.trans z;cases A
  ·by_cases p:b=a
   ·exact p
   ·exact absurd (QS p) z
def Jb {l:PySem.W.OpenLaw} {n k:Nat} {q:Program} {loose:List Str} {J:(Str->Option Value)->Heap->Prop} {t:World->Heap->Prop} {d:DefRec} {K:Params->Frg} {CX:World->CXT} {sp:World->Sp} {x:Str}
 (hn:l.most=some n) (N:n<=sizeLine) (L:d.params.defaults=[]) (hr:Room k callerA)
 (A:∀(w:World) (h:Heap),t w h->(K w.params).In h)
 (F:∀(w:World) (mg:Str->Option Value) (m:Addr) (h:Heap),(K w.params).In h->h.Ns mainGlobals mg->mg d.name=some (.ref m)->
  ∃fd:FuncData,(∀(s:Shared) (u:Value),BindsTo s fd ⟨[u],[]⟩ [(x,u)])/\
   ∀base:Heap,(K w.params).In base->base.Ns mainGlobals mg->FnOk l.prog w (K w.params) mg base (CX w) k m fd [x] (sp w))
 (M:∀(w:World) (H:Hp) (a:Addr) (ns:List Int),ns.length<=n->Only H->SqL (K w.params) H a (ns.map V.int)->sp w [.ref a] H (λv _=>v= .bl true) λ_ _ _=>False)
 (r:∀(w:World) (H:Hp) (s:Shared) (e:Value) (p:Shared),CX w [] H s (λ_ _ _=>False) e p->False):
 PySem.W.WalkO q loose J t l.row.toRowW d [] (λf vs=>PySem.call f vs):=by
 refine Att.attach_call hn L λw s₀ s₁ mg mb m o pm cd doc a vs ns G Y ho hd My Nc Pb hints hlen hg=>?_;have y:=A w _ Y;obtain ⟨fd,z,I⟩:=F w mg m _ y G.T.g Nc;exact Hc y G.T.g G.T.b G.T.builtins G.T.nolimit hg Pb hints (Tc hlen N) hr I z (λH D C=>M w H a ns hlen D C) λH e p=>r w H s₁ e p
def ZY (s:Stmt) (j:Nat):Stmt:=match s with
 | .ClassDef _ _ _ body _ _ _ _ _ _ _=>body.getD j (.Pass ⟨0,0,0,0⟩)
 |_=> .Pass ⟨0,0,0,0⟩
def Yt (s:Stmt):Arguments:=match s with
 | .FunctionDef _ a _ _ _ _ _ _ _ _=>a
 |_=>{posonlyargs:=[],args:=[],vararg:=none,kwonlyargs:=[],kw_defaults:=[],kwarg:=none,defaults:=[]}
def ZC (s:Stmt):List Stmt:=match s with
 | .FunctionDef _ _ b _ _ _ _ _ _ _=>b
 |_=>[]
def zu (s:Stmt):Scope:=match s with
 | .FunctionDef _ _ _ _ _ _ sc _ _ _=>sc
 |_=>{kind:= .function,names:=[],isGenerator:=false,isCoroutine:=false}
abbrev CX0:CXT:=λ_ _ _ _ _ _=>False
abbrev E0:XK:=λ_ _ _=>False
def pass0 {X:Cx}:Ue CX0 X E0:=λ_ _ _ _ _ _ _ h=>h.elim
structure Fun (K:Frg) (x qual:Str) (st:Stmt) (f:Addr) (fd:FuncData):Prop where
 ex:∃(oc:Value) (od:Option Addr) (kV doc pm:Value) (an:Option Addr) (Mv ct:Value) (osl:Array (Option Value)),
  fd=PySem.W.fnOf x qual (Yt st) (ZC st) (zu st) .none kV doc pm an Mv ct/\K.lookup f=some ⟨oc,od, .func fd,osl⟩/\PySem.W.codeIn K Mv qual=true
 kp:PySem.W.keepIn K (.ref f)=true
section
variable {P:Program} {w:World} {K:Frg} {mg:Str->Option Value} {base:Heap}
def Fun.ok {x qual:Str} {st:Stmt} {f:Addr} {fd:FuncData} {N ps:List Str} {k:Nat} {sp:Sp} (F:Fun K x qual st f fd) (S:FnScope N ps (zu st)) (len:∀vs H Q E,sp vs H Q E->vs.length=ps.length)
 (u:∀(g:Value) (A:Around) (outer:List Env) (s:Shared) (H:Hp) (vs:List V) (Q:VK) (E:XK),Room k (A.deeper (envOfC qual (zu st) s.heap.objs.size f g))->sp vs H Q E->
  ∃t,PSs (IE CX0 P w K mg base N qual (zu st) f g A outer s H E).nox (ZC st) t/\t {nx:=λ_ H'=>Q .non H',rt:=Q} (kS N vs) H):FnOk P w K mg base CX0 (k+1) f fd ps sp:=by
 obtain ⟨C,z,kV,doc,pm,an,g,ct,m,rfl,p,y⟩:=F.ex;refine fn_of p y S len λA outer s H vs Q E hr r=>?_;obtain ⟨t,h,q⟩:=u g A outer s H vs Q E hr r;exact ⟨t,h.nox,q⟩
def Fun.binds {x qual:Str} {st:Stmt} {f:Addr} {fd:FuncData} {ps:List Str} (F:Fun K x qual st f fd)
 (h:∀(kV doc pm:Value) (an:Option Addr) (g ct:Value) (us:List Value),us.length=ps.length->bindArgs (PySem.W.fnOf x qual (Yt st) (ZC st) (zu st) .none kV doc pm an g ct) ⟨us,[]⟩=pure (ps.zip us)):xp K fd ps []:=by
 obtain ⟨q,p,kV,doc,pm,an,g,ct,m,rfl,r,s⟩:=F.ex;exact .all (h kV doc pm an g ct)
def pV {x qual:Str} {st:Stmt} {f:Addr} {q:Value} {p an:Option Addr} {g:Array (Option Value)} {kV doc pm m ct:Value} (l:K.lookup f=some ⟨q,p, .func (PySem.W.fnOf x qual (Yt st) (ZC st) (zu st) .none kV doc pm an m ct),g⟩)
 (c:PySem.W.codeIn K m qual=true) (k:PySem.W.keepIn K (.ref f)=true):Fun K x qual st f (PySem.W.fnOf x qual (Yt st) (ZC st) (zu st) .none kV doc pm an m ct):=⟨⟨q,p,kV,doc,pm,an,m,ct,g,rfl,l,c⟩,k⟩
end
def WR {n:Nat} (h:n<=1000):n<sizeLine:=Nat.lt_of_le_of_lt h nofun
section
def pv (i:Nat) {x:Str} {pos:Pos} (m:X.N[i]? =some x:=by rfl) (g:Vis X.env.scope x:=by walk_at "v") (hd:(x==("__debug__":Str))=false:=by decide)
 (p:(x==("__classdict__":Str))=false:=by decide):PE X (.Name x pos) (tVar i):=pe_var m g hd p
end
def iteF {A B:Prop} (h:B):if false=true then A else B:=by
 rw [QS QM];exact h
def iteT {A B:Prop} (h:A):if true=true then A else B:=by
 rw [QH rfl];exact h
def DE {c A B:Prop} [Decidable c] (g:c) (h:B):if (!decide c)=true then A else B:=by
 rw [Te g];exact iteF h
def zV (H H':Hp):Prop:=∀b o,H b=some o->H' b=some o
def zV.refl (H:Hp):zV H H:=λ_ _ h=>h
def zV.trans {H H1 g:Hp} (a:zV H H1) (b:zV H1 g):zV H g:=λc o h=>b c o (a c o h)
def zV.free {H H':Hp} (e:zV H H') {l:Addr} (h:H' l=Option.none):H l=Option.none:=by
 cases q:H l with
 |none=>rfl
 |some o=>
  rw [e l o q] at h;cases h
def zV.seq {K:Frg} {H H':Hp} {a:Addr} {xs:List V} (e:zV H H') (h:SqL K H a xs):SqL K H' a xs:=by
 rcases h with (h|⟨o,h⟩)|h
 ·exact .inl (.inl (e _ _ h))
 ·exact .inl (.inr ⟨o,e _ _ h⟩)
 ·exact .inr h
end L2
namespace S
open PySem PySem.Spec PyProof.Rows L2
def Sz (n:Nat) (x:Int):Prop:=x.natAbs<2 ^ n
def Sz.mono (h:Sz m x) (l:m<=n):Sz n x:=Tf h (Nat.pow_le_pow_right nofun l)
def Sz.bits (h:Sz n x):Builtin.Int.intBits x<=n:=intBits_le_iff.mpr h
def Sz.of (h:Builtin.Int.intBits x<=n):Sz n x:=intBits_le_iff.mp h
def Sz.mulOk (h:Sz m x) (g:Sz n y) (l:m+n<=134217728):IntMulOk x y:=IntMulOk.of_le h.bits g.bits l
def Sz.mul (h:Sz m x) (g:Sz n y):Sz (m+n) (x*y):=Sz.of (intBits_mul_le h.bits g.bits)
def Sz.add (h:Sz n x) (g:Sz n y):Sz (n+1) (x+y):=Sz.of (Tc (intBits_add_le h.bits g.bits) ⋯)
def Sz.sub (h:Sz n x) (g:Sz n y):Sz (n+1) (x - y):=Sz.of (Tc (intBits_sub_le h.bits g.bits) ⋯)
def Sz.le (h:Sz n x) (l:y.natAbs<=x.natAbs):Sz n y:=Nat.lt_of_le_of_lt l h
def Sz.log (h:Sz n x) (l:n<=8999):x.natAbs.log2<9000:=by
 by_cases h0:x.natAbs=0
 ·rw [h0];decide+kernel
 ·have:=(Nat.log2_lt h0).mpr (Sz.mono h l);lia
section
def op_mulB:OpR X (binaryOp .Mult) (rI IntMulOk λi j=> .int (i*j)):=opI λ_ _ _ _ _ _ _ g q=>mul_int q g
def CDv (_ j:Int):Prop:=j≠0/\Sz 8999 j
def op_fdivB:OpR X (binaryOp .FloorDiv) (rI CDv λi j=> .int (i.fdiv j)):=opI λi j _ _ _ _ _ g q=>
 floordiv_int g.1 q (.inl (PyProof.noPylong_of_log2 (g.2.log (Qu _))))
end
mutual
def Is (H:Hp):PyData->V->Prop
 | .none,v=>v= .non
 | .bool b,v=>v= .bl b
 | .int i,v=>v= .int i
 | .str x,v=>v= .str x
 | .list xs,v=>∃p vs,v= .ref p/\H p=some (.lst vs)/\zL H xs vs
 | .tuple xs,v=>∃p vs,v= .ref p/\H p=some (.tup vs)/\zL H xs vs
 | .dict g,v=>EZ H g v
def zL (H:Hp):List PyData->List V->Prop
 |[],vs=>vs=[]
 |x::xs,vs=>∃v r,vs=v::r/\Is H x v/\zL H xs r
def EZ (H:Hp):List (PyData×PyData)->V->Prop
 |[(c,x)],v=>∃(p C g:Addr) (w:V),c= .int ((C:Nat):Int)/\v= .ref p/\H p=some (.ins C g [("form",w)])/\Is H x w
 |_,_=>False
end
mutual
theorem Is.mono (e:zV H H'):∀(d:PyData) (v:V),Is H d v->Is H' d v
 | .none,v,h=>by simpa only [Is] using h
 | .bool b,v,h=>by simpa only [Is] using h
 | .int i,v,h=>by simpa only [Is] using h
 | .str x,v,h=>by simpa only [Is] using h
 | .list xs,v,h=>by
   rw [Is] at h⊢;obtain ⟨p,vs,r,q,m⟩:=h;exact ⟨p,vs,r,e _ _ q,zL.mono e xs vs m⟩
 | .tuple xs,v,h=>by
   rw [Is] at h⊢;obtain ⟨p,vs,r,q,m⟩:=h;exact ⟨p,vs,r,e _ _ q,zL.mono e xs vs m⟩
 | .dict g,v,h=>by
   rw [Is] at h⊢;exact EZ.mono e g v h
theorem EZ.mono (e:zV H H'):∀(d:List (PyData×PyData)) (v:V),EZ H d v->EZ H' d v
 |[],v,h=>by rw [EZ] at h;exact h.elim;simp
 |[(c,x)],v,h=>by
  rw [EZ] at h⊢;obtain ⟨p,C,s,w,r,q,m,g⟩:=h;exact ⟨p,C,s,w,r,q,e _ _ m,Is.mono e x w g⟩
 |_::_::_,v,h=>by rw [EZ] at h;exact h.elim;simp
theorem zL.mono (e:zV H H'):∀(d:List PyData) (v:List V),zL H d v->zL H' d v
 |[],v,h=>by rw [zL] at h⊢;exact h
 |x::xs,v,h=>by
  rw [zL] at h⊢;obtain ⟨v,r,p,m,g⟩:=h;exact ⟨v,r,p,Is.mono e x v m,zL.mono e xs r g⟩
end
def zV.new (h:H p=none) (o:HO):zV H (upd H p o):=λb u q=>by rw [ym (yn q h)];exact q
section
mutual
theorem Is.reads (I:Inv X pins σ H s):∀(d:PyData) (v:V) (u:Value),d.canLay0=true->Is H d v->YF v u->∃as,Reads s.heap u d as
 | .none,v,u,lay,h,r=>by rw [Is] at h;subst h;cases (show u=Value.none from r);exact ⟨_, .none⟩
 | .bool b,v,u,lay,h,r=>by rw [Is] at h;subst h;cases (show u=Value.bool b from r);exact ⟨_, .bool b⟩
 | .int i,v,u,lay,h,r=>by rw [Is] at h;subst h;obtain ⟨t,rfl⟩:=(show ∃t,u=Value.int i t from r);exact ⟨_, .int i t⟩
 | .str x,v,u,lay,h,r=>by rw [Is] at h;subst h;obtain ⟨t,rfl⟩:=(show ∃t,u=Value.str x t from r);exact ⟨_, .str x t⟩
 | .list xs,v,u,lay,h,r=>by
   rw [Is] at h;obtain ⟨p,vs,z,y,m⟩:=h;subst z;cases (show u=Value.ref p from r);obtain ⟨_,its,n,g,hp⟩:=(show YU X.prog X.w H s.heap p (.lst vs) from I.hok p _ y);obtain ⟨as,q⟩:=zL.reads I xs vs its (by rw [PyData.canLay0] at lay;exact lay) m g;exact ⟨_, .list hp rfl rfl ‹q›⟩
 | .tuple xs,v,u,lay,h,r=>by
   rw [Is] at h;obtain ⟨p,vs,z,y,m⟩:=h;subst z;cases (show u=Value.ref p from r);obtain ⟨_,its,g,hp⟩:=(show YU X.prog X.w H s.heap p (.tup vs) from I.hok p _ y);obtain ⟨o,D,C,n,A⟩:=hp;obtain ⟨as,q⟩:=zL.reads I xs vs its (by rw [PyData.canLay0] at lay;exact lay) m g;exact ⟨_, .tuple D C A ‹q›⟩
 | .dict _,v,u,lay,h,r=>by rw [PyData.canLay0] at lay;cases lay
theorem zL.reads (I:Inv X pins σ H s):∀(d:List PyData) (v:List V) (u:List Value),PyData.canLayAll0 d=true->zL H d v->xV v u->∃as,ReadsAll s.heap u d as
 |[],v,u,lay,h,r=>by rw [zL] at h;subst h;cases xV.zero r;exact ⟨_, .nil⟩
 |x::xs,v,u,lay,h,r=>by
  rw [PyData.canLayAll0,jaz] at lay;rw [zL] at h;obtain ⟨v,w,z,y,t⟩:=h;subst z
  cases r with
  |cons m g=>
   obtain ⟨as,q⟩:=Is.reads I x v _ lay.1 y m;obtain ⟨bs,p⟩:=zL.reads I xs w _ lay.2 t g;exact ⟨_, .cons q p⟩
end
end
def rEqD:R2:=λx y H Q=>∃d e,Is H d x/\Is H e y/\SeqAt.shaped d=true/\SeqAt.shaped e=true/\Q (.bl (PyData.eqv d e)) H
def rNeD:R2:=λx y H Q=>∃d e,Is H d x/\Is H e y/\SeqAt.shaped d=true/\SeqAt.shaped e=true/\Q (.bl (!PyData.eqv d e)) H
section
def op_eqD (t:X.A.units+64<cLine):OpR X (compareOp .Eq) rEqD:=by
 intro pins s σ H x y v u Q I rx ry h;obtain ⟨d,e,z,w,m,g,q⟩:=h;obtain ⟨as,r⟩:=Is.reads I d x v (jby m) z rx;obtain ⟨bs,p⟩:=Is.reads I e y u (jby g) w ry;exact eq_dataH r p m g t ⟨.bl _,H,I,rfl,q⟩
def op_neD (t:X.A.units+64<cLine):OpR X (compareOp .NotEq) rNeD:=by
 intro pins s σ H x y v u Q I rx ry h;obtain ⟨d,e,z,w,m,g,q⟩:=h;obtain ⟨as,r⟩:=Is.reads I d x v (jby m) z rx;obtain ⟨bs,p⟩:=Is.reads I e y u (jby g) w ry;exact ne_dataH r p m g t ⟨.bl _,H,I,rfl,q⟩
end
def rIsi (K:Frg):List V->Hp->VK->Prop:=λxs H Q=>∃(x:V) (T:String) (t:Value) (b:Bool),xs=[x, .ty T]/\TyOf K H x t/\PySem.W.kitOne K t (.type T)=some b/\Q (.bl b) H
section
def call_isi:Vz X (.builtin "isinstance") (rIsi X.K):=by
 intro pins s σ H xs us Q I r h;obtain ⟨x,T,t,b,rfl,ty,e,q⟩:=h;obtain ⟨u,g,rfl,p,m⟩:=Jc r;cases (show g=Value.type T from m);exact DF I p ty e λtk=>⟨.bl b,H,I.tok tk,rfl,q⟩
end
structure Cal (P:Program) (w:World) (K:Frg) (mg:Str->Option Value) (base:Heap) (CX:CXT) (k:Nat) (x:Str) (ps:List Str) (sp:Sp):Prop where
 ex:∃(f:Addr) (fd:FuncData),FnOk P w K mg base CX k f fd ps sp/\mg x=some (.ref f)/\PySem.W.keepIn K (.ref f)=true/\xp K fd ps []
section
def pe_cal (C:Cal X.prog X.w X.K X.mg X.base CX k x ps sp) (hr:Room j X.A) (q:k<=j) (m:Ue CX X E) (r:Gl X x)
 (ha:PA X (e::es) t) (y:(x==("__debug__":Str))=false:=by decide) (he:starEach (e::es) X.env=(false,eval e X.env)::starEach es X.env:=by rfl) (u:(backTo pos (starEach es X.env)).any (·.1)=false:=by rfl):
 PE X (.Call (.Name x p) (e::es) [] pos) (vK sp [] E t):=by
 obtain ⟨f,fd,F,hm,g,s⟩:=C.ex;exact JQ F (hr.mono q) r hm g s .nil m ha y he u
end
def Fw (hr:Room k A):A.units+64<cLine:=hr.units
def frD (q:Rat):PyData:= .tuple [.int q.num, .int (q.den:Int)]
def SzQ (n:Nat) (q:Rat):Prop:=Sz n q.num/\Sz n (q.den:Int)
def SzQ.mono (h:SzQ m q) (l:m<=n):SzQ n q:=⟨h.1.mono l,h.2.mono l⟩
def den_pos (q:Rat):(0:Int)<(q.den:Int):=Int.natCast_pos.mpr q.den_pos
def SzQ.divInt (ha:Sz n a) (g:Sz n b) (h0:b≠0):SzQ n (Rat.divInt a b):=by
 constructor
 ·refine ha.le ?_;rw [Rat.num_divInt,Int.natAbs_ediv_of_dvd ?_]
  ·rw [Int.natAbs_mul];have e:b.sign.natAbs=1:=Int.natAbs_sign_of_ne_zero h0;rw [e,Nat.one_mul];exact Nat.div_le_self _ _
  ·exact Int.dvd_trans (Int.gcd_dvd_right b a) (Int.dvd_mul_left _ _)
 ·refine g.le ?_;rw [Rat.den_divInt,QS h0];show b.natAbs / b.gcd a<=b.natAbs;exact Nat.div_le_self _ _
def IH:bootBuiltins "len"=some (.builtin "len"):=by decide+kernel
def bt_abs:bootBuiltins "abs"=some (.builtin "abs"):=by decide+kernel
def IG:bootBuiltins "min"=some (.builtin "min"):=by decide+kernel
def bt_max:bootBuiltins "max"=some (.builtin "max"):=by decide+kernel
def HA:bootBuiltins "isinstance"=some (.builtin "isinstance"):=by decide+kernel
def bt_int:bootBuiltins "int"=some (.type "int"):=by decide+kernel
def bt_bool:bootBuiltins "bool"=some (.type "bool"):=by decide+kernel
def bt_tuple:bootBuiltins "tuple"=some (.type "tuple"):=by decide+kernel
def bt_list:bootBuiltins "list"=some (.type "list"):=by decide+kernel
def qg:bootBuiltins "enumerate"=some (.type "enumerate"):=by decide+kernel
def bt_zip:bootBuiltins "zip"=some (.type "zip"):=by decide+kernel
def sL:bootBuiltins "reversed"=some (.type "reversed"):=by decide+kernel
def bt_sum:bootBuiltins "sum"=some (.builtin "sum"):=by decide+kernel
structure Bl (mg:Str->Option Value):Prop where
 len:mg "len"=none
 abs:mg "abs"=none
 min:mg "min"=none
 max:mg "max"=none
 isinstance:mg "isinstance"=none
 range:mg "range"=none
 int:mg "int"=none
 bool:mg "bool"=none
 tuple:mg "tuple"=none
 list:mg "list"=none
 enumerate:mg "enumerate"=none
 zip:mg "zip"=none
 reversed:mg "reversed"=none
 ValueError:mg "ValueError"=none
 sum:mg "sum"=none
 str:mg "str"=none
def uz {c A B:Prop} [Decidable c] (p:¬c->A) (m:c->B):if (!decide c)=true then A else B:=by
 by_cases g:c
 ·rw [Te g];exact m g
 ·rw [TF g];exact p g
def Yh {c A B:Prop} [Decidable c] (p:c->A) (m:¬c->B):if decide c=true then A else B:=by
 by_cases g:c
 ·rw [Te g];exact p g
 ·rw [TF g];exact m g
def HR {ms:List Int} {k:Int} (h0:0<=k) (h:k<(ms.length:Int)):atI (ms.map V.int) k=some (.int (ms.getD k.toNat 0)):=by
 have g:k.toNat<ms.length:=⋯
 have m:k=((k.toNat:Nat):Int):=⋯
 have q:atI (ms.map V.int) ((k.toNat:Nat):Int)=some (.int (ms.getD k.toNat 0)):=zZ (by rw [Qg,Qb g,Ql,Qb g];rfl);rwa [<-m] at q
def bQ (m:0<b):(a.fdiv (Int.gcd a b:Nat)=(Rat.divInt a b).num)/\b.fdiv (Int.gcd a b:Nat)=((Rat.divInt a b).den:Int):=by
 have g:(0:Int)<=((Int.gcd a b:Nat):Int):=Int.natCast_nonneg _;rw [QV _ g,QV _ g,Rat.num_divInt,Rat.den_divInt,QS ⋯,Int.gcd_comm b a,Int.sign_eq_one_of_pos m,Int.one_mul];refine ⟨rfl,?_⟩;have e:b=(b.natAbs:Int):=⋯
 rw [Int.natCast_ediv,<-e]
def Dk (g:b<0):(a.fdiv (-((Int.gcd a b:Nat):Int))=(Rat.divInt a b).num)/\b.fdiv (-((Int.gcd a b:Nat):Int))=((Rat.divInt a b).den:Int):=by
 have h:=bQ (a:= -a) (b:= -b) ⋯;rw [Rat.neg_divInt_neg,Int.neg_gcd,Int.gcd_neg] at h;rw [<-h.1,<-h.2]
 constructor
 ·rw [<-Int.neg_fdiv_neg,Int.neg_neg]
 ·rw [<-Int.neg_fdiv_neg,Int.neg_neg]
def tI (h:1<=n) (m: -2<x) (g:x<2):Sz n x:=Sz.mono (show Sz 1 x by unfold Sz;lia) h
def uD (a b:Int):Int.gcd b (a % b)=Int.gcd a b:=by
 have e:a % b=a - b*(a / b):=by have:=Int.mul_ediv_add_emod a b;lia
 rw [e,Int.gcd_sub_mul_left_right,Int.gcd_comm]
def xf (cells:List (Str×Addr)):List (Str×NameKind)->List (Str×Addr)->List (Str×Addr)
 |[],acc=>acc
 |(n,k)::r,acc=>xf cells r (if k== .free then (n,(cells.lookup n).getD 0)::acc else acc)
def Ww (h:∀y∈scope.names,y.2= .free->∃c,env.cells.lookup y.1=some c):closureFor scope env=pure (xf env.cells scope.names []):=by
 have key:∀(names:List (Str×NameKind)) (acc:List (Str×Addr)),(∀y∈names,y.2= .free->∃c,env.cells.lookup y.1=some c)->
  (forIn names acc λx r=>match x with
   |(name,kind)=>if (kind==NameKind.free)=true then do
    let a<-cellOf env name
    pure (ForInStep.yield ((name,a)::r))
    else pure (ForInStep.yield r):Sem (List (Str×Addr)))=pure (xf env.cells names acc):=by
  intro names
  induction names with
  |nil=>intro acc _;rfl
  |cons y r g=>
   intro acc m;obtain ⟨n,k⟩:=y;rw [List.forIn_cons,xf];have hr:=λz q=>m z (Qf _ q)
   cases hk:k==NameKind.free with
   |false=>
    simp only [hk,jbW,if_false,pure_bind];exact g acc hr
   |true=>
    obtain ⟨c,p⟩:=m (n,k) (Qe ..) ‹hk›;have s:cellOf env n=pure c:=by unfold cellOf;rw [p]
    simp only [hk,if_true,s,pure_bind,p,Option.getD_some];exact g _ hr
 simp only [closureFor];rw [key _ _ h];rfl
theorem Wx:∀{names:List (Str×NameKind)} {acc:List (Str×Addr)},(∀y∈names,y.2= .free->∃c,cells.lookup y.1=some c)->(∀c,acc.lookup x=some c->cells.lookup x=some c)->
 (xf cells names acc).lookup x=some c->cells.lookup x=some c
 |[],acc,_,ha,h=>ha c h
 |(n,k)::r,acc,hn,ha,h=>by
  rw [xf] at h;refine Wx (λz p=>hn z (Qf _ p)) (λm g=>?_) h
  cases hk:k==NameKind.free with
  |false=>rw [hk] at g;simp only [jbW,if_false] at g;exact ha m g
  |true=>
   rw [hk] at g;simp only [if_true] at g;obtain ⟨d,hd⟩:=hn (n,k) (Qe ..) ‹hk›;rw [jaO] at g
   cases hx:x==n with
   |true=>
    rw [hx] at g;have e:x=n:=by simpa using hx
    subst e;have q:cells.lookup x=some d:=hd;rw [q] at g⊢;exact g
   |false=>rw [hx] at g;exact ha m g
theorem XY:∀{names:List (Str×NameKind)} {acc:List (Str×Addr)},((x,NameKind.free)∈names\/(acc.lookup x).isSome=true)->((xf cells names acc).lookup x).isSome=true
 |[],acc,h=>by
  rcases h with h|h
  ·exact absurd h (Qp)
  ·exact h
 |(n,k)::r,acc,h=>by
  rw [xf];refine XY ?_
  have keep:(acc.lookup x).isSome=true->((if (k==NameKind.free)=true then (n,(cells.lookup n).getD 0)::acc else acc).lookup x).isSome=true:=λz=>by
   split
   ·rw [jaO];split<;>simp [z]
   ·exact z
  rcases h with h|h
  ·rcases Qn.mp h with e|e
   ·cases e;refine .inr ?_
    simp
   ·exact .inl e
  ·exact .inr (keep h)
def xD (X:Cx) (N:List Str) (scope:Scope) (C:Addr) (ex:List Addr) (s:Shared) (H:Hp):Cx where
 prog:=X.prog
 w:=X.w
 K:=X.K
 mg:=X.mg
 base:=X.base
 A:=X.A
 N:=N
 s₀:=s
 H₀:=H
 env:=compEnvC scope (xf X.env.cells scope.names []) C X.env
 outer:=X.stack
 stack:=X.stack
 ex:=ex
 fn:=λ_=>false
 calm:=X.calm
 pn:=[]
 xe:=λ_ _=>False
def frσ (σ:L2.St) (fr:List Nat):L2.St:=fr.map λj=>(σ[j]?).getD none
structure CompOk (X:Cx) (N:List Str) (n:Nat) (fr:List Nat) (scope:Scope):Prop where
 kind:scope.kind= .function
 nd:N.Nodup
 names:(N.drop n)=fr.map (λj=>(X.N[j]?).getD ("":Str))
 own:n<=N.length
 inx:(fr.all λj=>decide (j<X.N.length))=true
 free:((N.drop n).all λx=>decide (scope.names.lookup x=some .free))=true
 nocell:(scope.names.all λy=>decide (y.2≠ .cell))=true
 loc:(scope.names.all λy=>decide (y.2= .local->scope.names.lookup y.1=some .local))=true
 seen:(scope.names.all λy=>decide (y.2= .free->(X.env.kindOf y.1=some .cell\/X.env.kindOf y.1=some .free)))=true
def ak (h:(relabel scope env).names.lookup x=some k) (p:k= .cell\/k= .free) (s:(scope.names.all λy=>decide (y.2≠ .cell))=true):(x,NameKind.free)∈scope.names:=by
 unfold relabel at h;dsimp only at h
 have key:∀names:List (Str×NameKind),(names.all λy=>decide (y.2≠ .cell))=true->
  (names.map λ(n,k)=>if (k==NameKind.free && env.scope.kind== .function && env.kindOf n==some .cell)=true then (n,NameKind.cell) else (n,k)).lookup x=some k->(x,NameKind.free)∈names:=by
  intro names
  induction names with
  |nil=>intro _ h;simp at h
  |cons y r m=>
   intro ha h;obtain ⟨n,j⟩:=y;rw [List.all_cons,jaz] at ha;rw [Qk] at h;have t:∀(b:Bool) (g:NameKind),((if b=true then (n,NameKind.cell) else (n,g)):Str×NameKind)=(n,if b=true then NameKind.cell else g):=by intro b g;cases b<;>rfl
   dsimp only at h;rw [t,jaO] at h
   cases hx:x==n with
   |false=>rw [hx] at h;exact Qf _ (m ha.2 h)
   |true=>
    rw [hx] at h;have e:x=n:=by simpa using hx
    subst e;have h':=QJ h;have q:j≠ .cell:=by simpa using ha.1
    have:j= .free:=by
     cases hb:(j==NameKind.free && env.scope.kind== .function && env.kindOf x==some .cell) with
     |true=>
      rw [jaz,jaz] at hb
      simpa using hb.1.1
     |false=>
      rw [hb] at h';simp only [jbW,if_false] at h';subst h'
      rcases p with z|z
      ·exact absurd z q
      ·exact z
    subst this;exact Qe ..
 exact key _ s h
def cS (h:scope.names.lookup x=some .free):(relabel scope env).names.lookup x=some .cell\/(relabel scope env).names.lookup x=some .free:=by
 unfold relabel;dsimp only
 have key:∀names:List (Str×NameKind),names.lookup x=some .free->
  (names.map λ(n,k)=>if (k==NameKind.free && env.scope.kind== .function && env.kindOf n==some .cell)=true then (n,NameKind.cell) else (n,k)).lookup x=some .cell\/(names.map λ(n,k)=>if (k==NameKind.free && env.scope.kind== .function && env.kindOf n==some .cell)=true then (n,NameKind.cell) else (n,k)).lookup x=some .free:=by
  intro names
  induction names with
  |nil=>intro h;simp at h
  |cons y r m=>
   intro h;obtain ⟨n,j⟩:=y;have p:∀(b:Bool) (g:NameKind),((if b=true then (n,NameKind.cell) else (n,g)):Str×NameKind)=(n,if b=true then NameKind.cell else g):=by intro b g;cases b<;>rfl
   rw [Qk];dsimp only;rw [p,jaO];rw [jaO] at h
   cases hx:x==n with
   |false=>rw [hx] at h;exact m h
   |true=>
    rw [hx] at h;cases QJ h;dsimp only
    split
    ·exact .inl rfl
    ·exact .inr rfl
 exact key _ h
section
def CompOk.cells (O:CompOk X N n fr scope) (I:Inv X pins σ H s):∀y∈scope.names,y.2= .free->∃c,X.env.cells.lookup y.1=some c:=λy g hf=>I.ok.has y.1 (Qw (TU.mp O.seen y g) hf)
def Aq (O:CompOk X N n fr scope) (I:Inv X pins σ H s) (hf:∀b∈fp,tm X pins H b) (Sm:∀b∈fp,b<s.heap.objs.size)
 (NR:h'.Ns s.heap.objs.size m) (keep:∀b o,s.heap.get? b=some o->h'.get? b=some o):
 Inv (xD X N scope s.heap.objs.size fp s H) [] (List.replicate n none++frσ σ fr) H {s with heap:=h',toks:=tk}:=by
 have Oz:=O.cells I;have w:∀x c,(xf X.env.cells scope.names []).lookup x=some c->X.env.cells.lookup x=some c:=λx c h=>Wx Oz (λc h=>by simp at h) h;have cne:∀x c,(xf X.env.cells scope.names []).lookup x=some c->∃v,s.heap.IsCell c v:=λx c h=>I.cell x c (w x c h)
 have clt:∀x c,(xf X.env.cells scope.names []).lookup x=some c->c<s.heap.objs.size:=λx c h=>by
  obtain ⟨v,o,A,_⟩:=cne x c h;exact Qz A
 refine ⟨⟨I.mod,O.kind,I.ok.glob,I.ok.blt,Qu _,λx y c C g=>I.ok.inj x y c (w x c C) (w y c g),λx r=>?_,λx c h=>(by cases h),I.ok.hd,I.ok.frames, .inl rfl,λb t=>⟨QU (Sm b t),λx c h=>(hf b t).2.2.2.2.1 x c (w x c h)⟩,I.bs,Tc I.ok.bsz I.sz,λb o e t=>?_,λb t z=>?_,I.stack,I.stkFree⟩,
  rfl,I.bare,Un.kept keep,⟨m,NR,λi x v C g h3=>?_⟩,λx c h=>?_,I.hok.fresh (Qu _),λx c h=>I.freeC x c (w x c h),λp hp=>absurd hp (by simp [xD]),I.hok.kept keep,?_⟩
 ·have MI:(x,NameKind.free)∈scope.names:=by
   rcases r with r|r
   ·exact ak r (.inl rfl) O.nocell
   ·exact ak r (.inr rfl) O.nocell
  exact jaN.mp (XY (.inl MI))
 ·rcases (hf b t).2.2.2.1 with z|z
  ·exact I.ok.noex b o e z
  ·exact absurd (Tf (Qz (I.ok.bs b o e).1) z) (jat _)
 ·rcases Qn.mp (I.stkSub b z) with q|q
  ·exact (hf b t).2.1 q
  ·exact (hf b t).2.2.1 q
 ·by_cases J:i<n
  ·rw [jag ‹J›,QX,QH J] at g;cases g
  ·have K:(N.drop n)[i - n]? =some x:=by rw [jax,show n+(i - n)=i by lia];exact C
   rw [Tq ‹J›,QF] at g;unfold frσ at g;rw [Qg] at g;rw [O.names,Qg] at K
   cases ej:fr[i - n]? with
   |none=>rw [ej] at g;cases g
   |some j=>
    rw [ej] at g K;have G:j<X.N.length:=Qw (TU.mp O.inx j (Qc ej))
    have r:X.N[j]? =some x:=by
     have e:=QJ K;dsimp only at e;rw [Qb G] at e⊢;exact congrArg some e
    have Y:σ[j]? =some (some v):=by
     have e:=QJ g;dsimp only at e
     cases es:σ[j]? with
     |none=>rw [es] at e;cases e
     |some o=>rw [es] at e;rw [show o=some v from e]
    have T:scope.names.lookup x=some .free:=by
     refine Qw (TU.mp O.free x ?_);exact Qc (by rw [jax,show n+(i - n)=i by lia];exact C)
    have P:(x,NameKind.free)∈scope.names:=jaD T;have M:=Qw (TU.mp O.seen _ P) rfl;obtain ⟨mX,Z,D⟩:=I.loc;obtain ⟨u,ru,U⟩:=D j x v r Y (M.elim (λz=> .inr (.inl z)) λz=> .inr (.inr z));refine ⟨u,ru, .inr ⟨?_,?_⟩⟩
    ·exact cS T
    ·obtain ⟨c,L⟩:=jaN.mp (XY (.inl P));refine ⟨c,L,?_⟩
     rcases U with ⟨k,_⟩|⟨_,c',Mx,z⟩
     ·rcases M with q|q
      ·rw [show X.env.kindOf x=_ from k] at q;cases q
      ·rw [show X.env.kindOf x=_ from k] at q;cases q
     ·have:=w x c L;rw [Mx] at this;cases this;obtain ⟨o,A,hd⟩:=z;exact ⟨o,keep _ _ A,hd⟩
 ·obtain ⟨v,o,A,hd⟩:=cne x c h;exact ⟨v,o,keep _ _ A,hd⟩
 ·rw [QA,QF];unfold frσ;have e:=congrArg List.length O.names;rw [TR,Qa] at e;have:=O.own;show _=N.length;rw [Qa];lia
end
def PIf (Y:Cx) (ifs:List Expr) (tt:TT):Prop:=
 ∀(pins:Pn) (s:Shared) (σ:L2.St) (H:Hp) (Q:Bool->Hp->Prop),Inv Y pins σ H s->tt σ H Q->
  wpAny (model Y.prog Y.w) Y.A (forIn ifs true λc r=>if r=true then do let ok<-isTrue c Y.env (eval c Y.env);pure (ForInStep.yield ok) else pure (ForInStep.yield r)) (TP Y pins σ Q) Y.xe s
def tTrue:TT:=λ_ H Q=>Q true H
def rL:PIf Y [] tTrue:=λpins s σ H Q I h=>wpAny_tests_nil ⟨H,I,h⟩
def pif_one {Y:Cx} {c:Expr} {tt:TT} (h:PT Y c tt):PIf Y [c] tt:=λpins s σ H Q I q=>wpAny_tests_one (h pins s σ H Q I q)
abbrev Blk (α:Type):=Addr->List Addr->Shared->Hp->α
def vJ (n:Nat) (fr:List Nat) (w:TI) (g:Blk TG) (tt:Blk TT) (z:Blk TE):TE:=λσ H Q=>w σ H λJ H1=>∀D,H1 D=none->∀C ex s0 r,
 ∃W:Nat->Nat->List V->Hp->Prop,(∃m,W 0 m [] (upd H1 D (.lst [])))/\∀i m ys p,W i m ys p->p D=some (.lst ys)/\
  ((J.stop i p/\Q (.ref D) p)\/(J.go i p/\∀x u,J.yld i p x u->g C ex s0 r x (List.replicate n none++frσ σ fr) u λσ4 H4=>σ4.drop n=frσ σ fr/\tt C ex s0 r σ4 H4 λb t=>
    if b=true then z C ex s0 r σ4 t λy s=>s D=some (.lst ys)/\ys.length<sizeLine/\∃q,q<m/\W (i+1) q (ys++[y]) (upd s D (.lst (ys++[y])))
    else ∃q,q<m/\W (i+1) q ys t))
structure Side (X:Cx) (pins:Pn) (H:Hp) (C:Addr):Prop where
 nt:H C=none
 nl:C≠X.env.locals
 ab:X.s₀.heap.objs.size<=C
 nc:∀x c,X.env.cells.lookup x=some c->c≠C
 np:∀p∈X.pn++pins,p.1≠C
section
def yY {α:Type} {M:Model} {A:Around} {m:Sem α} {Q:α->Shared->Prop} {E:Value->Shared->Prop} {s:Shared} (h:wpAny M A m Q (λ_ _=>False) s):wpAny M A m Q E s:=wpAny_mono h (λ_ _ q=>q) λ_ _ z=>z.elim
def uS {tg iter elt:Expr} {ifs:List Expr} {pos:Pos} {g:Blk TG} {tt:Blk TT} {te:Blk TE} {pins:Pn} {σ:L2.St} {z:Hp} {s2:Shared} {it:Addr} {I:List Addr} {tn:Nat->Heap->Prop} {J:It} {Q:VK}
 {RR:Value->Addr->Result->Shared->Prop} {E:Value->Shared->Prop}
 (hc:X.calm=true) (O:CompOk X N n fr scope)
 (hg:∀C ex s H,PG (xD X N scope C ex s H) tg (g C ex s H)) (ht:∀C ex s H,PIf (xD X N scope C ex s H) ifs (tt C ex s H)) (he:∀C ex s H,PE (xD X N scope C ex s H) elt (te C ex s H))
 (I2:Inv X pins σ z s2) (T:Turn X.prog X.w X.K tg J I it tn) (MW:tn 0 s2.heap) (f2:∀b∈I,tm X pins z b)
 (hW:∀D,z D=none->∀C ex s0 H0,∃W:Nat->Nat->List V->Hp->Prop,(∃m,W 0 m [] (upd z D (.lst [])))/\∀i m ys z,W i m ys z->z D=some (.lst ys)/\
  ((J.stop i z/\Q (.ref D) z)\/(J.go i z/\∀x H3,J.yld i z x H3->g C ex s0 H0 x (List.replicate n none++frσ σ fr) H3 λσ4 H4=>σ4.drop n=frσ σ fr/\tt C ex s0 H0 σ4 H4 λb Z=>
    if b=true then te C ex s0 H0 σ4 Z λy H6=>H6 D=some (.lst ys)/\ys.length<sizeLine/\∃M,M<m/\W (i+1) M (ys++[y]) (upd H6 D (.lst (ys++[y])))
    else ∃M,M<m/\W (i+1) M ys Z)))
 (hR:∀(D C:Addr) (H':Hp) (P:Shared),Q (.ref D) H'->(∃m,P.heap.Ns C m)->Side X pins H' C->Inv X pins σ H' P->RR (.ref D) C (.ok .next) P):
 wpAny (model X.prog X.w) X.A (newList []) (λacc s₃=>wpAny (model X.prog X.w) X.A (newFunctionEnv scope X.env.globals (xf X.env.cells scope.names []) [] X.env.qual none .none (some X.env)) (λcenv s₄=>
  codeAny (model X.prog X.w) X.A (.compStart (.ListComp elt [⟨tg,iter,ifs,0⟩] scope pos) 0 (.ref it) acc {cenv with scope:=relabel scope X.env}) (RR acc cenv.locals) s₄) E s₃) E s2:=by
 have nocell:∀y∈scope.names,y.2≠ .cell:=λy hy=>Qw (TU.mp O.nocell y hy);refine jaf (wpAny_newFunctionEnv nocell (by intro y hy;simp at hy) (λh₁ NR₁ RY₁=>?_) O.kind);have hDn:z s2.heap.objs.size=none:=I2.fresh;have I3:Inv X pins σ (upd z s2.heap.objs.size (.lst [])) {s2 with heap:=s2.heap.push {cls:= .type "list",data:= .seq ([]:List Value).toArray},toks:=s2.toks}:=I2.lnew (its:=[]) .nil (jap _);generalize hD:s2.heap.objs.size=D at*;dsimp only at NR₁ RY₁⊢;generalize Rc:s2.heap.push {cls:= .type "list",dict:=none,data:= .seq ([]:List Value).toArray}=t at*;have k23:∀b o,s2.heap.get? b=some o->t.get? b=some o:=λb o e=>by rw [<-Rc];exact Qj _ e
 have SN:t.objs.size=D+1:=by rw [<-Rc,Td,hD]
 have keep:∀b o,t.get? b=some o->h₁.get? b=some o:=λb o e=>RY₁.extBut b o (QU (Qz e)) (Qj _ e)
 have flt:∀b∈I,b<D:=λb q=>by
  obtain ⟨o,ho,_⟩:=T.obj _ _ MW b q;rw [<-hD];exact Qz ho
 have f3:∀b∈I,tm X pins (upd z D (.lst [])) b:=λb q=>⟨by rw [ym (QU (flt b q))];exact (f2 b q).1,(f2 b q).2⟩;have IY:=Aq (tk:=s2.toks+([]:List (Str×Value)).length) O I3 f3 (λb q=>by show b<t.objs.size;rw [SN];exact Tz (flt b q)) NR₁ keep;obtain ⟨W,⟨m0,w0⟩,turn⟩:=hW _ hDn t.objs.size I {s2 with heap:=t,toks:=s2.toks} (upd z D (.lst []));have PQ:tn 0 h₁:=T.keep _ _ _ MW λb q o e=>keep b o (k23 b o e);generalize G:xD X N scope t.objs.size I {s2 with heap:=t,toks:=s2.toks} (upd z D (.lst []))=Y at*;have U:Y.env=compEnvC scope (xf X.env.cells scope.names []) t.objs.size X.env:=by rw [<-G];rfl
 have Rq:=hg t.objs.size I {s2 with heap:=t,toks:=s2.toks} (upd z D (.lst []));have Rb:=ht t.objs.size I {s2 with heap:=t,toks:=s2.toks} (upd z D (.lst []));have Rv:=he t.objs.size I {s2 with heap:=t,toks:=s2.toks} (upd z D (.lst []));rw [G] at Rq Rb Rv;have eP:Y.prog=X.prog:=by rw [<-G];rfl
 have eW:Y.w=X.w:=by rw [<-G];rfl
 have eK:Y.K=X.K:=by rw [<-G];rfl
 have eA:Y.A=X.A:=by rw [<-G];rfl
 have eC:Y.calm=true:=by rw [<-G];exact hc
 have eX:Y.xe=λ_ _=>False:=by rw [<-G];rfl
 have fY:∀{H':Hp},(∀b∈I,H' b=none)->∀b∈I,tm Y [] H' b:=λ{H'} hn b q=>by
  have h1:=IY.ok.exf b (by rw [<-G];exact q);refine ⟨hn b q,h1.1,IY.ok.exfs b (by rw [<-G];exact q), .inl (by rw [<-G];exact q),h1.2,λp hp=>absurd hp (by rw [<-G];simp [xD])⟩
 have loop:codeAny (model X.prog X.w) X.A (.compLoop (.ListComp elt [⟨tg,iter,ifs,0⟩] scope pos) 0 (.ref it) (.ref D) (compEnvC scope (xf X.env.cells scope.names []) t.objs.size X.env))
  (RR (.ref D) t.objs.size) {s2 with heap:=h₁,toks:=s2.toks+([]:List (Str×Value)).length}:=by
  refine codeAny_loop rfl (λk P=>∃i ys H',Inv Y [] (List.replicate n none++frσ σ fr) H' P/\tn i P.heap/\(∀b∈I,H' b=none)/\W i k ys H') (λk s5 hI=>?_) m0 ⟨0,[],_,IY,PQ,λb q=>(f3 b q).1,w0⟩;obtain ⟨i,ys,Z,I5,Ot,Pm,w5⟩:=hI;show wpAny _ X.A ((compTurn (.ListComp elt [⟨tg,iter,ifs,0⟩] scope pos) 0 (.ref it) (.ref D) _).onRaise (λx=>do noteFrame x _;theTreesLotGoes x)) _ _ s5;refine wpAny_noted ?_;rw [compTurn_list,<-U];refine Qh (wpAny_standAt (Qh ?_));obtain ⟨Ss,step⟩:=turn i k ys Z w5
  rcases step with ⟨stop,qn⟩|⟨go,step⟩
  ·have d:=T.done Y eP eW eK eC i [] s5 _ Z (λ_ _=>False) I5 (fY Pm) Ot stop;rw [eA] at d;refine yY (thn d λr s6 L=>?_);obtain ⟨hr,I6⟩:=L;subst hr;refine Qt ?_;have hC:Z t.objs.size=none:=by have:=I6.free;rw [U] at this;exact this
   have Pe:∃m,s6.heap.Ns t.objs.size m:=by
    have:=I6.loc;rw [U] at this;obtain ⟨m,hm,_⟩:=this;exact ⟨m,hm⟩
   have sd:Side X pins Z t.objs.size:=⟨hC,jbf I3.lt,I3.sz,λx c e=>QU (let ⟨v,o,ho,_⟩:=I3.cell x c e;Qz ho),λp hp=>QU (Qz (I3.pin p hp).1)⟩;refine hR D t.objs.size Z s6 qn Pe sd ?_;have un:=I6.base;have e0:Y.s₀.heap=t:=by rw [<-G];rfl
   have eH0:Y.H₀=upd z D (.lst []):=by rw [<-G];rfl
   have eF:Y.fs=frs X.stack:=by rw [<-G];rfl
   have eEx:Y.ex=I:=by rw [<-G];rfl
   rw [e0,eH0,eF,eEx] at un;have NX:HOk X.prog X.w Z s6.heap:=by have:=I6.hok;rw [eP,eW] at this;exact this
   have SX:s6.os=s2.os:=I6.os.trans (by rw [<-G];rfl);exact I3.call' SX un NX I6.bare λb q=>⟨(f2 b q).2.2.2.1,(f2 b q).2.1,(f2 b q).2.2.2.2.1,(f2 b q).2.2.2.2.2⟩
  ·have d:=T.item Y eP eW eK eC i [] s5 _ Z (λ_ _=>False) I5 (fY Pm) Ot go;rw [eA] at d;refine yY (thn d λr s6 L=>?_);obtain ⟨u,hr,h6⟩:=L;subst hr;refine Qh (yY (thn h6 λ_ s7 L=>?_));obtain ⟨x,H7,I7,r7,y7,OU,fr7⟩:=L;have I7':=I7.pinned (fY fr7) (T.obj _ _ OU);have g7:=Rq _ s7 _ H7 x u _ I7' r7 (step x H7 y7);rw [eA,eP,eW,eX] at g7;refine Qh (yY (thn g7 λ_ s8 L=>?_));obtain ⟨σ8,H8,I8,ed,q8⟩:=L;have t8:=Rb _ s8 σ8 H8 _ I8 q8;rw [eA,eP,eW,eX] at t8;refine Qh (yY (thn t8 λb s9 L=>?_));obtain ⟨H9,I9,q9⟩:=L
   have back:∀{P:Shared} {H':Hp} {OR:List V} {M:Nat},Inv Y ([]++jV I s7.heap) σ8 H' P->M<k->W (i+1) M OR H'->∃m,m<k/\∃i ys H',Inv Y [] (List.replicate n none++frσ σ fr) H' P/\tn i P.heap/\(∀b∈I,H' b=none)/\W i m ys H':=λ{P H' OR M} I' hm w'=>by
    refine ⟨M,hm,i+1,OR,H',?_,T.keep _ _ _ OU λb q o e=>(I'.pin (b,o) (QG _ (QG _ (YD q e)))).1,λb q=>?_,w'⟩
    ·refine (Inv.unpinned I').weak ?_ λj v hj=>?_
     ·exact IY.len.trans I'.len.symm
     ·by_cases Pg:j<n
      ·rw [jag ‹Pg›,QX,QH Pg] at hj;cases hj
      ·rw [Tq ‹Pg›,QF,<-ed,jax,show n+(j - n)=j by lia] at hj;exact hj
    ·obtain ⟨o,e,d⟩:=T.obj _ _ OU b q;exact (I'.pin (b,o) (QG _ (QG _ (YD q e)))).2.1
   cases b with
   |false=>
    obtain ⟨M,hm,w9⟩:=q9;exact Qt ⟨rfl,back I9 hm w9⟩
   |true=>
    have e9:=Rv _ s9 σ8 H9 _ I9 q9;rw [eA,eP,eW,eX] at e9;refine Qh (Qh (yY (thn e9 λv SQ L=>?_)));obtain ⟨y,NU,I10,SU,Pl,hz,M,hm,OT⟩:=L;have RM:=pK _ SQ σ8 NU (.ref D) [y] (.ref D) [v] (λ_ H'=>H'=upd NU D (.lst (ys++[y]))) I10 rfl (.cons SU .nil) ⟨D,ys,y,rfl,rfl,Pl,hz,rfl⟩;rw [eA,eP,eW,eX] at RM;refine Qh (yY (thn RM λ_ s11 L=>?_));obtain ⟨_,Oo,I11,_,OQ⟩:=L;subst OQ;exact Qt (Qt ⟨rfl,back I11 hm OT⟩)
 exact codeAny_compStart_list loop (T.self _ _ _ _ _ PQ loop)
def JP {r iter elt:Expr} {ifs:List Expr} {pos:Pos} {t:TI} {g:Blk TG} {tt:Blk TT} {u:Blk TE}
 (L:X.calm=true) (O:CompOk X N n fr scope) (G:PI X r iter t)
 (K:∀C ex s H,PG (xD X N scope C ex s H) r (g C ex s H)) (ht:∀C ex s H,PIf (xD X N scope C ex s H) ifs (tt C ex s H)) (he:∀C ex s H,PE (xD X N scope C ex s H) elt (u C ex s H))
 (A:∀x,foldedSetIterable iter X.env x=pure x:=by intro _;rfl):
 PE X (.ListComp elt [⟨r,iter,ifs,0⟩] scope pos) (vJ n fr t g tt u):=by
 intro pins s σ H Q I h;rw [eval_ListComp];refine jbP rfl A (Ww (O.cells I)) O.kind (λy z=>Qw (TU.mp O.loc y z)) (thn (G pins s σ H _ I h) λv s1 Y=>thn Y λw s2 U=>?_);obtain ⟨it,fp,tn,J,H2,e,I2,T,MW,f2,P⟩:=U;subst e;refine uS L O K ht he I2 T MW f2 P ?_;intro D C H' s' q ⟨m,hm⟩ p inv;exact ⟨m,hm,λh' Z=>⟨.ref D,H',inv.turned (λb o M e=>Z.extBut b o M e) p.nt p.nl (.inr p.ab) p.nc p.np,rfl,q⟩⟩
def wj {i:Nat} {x:Str} {t:Pos} {u iter elt:Expr} {ifs:List Expr} {pos p:Pos} {M:TI} {g:Blk TG} {tt:Blk TT} {P:Blk TE}
 (hN:X.N.Nodup) (hx:X.N[i]? =some x) (U:X.env.scope.names.lookup x=some .local)
 (hc:X.calm=true) (O:CompOk X N n fr scope) (hi:PI X u iter M)
 (hg:∀C ex s H,PG (xD X N scope C ex s H) u (g C ex s H)) (ht:∀C ex s H,PIf (xD X N scope C ex s H) ifs (tt C ex s H)) (he:∀C ex s H,PE (xD X N scope C ex s H) elt (P C ex s H))
 (K:swapsWith (.ListComp elt [⟨u,iter,ifs,0⟩] scope pos) (some (.Name x t)) p.line X.env=pure true:=by rfl)
 (hs:∀x,foldedSetIterable iter X.env x=pure x:=by intro _;rfl):
 PS X (.Assign [.Name x t] (.ListComp elt [⟨u,iter,ifs,0⟩] scope pos) p) (Li (vJ n fr M g tt P) (nk i)):=by
 intro pins s σ H D I h;rw [exec_Assign_Name_used _ _ _ _ K];refine Qh (wpAny_standAt (Qh ?_));show wpAny _ X.A (do let _<-comprehension (.ListComp elt [⟨u,iter,ifs,0⟩] scope pos) scope X.env _ (newList []) false (eval iter X.env) (some (assign (.Name x t) X.env))) _ _ s
 refine Qh (wpAny_mono (jbP (use:=some (assign (.Name x t) X.env)) rfl hs (Ww (O.cells I)) O.kind (λy hy=>Qw (TU.mp O.loc y hy))
  (thn (hi pins s σ H _ I h) λv s1 h1=>thn h1 λZ s2 h2=>?_)) (λ_ G hq=>Qt (Qt hq)) λ_ _ e=>e)
 obtain ⟨it,fp,tn,J,H2,e,I2,T,MW,f2,hW⟩:=h2;subst e;refine uS (Q:=λx H1=>nk i x σ H1 D.nx) (RR:=λacc C=>compPost (model X.prog X.w) X.A X.xe (some (assign (.Name x t) X.env)) (λ_ G=>SP X pins D .next G) acc C) hc O hg ht he I2 T MW f2 hW ?_;intro Y C H' G q ⟨m,hm⟩ r inv;show wpAny _ X.A (assign (.Name x t) X.env (.ref Y)) _ _ _;refine wpAny_assign_Name (oi (i:=i) (v:= .ref Y) inv hN hx (.inl U) rfl (?_) (.inr U));rintro s6 I6 ⟨a,RY,ha⟩
 have L:C≠a:=by
  rcases ha with z|z
  ·rw [z];exact r.nl
  ·exact λe=>r.nc x a z e.symm
 refine ⟨m,hm.sameBut RY L,λh' OI=>?_⟩;refine ⟨_,H',I6.turned (λb o hb e=>OI.extBut b o hb e) r.nt r.nl (.inr r.ab) r.nc r.np,q⟩
end
open PySem.AutoSeq1 (wpAny_loadPart')
def ItB (b:Bool) (h:Heap) (it a:Addr) (i:Nat):Prop:=match b with|true=>h.IsListIter it a i|false=>h.IsTupleIter it a i
def SeB (b:Bool) (h:Heap) (a:Addr) (items:Array Value):Prop:=match b with|true=>h.IsList a items|false=>h.IsTuple a items
def SqB (b:Bool) (K:Frg) (H:Hp) (a:Addr) (xs:List V):Prop:=match b with|true=>SqL K H a xs|false=>SqT K H a xs
def ItB.at (x:ItB b h it a i) (k:∀o,h.get? it=some o->h'.get? it=some o):ItB b h' it a i:=by
 cases b with
 |true=>obtain ⟨o,g,r⟩:=x;exact ⟨o,k o g,r⟩
 |false=>obtain ⟨o,g,r⟩:=x;exact ⟨o,k o g,r⟩
def ItB.obj (x:ItB b h it a i):∃o,h.get? it=some o/\∀v,o.data≠ .cell v:=by
 cases b with
 |true=>obtain ⟨o,g,c,d⟩:=x;exact ⟨o,g,λv z=>by rw [d] at z;cases z⟩
 |false=>obtain ⟨o,g,c,d⟩:=x;exact ⟨o,g,λv z=>by rw [d] at z;cases z⟩
def SeB.at (x:SeB b h a items) (k:∀o,h.get? a=some o->h'.get? a=some o):SeB b h' a items:=by
 cases b with
 |true=>obtain ⟨o,g,r⟩:=x;exact ⟨o,k o g,r⟩
 |false=>obtain ⟨o,g,r⟩:=x;exact ⟨o,k o g,r⟩
def SeB.obj (x:SeB b h a items):∃o,h.get? a=some o:=by
 cases b with
 |true=>obtain ⟨o,g,r⟩:=x;exact ⟨o,g⟩
 |false=>obtain ⟨o,g,r⟩:=x;exact ⟨o,g⟩
section
def seB (I:Inv X pins σ H s) (h:SqB b X.K H a xs):∃its:List Value,xV xs its/\SeB b s.heap a its.toArray/\xs.length<=sizeLine:=by
 cases b with
 |true=>obtain ⟨its,r,p,z⟩:=I.list h;exact ⟨its,r,p.isList,z⟩
 |false=>obtain ⟨its,r,p,z⟩:=I.tuple h;exact ⟨its,r,p,z⟩
def qY (I:Inv X pins σ H s) (h:SqB b X.K H a xs) (h':SqB b X.K H a ys):xs=ys:=by
 cases b with
 |true=>exact I.list_inj h h'
 |false=>exact I.tuple_inj h h'
end
section
def bJ {items}  (hit:s.heap.IsTupleIter it t i)
 (ht:s.heap.IsTuple t items) (q:items[i]? =some x)
 (u:∀h',h'.IsTupleIter it t (i+1)->Heap.SameBut it s.heap h'->Q x {s with heap:=h'}):
 wpAny (model prog w) A (Builtin.SmallTypes.nextOf (.ref it)) Q E s:=by
 obtain ⟨o,g,r,hd⟩:=id hit;obtain ⟨ol,m,_,nl,p⟩:=ht;unfold Builtin.SmallTypes.nextOf
 refine Qh (TK (name:=Str.ofString "__next__") hit.typeIs jbc
  (jae jbc hit.typeIs F.entry_tuple_iterator_next ?_ (F.args_tuple_iterator_next_1 _)))
 show wpAny _ _ (field (.ref it) 0>>=_) _ _ s;refine Qh (jaP g hd (x:= .ref t) rfl ?_);show wpAny _ _ (if (Value.ref t==Value.none)=true then _ else _) _ _ s;rw [QS (show ¬((Value.ref t==Value.none)=true) from QM)];show wpAny _ _ (field (.ref it) 1>>=_) _ _ s;refine Qh (jaP g hd (x:= .int i 0) rfl ?_);show wpAny _ _ (seqItems? (.ref t)>>=_) _ _ s;refine Qh (jbi m p ?_);simp only [Tn,q];refine Qh (jbj g hd (by simp) (Qt ⟨x,rfl,Qt (u _ ?_ (jab ..))⟩))
 exact ⟨_,jaG _ g (Obj.isFreed_of_fields (jbX hd _)),(Obj.cls_mapFields ..).trans r,by
  rw [jbX hd];simp [rawInt]⟩
def dw {items} (r:A.handled=none)
 (hit:s.heap.IsTupleIter it t i) (ht:s.heap.IsTuple t items) (u:items[i]? =none)
 (y:∀h' e,Heap.ExtBut it s.heap h'->(∃o,h'.get? e=some o/\o.cls= .type "StopIteration")->E (.ref e) {s with heap:=h'}):
 wpAny (model prog w) A (Builtin.SmallTypes.nextOf (.ref it)) Q E s:=by
 obtain ⟨o,p,z,hd⟩:=id hit;obtain ⟨ol,g,_,nl,q⟩:=ht;unfold Builtin.SmallTypes.nextOf
 refine Qh (TK (name:=Str.ofString "__next__") hit.typeIs jbc
  (jae jbc hit.typeIs F.entry_tuple_iterator_next ?_ (F.args_tuple_iterator_next_1 _)))
 show wpAny _ _ (field (.ref it) 0>>=_) _ _ s;refine Qh (jaP p hd (x:= .ref t) rfl ?_);show wpAny _ _ (if (Value.ref t==Value.none)=true then _ else _) _ _ s;rw [QS (show ¬((Value.ref t==Value.none)=true) from QM)];show wpAny _ _ (field (.ref it) 1>>=_) _ _ s;refine Qh (jaP p hd (x:= .int i 0) rfl ?_);show wpAny _ _ (seqItems? (.ref t)>>=_) _ _ s;refine Qh (jbi g q ?_);simp only [Tn,u];refine Qh (jce (Qh (jbj p hd (by simp) ?_)));show wpAny _ _ (newExc (.type "StopIteration") []>>=_) _ _ _;refine Qh ?_;simp only [newExc,newTuple];refine Qh (jaf ?_ (by size_fits));refine Qh (m:=firstArgMember _ _) (wpAny_of_eq (a:=Value.none) (by first|rfl|(simp only [firstArgMember];rfl)) ?_);refine jaf ?_ (by size_fits);simp only [raiseNew];refine Qh (wpAny_handled ?_)
 first|rw [show A.in1.handled=none from r]|rw [r]
 refine Qh (Qt (wpAny_throw ?_));exact y _ _ (((jab ..).extBut.push _).push _) ⟨_,Qx _ rfl,rfl⟩
def VH {items}  (hit:ItB b s.heap it a i) (m:SeB b s.heap a items) (g:items[i]? =some x)
 (p:∀h',ItB b h' it a (i+1)->Heap.SameBut it s.heap h'->Q x {s with heap:=h'}):wpAny (model prog w) A (Builtin.SmallTypes.nextOf (.ref it)) Q E s:=by
 cases b with
 |true=>exact wpAny_nextOf_list_item hit m g p
 |false=>exact bJ hit m g p
def au {items} (p:A.handled=none) (hit:ItB b s.heap it a i) (m:SeB b s.heap a items) (g:items[i]? =none)
 (q:∀h' e,Heap.ExtBut it s.heap h'->(∃o,h'.get? e=some o/\o.cls= .type "StopIteration")->E (.ref e) {s with heap:=h'}):
 wpAny (model prog w) A (Builtin.SmallTypes.nextOf (.ref it)) Q E s:=by
 cases b with
 |true=>exact wpAny_nextOf_list_end p hit m g q
 |false=>exact dw p hit m g q
end
def drawsB (u:A.handled=none) (b:Bool) (it a:Addr) (C:a≠it) (items:Array Value):
 Draws prog w A it [it,a] items.size (λi x=>items[i]? =some x) (λi h=>ItB b h it a i/\SeB b h a items) where
 live:=λi h g=>by obtain ⟨o,t,_⟩:=g.1.obj;exact ⟨o,t⟩
 frame:=λi h h' g p=>⟨g.1.at λo e=>p _ (by simp) o e,g.2.at λo e=>p _ (by simp) o e⟩
 item:=λi s Q E q g y=>VH g.1 g.2 (Array.getElem?_eq_getElem q) λh' m r=>y _ h' s.toks (Array.getElem?_eq_getElem q) ⟨m,g.2.at λo e=>(r.2 _ C).trans e⟩ r
 done:=λs Q E g z=>au u g.1 g.2 (by simp) z
def aH {X:Cx} {pins:Pn} {σ:L2.St} {H:Hp} {s:Shared} {h':Heap} {t':Nat} {ch:List Addr} {a:Addr} {o:HO} (I:Inv X pins σ H s) (hf:∀b∈ch,tm X pins H b)
 (k:∀b o,b∉ch->s.heap.get? b=some o->h'.get? b=some o) (C:∀b∈ch,∃o,h'.get? b=some o) (ha:s.heap.objs.size<=a) (new:YU X.prog X.w (upd H a o) h' a o):
 Inv X pins σ (upd H a o) {s with heap:=h',toks:=t'}:=by
 have t:H a=none:=I.hok.fresh ha;have same:zV H (upd H a o):=zV.new t o
 refine I.step (g':=s.gens) (d':=s.drawn) (ch:=ch) (λb p=>⟨(hf b p).2.2.2.1,(hf b p).2.1,(hf b p).2.2.2.2.1,(hf b p).2.2.2.2.2⟩) (λb u _ _ g e _=>k b u g e) (λb u _ _ g e _=>⟨u.slots,k b u g e⟩)
  (λb u g e n=>by rw [ym (QU (Tf (Qz e) ha))];exact n) (λb u g e=>⟨u,k b u g e⟩) (λb xs e=>same _ _ e) (λb u v e=>same _ _ e) (λb ps e=>⟨#[],by rw [same _ _ e];simp⟩) (λm hm=>?_) (λb u e=>?_) I.bare
 ·obtain ⟨y,es,ep,A,r⟩:=hm;exact ⟨y,es,ep,k _ y (λz=>(hf _ z).2.1 rfl) A,r⟩
 ·by_cases p:b=a
  ·subst p;rw [yU] at e;cases e;exact new
  ·rw [ym p] at e;refine (I.hok b u e).stay (λc v g q=>k c v ?_ q) (λ_ q=>same _ _ q) λ_ _ q=>same _ _ q;intro z
   rcases g with q|q
   ·rw [q] at z;rw [(hf b z).1] at e;cases e
   ·rw [(hf c z).1] at q;cases q
def ItE (b:Bool) (K:Frg) (a:Addr):It:=
 ⟨λi H=>∃xs x,SqB b K H a xs/\xs[i]? =some x,λi H v H'=>∃p x,(∀xs,SqB b K H a xs->xs[i]? =some x)/\H p=none/\v= .ref p/\H'=upd H p (.tup [.int i,x]),λi H=>∃xs,SqB b K H a xs/\xs.length<=i⟩
def oj:(2:Nat)<=sizeLine:=by decide
def Bf {P:Program} {w:World} {K:Frg} {elts:List Expr} {k:Nat} {pos:Pos} (b:Bool) (a e it:Addr) (RD:a≠it) (J:e≠it) (Y:e≠a):
 Turn P w K (.Tuple elts k pos) (ItE b K a) [e,it] e (λi h=>(∃old,IsEnum h e it i old)/\ItB b h it a i) where
 mem:=by simp
 obj:=λi h st c g=>by
  rcases Qn.mp g with rfl|g
  ·obtain ⟨old,z⟩:=st.1;exact ⟨_,z,λv q=>by cases q⟩
  ·obtain rfl:c=it:=by simpa using g
   exact st.2.obj
 keep:=λi h h' st kk=>by
  obtain ⟨⟨old,z⟩,y⟩:=st;exact ⟨⟨old,kk e (by simp) _ z⟩,y.at λo q=>kk it (by simp) o q⟩
 item:=by
  intro X C hw hK g i pins s σ H E I hf st hg;subst C hw hK;obtain ⟨⟨old,he⟩,hit⟩:=st;obtain ⟨xs,x,D,N⟩:=hg;obtain ⟨its,M,p,hz⟩:=seB I D;obtain ⟨u,hu,ru⟩:=M.get N;have U:=I.ok.hd g;have hi:i<its.toArray.size:=by have:=(Qd.mp hu).1;simpa using this
  refine wpAny_pyNext_enum_itemD (drawsB (A:=X.A.in1) U b it a RD its.toArray) he ⟨hit,p⟩ hi J (by simp only [Qn,Qp,or_false,not_or];exact ⟨J,Y⟩) λm h' tk C O ML G Nl hk=>?_
  have ex:m=u:=by
   have t:its[i]? =some m:=by simpa using C
   rw [hu] at t;exact (QJ t).symm
  subst ex;refine ⟨_,rfl,wpAny_letOwnedTupleGo_enum O λOA Rw L=>?_⟩;have Rr:e<s.heap.objs.size:=Qz he;have r:it<s.heap.objs.size:=by obtain ⟨o,z,_⟩:=hit.obj;exact Qz z
  have Ob:OA.get? s.heap.objs.size=some {cls:= .type "tuple",data:= .seq #[.int i tk,m]}:=(L.2 _ (jbf Rr)).trans G;refine ⟨.ref s.heap.objs.size,upd H s.heap.objs.size (.tup [.int i,x]),?_,rfl,⟨_,x,λys hy=>by rw [qY I hy D];exact N,I.fresh,rfl,rfl⟩,⟨⟨m,by simpa using Rw⟩,ML.1.at λo q=>(L.2 _ J.symm).trans q⟩,λc g=>?_⟩
  ·refine aH (s:=s) (t':=tk+1) (ch:=[e,it]) I hf (λc o Z q=>(L.2 c (λz=>Z (by simp [z]))).trans (hk c o (λz=>Z (by simp [z])) (λz=>Z (by simp [z])) q)) (λc g=>?_) (Qu _) ⟨oj,[.int i tk,m], .cons ⟨tk,rfl⟩ (.cons ru .nil),⟨_,Ob,rfl,_,rfl⟩⟩
   rcases Qn.mp g with rfl|g
   ·exact ⟨_,Rw⟩
   ·obtain rfl:c=it:=by simpa using g
    obtain ⟨o,z,_⟩:=ML.1.obj;exact ⟨o,(L.2 _ J.symm).trans z⟩
  ·have Mu:c<s.heap.objs.size:=by
    rcases Qn.mp g with rfl|g
    ·exact Rr
    ·obtain rfl:c=it:=by simpa using g
     exact r
   rw [ym (QU Mu)];exact (hf c g).1
 done:=by
  intro X C hw hK g i pins s σ H E I hf st hg;subst C hw hK;obtain ⟨⟨old,he⟩,hit⟩:=st;obtain ⟨xs,D,N⟩:=hg;obtain ⟨its,M,p,hz⟩:=seB I D;have U:=I.ok.hd g;have hl:=M.length;obtain ⟨f0,f1,f2,f3,f4,f5⟩:=hf it (by simp);have G:s.TypeIs (.ref e) "enumerate":=⟨_,he,rfl⟩;unfold pyNext;refine Qh (jbI (TK (name:=Str.ofString "__next__") G F.slot_enumerate_next (jae F.slot_enumerate_next G F.entry_enumerate_next ?_ (F.args_enumerate_next_1 _))));show wpAny _ _ (field (.ref e) 2>>=_) _ _ _;refine Qh (jaP he rfl (x:= .ref it) rfl ?_);refine Qh (au (A:=X.A.in1) U hit p (by simp;lia) λh' y Rx MI=>?_);obtain ⟨o,O,Oz⟩:=MI;refine Qh (wpAny_isInstance (T:="StopIteration") (b:=true) ⟨o,O,Oz⟩ isSubtype_stop ?_);exact Qt ⟨rfl,I.turned (t':=s.toks) (λc o hb e=>Rx c o hb e) f0 f1 f3 f4 f5⟩
 self:=λ_ _ _ _ _ st h=>by
  obtain ⟨⟨old,he⟩,_⟩:=st;exact wpAny_pyIter_enum he h
def pM (l:Addr) (items:Array Value) (n:Nat) (q:Option Addr) (t:Array (Option Value)):
 Meets (Builtin.«enumerate.__new__» ⟨[.type "enumerate", .ref l],[]⟩) (λ_ R s=>s.heap.get? l=some {cls:= .type "tuple",dict:=q,data:= .seq items n,slots:=t}/\
  R (.ok (.ret (.ref (s.heap.push {cls:= .type "tuple_iterator",data:= .fields #[.ref l, .int 0 0]}).objs.size)))
    {s with heap:=(s.heap.push {cls:= .type "tuple_iterator",data:= .fields #[.ref l, .int 0 0]}).push {cls:= .type "enumerate",data:= .fields #[.none, .bool false, .ref s.heap.objs.size,rawInt 0, .none, .none]}}):=
 .of_wp λprog w A R s h=>by
  obtain ⟨hp,g,d,tk,os⟩:=s;obtain ⟨m,h⟩:=h;have r:=sub_enumerate;have p:Heap.IsTuple (Shared.heap ⟨hp,g,d,tk,os⟩) l items:=⟨_,m,rfl,n,rfl⟩
  wp_walk using jbE m
  refine wpAny_stack_any λst=>Qt ?_
  split
  ·rename_i c _ _ _ _ _;cases (c==Value.type "enumerate")
   ·wp_walk using jbE m,jar p
    exact ⟨_,rfl,h⟩
   ·wp_walk using jbE m,jar p
    exact ⟨_,rfl,h⟩
  ·wp_walk using jbE m,jar p
   exact ⟨_,rfl,h⟩
def Aw (q:SeB b s.heap l items)
 (h:∀h',IsEnum h' (s.heap.objs.size+1) s.heap.objs.size 0 .none->ItB b h' s.heap.objs.size l 0->h'.objs.size=s.heap.objs.size+2->
  (∀b o,s.heap.get? b=some o->h'.get? b=some o)->Q (.ref (s.heap.objs.size+1)) {s with heap:=h'}):
 wpAny (model prog w) A (call (.type "enumerate") [.ref l]) Q E s:=by
 cases b with
 |true=>exact call_enumerate_list q h
 |false=>
  obtain ⟨⟨c,p,u,r⟩,t,m,n,hd⟩:=q
  replace m:c= .type "tuple":=m
  replace hd:u= .seq items n:=hd
  subst m hd
  refine callType_new F.called_enumerate nofun (F.typeCall_enumerate_1 _) (F.newCall_enumerate_1 _) (λobj=>F.args_object_init_2 obj _) F.entry_enumerate_new
   (pM l items n p r) ⟨t,?_⟩
  have g:(s.heap.push {cls:= .type "tuple_iterator",data:= .fields #[.ref l, .int 0 0]}).objs.size=s.heap.objs.size+1:=Td ..;show _/\_;rw [g]
  have he:IsEnum ((s.heap.push {cls:= .type "tuple_iterator",data:= .fields #[.ref l, .int 0 0]}).push
   {cls:= .type "enumerate",data:= .fields #[.none, .bool false, .ref s.heap.objs.size,rawInt 0, .none, .none]}) (s.heap.objs.size+1) s.heap.objs.size 0 .none:=by
   have:=Qx (s.heap.push {cls:= .type "tuple_iterator",data:= .fields #[.ref l, .int 0 0]})
    (o:={cls:= .type "enumerate",data:= .fields #[.none, .bool false, .ref s.heap.objs.size,rawInt 0, .none, .none]}) rfl
   rw [g] at this;exact this
  refine ⟨⟨_,he,rfl⟩,h _ he ⟨_,Qj _ (Qx _ rfl),rfl,rfl⟩ (by rw [Td,g]) λb o x=>Qj _ (Qj _ x)⟩
section
def iEnum (b:Bool) (K:Frg) (g:TA):TI:=λσ H R=>g σ H λvs H1=>∃a,vs=[.ref a]/\(∃xs,SqB b K H1 a xs)/\R (ItE b K a) H1
def pi_enum (b:Bool) {elts:List Expr} {k:Nat} {m:Pos} {a:Expr} {t:TA} {p pos:Pos} (L:Gl X "enumerate") (hm:X.mg "enumerate"=none) (ha:PA X [a] t) (D:starEach [a] X.env=[(false,eval a X.env)]:=by rfl):
 PI X (.Tuple elts k m) (.Call (.Name "enumerate" p) [a] [] pos) (iEnum b X.K t):=by
 intro pins s σ H R I h;refine Call_ (Uc I L hm qg (TV (thn (ha pos pins s σ H _ I h) ?_) D rfl));rintro us s1 ⟨vs,H1,g,A,C⟩;obtain ⟨l,e,⟨xs,G⟩,q⟩:=C;subst e;obtain ⟨u,rfl,ru⟩:=eR A;cases (show u=Value.ref l from ru);obtain ⟨its,N,w,O⟩:=seB g G;refine Aw w λh' he hit P J=>wpAny_pyIter_enum he ?_;have M:Inv X pins σ H1 {s1 with heap:=h'}:=g.kept (t':=s1.toks) J;have y:l<s1.heap.objs.size:=by obtain ⟨o,z⟩:=w.obj;exact Qz z
 refine ⟨s1.heap.objs.size+1,[s1.heap.objs.size+1,s1.heap.objs.size],_,_,H1,rfl,M,Bf b l _ _ (QU y) (Nat.succ_ne_self _) (jbf (Tz y)),⟨⟨_,he⟩,hit⟩,λc r=>?_,q⟩
 rcases Qn.mp r with rfl|r
 ·exact g.fpOk (jaq _) (g.hok.fresh (jaq _))
 ·obtain rfl:c=s1.heap.objs.size:=by simpa using r
  exact g.fpOk (Qu _) (g.hok.fresh (Qu _))
end
def ItB.extBut (x:ItB b h it a i) (g:Heap.ExtBut c h h') (m:it≠c):ItB b h' it a i:=x.at λo e=>g _ o m e
def SeB.extBut (x:SeB b h a items) (g:Heap.ExtBut c h h') (m:a≠c):SeB b h' a items:=x.at λo e=>g _ o m e
section
open PySem
def AW {p t:Bool} {z TI TO r q I G:Addr} {L K:Nat} {xs ys:Array Value} {x y a b:Value} {Q:Value->Shared->Prop} (D:ZipApart z TI TO r q I G)
 (g:IsZip s.heap z TI TO .none) (NK:IsPair s.heap TI (.ref r) (.ref q)) (m:IsPair s.heap TO a b)
 (C:ItB p s.heap r I L) (u:ItB t s.heap q G K) (Nr:SeB p s.heap I xs) (MZ:SeB t s.heap G ys) (hx:xs[L]? =some x) (Z:ys[K]? =some y)
 (hQ:∀h',IsZip h' z TI TO (rawInt s.heap.objs.size)->IsPair h' TO x y->ItB p h' r I (L+1)->ItB t h' q G (K+1)->IsPair h' s.heap.objs.size x y->h'.objs.size=s.heap.objs.size+1->
  (∀c o,c≠z->c≠TO->c≠r->c≠q->s.heap.get? c=some o->h'.get? c=some o)->Q (.ref s.heap.objs.size) {s with heap:=h'}):
 wpAny (model prog w) A (Builtin.«zip.__next__» ⟨[.ref z],[]⟩) (λfin Y=>∃v,fin= .done (.ret v)/\Q v Y) E s:=by
 show wpAny _ _ (field (.ref z) 2>>=_) _ _ _;refine Qh (jaP g rfl (x:= .bool false) rfl ?_);show wpAny _ _ (field (.ref z) 3>>=_) _ _ _;refine Qh (jaP g rfl (x:= .ref TI) rfl ?_);refine Qh (jbi NK rfl ?_);show wpAny _ _ (Builtin.SmallTypes.ownedTupleIsFree (.ref z)>>=_) _ _ _;refine Qh ?_;unfold Builtin.SmallTypes.ownedTupleIsFree;refine Qh (jaP g rfl (x:= .none) rfl (Qt ?_));simp only [if_true];refine Qh (jce ?_);refine Qh (jaP g rfl (x:= .ref TO) rfl ?_);refine Qh (jbg g (by simp) λh₁ g₁ hs₁=>?_)
 replace g₁:IsZip h₁ z TI TO .ellipsis:=g₁
 refine Qh ?_;simp only [List.zipIdx_cons,List.zipIdx_nil,List.forIn_cons,List.forIn_nil];refine Qh (Qh (wpAny_onRaise ?_));show wpAny _ _ (Builtin.SmallTypes.nextOf (.ref r)>>=_) _ _ _;refine Qh (VH (C.extBut hs₁.extBut D.i1z) (Nr.extBut hs₁.extBut D.l1z) hx λh₂ C₂ hs₂=>Qt ?_);have m₂:IsPair h₂ TO a b:=hs₂.extBut _ _ D.TOi1 (hs₁.extBut _ _ D.TOz m);refine Qh (jbi m₂ rfl ?_);refine Qh (wpAny_updateSeq_pair m₂ λh₃ m₃ hs₃=>?_)
 replace m₃:IsPair h₃ TO x b:=m₃
 refine Qh (wpAny_letGo (Qt ?_));refine Qh (Qh (wpAny_onRaise ?_));show wpAny _ _ (Builtin.SmallTypes.nextOf (.ref q)>>=_) _ _ _
 refine Qh (VH (((u.extBut hs₁.extBut D.i2z).extBut hs₂.extBut D.i12.symm).extBut hs₃.extBut D.TOi2.symm)
  (((MZ.extBut hs₁.extBut D.l2z).extBut hs₂.extBut D.l2i1).extBut hs₃.extBut D.l2TO) Z λh₄ u₄ hs₄=>Qt ?_)
 have m₄:IsPair h₄ TO x b:=hs₄.extBut _ _ D.TOi2 m₃;refine Qh (jbi m₄ rfl ?_);refine Qh (wpAny_updateSeq_pair m₄ λh₅ m₅ hs₅=>?_)
 replace m₅:IsPair h₅ TO x y:=m₅
 refine Qh (wpAny_letGo (Qt (Qt ?_)));refine Qh (jbi m₅ rfl ?_);refine Qh (wpAny_newTuple ?_);have X:h₅.objs.size=s.heap.objs.size:=by rw [hs₅.1,hs₄.1,hs₃.1,hs₂.1,hs₁.1]
 have g₅:IsZip h₅ z TI TO .ellipsis:=hs₅.extBut _ _ D.TOz.symm (hs₄.extBut _ _ D.i2z.symm (hs₃.extBut _ _ D.TOz.symm (hs₂.extBut _ _ D.i1z.symm g₁)))
 have hk₅:∀c o,c≠z->c≠TO->c≠r->c≠q->s.heap.get? c=some o->h₅.get? c=some o:=λc o p t T P e=>
  hs₅.extBut _ _ t (hs₄.extBut _ _ P (hs₃.extBut _ _ t (hs₂.extBut _ _ T (hs₁.extBut _ _ p e))))
 have C₅:ItB p h₅ r I (L+1):=((C₂.extBut hs₃.extBut D.TOi1.symm).extBut hs₄.extBut D.i12).extBut hs₅.extBut D.TOi1.symm;have u₅:ItB t h₅ q G (K+1):=u₄.extBut hs₅.extBut D.TOi2.symm;have U:z<h₅.objs.size:=Qz g₅;have O:TO<h₅.objs.size:=Qz m₅;have N:r<h₅.objs.size:=by obtain ⟨_,e,_⟩:=C₅.obj;exact Qz e
 have M:q<h₅.objs.size:=by obtain ⟨_,e,_⟩:=u₅.obj;exact Qz e
 show wpAny _ _ (Builtin.SmallTypes.ownedTupleHandOut (.ref z) (.ref h₅.objs.size)>>=_) _ _ _;refine Qh ?_;unfold Builtin.SmallTypes.ownedTupleHandOut;have g₆:IsZip (h₅.push {cls:= .type "tuple",data:= .seq #[x,y]}) z TI TO .ellipsis:=Qj _ g₅;refine Qh (jbg g₆ (by simp) λh₇ g₇ hs₇=>?_)
 replace g₇:IsZip h₇ z TI TO (rawInt h₅.objs.size):=g₇
 refine jbg g₇ (by simp) λh₈ g₈ hs₈=>?_
 replace g₈:IsZip h₈ z TI TO (rawInt h₅.objs.size):=g₈
 have up:∀c o,c≠z->h₅.get? c=some o->h₈.get? c=some o:=λc o p e=>hs₈.extBut _ _ p (hs₇.extBut _ _ p (Qj _ e));have hT₈:IsPair h₈ h₅.objs.size x y:=hs₈.extBut _ _ (jbf U) (hs₇.extBut _ _ (jbf U) (Qx _ rfl));have J:h₈.objs.size=h₅.objs.size+1:=by rw [hs₈.1,hs₇.1,Td]
 rw [X] at g₈ hT₈ J;refine Qt ⟨_,rfl,?_⟩;show Q (.ref h₅.objs.size) _;rw [X];exact hQ h₈ g₈ (up _ _ D.TOz m₅) (C₅.at λo e=>up _ o D.i1z e) (u₅.at λo e=>up _ o D.i2z e) hT₈ J λc o p t T P e=>up c o p (hk₅ c o p t T P e)
def Fm {m C:Bool} {z TI TO t r J I:Addr} {L K:Nat} {xs ys:Array Value} {a b:Value} {Q:Fin->Shared->Prop} (O:A.handled=none) (D:ZipApart z TI TO t r J I)
 (g:IsZip s.heap z TI TO .none) (NK:IsPair s.heap TI (.ref t) (.ref r)) (y:IsPair s.heap TO a b)
 (M:ItB m s.heap t J L) (X:ItB C s.heap r I K) (T:SeB m s.heap J xs) (MZ:SeB C s.heap I ys) (Z:xs[L]? =none\/ys[K]? =none)
 (P:∀h' e,(∀c o,c≠z->c≠TO->c≠t->c≠r->s.heap.get? c=some o->h'.get? c=some o)->(∃o,h'.get? e=some o/\o.cls= .type "StopIteration")->E (.ref e) {s with heap:=h'}):
 wpAny (model prog w) A (Builtin.«zip.__next__» ⟨[.ref z],[]⟩) Q E s:=by
 show wpAny _ _ (field (.ref z) 2>>=_) _ _ _;refine Qh (jaP g rfl (x:= .bool false) rfl ?_);show wpAny _ _ (field (.ref z) 3>>=_) _ _ _;refine Qh (jaP g rfl (x:= .ref TI) rfl ?_);refine Qh (jbi NK rfl ?_);show wpAny _ _ (Builtin.SmallTypes.ownedTupleIsFree (.ref z)>>=_) _ _ _;refine Qh ?_;unfold Builtin.SmallTypes.ownedTupleIsFree;refine Qh (jaP g rfl (x:= .none) rfl (Qt ?_));simp only [if_true];refine Qh (jce ?_);refine Qh (jaP g rfl (x:= .ref TO) rfl ?_);refine Qh (jbg g (by simp) λh₁ g₁ hs₁=>?_)
 replace g₁:IsZip h₁ z TI TO .ellipsis:=g₁
 refine Qh ?_;simp only [List.zipIdx_cons,List.zipIdx_nil,List.forIn_cons,List.forIn_nil];refine Qh (Qh (wpAny_onRaise ?_));show wpAny _ _ (Builtin.SmallTypes.nextOf (.ref t)>>=_) _ _ _
 cases hx:xs[L]? with
 |none=>
  refine Qh (au O (M.extBut hs₁.extBut D.i1z) (T.extBut hs₁.extBut D.l1z) hx λh₂ e hs₂ he=>?_);obtain ⟨G,q,u⟩:=he;have g₂:IsZip h₂ z TI TO .ellipsis:=hs₂ _ _ D.i1z.symm g₁;have p:e≠z:=λx=>by subst x;rw [g₂] at q;cases q;simp at u
  refine jbg g₂ (by simp) λh₃ _ hs₃=>P h₃ e (λc o m _ N _ x=>hs₃.extBut _ _ m (hs₂ _ _ N (hs₁.extBut _ _ m x))) ⟨G,hs₃.extBut _ _ p q,u⟩
 |some x=>
  have U:ys[K]? =none:=by rcases Z with h|h;rw [hx] at h;cases h;exact h
  refine Qh (VH (M.extBut hs₁.extBut D.i1z) (T.extBut hs₁.extBut D.l1z) hx λh₂ M₂ hs₂=>Qt ?_);have y₂:IsPair h₂ TO a b:=hs₂.extBut _ _ D.TOi1 (hs₁.extBut _ _ D.TOz y);refine Qh (jbi y₂ rfl ?_);refine Qh (wpAny_updateSeq_pair y₂ λh₃ y₃ hs₃=>?_);refine Qh (wpAny_letGo (Qt ?_));refine Qh (Qh (wpAny_onRaise ?_));show wpAny _ _ (Builtin.SmallTypes.nextOf (.ref r)>>=_) _ _ _
  refine Qh (au O (((X.extBut hs₁.extBut D.i2z).extBut hs₂.extBut D.i12.symm).extBut hs₃.extBut D.TOi2.symm)
   (((MZ.extBut hs₁.extBut D.l2z).extBut hs₂.extBut D.l2i1).extBut hs₃.extBut D.l2TO) U λh₄ e hs₄ he=>?_)
  obtain ⟨G,q,u⟩:=he;have g₄:IsZip h₄ z TI TO .ellipsis:=hs₄ _ _ D.i2z.symm (hs₃.extBut _ _ D.TOz.symm (hs₂.extBut _ _ D.i1z.symm g₁));have p:e≠z:=λx=>by subst x;rw [g₄] at q;cases q;simp at u
  refine jbg g₄ (by simp) λh₅ _ hs₅=>P h₅ e (λc o m C N Y x=>hs₅.extBut _ _ m (hs₄ _ _ Y (hs₃.extBut _ _ C (hs₂.extBut _ _ N (hs₁.extBut _ _ m x))))) ⟨G,hs₅.extBut _ _ p q,u⟩
end
def ItZ (m g:Bool) (K:Frg) (a1 a2:Addr):It:=
 ⟨λi H=>∃xs ys x y,SqB m K H a1 xs/\SqB g K H a2 ys/\xs[i]? =some x/\ys[i]? =some y,
  λi H v H'=>∃p x y,(∀xs,SqB m K H a1 xs->xs[i]? =some x)/\(∀ys,SqB g K H a2 ys->ys[i]? =some y)/\H p=none/\v= .ref p/\H'=upd H p (.tup [x,y]),
  λi H=>∃xs ys,SqB m K H a1 xs/\SqB g K H a2 ys/\(xs.length<=i\/ys.length<=i)⟩
def Fx {P:Program} {w:World} {K:Frg} {elts:List Expr} {k:Nat} {pos:Pos} (c1 c2:Bool) (z TI TO t p l1 l2:Addr) (D:ZipApart z TI TO t p l1 l2):
 Turn P w K (.Tuple elts k pos) (ItZ c1 c2 K l1 l2) [z,TI,TO,t,p] z (λi h=>IsZip h z TI TO .none/\IsPair h TI (.ref t) (.ref p)/\(∃a b,IsPair h TO a b)/\ItB c1 h t l1 i/\ItB c2 h p l2 i) where
 mem:=by simp
 obj:=λi h st c C=>by
  obtain ⟨G,J,⟨a,b,O⟩,N,M⟩:=st;simp only [Qn,Qp,or_false] at C
  rcases C with rfl|rfl|rfl|rfl|rfl
  ·exact ⟨_,G,λv q=>by cases q⟩
  ·exact ⟨_,J,λv q=>by cases q⟩
  ·exact ⟨_,O,λv q=>by cases q⟩
  ·exact N.obj
  ·exact M.obj
 keep:=λi h h' st Y=>by
  obtain ⟨G,J,⟨a,b,O⟩,N,M⟩:=st;exact ⟨Y z (by simp) _ G,Y TI (by simp) _ J,⟨a,b,Y TO (by simp) _ O⟩,N.at λo e=>Y t (by simp) o e,M.at λo e=>Y p (by simp) o e⟩
 item:=by
  intro X hP hw hK C i pins s σ H E I hf st hg;subst hP hw hK;obtain ⟨G,J,⟨a,b,O⟩,N,M⟩:=st;obtain ⟨xs,ys,x,y,Ow,Pq,hx,hy⟩:=hg;obtain ⟨PZ,RS,p1,_⟩:=seB I Ow;obtain ⟨MJ,RQ,p2,_⟩:=seB I Pq;obtain ⟨u1,hu1,SS⟩:=RS.get hx;obtain ⟨u2,hu2,SR⟩:=RQ.get hy;have hT:s.TypeIs (.ref z) "zip":=⟨_,G,rfl⟩;unfold pyNext
  refine Qh (jbI (TK (name:=Str.ofString "__next__") hT F.slot_zip_next (jae F.slot_zip_next hT F.entry_zip_next
   (AW D G J O N M p1 p2 (x:=u1) (y:=u2) ‹hu1› ‹hu2› λh' a1 a2 a3 a4 a5 a6 L=>Qt ?_) (F.args_zip_next_1 _))))
  refine ⟨_,rfl,wpAny_letOwnedTupleGo_zip a1 λU hz'' NI=>?_⟩;have lt:∀{c o},s.heap.get? c=some o->c<s.heap.objs.size:=λe=>Qz e;have i1lt:t<s.heap.objs.size:=by obtain ⟨_,e,_⟩:=N.obj;exact lt e
  have Z:p<s.heap.objs.size:=by obtain ⟨_,e,_⟩:=M.obj;exact lt e
  have hTI':IsPair h' TI (.ref t) (.ref p):=L _ _ D.TIz D.TITO D.TIi1 D.TIi2 J;have up:∀c o,c≠z->h'.get? c=some o->U.get? c=some o:=λc o C e=>(NI.2 c C).trans e;have Ob:U.get? s.heap.objs.size=some {cls:= .type "tuple",data:= .seq #[u1,u2]}:=up _ _ (jbf (lt G)) a5
  have PR:IsZip U z TI TO .none/\IsPair U TI (.ref t) (.ref p)/\(∃a b,IsPair U TO a b)/\ItB c1 U t l1 (i+1)/\ItB c2 U p l2 (i+1):=
   ⟨hz'',up _ _ D.TIz hTI',⟨u1,u2,up _ _ D.TOz a2⟩,a3.at λo e=>up _ o D.i1z e,a4.at λo e=>up _ o D.i2z e⟩
  refine ⟨.ref s.heap.objs.size,upd H s.heap.objs.size (.tup [x,y]),?_,rfl,⟨_,x,y,λzs hy=>by rw [qY I hy Ow];exact hx,λzs Nf=>by rw [qY I Nf Pq];exact hy,I.fresh,rfl,rfl⟩,PR,λc C=>?_⟩
  ·refine aH (s:=s) (t':=s.toks) (ch:=[z,TI,TO,t,p]) I hf (λc o g q=>?_) (λc C=>?_) (Qu _) ⟨oj,[u1,u2], .cons SS (.cons SR .nil),⟨_,Ob,rfl,_,rfl⟩⟩
   ·have n1:c≠z:=λe=>g (by simp [e]);exact up c o n1 (L c o n1 (λe=>g (by simp [e])) (λe=>g (by simp [e])) (λe=>g (by simp [e])) q)
   ·obtain ⟨z1,z2,⟨_,_,z3⟩,z4,z5⟩:=PR;simp only [Qn,Qp,or_false] at C
    rcases C with rfl|rfl|rfl|rfl|rfl
    ·exact ⟨_,z1⟩
    ·exact ⟨_,z2⟩
    ·exact ⟨_,z3⟩
    ·obtain ⟨o,e,_⟩:=z4.obj;exact ⟨o,e⟩
    ·obtain ⟨o,e,_⟩:=z5.obj;exact ⟨o,e⟩
  ·have Mu:c<s.heap.objs.size:=by
    simp only [Qn,Qp,or_false] at C
    rcases C with rfl|rfl|rfl|rfl|rfl
    ·exact lt G
    ·exact lt J
    ·exact lt O
    ·exact i1lt
    ·exact Z
   rw [ym (QU Mu)];exact (hf c C).1
 done:=by
  intro X hP hw hK C i pins s σ H E I hf st hg;subst hP hw hK;obtain ⟨G,J,⟨a,b,O⟩,N,M⟩:=st;obtain ⟨xs,ys,Ow,Pq,Ny⟩:=hg;obtain ⟨PZ,RS,p1,_⟩:=seB I Ow;obtain ⟨MJ,RQ,p2,_⟩:=seB I Pq;have e1:=RS.length;have e2:=RQ.length;have hh:=I.ok.hd C;have hT:s.TypeIs (.ref z) "zip":=⟨_,G,rfl⟩;unfold pyNext
  refine Qh (jbI (TK (name:=Str.ofString "__next__") hT F.slot_zip_next (jae F.slot_zip_next hT F.entry_zip_next
   (Fm (A:=X.A.in1) hh D G J O N M p1 p2 (by simp only [List.getElem?_toArray];rcases Ny with q|q;exact .inl (QD ⋯);exact .inr (QD ⋯)) λh' e L he=>?_) (F.args_zip_next_1 _))))
  obtain ⟨o,ho,Oz⟩:=he;refine Qh (wpAny_isInstance (T:="StopIteration") (b:=true) ⟨o,ho,Oz⟩ isSubtype_stop ?_);refine Qt ⟨rfl,?_⟩
  refine I.step (g':=s.gens) (d':=s.drawn) (t':=s.toks) (H':=H) (ch:=[z,TO,t,p]) (λb hb=>?_) (λb u _ _ g e _=>L b u (λq=>g (by simp [q])) (λq=>g (by simp [q])) (λq=>g (by simp [q])) (λq=>g (by simp [q])) e)
   (λb u _ _ g e _=>⟨u.slots,L b u (λq=>g (by simp [q])) (λq=>g (by simp [q])) (λq=>g (by simp [q])) (λq=>g (by simp [q])) e⟩) (λ_ _ _ _ n=>n)
   (λb u g e=>⟨u,L b u (λq=>g (by simp [q])) (λq=>g (by simp [q])) (λq=>g (by simp [q])) (λq=>g (by simp [q])) e⟩) (λ_ _ e=>e) (λ_ _ _ e=>e) (λb ps e=>⟨#[],by rw [e];simp⟩) (λm hm=>?_) (λb u e=>?_) I.bare
  ·have MU:b∈[z,TI,TO,t,p]:=by
    simp only [Qn,Qp,or_false] at hb⊢
    rcases hb with q|q|q|q<;>simp [q]
   exact ⟨(hf b MU).2.2.2.1,(hf b MU).2.1,(hf b MU).2.2.2.2.1,(hf b MU).2.2.2.2.2⟩
  ·obtain ⟨ob,es,ep,ho,r⟩:=hm;exact ⟨ob,es,ep,L _ ob (λq=>(hf z (by simp)).2.1 q.symm) (λq=>(hf TO (by simp)).2.1 q.symm) (λq=>(hf t (by simp)).2.1 q.symm) (λq=>(hf p (by simp)).2.1 q.symm) ho,r⟩
  ·refine (I.hok b u e).stay (λc v So q=>?_) (λ_ q=>q) λ_ _ q=>q
   have nf:∀d∈[z,TI,TO,t,p],c≠d:=λd hd z=>by
    subst z
    rcases So with q|q
    ·rw [<-q,(hf _ hd).1] at e;cases e
    ·rw [(hf _ hd).1] at q;cases q
   exact L c v (nf z (by simp)) (nf TO (by simp)) (nf t (by simp)) (nf p (by simp)) q
 self:=λ_ _ _ _ _ st h=>wpAny_pyIter_zip st.1 h
def He (b:Bool) (l:Addr):Obj:={cls:= .type (match b with|true=>"list_iterator"|false=>"tuple_iterator"),data:= .fields #[.ref l, .int 0 0]}
abbrev zB1 (m:Bool) (h:Heap) (g:Addr):Heap:=h.push (He m g)
abbrev zB2 (q p:Bool) (h:Heap) (m g:Addr):Heap:=(zB1 q h m).push (He p g)
abbrev zB3 (m q:Bool) (h:Heap) (g p:Addr):Heap:=(zB2 m q h g p).push {cls:= .type "tuple",data:= .seq #[.ref h.objs.size, .ref (zB1 m h g).objs.size]}
abbrev zB4 (q p:Bool) (h:Heap) (m g:Addr):Heap:=(zB3 q p h m g).push {cls:= .type "tuple",data:= .seq #[.none, .none]}
abbrev zB5 (q p:Bool) (h:Heap) (m g:Addr):Heap:=(zB4 q p h m g).push {cls:= .type "zip",data:= .fields #[.none, .bool false, .bool false, .ref (zB2 q p h m g).objs.size, .ref (zB3 q p h m g).objs.size]}
def SeB.push (x:SeB b h a items) (o:Obj):SeB b (h.push o) a items:=x.at λ_ e=>Qj _ e
def wJ (u r:Bool) (m p:Addr) (xs ys:Array Value):
 Meets (Builtin.«zip.__new__» ⟨[.type "zip", .ref m, .ref p],[]⟩) (λ_ R s=>SeB u s.heap m xs/\SeB r s.heap p ys/\
  R (.ok (.ret (.ref (zB4 u r s.heap m p).objs.size))) {s with heap:=zB5 u r s.heap m p}):=
 .of_wp λprog w A R s h=>by
  obtain ⟨hp,g,d,tk,os⟩:=s;obtain ⟨C,y,h⟩:=h;have z:=sub_zip
  cases u with
  |true=>
   have t:Heap.IsList (Shared.heap ⟨hp,g,d,tk,os⟩) m xs:=C
   cases r with
   |true=>
    have q:Heap.IsList (Shared.heap ⟨hp.push {cls:= .type "list_iterator",data:= .fields #[.ref m, .int 0 0]},g,d,tk,os⟩) p ys:=SeB.push (b:=true) y _
    wp_walk using jaC t,jaC q
    exact ⟨_,rfl,h⟩
   |false=>
    have q:Heap.IsTuple (Shared.heap ⟨hp.push {cls:= .type "list_iterator",data:= .fields #[.ref m, .int 0 0]},g,d,tk,os⟩) p ys:=SeB.push (b:=false) y _
    wp_walk using jaC t,jar q
    exact ⟨_,rfl,h⟩
  |false=>
   have t:Heap.IsTuple (Shared.heap ⟨hp,g,d,tk,os⟩) m xs:=C
   cases r with
   |true=>
    have q:Heap.IsList (Shared.heap ⟨hp.push {cls:= .type "tuple_iterator",data:= .fields #[.ref m, .int 0 0]},g,d,tk,os⟩) p ys:=SeB.push (b:=true) y _
    wp_walk using jar t,jaC q
    exact ⟨_,rfl,h⟩
   |false=>
    have q:Heap.IsTuple (Shared.heap ⟨hp.push {cls:= .type "tuple_iterator",data:= .fields #[.ref m, .int 0 0]},g,d,tk,os⟩) p ys:=SeB.push (b:=false) y _
    wp_walk using jar t,jar q
    exact ⟨_,rfl,h⟩
def uA (e:h.get? it=some (He b l)):ItB b h it l 0:=by
 cases b with
 |true=>exact ⟨_,e,rfl,rfl⟩
 |false=>exact ⟨_,e,rfl,rfl⟩
def kh (b:Bool) (l:Addr):(He b l).isFreed=false:=by cases b<;>rfl
def Ey (r:SeB c1 s.heap l1 xs) (t:SeB c2 s.heap l2 ys)
 (h:∀h',IsZip h' (s.heap.objs.size+4) (s.heap.objs.size+2) (s.heap.objs.size+3) .none->IsPair h' (s.heap.objs.size+2) (.ref s.heap.objs.size) (.ref (s.heap.objs.size+1))->
  IsPair h' (s.heap.objs.size+3) .none .none->ItB c1 h' s.heap.objs.size l1 0->ItB c2 h' (s.heap.objs.size+1) l2 0->
  (∀c o,s.heap.get? c=some o->h'.get? c=some o)->Q (.ref (s.heap.objs.size+4)) {s with heap:=h'}):
 wpAny (model prog w) A (call (.type "zip") [.ref l1, .ref l2]) Q E s:=by
 refine callType_new F.called_zip nofun (F.typeCall_zip_2 _ _) (F.newCall_zip_2 _ _) (λobj=>F.args_object_init_3 obj _ _) F.entry_zip_new
  (wJ c1 c2 l1 l2 xs ys) ⟨r,t,?_⟩
 have z1:(zB1 c1 s.heap l1).objs.size=s.heap.objs.size+1:=Td ..;have z2:(zB2 c1 c2 s.heap l1 l2).objs.size=s.heap.objs.size+2:=by rw [Td,z1]
 have g:(zB3 c1 c2 s.heap l1 l2).objs.size=s.heap.objs.size+3:=by rw [Td,z2]
 have p:(zB4 c1 c2 s.heap l1 l2).objs.size=s.heap.objs.size+4:=by rw [Td,g]
 have m:(zB5 c1 c2 s.heap l1 l2).get? (zB4 c1 c2 s.heap l1 l2).objs.size=some _:=Qx _ rfl;have q:(zB5 c1 c2 s.heap l1 l2).get? (zB3 c1 c2 s.heap l1 l2).objs.size=some _:=Qj _ (Qx _ rfl);have g3:(zB5 c1 c2 s.heap l1 l2).get? (zB2 c1 c2 s.heap l1 l2).objs.size=some _:=Qj _ (Qj _ (Qx _ rfl));have g2:(zB5 c1 c2 s.heap l1 l2).get? (zB1 c1 s.heap l1).objs.size=some _:=Qj _ (Qj _ (Qj _ (Qx _ (kh c2 l2))));have g1:(zB5 c1 c2 s.heap l1 l2).get? s.heap.objs.size=some _:=Qj _ (Qj _ (Qj _ (Qj _ (Qx _ (kh c1 l1)))));show _/\_;rw [z2,g,p] at m;rw [z1,z2] at g3;rw [g] at q;rw [z1] at g2;rw [p];exact ⟨⟨_,m,rfl⟩,h _ m g3 q (uA g1) (uA g2) λc o x=>Qj _ (Qj _ (Qj _ (Qj _ (Qj _ x))))⟩
section
def iZip (m g:Bool) (K:Frg) (p:TA):TI:=λσ H R=>p σ H λvs H1=>∃a1 a2,vs=[.ref a1, .ref a2]/\(∃xs,SqB m K H1 a1 xs)/\(∃ys,SqB g K H1 a2 ys)/\R (ItZ m g K a1 a2) H1
def pi_zip (G D:Bool) {elts:List Expr} {k:Nat} {g:Pos} {a b:Expr} {w:TA} {p pos:Pos} (U:Gl X "zip") (hm:X.mg "zip"=none) (ha:PA X [a,b] w) (P:starEach [a,b] X.env=[(false,eval a X.env),(false,eval b X.env)]:=by rfl) (J:starEach [b] X.env=[(false,eval b X.env)]:=by rfl):
 PI X (.Tuple elts k g) (.Call (.Name "zip" p) [a,b] [] pos) (iZip G D X.K w):=by
 intro pins s σ H R I h;refine Call_ (Uc I U hm bt_zip (TV (thn (ha pos pins s σ H _ I h) ?_) (by rw [P,J]) (by rw [J];rfl)));rintro us s1 ⟨vs,H1,m,N,O⟩;obtain ⟨u,t,e,⟨xs,Ow⟩,⟨ys,Pq⟩,q⟩:=O;subst e;obtain ⟨M,L,rfl,Z,SR⟩:=Jc N;cases (show M=Value.ref u from Z);cases (show L=Value.ref t from SR);obtain ⟨PZ,RS,A,_⟩:=seB m Ow;obtain ⟨MJ,RQ,y,_⟩:=seB m Pq;have RX:u<s1.heap.objs.size:=by obtain ⟨o,z⟩:=A.obj;exact Qz z
 have r:t<s1.heap.objs.size:=by obtain ⟨o,z⟩:=y.obj;exact Qz z
 refine Ey A y λh' a1 a2 a3 a4 Y T=>wpAny_pyIter_zip a1 ?_;have I2:Inv X pins σ H1 {s1 with heap:=h'}:=m.kept (t':=s1.toks) T;refine ⟨s1.heap.objs.size+4,[s1.heap.objs.size+4,s1.heap.objs.size+2,s1.heap.objs.size+3,s1.heap.objs.size,s1.heap.objs.size+1],_,_,H1,rfl,I2,Fx G D _ _ _ _ _ u t (zipApart_new RX r),⟨a1,a2,⟨_,_,a3⟩,a4,Y⟩,λc C=>?_,q⟩
 have hle:s1.heap.objs.size<=c:=by
  simp only [Qn,Qp,or_false] at C
  rcases C with z|z|z|z|z<;>rw [z]<;>first|exact Nat.le_add_right _ _|exact Qu _
 exact m.fpOk hle (m.hok.fresh hle)
end
end S
namespace S
open PySem PySem.Spec PyProof.Rows L2
def IJ (h0:0<=k) (h:xs[k.toNat]? =some v):atI xs k=some v:=by
 have g:k=((k.toNat:Nat):Int):=⋯
 rw [g];exact zZ h
def eqv_fr (p q:Rat):PyData.eqv (frD p) (frD q)=decide (p=q):=by
 unfold frD;simp only [PyData.eqv,PyData.eqvAll,Bool.and_true]
 by_cases h:p=q
 ·subst h;simp
 ·rw [TF h]
  by_cases m:p.num=q.num
  ·have r:p.den≠q.den:=λz=>h (Rat.ext m z);have g:((p.den:Int)==(q.den:Int))=false:=jbs.mpr (λz=>r (Int.ofNat.inj z));rw [g,Bool.and_false]
  ·have g:(p.num==q.num)=false:=jbs.mpr m;rw [g,Bool.false_and]
abbrev zh:=Rat×List Rat
section
end
def yj (qs:List Rat):PyData:= .tuple (qs.map frD)
def yb (c:zh):PyData:= .tuple [frD c.1,yj c.2]
def yJ (cs:List zh):PyData:= .list (cs.map yb)
theorem uB {H:Hp} {α:Type} {R:α->V->Prop} {f:α->PyData} (g:∀a v,R a v->Is H (f a) v):∀{xs:List α} {vs:List V},xs.length=vs.length->(∀(i:Nat) (x:α) (v:V),xs[i]? =some x->vs[i]? =some v->R x v)->zL H (xs.map f) vs
 |[],[],_,_=>by rw [TC,zL]
 |[],_::_,h,_=>by simp at h
 |_::_,[],h,_=>by simp at h
 |x::xs,v::vs,hl,h=>by
  rw [Qk,zL];exact ⟨v,vs,rfl,g x v (h 0 x v rfl rfl),uB g ‹hl› λi a b ha m=>h (i+1) a b ‹ha› ‹m›⟩
theorem gT {α:Type} {f:α->PyData} (h:∀a,(f a).canLay0=true):∀xs:List α,PyData.canLayAll0 (xs.map f)=true
 |[]=>rfl
 |x::xs=>by rw [Qk,PyData.canLayAll0,h x,gT h xs];rfl
theorem hV {α:Type} {f:α->PyData} {n:Nat} (h:∀a,(f a).depth<=n):∀xs:List α,PyData.depthAll (xs.map f)<=n
 |[]=>by rw [TC,PyData.depthAll];exact jap _
 |x::xs=>by rw [Qk,PyData.depthAll];exact Nat.max_le.mpr ⟨h x,hV h xs⟩
def Dt (q:Rat):(frD q).canLay0=true:=by unfold frD;simp [PyData.canLay0,PyData.canLayAll0]
def Ep (q:Rat):(frD q).depth<=2:=by unfold frD;simp [PyData.depth,PyData.depthAll]
def Ds (qs:List Rat):(yj qs).canLay0=true:=by unfold yj;rw [PyData.canLay0];exact gT Dt qs
def Eo (qs:List Rat):(yj qs).depth<=3:=by unfold yj;rw [PyData.depth];exact Nat.succ_le_succ (hV Ep qs)
def zY (g p m:zh):Prop:=∀(i:Nat) (a b c:Rat),g.2[i]? =some a->p.2[i]? =some b->m.2[i]? =some c->(b - a)*(m.1 - g.1)=(c - a)*(p.1 - g.1)
def nj (p q:Rat):Rat.divInt (q.num*p.den - p.num*q.den) (p.den*q.den)=q - p:=by
 rw [Rat.sub_def',Int.mul_comm (p.den:Int),<-Int.natCast_mul,Rat.divInt_ofNat]
def Eu (q:rd≠0) (p:nd≠0) (m:wd≠0) (g:fd≠0):
 Rat.divInt rn rd*Rat.divInt fn fd=Rat.divInt wn wd*Rat.divInt nn nd↔rn*nd*wd*fn=wn*fd*rd*nn:=by
 rw [jaJ,jaJ,jbQ (Int.mul_ne_zero q g) (Int.mul_ne_zero m p)];have s:rn*fn*(wd*nd)=rn*nd*wd*fn:=by grind
 have r:wn*nn*(rd*fd)=wn*fd*rd*nn:=by grind
 rw [s,r]
abbrev xg:=List (Addr×List PyData)
abbrev Dat:=List (PyData×V)
def Xw (G:Hp) (ds:Dat):Prop:=∀p∈ds,Is G p.1 p.2
def Has (ds:Dat) (x:PyData) (v:V):Prop:=∀G,Xw G ds->Is G x v
def yy (ds:Dat) (xs:List PyData) (vs:List V):Prop:=∀G,Xw G ds->zL G xs vs
def KW (B g H:Hp) (cs:xg) (ds:Dat) (G:Hp):Prop:=
 zV g G/\zV G H/\zV B H/\(∀p,B p≠none->G p=g p)/\(∀c∈cs,B c.1=none/\G c.1=none/\∃vs,H c.1=some (.lst vs)/\zL G c.2 vs)/\(cs.map (·.1)).Nodup/\Xw G ds
def Sta (B g H:Hp) (cs:xg) (ds:Dat):Prop:=∃G,KW B g H cs ds G
structure Grow (G H G' H':Hp):Prop where
 h:zV H H'
 g:zV G G'
 sub:zV G' H'
 old:∀p,H p≠none->G' p=G p
def Xw.mono (h:Xw G ds) (e:zV G G'):Xw G' ds:=λp hp=>Is.mono e _ _ (h p hp)
def Xw.cons (h:Xw G ds) (g:Is G x v):Xw G ((x,v)::ds):=λp hp=>by
 rcases Qn.mp hp with rfl|hp
 ·exact g
 ·exact h p hp
def Has.int:Has ds (.int i) (.int i):=λ_ _=>by rw [Is]
def Has.non:Has ds .none .non:=λ_ _=>by rw [Is]
def Has.str:Has ds (.str i) (.str i):=λ_ _=>by rw [Is]
def Has.mem (h:(x,v)∈ds):Has ds x v:=λ_ a=>a _ h
def Has.weak (h:Has ds x v) (k:∀p∈ds,Has ds' p.1 p.2):Has ds' x v:=λG a=>h G λp hp=>k p hp G a
def Has.tail (h:Has ds x v):Has (p::ds) x v:=h.weak λq g=> .mem (Qf _ g)
def yy.nil:yy ds [] []:=λ_ _=>by rw [zL]
def yy.cons (h:Has ds x v) (g:yy ds xs vs):yy ds (x::xs) (v::vs):=λG a=>by
 rw [zL];exact ⟨v,vs,rfl,h G a,g G a⟩
theorem zL.len:∀{xs:List PyData} {vs:List V},zL H xs vs->xs.length=vs.length
 |[],vs,h=>by rw [zL] at h;subst h;rfl
 |x::xs,vs,h=>by
  rw [zL] at h;obtain ⟨v,r,rfl,_,g⟩:=h;rw [Qy,Qy,zL.len g]
theorem zL.at:∀{xs:List PyData} {vs:List V} {i:Nat} {x:PyData},zL H xs vs->xs[i]? =some x->∃v,vs[i]? =some v/\Is H x v
 |[],_,_,_,_,e=>by simp at e
 |y::xs,vs,i,x,h,e=>by
  rw [zL] at h;obtain ⟨v,r,rfl,m,g⟩:=h
  cases i with
  |zero=>simp at e;subst e;exact ⟨v,rfl,m⟩
  |succ i=>simpa using zL.at g ‹e›
theorem zL.app:∀{xs ys:List PyData} {vs ws:List V},zL H xs vs->zL H ys ws->zL H (xs++ys) (vs++ws)
 |[],ys,vs,ws,h,g=>by rw [zL] at h;subst h;exact g
 |x::xs,ys,vs,ws,h,g=>by
  rw [zL] at h;obtain ⟨v,r,rfl,p,m⟩:=h;rw [TB,TB,zL];exact ⟨v,_,rfl,p,zL.app m g⟩
def Zz:zL H xs vs↔xs.length=vs.length/\∀(i:Nat) (x:PyData) (v:V),xs[i]? =some x->vs[i]? =some v->Is H x v:=by
 constructor
 ·intro h;refine ⟨h.len,λi x v m p=>?_⟩;obtain ⟨w,hw,g⟩:=h.at m;rw [p] at hw;cases hw;exact g
 ·rintro ⟨r,q⟩
  have:=uB (λ_ _ z=>z) r q
  simpa using this
def zL.take (h:zL H xs vs) (n:Nat):zL H (xs.take n) (vs.take n):=by
 rw [Zz] at h⊢;refine ⟨by rw [jad,jad,h.1],λi x v g m=>?_⟩;rw [List.getElem?_take] at g m
 split at g
 ·rename_i c;rw [QH c] at m;exact h.2 i x v g m
 ·cases g
def zL.drop (h:zL H xs vs) (n:Nat):zL H (xs.drop n) (vs.drop n):=by
 rw [Zz] at h⊢;refine ⟨by rw [TR,TR,h.1],λi x v g m=>?_⟩;rw [jax] at g m;exact h.2 _ x v g m
def zL.set (h:zL H xs vs) (g:Is H x v) (n:Nat):zL H (xs.set n x) (vs.set n v):=by
 rw [Zz] at h⊢;refine ⟨by rw [jaH,jaH,h.1],λi y w p m=>?_⟩;rw [List.getElem?_set] at p m;rw [<-h.1] at m
 split at p
 ·rename_i c;rw [QH c] at m
  split at p
  ·rename_i q;rw [QH q] at m;cases p;cases m;exact g
  ·cases p
 ·rename_i c;rw [QS c] at m;exact h.2 i y w p m
section
def Sta.enter (e:zV G H) (h:Xw G ds):Sta H G H [] ds:=
 ⟨G,zV.refl _,e,zV.refl _,λ_ _=>rfl,λc g=>absurd g (Qp),List.nodup_nil,h⟩
def Sta.base (S:Sta B G0 H cs ds):zV B H:=by
 obtain ⟨_,_,_,b,_⟩:=S;exact b
def Sta.push (S:Sta B G0 H cs ds) (h:Has ds x v):Sta B G0 H cs ((x,v)::ds):=by
 obtain ⟨G,a,b,c,d,e,f,g⟩:=S;exact ⟨G,a,b,c,d,e,f,g.cons (h G g)⟩
def Sta.weak (S:Sta B G0 H cs ds) (m:cs'.Sublist cs) (hd:∀p∈ds',Has ds p.1 p.2):Sta B G0 H cs' ds':=by
 obtain ⟨G,a,b,c,d,e,f,g⟩:=S;exact ⟨G,a,b,c,d,λq r=>e q (m.subset r),f.sublist (m.map _),λp hp=>hd p hp G g⟩
def Sta.dat (S:Sta B G0 H cs ds) (hd:∀p∈ds',Has ds p.1 p.2):Sta B G0 H cs ds':=S.weak (jbn _) hd
def Sta.drop1 (S:Sta B G0 H cs (q::ds)):Sta B G0 H cs ds:=S.dat λp hp=> .mem (Qf _ hp)
def Sta.dropC (S:Sta B G0 H (q::cs) ds):Sta B G0 H cs ds:=S.weak (List.sublist_cons_self _ _) λp hp=> .mem hp
def Sta.permC (S:Sta B G0 H cs ds) (h:cs.Perm cs'):Sta B G0 H cs' ds:=by
 obtain ⟨G,a,b,c,d,e,f,g⟩:=S;exact ⟨G,a,b,c,d,λq m=>e q (h.mem_iff.mpr m),(h.map _).nodup_iff.mp f,g⟩
def Sta.swap (S:Sta B G0 H (m::g::cs) ds):Sta B G0 H (g::m::cs) ds:=S.permC (List.Perm.swap _ _ _)
def Sta.same (S:Sta B G0 H cs ds) (h:zV H H'):Sta B G0 H' cs ds:=
 let ⟨G,a,b,c,d,e,f,g⟩:=S;⟨G,a,b.trans h,c.trans h,d,λq m=>let ⟨x,y,vs,z,u⟩:=e q m;⟨x,y,vs,h _ _ z,u⟩,f,g⟩
def KW.grow (S:KW B G0 H cs ds G) (h:Grow G H G' H'):KW B G0 H' cs ds G':=by
 obtain ⟨a,b,c,d,e,f,g⟩:=S;refine ⟨a.trans h.g,h.sub,c.trans h.h,λp hp=>?_,λq m=>?_,f,g.mono h.g⟩
 ·rw [h.old p λz=>?_,d p hp]
  cases hb:B p with
  |none=>exact hp hb
  |some o=>rw [c _ _ hb] at z;cases z
 ·obtain ⟨x,y,vs,z,u⟩:=e q m;exact ⟨x,by rw [h.old q.1 (by rw [z];simp)];exact y,vs,h.h _ _ z,zL.mono h.g _ _ u⟩
def Sta.leave (S:Sta H G H' cs ds):∃m,Grow G H m H'/\Xw m ds:=by
 obtain ⟨m,a,b,c,d,_,_,g⟩:=S;exact ⟨m,⟨c,a,b,d⟩,g⟩
def Sta.newT (S:Sta B G0 H cs ds) (hp:H p=none) (h:yy ds xs vs):Sta B G0 (upd H p (.tup vs)) cs ((.tuple xs, .ref p)::ds):=by
 obtain ⟨G,a,b,c,d,e,f,g⟩:=S;have t:G p=none:=b.free hp;have s:=zV.new t (.tup vs);refine ⟨upd G p (.tup vs),a.trans s,λq o m=>?_,c.trans (zV.new hp _),λq m=>?_,λq m=>?_,f,(g.mono s).cons ?_⟩
 ·by_cases r:q=p
  ·subst r;rw [yU] at m⊢;exact m
  ·rw [ym r] at m⊢;exact b _ _ m
 ·have r:q≠p:=λz=>by subst z;exact m (c.free hp)
  rw [ym r];exact d q m
 ·obtain ⟨x,y,ws,z,u⟩:=e q m;have r:q.1≠p:=yn z hp;exact ⟨x,by rw [ym r];exact y,ws,by rw [ym r];exact z,zL.mono s _ _ u⟩
 ·rw [Is];exact ⟨p,vs,rfl,yU,zL.mono s _ _ (h G g)⟩
def Sta.newL (S:Sta B G0 H cs ds) (hp:H p=none) (h:yy ds xs vs):Sta B G0 (upd H p (.lst vs)) ((p,xs)::cs) ds:=by
 obtain ⟨G,a,b,c,d,e,f,g⟩:=S;have s:G p=none:=b.free hp;refine ⟨G,a,b.trans (zV.new hp _),c.trans (zV.new hp _),d,λq m=>?_,?_,g⟩
 ·rcases Qn.mp m with rfl|m
  ·exact ⟨c.free hp,s,vs,yU,h G g⟩
  ·obtain ⟨x,y,ws,z,u⟩:=e q m;have r:q.1≠p:=yn z hp;exact ⟨x,y,ws,by rw [ym r];exact z,u⟩
 ·rw [Qk,TX];refine ⟨λz=>?_,f⟩;obtain ⟨q,m,r⟩:=Qi.mp z;obtain ⟨_,_,ws,z,_⟩:=e q m;rw [r,hp] at z;cases z
def Sta.freeze (S:Sta B G0 H ((D,xs)::cs) ds):Sta B G0 H cs ((.list xs, .ref D)::ds):=by
 obtain ⟨G,a,b,c,d,e,f,g⟩:=S;obtain ⟨x,y,vs,z,u⟩:=e _ (Qe ..);have r:=zV.new y (.lst vs);rw [Qk,TX] at f;refine ⟨upd G D (.lst vs),a.trans r,λq o m=>?_,c,λq m=>?_,λq m=>?_,f.2,(g.mono r).cons ?_⟩
 ·by_cases p:q=D
  ·subst p;rw [yU] at m;rw [<-m];exact z
  ·rw [ym p] at m;exact b _ _ m
 ·have p:q≠D:=λz=>by subst z;exact m x
  rw [ym p];exact d q m
 ·obtain ⟨w,t,ws,s,A⟩:=e q (Qf _ m);have p:q.1≠D:=λz=>f.1 (Qi.mpr ⟨q,m,z⟩);exact ⟨w,by rw [ym p];exact t,ws,s,zL.mono r _ _ A⟩
 ·rw [Is];exact ⟨D,vs,rfl,yU,zL.mono r _ _ u⟩
def Sta.cell (S:Sta B G0 H cs ds) (h:(D,xs)∈cs):∃vs,H D=some (.lst vs)/\xs.length=vs.length/\∀(i:Nat) (x:PyData),xs[i]? =some x->∃v,vs[i]? =some v/\Sta B G0 H cs ((x,v)::ds):=by
 obtain ⟨G,a,b,c,d,e,f,g⟩:=S;obtain ⟨_,_,vs,z,u⟩:=e _ h;refine ⟨vs,z,u.len,λi x m=>?_⟩;obtain ⟨v,p,k⟩:=u.at m;exact ⟨v,p,G,a,b,c,d,e,f,g.cons k⟩
def Sta.put (S:Sta B G0 H ((D,xs)::cs) ds):∃vs,H D=some (.lst vs)/\xs.length=vs.length/\∀ys ws,(∀G,Xw G ds->zL G xs vs->zL G ys ws)->Sta B G0 (upd H D (.lst ws)) ((D,ys)::cs) ds:=by
 obtain ⟨G,a,b,c,d,e,f,g⟩:=S;obtain ⟨x,y,vs,z,u⟩:=e _ (Qe ..);refine ⟨vs,z,u.len,λys ws h=>?_⟩
 have key:∀{A:Hp},zV A H->A D=none->zV A (upd H D (.lst ws)):=λ{A} s n q o m=>by
  rw [ym (yn m n)];exact s _ _ m
 have r:=f;rw [Qk,TX] at r;refine ⟨G,a,key b y,key c x,d,λq m=>?_,f,g⟩
 rcases Qn.mp m with rfl|m
 ·exact ⟨x,y,ws,yU,h G g u⟩
 ·obtain ⟨C,w,p,t,I⟩:=e q (Qf _ m);have J:q.1≠D:=λz=>r.1 (Qi.mpr ⟨q,m,z⟩);exact ⟨C,w,p,by rw [ym J];exact t,I⟩
def Sta.tup (S:Sta B G0 H cs ds) (h:Has ds (.tuple xs) v):∃p vs,v= .ref p/\H p=some (.tup vs)/\xs.length=vs.length/\∀(i:Nat) (x:PyData),xs[i]? =some x->∃w,vs[i]? =some w/\Sta B G0 H cs ((x,w)::ds):=by
 obtain ⟨G,a,b,c,d,e,f,g⟩:=S;have q:=h G g;rw [Is] at q;obtain ⟨p,vs,m,hp,u⟩:=q;refine ⟨p,vs,m,b _ _ hp,u.len,λi x r=>?_⟩;obtain ⟨v,m,k⟩:=u.at r;exact ⟨v,m,G,a,b,c,d,e,f,g.cons k⟩
def Sta.lst (S:Sta B G0 H cs ds) (h:Has ds (.list xs) v):∃p vs,v= .ref p/\H p=some (.lst vs)/\xs.length=vs.length/\∀(i:Nat) (x:PyData),xs[i]? =some x->∃w,vs[i]? =some w/\Sta B G0 H cs ((x,w)::ds):=by
 obtain ⟨G,a,b,c,d,e,f,g⟩:=S;have q:=h G g;rw [Is] at q;obtain ⟨p,vs,m,hp,u⟩:=q;refine ⟨p,vs,m,b _ _ hp,u.len,λi x r=>?_⟩;obtain ⟨v,m,k⟩:=u.at r;exact ⟨v,m,G,a,b,c,d,e,f,g.cons k⟩
def Sta.tupAll (S:Sta B G0 H cs ds) (h:Has ds (.tuple xs) v):∃p vs,v= .ref p/\H p=some (.tup vs)/\xs.length=vs.length/\Sta B G0 H cs (xs.zip vs++ds)/\∀G,Xw G (xs.zip vs++ds)->zL G xs vs:=by
 obtain ⟨G,a,b,c,d,e,f,g⟩:=S;have q:=h G g;rw [Is] at q;obtain ⟨p,vs,r,hp,u⟩:=q;refine ⟨p,vs,r,b _ _ hp,u.len,⟨G,a,b,c,d,e,f,λq m=>?_⟩,λy w=>?_⟩
 ·rcases QW.mp m with m|m
  ·obtain ⟨i,s⟩:=Qv.mp m;rw [Tr] at s;exact (Zz.mp u).2 i _ _ s.1 s.2
  ·exact g q m
 ·refine Zz.mpr ⟨u.len,λi x v t r=>?_⟩;exact w (x,v) (jai _ (Qv.mpr ⟨i,Tr.mpr ⟨t,r⟩⟩))
def Sta.lstAll (S:Sta B G0 H cs ds) (h:Has ds (.list xs) v):∃p vs,v= .ref p/\H p=some (.lst vs)/\xs.length=vs.length/\Sta B G0 H cs (xs.zip vs++ds)/\∀G,Xw G (xs.zip vs++ds)->zL G xs vs:=by
 obtain ⟨G,a,b,c,d,e,f,g⟩:=S;have q:=h G g;rw [Is] at q;obtain ⟨p,vs,r,hp,u⟩:=q;refine ⟨p,vs,r,b _ _ hp,u.len,⟨G,a,b,c,d,e,f,λq m=>?_⟩,λy w=>?_⟩
 ·rcases QW.mp m with m|m
  ·obtain ⟨i,s⟩:=Qv.mp m;rw [Tr] at s;exact (Zz.mp u).2 i _ _ s.1 s.2
  ·exact g q m
 ·refine Zz.mpr ⟨u.len,λi x v t r=>?_⟩;exact w (x,v) (jai _ (Qv.mpr ⟨i,Tr.mpr ⟨t,r⟩⟩))
def Sta.cellAll (S:Sta B G0 H cs ds) (h:(D,xs)∈cs):∃vs,H D=some (.lst vs)/\xs.length=vs.length/\Sta B G0 H cs (xs.zip vs++ds)/\∀G,Xw G (xs.zip vs++ds)->zL G xs vs:=by
 obtain ⟨G,a,b,c,d,e,f,g⟩:=S;obtain ⟨_,_,vs,z,u⟩:=e _ h;refine ⟨vs,z,u.len,⟨G,a,b,c,d,e,f,λq m=>?_⟩,λw t=>?_⟩
 ·rcases QW.mp m with m|m
  ·obtain ⟨i,p⟩:=Qv.mp m;rw [Tr] at p;exact (Zz.mp u).2 i _ _ p.1 p.2
  ·exact g q m
 ·refine Zz.mpr ⟨u.len,λi x v r s=>?_⟩;exact t (x,v) (jai _ (Qv.mpr ⟨i,Tr.mpr ⟨r,s⟩⟩))
def Sta.hp (S:Sta B G0 H cs ds) (h:Has ds x v):Is H x v:=by
 obtain ⟨G,a,b,c,d,e,f,g⟩:=S;exact Is.mono b _ _ (h G g)
def Sta.hpC (S:Sta B G0 H cs ds) (h:(D,xs)∈cs):Is H (.list xs) (.ref D):=by
 obtain ⟨G,a,b,c,d,e,f,g⟩:=S;obtain ⟨_,_,vs,z,u⟩:=e _ h;rw [Is];exact ⟨D,vs,rfl,z,zL.mono b _ _ u⟩
end
def mkD (D:Ends) (u:L2.St->Hp->Prop):Ends:={D with nx:=u}
def mkL (D:Ends) (u:L2.St->Hp->Prop):Ends:={D with nx:=u,ct:=u,bk:=D.nx}
def endD (Q:VK):Ends:={nx:=λ_ H'=>Q .non H',rt:=Q}
section
variable {B G0 H:Hp} {cs:xg} {ds:Dat} {σ:L2.St} {Q:VK} {x y:PyData} {v w:V} {xs:List PyData} {vs:List V} {K:Frg}
def rd_seq (h:t (mkD D (u D)) σ H):tSeq t u D σ H:=h
def rd_asg (h:te σ H λx H1=>g x σ H1 D.nx):Li te g D σ H:=h
def zI (h:N (σ.set i (some v)) H):nk i v σ H N:=h
def mw {t:TS} (h:t (endD Q) σ H):t {nx:=λ_ H'=>Q .non H',rt:=Q} σ H:=h
def vX (h:u σ H):Ends.nx (mkD D u) σ H:=h
def rd_rt (h:Ends.rt D v H):Ends.rt (mkD D u) v H:=h
def rd_nx0 (h:Q .non H):Ends.nx (endD Q) σ H:=h
def Im (h:Q v H):Ends.rt (endD Q) v H:=h
def rd_nxL (h:u σ H):Ends.nx (mkL D u) σ H:=h
def rd_rtL (h:Ends.rt D v H):Ends.rt (mkL D u) v H:=h
def Jx (h:D.nx σ H):tNext D σ H:=h
def rd_ret (h:te σ H D.rt):tRet te D σ H:=h
def rd_drop (h:te σ H λ_ H1=>D.nx σ H1):tDrop te D σ H:=h
def rd_if (h:c σ H λb H1=>if b=true then t D σ H1 else u D σ H1):tIfS c t u D σ H:=h
def rd_var (e:σ[i]? =some (some v)) (h:Q v H):tVar i σ H Q:=⟨v,e,h⟩
def rd_c (h:Q v H):tC v σ H Q:=h
def rd_op (h:ta σ H λx H1=>tb σ H1 λy g=>r x y g Q):tOp r ta tb σ H Q:=h
def rd_un (h:ta σ H λx H1=>r x H1 Q):tUn r ta σ H Q:=h
def rd_rI0 (h:Q (g i j) H):rI0 g (.int i) (.int j) H Q:=⟨i,j,rfl,rfl,h⟩
def rd_mulB (c:IntMulOk i j) (h:Q (.int (i*j)) H):rI IntMulOk (λi j=> .int (i*j)) (.int i) (.int j) H Q:=⟨i,j,rfl,rfl,c,h⟩
def rd_modL (c:0<j) (h:Q (.int (i % j)) H):rI (λ_ j=>0<j) (λi j=> .int (i % j)) (.int i) (.int j) H Q:=⟨i,j,rfl,rfl,c,h⟩
def rd_modN (c:j≠0) (h:Q (.int (i.fmod j)) H):rI (λ_ j=>j≠0) (λi j=> .int (i.fmod j)) (.int i) (.int j) H Q:=⟨i,j,rfl,rfl,c,h⟩
def rd_fdivL (c:CDiv i j) (h:Q (.int (i / j)) H):rI CDiv (λi j=> .int (i / j)) (.int i) (.int j) H Q:=⟨i,j,rfl,rfl,c,h⟩
def rd_fdivB (c:CDv i j) (h:Q (.int (i.fdiv j)) H):rI CDv (λi j=> .int (i.fdiv j)) (.int i) (.int j) H Q:=⟨i,j,rfl,rfl,c,h⟩
def rd_pow (c:CPow i j) (h:Q (.int (i ^ j.toNat)) H):rI CPow (λi j=> .int (i ^ j.toNat)) (.int i) (.int j) H Q:=⟨i,j,rfl,rfl,c,h⟩
def rd_rU (h:Q (g i) H):rU g (.int i) H Q:=⟨i,rfl,h⟩
def rd_test (h:t σ H λx H'=>∃k,x= .bl k/\R k H'):tTest t σ H R:=h
def rd_tB (h:t σ H λx H'=>∃k,x= .bl k/\R k H'):tB t σ H R:=h
def rd_isbl {k:Bool} {R:Bool->Prop} (h:R k):∃g,V.bl k= .bl g/\R g:=⟨k,rfl,h⟩
def rd_not (h:t σ H λc H1=>R (!c) H1):tNot t σ H R:=h
def rd_and (h:t σ H λc H1=>if c=true then u σ H1 R else R false H1):tAnd t u σ H R:=h
def rd_or (h:t σ H λc H1=>if c=true then R true H1 else u σ H1 R):tOr t u σ H R:=h
def rd_andV (h:ta σ H λx H1=>∃c,x= .bl c/\if c=true then tb σ H1 Q else Q (.bl false) H1):tAndV ta tb σ H Q:=h
def rd_notV (h:ta σ H λx H1=>∃c,x= .bl c/\Q (.bl (!c)) H1):tNotV ta σ H Q:=h
def rd_nil (h:R [] H):tNil σ H R:=h
def rd_cons (h:ta σ H λx H1=>tr σ H1 λxs g=>R (x::xs) g):tCons ta tr σ H R:=h
def rd_call (h:t σ H λvs H1=>sp vs H1 Q E):vK sp [] E t σ H Q:=by
 unfold vK
 simpa only [jaX] using h
def rd_cb (h:t σ H λvs H1=>r vs H1 Q):tCB r t σ H Q:=h
def rd_aug (e:σ[i]? =some (some v)) (h:te σ H λy H1=>ti v y H1 λz g=>D.nx (σ.set i (some z)) g):tAug i te ti D σ H:=⟨v,e,h⟩
def rd_ipI (h:Q (.int (f i j)) H):ipI f (.int i) (.int j) H Q:=⟨i,j,rfl,rfl,h⟩
def rd_par (h:ta σ H λvs H1=>∃v w,vs=[v,w]/\D.nx ((σ.set i (some v)).set j (some w)) H1):tPar i j ta D σ H:=h
def rd_is2 {R:V->V->Prop} (h:R v w):∃m g,[v,w]=[m,g]/\R m g:=⟨v,w,rfl,h⟩
def rEqA:R2:=λx y H Q=>rEq x y H Q\/rEqD x y H Q
def rNeA:R2:=λx y H Q=>rNe x y H Q\/rNeD x y H Q
def op_eqA (g:X.A.units+64<cLine):OpR X (compareOp .Eq) rEqA:=op_eq.or (op_eqD g)
def op_neA (g:X.A.units+64<cLine):OpR X (compareOp .NotEq) rNeA:=op_ne.or (op_neD g)
def Vq {a b:Prop} [Decidable a] [Decidable b] (h:a↔b):decide a=decide b:=by
 by_cases ha:a
 ·rw [Te ha,Te (h.mp ha)]
 ·rw [TF ha,TF (λz=>ha (h.mpr z))]
def rd_eqI (h:Q (.bl (decide (i=j))) H):rEqA (.int i) (.int j) H Q:= .inl ⟨rfl,by
 rw [Vq (show V.int i=V.int j↔i=j from ⟨V.int.inj,congrArg _⟩)];exact h⟩
def rd_neI (h:Q (.bl (!decide (i=j))) H):rNeA (.int i) (.int j) H Q:= .inl ⟨rfl,by
 rw [Vq (show V.int i=V.int j↔i=j from ⟨V.int.inj,congrArg _⟩)];exact h⟩
def rd_eqB (h:Q (.bl (decide (i=j))) H):rEqA (.bl i) (.bl j) H Q:= .inl ⟨rfl,by
 rw [Vq (show V.bl i=V.bl j↔i=j from ⟨V.bl.inj,congrArg _⟩)];exact h⟩
def Cn (m:Is H x v) (g:Is H y w) (s1:SeqAt.shaped x=true) (s2:SeqAt.shaped y=true) (h:Q (.bl (PyData.eqv x y)) H):rEqA v w H Q:= .inr ⟨x,y,m,g,s1,s2,h⟩
def Ce (m:Is H x v) (g:Is H y w) (s1:SeqAt.shaped x=true) (s2:SeqAt.shaped y=true) (h:Q (.bl (!PyData.eqv x y)) H):rNeA v w H Q:= .inr ⟨x,y,m,g,s1,s2,h⟩
def kTup (Q:VK) (xs:List V) (H:Hp):Prop:=xs.length<=sizeLine/\∀p,H p=none->Q (.ref p) (upd H p (.tup xs))
def kLst (Q:VK) (xs:List V) (H:Hp):Prop:=xs.length<=sizeLine/\∀p,H p=none->Q (.ref p) (upd H p (.lst xs))
def rd_tup (h:t σ H (kTup Q)):tTup t σ H Q:=h
def rd_lst (h:t σ H (kLst Q)):tLst t σ H Q:=h
def rd_kTup (S:Sta B G0 H cs ds) (h:yy ds xs vs) (g:vs.length<=1000) (k:∀p H',zV H H'->Sta B G0 H' cs ((.tuple xs, .ref p)::ds)->Q (.ref p) H'):kTup Q vs H:=
 ⟨jbO (WR g),λp hp=>k p _ (zV.new hp _) (S.newT hp h)⟩
def JD (S:Sta B G0 H cs ds) (h:yy ds xs vs) (g:vs.length<=1000) (k:∀p H',zV H H'->Sta B G0 H' ((p,xs)::cs) ds->Q (.ref p) H'):kLst Q vs H:=
 ⟨jbO (WR g),λp hp=>k p _ (zV.new hp _) (S.newL hp h)⟩
def EF {α β:Type} {xs:List α} {ys:List β} {i:Int} {x:α} (m:xs.length=ys.length) (h:atI xs i=some x):∃j:Nat,xs[j]? =some x/\∀y,ys[j]? =some y->atI ys i=some y:=by
 unfold atI at h⊢;rw [<-m]
 cases e:ixN xs.length i with
 |none=>rw [e] at h;cases h
 |some j=>rw [e] at h;exact ⟨j,h,λy g=>g⟩
def pf {i:Int} (S:Sta B G0 H cs ds) (m:Has ds (.tuple xs) v) (s:atI xs i=some x) (k:∀w,Sta B G0 H cs ((x,w)::ds)->Q w H):rIx K v (.int i) H Q:=by
 obtain ⟨p,vs,rfl,hp,q,z⟩:=S.tup m;obtain ⟨j,r,g⟩:=EF q s;obtain ⟨w,hw,t⟩:=z j x r;exact .inr (.inl ⟨p,vs,i,w,rfl,rfl,SqT.of hp,g _ hw,k w t⟩)
def Sta.top {n:PyData} (S:Sta B G0 H cs ((n,v)::ds)):Is H n v:=S.hp (.mem (Qe ..))
def rd_ixTI {i n:Int} (S:Sta B G0 H cs ds) (g:Has ds (.tuple xs) v) (m:atI xs i=some (.int n)) (k:Q (.int n) H):rIx K v (.int i) H Q:=
 pf S g m λw p=>by have:=p.top;rw [Is] at this;subst this;exact k
def zW {i:Int} (S:Sta B G0 H cs ds) (m:Has ds (.list xs) v) (s:atI xs i=some x) (k:∀w,Sta B G0 H cs ((x,w)::ds)->Q w H):rIx K v (.int i) H Q:=by
 obtain ⟨p,vs,rfl,hp,q,z⟩:=S.lst m;obtain ⟨j,r,g⟩:=EF q s;obtain ⟨w,hw,t⟩:=z j x r;exact .inl ⟨p,vs,i,w,rfl,rfl,SqL.of hp,g _ hw,k w t⟩
def YM {i n:Int} (S:Sta B G0 H cs ds) (g:Has ds (.list xs) v) (m:atI xs i=some (.int n)) (k:Q (.int n) H):rIx K v (.int i) H Q:=
 zW S g m λw p=>by have:=p.top;rw [Is] at this;subst this;exact k
def YN {i:Int} {L:Addr} (S:Sta B G0 H cs ds) (m:(L,xs)∈cs) (r:atI xs i=some x) (k:∀w,Sta B G0 H cs ((x,w)::ds)->Q w H):rIx K (.ref L) (.int i) H Q:=by
 obtain ⟨vs,hp,p,z⟩:=S.cell m;obtain ⟨j,q,g⟩:=EF p r;obtain ⟨w,hw,s⟩:=z j x q;exact .inl ⟨L,vs,i,w,rfl,rfl,SqL.of hp,g _ hw,k w s⟩
def JG {i n:Int} {L:Addr} (S:Sta B G0 H cs ds) (g:(L,xs)∈cs) (m:atI xs i=some (.int n)) (k:Q (.int n) H):rIx K (.ref L) (.int i) H Q:=
 YN S g m λw p=>by have:=p.top;rw [Is] at this;subst this;exact k
def rd_ixS {i:Int} {a:Addr} {ns:List Int} (g:SqL K H a (ns.map V.int)) (h0:0<=i) (m:i<(ns.length:Int)) (k:Q (.int (ns.getD i.toNat 0)) H):rIx K (.ref a) (.int i) H Q:=
 .inl ⟨a,_,i,_,rfl,rfl,g,HR h0 m,k⟩
def rLen (K:Frg):List V->Hp->VK->Prop:=λxs H Q=>∃p ys,xs=[.ref p]/\(SqL K H p ys\/SqT K H p ys)/\Q (.int ys.length) H
def qf:Vz X (.builtin "len") (rLen X.K):=qe
def rd_lenT (S:Sta B G0 H cs ds) (g:Has ds (.tuple xs) v) (k:Q (.int xs.length) H):rLen K [v] H Q:=by
 obtain ⟨p,vs,rfl,hp,m,_⟩:=S.tup g;exact ⟨p,vs,rfl, .inr (SqT.of hp),by rw [<-m];exact k⟩
def rd_lenL (S:Sta B G0 H cs ds) (g:Has ds (.list xs) v) (k:Q (.int xs.length) H):rLen K [v] H Q:=by
 obtain ⟨p,vs,rfl,hp,m,_⟩:=S.lst g;exact ⟨p,vs,rfl, .inl (SqL.of hp),by rw [<-m];exact k⟩
def rd_lenC (S:Sta B G0 H cs ds) (g:(L,xs)∈cs) (k:Q (.int xs.length) H):rLen K [.ref L] H Q:=by
 obtain ⟨vs,hp,m,_⟩:=S.cell g;exact ⟨L,vs,rfl, .inl (SqL.of hp),by rw [<-m];exact k⟩
def JB {a:Addr} {ns:List Int} (g:SqL K H a (ns.map V.int)) (k:Q (.int ns.length) H):rLen K [.ref a] H Q:=
 ⟨a,_,rfl, .inl g,by rw [Qa];exact k⟩
def rAbs:List V->Hp->VK->Prop:=λxs H Q=>∃i,xs=[.int i]/\Q (.int (if i<0 then -i else i)) H
def call_absA:Vz X (.builtin "abs") rAbs:=Hz
def rd_abs (k:Q (.int (i.natAbs:Int)) H):rAbs [.int i] H Q:=⟨i,rfl,by
 rw [show (if i<0 then -i else i)=(i.natAbs:Int) by split<;>lia];exact k⟩
def rMin:List V->Hp->VK->Prop:=λxs H Q=>∃i j,xs=[.int i, .int j]/\Q (.int (if j<i then j else i)) H
def EA (g:X.calm=true):Vz X (.builtin "min") rMin:=EB g
def rd_min (k:Q (.int (min i j)) H):rMin [.int i, .int j] H Q:=⟨i,j,rfl,by
 rw [show (if j<i then j else i)=min i j by split<;>lia];exact k⟩
def rJ (K:Frg):List V->Hp->VK->Prop:=λxs H Q=>∃p ys,xs=[.ref p]/\(SqL K H p ys\/SqT K H p ys)/\∀l,H l=none->Q (.ref l) (upd H l (.lst ys))
def Ll:Vz X (.type "list") (rJ X.K):=qc
def uc (K:Frg):List V->Hp->VK->Prop:=λxs H Q=>∃p ys,xs=[.ref p]/\((SqL K H p ys/\∀l,H l=none->Q (.ref l) (upd H l (.tup ys)))\/(SqT K H p ys/\Q (.ref p) H))
def KJ:Vz X (.type "tuple") (uc X.K):=nA
def rd_listL (S:Sta B G0 H cs ds) (m:Has ds (.list xs) v) (k:∀l H',zV H H'->Sta B G0 H' ((l,xs)::cs) ds->Q (.ref l) H'):rJ K [v] H Q:=by
 obtain ⟨p,vs,rfl,hp,g,t,s⟩:=S.lstAll m;exact ⟨p,vs,rfl, .inl (SqL.of hp),λl g=>k l _ (zV.new g _) ((t.newL g s).dat λq r=> .mem (QG _ r))⟩
def rd_listT (S:Sta B G0 H cs ds) (m:Has ds (.tuple xs) v) (k:∀l H',zV H H'->Sta B G0 H' ((l,xs)::cs) ds->Q (.ref l) H'):rJ K [v] H Q:=by
 obtain ⟨p,vs,rfl,hp,g,t,s⟩:=S.tupAll m;exact ⟨p,vs,rfl, .inr (SqT.of hp),λl g=>k l _ (zV.new g _) ((t.newL g s).dat λq r=> .mem (QG _ r))⟩
def rd_tupleC (S:Sta B G0 H cs ds) (p:(L,xs)∈cs) (k:∀l H',zV H H'->Sta B G0 H' cs ((.tuple xs, .ref l)::ds)->Q (.ref l) H'):uc K [.ref L] H Q:=by
 obtain ⟨vs,hp,m,s,r⟩:=S.cellAll p
 exact ⟨L,vs,rfl, .inl ⟨SqL.of hp,λl m=>k l _ (zV.new m _) ((s.newT m r).dat λq g=> .mem (by
  rcases Qn.mp g with rfl|g
  ·exact Qe ..
  ·exact Qf _ (QG _ g)))⟩⟩
def kBM (K:Frg) (T:String) (r:V->List V->Hp->VK->Prop) (t:TA) (σ:L2.St) (Q:VK):VK:=λx H1=>tyV K T x H1/\t σ H1 λxs g=>r x xs g Q
def rd_bm (h:to σ H (kBM K T r t σ Q)):tBM K T r to t σ H Q:=h
def rd_kBM (S:Sta B G0 H cs ds) (g:(L,xs)∈cs) (h:t σ H λys m=>r (.ref L) ys m Q):kBM K "list" r t σ Q (.ref L) H:=by
 obtain ⟨vs,hp,p,_⟩:=S.cell g;exact ⟨.inl ⟨rfl,_,SqL.of hp⟩,h⟩
def yR (S:Sta B G0 H ((L,xs)::cs) ds) (g:Has ds y w) (m:xs.length<=1000) (k:∀H',Sta B G0 H' ((L,xs++[y])::cs) ds->Q .non H'):Ct (.ref L) [w] H Q:=by
 obtain ⟨vs,hp,p,put⟩:=S.put;exact ⟨L,vs,w,rfl,rfl,hp,WR ⋯,k _ (put _ _ λG a u=>u.app (by rw [zL];exact ⟨w,[],rfl,g G a,by rw [zL]⟩))⟩
def rF (S:Sta B G0 H ((L,xs)::cs) ds) (g:Has ds y w) (p:ixN xs.length i=some j) (k:∀H',Sta B G0 H' ((L,xs.set j y)::cs) ds->R H'):rSetL (.ref L) (.int i) w H R:=by
 obtain ⟨vs,hp,m,put⟩:=S.put;exact ⟨L,vs,i,j,rfl,rfl,hp,by rw [<-m];exact p,k _ (put _ _ λG a u=>u.set (g G a) j)⟩
def qb (xs:List PyData) (lo g:Option Int):List PyData:=(xs.drop (HT.sIx xs.length 0 lo)).take (HT.sIx xs.length xs.length g - HT.sIx xs.length 0 lo)
def oR {lo g:Option Int} (S:Sta B G0 H cs ds) (m:Has ds (.list xs) v) (k:∀l H',zV H H'->Sta B G0 H' ((l,qb xs lo g)::cs) ds->Q (.ref l) H'):rSlL K v lo g H Q:=by
 obtain ⟨p,vs,rfl,hp,s,u,t⟩:=S.lstAll m;refine ⟨p,vs,rfl,SqL.of hp,λl hn=>k l _ (zV.new hn _) ((u.newL hn λG a=>?_).dat λq r=> .mem (QG _ r))⟩;unfold qb IF;rw [s];exact ((t G a).drop _).take _
def oU {lo g:Option Int} {L:Addr} (S:Sta B G0 H cs ds) (m:(L,xs)∈cs) (k:∀l H',zV H H'->Sta B G0 H' ((l,qb xs lo g)::cs) ds->Q (.ref l) H'):rSlL K (.ref L) lo g H Q:=by
 obtain ⟨vs,hp,r,t,s⟩:=S.cellAll m;refine ⟨L,vs,rfl,SqL.of hp,λl hn=>k l _ (zV.new hn _) ((t.newL hn λG a=>?_).dat λq p=> .mem (QG _ p))⟩;unfold qb IF;rw [r];exact ((s G a).drop _).take _
end
def mulModOk (h:(0<m/\m<2 ^ 64)/\(0<n/\n<2 ^ 64)):IntMulOk (a % m) (b % n):=by
 have s:=jam a (show m≠0 by lia);have r:=jaa a h.1.1;have q:=jam b (show n≠0 by lia);have p:=jaa b h.2.1;have e:(2:Nat) ^ 64=18446744073709551616:=by decide
 have g:(2:Int) ^ 64=18446744073709551616:=by decide
 rw [g] at h;exact Sz.mulOk (by unfold Sz;rw [e];lia) (by unfold Sz;rw [e];lia) nofun
def iteNF {A B:Prop} (h:A):if (!false)=true then A else B:=h
def iteNT {A B:Prop} (h:B):if (!true)=true then A else B:=h
section
variable {B G0 H:Hp} {cs:xg} {ds:Dat} {Q:VK} {v:V} {K:Frg} {L M:Addr}
def FZ:R2:=λx y H Q=>rI0 (λi j=> .int (i+j)) x y H Q\/rCat x y H Q
def CA:OpR X (binaryOp .Add) FZ:=op_add.or op_cat
def rd_addI (h:Q (.int (i+j)) H):FZ (.int i) (.int j) H Q:= .inl ⟨i,j,rfl,rfl,h⟩
def Vw (B G0 H:Hp) (cs:xg) (ds:Dat) (L:Addr) (xs:List PyData):Prop:=∃vs,H L=some (.lst vs)/\∀G,KW B G0 H cs ds G->zL G xs vs
def Sta.vwL (S:Sta B G0 H cs ds) (h:Has ds (.list xs) (.ref L)):Vw B G0 H cs ds L xs:=by
 obtain ⟨G,S⟩:=S;have q:=h G S.2.2.2.2.2.2;rw [Is] at q;obtain ⟨p,vs,e,hp,u⟩:=q;cases e;have r:=S.2.1 _ _ hp;refine ⟨vs,r,λw m=>?_⟩;have q:=h w m.2.2.2.2.2.2;rw [Is] at q;obtain ⟨p,s,e,g,t⟩:=q;cases e;have:=m.2.1 _ _ g;rw [r] at this;cases this;exact t
def Sta.vwC (S:Sta B G0 H cs ds) (h:(L,xs)∈cs):Vw B G0 H cs ds L xs:=by
 obtain ⟨G,S⟩:=S;obtain ⟨_,_,vs,z,u⟩:=S.2.2.2.2.1 _ h;refine ⟨vs,z,λr q=>?_⟩;obtain ⟨_,_,m,g,p⟩:=q.2.2.2.2.1 _ h;rw [z] at g;cases g;exact p
def ZS (S:Sta B G0 H cs ds) (v1:Vw B G0 H cs ds L xs) (v2:Vw B G0 H cs ds M zs) (A:xs.length+zs.length<=1000)
 (k:∀p H',zV H H'->Sta B G0 H' ((p,xs++zs)::cs) ds->Q (.ref p) H'):FZ (.ref L) (.ref M) H Q:=by
 obtain ⟨us,I,w⟩:=v1;obtain ⟨ws,D,t⟩:=v2;obtain ⟨G,r⟩:=id S;refine .inr ⟨L,M,us,ws,rfl,rfl,I,D,jbO (WR (by rw [<-(w G r).len,<-(t G r).len];exact A)),λp hp=>k p _ (zV.new hp _) ?_⟩;obtain ⟨a,b,c,d,e,f,g⟩:=id r;have C:G p=none:=b.free hp;refine ⟨G,a,b.trans (zV.new hp _),c.trans (zV.new hp _),d,λq m=>?_,?_,g⟩
 ·rcases Qn.mp m with rfl|m
  ·exact ⟨c.free hp,C,_,yU,(w G r).app (t G r)⟩
  ·obtain ⟨x,y,ws,z,u⟩:=e q m;have s:q.1≠p:=yn z hp;exact ⟨x,y,ws,by rw [ym s];exact z,u⟩
 ·rw [Qk,TX];refine ⟨λz=>?_,f⟩;obtain ⟨q,m,s⟩:=Qi.mp z;obtain ⟨_,_,ws,z,_⟩:=e q m;rw [s,hp] at z;cases z
def rSum (K:Frg):List V->Hp->VK->Prop:=λxs H Q=>∃(p:Addr) (ns:List Int),xs=[.ref p]/\SqL K H p (ns.map V.int)/\Q (.int ns.sum) H
def call_sumA (C:X.calm=true):Vz X (.builtin "sum") (rSum X.K):=by
 intro pins s σ H xs us Q I r h;obtain ⟨p,ns,rfl,y,q⟩:=h;obtain ⟨u,rfl,t⟩:=eR r;cases t;obtain ⟨its,w,pl,_⟩:=I.list y;have g:=XJ w;obtain ⟨ys,e⟩:=g.allInts.items;have z:s.heap.IsList p (intItems ys):=e▸pl.isList;have m:ys.toList.map (·.1)=ns:=by rw [<-nums_intItems,<-e];exact g.numsOf
 refine sum_intListG (I.ok.hd C) z λh' tk t' A=>?_;refine ⟨.int ns.sum,H,I.kept A,⟨t',?_⟩,q⟩;rw [preSum_eq,m,Tv (by rw [<-m];simp)]
theorem yP:∀{ns:List Int} {vs:List V},zL G (ns.map PyData.int) vs->vs=ns.map V.int
 |[],vs,h=>by rw [TC,zL] at h;exact h
 |n::ns,vs,h=>by
  rw [Qk,zL] at h;obtain ⟨v,r,rfl,g,m⟩:=h;rw [Is] at g;subst g;rw [yP m,Qk]
def rd_sumC {ns:List Int} (S:Sta B G0 H cs ds) (h:(L,ns.map PyData.int)∈cs) (k:Q (.int ns.sum) H):rSum K [.ref L] H Q:=by
 obtain ⟨vs,hp,u⟩:=S.vwC h;obtain ⟨G,g⟩:=id S;rw [yP (u G g)] at hp;exact ⟨L,ns,rfl,SqL.of hp,k⟩
def rd_sumL {ns:List Int} (S:Sta B G0 H cs ds) (h:Has ds (.list (ns.map PyData.int)) v) (k:Q (.int ns.sum) H):rSum K [v] H Q:=by
 obtain ⟨p,vs,rfl,_⟩:=S.lst h;obtain ⟨vs,hp,u⟩:=S.vwL h;obtain ⟨G,g⟩:=id S;rw [yP (u G g)] at hp;exact ⟨_,ns,rfl,SqL.of hp,k⟩
end
def Ro (B g:Hp) (L:Addr) (xs:List PyData):Prop:=g L=none/\∃vs,B L=some (.lst vs)/\zL g xs vs
def Src (B g:Hp) (b:Bool) (K:Frg) (a:Addr) (xs:List PyData) (P:xg->Dat->Prop):Prop:=∀{H:Hp} {cs:xg} {ds:Dat},Sta B g H cs ds->P cs ds->
 ∃vs,SqB b K H a vs/\xs.length=vs.length/\∀(i:Nat) (x:PyData),xs[i]? =some x->∃v,vs[i]? =some v/\Sta B g H cs ((x,v)::ds)
structure Wk (B G0:Hp) (J:It) (xs:List PyData) (P:xg->Dat->Prop):Prop where
 go:∀{H:Hp} {cs:xg} {ds:Dat} {i:Nat},Sta B G0 H cs ds->P cs ds->i<xs.length->J.go i H
 stop:∀{H:Hp} {cs:xg} {ds:Dat} {i:Nat},Sta B G0 H cs ds->P cs ds->xs.length<=i->J.stop i H
 yld:∀{H H':Hp} {cs:xg} {ds:Dat} {i:Nat} {x:PyData} {v:V},Sta B G0 H cs ds->P cs ds->xs[i]? =some x->J.yld i H v H'->zV H H'/\Sta B G0 H' cs ((x,v)::ds)
section
variable {B G0 H:Hp} {cs:xg} {ds:Dat} {K:Frg} {a:Addr} {xs ys:List PyData} {P P':xg->Dat->Prop} {b c:Bool} {v:V}
def VB:Src B G0 true K a xs (λ_ ds=>Has ds (.list xs) (.ref a)):=λS h=>by
 obtain ⟨p,vs,e,hp,g,z⟩:=S.lst h;cases e;exact ⟨vs,SqL.of hp,g,z⟩
def fe:Src B G0 false K a xs (λ_ ds=>Has ds (.tuple xs) (.ref a)):=λS h=>by
 obtain ⟨p,vs,e,hp,g,z⟩:=S.tup h;cases e;exact ⟨vs,SqT.of hp,g,z⟩
def FC:Src B G0 true K a xs (λcs _=>(a,xs)∈cs):=λS h=>by
 obtain ⟨vs,hp,g,z⟩:=S.cell h;exact ⟨vs,SqL.of hp,g,z⟩
def AY (s:Src B G0 true K a xs P):Wk B G0 (Itl K a) xs P where
 go:=λ{H cs ds i} S h hi=>by
  obtain ⟨vs,q,g,_⟩:=s S h;exact ⟨vs,vs[i]'⋯,q,Qb _⟩
 stop:=λ{H cs ds i} S h hi=>by
  obtain ⟨vs,q,g,_⟩:=s S h;exact ⟨vs,q,⋯⟩
 yld:=λ{H H' cs ds i x v} S h hx y=>by
  obtain ⟨e,y⟩:=y;subst e;obtain ⟨vs,q,g,z⟩:=s S h;obtain ⟨w,hw,m⟩:=z i x hx;have:=y vs q;rw [hw] at this;cases this;exact ⟨zV.refl _,m⟩
def wk_tup (s:Src B G0 false K a xs P):Wk B G0 (Itt K a) xs P where
 go:=λ{H cs ds i} S h hi=>by
  obtain ⟨vs,q,g,_⟩:=s S h;exact ⟨vs,vs[i]'⋯,q,Qb _⟩
 stop:=λ{H cs ds i} S h hi=>by
  obtain ⟨vs,q,g,_⟩:=s S h;exact ⟨vs,q,⋯⟩
 yld:=λ{H H' cs ds i x v} S h hx y=>by
  obtain ⟨e,y⟩:=y;subst e;obtain ⟨vs,q,g,z⟩:=s S h;obtain ⟨w,hw,m⟩:=z i x hx;have:=y vs q;rw [hw] at this;cases this;exact ⟨zV.refl _,m⟩
def fZ (lo:Int) (n:Nat):List PyData:=(List.range n).map λi=> .int (lo+(i:Nat))
def yX (lo:Int) (n:Nat):(fZ lo n).length=n:=by unfold fZ;rw [Qa,jaE]
def Yf {lo:Int} {n i:Nat} {x:PyData} (h:(fZ lo n)[i]? =some x):i<n/\x= .int (lo+(i:Nat)):=by
 have g:i<n:=by have:=(Qd.mp h).1;rwa [yX] at this
 unfold fZ at h;rw [Qg,List.getElem?_range g] at h;exact ⟨g,(QJ h).symm⟩
def tE {lo:Int} {n:Nat}:Wk B G0 (Itr lo n) (fZ lo n) (λ_ _=>True) where
 go:=λ{H cs ds i} S h hi=>by rw [yX] at hi;exact hi
 stop:=λ{H cs ds i} S h hi=>by rw [yX] at hi;exact hi
 yld:=λ{H H' cs ds i x v} S h hx y=>by
  obtain ⟨e,y⟩:=y;obtain ⟨_,rfl⟩:=Yf hx;subst e y;exact ⟨zV.refl _,S.push Has.int⟩
def sD (xs:List PyData):List PyData:=xs.mapIdx λi x=> .tuple [.int (i:Nat),x]
def Zd (xs:List PyData):(sD xs).length=xs.length:=by unfold sD;rw [List.length_mapIdx]
def VL {xs:List PyData} {i:Nat} {y:PyData} (h:(sD xs)[i]? =some y):∃x,xs[i]? =some x/\y= .tuple [.int (i:Nat),x]:=by
 unfold sD at h;rw [List.getElem?_mapIdx] at h
 cases e:xs[i]? with
 |none=>rw [e] at h;cases h
 |some x=>rw [e] at h;exact ⟨x,rfl,(QJ h).symm⟩
def AZ (s:Src B G0 b K a xs P):Wk B G0 (ItE b K a) (sD xs) P where
 go:=λ{H cs ds i} S h hi=>by
  rw [Zd] at hi;obtain ⟨vs,q,g,_⟩:=s S h;exact ⟨vs,vs[i]'⋯,q,Qb _⟩
 stop:=λ{H cs ds i} S h hi=>by
  rw [Zd] at hi;obtain ⟨vs,q,g,_⟩:=s S h;exact ⟨vs,q,⋯⟩
 yld:=λ{H H' cs ds i x v} S h hx y=>by
  obtain ⟨x0,A,rfl⟩:=VL hx;obtain ⟨p,u,m,hp,rfl,rfl⟩:=y;obtain ⟨vs,q,g,z⟩:=s S h;obtain ⟨w,hw,t⟩:=z i x0 A;have:=m vs q;rw [hw] at this;cases this;refine ⟨zV.new hp _,(t.newT hp (.cons Has.int (.cons (.mem (Qe ..)) .nil))).dat λr hr=> .mem ?_⟩
  rcases Qn.mp hr with rfl|hr
  ·exact Qe ..
  ·exact Qf _ (Qf _ hr)
def Ib (xs ys:List PyData):List PyData:=List.zipWith (λx y=> .tuple [x,y]) xs ys
def yT (xs ys:List PyData):(Ib xs ys).length=min xs.length ys.length:=by unfold Ib;rw [QB]
def Yk {xs ys:List PyData} {i:Nat} {z:PyData} (h:(Ib xs ys)[i]? =some z):∃x y,xs[i]? =some x/\ys[i]? =some y/\z= .tuple [x,y]:=by
 unfold Ib at h;rw [Qr] at h
 cases e:xs[i]? with
 |none=>rw [e] at h;cases h
 |some x=>
  cases e2:ys[i]? with
  |none=>rw [e,e2] at h;cases h
  |some y=>rw [e,e2] at h;exact ⟨x,y,rfl,rfl,(QJ h).symm⟩
def AX {a2:Addr} (s:Src B G0 b K a xs P) (s2:Src B G0 c K a2 ys P'):Wk B G0 (ItZ b c K a a2) (Ib xs ys) (λcs ds=>P cs ds/\(∀x v,P' cs ds->P' cs ((x,v)::ds))/\P' cs ds) where
 go:=λ{H cs ds i} S h hi=>by
  rw [yT] at hi;obtain ⟨vs,q,D,_⟩:=s S h.1;obtain ⟨ws,g,G,_⟩:=s2 S h.2.2;exact ⟨vs,ws,vs[i]'⋯,ws[i]'⋯,q,g,Qb _,Qb _⟩
 stop:=λ{H cs ds i} S h hi=>by
  rw [yT] at hi;obtain ⟨vs,q,D,_⟩:=s S h.1;obtain ⟨ws,g,G,_⟩:=s2 S h.2.2;exact ⟨vs,ws,q,g,⋯⟩
 yld:=λ{H H' cs ds i x v} S h hx y=>by
  obtain ⟨x0,I,M,m,rfl⟩:=Yk hx;obtain ⟨p,u,O,J,A,hp,rfl,rfl⟩:=y;obtain ⟨vs,q,D,z⟩:=s S h.1;obtain ⟨w,hw,L⟩:=z i x0 M;obtain ⟨ws,g,G,z2⟩:=s2 L (h.2.1 _ _ h.2.2);obtain ⟨N,t,C⟩:=z2 i I m;have:=J vs q;rw [hw] at this;cases this;have:=A ws g;rw [t] at this;cases this;refine ⟨zV.new hp _,(C.newT hp (.cons (.mem (Qf _ (Qe ..))) (.cons (.mem (Qe ..)) .nil))).dat λr hr=> .mem ?_⟩
  rcases Qn.mp hr with rfl|hr
  ·exact Qe ..
  ·exact Qf _ (Qf _ (Qf _ hr))
def kIL (K:Frg) (R:It->Hp->Prop):VK:=λx H1=>∃a,x= .ref a/\(∃xs,SqL K H1 a xs)/\R (Itl K a) H1
def kIT (K:Frg) (R:It->Hp->Prop):VK:=λx H1=>∃a,x= .ref a/\(∃xs,SqT K H1 a xs)/\R (Itt K a) H1
def kR1 (R:It->Hp->Prop):List V->Hp->Prop:=λvs H1=>∃j:Int,vs=[.int j]/\ -(2 ^ 62)<=j/\j<2 ^ 62/\R (Itr 0 j.toNat) H1
def kR2 (R:It->Hp->Prop):List V->Hp->Prop:=λvs H1=>∃i j:Int,vs=[.int i, .int j]/\(-(2 ^ 62)<=i/\i<2 ^ 62/\ -(2 ^ 62)<=j/\j<2 ^ 62)/\R (Itr i (j - i).toNat) H1
def kEn (b:Bool) (K:Frg) (R:It->Hp->Prop):List V->Hp->Prop:=λvs H1=>∃a,vs=[.ref a]/\(∃xs,SqB b K H1 a xs)/\R (ItE b K a) H1
def kZi (b c:Bool) (K:Frg) (R:It->Hp->Prop):List V->Hp->Prop:=λvs H1=>∃a1 a2,vs=[.ref a1, .ref a2]/\(∃xs,SqB b K H1 a1 xs)/\(∃ys,SqB c K H1 a2 ys)/\R (ItZ b c K a1 a2) H1
section
variable {σ:L2.St} {R:It->Hp->Prop} {tl:TE} {ta:TA}
def rd_iList (h:tl σ H (kIL K R)):iList K tl σ H R:=h
def rd_iTup (h:tl σ H (kIT K R)):iTup K tl σ H R:=h
def rd_iR1 (h:ta σ H (kR1 R)):iRng1 ta σ H R:=h
def rd_iR2 (h:ta σ H (kR2 R)):iRng2 ta σ H R:=h
def rd_iEn (h:ta σ H (kEn b K R)):iEnum b K ta σ H R:=h
def rd_iZi (h:ta σ H (kZi b c K R)):iZip b c K ta σ H R:=h
def oZ (B G0:Hp) (m: -1000<=j) (g:j<=1000000) (k:∀J,Wk B G0 J (fZ 0 j.toNat) (λ_ _=>True)->R J H):kR1 R [.int j] H:=⟨j,rfl,⋯,⋯,k _ tE⟩
def Io (B G0:Hp) (m: -1000<=i/\i<=1000000) (g: -1000<=j/\j<=1000000) (k:∀J,Wk B G0 J (fZ i (j - i).toNat) (λ_ _=>True)->R J H):kR2 R [.int i, .int j] H:=⟨i,j,rfl,⟨⋯,⋯,⋯,⋯⟩,k _ tE⟩
end
def kGT (K:Frg) (n:Nat) (t:TGs) (σ:L2.St) (N:L2.St->Hp->Prop):VK:=λv H=>∃a xs,v= .ref a/\SqT K H a xs/\xs.length=n/\t xs σ H N
def xN (h:kGT K n t σ N v H):gTup K n t v σ H N:=h
def Ip (S:Sta B G0 H cs ds) (h:Has ds (.tuple xs) v) (hn:xs.length=n) (k:∀vs,xs.length=vs.length->Sta B G0 H cs (xs.zip vs++ds)->t vs σ H N):kGT K n t σ N v H:=by
 obtain ⟨p,vs,rfl,hp,g,m,_⟩:=S.tupAll h;exact ⟨p,vs,rfl,SqT.of hp,⋯,k vs g m⟩
def xM (S:Sta B G0 H cs ds) (h:Has ds (.tuple [x,y]) v) (k:∀m g,Sta B G0 H cs ((x,m)::(y,g)::ds)->t [m,g] σ H N):kGT K 2 t σ N v H:=by
 refine Ip S h rfl λvs p q=>?_
 rcases vs with _|⟨m,_|⟨g,_|⟨r,vs⟩⟩⟩<;>try cases p
 exact k m g q
def yV (h:t v σ H λσ' H'=>u vs σ' H' N):gCons t u (v::vs) σ H N:=⟨v,vs,rfl,h⟩
def Wt (h:N σ H):gNil [] σ H N:=⟨rfl,h⟩
def kFor (g:TG) (q:TS) (D:Ends) (σ:L2.St):It->Hp->Prop:=λJ H1=>∃W:Nat->Nat->L2.St->Hp->Prop,(∃m,W 0 m σ H1)/\∀i m σ H,W i m σ H->
 (J.stop i H/\D.nx σ H)\/(J.go i H/\∃N:L2.St->Hp->Prop,(∀σ' H',N σ' H'->∃p,p<m/\W (i+1) p σ' H')/\∀x H',J.yld i H x H'->g x σ H' λσ2 H2=>q {D with nx:=N,ct:=N,bk:=D.nx} σ2 H2)
def rd_for (h:wi σ H (kFor g tb D σ)):tFor wi g tb D σ H:=h
def AtP (B G0:Hp) (Pv:L2.St->xg->Dat->Prop):L2.St->Hp->Prop:=λσ H=>∃cs ds,Sta B G0 H cs ds/\Pv σ cs ds
def Zu (S:Sta B G0 H cs ds) (h:Pv σ cs ds):AtP B G0 Pv σ H:=⟨cs,ds,S,h⟩
def xX (w:Wk B G0 J xs P) (Pv:Nat->L2.St->xg->Dat->Prop) (S:Sta B G0 H cs ds) (h0:Pv 0 σ cs ds) (r:∀i σ cs ds,Pv i σ cs ds->P cs ds)
 (s:∀(i:Nat) (x:PyData) (v:V) (σ:L2.St) (H:Hp) (cs:xg) (ds:Dat),xs[i]? =some x->Pv i σ cs ds->Sta B G0 H cs ((x,v)::ds)->g v σ H λσ2 H2=>tb (mkL D (AtP B G0 (Pv (i+1)))) σ2 H2)
 (hd:∀(σ:L2.St) (H:Hp) (cs:xg) (ds:Dat),Pv xs.length σ cs ds->Sta B G0 H cs ds->D.nx σ H):kFor g tb D σ J H:=by
 refine ⟨λi m σ H=>m=xs.length - i/\i<=xs.length/\AtP B G0 (Pv i) σ H,⟨xs.length,by simp,jap _,cs,ds,S,h0⟩,?_⟩
 rintro i m σ H ⟨rfl,hi,cs,ds,S,p⟩
 by_cases q:i<xs.length
 ·refine .inr ⟨w.go S (r _ _ _ _ p) q,AtP B G0 (Pv (i+1)),λσ' H' p'=>⟨xs.length - (i+1),⋯,rfl,q,p'⟩,λx H' y=>?_⟩;exact s i _ x σ H' cs ds (Qb q) p (w.yld S (r _ _ _ _ p) (Qb q) y).2
 ·have e:i=xs.length:=⋯
  subst e;exact .inl ⟨w.stop S (r _ _ _ _ p) (Qu _),hd σ H cs ds p S⟩
def WP (B G0:Hp) (Pv:Nat->L2.St->xg->Dat->Prop):Nat->L2.St->Hp->Prop:=λm σ H=>AtP B G0 (Pv m) σ H
def kWh (W:Nat->L2.St->Hp->Prop) (p:TS) (D:Ends) (m:Nat) (σ:L2.St):Bool->Hp->Prop:=λb H1=>if b=true then ∃N:L2.St->Hp->Prop,(∀σ' H',N σ' H'->∃g,g<m/\W g σ' H')/\p {D with nx:=N,ct:=N,bk:=D.nx} σ H1 else D.nx σ H1
def vU (r:b=true->tb (mkL D (λσ' H'=>∃g,g<m/\W g σ' H')) σ H)
 (p:b=false->D.nx σ H):kWh W tb D m σ b H:=by
 cases b with
 |true=>exact ⟨_,λσ' H' q=>q,r rfl⟩
 |false=>exact p rfl
def qH {c:TT} {g:TS} {D:Ends} {σ:L2.St} (W:Nat->L2.St->Hp->Prop) (m:Nat) (h0:W m σ H) (p:∀(m:Nat) (σ:L2.St) (H:Hp),W m σ H->c σ H (kWh W g D m σ)):Bg c g D σ H:=⟨W,⟨m,h0⟩,p⟩
def nU {c:TT} {g:TS} {D:Ends} {σ:L2.St} (Pv:Nat->L2.St->xg->Dat->Prop) (m:Nat) (S:Sta B G0 H cs ds) (h0:Pv m σ cs ds)
 (q:∀(m:Nat) (σ:L2.St) (H:Hp) (cs:xg) (ds:Dat),Pv m σ cs ds->Sta B G0 H cs ds->c σ H (kWh (WP B G0 Pv) g D m σ)):Bg c g D σ H:=
 ⟨WP B G0 Pv,⟨m,cs,ds,S,h0⟩,λm σ H ⟨cs,ds,S,p⟩=>q m σ H cs ds p S⟩
def Hd (n:Nat) (fr:List Nat) (g:Blk TG) (tt:Blk TT) (w:Blk TE) (σ:L2.St) (Q:VK):It->Hp->Prop:=λJ H1=>∀D,H1 D=none->∀C ex s0 r,
 ∃W:Nat->Nat->List V->Hp->Prop,(∃m,W 0 m [] (upd H1 D (.lst [])))/\∀i m ys p,W i m ys p->p D=some (.lst ys)/\
  ((J.stop i p/\Q (.ref D) p)\/(J.go i p/\∀x u,J.yld i p x u->g C ex s0 r x (List.replicate n none++frσ σ fr) u λσ4 H4=>σ4.drop n=frσ σ fr/\tt C ex s0 r σ4 H4 λb t=>
    if b=true then w C ex s0 r σ4 t λy s=>s D=some (.lst ys)/\ys.length<sizeLine/\∃q,q<m/\W (i+1) q (ys++[y]) (upd s D (.lst (ys++[y])))
    else ∃q,q<m/\W (i+1) q ys t))
def rd_comp (h:wi σ H (Hd n fr g tt te σ Q)):vJ n fr wi g tt te σ H Q:=h
structure Turn1 (B G0:Hp) (cs:xg) (B' G':Hp):Prop where
 b:zV B B'
 ro:∀c∈cs,Ro B' G' c.1 c.2
 old:∀{L:Addr} {xs:List PyData},Ro B G0 L xs->Ro B' G' L xs
def cf (w:Wk B G0 J xs P) (f:Nat->Option PyData) (S:Sta B G0 H cs ds) (Pj:∀D ys,P ((D,ys)::cs) ds) (hn:xs.length<=1000)
 (hs:∀(i:Nat) (x:PyData) (v:V) (t G':Hp) (Kd:VK) (Kn:Hp->Prop),xs[i]? =some x->Turn1 B G0 cs t G'->Sta t G' t [] ((x,v)::ds)->
  (∀{z:PyData} {y:V} {r:Hp} {cs':xg} {ds':Dat},f i=some z->Sta t G' r cs' ds'->Has ds' z y->Kd y r)->(∀{s:Hp} {cs':xg} {ds':Dat},f i=none->Sta t G' s cs' ds'->Kn s)->
  ∀C ex s0 O,g C ex s0 O v (List.replicate n none++frσ σ fr) t λσ4 H4=>σ4.drop n=frσ σ fr/\tt C ex s0 O σ4 H4 λb s=>if b=true then te C ex s0 O σ4 s Kd else Kn s)
 (k:∀D H',zV H H'->Sta B G0 H' ((D,(List.range xs.length).filterMap f)::cs) ds->Q (.ref D) H'):Hd n fr g tt te σ Q J H:=by
 intro D hD C ex s0 O;have len:∀i,((List.range i).filterMap f).length<=i:=λi=>Tc (jbo _ _) (by rw [jaE];exact Qu _);refine ⟨λi m ys N=>m=xs.length - i/\i<=xs.length/\N D=some (.lst ys)/\zV H N/\Sta B G0 N ((D,(List.range i).filterMap f)::cs) ds,⟨xs.length,by simp,jap _,yU,zV.new hD _,S.newL hD .nil⟩,?_⟩
 rintro i m ys N ⟨rfl,hi,Ss,U,Y⟩
 refine ⟨Ss,?_⟩
 by_cases M:i<xs.length
 ·refine .inr ⟨w.go Y (Pj _ _) M,λv Z y=>?_⟩;obtain ⟨X,G3,S3⟩:=w.yld Y (Pj _ _) (Qb M) y;obtain ⟨a,b,c,d,e,f',g'⟩:=id S3;have I:Z D=some (.lst ys):=X _ _ Ss
  have t1:Turn1 B G0 cs Z G3:=by
   refine ⟨c,λq T=>?_,λ{L zs} ⟨r1,vs,r2,r3⟩=>?_⟩
   ·obtain ⟨_,y',vs,z',u'⟩:=e q (Qf _ T);exact ⟨y',vs,z',u'⟩
   ·exact ⟨by rw [d L (by rw [r2];simp)];exact r1,vs,c _ _ r2,zL.mono a _ _ r3⟩
  have up:∀{r:Hp} {cs':xg} {ds':Dat} {o:HO},zV H Z->H D=none->zV H r->zV H (upd r D o):=λ{r cs' ds' o} _ hn h q u T=>by
   rw [ym (yn T hn)];exact h _ _ T
  refine hs i _ v Z G3 _ _ (Qb M) t1 (Sta.enter b g') ?_ ?_ C ex s0 O
  ·intro z y6 r cs' ds' fz S6 hz;obtain ⟨G6,gr,al⟩:=S6.leave;have A:r D=some (.lst ys):=gr.h _ _ I;have S6':KW B G0 r ((D,(List.range i).filterMap f)::cs) ((xs[i],v)::ds) G6:=S3.grow gr
   have S7:Sta B G0 r ((D,(List.range i).filterMap f)::cs) ((z,y6)::ds):=by
    obtain ⟨a',b',c',d',e',f'',g''⟩:=S6';exact ⟨G6,a',b',c',d',e',f'',Xw.cons (λp hp=>g'' p (Qf _ hp)) (hz G6 al)⟩
   obtain ⟨vs,hv,hl,put⟩:=S7.put;rw [A] at hv;cases hv;refine ⟨A,WR (by have:=len i;lia),xs.length - (i+1),⋯,rfl,M,yU,up (cs':=cs') (ds':=ds') (U.trans X) hD ((U.trans X).trans gr.h),?_⟩
   have er:(List.range (i+1)).filterMap f=(List.range i).filterMap f++[z]:=by
    rw [List.range_succ,List.filterMap_append];simp [fz]
   rw [er];exact (put _ _ λG a u=>u.app (by rw [zL];exact ⟨y6,[],rfl,a _ (Qe ..),by rw [zL]⟩)).drop1
  ·intro s cs' ds' fz S5;obtain ⟨G5,gr,al⟩:=S5.leave;have S5':Sta B G0 s ((D,(List.range i).filterMap f)::cs) ((xs[i],v)::ds):=⟨G5,S3.grow gr⟩
   have er:(List.range (i+1)).filterMap f=(List.range i).filterMap f:=by
    rw [List.range_succ,List.filterMap_append];simp [fz]
   exact ⟨xs.length - (i+1),⋯,rfl,M,gr.h _ _ I,(U.trans X).trans gr.h,by rw [er];exact S5'.drop1⟩
 ·have e:i=xs.length:=⋯
  subst e;exact .inl ⟨w.stop Y (Pj _ _) (Qu _),k D N U Y⟩
def Kw {α β:Type} (g:α->β) (l:List α):l.filterMap (λi=>some (g i))=l.map g:=by
 induction l with
 |nil=>rfl
 |cons a l m=>simp [m]
def yt (w:Wk B G0 J xs P) (f:Nat->PyData) (A:(List.range xs.length).map f=ys) (S:Sta B G0 H cs ds) (L:∀D ys,P ((D,ys)::cs) ds) (hn:xs.length<=1000)
 (I:∀(i:Nat) (x:PyData) (v:V) (m p:Hp) (r:VK) (s:Hp->Prop),xs[i]? =some x->Turn1 B G0 cs m p->Sta m p m [] ((x,v)::ds)->
  (∀{y:V} {t:Hp} {cs':xg} {ds':Dat},Sta m p t cs' ds'->Has ds' (f i) y->r y t)->
  ∀C ex s0 u,g C ex s0 u v (List.replicate n none++frσ σ fr) m λσ4 H4=>σ4.drop n=frσ σ fr/\tt C ex s0 u σ4 H4 λb z=>if b=true then te C ex s0 u σ4 z r else s z)
 (k:∀D H',zV H H'->Sta B G0 H' ((D,ys)::cs) ds->Q (.ref D) H'):Hd n fr g tt te σ Q J H:=by
 refine cf w (λi=>some (f i)) S L hn (λi x v m p r s G t1 q hd _=>I i x v m p r s G t1 q λ{y t cs' ds'} a b=>hd rfl a b) λD H' e q=>k D H' e ?_;rw [Kw,A] at q;exact q
def zP (S:Sta B G0 H cs ds) (h:Has ds (.list xs) v) (k:∀J,Wk B G0 J xs (λ_ ds=>Has ds (.list xs) v)->R J H):kIL K R v H:=by
 obtain ⟨p,vs,rfl,hp,_⟩:=S.lst h;exact ⟨p,rfl,⟨_,SqL.of hp⟩,k _ (AY VB)⟩
def mB (S:Sta B G0 H cs ds) (h:Has ds (.tuple xs) v) (k:∀J,Wk B G0 J xs (λ_ ds=>Has ds (.tuple xs) v)->R J H):kIT K R v H:=by
 obtain ⟨p,vs,rfl,hp,_⟩:=S.tup h;exact ⟨p,rfl,⟨_,SqT.of hp⟩,k _ (wk_tup fe)⟩
def Ck (S:Sta B G0 H cs ds) (h:(L,xs)∈cs) (k:∀J,Wk B G0 J xs (λcs _=>(L,xs)∈cs)->R J H):kIL K R (.ref L) H:=by
 obtain ⟨vs,hp,_⟩:=S.cell h;exact ⟨L,rfl,⟨_,SqL.of hp⟩,k _ (AY FC)⟩
def JF (S:Sta B G0 H cs ds) (h:Has ds (.tuple xs) v) (k:∀J,Wk B G0 J (sD xs) (λ_ ds=>Has ds (.tuple xs) v)->R J H):kEn false K R [v] H:=by
 obtain ⟨p,vs,rfl,hp,_⟩:=S.tup h;exact ⟨p,rfl,⟨_,SqT.of hp⟩,k _ (AZ fe)⟩
def mC (S:Sta B G0 H cs ds) (h:Has ds (.list xs) v) (k:∀J,Wk B G0 J (sD xs) (λ_ ds=>Has ds (.list xs) v)->R J H):kEn true K R [v] H:=by
 obtain ⟨p,vs,rfl,hp,_⟩:=S.lst h;exact ⟨p,rfl,⟨_,SqL.of hp⟩,k _ (AZ VB)⟩
def my (S:Sta B G0 H cs ds) (h:Has ds (.tuple xs) v) (m:Has ds (.tuple ys) w) (k:∀J,Wk B G0 J (Ib xs ys) (λcs ds=>Has ds (.tuple xs) v/\(∀x u,Has ds (.tuple ys) w->Has ((x,u)::ds) (.tuple ys) w)/\Has ds (.tuple ys) w)->R J H):kZi false false K R [v,w] H:=by
 obtain ⟨p,vs,rfl,hp,_⟩:=S.tup h;obtain ⟨q,ws,rfl,g,_⟩:=S.tup m;exact ⟨p,q,rfl,⟨_,SqT.of hp⟩,⟨_,SqT.of g⟩,k _ (AX fe fe)⟩
def Sta.refL (S:Sta B G0 H cs ds) (h:Has ds (.list xs) v):∃a,v= .ref a:=by
 obtain ⟨p,_,e,_⟩:=S.lst h;exact ⟨p,e⟩
section
variable {α:Type}
def spT (enc:α->List PyData) (dom:α->Prop) (res:α->PyData):Sp:=λvs H Q _=>∃(G:Hp) (a:α),zV G H/\zL G (enc a) vs/\dom a/\∀v H' g,Grow G H g H'->Is g (res a) v->Q v H'
def spL (enc:α->List PyData) (dom:α->Prop) (res:α->List PyData):Sp:=λvs H Q _=>∃(G:Hp) (a:α),zV G H/\zL G (enc a) vs/\dom a/\∀p H' g us,Grow G H g H'->H p=none->g p=none->H' p=some (.lst us)->zL g (res a) us->Q (.ref p) H'
def spB (enc:α->List PyData) (dom:α->Prop) (res:α->V):Sp:=λvs H Q _=>∃(a:α),zL H (enc a) vs/\dom a/\∀H',zV H H'->Q (res a) H'
variable {enc:α->List PyData} {dom:α->Prop} {resB:α->V} {Q:VK} {E:XK} {vs:List V}
def Ye (a:α) (S:Sta B G0 H cs ds) (g:yy ds (enc a) vs) (hd:dom a) (k:∀v H',zV H H'->Sta B G0 H' cs ((res a,v)::ds)->Q v H'):spT enc dom res vs H Q E:=by
 obtain ⟨G,S⟩:=S;refine ⟨G,a,S.2.1,g G S.2.2.2.2.2.2,hd,λv H' u gr m=>k v H' gr.h ?_⟩;obtain ⟨t,s,r,d',q,p,g'⟩:=S.grow gr;exact ⟨u,t,s,r,d',q,p,g'.cons m⟩
def ZF (a:α) (S:Sta B G0 H cs ds) (m:yy ds (enc a) vs) (hd:dom a) (k:∀p H',zV H H'->Sta B G0 H' ((p,resL a)::cs) ds->Q (.ref p) H'):spL enc dom resL vs H Q E:=by
 obtain ⟨G,S⟩:=S;refine ⟨G,a,S.2.1,m G S.2.2.2.2.2.2,hd,λp H' J us gr hp t s r=>k p H' gr.h ?_⟩;have u:=S.2.2.1.free hp;obtain ⟨_,_,_,_,e0,_,_⟩:=id S;obtain ⟨D,C,A,d',y,w,g'⟩:=S.grow gr;refine ⟨J,D,C,A,d',λq g=>?_,?_,g'⟩
 ·rcases Qn.mp g with rfl|g
  ·exact ⟨u,t,us,s,r⟩
  ·exact y q g
 ·rw [Qk,TX];refine ⟨λz=>?_,w⟩;obtain ⟨q,g,I⟩:=Qi.mp z;obtain ⟨_,_,ws,z,_⟩:=e0 q g;rw [I,hp] at z;cases z
def Vb (a:α) (g:zL H (enc a) vs) (hd:dom a) (k:∀H',zV H H'->Q (resB a) H'):spB enc dom resB vs H Q E:=⟨a,g,hd,k⟩
def Sta.hpAll (S:Sta B G0 H cs ds) (h:yy ds xs vs):zL H xs vs:=by
 obtain ⟨G,a,b,c,d,e,f,g⟩:=S;exact zL.mono b _ _ (h G g)
def Zc (S:Sta H G H' cs ds) (k:∀v H' g,Grow G H g H'->Is g r v->Q v H') (h:Has ds r v):Q v H':=by
 obtain ⟨g,gr,al⟩:=S.leave;exact k v H' g gr (h g al)
def xU (S:Sta H G H' ((p,r)::cs) ds) (k:∀p H' m us,Grow G H m H'->H p=none->m p=none->H' p=some (.lst us)->zL m r us->Q (.ref p) H'):Q (.ref p) H':=by
 obtain ⟨m,a,b,c,d,e,f,g⟩:=S;obtain ⟨x,y,us,z,u⟩:=e _ (Qe ..);exact k p H' m us ⟨c,a,b,d⟩ x y z u
def ret_B (S:Sta H G H' cs ds) (k:∀H',zV H H'->Q r H'):Q r H':=k H' S.base
def XI (h:zL G [x] vs):∃v,vs=[v]/\Xw G [(x,v)]:=by
 simp only [zL] at h;obtain ⟨v,_,rfl,g,rfl⟩:=h;exact ⟨v,rfl,λp hp=>by simp at hp;subst hp;exact g⟩
def xC (h:zL G [x,y] vs):∃v w,vs=[v,w]/\Xw G [(x,v),(y,w)]:=by
 simp only [zL] at h;obtain ⟨v,_,rfl,m,w,_,rfl,g,rfl⟩:=h;exact ⟨v,w,rfl,λp hp=>by simp at hp;rcases hp with rfl|rfl<;>assumption⟩
def ZA (h:zL G [x,y,z] vs):∃v w u,vs=[v,w,u]/\Xw G [(x,v),(y,w),(z,u)]:=by
 simp only [zL] at h;obtain ⟨v,_,rfl,q,w,_,rfl,m,u,_,rfl,g,rfl⟩:=h;exact ⟨v,w,u,rfl,λp hp=>by simp at hp;rcases hp with rfl|rfl|rfl<;>assumption⟩
def Is.int_of (h:Is G (.int i) v):v= .int i:=by rw [Is] at h;exact h
end
end
end S
namespace S
def par (c t:List Int):Prop:=c.map (·*t.sum)=t.map (·*c.sum)
instance (c t:List Int):Decidable (par c t):=inferInstanceAs (Decidable (_=_))
open Classical in
noncomputable def yl (a:Rat×List Rat):List (Rat×List Rat)->List (Rat×List Rat)
 |[]=>[]
 |[b]=>[b]
 |b::c::r=>if zY a b c then yl b (c::r) else b::yl b (c::r)
open Classical in
noncomputable def YR (cs:List zh) (i:Nat):Bool:=decide (i=0\/i+1=cs.length\/¬∀(a b c:zh),cs[i - 1]? =some a->cs[i]? =some b->cs[i+1]? =some c->zY a b c)
open Classical in
def XH (h:i=0\/i+1=cs.length\/¬∀(a b c:zh),cs[i - 1]? =some a->cs[i]? =some b->cs[i+1]? =some c->zY a b c):YR cs i=true:=by
 unfold YR;exact Te h
open Classical in
def kg (h:¬(i=0\/i+1=cs.length\/¬∀(a b c:zh),cs[i - 1]? =some a->cs[i]? =some b->cs[i+1]? =some c->zY a b c)):YR cs i=false:=by
 unfold YR;exact TF h
noncomputable def yv:List zh->List zh
 |[]=>[]
 |c::r=>c::yl c r
theorem uy:∀(r pre:List zh) (a:zh),(List.range' (pre.length+1) r.length).filterMap (λj=>if YR (pre++a::r) j then (pre++a::r)[j]? else none)=yl a r
 |[],pre,a=>by simp [yl]
 |[b],pre,a=>by
  have g:YR (pre++[a,b]) (pre.length+1)=true:=XH (.inr (.inl (by simp)));simp [yl,g]
 |b::c::r,pre,a=>by
  have p:=uy (c::r) (pre++[a]) b;rw [QA,TH,jah,List.singleton_append] at p;rw [Qy,List.range'_succ,jaV,yl]
  have w:(pre++a::b::c::r)[pre.length+1 - 1]? =some a:=by
   rw [Nat.add_sub_cancel,Tq (Qu _),Nat.sub_self];rfl
  have g1:(pre++a::b::c::r)[pre.length+1]? =some b:=by
   rw [Tq ⋯,show pre.length+1 - pre.length=1 by lia];rfl
  have g2:(pre++a::b::c::r)[pre.length+1+1]? =some c:=by
   rw [Tq ⋯,show pre.length+1+1 - pre.length=2 by lia];rfl
  by_cases m:zY a b c
  ·have g:YR (pre++a::b::c::r) (pre.length+1)=false:=by
    refine kg ?_
    rintro (q|q|q)
    ·lia
    ·simp at q;lia
    ·refine q λx y z u t s=>?_;rw [w] at u;rw [g1] at t;rw [g2] at s;cases u;cases t;cases s;exact m
   rw [g,QH m]
   simpa using p
  ·have g:YR (pre++a::b::c::r) (pre.length+1)=true:=XH (.inr (.inr λq=>m (q a b c w g1 g2)));rw [g,QS m,QH rfl,g1];dsimp only;rw [p]
def wY {β:Type} (cs:List zh) (g:zh->β):(List.range cs.length).filterMap (λj=>if YR cs j then (cs[j]?).map g else none)=(yv cs).map g:=by
 have e:(List.range cs.length).filterMap (λj=>if YR cs j then (cs[j]?).map g else none)=((List.range cs.length).filterMap (λj=>if YR cs j then cs[j]? else none)).map g:=by
  rw [List.map_filterMap]
  congr 1
  funext j
  split<;>rfl
 rw [e]
 congr 1
 cases cs with
 |nil=>rfl
 |cons c r=>
  rw [Qy,List.range_eq_range',List.range'_succ,jaV];have m:YR (c::r) 0=true:=XH (.inl rfl);rw [m,QH rfl];have:=uy r [] c;simp only [List.length_nil,jaI,jbR] at this;simp only [List.getElem?_cons_zero,jbR];rw [this,yv]
end S
namespace S
open PySem PySem.Spec PyProof.Rows L2
section
variable {α:Type} {B G0 H:Hp} {cs:xg} {ds:Dat} {Q:VK}
def spP (enc:α->List PyData) (dom:α->Prop) (res:α->V):Sp:=λvs H Q _=>∃(a:α),zL H (enc a) vs/\dom a/\Q (res a) H
def rd_spP (a:α) (S:Sta B G0 H cs ds) (g:yy ds (enc a) vs) (hd:dom a) (k:Q (res a) H):spP enc dom res vs H Q E:=⟨a,S.hpAll g,hd,k⟩
def SzQ.of_div (e:q=Rat.divInt a b) (ha:Sz n a) (g:Sz n b) (h0:b≠0):SzQ n q:=by rw [e];exact SzQ.divInt ha g h0
def xG (p q:Rat):(p.den:Int)*(q.den:Int)≠0:=Int.ne_of_gt (Int.mul_pos (den_pos p) (den_pos q))
def nH (p q:Rat):Rat.divInt (p.num*(q.den:Int)+q.num*(p.den:Int)) ((p.den:Int)*(q.den:Int))=p+q:=by
 rw [Rat.add_def',<-Int.natCast_mul,Rat.divInt_ofNat]
def kQ (p q:Rat):Rat.divInt (p.num*(q.den:Int) - q.num*(p.den:Int)) ((p.den:Int)*(q.den:Int))=p - q:=by
 rw [Rat.sub_def',<-Int.natCast_mul,Rat.divInt_ofNat]
def Dd (p q:Rat):Rat.divInt (p.num*q.num) ((p.den:Int)*(q.den:Int))=p*q:=by
 rw [Rat.mul_def',<-Int.natCast_mul,Rat.divInt_ofNat]
def Iq {q:Rat} (h:q≠0):q.num≠0:=λz=>h (Rat.num_eq_zero.mp z)
def En (p q:Rat) (h:q≠0):Rat.divInt (p.num*(q.den:Int)) ((p.den:Int)*q.num)=p / q:=by
 rw [<-jaJ,jbA,jac,Rat.inv_def]
section
def SzQ.add (hp:SzQ m p) (g:SzQ n q):SzQ (m+n+1) (p+q):=
 SzQ.of_div (nH p q).symm (((hp.1.mul g.2).add ((g.1.mul hp.2).mono (Nat.le_of_eq (Nat.add_comm n m))))) ((hp.2.mul g.2).mono (jaq _)) (xG p q)
def SzQ.sub (hp:SzQ m p) (g:SzQ n q):SzQ (m+n+1) (p - q):=
 SzQ.of_div (kQ p q).symm (((hp.1.mul g.2).sub ((g.1.mul hp.2).mono (Nat.le_of_eq (Nat.add_comm n m))))) ((hp.2.mul g.2).mono (jaq _)) (xG p q)
def SzQ.mul (hp:SzQ m p) (g:SzQ n q):SzQ (m+n) (p*q):=
 SzQ.of_div (Dd p q).symm (hp.1.mul g.1) (hp.2.mul g.2) (xG p q)
def SzQ.div (hp:SzQ m p) (g:SzQ n q):SzQ (m+n) (p / q):=by
 by_cases h:q=0
 ·subst h;rw [jac,Rat.inv_zero,Rat.mul_zero]
  have hm:1<=m:=by
   cases m with
   |zero=>
    have r:(p.den:Int).natAbs<2 ^ 0:=hp.2;have s:=den_pos p;simp at r;lia
   |succ m=>lia
  exact ⟨tI ⋯ (show (-2:Int)<0 by decide) (show (0:Int)<2 by decide),tI ⋯ (show (-2:Int)<1 by decide) (show (1:Int)<2 by decide)⟩
 ·exact SzQ.of_div (En p q h).symm (hp.1.mul g.2) (hp.2.mul g.1) (Int.mul_ne_zero (Int.ne_of_gt (den_pos p)) (Iq h))
end
def gZ (p q:Rat):Int.gcd (p.num*(q.den:Int)+q.num*(p.den:Int)) ((p.den:Int)*(q.den:Int))∣q.den*q.den:=by
 have s:=Int.gcd_dvd_left (a:=p.num*(q.den:Int)+q.num*(p.den:Int)) (b:=(p.den:Int)*(q.den:Int));have m:=Int.gcd_dvd_right (a:=p.num*(q.den:Int)+q.num*(p.den:Int)) (b:=(p.den:Int)*(q.den:Int));generalize Int.gcd (p.num*(q.den:Int)+q.num*(p.den:Int)) ((p.den:Int)*(q.den:Int))=g at s m⊢
 have y:(g:Int)∣p.num*((q.den:Int)*q.den):=by
  have a:=Int.dvd_sub (Int.dvd_mul_of_dvd_left (c:=(q.den:Int)) s) (Int.dvd_mul_of_dvd_right (b:=q.num) m)
  have e:(p.num*(q.den:Int)+q.num*(p.den:Int))*(q.den:Int) - q.num*((p.den:Int)*(q.den:Int))=p.num*((q.den:Int)*q.den):=by
   rw [Int.add_mul,Int.mul_assoc,Int.mul_assoc];lia
  rw [e] at a;exact a
 have w:(g:Int)∣(p.den:Int)*((q.den:Int)*q.den):=by
  have a:=Int.dvd_mul_of_dvd_left (c:=(q.den:Int)) m;rw [Int.mul_assoc] at a;exact a
 have u:g∣p.num.natAbs*(q.den*q.den):=by
  have:=Int.natAbs_dvd_natAbs.mpr y;rw [Int.natAbs_mul] at this
  simpa [Int.natAbs_mul] using this
 have t:g∣p.den*(q.den*q.den):=by
  have:=Int.natAbs_dvd_natAbs.mpr w
  simpa [Int.natAbs_mul] using this
 have r:=Nat.dvd_gcd u t;rw [Nat.gcd_mul_right,p.reduced,Nat.one_mul] at r;exact r
def Ak {p q:Rat} (g:Nat) (h:(g:Int)∣(p.den:Int)*(q.den:Int)):g<=p.den*q.den:=by
 have:=Int.natAbs_dvd_natAbs.mpr h;exact Nat.le_of_dvd (Nat.mul_pos p.den_pos q.den_pos) (by simpa [Int.natAbs_mul] using this)
abbrev L1 (m n:Nat):Prop:=m+n<=8999\/(m<=100000/\2*n<=8999)\/(n<=100000/\2*m<=8999)
abbrev L2' (m n:Nat):Prop:=m+n<=8999\/(m<=8999/\2*n<=8999)\/(n<=8999/\2*m<=8999)
def bS {p q:Rat} {m n:Nat} (hp:SzQ m p) (r:SzQ n q) (h:L1 m n):Sz 8999 ((Int.gcd (p.num*(q.den:Int)+q.num*(p.den:Int)) ((p.den:Int)*(q.den:Int)):Nat):Int):=by
 have u:=Nat.le_of_dvd (Nat.mul_pos q.den_pos q.den_pos) (gZ p q);have s:=Nat.le_of_dvd (Nat.mul_pos p.den_pos p.den_pos) (gZ q p);rw [Int.add_comm,Int.mul_comm (q.den:Int)] at s;have t:=Ak (p:=p) (q:=q) _ (Int.gcd_dvd_right (a:=p.num*(q.den:Int)+q.num*(p.den:Int)) (b:=(p.den:Int)*(q.den:Int)));generalize Int.gcd (p.num*(q.den:Int)+q.num*(p.den:Int)) ((p.den:Int)*(q.den:Int))=g at*
 rcases h with h|⟨_,h⟩|⟨_,h⟩
 ·refine Sz.le ((hp.2.mul r.2).mono h) ?_;rw [<-Int.natCast_mul];lia
 ·refine Sz.le ((r.2.mul r.2).mono (show n+n<=8999 by lia)) ?_;rw [<-Int.natCast_mul];lia
 ·refine Sz.le ((hp.2.mul hp.2).mono (show m+m<=8999 by lia)) ?_;rw [<-Int.natCast_mul];lia
def SzQ.neg (h:SzQ n q):SzQ n (-q):=by
 refine ⟨?_,h.2⟩;have:(-q).num= -q.num:=rfl;rw [this];unfold Sz at*;rw [Int.natAbs_neg];exact h.1
def Ai (hp:SzQ m p) (g:SzQ n q) (h:L1 m n):Sz 8999 ((Int.gcd (p.num*(q.den:Int) - q.num*(p.den:Int)) ((p.den:Int)*(q.den:Int)):Nat):Int):=by
 have z:=bS hp g.neg h;have s:(-q).num= -q.num:=rfl;have r:(-q).den=q.den:=rfl;rw [s,r,Int.neg_mul,<-Int.sub_eq_add_neg] at z;exact z
def pU (h:Int.gcd a c=1):Int.gcd (a*b) (c*d)∣b.natAbs*d.natAbs:=by
 have q:=Int.natAbs_dvd_natAbs.mpr (Int.gcd_dvd_left (a:=a*b) (b:=c*d));have p:=Int.natAbs_dvd_natAbs.mpr (Int.gcd_dvd_right (a:=a*b) (b:=c*d));generalize Int.gcd (a*b) (c*d)=g at*;rw [Int.natAbs_mul] at q p
 have n1:g∣a.natAbs*(b.natAbs*d.natAbs):=by
  rw [<-Nat.mul_assoc];exact Nat.dvd_mul_right_of_dvd q _
 have r:g∣c.natAbs*(b.natAbs*d.natAbs):=by
  rw [Nat.mul_comm b.natAbs,<-Nat.mul_assoc];exact Nat.dvd_mul_right_of_dvd p _
 have m:=Nat.dvd_gcd n1 r;rw [Nat.gcd_mul_right,show Nat.gcd a.natAbs c.natAbs=1 from h,Nat.one_mul] at m;exact m
def uR {a c b d:Int} {m n k:Nat} (h:Int.gcd a c=1) (h':Int.gcd b d=1) (A:Sz m a) (q:Sz m c) (z:Sz n b) (p:Sz n d) (w:c≠0) (u:d≠0) (l:L2' m n):Sz 8999 ((Int.gcd (a*b) (c*d):Nat):Int):=by
 have G:=pU (b:=b) (d:=d) h;have t:=pU (a:=b) (c:=d) (b:=a) (d:=c) h';rw [Int.mul_comm b,Int.mul_comm d] at t;have s:=Int.natAbs_dvd_natAbs.mpr (Int.gcd_dvd_right (a:=a*b) (b:=c*d));rw [Int.natAbs_mul] at s;have g:=Nat.le_of_dvd (Nat.mul_pos (Int.natAbs_pos.mpr w) (Int.natAbs_pos.mpr u)) s;have z2:b=0->Int.gcd (a*b) (c*d)<=c.natAbs*d.natAbs:=λ_=>g
 rcases l with l|⟨r,l⟩|⟨r,l⟩
 ·exact Sz.le ((q.mul p).mono l) (by rw [Int.natAbs_mul];exact g)
 ·by_cases y:b=0
  ·subst y;have e:d.natAbs=1:=by simpa using h'
   rw [e,Nat.mul_one] at g;exact Sz.le (q.mono r) g
  ·have D:=Nat.le_of_dvd (Nat.mul_pos (Int.natAbs_pos.mpr y) (Int.natAbs_pos.mpr u)) G;exact Sz.le ((z.mul p).mono (show n+n<=8999 by lia)) (by rw [Int.natAbs_mul];exact D)
 ·by_cases a0:a=0
  ·subst a0;have e:c.natAbs=1:=by simpa using h
   rw [e,Nat.one_mul] at g;exact Sz.le (p.mono r) g
  ·have C:=Nat.le_of_dvd (Nat.mul_pos (Int.natAbs_pos.mpr a0) (Int.natAbs_pos.mpr w)) t;exact Sz.le ((A.mul q).mono (show m+m<=8999 by lia)) (by rw [Int.natAbs_mul];exact C)
def mD (p:Rat):Int.gcd p.num (p.den:Int)=1:=p.reduced
def Aj {p q:Rat} {m n:Nat} (hp:SzQ m p) (g:SzQ n q) (h:L2' m n):Sz 8999 ((Int.gcd (p.num*q.num) ((p.den:Int)*(q.den:Int)):Nat):Int):=
 uR (k:=0) (mD p) (mD q) hp.1 hp.2 g.1 g.2 (Int.ne_of_gt (den_pos p)) (Int.ne_of_gt (den_pos q)) h
def Al {p q:Rat} {m n:Nat} (hp:SzQ m p) (g:SzQ n q) (r:q.num≠0) (h:L2' m n):Sz 8999 ((Int.gcd (p.num*(q.den:Int)) ((p.den:Int)*q.num):Nat):Int):=
 uR (k:=0) (mD p) (by rw [Int.gcd_comm];exact mD q) hp.1 hp.2 g.2 g.1 (Int.ne_of_gt (den_pos p)) r h
def VC:Sp:=spT (α:=Int×Int) (λa=>[.int a.1, .int a.2]) (λa=>a.2≠0/\Sz 8999 ((Int.gcd a.1 a.2:Nat):Int)) (λa=>frD (Rat.divInt a.1 a.2))
def ao {i j:Int} (S:Sta B G0 H cs ds) (h0:j≠0) (g:Sz 8999 ((Int.gcd i j:Nat):Int)) (k:∀r H',zV H H'->Sta B G0 H' cs ((frD (Rat.divInt i j),r)::ds)->Q r H'):VC [.int i, .int j] H Q E:=
 Ye (i,j) S (.cons Has.int (.cons Has.int .nil)) ⟨h0,g⟩ k
def spQ2 (lim:Nat->Nat->Prop) (dom:Rat->Rat->Prop) (g:Rat->Rat->Rat):Sp:=spT (α:=Rat×Rat) (λa=>[frD a.1,frD a.2]) (λa=>(∃m n,SzQ m a.1/\SzQ n a.2/\lim m n)/\dom a.1 a.2) (λa=>frD (g a.1 a.2))
def rG (S:Sta B G0 H cs ds) (t:Has ds (frD p) v) (s:Has ds (frD q) w) (s1:SzQ m p) (s2:SzQ n q) (u:lm m n) (hd:dm p q)
 (k:∀r H',zV H H'->Sta B G0 H' cs ((frD (g p q),r)::ds)->Q r H'):spQ2 lm dm g [v,w] H Q E:=
 Ye (p,q) S (.cons t (.cons s .nil)) ⟨⟨m,n,s1,s2,u⟩,hd⟩ k
abbrev domT:Rat->Rat->Prop:=λ_ _=>True
abbrev om:Sp:=spQ2 L1 domT λp q=>p+q
abbrev aV:Sp:=spQ2 L1 domT λp q=>p - q
abbrev qO:Sp:=spQ2 L2' domT λp q=>p*q
abbrev Ik:Sp:=spQ2 L2' (λ_ q=>q≠0) λp q=>p / q
def UX:Sp:=spP (α:=Rat×Rat) (λa=>[frD a.1,frD a.2]) (λa=>∃m n,SzQ m a.1/\SzQ n a.2/\m+n<=100000000) (λa=> .bl (decide (a.1<a.2)))
def fW (S:Sta B G0 H cs ds) (r:Has ds (frD p) v) (g:Has ds (frD q) w) (s1:SzQ m p) (s2:SzQ n q) (s:m+n<=100000000) (k:Q (.bl (decide (p<q))) H):UX [v,w] H Q E:=
 rd_spP (p,q) S (.cons r (.cons g .nil)) ⟨m,n,s1,s2,s⟩ k
def aD (ns:List Int) (k:Int):Int:=if k<(ns.length:Int) then ns.getD k.toNat 0 else 0
def ow (K:Frg):Sp:=λvs H Q _=>∃(a:Addr) (ns:List Int) (k:Int),vs=[.ref a, .int k]/\SqL K H a (ns.map V.int)/\0<=k/\Q (.int (aD ns k)) H
def rd_cell {K:Frg} {a:Addr} {ns:List Int} {k:Int} (g:SqL K H a (ns.map V.int)) (h0:0<=k) (h:Q (.int (aD ns k)) H):ow K [.ref a, .int k] H Q E:=⟨a,ns,k,rfl,g,h0,h⟩
def fo:Sp:=λvs H Q _=>∃a b:Int,vs=[.int a, .int b]/\0<=b/\Q (.int (Int.gcd a b:Nat)) H
def rd_div2 (h0:0<=b) (h:Q (.int (Int.gcd a b:Nat)) H):fo [.int a, .int b] H Q E:=⟨a,b,rfl,h0,h⟩
def Wl:Sp:=spT (α:=Int×Int) (λa=>[.int a.1, .int a.2]) (λa=>0<a.2/\Sz 8999 ((Int.gcd a.1 a.2:Nat):Int)) (λa=>frD (Rat.divInt a.1 a.2))
def Kv (g:j≠0) (h:Sz n j):Sz n ((Int.gcd i j:Nat):Int):=Sz.le h (Nat.le_of_dvd (Int.natAbs_pos.mpr g) (Int.natAbs_dvd_natAbs.mpr (Int.gcd_dvd_right (a:=i) (b:=j))))
def vY (S:Sta B G0 H cs ds) (h0:0<j) (g:Sz 8999 ((Int.gcd i j:Nat):Int)) (k:∀r H',zV H H'->Sta B G0 H' cs ((frD (Rat.divInt i j),r)::ds)->Q r H'):Wl [.int i, .int j] H Q E:=
 Ye (i,j) S (.cons Has.int (.cons Has.int .nil)) ⟨h0,g⟩ k
def Zt (S:Sta B G0 H cs ds) (h0:0<j) (g:Sz 8999 j) (k:∀r H',zV H H'->Sta B G0 H' cs ((frD (Rat.divInt i j),r)::ds)->Q r H'):Wl [.int i, .int j] H Q E:=
 Ye (i,j) S (.cons Has.int (.cons Has.int .nil)) ⟨h0,Kv (Int.ne_of_gt h0) g⟩ k
def Kc (c p:Int):Int:=(((c % 2147483629*16807+69621*p+11) % 2147483629)*((c % 2147483629*16807+69621*p+11) % 2147483629)+48271*p+7) % 2147483629*69621 % 2147483587
def FE:Sp:=λvs H Q _=>∃c p:Int,vs=[.int c, .int p]/\Q (.int (Kc c p)) H
def rd_mix (h:Q (.int (Kc c p)) H):FE [.int c, .int p] H Q E:=⟨c,p,rfl,h⟩
def Zb (r:List Int):PyData:= .list (r.map PyData.int)
def Sta.put_call (S:KW B G0 H cs ds G) (gr:Grow G H G' H') (hp:H p=none) (s:G' p=none) (r:H' p=some (.lst us)) (m:zL G' xs us):Sta B G0 H' ((p,xs)::cs) ds:=by
 have t:=S.2.2.1.free hp;obtain ⟨_,_,_,_,e0,_,_⟩:=id S;obtain ⟨C,A,y,d',w,u,g'⟩:=S.grow gr;refine ⟨G',C,A,y,d',λq g=>?_,?_,g'⟩
 ·rcases Qn.mp g with rfl|g
  ·exact ⟨t,s,us,r,m⟩
  ·exact w q g
 ·rw [Qk,TX];refine ⟨λz=>?_,u⟩;obtain ⟨q,g,D⟩:=Qi.mp z;obtain ⟨_,_,ws,z,_⟩:=e0 q g;rw [D,hp] at z;cases z
def rd_true (h:R true H):tTrue σ H R:=h
def YG (m:Nat):List Int:=List.replicate m 0
def UN (m:Nat):(YG m).length=m:=QF
theorem bW {β:Type} [DecidableEq β] {f:β->PyData} (hf:∀a b,PyData.eqv (f a) (f b)=decide (a=b)):∀xs ys:List β,PyData.eqvAll (xs.map f) (ys.map f)=decide (xs=ys)
 |[],[]=>by rw [TC,PyData.eqvAll];rfl
 |[],_::_=>by rw [TC,Qk,PyData.eqvAll,TF (by simp)]
 |_::_,[]=>by rw [TC,Qk,PyData.eqvAll,TF (by simp)]
 |x::xs,y::ys=>by
  rw [Qk,Qk,PyData.eqvAll,hf,bW hf xs ys,<-Bool.decide_and];exact Vq (by simp)
def KG (a b:Int):PyData.eqv (.int a) (.int b)=decide (a=b):=by rw [PyData.eqv];rfl
def Ek (a b:List Int):PyData.eqv (Zb a) (Zb b)=decide (a=b):=by unfold Zb;rw [PyData.eqv];exact bW KG a b
def El (p q:Rat):PyData.eqv (frD p) (frD q)=decide (p=q):=eqv_fr p q
def Ap (p q:List Rat):PyData.eqv (yj p) (yj q)=decide (p=q):=by unfold yj;rw [PyData.eqv];exact bW El p q
def Ko (a:Int):(PyData.int a).canLay0=true:=by rw [PyData.canLay0]
def KI (a:Int):(PyData.int a).depth<=1:=by rw [PyData.depth];exact jap _
def Km (a:List Int):(Zb a).canLay0=true:=by unfold Zb;rw [PyData.canLay0];exact gT Ko a
def KH (a:List Int):(Zb a).depth<=2:=by unfold Zb;rw [PyData.depth];exact Nat.succ_le_succ (hV KI a)
def WT (h:d.canLay0=true) (g:d.depth<=n) (l:n<=64):SeqAt.shaped d=true:=by
 unfold SeqAt.shaped;rw [h,Te (Tc g l)];rfl
def VD (a:List Int):SeqAt.shaped (Zb a)=true:=WT (Km a) (KH a) nofun
def jL (a:Rat):SeqAt.shaped (frD a)=true:=WT (Dt a) (Ep a) nofun
def UZ (a:List Rat):SeqAt.shaped (yj a)=true:=WT (Ds a) (Eo a) nofun
def tyD:PyData->String
 | .none=>"NoneType"
 | .bool _=>"bool"
 | .int _=>"int"
 | .str _=>"str"
 | .list _=>"list"
 | .tuple _=>"tuple"
 | .dict _=>"dict"
def noIns:PyData->Bool
 | .dict _=>false
 |_=>true
def Is.ty {K:Frg} {d:PyData} (h:Is H d v) (nd:noIns d=true):TyOf K H v (.type (tyD d)):=by
 cases d with
 |none=>rw [Is] at h;subst h;exact .non
 |bool b=>rw [Is] at h;subst h;exact .bl b
 |int b=>rw [Is] at h;subst h;exact .int b
 |str b=>rw [Is] at h;subst h;exact .str b
 |list xs=>rw [Is] at h;obtain ⟨p,vs,rfl,e,_⟩:=h;exact .lst e
 |tuple xs=>rw [Is] at h;obtain ⟨p,vs,rfl,e,_⟩:=h;exact .tup e
 |dict _=>cases nd
def rd_isi {K:Frg} {d:PyData} {T:String} {b:Bool} (h:Is H d v) (e:PySem.W.kitOne K (.type (tyD d)) (.type T)=some b) (k:Q (.bl b) H) (nd:noIns d=true):rIsi K [v, .ty T] H Q:=⟨v,T,_,b,rfl,h.ty nd,e,k⟩
section
variable {K:Frg}
def kit_tt:PySem.W.kitOne K (.type "tuple") (.type "tuple")=some true:=by rfl
def kit_ib:PySem.W.kitOne K (.type "int") (.type "bool")=some false:=by rfl
def kit_ii:PySem.W.kitOne K (.type "int") (.type "int")=some true:=by rfl
end
def zN {α β:Type} {f:α->β} {l:List α} {i:Nat} {x:β} (h:(l.map f)[i]? =some x):∃n,l[i]? =some n/\x=f n:=by
 rw [Qg] at h
 cases e:l[i]? with
 |none=>rw [e] at h;cases h
 |some n=>rw [e] at h;exact ⟨n,rfl,(QJ h).symm⟩
def zE {α β:Type} (g:α->β) (d:α):∀l:List α,(List.range l.length).map (λi=>g (l.getD i d))=l.map g:=by
 intro l
 apply Tg
 intro i;rw [Qg,Qg]
 by_cases h:i<l.length
 ·rw [List.getElem?_range h,Qb h];simp [h]
 ·rw [QD (by simpa using Nat.le_of_not_lt h),QD ⋯];rfl
def zG {α:Type} {l:List α} {i:Nat} {n d:α} (h:l[i]? =some n):l.getD i d=n:=by rw [Ql,h];rfl
def Sta.int1 (S:Sta B G0 H cs ((.int n,v)::ds)):v= .int n:=S.top.int_of
def rd_gsub (h:to σ H λo H1=>ti σ H1 λi m=>t o i v m λg=>N σ g):gSub to ti t v σ H N:=h
def uX (h:xs.getLast? =some x):atI xs (-1)=some x:=by
 obtain ⟨ys,rfl⟩:∃ys,xs=ys++[x]:=by
  have g:xs≠[]:=by intro e;subst e;simp at h
  refine ⟨xs.dropLast,?_⟩;rw [Tj g] at h;rw [<-QJ h,jal]
 exact uY ys x
def Dats.nil:∀p∈([]:Dat),Has ds p.1 p.2:=λp hp=>absurd hp Qp
def Dats.cons (h:Has ds x v) (g:∀p∈r,Has ds p.1 p.2):∀p∈(x,v)::r,Has ds p.1 p.2:=λp hp=>by
 rcases Qn.mp hp with rfl|hp
 ·exact h
 ·exact g p hp
def FW {A X Y:Prop} (m:(if q=true then X else Y)->A) (r:(p && q)=true->X) (g:(p && q)=false->Y):if p=true then A else (if false=true then X else Y):=by
 cases p with
 |false=>exact g rfl
 |true=>
  refine m ?_
  cases q with
  |false=>exact g rfl
  |true=>exact r rfl
def tS (M:L2.St->Hp->Prop) (g:∀σ' H',M σ' H'->u D σ' H') (m:(∀σ' H',M σ' H'->u D σ' H')->t (mkD D (u D)) σ H):tSeq t u D σ H:=m g
def Lk (p q:Rat):PyData:= .tuple [.int (q.num*(p.den:Int) - p.num*(q.den:Int)), .int ((p.den:Int)*(q.den:Int))]
def Jj:Sp:=spT (α:=Rat×Rat) (λa=>[frD a.1,frD a.2]) (λa=>SzQ 2000 a.1/\SzQ 2000 a.2) (λa=>Lk a.1 a.2)
def rd_gap (S:Sta B G0 H cs ds) (m:Has ds (frD p) v) (g:Has ds (frD q) w) (s1:SzQ 2000 p) (s2:SzQ 2000 q) (k:∀r H',zV H H'->Sta B G0 H' cs ((Lk p q,r)::ds)->Q r H'):Jj [v,w] H Q E:=
 Ye (p,q) S (.cons m (.cons g .nil)) ⟨s1,s2⟩ k
def SzC (n:Nat) (c:zh):Prop:=SzQ n c.1/\∀q∈c.2,SzQ n q
def uE (hp:SzQ 2000 p) (g:SzQ 2000 q):Sz 4001 (q.num*(p.den:Int) - p.num*(q.den:Int))/\Sz 4001 ((p.den:Int)*(q.den:Int)):=
 ⟨(g.1.mul hp.2).sub (hp.1.mul g.2),(hp.2.mul g.2).mono nofun⟩
open Classical in
noncomputable def Jg:Sp:=spB (α:=zh×zh×zh) (λa=>[yb a.1,yb a.2.1,yb a.2.2]) (λa=>SzC 2000 a.1/\SzC 2000 a.2.1/\SzC 2000 a.2.2/\a.2.1.2.length=a.1.2.length/\a.2.2.2.length=a.1.2.length/\a.1.2.length<=1000) (λa=> .bl (decide (zY a.1 a.2.1 a.2.2)))
open Classical in
def rd_str (S:Sta B G0 H cs ds) (s:Has ds (yb a) v) (r:Has ds (yb b) w) (q:Has ds (yb c) u) (sa:SzC 2000 a) (sb:SzC 2000 b) (sc:SzC 2000 c) (p:b.2.length=a.2.length) (m:c.2.length=a.2.length) (g:a.2.length<=1000)
 (k:∀H',Sta B G0 H' cs ds->Q (.bl (decide (zY a b c))) H'):Jg [v,w,u] H Q E:=
 Vb (a,b,c) (S.hpAll (.cons s (.cons r (.cons q .nil)))) ⟨sa,sb,sc,p,m,g⟩ λH' e=>k H' (S.same e)
structure PathOk (m:Nat) (cs:List zh):Prop where
 sz:∀c∈cs,SzC 2000 c
 len:∀c∈cs,c.2.length=m
 m:m<=1000
 few:cs.length<=900
noncomputable def fh:Sp:=spL (α:=List zh) (λa=>[yJ a]) (λa=>∃m,PathOk m a) (λa=>(yv a).map yb)
def vV (S:Sta B G0 H cs ds) (h:Has ds (yJ a) v) (ok:PathOk m a) (k:∀p H',zV H H'->Sta B G0 H' ((p,(yv a).map yb)::cs) ds->Q (.ref p) H'):fh [v] H Q E:=
 ZF a S (.cons h .nil) ⟨m,ok⟩ k
def kPart (R:Option Int->Hp->Prop):VK:=λx H1=>∃i,x= .int i/\R (some i) H1
section
variable {K:Frg}
def rd_sl (h:te σ H λx H1=>tl σ H1 λl m=>th σ m λu g=>r x l u g Q):tSl r te tl th σ H Q:=h
def rd_noPart (h:R none H):Bh σ H R:=h
def rd_part (h:t σ H (kPart R)):tPart t σ H R:=h
def rd_kPart (h:R (some i) H):kPart R (.int i) H:=⟨i,rfl,h⟩
def cutI (ns:List Int) (lo g:Option Int):List Int:=(ns.drop (HT.sIx ns.length 0 lo)).take (HT.sIx ns.length ns.length g - HT.sIx ns.length 0 lo)
theorem Yw:∀ns:List Int,zL G (ns.map PyData.int) (ns.map V.int)
 |[]=>by rw [TC,TC,zL]
 |n::ns=>by rw [Qk,Qk,zL];exact ⟨_,_,rfl,by rw [Is],Yw ns⟩
def rd_slS {a:Addr} {ns:List Int} {lo g:Option Int} (S:Sta B G0 H cs ds) (p:SqL K H a (ns.map V.int)) (k:∀l H',zV H H'->Sta B G0 H' ((l,(cutI ns lo g).map PyData.int)::cs) ds->Q (.ref l) H'):rSlL K (.ref a) lo g H Q:=by
 refine ⟨a,_,rfl,p,λl m=>k l _ (zV.new m _) ?_⟩
 have e:IF (ns.map V.int) lo g=(cutI ns lo g).map V.int:=by
  unfold IF cutI;rw [Qa,<-List.map_drop,<-List.map_take]
 rw [e];exact S.newL m λG _=>Yw _
end
end
def HV (K:Frg) (a:Addr) (n:Nat):It:=
 ⟨λi H=>i<n/\∃xs x,SqL K H a xs/\xs[n - 1 - i]? =some x,λi H x H'=>H'=H/\∀xs,SqL K H a xs->xs[n - 1 - i]? =some x,λi _=>n<=i⟩
def Fy {P:Program} {w:World} {K:Frg} {C:Expr} (a it:Addr) (n:Nat):Turn P w K C (HV K a n) [it] it (λi h=>i<=n/\h.IsRevIter it a ((n:Int) - 1 - (i:Nat))) where
 mem:=by simp
 obj:=λi h st b g=>by
  have e:b=it:=by simpa using g
  subst e;obtain ⟨_,o,e,c,d⟩:=st;exact ⟨o,e,λv z=>by rw [d] at z;cases z⟩
 keep:=λi h h' st k=>⟨st.1,st.2.at λo e=>k it (by simp) o e⟩
 item:=by
  intro X hP hw hK hc i pins s σ H E I hf st hg;subst hP hw hK;obtain ⟨T,xs,x,y,t⟩:=hg;obtain ⟨its,D,p,O⟩:=I.list y;obtain ⟨u,J,ru⟩:=D.get t;obtain ⟨f0,f1,f2,r,f4,q⟩:=hf it (by simp);have L:(n:Int) - 1 - (i:Nat)=((n - 1 - i:Nat):Int):=⋯
  have m:=st.2;rw [L] at m;refine wpAny_pyNext_rev_item m p.isList ‹J› λh' A sb=>?_;have N:Inv X pins σ H {s with heap:=h'}:=I.turned (λb o g e=>(sb.2 b g).trans e) f0 f1 r f4 q;obtain ⟨o,e,c,d⟩:=id A
  exact ⟨u,rfl,Hn e c d nofun ⟨x,H,N,ru,⟨rfl,λys G=>by rw [I.list_inj G y];exact t⟩,⟨⋯,by
   rw [show (n:Int) - 1 - ((i+1:Nat):Int)=((n - 1 - i:Nat):Int) - 1 by lia];exact A⟩,λb g=>(hf b g).1⟩⟩
 done:=by
  intro X hP hw hK hc i pins s σ H E I hf st hg;subst hP hw hK;obtain ⟨f0,f1,f2,r,f4,q⟩:=hf it (by simp);have U:n<=i:=hg;have m:=st.2;rw [show (n:Int) - 1 - (i:Nat)= -1 by have:=st.1;lia] at m;exact wpAny_pyNext_rev_end (I.ok.hd hc) m λh' M=>⟨rfl,I.turned (λb o g e=>M b o g e) f0 f1 r f4 q⟩
 self:=λ_ _ _ _ _ st h=>wpAny_pyIter_revIter st.2 h
def iRev (K:Frg) (g:TA):TI:=λσ H R=>g σ H λvs H1=>∃a xs,vs=[.ref a]/\SqL K H1 a xs/\R (HV K a xs.length) H1
section
def pi_rev {r a:Expr} {m:TA} {p pos:Pos} (G:Gl X "reversed") (hm:X.mg "reversed"=none) (ha:PA X [a] m) (A:starEach [a] X.env=[(false,eval a X.env)]:=by rfl):
 PI X r (.Call (.Name "reversed" p) [a] [] pos) (iRev X.K m):=by
 intro pins s σ H R I h;refine Call_ (Uc I G hm sL (TV (thn (ha pos pins s σ H _ I h) ?_) A rfl));rintro us s1 ⟨vs,H1,g,w,y⟩;obtain ⟨l,xs,e,C,q⟩:=y;subst e;obtain ⟨u,rfl,ru⟩:=eR w;cases (show u=Value.ref l from ru);obtain ⟨its,t,z,M⟩:=g.list C;have D:=t.length;refine call_reversed_list z.isList ?_
 have hit:Heap.IsRevIter (s1.heap.push (revObj l ((its.toArray.size:Int) - 1))) s1.heap.objs.size l ((xs.length:Int) - 1 - ((0:Nat):Int)):=⟨_,Qx _ rfl,rfl,by
  show Data.fields #[.ref l,rawInt ((its.toArray.size:Int) - 1)]=_
  rw [QL,<-D];simp⟩
 refine wpAny_pyIter_revIter hit ?_;have L:Inv X pins σ H1 {s1 with heap:=s1.heap.push (revObj l ((its.toArray.size:Int) - 1))}:=g.kept λb o e=>Qj _ e;refine ⟨s1.heap.objs.size,[s1.heap.objs.size],_,_,H1,rfl,L,Fy l _ xs.length,⟨jap _,hit⟩,λb J=>?_,q⟩;have e:b=s1.heap.objs.size:=by simpa using J
 subst e;exact g.fpOk (Qu _) (g.hok.fresh (Qu _))
end
def kRv (K:Frg) (R:It->Hp->Prop):List V->Hp->Prop:=λvs H1=>∃a xs,vs=[.ref a]/\SqL K H1 a xs/\R (HV K a xs.length) H1
section
variable {B G0 H:Hp} {cs:xg} {ds:Dat} {K:Frg} {a:Addr} {xs ys:List PyData} {P:xg->Dat->Prop} {v:V} {σ:L2.St} {R:It->Hp->Prop} {ta:TA}
def rd_iRv (h:ta σ H (kRv K R)):iRev K ta σ H R:=h
def wk_rev (s:Src B G0 true K a xs P):Wk B G0 (HV K a xs.length) xs.reverse P where
 go:=λ{H cs ds i} S h g=>by
  rw [Tu] at g;obtain ⟨vs,q,m,_⟩:=s S h;exact ⟨g,vs,vs[xs.length - 1 - i]'⋯,q,Qb _⟩
 stop:=λ{H cs ds i} S h g=>by rw [Tu] at g;exact g
 yld:=λ{H H' cs ds i x v} S h hx y=>by
  obtain ⟨e,y⟩:=y;subst e;obtain ⟨vs,q,m,z⟩:=s S h;have g:i<xs.length:=by have:=(Qd.mp hx).1;rwa [Tu] at this
  rw [List.getElem?_reverse g] at hx;obtain ⟨w,hw,p⟩:=z _ x hx;have:=y vs q;rw [hw] at this;cases this;exact ⟨zV.refl _,p⟩
def JC (S:Sta B G0 H cs ds) (h:Has ds (.list xs) v) (k:∀J,Wk B G0 J xs.reverse (λ_ ds=>Has ds (.list xs) v)->R J H):kRv K R [v] H:=by
 obtain ⟨p,vs,rfl,hp,g,_⟩:=S.lst h;refine ⟨p,vs,rfl,SqL.of hp,?_⟩;rw [<-g];exact k _ (wk_rev VB)
end
def Up (l c:zh):zh:=(l.1 - c.1,List.zipWith (· - ·) l.2 c.2)
def VW (l c:zh):zh:=(l.1+c.1,List.zipWith (·+·) l.2 c.2)
def lastC (a:List zh):zh:=a.getLast?.getD (0,[])
def yA (a:List zh):List zh:=a.reverse.map (Up (lastC a))
def yd (p:Rat) (a:List zh):List zh:=a.map λc=>(c.1*p,c.2.map (·*p))
def yM (a b:List zh):List zh:=b.tail.map (VW (lastC a))
section
def ou (g:Rat->Rat->Rat):Sp:=spT (α:=List Rat×List Rat) (λa=>[yj a.1,yj a.2]) (λa=>(∀q∈a.1,SzQ 4000 q)/\(∀q∈a.2,SzQ 4000 q)/\a.1.length<=1000) (λa=>yj (List.zipWith g a.1 a.2))
def Co (S:Sta B G0 H cs ds) (t:Has ds (yj p) v) (s:Has ds (yj q) w) (s1:∀x∈p,SzQ 4000 x) (s2:∀x∈q,SzQ 4000 x) (m:p.length<=1000)
 (k:∀r H',zV H H'->Sta B G0 H' cs ((yj (List.zipWith g p q),r)::ds)->Q r H'):ou g [v,w] H Q E:=
 Ye (p,q) S (.cons t (.cons s .nil)) ⟨s1,s2,m⟩ k
structure PathIn (a:List zh):Prop where
 ne:a≠[]
 sz:∀c∈a,SzC 4000 c
 len:∀c∈a,c.2.length<=1000
 few:a.length<=450
def PathIn.last (h:PathIn a):a.getLast? =some (lastC a)/\lastC a∈a:=by
 obtain ⟨l,g⟩:∃l,a.getLast? =some l:=⟨_,Tj h.ne⟩;have e:lastC a=l:=by unfold lastC;rw [g];rfl
 rw [e];exact ⟨g,jaj g⟩
def SzC.mono (h:SzC m c) (l:m<=n):SzC n c:=⟨h.1.mono l,λq g=>(h.2 q g).mono l⟩
def dU:Sp:=spL (α:=List zh) (λa=>[yJ a]) PathIn (λa=>(yA a).map yb)
def oP (S:Sta B G0 H cs ds) (h:Has ds (yJ a) v) (ok:PathIn a) (k:∀p H',zV H H'->Sta B G0 H' ((p,(yA a).map yb)::cs) ds->Q (.ref p) H'):dU [v] H Q E:=
 ZF a S (.cons h .nil) ok k
def kX:Sp:=spL (α:=List zh×Rat) (λa=>[yJ a.1,frD a.2]) (λa=>PathIn a.1/\SzQ 4000 a.2) (λa=>(yd a.2 a.1).map yb)
def oV (S:Sta B G0 H cs ds) (h:Has ds (yJ a) v) (g:Has ds (frD p) w) (ok:PathIn a) (sp:SzQ 4000 p) (k:∀q H',zV H H'->Sta B G0 H' ((q,(yd p a).map yb)::cs) ds->Q (.ref q) H'):kX [v,w] H Q E:=
 ZF (a,p) S (.cons h (.cons g .nil)) ⟨ok,sp⟩ k
noncomputable def UW:Sp:=spL (α:=List zh×List zh) (λa=>[yJ a.1,yJ a.2]) (λa=>PathIn a.1/\PathIn a.2/\∃m,PathOk m (a.1++yM a.1 a.2)) (λa=>(yv (a.1++yM a.1 a.2)).map yb)
def ph (S:Sta B G0 H cs ds) (h:Has ds (yJ a) v) (g:Has ds (yJ b) w) (ok:PathIn a) (r:PathIn b) (q:PathOk m (a++yM a b))
 (k:∀p H',zV H H'->Sta B G0 H' ((p,(yv (a++yM a b)).map yb)::cs) ds->Q (.ref p) H'):UW [v,w] H Q E:=
 ZF (a,b) S (.cons h (.cons g .nil)) ⟨ok,r,m,q⟩ k
end
def Zm (t x y:Rat):Rat:=x+t*(y - x)
def Wh (c d:zh) (E:Rat):List Rat:=List.zipWith (Zm ((E - c.1) / (d.1 - c.1))) c.2 d.2
def zg:List zh->Rat->List Rat
 |[],_=>[]
 |[c],_=>c.2
 |c::d::r,E=>if E<d.1 then Wh c d E else zg (d::r) E
def yx (a:List zh):Prop:=a.Pairwise λc d=>c.1<d.1
theorem Zx:∀{a:List zh} {i:Nat} {c:zh},yx a->a[i]? =some c->c.1<=E->(i+1=a.length\/∃d,a[i+1]? =some d/\E<d.1)->zg a E=match a[i+1]? with|none=>c.2|some d=>Wh c d E
 |[],i,c,_,h,_,_=>by simp at h
 |[b],i,c,_,h,_,_=>by
  cases i with
  |zero=>cases h;rfl
  |succ i=>simp at h
 |b::d::r,i,c,hr,h,hc,g=>by
  cases i with
  |zero=>
   cases h
   rcases g with g|⟨d',m,g⟩
   ·simp at g
   ·cases m;rw [zg,QH g];rfl
  |succ i=>
   have p:yx (d::r):=(Qo.mp hr).2;have h':(d::r)[i]? =some c:=by simpa using h
   have hd:d.1<=c.1:=by
    cases i with
    |zero=>cases h';exact QQ
    |succ i=>exact QE ((Qo.mp p).1 c (Qc ‹h'›))
   have q:¬E<d.1:=Ti.mpr (TL hd hc);rw [zg,QS q]
   have:=Zx p h' hc (by
    rcases g with g|⟨d',m,g⟩
    ·left;simpa using g
    ·right;exact ⟨d',by simpa using m,g⟩)
   rw [this]
   simp
def Df (x y:Rat):Zm 0 x y=x:=by unfold Zm;grind
def uj (x y:Rat):Zm 1 x y=y:=by unfold Zm;grind
theorem nR (hf:∀x y,f x y=x):∀{l r:List Rat},l.length=r.length->List.zipWith f l r=l
 |[],[],_=>rfl
 |x::l,y::r,h=>by rw [jak,hf,nR hf ‹h›]
 |[],_::_,h=>by simp at h
 |_::_,[],h=>by simp at h
theorem jJ (hf:∀x y,f x y=y):∀{l r:List Rat},l.length=r.length->List.zipWith f l r=r
 |[],[],_=>rfl
 |x::l,y::r,h=>by rw [jak,hf,jJ hf ‹h›]
 |[],_::_,h=>by simp at h
 |_::_,[],h=>by simp at h
def Wa (h:c.2.length=d.2.length):Wh c d c.1=c.2:=by
 unfold Wh;have:(c.1 - c.1) / (d.1 - c.1)=0:=by rw [Rat.sub_self,jac,jbS]
 rw [this];exact nR Df h
def uV (h:c.2.length=d.2.length) (g:c.1<d.1):Wh c d d.1=d.2:=by
 unfold Wh
 have m:d.1 - c.1≠0:=λz=>by
  have:d.1=c.1:=by grind
  rw [this] at g;exact jaS g
 have:(d.1 - c.1) / (d.1 - c.1)=1:=by rw [jac];exact To _ m
 rw [this];exact jJ uj h
section
def tP:Sp:=λvs H Q _=>∃(qs:List Rat) (e:Rat) (n:Nat),zL H [.list (qs.map frD),frD e] vs/\(0<qs.length/\qs.length<=1000000/\(∀q∈qs,SzQ n q)/\SzQ n e/\n<=40000000/\∀q,qs[0]? =some q->q<=e)/\
 ∀(i:Nat) (q:Rat),qs[i]? =some q->q<=e->(i+1=qs.length\/∃r,qs[i+1]? =some r/\e<r)->Q (.int (i:Nat)) H
def Ci {qs:List Rat} {e:Rat} {n:Nat} (S:Sta B G0 H cs ds) (m:Is H (.list (qs.map frD)) v) (g:Is H (frD e) w) (hd:0<qs.length/\qs.length<=1000000/\(∀q∈qs,SzQ n q)/\SzQ n e/\n<=40000000/\∀q,qs[0]? =some q->q<=e)
 (k:∀(i:Nat) (q:Rat),qs[i]? =some q->q<=e->(i+1=qs.length\/∃r,qs[i+1]? =some r/\e<r)->Q (.int (i:Nat)) H):tP [v,w] H Q E:=
 ⟨qs,e,n,by simp only [zL];exact ⟨_,_,rfl,m,_,_,rfl,g,rfl⟩,hd,k⟩
def UT:Sp:=spT (α:=Rat×Rat×Rat) (λa=>[frD a.1,frD a.2.1,frD a.2.2]) (λa=>(∃m n,SzQ n a.1/\SzQ n a.2.1/\SzQ m a.2.2/\(m+n+1<=8999/\4*n+2<=8999))/\a.2.1≠a.1) (λa=>frD ((a.2.2 - a.1) / (a.2.1 - a.1)))
def jS (S:Sta B G0 H cs ds) (y:Has ds (frD s) v) (t:Has ds (frD e) w) (q:Has ds (frD x) u) (z1:SzQ n s) (z2:SzQ n e) (g:SzQ m x) (p:(m+n+1<=8999/\4*n+2<=8999)) (z:e≠s)
 (k:∀r H',zV H H'->Sta B G0 H' cs ((frD ((x - s) / (e - s)),r)::ds)->Q r H'):UT [v,w,u] H Q E:=
 Ye (s,e,x) S (.cons y (.cons t (.cons q .nil))) ⟨⟨m,n,z1,z2,g,p⟩,z⟩ k
def dX:Sp:=spT (α:=Rat×Rat×Rat) (λa=>[frD a.1,frD a.2.1,frD a.2.2]) (λa=>∃m n,SzQ n a.1/\SzQ n a.2.1/\SzQ m a.2.2/\(m<=8999/\4*n+2<=8999)) (λa=>frD (Zm a.2.2 a.1 a.2.1))
def pA (S:Sta B G0 H cs ds) (z:Has ds (frD s) v) (y:Has ds (frD e) w) (q:Has ds (frD t) u) (z1:SzQ n s) (z2:SzQ n e) (g:SzQ m t) (p:(m<=8999/\4*n+2<=8999))
 (k:∀r H',zV H H'->Sta B G0 H' cs ((frD (Zm t s e),r)::ds)->Q r H'):dX [v,w,u] H Q E:=
 Ye (s,e,t) S (.cons z (.cons y (.cons q .nil))) ⟨m,n,z1,z2,g,p⟩ k
def ft:Sp:=spT (α:=zh×zh×Rat) (λa=>[yb a.1,yb a.2.1,frD a.2.2]) (λa=>(∃m n,SzC n a.1/\SzC n a.2.1/\SzQ m a.2.2/\(m+3*n+2<=8999/\4*n+2<=8999))/\a.1.1<a.2.1.1/\a.1.2.length<=1000) (λa=>yj (Wh a.1 a.2.1 a.2.2))
def wg (S:Sta B G0 H cs ds) (y:Has ds (yb c) v) (t:Has ds (yb d) w) (s:Has ds (frD e) u) (z1:SzC n c) (z2:SzC n d) (g:SzQ m e) (p:(m+3*n+2<=8999/\4*n+2<=8999)) (z:c.1<d.1) (q:c.2.length<=1000)
 (k:∀r H',zV H H'->Sta B G0 H' cs ((yj (Wh c d e),r)::ds)->Q r H'):ft [v,w,u] H Q E:=
 Ye (c,d,e) S (.cons y (.cons t (.cons s .nil))) ⟨⟨m,n,z1,z2,g,p⟩,z,q⟩ k
structure PathR (n:Nat) (a:List zh):Prop where
 ne:a≠[]
 sz:∀c∈a,SzC n c
 len:∀c∈a,c.2.length<=1000
 few:a.length<=900
 rise:yx a
 zero:∀c,a[0]? =some c->c.1=0
def UU:Sp:=spT (α:=List zh×Rat) (λa=>[yJ a.1,frD a.2]) (λa=>∃m n,PathR n a.1/\SzQ m a.2/\(m+3*n+2<=8999/\4*n+2<=8999)/\0<=a.2) (λa=>yj (zg a.1 a.2))
def bD (S:Sta B G0 H cs ds) (q:Has ds (yJ a) v) (p:Has ds (frD e) w) (ok:PathR n a) (z:SzQ m e) (g:(m+3*n+2<=8999/\4*n+2<=8999)) (h0:0<=e)
 (k:∀r H',zV H H'->Sta B G0 H' cs ((yj (zg a e),r)::ds)->Q r H'):UU [v,w] H Q E:=
 Ye (a,e) S (.cons q (.cons p .nil)) ⟨m,n,ok,z,g,h0⟩ k
end
def ya {a b:Rat} (h:a*b=0) (g:b≠0):a=0:=by
 have m:=To b g;have:a=a*b*b⁻¹:=by rw [Rat.mul_assoc,m,Rat.mul_one]
 rw [this,h,jbS]
def xY {a b:Rat} (h:a<b):b - a≠0:=λz=>by
 have:b=a:=by grind
 rw [this] at h;exact jaS h
def xl {s e x y E:Rat} (h:s<e):(Zm ((E - s) / (e - s)) x y - x)*(e - s)=(E - s)*(y - x):=by
 have g:=To _ (xY h);unfold Zm;rw [jac];generalize (e - s)⁻¹=i at*
 grind
def Xf {c d:zh} {E:Rat} {i:Nat} {z:Rat} (h:(Wh c d E)[i]? =some z):∃x y,c.2[i]? =some x/\d.2[i]? =some y/\z=Zm ((E - c.1) / (d.1 - c.1)) x y:=by
 unfold Wh at h;rw [Qr] at h
 cases hx:c.2[i]? with
 |none=>rw [hx] at h;cases h
 |some x=>
  cases hy:d.2[i]? with
  |none=>rw [hx,hy] at h;cases h
  |some y=>rw [hx,hy] at h;exact ⟨x,y,rfl,rfl,(QJ h).symm⟩
structure PathT (m:Nat) (a:List zh):Prop where
 rise:yx a
 len:∀c∈a,c.2.length=m
 thin:∀(i:Nat) (x y z:zh),a[i]? =some x->a[i+1]? =some y->a[i+2]? =some z->¬zY x y z
def PathT.tail (h:PathT m (c::a)):PathT m a:=
 ⟨(Qo.mp h.rise).2,λx g=>h.len x (Qf _ g),λi x y z g q p=>h.thin (i+1) x y z ‹g› ‹q› ‹p›⟩
def yc (h:d.1<=E):zg (c::d::r) E=zg (d::r) E:=by
 rw [zg,QS (Ti.mpr h)]
def ZU (h:PathT m (c::r)):zg (c::r) c.1=c.2:=by
 cases r with
 |nil=>rfl
 |cons d r=>
  rw [zg,QH ((Qo.mp h.rise).1 d (Qe ..)),Wa];rw [h.len c (Qe ..),h.len d (Qf _ (Qe ..))]
theorem Dv:∀{c:zh} {r:List zh},PathT m (c::r)->c.1<=(lastC (c::r)).1
 |c,[],_=>QQ
 |c,d::r,h=>by
  have p:=(Qo.mp h.rise).1 d (Qe ..);have g:=Dv h.tail;have e:lastC (c::d::r)=lastC (d::r):=by unfold lastC;rw [TM]
  rw [e];exact TL (QE p) g
def ZW (c d:zh) (r:List zh):lastC (c::d::r)=lastC (d::r):=by unfold lastC;rw [TM]
theorem ZT {m:Nat} {u v E:Rat} (K:u<=E) (J:E<=v) (N:u<v):∀{c:zh} {r:List zh},PathT m (c::r)->c.1<=u->(∀x∈r,¬(u<x.1/\x.1<v))->
 ∀(i:Nat) (x y z:Rat),(zg (c::r) u)[i]? =some x->(zg (c::r) v)[i]? =some y->(zg (c::r) E)[i]? =some z->(z - x)*(v - u)=(y - x)*(E - u)
 |c,[],_,_,_,i,x,y,z,g,hy,hz=>by
  have e1:c.2[i]? =some x:=g;have D:c.2[i]? =some y:=hy;have C:c.2[i]? =some z:=hz;rw [e1] at D C;cases D;cases C
  grind
 |c,d::r,h,hc,hno,i,x,y,z,g,hy,hz=>by
  have w:=(Qo.mp h.rise).1 d (Qe ..)
  by_cases hd:d.1<=u
  ·rw [yc hd] at g;rw [yc (TL hd (QE N))] at hy;rw [yc (TL hd K)] at hz;exact ZT K J N h.tail hd (λx g=>hno x (Qf _ g)) i x y z g hy hz
  ·have L:u<d.1:=jan.mp hd;have s:v<=d.1:=Ti.mp λMu=>hno d (Qe ..) ⟨L,Mu⟩
   have key:∀t:Rat,t<=d.1->zg (c::d::r) t=Wh c d t:=by
    intro t ht
    by_cases A:t<d.1
    ·rw [zg,QH A]
    ·have e:t=d.1:=jaK ht (Ti.mp A);rw [e,yc QQ,ZU h.tail,uV (by rw [h.len c (Qe ..),h.len d (Qf _ (Qe ..))]) w]
   rw [key u (QE L)] at g;rw [key v s] at hy;rw [key E (TL J s)] at hz;obtain ⟨p,q,hp,Z,ex⟩:=Xf g;obtain ⟨p',q',O,M,ey⟩:=Xf hy;obtain ⟨T,P,G,I,ez⟩:=Xf hz;rw [hp] at O G;rw [Z] at M I;cases O;cases G;cases M;cases I;have Y:=xl (x:=p) (y:=q) (E:=u) w;have X:=xl (x:=p) (y:=q) (E:=v) w;have U:=xl (x:=p) (y:=q) (E:=E) w;rw [<-ex] at Y;rw [<-ey] at X;rw [<-ez] at U;have k:((z - x)*(v - u) - (y - x)*(E - u))*(d.1 - c.1)=0:=by grind
   have:=ya k (xY w)
   grind
theorem YB:∀{c:zh} {r:List zh},(∀x∈c::r,x.2.length=m)->(zg (c::r) E).length=m
 |c,[],h=>h c (Qe ..)
 |c,d::r,h=>by
  rw [zg]
  split
  ·unfold Wh;rw [QB,h c (Qe ..),h d (Qf _ (Qe ..)),Tx]
  ·exact YB λx g=>h x (Qf _ g)
def yC:List Rat->List Rat->List Rat
 |[],ys=>ys
 |x::xs,[]=>x::xs
 |x::xs,y::ys=>if x<y then x::yC xs (y::ys) else if x=y then y::yC xs ys else y::yC (x::xs) ys
termination_by xs ys=>xs.length+ys.length
theorem gH:∀xs:List Rat,yC xs []=xs
 |[]=>by rw [yC]
 |x::xs=>by rw [yC]
theorem YQ:∀{xs ys:List Rat},e∈yC xs ys↔e∈xs\/e∈ys
 |[],ys=>by rw [yC];simp
 |x::xs,[]=>by rw [yC];simp
 |x::xs,y::ys=>by
  rw [yC]
  split
  ·rw [Qn,YQ,Qn,Qn]
   constructor<;>intro h<;>grind
  ·split
   ·rename_i m g;subst g;rw [Qn,YQ,Qn,Qn]
    constructor<;>intro h<;>grind
   ·rw [Qn,YQ,Qn,Qn]
    constructor<;>intro h<;>grind
termination_by xs ys=>xs.length+ys.length
def xr {a b c:Rat} (h:a<b) (g:b<c):a<c:=by grind
def UM (l:List Rat):Prop:=l.Pairwise (·<·)
theorem VE:∀{xs ys:List Rat},UM xs->UM ys->UM (yC xs ys)
 |[],ys,_,hy=>by rw [yC];exact hy
 |x::xs,[],hx,_=>by rw [yC];exact hx
 |x::xs,y::ys,hx,hy=>by
  obtain ⟨r,t⟩:=Qo.mp hx;obtain ⟨s,p⟩:=Qo.mp hy;rw [yC]
  split
  ·rename_i h;refine Qo.mpr ⟨λe he=>?_,VE t hy⟩
   rcases YQ.mp he with g|g
   ·exact r e g
   ·rcases Qn.mp g with rfl|g
    ·exact h
    ·exact xr h (s e g)
  ·split
   ·rename_i g q;subst q;refine Qo.mpr ⟨λe he=>?_,VE t p⟩
    rcases YQ.mp he with h|h
    ·exact r e h
    ·exact s e h
   ·rename_i g q
    have m:y<x:=by
     rcases Rat.le_iff_lt_or_eq.mp (Ti.mp g) with h|h
     ·exact h
     ·exact absurd h.symm q
    refine Qo.mpr ⟨λe he=>?_,VE hx p⟩
    rcases YQ.mp he with h|h
    ·rcases Qn.mp h with rfl|h
     ·exact m
     ·exact xr m (r e h)
    ·exact s e h
termination_by xs ys=>xs.length+ys.length
theorem av:∀(xs ys:List Rat),(yC xs ys).length<=xs.length+ys.length
 |[],ys=>by rw [yC];simp
 |x::xs,[]=>by rw [yC];simp
 |x::xs,y::ys=>by
  rw [yC]
  split
  ·have:=av xs (y::ys);simp only [Qy] at*;lia
  ·split
   ·have:=av xs ys;simp only [Qy] at*;lia
   ·have:=av (x::xs) ys;simp only [Qy] at*;lia
termination_by xs ys=>xs.length+ys.length
section
def lr:Sp:=spL (α:=List Rat×List Rat) (λa=>[.list (a.1.map frD), .list (a.2.map frD)]) (λa=>(∃n,(∀q∈a.1,SzQ n q)/\(∀q∈a.2,SzQ n q)/\n<=40000000)/\a.1.length<=450/\a.2.length<=450) (λa=>(yC a.1 a.2).map frD)
def Cg (S:Sta B G0 H cs ds) (t:Has ds (.list (p.map frD)) v) (s:Has ds (.list (q.map frD)) w) (z1:∀x∈p,SzQ n x) (z2:∀x∈q,SzQ n x) (hn:n<=40000000) (m:p.length<=450) (g:q.length<=450)
 (k:∀r H',zV H H'->Sta B G0 H' ((r,(yC p q).map frD)::cs) ds->Q (.ref r) H'):lr [v,w] H Q E:=
 ZF (p,q) S (.cons t (.cons s .nil)) ⟨⟨n,z1,z2,hn⟩,m,g⟩ k
def yi (a:List zh):List Rat:=a.map λc=>c.1
end
def nS (m:Nat):(YG m).sum=0:=by
 unfold YG
 induction m with
 |zero=>rfl
 |succ m g=>rw [Tt,QR,g];rfl
def gG (t:UM M)  (r:M[j]? =some u) (q:M[j+1]? =some v) (he:e∈M):¬(u<e/\e<v):=by
 rintro ⟨z,y⟩
 obtain ⟨i,s⟩:=Qv.mp he;obtain ⟨li,g⟩:=Qd.mp s;obtain ⟨p,m⟩:=Qd.mp r;obtain ⟨lv,ev⟩:=Qd.mp q;have pw:=QN.mp t
 by_cases c:i<=j
 ·rcases Nat.lt_or_eq_of_le c with c|c
  ·have:=pw i j li p c;rw [g,m] at this
   grind
  ·subst c;rw [g] at m;subst m
   grind
 ·by_cases w:i=j+1
  ·subst w;rw [g] at ev;subst ev
   grind
  ·have:=pw (j+1) i lv li ⋯;rw [g,ev] at this
   grind
def Wu (h:yx a):UM (yi a):=by
 unfold UM yi;rw [QZ];exact h
section
def kU:Sp:=λvs H Q _=>∃n:Int,vs=[.int n]/\Q (.bl true) H
def rd_whole (k:Q (.bl true) H):kU [.int n] H Q E:=⟨n,rfl,k⟩
def Bv:Sp:=spB (α:=Rat) (λa=>[frD a]) (λ_=>True) (λ_=> .bl true)
def JH (S:Sta B G0 H cs ds) (h:Has ds (frD q) v) (k:∀H',Sta B G0 H' cs ds->Q (.bl true) H'):Bv [v] H Q E:=
 Vb q (S.hpAll (.cons h .nil)) trivial λH' e=>k H' (S.same e)
end
def zH:List Rat->Rat
 |[]=>0
 |x::r=>x+zH r
theorem fc:∀x y:List Rat,zH (x++y)=zH x+zH y
 |[],y=>by rw [jaI,zH];grind
 |a::x,y=>by rw [TB,zH,zH,fc x y];grind
def Xy (m:Nat):zH (List.replicate m 0)=0:=by
 induction m with
 |zero=>rfl
 |succ m g=>rw [Tt,zH,g];grind
theorem kP (t:Rat):∀x y:List Rat,x.length=y.length->zH (List.zipWith (Zm t) x y)=Zm t (zH x) (zH y)
 |[],[],_=>by rw [List.zipWith_nil_left,zH];unfold Zm;grind
 |a::x,b::y,h=>by
  rw [jak,zH,zH,zH,kP t x y ‹h›];unfold Zm;grind
 |[],_::_,h=>by simp at h
 |_::_,[],h=>by simp at h
def LeV (x y:List Rat):Prop:=∀(i:Nat) (a b:Rat),x[i]? =some a->y[i]? =some b->a<=b
structure PathM (m:Nat) (a:List zh):Prop where
 t:PathT m a
 sums:∀c∈a,zH c.2=c.1
 mono:a.Pairwise λc d=>LeV c.2 d.2
def PathM.tail (h:PathM m (c::a)):PathM m a:=
 ⟨h.t.tail,λx g=>h.sums x (Qf _ g),(Qo.mp h.mono).2⟩
def ui (h:s<e) (q:u<=v) (p:x<=y):Zm ((u - s) / (e - s)) x y<=Zm ((v - s) / (e - s)) x y:=by
 have m:=xl (x:=x) (y:=y) (E:=u) h;have g:=xl (x:=x) (y:=y) (E:=v) h;have hp:0<e - s:=by grind
 have h0:0<=(v - u)*(y - x):=QO (by grind) (by grind);refine Rat.le_of_mul_le_mul_left ?_ hp
 grind
theorem YO (z:u<=v):∀{c:zh} {r:List zh},PathM m (c::r)->c.1<=u->LeV (zg (c::r) u) (zg (c::r) v)
 |c,[],_,_=>λi a b ha g=>by
  have s:c.2[i]? =some a:=ha;have G:c.2[i]? =some b:=g;rw [s] at G;cases G;exact QQ
 |c,d::r,h,hc=>λi a b ha g=>by
  have w:=(Qo.mp h.t.rise).1 d (Qe ..);have hm:=(Qo.mp h.mono).1 d (Qe ..)
  by_cases hd:d.1<=u
  ·rw [yc hd] at ha;rw [yc (TL hd z)] at g;exact YO z h.tail hd i a b ha g
  ·have I:u<d.1:=jan.mp hd;rw [zg,QH I] at ha;obtain ⟨x,y,A,p,D⟩:=Xf ha;have L:=hm i x y A p
   by_cases C:v<d.1
   ·rw [zg,QH C] at g;obtain ⟨T,P,M,K,O⟩:=Xf g;rw [A] at M;cases M;rw [p] at K;cases K;rw [D,O];exact ui w z L
   ·have J:d.1<=v:=Ti.mp C;rw [yc J] at g;have N:=YO J h.tail QQ i y b (by rw [ZU h.t.tail];exact p) g;have q:=ui w (QE I) L;rw [<-D] at q
    have s:Zm ((d.1 - c.1) / (d.1 - c.1)) x y=y:=by
     rw [jac,To _ (xY w),uj]
    rw [s] at q;exact TL q N
theorem bH:∀{c:zh} {r:List zh},PathM m (c::r)->c.1<=e->e<=(lastC (c::r)).1->zH (zg (c::r) e)=e
 |c,[],h,hc,hl=>by
  have p:e=c.1:=jaK hl hc;rw [p];exact h.sums c (Qe ..)
 |c,d::r,h,hc,hl=>by
  have g:=(Qo.mp h.t.rise).1 d (Qe ..)
  by_cases hd:d.1<=e
  ·rw [yc hd];exact bH h.tail hd (by rw [<-ZW c];exact hl)
  ·have q:e<d.1:=jan.mp hd;rw [zg,QH q];unfold Wh;rw [kP _ _ _ (by rw [h.t.len c (Qe ..),h.t.len d (Qf _ (Qe ..))]),h.sums c (Qe ..),h.sums d (Qf _ (Qe ..))];have s:=xl (x:=c.1) (y:=d.1) (E:=e) g;have:=ya (a:=Zm ((e - c.1) / (d.1 - c.1)) c.1 d.1 - e) (b:=d.1 - c.1) (by grind) (xY g)
   grind
theorem gA:∀{c:zh} {r:List zh},PathT m (c::r)->zg (c::r) (lastC (c::r)).1=(lastC (c::r)).2
 |c,[],h=>rfl
 |c,d::r,h=>by
  rw [ZW,yc (Dv h.tail)];exact gA h.tail
def xk:List zh->Nat->Rat->Option Rat
 |c::d::r,k,L=>if L<d.2.getD k 0 then some (Zm ((L - c.2.getD k 0) / (d.2.getD k 0 - c.2.getD k 0)) c.1 d.1) else xk (d::r) k L
 |_,_,_=>none
theorem UG (q:k<m):∀{c:zh} {r:List zh},PathM m (c::r)->c.2.getD k 0<=L->xk (c::r) k L=some e->
 ∃(i:Nat) (a b:zh) (x y:Rat),(c::r)[i]? =some a/\(c::r)[i+1]? =some b/\a.2[k]? =some x/\b.2[k]? =some y/\x<=L/\L<y/\e=Zm ((L - x) / (y - x)) a.1 b.1/\a.1<=e/\e<b.1/\(e - a.1) / (b.1 - a.1)=(L - x) / (y - x)/\zg (c::r) e=List.zipWith (Zm ((L - x) / (y - x))) a.2 b.2
 |c,[],_,_,h=>by simp [xk] at h
 |c,d::r,h,hc,hr=>by
  have U:=(Qo.mp h.t.rise).1 d (Qe ..);have lc:k<c.2.length:=by rw [h.t.len c (Qe ..)];exact q
  have ld:k<d.2.length:=by rw [h.t.len d (Qf _ (Qe ..))];exact q
  have P:c.2[k]? =some (c.2.getD k 0):=by rw [Ql,Qb lc];rfl
  have O:d.2[k]? =some (d.2.getD k 0):=by rw [Ql,Qb ld];rfl
  rw [xk] at hr
  by_cases g:L<d.2.getD k 0
  ·rw [QH g] at hr;cases hr;generalize c.2.getD k 0=x at*;generalize d.2.getD k 0=y at*;have T:x<y:=by grind
   have X:=xl (x:=c.1) (y:=d.1) (E:=L) T;have hp:0<y - x:=by grind
   have G:0<d.1 - c.1:=by grind
   have p:0<=(L - x)*(d.1 - c.1):=QO (by grind) (by grind);have C:0<(y - L)*(d.1 - c.1):=jbt (by grind) G;have ge1:c.1<=Zm ((L - x) / (y - x)) c.1 d.1:=Rat.le_of_mul_le_mul_left (by grind) hp
   have D:Zm ((L - x) / (y - x)) c.1 d.1<d.1:=by
    refine jan.mp λhle=>?_;have A:0<=(Zm ((L - x) / (y - x)) c.1 d.1 - d.1)*(y - x):=QO (by grind) (by grind)
    grind
   have et:(Zm ((L - x) / (y - x)) c.1 d.1 - c.1) / (d.1 - c.1)=(L - x) / (y - x):=by
    unfold Zm;generalize (L - x) / (y - x)=t;have Y:=To _ (xY U);rw [jac];generalize (d.1 - c.1)⁻¹=j at*
    grind
   refine ⟨0,c,d,x,y,rfl,rfl,P,O,hc,g,rfl,ge1,D,et,?_⟩;rw [zg,QH D];unfold Wh;rw [et]
  ·rw [QS g] at hr;obtain ⟨i,a,b,x,y,p,C,A,N,M,K,J,z,I,w,u⟩:=UG q h.tail (Ti.mp g) hr;refine ⟨i+1,a,b,x,y,by simpa using p,by simpa using C,A,N,M,K,J,z,I,w,?_⟩
   have s:d.1<=a.1:=by
    cases i with
    |zero=>cases p;exact QQ
    |succ i=>exact QE ((Qo.mp h.t.tail.rise).1 a (Qc ‹p›))
   rw [yc (TL s z)];exact u
theorem fV (p:k<m):∀{c:zh} {r:List zh},PathM m (c::r)->c.2.getD k 0<=L->xk (c::r) k L=none->(lastC (c::r)).2.getD k 0<=L
 |c,[],_,hc,h=>hc
 |c,d::r,h,hc,hr=>by
  rw [xk] at hr
  by_cases g:L<d.2.getD k 0
  ·rw [QH g] at hr;cases hr
  ·rw [QS g] at hr;rw [ZW];exact fV p h.tail (Ti.mp g) hr
theorem oO (g:k<m):∀{c:zh} {r:List zh} {i:Nat} {a b:zh},PathM m (c::r)->(c::r)[i]? =some a->(c::r)[i+1]? =some b->a.2.getD k 0<=L->L<b.2.getD k 0->
 xk (c::r) k L=some (Zm ((L - a.2.getD k 0) / (b.2.getD k 0 - a.2.getD k 0)) a.1 b.1)
 |c,[],i,a,b,_,_,hb,_,_=>by simp at hb
 |c,d::r,0,a,b,_,ha,hb,_,hL=>by
  cases ha;cases hb;rw [xk,QH hL]
 |c,d::r,i+1,a,b,h,ha,hb,hLa,hL=>by
  have q:(d::r)[i]? =some a:=by simpa using ha
  have p:d.2.getD k 0<=a.2.getD k 0:=by
   cases i with
   |zero=>cases q;exact QQ
   |succ i=>
    have hm:=(Qo.mp h.tail.mono).1 a (Qc ‹q›);have ld:k<d.2.length:=by rw [h.t.len d (Qf _ (Qe ..))];exact g
    have s:k<a.2.length:=by rw [h.t.len a (Qc ha)];exact g
    exact hm k _ _ (by rw [Ql,Qb ld];rfl) (by rw [Ql,Qb s];rfl)
  rw [xk,QS (Ti.mpr (TL p hLa))];exact oO g h.tail q ‹hb› hLa hL
theorem jR (p:k<m):∀{c:zh} {r:List zh},PathM m (c::r)->(∀l,(c::r).getLast? =some l->l.2.getD k 0<=L)->xk (c::r) k L=none
 |c,[],_,_=>rfl
 |c,d::r,h,hl=>by
  have hd:d.2.getD k 0<=L:=by
   obtain ⟨l,g⟩:∃l,(c::d::r).getLast? =some l:=⟨_,Tj (by simp)⟩;have hle:=hl l g;rw [TM] at g
   cases r with
   |nil=>cases g;exact hle
   |cons f r=>
    rw [TM] at g;have hm:=(Qo.mp h.tail.mono).1 l (jaj g);have ld:k<d.2.length:=by rw [h.t.len d (Qf _ (Qe ..))];exact p
    have q:k<l.2.length:=by rw [h.t.len l (Qf _ (Qf _ (jaj g)))];exact p
    exact TL (hm k _ _ (by rw [Ql,Qb ld];rfl) (by rw [Ql,Qb q];rfl)) hle
  rw [xk,QS (Ti.mpr hd)];exact jR p h.tail λl s=>hl l (by rw [TM];exact s)
theorem yk:∀{c:zh} {r:List zh},PathT m (c::r)->a∈c::r->zg (c::r) a.1=a.2
 |c,[],_,ha=>by
  rcases Qn.mp ha with rfl|h
  ·rfl
  ·simp at h
 |c,d::r,h,ha=>by
  rcases Qn.mp ha with rfl|h'
  ·exact ZU h
  ·have:d.1<=a.1:=by
    rcases Qn.mp h' with rfl|g
    ·exact QQ
    ·exact QE ((Qo.mp h.tail.rise).1 a g)
   rw [yc this];exact yk h.tail h'
theorem aw:∀{c:zh} {r:List zh},PathT m (c::r)->lastC (c::r)∈c::r/\∀x∈c::r,x.1<=(lastC (c::r)).1
 |c,[],_=>⟨Qe ..,λx p=>by
  rcases Qn.mp p with rfl|h
  ·exact QQ
  ·simp at h⟩
 |c,d::r,h=>by
  have g:=aw h.tail;rw [ZW];refine ⟨Qf _ g.1,λx p=>?_⟩
  rcases Qn.mp p with rfl|h'
  ·exact TL (QE ((Qo.mp h.rise).1 d (Qe ..))) (g.2 d (Qe ..))
  ·exact g.2 x h'
def eD (h:PathT m (c::r)):∀x∈c::r,c.1<=x.1:=λx g=>by
 rcases Qn.mp g with rfl|h'
 ·exact QQ
 ·exact QE ((Qo.mp h.rise).1 x h')
def mN (h:yx a)  (p:a[i]? =some x) (m:a[i+1]? =some y) (g:z∈a):¬(x.1<z.1/\z.1<y.1):=
 gG (Wu h) (by unfold yi;rw [Qg,p];rfl) (by unfold yi;rw [Qg,m];rfl) (by unfold yi;exact Qi.mpr ⟨z,g,rfl⟩)
def wW (x y z:List Rat) (a b:Rat):Prop:=∀(i:Nat) (p q r:Rat),x[i]? =some p->y[i]? =some q->z[i]? =some r->(r - p)*b=(q - p)*a
def gO:wW (p::x) (q::y) (r::z) a b↔(r - p)*b=(q - p)*a/\wW x y z a b:=by
 constructor
 ·intro h;exact ⟨h 0 p q r rfl rfl rfl,λi w u t s m g=>h (i+1) w u t ‹s› ‹m› ‹g›⟩
 ·rintro ⟨h0,h⟩ i w u t s m g
  cases i with
  |zero=>cases s;cases m;cases g;exact h0
  |succ i=>exact h i w u t ‹s› ‹m› ‹g›
theorem ur:∀{x y z:List Rat},x.length=y.length->x.length=z.length->(wW (x++x') (y++y') (z++z') a b↔wW x y z a b/\wW x' y' z' a b)
 |[],[],[],_,_=>by
  simp only [jaI];exact ⟨λh=>⟨λi p q r g=>by simp at g,h⟩,λh=>h.2⟩
 |p::x,q::y,r::z,g,h2=>by
  rw [TB,TB,TB,gO,gO,ur ‹g› ‹h2›,and_assoc]
 |[],_::_,_,h,_=>by simp at h
 |_::_,[],_,h,_=>by simp at h
 |[],[],_::_,_,h=>by simp at h
 |_::_,_::_,[],_,h=>by simp at h
theorem uq:∀{x y z:List Rat},x.length=y.length->x.length=z.length->wW x y z a b->(zH z - zH x)*b=(zH y - zH x)*a
 |[],[],[],_,_,_=>by simp only [zH];grind
 |p::x,q::y,r::z,h1,h2,h=>by
  rw [gO] at h;have:=uq ‹h1› ‹h2› h.2;have h0:=h.1;simp only [zH]
  grind
 |[],_::_,_,h,_,_=>by simp at h
 |_::_,[],_,h,_,_=>by simp at h
 |[],[],_::_,_,h,_=>by simp at h
 |_::_,_::_,[],_,h,_=>by simp at h
def vh:LeV (p::x) (q::y)↔p<=q/\LeV x y:=by
 constructor
 ·intro h;exact ⟨h 0 p q rfl rfl,λi s r m g=>h (i+1) s r ‹m› ‹g›⟩
 ·rintro ⟨h0,h⟩ i s r m g
  cases i with
  |zero=>cases m;cases g;exact h0
  |succ i=>exact h i s r ‹m› ‹g›
theorem EL:∀{x y:List Rat},x.length=y.length->LeV x y->LeV x' y'->LeV (x++x') (y++y')
 |[],[],_,_,h=>h
 |p::x,q::y,hl,h,h'=>by
  rw [vh] at h;rw [TB,TB,vh];exact ⟨h.1,EL ‹hl› h.2 h'⟩
 |[],_::_,h,_,_=>by simp at h
 |_::_,[],h,_,_=>by simp at h
def yW (Qs:List (List zh)) (ps:List Rat):List Rat:=(List.zipWith zg Qs ps).flatten
def xF (Q:List zh) (Qs:List (List zh)) (p:Rat) (ps:List Rat):yW (Q::Qs) (p::ps)=zg Q p++yW Qs ps:=by
 unfold yW;rw [jak,TY]
def Wid (Q:List zh):Prop:=∃(m:Nat) (c:zh) (r:List zh),Q=c::r/\∀x∈c::r,x.2.length=m
def Wid.len (h:Wid Q) (p q:Rat):(zg Q p).length=(zg Q q).length:=by
 obtain ⟨m,c,r,rfl,h⟩:=h;rw [YB h,YB h]
theorem mU:∀{Qs:List (List zh)} {pu pv g:List Rat},pu.length=Qs.length->pv.length=Qs.length->g.length=Qs.length->(∀Q∈Qs,Wid Q)->
 (wW (yW Qs pu) (yW Qs pv) (yW Qs g) a b↔∀(k:Nat) (Q:List zh) (p q r:Rat),Qs[k]? =some Q->pu[k]? =some p->pv[k]? =some q->g[k]? =some r->wW (zg Q p) (zg Q q) (zg Q r) a b)
 |[],[],[],[],_,_,_,_=>⟨λ_ k Q p q r h=>by simp at h,λ_ i p q r h=>by simp [yW] at h⟩
 |Q::Qs,p::pu,q::pv,r::g,h1,h2,h3,hw=>by
  have w:=hw Q (Qe ..);rw [xF,xF,xF,ur (w.len _ _) (w.len _ _),mU ‹h1› ‹h2› ‹h3› λQ y=>hw Q (Qf _ y)]
  constructor
  ·rintro ⟨h,h'⟩ k u t s m a1 a2 a3 a4
   cases k with
   |zero=>cases a1;cases a2;cases a3;cases a4;exact h
   |succ k=>exact h' k u t s m ‹a1› ‹a2› ‹a3› ‹a4›
  ·intro h;exact ⟨h 0 Q p q r rfl rfl rfl rfl,λk u t s m a1 a2 a3 a4=>h (k+1) u t s m ‹a1› ‹a2› ‹a3› ‹a4›⟩
 |[],_::_,_,_,h,_,_,_=>by simp at h
 |[],[],_::_,_,_,h,_,_=>by simp at h
 |[],[],[],_::_,_,_,h,_=>by simp at h
 |_::_,[],_,_,h,_,_,_=>by simp at h
 |_::_,_::_,[],_,_,h,_,_=>by simp at h
 |_::_,_::_,_::_,[],_,_,h,_=>by simp at h
theorem Dq:∀{Qs:List (List zh)} {pu pv:List Rat},pu.length=Qs.length->pv.length=Qs.length->(∀Q∈Qs,Wid Q)->
 (∀(k:Nat) (Q:List zh) (p q:Rat),Qs[k]? =some Q->pu[k]? =some p->pv[k]? =some q->LeV (zg Q p) (zg Q q))->LeV (yW Qs pu) (yW Qs pv)
 |[],[],[],_,_,_,_=>λi p q h=>by simp [yW] at h
 |Q::Qs,p::pu,q::pv,h1,h2,hw,h=>by
  rw [xF,xF];exact EL ((hw Q (Qe ..)).len _ _) (h 0 Q p q rfl rfl rfl) (Dq ‹h1› ‹h2› (λQ r=>hw Q (Qf _ r)) λk s m g a1 a2 a3=>h (k+1) s m g ‹a1› ‹a2› ‹a3›)
 |[],_::_,_,h,_,_,_=>by simp at h
 |[],[],_::_,_,h,_,_=>by simp at h
 |_::_,[],_,h,_,_,_=>by simp at h
 |_::_,_::_,[],_,h,_,_=>by simp at h
theorem tL:∀{Qs:List (List zh)} {ps:List Rat},ps.length=Qs.length->(∀(k:Nat) (Q:List zh) (p:Rat),Qs[k]? =some Q->ps[k]? =some p->zH (zg Q p)=p)->zH (yW Qs ps)=zH ps
 |[],[],_,_=>rfl
 |Q::Qs,p::ps,h,g=>by
  rw [xF,fc,g 0 Q p rfl rfl,zH,tL ‹h› λk q m a1 a2=>g (k+1) q m ‹a1› ‹a2›]
 |[],_::_,h,_=>by simp at h
 |_::_,[],h,_=>by simp at h
theorem uw:∀{Qs:List (List zh)} {pu pv:List Rat},pu.length=Qs.length->pv.length=Qs.length->(∀Q∈Qs,Wid Q)->(yW Qs pu).length=(yW Qs pv).length
 |[],[],[],_,_,_=>rfl
 |Q::Qs,p::pu,q::pv,h1,h2,hw=>by
  rw [xF,xF,QA,QA,(hw Q (Qe ..)).len p q,uw ‹h1› ‹h2› λQ g=>hw Q (Qf _ g)]
 |[],_::_,_,h,_,_=>by simp at h
 |[],[],_::_,_,h,_=>by simp at h
 |_::_,[],_,h,_,_=>by simp at h
 |_::_,_::_,[],_,h,_=>by simp at h
theorem um:∀{Qs:List (List zh)} {ps:List Rat},x∈yW Qs ps->∃(k:Nat) (Q:List zh) (p:Rat),Qs[k]? =some Q/\ps[k]? =some p/\x∈zg Q p
 |[],ps,h=>by simp [yW] at h
 |Q::Qs,[],h=>by simp [yW] at h
 |Q::Qs,p::ps,h=>by
  rw [xF,QW] at h
  rcases h with h|h
  ·exact ⟨0,Q,p,rfl,rfl,h⟩
  ·obtain ⟨k,m,g,a,b,c⟩:=um h;exact ⟨k+1,m,g,by simpa using a,by simpa using b,c⟩
def bend (h:PathM m (c::r))  (hy:y∈c::r) (ev:y.1=v) (p:u<v) (M:v<w) (hc:c.1<=u) (hw:w<=(lastC (c::r)).1)
 (n1:∀x∈c::r,¬(u<x.1/\x.1<v)) (n2:∀x∈c::r,¬(v<x.1/\x.1<w)) (hl:wW (zg (c::r) u) (zg (c::r) w) (zg (c::r) v) (v - u) (w - u)):False:=by
 obtain ⟨j,Z,ej⟩:=QI hy;have G:(c::r)[j]? =some y:=by rw [Qb Z,ej]
 have hj1:j≠0:=λz=>by
  subst z;cases G;rw [<-ev] at p;exact Ti.mpr hc p
 obtain ⟨i,rfl⟩:∃i,j=i+1:=⟨j - 1,⋯⟩;have L:=h.t.rise;unfold yx at L;rw [QN] at L
 have D:i+2<(c::r).length:=by
  refine Nat.lt_of_not_le λhle=>?_
  have e1:lastC (c::r)=y:=by
   unfold lastC;rw [jas,show (c::r).length - 1=i+1 by lia,G];rfl
  rw [e1,ev] at hw;exact Ti.mpr hw M
 have gx:(c::r)[i]? =some (c::r)[i]:=Qb ⋯;have gz:(c::r)[i+2]? =some (c::r)[i+2]:=Qb D;have J:=L i (i+1) ⋯ Z ⋯;have I:=L (i+1) (i+2) Z D ⋯;rw [ej] at J I;generalize (c::r)[i]=x at*;generalize (c::r)[i+2]=z at*;have K:=Qc gx;have mz:=Qc gz;rw [ev] at J I;have U:x.1<=u:=Ti.mp λMu=>n1 x K ⟨Mu,J⟩;have X:w<=z.1:=Ti.mp λMu=>n2 z mz ⟨I,Mu⟩;have px:=yk h.t K;have py:=yk h.t hy;have pz:=yk h.t mz;rw [ev] at py;have hcx:=eD h.t x K
 have T:∀s∈r,¬(x.1<s.1/\s.1<v):=λs Y=>by
  have:=mN h.t.rise gx G (Qf c Y);rw [ev] at this;exact this
 have P:∀s∈r,¬(v<s.1/\s.1<z.1):=λs Y=>by
  have:=mN h.t.rise G gz (Qf c Y);rw [ev] at this;exact this
 refine h.t.thin i x y z gx G gz λk a b d ha hb hd=>?_;have lk:k<m:=by rw [<-h.t.len x K];exact (Qd.mp ha).1
 have g:∀e,∃q,(zg (c::r) e)[k]? =some q:=λe=>⟨_,Qb (by rw [YB h.t.len];exact lk)⟩;obtain ⟨pu,C⟩:=g u;obtain ⟨pw,A⟩:=g w;have l1:=ZT U (QE p) J h.t hcx T k a b pu (by rw [px];exact ha) (by rw [py];exact hb) C;have l2:=ZT (QE M) X I h.t (TL hc (QE p)) P k b d pw (by rw [py];exact hb) (by rw [pz];exact hd) A;have l3:=hl k pu pw b C A (by rw [py];exact hb);rw [ev];have O:=xY p;have N:=xY M;have nuw:w - u≠0:=xY (xr p M);have e1:((b - a)*(v - u) - (b - pu)*(v - x.1))*1=0:=by grind
 have e2:(pw - b)*(v - u)=(b - pu)*(w - v):=by grind
 have e3:((d - b)*(w - v) - (pw - b)*(z.1 - v))=0:=by grind
 have e4:((d - b)*(v - u) - (b - pu)*(z.1 - v))*(w - v)=0:=by grind
 have e5:=ya e4 N;have e6:((b - a)*(z.1 - x.1) - (d - a)*(v - x.1))*(v - u)=0:=by grind
 have:=ya e6 O
 grind
def Xb (P:List zh) (k:Nat) (Q:List zh):List Rat:=(yi Q).filterMap (xk P k)
def wpF (P:List zh):Nat->List (List zh)->List Rat->List Rat
 |_,[],M=>M
 |k,Q::Qs,M=>wpF P (k+1) Qs (yC M (Xb P k Q))
theorem tD (P Q:List zh):∀(Qs:List (List zh)) (k:Nat) (M:List Rat),wpF P k (Qs++[Q]) M=yC (wpF P k Qs M) (Xb P (k+Qs.length) Q)
 |[],k,M=>by rw [jaI,wpF,wpF,wpF];rfl
 |Q'::Qs,k,M=>by rw [TB,wpF,wpF,tD P Q Qs (k+1),Qy];congr 2;lia
theorem bK:∀{Qs:List (List zh)} {k:Nat} {M:List Rat},e∈wpF P k Qs M↔e∈M\/∃(j:Nat) (Q:List zh),Qs[j]? =some Q/\e∈Xb P (k+j) Q
 |[],k,M=>by
  rw [wpF];exact ⟨.inl,λh=>h.elim id λ⟨j,Q,h,_⟩=>by simp at h⟩
 |Q::Qs,k,M=>by
  rw [wpF,bK,YQ]
  constructor
  ·rintro ((h|h)|⟨j,Q',h1,h2⟩)
   ·exact .inl h
   ·exact .inr ⟨0,Q,rfl,h⟩
   ·exact .inr ⟨j+1,Q',by simpa using h1,by rw [show k+(j+1)=k+1+j by lia];exact h2⟩
  ·rintro (h|⟨j,Q',h1,h2⟩)
   ·exact .inl (.inl h)
   ·cases j with
    |zero=>cases h1;exact .inl (.inr h2)
    |succ j=>exact .inr ⟨j,Q',by simpa using h1,by rw [show k+1+j=k+(j+1) by lia];exact h2⟩
theorem tW:∀{Qs:List (List zh)} {k:Nat} {M:List Rat},UM M->(∀(j:Nat) (Q:List zh),Qs[j]? =some Q->UM (Xb P (k+j) Q))->UM (wpF P k Qs M)
 |[],_,_,h,_=>by rw [wpF];exact h
 |Q::Qs,k,M,h,g=>by
  rw [wpF];exact tW (VE h (g 0 Q rfl)) λj p m=>by rw [show k+1+j=k+(j+1) by lia];exact g (j+1) p ‹m›
structure Nest (P:List zh) (Qs:List (List zh)):Prop where
 pm:PathM Qs.length P
 p0:∃r,P=(0,List.replicate Qs.length 0)::r
 q:∀(k:Nat) (Q:List zh),Qs[k]? =some Q->∃(m:Nat) (r:List zh),Q=((0:Rat),List.replicate m 0)::r/\PathM m Q/\(lastC P).2[k]? =some (lastC Q).1
section
def Nest.wid (h:Nest P Qs):∀Q∈Qs,Wid Q:=λQ p=>by
 obtain ⟨k,g⟩:=Qv.mp p;obtain ⟨m,r,rfl,pm,_⟩:=h.q k Q g;exact ⟨m,_,r,rfl,pm.t.len⟩
def Nest.plen (h:Nest P Qs) (e:Rat):(zg P e).length=Qs.length:=by
 obtain ⟨r,rfl⟩:=h.p0;exact YB h.pm.t.len
def Nest.get (h:Nest P Qs) (e:Rat) {k:Nat} {Q:List zh} (g:Qs[k]? =some Q):∃p,(zg P e)[k]? =some p:=
 ⟨_,Qb (by rw [h.plen];exact (Qd.mp g).1)⟩
def Nest.mono (h:Nest P Qs) (h0:0<=u) (g:u<=v):LeV (zg P u) (zg P v):=by
 obtain ⟨r,rfl⟩:=h.p0;exact YO g h.pm h0
def Nest.range (h:Nest P Qs) {e p:Rat} {k:Nat} {Q:List zh} (h0:0<=e) (u:e<=(lastC P).1) (g:Qs[k]? =some Q) (hp:(zg P e)[k]? =some p):0<=p/\p<=(lastC Q).1:=by
 obtain ⟨m,y,A,z,s⟩:=h.q k Q g;have m1:=h.mono QQ h0;have m2:=h.mono h0 u;obtain ⟨r,w⟩:=h.p0;subst w;have e0:zg ((0,List.replicate Qs.length 0)::r) 0=List.replicate Qs.length 0:=ZU h.pm.t;rw [e0] at m1;rw [gA h.pm.t] at m2;refine ⟨m1 k 0 p ?_ hp,m2 k p _ hp s⟩;rw [QX,QH (Qd.mp g).1]
def Nest.reach (h:Nest P Qs)  (X:Qs[k]? =some Q) (hL:0<=L) (hr:xk P k L=some e):
 (0<=e/\e<(lastC P).1)/\(zg P e)[k]? =some L/\∀m q,e<m->(zg P m)[k]? =some q->L<q:=by
 have M:k<Qs.length:=(Qd.mp X).1;obtain ⟨r,eP⟩:=h.p0;have pm:=h.pm;have mon:=λ(u v:Rat) (a:0<=u) (b:u<=v)=>h.mono a b;have plen:=h.plen;rw [eP] at hr pm mon plen⊢
 obtain ⟨i,a,b,x,y,g1,g2,g3,A,T,hLy,ee,K,z,et,ep⟩:=UG M pm (by
  rw [Ql,QX,QH M];exact hL) hr
 have C:=Qc g1;have w:=Qc g2;have D:(0:Rat)<=a.1:=eD pm.t a C;have Y:=(aw pm.t).2 b w;have O:x<y:=by grind
 have eL:Zm ((L - x) / (y - x)) x y=L:=by
  have l:=xl (x:=x) (y:=y) (E:=L) O;have:=ya (a:=Zm ((L - x) / (y - x)) x y - L) (b:=y - x) (by grind) (xY O)
  grind
 have G:(zg ((0,List.replicate Qs.length 0)::r) e)[k]? =some L:=by
  rw [ep,Qr,g3,A];show some (Zm _ x y)=_;rw [eL]
 refine ⟨⟨TL D K,by grind⟩,G,λm q Rx I=>?_⟩;have N:a.1<b.1:=by grind
 have no:∀s∈r,¬(a.1<s.1/\s.1<b.1):=λs U=>mN pm.t.rise g1 g2 (Qf _ U)
 have key:∀g p,e<g->g<=b.1->(zg ((0,List.replicate Qs.length 0)::r) g)[k]? =some p->L<p:=by
  intro g p h1 J h3;have l1:=ZT (QE (by grind:a.1<g)) J N pm.t D no k x y p (by rw [yk pm.t C];exact g3) (by rw [yk pm.t w];exact A) h3;have l2:=ZT K (QE z) N pm.t D no k x y L (by rw [yk pm.t C];exact g3) (by rw [yk pm.t w];exact A) G;refine jan.mp λhle=>?_;have p1:0<(y - x)*(g - e):=jbt (by grind) (by grind);have p2:0<=(L - p)*(b.1 - a.1):=QO (by grind) (by grind)
  grind
 by_cases Z:m<=b.1
 ·exact key m q Rx Z I
 ·have h1:=key b.1 y z QQ (by rw [yk pm.t w];exact A);have J:=mon b.1 m (by grind) (by grind) k y q (by rw [yk pm.t w];exact A) I
  grind
def Nest.reach_none (h:Nest P Qs)  (p:Qs[k]? =some Q) (t:0<=L) (hr:xk P k L=none):(lastC Q).1<=L:=by
 have s:k<Qs.length:=(Qd.mp p).1;obtain ⟨m,w,z,y,g⟩:=h.q k Q p;obtain ⟨r,u⟩:=h.p0;have pm:=h.pm;rw [u] at hr pm g;have:=fV s pm (by rw [Ql,QX,QH s];exact t) hr;rw [Ql,g] at this;exact this
def Nest.qpos (h:Nest P Qs) {k:Nat} {Q:List zh} (r:Qs[k]? =some Q):∀c∈Q,0<=c.1/\c.1<=(lastC Q).1:=λc p=>by
 obtain ⟨m,u,s,g,w⟩:=h.q k Q r;subst s;exact ⟨eD g.t c p,(aw g.t).2 c p⟩
def wpV (P:List zh) (Qs:List (List zh)):List Rat:=wpF P 0 Qs (yi P)
def yI (P:List zh) (Qs:List (List zh)):List zh:=(wpV P Qs).map λe=>(e,yW Qs (zg P e))
def Nest.rise (h:Nest P Qs):UM (wpV P Qs):=by
 refine tW (Wu h.pm.t.rise) λk Q g=>?_;rw [jbR];obtain ⟨m,z,C,s,A⟩:=h.q k Q g;have hr:=Wu s.t.rise;unfold UM Xb;rw [List.pairwise_filterMap];unfold UM at hr;refine hr.imp_of_mem λ{L L'} hL hL' Mu e he e' Rx=>?_;obtain ⟨c,u,rfl⟩:=Qi.mp hL;obtain ⟨w,y,rfl⟩:=Qi.mp hL';have r:=h.reach g (h.qpos g c u).1 he;have p:=h.reach g (h.qpos g w y).1 Rx;refine jan.mp λhle=>?_;have:=h.mono p.1.1 hle k _ _ p.2.1 r.2.1
 grind
def Nest.mem (h:Nest P Qs):e∈wpV P Qs↔(∃c∈P,c.1=e)\/∃(k:Nat) (Q:List zh),Qs[k]? =some Q/\∃c∈Q,xk P k c.1=some e:=by
 unfold wpV;rw [bK]
 constructor
 ·rintro (h1|⟨j,Q,h1,h2⟩)
  ·obtain ⟨c,g,rfl⟩:=Qi.mp h1;exact .inl ⟨c,g,rfl⟩
  ·rw [jbR] at h2;unfold Xb at h2;obtain ⟨L,m,hr⟩:=jbU.mp h2;obtain ⟨c,g,rfl⟩:=Qi.mp m;exact .inr ⟨j,Q,h1,c,g,hr⟩
 ·rintro (⟨c,g,rfl⟩|⟨k,Q,h1,c,g,hr⟩)
  ·exact .inl (Qi.mpr ⟨c,g,rfl⟩)
  ·refine .inr ⟨k,Q,h1,?_⟩;rw [jbR];exact jbU.mpr ⟨c.1,Qi.mpr ⟨c,g,rfl⟩,hr⟩
def Nest.in_range (h:Nest P Qs) {e:Rat} (he:e∈wpV P Qs):0<=e/\e<=(lastC P).1:=by
 rcases h.mem.mp he with ⟨c,g,rfl⟩|⟨k,Q,m,c,g,hr⟩
 ·have pm:=h.pm;obtain ⟨r,p⟩:=h.p0;subst p;exact ⟨eD pm.t c g,(aw pm.t).2 c g⟩
 ·have:=(h.reach m (h.qpos m c g).1 hr).1;exact ⟨this.1,QE this.2⟩
def Nest.no_level (h:Nest P Qs) {j k:Nat} {u v p q:Rat} {Q:List zh} (t:(wpV P Qs)[j]? =some u) (s:(wpV P Qs)[j+1]? =some v) (g:Qs[k]? =some Q) (hp:(zg P u)[k]? =some p) (w:(zg P v)[k]? =some q):
 ∀x∈Q,¬(p<x.1/\x.1<q):=by
 rintro x r ⟨C,A⟩
 have ru:=h.in_range (Qc t);have m:=h.in_range (Qc s);have y:=(h.qpos g x r).1
 cases hr:xk P k x.1 with
 |none=>
  have:=h.reach_none g y hr;have:=(h.range m.1 m.2 g w).2
  grind
 |some e=>
  have re:=h.reach g y hr;have z:e∈wpV P Qs:=h.mem.mpr (.inr ⟨k,Q,g,x,r,hr⟩);refine gG h.rise t s z ⟨jan.mp λhle=>?_,jan.mp λhle=>?_⟩
  ·have:=h.mono re.1.1 hle k _ _ re.2.1 hp
   grind
  ·have:=h.mono m.1 hle k _ _ w re.2.1
   grind
def fR (q:UM M)  (p:M[j]? =some u) (m:M[j+1]? =some v):u<v:=by
 obtain ⟨g,r⟩:=Qd.mp p;obtain ⟨lv,ev⟩:=Qd.mp m;have:=QN.mp q j (j+1) g lv ⋯;rw [r,ev] at this;exact this
def Nest.pgap (h:Nest P Qs)  (p:(wpV P Qs)[j]? =some u) (m:(wpV P Qs)[j+1]? =some v):∀x∈P,¬(u<x.1/\x.1<v):=λx g=>
 gG h.rise p m (h.mem.mpr (.inl ⟨x,g,rfl⟩))
def Nest.line (h:Nest P Qs) {j:Nat} {u v E:Rat} (A:(wpV P Qs)[j]? =some u) (w:(wpV P Qs)[j+1]? =some v) (M:u<=E) (N:E<=v):
 wW (yW Qs (zg P u)) (yW Qs (zg P v)) (yW Qs (zg P E)) (E - u) (v - u):=by
 have MP:=fR h.rise A w;have ru:=h.in_range (Qc A);have rv:=h.in_range (Qc w);rw [mU (h.plen u) (h.plen v) (h.plen E) h.wid];intro k Q p q r L hp C hr
 have lP:(r - p)*(v - u)=(q - p)*(E - u):=by
  have gap:=h.pgap A w;obtain ⟨rP,eP⟩:=h.p0;have pm:=h.pm;rw [eP] at hp C hr pm gap;exact ZT M N MP pm.t ru.1 (λx g=>gap x (Qf _ g)) k p q r hp C hr
 have J:=h.mono ru.1 M k p r hp hr;have I:=h.mono (TL ru.1 M) N k r q hr C;have lev:=h.no_level A w L hp C;have T:=h.range ru.1 ru.2 L hp;obtain ⟨m,rq,Z,U,_⟩:=h.q k Q L;subst Z;intro i x y z g G D
 by_cases K:p=q
 ·have:r=p:=by grind
  subst this;subst K;rw [g] at G D;cases G;cases D
  grind
 ·have O:p<q:=by grind
  have lQ:=ZT J I O U.t T.1 (λs Y=>lev s (Qf _ Y)) i x y z g G D;have X:((z - x)*(v - u) - (y - x)*(E - u))*(q - p)=0:=by grind
  have:=ya X (xY O)
  grind
def Nest.qsum (h:Nest P Qs) {e:Rat} (h0:0<=e) (t:e<=(lastC P).1) {k:Nat} {Q:List zh} {p:Rat} (r:Qs[k]? =some Q) (hp:(zg P e)[k]? =some p):zH (zg Q p)=p:=by
 have g:=h.range h0 t r hp;obtain ⟨m,w,u,s,_⟩:=h.q k Q r;subst u;exact bH s g.1 g.2
def Nest.sum (h:Nest P Qs) {e:Rat} (h0:0<=e) (g:e<=(lastC P).1):zH (yW Qs (zg P e))=e:=by
 rw [tL (h.plen e) λk Q p m hp=>h.qsum h0 g m hp];have pm:=h.pm;obtain ⟨r,q⟩:=h.p0;rw [q] at pm g⊢;exact bH pm h0 g
def Nest.rises (h:Nest P Qs) {u v:Rat} (h0:0<=u) (s:u<=v) (z:v<=(lastC P).1):LeV (yW Qs (zg P u)) (yW Qs (zg P v)):=by
 refine Dq (h.plen u) (h.plen v) h.wid λk Q p q r hp y=>?_;have g:=h.mono h0 s k p q hp y;have t:=h.range h0 (TL s z) r hp;obtain ⟨m,C,A,w,_⟩:=h.q k Q r;subst A;exact YO g w t.1
def Nest.thin (h:Nest P Qs) {j:Nat} {u v w:Rat} (D:(wpV P Qs)[j]? =some u) (z:(wpV P Qs)[j+1]? =some v) (hw:(wpV P Qs)[j+2]? =some w)
 (L:wW (yW Qs (zg P u)) (yW Qs (zg P w)) (yW Qs (zg P v)) (v - u) (w - u)):False:=by
 have N:=fR h.rise D z;have M:=fR h.rise z hw;have ru:=h.in_range (Qc D);have O:=h.in_range (Qc z);have A:=h.in_range (Qc hw);rw [mU (h.plen u) (h.plen w) (h.plen v) h.wid] at L
 have each:∀(k:Nat) (Q:List zh) (p q r:Rat),Qs[k]? =some Q->(zg P u)[k]? =some p->(zg P w)[k]? =some q->(zg P v)[k]? =some r->(r - p)*(w - u)=(q - p)*(v - u):=by
  intro k Q p q r g hp s hr;have wd:=h.wid Q (Qc g);have:=uq (wd.len _ _) (wd.len _ _) (L k Q p q r g hp s hr);rw [h.qsum ru.1 ru.2 g hp,h.qsum A.1 A.2 g s,h.qsum O.1 O.2 g hr] at this;exact this
 rcases h.mem.mp (Qc z) with ⟨y,C,ey⟩|⟨k,Q,g,y,C,hr⟩
 ·have g1:=h.pgap D z;have g2:=h.pgap z hw;have pl:=λe=>h.plen e
  have t:wW (zg P u) (zg P w) (zg P v) (v - u) (w - u):=λk p q r hp s hr=>by
   have Y:k<Qs.length:=by rw [<-h.plen u];exact (Qd.mp hp).1
   exact each k _ p q r (Qb Y) hp s hr
  obtain ⟨r,eP⟩:=h.p0;have pm:=h.pm;rw [eP] at g1 g2 t pm C A;exact bend pm C ey N M ru.1 A.2 g1 g2 t
 ·have re:=h.reach g (h.qpos g y C).1 hr;obtain ⟨p,hp⟩:=h.get u g;obtain ⟨q,s⟩:=h.get w g;have e1:=each k Q p q y.1 g hp s re.2.1;have Ow:=re.2.2 w q M s;have K:=h.mono ru.1 (QE N) k p y.1 hp re.2.1
  have J:p<y.1:=by
   refine jan.mp λhle=>?_;have e:p=y.1:=jaK K hle;have p1:0<(q - p)*(v - u):=jbt (by grind) (by grind)
   grind
  have I:=h.no_level D z g hp re.2.1;have G:=h.no_level z hw g re.2.1 s;have t:=L k Q p q y.1 g hp s re.2.1;have U:=h.range ru.1 ru.2 g hp;have T:=h.range A.1 A.2 g s;obtain ⟨m,r,eQ,X,_⟩:=h.q k Q g;subst eQ;refine bend X C rfl J Ow U.1 T.2 I G λi a b c ha hb hc=>?_;have l0:=t i a b c ha hb hc;have Z:((c - a)*(q - p) - (b - a)*(y.1 - p))*(w - u)=0:=by grind
  have:=ya Z (xY (xr N M))
  grind
end
def wI {M:Model} {A:Around} {E:Value->Shared->Prop} {s:Shared} {scope:Scope} {globals:Addr} {closure:List (Str×Addr)} {qual y:Str} {func:Option Addr} {code:Value} {env:Env} {builtins:Addr} {Q:Env->Shared->Prop}
 (one:∀n acc,cellsFrom n scope.names acc=(y,n)::acc) (push:∀h,pushCells h scope.names=h.push {cls:= .type "cell",data:= .cell none})
 (g:Q (newEnv scope s.heap.objs.size globals ((y,s.heap.objs.size+1)::closure) qual func code (some env) builtins) {s with heap:=(s.heap.push {cls:= .type "dict",data:= .dict #[]}).push {cls:= .type "cell",data:= .cell none}}):
 wpAny M A (newFunctionEnv scope globals closure [] qual func code (some env) builtins) Q E s:=by
 simp only [newFunctionEnv,Option.isSome_some,if_true];refine Qh (wpAny_alloc ?_);refine Qh (wpAny_layCells _ (λname kind cells=>by cases hkc:kind==NameKind.cell<;>simp [hkc]) _ _ _ _ ?_);rw [one,push,show ({s with heap:=s.heap.push {cls:= .type "dict",data:= .dict #[]}}:Shared).heap.objs.size=s.heap.objs.size+1 from Td ..];refine Qh ?_;rw [List.forIn_nil];exact Qt (Qt g)
def Xt (X:Cx) (N:List Str) (scope:Scope) (y:Str) (C:Addr) (ex:List Addr) (s:Shared) (H:Hp):Cx where
 prog:=X.prog
 w:=X.w
 K:=X.K
 mg:=X.mg
 base:=X.base
 A:=X.A
 N:=N
 s₀:=s
 H₀:=H
 env:=compEnvC scope ((y,C+1)::xf X.env.cells scope.names []) C X.env
 outer:=X.stack
 stack:=X.stack
 ex:=ex
 fn:=λx=>x==y
 calm:=X.calm
 pn:=[]
 xe:=λ_ _=>False
structure CompOk1 (X:Cx) (N:List Str) (n:Nat) (fr:List Nat) (scope:Scope) (y:Str):Prop where
 kind:scope.kind= .function
 nd:N.Nodup
 names:(N.drop n)=fr.map (λj=>(X.N[j]?).getD ("":Str))
 own:n<=N.length
 inx:(fr.all λj=>decide (j<X.N.length))=true
 free:((N.drop n).all λx=>decide (scope.names.lookup x=some .free))=true
 one:∀n acc,cellsFrom n scope.names acc=(y,n)::acc
 push:∀h,pushCells h scope.names=h.push {cls:= .type "cell",data:= .cell none}
 oth:(scope.names.all λz=>decide (z.2= .cell->z.1=y))=true
 yfree:(scope.names.all λz=>decide (z.2= .free->z.1≠y))=true
 loc:(scope.names.all λy=>decide (y.2= .local->scope.names.lookup y.1=some .local))=true
 seen:(scope.names.all λy=>decide (y.2= .free->(X.env.kindOf y.1=some .cell\/X.env.kindOf y.1=some .free)))=true
def VZ (h:(relabel scope env).names.lookup x=some k) (p:k= .cell\/k= .free) (s:(scope.names.all λz=>decide (z.2= .cell->z.1=y))=true):x=y\/(x,NameKind.free)∈scope.names:=by
 unfold relabel at h;dsimp only at h
 have key:∀names:List (Str×NameKind),(names.all λz=>decide (z.2= .cell->z.1=y))=true->
  (names.map λ(n,k)=>if (k==NameKind.free && env.scope.kind== .function && env.kindOf n==some .cell)=true then (n,NameKind.cell) else (n,k)).lookup x=some k->x=y\/(x,NameKind.free)∈names:=by
  intro names
  induction names with
  |nil=>intro _ h;simp at h
  |cons z r m=>
   intro ha h;obtain ⟨n,j⟩:=z;rw [List.all_cons,jaz] at ha;rw [Qk] at h;have t:∀(b:Bool) (g:NameKind),((if b=true then (n,NameKind.cell) else (n,g)):Str×NameKind)=(n,if b=true then NameKind.cell else g):=by intro b g;cases b<;>rfl
   dsimp only at h;rw [t,jaO] at h
   cases hx:x==n with
   |false=>
    rw [hx] at h;exact (m ha.2 h).imp id (Qf _)
   |true=>
    rw [hx] at h;have e:x=n:=by simpa using hx
    subst e;have h':=QJ h;have q:j= .cell->x=y:=Qw ha.1
    cases hb:(j==NameKind.free && env.scope.kind== .function && env.kindOf x==some .cell) with
    |true=>
     rw [jaz,jaz] at hb;have:j= .free:=by simpa using hb.1.1
     subst this;exact .inr (Qe ..)
    |false=>
     rw [hb] at h';simp only [jbW,if_false] at h';subst h'
     rcases p with z|z
     ·exact .inl (q z)
     ·subst z;exact .inr (Qe ..)
 exact key _ s h
section
variable {X:Cx} {N:List Str} {n:Nat} {fr:List Nat} {scope:Scope} {pins:Pn} {σ:L2.St} {H:Hp} {s:Shared} {y:Str}
def CompOk1.cells (O:CompOk1 X N n fr scope y) (I:Inv X pins σ H s):∀y∈scope.names,y.2= .free->∃c,X.env.cells.lookup y.1=some c:=λy g hf=>I.ok.has y.1 (Qw (TU.mp O.seen y g) hf)
def el:((y,a)::l).lookup x=if x=y then some a else l.lookup x:=by
 rw [jaO]
 cases h:x==y with
 |true=>rw [QH ‹h›]
 |false=>rw [QS ‹h›]
def sI (O:CompOk1 X N n fr scope y) (I:Inv X pins σ H s) (hf:∀b∈fp,tm X pins H b) (Sm:∀b∈fp,b<s.heap.objs.size)
 (NR:h'.Ns s.heap.objs.size m) (J:h'.IsCell (s.heap.objs.size+1) none) (keep:∀b o,s.heap.get? b=some o->h'.get? b=some o):
 Inv (Xt X N scope y s.heap.objs.size fp s H) [] (List.replicate n none++frσ σ fr) H {s with heap:=h',toks:=tk}:=by
 have Oz:=O.cells I;have C:∀x c,(xf X.env.cells scope.names []).lookup x=some c->X.env.cells.lookup x=some c:=λx c h=>Wx Oz (λc h=>by simp at h) h;have cne:∀x c,(xf X.env.cells scope.names []).lookup x=some c->∃v,s.heap.IsCell c v:=λx c h=>I.cell x c (C x c h)
 have K:∀x c,(xf X.env.cells scope.names []).lookup x=some c->c<s.heap.objs.size:=λx c h=>by
  obtain ⟨v,o,G,_⟩:=cne x c h;exact Qz G
 have g:∀x c,((y,s.heap.objs.size+1)::xf X.env.cells scope.names []).lookup x=some c->(x=y/\c=s.heap.objs.size+1)\/(xf X.env.cells scope.names []).lookup x=some c:=λx c h=>by
  rw [el] at h
  by_cases e:x=y
  ·rw [QH e] at h;exact .inl ⟨e,(QJ h).symm⟩
  ·rw [QS e] at h;exact .inr h
 have D:∀x w c,((y,s.heap.objs.size+1)::xf X.env.cells scope.names []).lookup x=some c->((y,s.heap.objs.size+1)::xf X.env.cells scope.names []).lookup w=some c->x=w:=λx w c P r=>by
  rcases g x c P with ⟨a,b⟩|a
  ·rcases g w c r with ⟨M,_⟩|M
   ·rw [a,M]
   ·have:=K w c M;rw [b] at this;exact absurd (Nat.lt_trans (Tp _) this) (jat _)
  ·rcases g w c r with ⟨_,b⟩|M
   ·have:=K x c a;rw [b] at this;exact absurd (Nat.lt_trans (Tp _) this) (jat _)
   ·exact I.ok.inj x w c (C x c a) (C w c M)
 have L:∀x c,(x==y)=true->((y,s.heap.objs.size+1)::xf X.env.cells scope.names []).lookup x=some c->s.heap.objs.size<=c:=λx c t h=>by
  rcases g x c h with ⟨_,b⟩|a
  ·rw [b];exact jaq _
  ·rw [el,QH ‹t›] at h;cases h;exact jaq _
 refine ⟨⟨I.mod,O.kind,I.ok.glob,I.ok.blt,Qu _,D,λx t=>?_,L,I.ok.hd,I.ok.frames, .inl rfl,λb A=>⟨QU (Sm b A),λx c h=>by
  rcases g x c h with ⟨_,z⟩|z
  ·rw [z];exact λe=>absurd (Sm b A) (by rw [<-e];exact Nat.not_lt.mpr (jaq _))
  ·exact (hf b A).2.2.2.2.1 x c (C x c z)⟩,I.bs,Tc I.ok.bsz I.sz,λb o e A=>?_,λb A z=>?_,I.stack,I.stkFree⟩,
  rfl,I.bare,Un.kept keep,⟨m,NR,λi x v P r h3=>?_⟩,λx c h=>?_,I.hok.fresh (Qu _),λx c h=>by
   rcases g x c h with ⟨_,z⟩|z
   ·rw [z];exact I.hok.fresh (jaq _)
   ·exact I.freeC x c (C x c z),λp hp=>absurd hp (by simp [Xt]),I.hok.kept keep,?_⟩
 ·have MI:x=y\/(x,NameKind.free)∈scope.names:=by
   rcases t with t|t
   ·exact VZ t (.inl rfl) O.oth
   ·exact VZ t (.inr rfl) O.oth
  show ∃c,((y,s.heap.objs.size+1)::xf X.env.cells scope.names []).lookup x=some c;rw [el]
  by_cases e:x=y
  ·exact ⟨_,QH e⟩
  ·rw [QS e];exact jaN.mp (XY (.inl (MI.resolve_left e)))
 ·rcases (hf b A).2.2.2.1 with z|z
  ·exact I.ok.noex b o e z
  ·exact absurd (Tf (Qz (I.ok.bs b o e).1) z) (jat _)
 ·rcases Qn.mp (I.stkSub b z) with q|q
  ·exact (hf b A).2.1 q
  ·exact (hf b A).2.2.1 q
 ·by_cases Y:i<n
  ·rw [jag ‹Y›,QX,QH Y] at r;cases r
  ·have Oc:(N.drop n)[i - n]? =some x:=by rw [jax,show n+(i - n)=i by lia];exact P
   rw [Tq ‹Y›,QF] at r;unfold frσ at r;rw [Qg] at r;rw [O.names,Qg] at Oc
   cases ej:fr[i - n]? with
   |none=>rw [ej] at r;cases r
   |some j=>
    rw [ej] at r Oc;have U:j<X.N.length:=Qw (TU.mp O.inx j (Qc ej))
    have t:X.N[j]? =some x:=by
     have e:=QJ Oc;dsimp only at e;rw [Qb U] at e⊢;exact congrArg some e
    have hv:σ[j]? =some (some v):=by
     have e:=QJ r;dsimp only at e
     cases es:σ[j]? with
     |none=>rw [es] at e;cases e
     |some o=>rw [es] at e;rw [show o=some v from e]
    have Oa:scope.names.lookup x=some .free:=by
     refine Qw (TU.mp O.free x ?_);exact Qc (by rw [jax,show n+(i - n)=i by lia];exact P)
    have Z:(x,NameKind.free)∈scope.names:=jaD Oa;have Rm:=Qw (TU.mp O.seen _ Z) rfl;obtain ⟨mX,hnX,T⟩:=I.loc;obtain ⟨u,ru,lu⟩:=T j x v t hv (Rm.elim (λz=> .inr (.inl z)) λz=> .inr (.inr z));refine ⟨u,ru, .inr ⟨?_,?_⟩⟩
    ·exact cS Oa
    ·obtain ⟨c,hc⟩:=jaN.mp (XY (.inl Z))
     refine ⟨c,(by
      show ((y,s.heap.objs.size+1)::xf X.env.cells scope.names []).lookup x=some c;rw [el,QS (Qw (TU.mp O.yfree _ Z) rfl)]
      exact hc),?_⟩
     rcases lu with ⟨k,_⟩|⟨_,c',Mx,z⟩
     ·rcases Rm with q|q
      ·rw [show X.env.kindOf x=_ from k] at q;cases q
      ·rw [show X.env.kindOf x=_ from k] at q;cases q
     ·have:=C x c hc;rw [Mx] at this;cases this;obtain ⟨o,G,hd⟩:=z;exact ⟨o,keep _ _ G,hd⟩
 ·rcases g x c h with ⟨_,z⟩|z
  ·rw [z];exact ⟨_,J⟩
  ·obtain ⟨v,o,G,hd⟩:=cne x c z;exact ⟨v,o,keep _ _ G,hd⟩
 ·rw [QA,QF];unfold frσ;have e:=congrArg List.length O.names;rw [TR,Qa] at e;have:=O.own;show _=N.length;rw [Qa];lia
end
section
def Ew {tg iter elt:Expr} {ifs:List Expr} {pos:Pos} {g:Blk TG} {tt:Blk TT} {te:Blk TE} {pins:Pn} {σ:L2.St} {z:Hp} {s2:Shared} {it:Addr} {I:List Addr} {tn:Nat->Heap->Prop} {J:It} {Q:VK}
 {RR:Value->Addr->Result->Shared->Prop} {E:Value->Shared->Prop}
 (hc:X.calm=true) (O:CompOk1 X N n fr scope y)
 (hg:∀C ex s H,PG (Xt X N scope y C ex s H) tg (g C ex s H)) (ht:∀C ex s H,PIf (Xt X N scope y C ex s H) ifs (tt C ex s H)) (he:∀C ex s H,PE (Xt X N scope y C ex s H) elt (te C ex s H))
 (I2:Inv X pins σ z s2) (T:Turn X.prog X.w X.K tg J I it tn) (MW:tn 0 s2.heap) (f2:∀b∈I,tm X pins z b)
 (hW:∀D,z D=none->∀C ex s0 H0,∃W:Nat->Nat->List V->Hp->Prop,(∃m,W 0 m [] (upd z D (.lst [])))/\∀i m ys z,W i m ys z->z D=some (.lst ys)/\
  ((J.stop i z/\Q (.ref D) z)\/(J.go i z/\∀x H3,J.yld i z x H3->g C ex s0 H0 x (List.replicate n none++frσ σ fr) H3 λσ4 H4=>σ4.drop n=frσ σ fr/\tt C ex s0 H0 σ4 H4 λb Z=>
    if b=true then te C ex s0 H0 σ4 Z λy H6=>H6 D=some (.lst ys)/\ys.length<sizeLine/\∃M,M<m/\W (i+1) M (ys++[y]) (upd H6 D (.lst (ys++[y])))
    else ∃M,M<m/\W (i+1) M ys Z)))
 (hR:∀(D C:Addr) (H':Hp) (P:Shared),Q (.ref D) H'->(∃m,P.heap.Ns C m)->Side X pins H' C->Inv X pins σ H' P->RR (.ref D) C (.ok .next) P):
 wpAny (model X.prog X.w) X.A (newList []) (λacc s₃=>wpAny (model X.prog X.w) X.A (newFunctionEnv scope X.env.globals (xf X.env.cells scope.names []) [] X.env.qual none .none (some X.env)) (λcenv s₄=>
  codeAny (model X.prog X.w) X.A (.compStart (.ListComp elt [⟨tg,iter,ifs,0⟩] scope pos) 0 (.ref it) acc {cenv with scope:=relabel scope X.env}) (RR acc cenv.locals) s₄) E s₃) E s2:=by
 refine jaf (wI O.one O.push ?_);have hDn:z s2.heap.objs.size=none:=I2.fresh;have I3:Inv X pins σ (upd z s2.heap.objs.size (.lst [])) {s2 with heap:=s2.heap.push {cls:= .type "list",data:= .seq ([]:List Value).toArray},toks:=s2.toks}:=I2.lnew (its:=[]) .nil (jap _);generalize hD:s2.heap.objs.size=D at*;dsimp only;generalize Rc:s2.heap.push {cls:= .type "list",dict:=none,data:= .seq ([]:List Value).toArray}=q at*;have k23:∀b o,s2.heap.get? b=some o->q.get? b=some o:=λb o e=>by rw [<-Rc];exact Qj _ e
 have SN:q.objs.size=D+1:=by rw [<-Rc,Td,hD]
 have NR₁:((q.push {cls:= .type "dict",dict:=none,data:= .dict #[],slots:=#[]}).push {cls:= .type "cell",dict:=none,data:= .cell none,slots:=#[]}).Ns q.objs.size (λ_=>none):=(Heap.Ns.new q (.type "dict")).keeps λb o e=>Qj _ e
 have Oz₁:((q.push {cls:= .type "dict",dict:=none,data:= .dict #[],slots:=#[]}).push {cls:= .type "cell",dict:=none,data:= .cell none,slots:=#[]}).IsCell (q.objs.size+1) none:=⟨_,by
  have:=Qx (q.push {cls:= .type "dict",dict:=none,data:= .dict #[],slots:=#[]}) (o:={cls:= .type "cell",dict:=none,data:= .cell none,slots:=#[]}) rfl;rw [Td] at this
  exact this,rfl⟩
 have keep:∀b o,q.get? b=some o->((q.push {cls:= .type "dict",dict:=none,data:= .dict #[],slots:=#[]}).push {cls:= .type "cell",dict:=none,data:= .cell none,slots:=#[]}).get? b=some o:=λb o e=>Qj _ (Qj _ e);generalize (q.push {cls:= .type "dict",dict:=none,data:= .dict #[],slots:=#[]}).push {cls:= .type "cell",dict:=none,data:= .cell none,slots:=#[]}=h₁ at*
 have flt:∀b∈I,b<D:=λb t=>by
  obtain ⟨o,ho,_⟩:=T.obj _ _ MW b t;rw [<-hD];exact Qz ho
 have f3:∀b∈I,tm X pins (upd z D (.lst [])) b:=λb t=>⟨by rw [ym (QU (flt b t))];exact (f2 b t).1,(f2 b t).2⟩;have IY:=sI (tk:=s2.toks) O I3 f3 (λb t=>by show b<q.objs.size;rw [SN];exact Tz (flt b t)) NR₁ Oz₁ keep;obtain ⟨W,⟨m0,w0⟩,turn⟩:=hW _ hDn q.objs.size I {s2 with heap:=q,toks:=s2.toks} (upd z D (.lst []));have PQ:tn 0 h₁:=T.keep _ _ _ MW λb t o e=>keep b o (k23 b o e);generalize G:Xt X N scope y q.objs.size I {s2 with heap:=q,toks:=s2.toks} (upd z D (.lst []))=Y at*;have U:Y.env=compEnvC scope ((y,q.objs.size+1)::xf X.env.cells scope.names []) q.objs.size X.env:=by rw [<-G];rfl
 have Rq:=hg q.objs.size I {s2 with heap:=q,toks:=s2.toks} (upd z D (.lst []));have Rb:=ht q.objs.size I {s2 with heap:=q,toks:=s2.toks} (upd z D (.lst []));have Rv:=he q.objs.size I {s2 with heap:=q,toks:=s2.toks} (upd z D (.lst []));rw [G] at Rq Rb Rv;have eP:Y.prog=X.prog:=by rw [<-G];rfl
 have eW:Y.w=X.w:=by rw [<-G];rfl
 have eK:Y.K=X.K:=by rw [<-G];rfl
 have eA:Y.A=X.A:=by rw [<-G];rfl
 have eC:Y.calm=true:=by rw [<-G];exact hc
 have eX:Y.xe=λ_ _=>False:=by rw [<-G];rfl
 have fY:∀{H':Hp},(∀b∈I,H' b=none)->∀b∈I,tm Y [] H' b:=λ{H'} hn b t=>by
  have h1:=IY.ok.exf b (by rw [<-G];exact t);refine ⟨hn b t,h1.1,IY.ok.exfs b (by rw [<-G];exact t), .inl (by rw [<-G];exact t),h1.2,λp hp=>absurd hp (by rw [<-G];simp [Xt])⟩
 have loop:codeAny (model X.prog X.w) X.A (.compLoop (.ListComp elt [⟨tg,iter,ifs,0⟩] scope pos) 0 (.ref it) (.ref D) (compEnvC scope ((y,q.objs.size+1)::xf X.env.cells scope.names []) q.objs.size X.env))
  (RR (.ref D) q.objs.size) {s2 with heap:=h₁,toks:=s2.toks}:=by
  refine codeAny_loop rfl (λk P=>∃i ys H',Inv Y [] (List.replicate n none++frσ σ fr) H' P/\tn i P.heap/\(∀b∈I,H' b=none)/\W i k ys H') (λk s5 hI=>?_) m0 ⟨0,[],_,IY,PQ,λb t=>(f3 b t).1,w0⟩;obtain ⟨i,ys,Z,I5,Ot,Pm,w5⟩:=hI;show wpAny _ X.A ((compTurn (.ListComp elt [⟨tg,iter,ifs,0⟩] scope pos) 0 (.ref it) (.ref D) _).onRaise (λx=>do noteFrame x _;theTreesLotGoes x)) _ _ s5;refine wpAny_noted ?_;rw [compTurn_list,<-U];refine Qh (wpAny_standAt (Qh ?_));obtain ⟨Ss,step⟩:=turn i k ys Z w5
  rcases step with ⟨stop,qn⟩|⟨go,step⟩
  ·have d:=T.done Y eP eW eK eC i [] s5 _ Z (λ_ _=>False) I5 (fY Pm) Ot stop;rw [eA] at d;refine yY (thn d λr s6 L=>?_);obtain ⟨hr,I6⟩:=L;subst hr;refine Qt ?_;have hC:Z q.objs.size=none:=by have:=I6.free;rw [U] at this;exact this
   have Pe:∃m,s6.heap.Ns q.objs.size m:=by
    have:=I6.loc;rw [U] at this;obtain ⟨m,hm,_⟩:=this;exact ⟨m,hm⟩
   have sd:Side X pins Z q.objs.size:=⟨hC,jbf I3.lt,I3.sz,λx c e=>QU (let ⟨v,o,ho,_⟩:=I3.cell x c e;Qz ho),λp hp=>QU (Qz (I3.pin p hp).1)⟩;refine hR D q.objs.size Z s6 qn Pe sd ?_;have un:=I6.base;have e0:Y.s₀.heap=q:=by rw [<-G];rfl
   have eH0:Y.H₀=upd z D (.lst []):=by rw [<-G];rfl
   have eF:Y.fs=frs X.stack:=by rw [<-G];rfl
   have eEx:Y.ex=I:=by rw [<-G];rfl
   rw [e0,eH0,eF,eEx] at un;have NX:HOk X.prog X.w Z s6.heap:=by have:=I6.hok;rw [eP,eW] at this;exact this
   have SX:s6.os=s2.os:=I6.os.trans (by rw [<-G];rfl);exact I3.call' SX un NX I6.bare λb t=>⟨(f2 b t).2.2.2.1,(f2 b t).2.1,(f2 b t).2.2.2.2.1,(f2 b t).2.2.2.2.2⟩
  ·have d:=T.item Y eP eW eK eC i [] s5 _ Z (λ_ _=>False) I5 (fY Pm) Ot go;rw [eA] at d;refine yY (thn d λr s6 L=>?_);obtain ⟨u,hr,h6⟩:=L;subst hr;refine Qh (yY (thn h6 λ_ s7 L=>?_));obtain ⟨x,H7,I7,r7,y7,OU,fr7⟩:=L;have I7':=I7.pinned (fY fr7) (T.obj _ _ OU);have g7:=Rq _ s7 _ H7 x u _ I7' r7 (step x H7 y7);rw [eA,eP,eW,eX] at g7;refine Qh (yY (thn g7 λ_ s8 L=>?_));obtain ⟨σ8,H8,I8,ed,q8⟩:=L;have t8:=Rb _ s8 σ8 H8 _ I8 q8;rw [eA,eP,eW,eX] at t8;refine Qh (yY (thn t8 λb s9 L=>?_));obtain ⟨H9,I9,q9⟩:=L
   have back:∀{P:Shared} {H':Hp} {OR:List V} {M:Nat},Inv Y ([]++jV I s7.heap) σ8 H' P->M<k->W (i+1) M OR H'->∃m,m<k/\∃i ys H',Inv Y [] (List.replicate n none++frσ σ fr) H' P/\tn i P.heap/\(∀b∈I,H' b=none)/\W i m ys H':=λ{P H' OR M} I' hm w'=>by
    refine ⟨M,hm,i+1,OR,H',?_,T.keep _ _ _ OU λb t o e=>(I'.pin (b,o) (QG _ (QG _ (YD t e)))).1,λb t=>?_,w'⟩
    ·refine (Inv.unpinned I').weak ?_ λj v hj=>?_
     ·exact IY.len.trans I'.len.symm
     ·by_cases Pg:j<n
      ·rw [jag ‹Pg›,QX,QH Pg] at hj;cases hj
      ·rw [Tq ‹Pg›,QF,<-ed,jax,show n+(j - n)=j by lia] at hj;exact hj
    ·obtain ⟨o,e,d⟩:=T.obj _ _ OU b t;exact (I'.pin (b,o) (QG _ (QG _ (YD t e)))).2.1
   cases b with
   |false=>
    obtain ⟨M,hm,w9⟩:=q9;exact Qt ⟨rfl,back I9 hm w9⟩
   |true=>
    have e9:=Rv _ s9 σ8 H9 _ I9 q9;rw [eA,eP,eW,eX] at e9;refine Qh (Qh (yY (thn e9 λv SQ L=>?_)));obtain ⟨y,NU,I10,SU,Pl,hz,M,hm,OT⟩:=L;have RM:=pK _ SQ σ8 NU (.ref D) [y] (.ref D) [v] (λ_ H'=>H'=upd NU D (.lst (ys++[y]))) I10 rfl (.cons SU .nil) ⟨D,ys,y,rfl,rfl,Pl,hz,rfl⟩;rw [eA,eP,eW,eX] at RM;refine Qh (yY (thn RM λ_ s11 L=>?_));obtain ⟨_,Oo,I11,_,OQ⟩:=L;subst OQ;exact Qt (Qt ⟨rfl,back I11 hm OT⟩)
 exact codeAny_compStart_list loop (T.self _ _ _ _ _ PQ loop)
def Gd {r iter elt:Expr} {ifs:List Expr} {pos:Pos} {t:TI} {g:Blk TG} {tt:Blk TT} {u:Blk TE}
 (L:X.calm=true) (O:CompOk1 X N n fr scope y) (G:PI X r iter t)
 (K:∀C ex s H,PG (Xt X N scope y C ex s H) r (g C ex s H)) (ht:∀C ex s H,PIf (Xt X N scope y C ex s H) ifs (tt C ex s H)) (he:∀C ex s H,PE (Xt X N scope y C ex s H) elt (u C ex s H))
 (A:∀x,foldedSetIterable iter X.env x=pure x:=by intro _;rfl):
 PE X (.ListComp elt [⟨r,iter,ifs,0⟩] scope pos) (vJ n fr t g tt u):=by
 intro pins s σ H Q I h;rw [eval_ListComp];refine jbP rfl A (Ww (O.cells I)) O.kind (λy z=>Qw (TU.mp O.loc y z)) (thn (G pins s σ H _ I h) λv s1 Y=>thn Y λw s2 U=>?_);obtain ⟨it,fp,tn,J,H2,e,I2,T,MW,f2,P⟩:=U;subst e;refine Ew L O K ht he I2 T MW f2 P ?_;intro D C H' s' q ⟨m,hm⟩ p inv;exact ⟨m,hm,λh' Z=>⟨.ref D,H',inv.turned (λb o M e=>Z.extBut b o M e) p.nt p.nl (.inr p.ab) p.nc p.np,rfl,q⟩⟩
end
end S
namespace S
open PySem PySem.Spec PyProof.Rows PyProof L2
section
def gN (l:Addr) (items:Array Value) (n:Nat) (b:Addr) (p:Obj) (m:Array Value) (t:Nat) (r:p.cls= .type "tuple") (hd2:p.data= .seq m t) (u:¬(!items.isEmpty && Builtin.List.listTooLong (items.size+m.size))=true) (I:items.size<=sizeLine) (C:items.size+m.size<=sizeLine+1):
 Meets (Builtin.«list.extend» ⟨[.ref l, .ref b],[]⟩) (λ_ R s=>s.heap.get? l=some {cls:= .type "list",dict:=none,data:= .seq items n,slots:=#[]}/\s.heap.get? b=some p/\R (.ok (.ret Value.none)) {s with heap:=s.heap.update l (Obj.mapSeq λx=>x++m),toks:=s.toks}):=
 .of_wp λprog w A R s h=>by
  obtain ⟨cls,dict,data,slots⟩:=p;dsimp only at r hd2;subst r;subst hd2;have g1:=AutoSeq1.idx_int;have g2:=AutoSeq1.sub_tuple_tuple;have g3:=AutoSeq1.sub_list_list;have G:=AutoSeq1.sub_tuple_list;have D:=AutoSeq1.sub_list_tuple;obtain ⟨hp,g,d,tk,os⟩:=s;obtain ⟨q,y,z⟩:=h;have fits:(items++m).size<=sizeLine+1:=by simpa using C
  wp_walk using (wpAny_updateSeq q rfl),AutoSeq1.wpAny_loadPart' q,AutoSeq1.wpAny_loadPart' y
  exact ⟨_,rfl,z⟩
def ud (K:Frg):V->List V->Hp->VK->Prop:=λx vs H Q=>∃l b xs zs,x= .ref l/\vs=[.ref b]/\H l=some (.lst xs)/\H b=some (.tup zs)/\xs.length+zs.length<=sizeLine/\Q .non (upd H l (.lst (xs++zs)))
def Lj:MtM X "list.extend" (ud X.K):=by
 intro pins s σ H x vs v us Q I rx rv h;obtain ⟨l,b,xs,zs,rfl,rfl,w,D,p,q⟩:=h;cases rx;obtain ⟨u,G,ru⟩:=rv.one;subst G;cases ru;obtain ⟨z,its,n,r,t,e⟩:=I.lstM w;obtain ⟨g,m,ht,C⟩:=I.tuple (SqT.of D);have M:=m.length;obtain ⟨y,J,L,A,hd2⟩:=ht
 have room:its.toArray.size+g.toArray.size<=sizeLine:=by
  rw [QL,QL,<-t,<-M];exact p
 have ok:¬(!its.toArray.isEmpty && Builtin.List.listTooLong (its.toArray.size+g.toArray.size))=true:=by
  rw [mM room,Bool.and_false];decide
 refine call_meets F.slot_list_extend ⟨_,e,rfl⟩ F.entry_list_extend (F.args_list_extend_2 _ _) (gN l its.toArray n b y g.toArray A L hd2 ok (by rw [QL,<-t];exact z) ⋯) ⟨e,J, .non,_,I.lset w e (by simp) (r.append m) ?_,rfl,q⟩
 simpa using p
end
section
variable {B G0 H:Hp} {cs:xg} {ds:Dat} {Q:VK} {v w:V} {xs zs:List PyData} {K:Frg} {L M:Addr}
def wa (S:Sta B G0 H ((L,xs)::cs) ds) (m:Has ds (.tuple ys) w) (g:xs.length+ys.length<=1000) (k:∀H',Sta B G0 H' ((L,xs++ys)::cs) ds->Q .non H'):ud K (.ref L) [w] H Q:=by
 obtain ⟨p,us,e,hp,s,u,al⟩:=S.tupAll m;obtain ⟨vs,t,y,put⟩:=u.put;subst e;refine ⟨L,p,vs,us,rfl,rfl,t,hp,?_,k _ ((put (xs++ys) (vs++us) λG a b=>b.app (al G a)).weak (jbn _) λq r=> .mem (QG _ r))⟩;rw [<-s,<-y];exact Tc g (jcd rfl)
end
end S
namespace S
open PySem PySem.Spec PyProof.Rows L2
theorem nu:∀{M:List Rat} {z:Rat},M[0]? =some z->z<=E->∃(i:Nat) (q:Rat),M[i]? =some q/\q<=E/\(i+1=M.length\/∃r,M[i+1]? =some r/\E<r)
 |[],z,h,_=>by simp at h
 |[a],z,h,hz=>by
  cases h;exact ⟨0,a,rfl,hz, .inl rfl⟩
 |a::b::M,z,h,hz=>by
  cases h
  by_cases m:b<=E
  ·obtain ⟨i,q,t,s,g⟩:=nu (M:=b::M) (z:=b) rfl m;refine ⟨i+1,q,by simpa using t,s,?_⟩
   rcases g with g|⟨r,g,p⟩
   ·left;simp only [Qy] at g⊢;lia
   ·right;exact ⟨r,by simpa using g,p⟩
  ·exact ⟨0,a,rfl,hz, .inr ⟨b,rfl,jan.mp m⟩⟩
def vR (h:UM M) (g:z∈M) (hle:∀e∈M,z<=e):M[0]? =some z:=by
 cases M with
 |nil=>simp at g
 |cons a M=>
  have m:=hle a (Qe ..)
  rcases Qn.mp g with e|e
  ·rw [e];rfl
  ·have:=(Qo.mp h).1 z e
   grind
def oN (h:UM M) (r:z∈M) (hle:∀e∈M,e<=z)  (g:M[i]? =some q) (t:i+1=M.length):q=z:=by
 obtain ⟨j,s,m⟩:=QI r;obtain ⟨li,p⟩:=Qd.mp g;have u:=hle q (Qc g)
 by_cases c:j=i
 ·subst c;rw [<-p,<-m]
 ·have:=QN.mp h j i s li ⋯;rw [m,p] at this
  grind
def UL (q:c.1<d.1) (t:c.2.length=d.2.length) (s:c.2.length=w.length) (h:wW c.2 d.2 w (E - c.1) (d.1 - c.1)):Wh c d E=w:=by
 apply Tg
 intro i
 by_cases r:i<c.2.length
 ·have p:=Qb r;have m:=Qb (l:=d.2) (i:=i) ⋯;have g:=Qb (l:=w) (i:=i) ⋯;have:=h i _ _ _ p m g;unfold Wh;rw [Qr,p,m,g];show some (Zm _ _ _)=_;have l:=xl (x:=c.2[i]) (y:=d.2[i]) (E:=E) q;have k:=ya (a:=Zm ((E - c.1) / (d.1 - c.1)) c.2[i] d.2[i] - w[i]) (b:=d.1 - c.1) (by grind) (xY q);have:Zm ((E - c.1) / (d.1 - c.1)) c.2[i] d.2[i]=w[i]:=by grind
  rw [this]
 ·unfold Wh;rw [QD (by rw [QB];lia),QD ⋯]
def DK:List zh->Nat
 |[]=>0
 |c::_=>c.2.length
def nQ:List (List zh)->Nat
 |[]=>0
 |Q::Qs=>DK Q+nQ Qs
theorem hU:∀{Qs:List (List zh)},(∀Q∈Qs,∃(m:Nat) (r:List zh),Q=((0:Rat),List.replicate m 0)::r/\PathM m Q)->yW Qs (List.replicate Qs.length 0)=List.replicate (nQ Qs) 0
 |[],_=>rfl
 |Q::Qs,h=>by
  obtain ⟨m,r,e,pm⟩:=h Q (Qe ..);rw [Qy,Tt,xF,hU λp g=>h p (Qf _ g),nQ,<-List.replicate_append_replicate]
  congr 1
  subst e;have:=ZU pm.t;dsimp only at this;rw [this,DK,QF]
structure PathR0 (n:Nat) (a:List zh):Prop where
 ne:a≠[]
 sz:∀c∈a,SzC n c
 len:∀c∈a,c.2.length<=1000
 few:a.length<=900
 rise:yx a
section
def Nest.zeroM (h:Nest P Qs):(wpV P Qs)[0]? =some 0:=by
 refine vR h.rise (h.mem.mpr (.inl ?_)) λe he=>(h.in_range he).1;obtain ⟨r,g⟩:=h.p0;rw [g];exact ⟨_,Qe ..,rfl⟩
def Nest.last_mem (h:Nest P Qs):(lastC P).1∈wpV P Qs:=by
 refine h.mem.mpr (.inl ⟨lastC P,?_,rfl⟩);have pm:=h.pm;obtain ⟨r,g⟩:=h.p0;rw [g] at pm⊢;exact (aw pm.t).1
def Nest.flen (h:Nest P Qs) (e:Rat):(yW Qs (zg P e)).length=nQ Qs:=by
 rw [uw (h.plen e) QF h.wid,hU λQ p=>?_,QF];obtain ⟨k,g⟩:=Qv.mp p;obtain ⟨m,r,e,pm,_⟩:=h.q k Q g;exact ⟨m,r,e,pm⟩
def Nest.flat0 (h:Nest P Qs):yW Qs (zg P 0)=List.replicate (nQ Qs) 0:=by
 have e0:zg P 0=List.replicate Qs.length 0:=by
  have pm:=h.pm;obtain ⟨r,s⟩:=h.p0;rw [s] at pm⊢;exact ZU pm.t
 rw [e0,hU λQ p=>?_];obtain ⟨k,g⟩:=Qv.mp p;obtain ⟨m,r,e,pm,_⟩:=h.q k Q g;exact ⟨m,r,e,pm⟩
def Nest.F_at {i:Nat} {c:zh} (g:(yI P Qs)[i]? =some c):(wpV P Qs)[i]? =some c.1/\c.2=yW Qs (zg P c.1):=by
 unfold yI at g;obtain ⟨e,he,rfl⟩:=zN g;exact ⟨he,rfl⟩
def Nest.F_of {i:Nat} {e:Rat} (he:(wpV P Qs)[i]? =some e):(yI P Qs)[i]? =some (e,yW Qs (zg P e)):=by
 unfold yI;rw [Qg,he];rfl
def Nest.riseF (h:Nest P Qs):yx (yI P Qs):=by
 unfold yx yI;rw [QZ];exact h.rise
def Nest.at (h:Nest P Qs) {E:Rat} (h0:0<=E) (s:E<=(lastC P).1):zg (yI P Qs) E=yW Qs (zg P E):=by
 obtain ⟨i,q,m,g,nx⟩:=nu h.zeroM h0;have hlen:(yI P Qs).length=(wpV P Qs).length:=by unfold yI;rw [Qa]
 have key:=Zx h.riseF (Nest.F_of m) g (by
  rcases nx with nx|⟨r,hr,p⟩
  ·left;rw [hlen];exact nx
  ·right;exact ⟨_,Nest.F_of hr,p⟩)
 rw [key]
 rcases nx with nx|⟨r,hr,p⟩
 ·rw [QD (by rw [hlen];lia)];have t:=oN h.rise h.last_mem (λe he=>(h.in_range he).2) m nx;have:q=E:=by grind
  rw [this]
 ·rw [Nest.F_of hr];exact UL (fR h.rise m hr) (by rw [h.flen,h.flen]) (by rw [h.flen,h.flen]) (h.line m hr g (QE p))
def Nest.getLast (h:Nest P Qs):(yI P Qs).getLast? =some ((lastC P).1,yW Qs (zg P (lastC P).1)):=by
 have ne:0<(wpV P Qs).length:=jbb h.last_mem;have hlen:(yI P Qs).length=(wpV P Qs).length:=by unfold yI;rw [Qa]
 rw [jas,hlen];have g:=Qb (l:=wpV P Qs) (i:=(wpV P Qs).length - 1) ⋯;rw [Nest.F_of g,oN h.rise h.last_mem (λe he=>(h.in_range he).2) g ⋯]
def SzQ.port (q:SzQ m L) (g:SzQ n x) (p:SzQ n y):SzQ (m+3*n+2) ((L - x) / (y - x)):=((q.sub g).div (p.sub g)).mono ⋯
end
def kR (G:b.1<c.1) (r:b.2.length=m) (lc:c.2.length=m) (w:zY b p c) (u:zY a b c):zY a b p:=λi A B P t g s=>by
 have I:i<m:=by rw [<-r];exact (Qd.mp g).1
 have q:=Qb (l:=c.2) (i:=i) ⋯;have D:=w i B P _ g s q;have J:=u i A B _ t g q;generalize c.2[i]=C at*;have z:(B - A)*(c.1 - b.1)=(C - B)*(b.1 - a.1):=by grind
 have y:((B - A)*(p.1 - a.1) - (P - A)*(b.1 - a.1))*(c.1 - b.1)=0:=by
  have:((B - A)*(p.1 - a.1) - (P - A)*(b.1 - a.1))*(c.1 - b.1)=((B - A)*(c.1 - b.1))*(p.1 - b.1) - ((P - B)*(c.1 - b.1))*(b.1 - a.1):=by grind
  rw [this,z,D];grind
 have:=ya y (xY G)
 grind
def Thn (F:List zh):Prop:=∀(i:Nat) (x y z:zh),F[i]? =some x->F[i+1]? =some y->F[i+2]? =some z->¬zY x y z
section
end
def cP (D:a.1<b.1) (r:k.2.length=m) (G:a.2.length=m) (u:zY k a b) (t:zY a b c):zY k b c:=λi K B C g p s=>by
 have I:i<m:=by rw [<-r];exact (Qd.mp g).1
 have q:=Qb (l:=a.2) (i:=i) ⋯;have L:=u i K _ B g q p;have J:=t i _ B C q p s;generalize a.2[i]=A at*;have z:(B - K)*(b.1 - a.1)=(B - A)*(b.1 - k.1):=by grind
 have y:(C - K)*(b.1 - a.1)=(B - A)*(c.1 - k.1):=by grind
 have w:((B - K)*(c.1 - k.1) - (C - K)*(b.1 - k.1))*(b.1 - a.1)=0:=by
  have:((B - K)*(c.1 - k.1) - (C - K)*(b.1 - k.1))*(b.1 - a.1)=((B - K)*(b.1 - a.1))*(c.1 - k.1) - ((C - K)*(b.1 - a.1))*(b.1 - k.1):=by grind
  rw [this,z,y];grind
 have:=ya w (xY D)
 grind
def eE (lc:c.2.length=m) (ld:d.2.length=m):(Wh c d e).length=m:=by
 unfold Wh;rw [QB,lc,ld];exact Tx _
def rO (J:a.1<b.1) (D:b.1<c.1) (t:a.2.length=m) (L:b.2.length=m) (lc:c.2.length=m) (st:zY a b c) (X:a.1<=e):zg (a::b::c::r) e=zg (a::c::r) e:=by
 have u:=xr J D
 by_cases I:e<b.1
 ·rw [zg,QH I,zg,QH (xr I D)];refine (UL u (by rw [t,lc]) (by rw [t,eE t L]) λi p q z hp A G=>?_).symm;obtain ⟨U,g,N,K,ez⟩:=Xf G;rw [hp] at N;cases N;have w:=xl (x:=p) (y:=g) (E:=e) J;rw [<-ez] at w;have s:=st i p g q hp K A
  have:((z - p)*(c.1 - a.1) - (q - p)*(e - a.1))*(b.1 - a.1)=0:=by
   have:((z - p)*(c.1 - a.1) - (q - p)*(e - a.1))*(b.1 - a.1)=((z - p)*(b.1 - a.1))*(c.1 - a.1) - ((q - p)*(b.1 - a.1))*(e - a.1):=by grind
   rw [this,w,<-s];grind
  have:=ya this (xY J)
  grind
 ·rw [yc (Ti.mp I)]
  by_cases C:e<c.1
  ·rw [zg,QH C,zg,QH C];refine (UL u (by rw [t,lc]) (by rw [t,eE L lc]) λi p q z hp A G=>?_).symm;obtain ⟨g,T,K,M,ez⟩:=Xf G;rw [A] at M;cases M;have w:=xl (x:=g) (y:=q) (E:=e) D;rw [<-ez] at w;have s:=st i p g q hp K A;have s1:(g - p)*(c.1 - b.1)=(q - g)*(b.1 - a.1):=by grind
   have:((z - p)*(c.1 - a.1) - (q - p)*(e - a.1))*(c.1 - b.1)=0:=by
    have P:(z - p)*(c.1 - b.1)=(e - b.1)*(q - g)+(g - p)*(c.1 - b.1):=by grind
    have O:((z - p)*(c.1 - a.1) - (q - p)*(e - a.1))*(c.1 - b.1)=((z - p)*(c.1 - b.1))*(c.1 - a.1) - (q - p)*(e - a.1)*(c.1 - b.1):=by grind
    rw [O,P,s1]
    grind
   have:=ya this (xY D)
   grind
  ·rw [yc (Ti.mp C),yc (Ti.mp C)]
theorem bR:∀(r:List zh) (k a b:zh),yx (k::b::r)->(∀x∈k::b::r,x.2.length=m)->k.1<=e->(a=k\/(k.1<a.1/\a.1<b.1/\a.2.length=m/\zY k a b))->
 zg (k::yl a (b::r)) e=zg (k::b::r) e
 |[],k,a,b,_,_,_,_=>by rw [yl]
 |c::r,k,a,b,hr,hl,hk,ha=>by
  obtain ⟨u,t⟩:=Qo.mp hr;obtain ⟨D,C⟩:=Qo.mp t;have w:=u b (Qe ..);have y:=D c (Qe ..);have q:=hl k (Qe ..);have s:=hl b (Qf _ (Qe ..));have lc:=hl c (Qf _ (Qf _ (Qe ..)));rw [yl]
  split
  ·rename_i st
   have z:zY k b c:=by
    rcases ha with rfl|⟨_,G,A,s0⟩
    ·exact st
    ·exact cP G q A s0 st
   have rk:yx (k::c::r):=Qo.mpr ⟨λx g=>u x (Qf _ g),C⟩
   rw [bR r k b c rk (λx g=>hl x (by
    rcases Qn.mp g with rfl|g
    ·exact Qe ..
    ·exact Qf _ (Qf _ g))) hk (.inr ⟨w,y,s,z⟩),rO w y q s lc z hk]
  ·by_cases p:e<b.1
   ·rw [zg,QH p,zg,QH p]
   ·rw [yc (Ti.mp p),yc (Ti.mp p)];exact bR r b b c t (λx g=>hl x (Qf _ g)) (Ti.mp p) (.inl rfl)
def nh (hr:yx (c::r)) (g:∀x∈c::r,x.2.length=m) (p:c.1<=e):zg (yv (c::r)) e=zg (c::r) e:=by
 rw [yv]
 cases r with
 |nil=>rw [yl]
 |cons b r=>exact bR r c c b hr g p (.inl rfl)
theorem Vf:∀{c:zh} {r:List zh},c.1<=e->e<(lastC (c::r)).1->zg (c::r++M) e=zg (c::r) e
 |c,[],hc,he=>absurd he (Ti.mpr hc)
 |c,d::r,hc,he=>by
  rw [TB,TB,zg,zg]
  by_cases h:e<d.1
  ·rw [QH h,QH h]
  ·rw [QS h,QS h];rw [ZW] at he;exact Vf (Ti.mp h) he
theorem Ys:∀{c:zh} {r:List zh},yx (c::r)->(lastC (c::r)).1<=e->zg (c::r++M) e=zg (lastC (c::r)::M) e
 |c,[],_,_=>rfl
 |c,d::r,hr,he=>by
  have g:=(Qo.mp hr).2;rw [ZW] at he⊢
  have hd:d.1<=e:=by
   refine TL ?_ he
   have m:lastC (d::r)∈d::r:=by
    unfold lastC;rw [Tj (by simp)];exact List.getLast_mem _
   rcases Qn.mp m with z|z
   ·rw [z];exact QQ
   ·exact QE ((Qo.mp g).1 _ z)
  rw [TB,TB,yc hd];exact Ys g he
def EC (lc:c.2.length=m) (g:q.2.length=m) (ld:d.2.length=m):Wh (VW c q) (VW c d) e=List.zipWith (·+·) c.2 (Wh q d (e - c.1)):=by
 have et:(e - (VW c q).1) / ((VW c d).1 - (VW c q).1)=(e - c.1 - q.1) / (d.1 - q.1):=by
  show (e - (c.1+q.1)) / ((c.1+d.1) - (c.1+q.1))=_;rw [show e - (c.1+q.1)=e - c.1 - q.1 by grind,show c.1+d.1 - (c.1+q.1)=d.1 - q.1 by grind]
 unfold Wh;rw [et];generalize (e - c.1 - q.1) / (d.1 - q.1)=t;show List.zipWith (Zm t) (List.zipWith (·+·) c.2 q.2) (List.zipWith (·+·) c.2 d.2)=_
 apply Ts
 ·simp only [QB];lia
 ·intro i r p;simp only [Ta];unfold Zm
  grind
theorem gu (lc:c.2.length=m):∀{q:zh} {r:List zh},(∀x∈q::r,x.2.length=m)->zg ((q::r).map (VW c)) e=List.zipWith (·+·) c.2 (zg (q::r) (e - c.1))
 |q,[],_=>rfl
 |q,d::r,h=>by
  rw [Qk,Qk,zg,zg]
  have hd:e<(VW c d).1↔e - c.1<d.1:=by
   show e<c.1+d.1↔_
   constructor<;>intro h<;>grind
  by_cases g:e - c.1<d.1
  ·rw [QH g,QH (hd.mpr g)];exact EC lc (h q (Qe ..)) (h d (Qf _ (Qe ..)))
  ·rw [QS g,QS λz=>g (hd.mp z)];have:=gu (e:=e) lc (q:=d) (r:=r) λx p=>h x (Qf _ p);rw [Qk] at this;exact this
def Em {a b p:Rat} (hp:0<p):a<b*p↔a / p<b:=by
 have m:p≠0:=λz=>by rw [z] at hp;exact jaS hp
 have g:a=a / p*p:=by rw [jac,Rat.mul_assoc,Rat.inv_mul_cancel _ m,Rat.mul_one]
 constructor
 ·intro h;refine jan.mp λhle=>?_;have:=Rat.mul_le_mul_of_nonneg_right hle (QE hp);rw [<-g] at this;exact Ti.mpr this h
 ·intro h;have:=Rat.mul_lt_mul_of_pos_right h hp;rwa [<-g] at this
theorem Ve {p e:Rat} (hp:0<p):∀{a:List zh},zg (yd p a) e=(zg a (e / p)).map (·*p)
 |[]=>rfl
 |[c]=>rfl
 |c::d::r=>by
  have g:=Ve (e:=e) hp (a:=d::r);unfold yd at*;rw [Qk,Qk,zg,zg]
  by_cases h:e / p<d.1
  ·rw [QH h,QH ((Em hp).mpr h)];have m:p≠0:=λz=>by rw [z] at hp;exact jaS hp
   have et:(e - c.1*p) / (d.1*p - c.1*p)=(e / p - c.1) / (d.1 - c.1):=by
    have A:=To p m
    have s:e - c.1*p=(e / p - c.1)*p:=by
     rw [jac];generalize p⁻¹=j at*;grind
    have q:d.1*p - c.1*p=(d.1 - c.1)*p:=by grind
    rw [s,q]
    by_cases z:d.1 - c.1=0
    ·rw [z,jbS,jac,Rat.inv_zero,Rat.mul_zero,jac,Rat.inv_zero,Rat.mul_zero]
    ·have z2:(d.1 - c.1)*p≠0:=λh=>z (ya h m);have y:=To _ z;have w:=To _ z2;rw [jac,jac ((e / p - c.1))];generalize (d.1 - c.1)⁻¹=j at*;generalize ((d.1 - c.1)*p)⁻¹=l at*;generalize e / p - c.1=u at*;generalize d.1 - c.1=v at*;have:u*p*l=u*p*l*(v*j):=by rw [y,Rat.mul_one]
     rw [this];have:u*p*l*(v*j)=u*j*(v*p*l):=by grind
     rw [this,w,Rat.mul_one]
   unfold Wh;dsimp only;rw [et];generalize (e / p - c.1) / (d.1 - c.1)=t
   apply Ts
   ·simp
   ·intro i D C;simp only [Ta,jaA];unfold Zm
    grind
  ·rw [QS h,QS λz=>h ((Em hp).mp z)];rw [Qk] at g;exact g
def mn (a l:Rat):Rat:=if a<=l then a else l
def Iu (a l:Int):((min a l:Int):Rat)=mn (a:Rat) (l:Rat):=by
 unfold mn
 by_cases h:a<=l
 ·rw [QH (QK.mpr h),Int.min_eq_left h]
 ·rw [QS λz=>h (QK.mp z),Int.min_eq_right ⋯]
def mn_mix (t0:0<=t) (t1:t<=1) (h:(a<=x/\a<=y)\/(x<=a/\y<=a)):Zm t (mn a x) (mn a y)=mn a (Zm t x y):=by
 rcases h with ⟨p,g⟩|⟨p,g⟩
 ·have w:mn a x=a:=by unfold mn;rw [QH p]
  have u:mn a y=a:=by unfold mn;rw [QH g]
  have r:a<=Zm t x y:=by
   have a1:=QO t0 (show 0<=y - a by grind);have a2:=QO (show 0<=1 - t by grind) (show 0<=x - a by grind);unfold Zm;grind
  have s:mn a (Zm t x y)=a:=by unfold mn;rw [QH r]
  rw [w,u,s];unfold Zm;grind
 ·have m:∀z,z<=a->mn a z=z:=λz q=>by
   unfold mn
   split
   ·exact jaK (by assumption) q
   ·rfl
  have r:Zm t x y<=a:=by
   have a1:=QO t0 (show 0<=a - y by grind);have a2:=QO (show 0<=1 - t by grind) (show 0<=a - x by grind);unfold Zm;grind
  rw [m x p,m y g,m _ r]
def wm {s d e:Rat} (h:s<d) (q:s<=e) (p:e<d):0<=(e - s) / (d - s)/\(e - s) / (d - s)<=1:=by
 have hp:0<d - s:=by grind
 have m:=To _ (xY h);have g:0<(d - s)⁻¹:=Rat.inv_pos.mpr hp;rw [jac];have a1:=QO (show 0<=e - s by grind) (QE g);have a2:=QO (show 0<=d - e by grind) (QE g);generalize (d - s)⁻¹=j at*
 constructor
 ·exact a1
 ·grind
def BA {as ls:List Int} {G:Rat->Rat->Rat} {C:Int->zh} (w:∀l,(C l).2=as.map λ(a:Int)=>G (a:Rat) (l:Rat)) (rise:yx (ls.map C)) (nn:∀l∈ls,0<=l)
 (mix:∀(i:Nat) (l g:Int),ls[i]? =some l->ls[i+1]? =some g->∀a∈as,∀t:Rat,0<=t->t<=1->Zm t (G (a:Rat) (l:Rat)) (G (a:Rat) (g:Rat))=G (a:Rat) (Zm t (l:Rat) (g:Rat)))
 {e:Rat} {s:Int} (h0:ls[0]? =some s) (he:(C s).1<=e):∃z:Rat,0<=z/\zg (ls.map C) e=as.map λ(a:Int)=>G (a:Rat) z:=by
 obtain ⟨i,q,y,D,nx⟩:=nu (M:=yi (ls.map C)) (z:=(C s).1) (by unfold yi;rw [Qm,Qg,h0];rfl) he;unfold yi at y nx;obtain ⟨c,u,rfl⟩:=zN y;obtain ⟨l,A,rfl⟩:=zN u;have m:(0:Rat)<=(l:Rat):=by exact_mod_cast Rat.intCast_nonneg.mpr (nn l (Qc A))
 have key:=Zx rise u D (by
  rcases nx with h|⟨r,hr,h⟩
  ·left;simpa using h
  ·obtain ⟨d,hd,rfl⟩:=zN hr
   exact .inr ⟨d,hd,h⟩)
 rcases nx with h|⟨r,hr,h⟩
 ·rw [QD (by simp only [Qa] at h⊢;lia)] at key;refine ⟨l,m,?_⟩;rw [key];exact w l
 ·obtain ⟨d,hd,rfl⟩:=zN hr;obtain ⟨g,I,rfl⟩:=zN hd;rw [hd] at key;have p:(0:Rat)<=(g:Rat):=by exact_mod_cast Rat.intCast_nonneg.mpr (nn g (Qc I))
  have J:(C l).1<(C g).1:=by
   have:=fR (Wu rise) (by unfold yi;rw [Qg,u];rfl) (by unfold yi;rw [Qg,hd];rfl);exact this
  obtain ⟨t0,t1⟩:=wm J D h;refine ⟨Zm ((e - (C l).1) / ((C g).1 - (C l).1)) l g,?_,?_⟩
  ·have a1:=QO t0 p;have a2:=QO (show 0<=1 - (e - (C l).1) / ((C g).1 - (C l).1) by grind) m;unfold Zm;grind
  ·rw [key];show Wh (C l) (C g) e=_;unfold Wh;generalize (e - (C l).1) / ((C g).1 - (C l).1)=t at*;rw [w,w]
   apply Ts
   ·simp
   ·intro j L K;simp only [Ta,jaA];exact mix i l g A I _ (QY _) t t0 t1
theorem gn:∀{c:zh} {r:List zh},yx (c::r)->(∀x∈c::r,x.2.length=m/\zH x.2=x.1)->c.1<=e->e<=(lastC (c::r)).1->zH (zg (c::r) e)=e
 |c,[],_,h,hc,hl=>by
  have t:e=c.1:=jaK hl hc;rw [t];exact (h c (Qe ..)).2
 |c,d::r,hr,h,hc,hl=>by
  have p:=(Qo.mp hr).1 d (Qe ..);have q:=h c (Qe ..);have g:=h d (Qf _ (Qe ..))
  by_cases hd:d.1<=e
  ·rw [yc hd];exact gn (Qo.mp hr).2 (λx s=>h x (Qf _ s)) hd (by rw [<-ZW c];exact hl)
  ·have u:e<d.1:=jan.mp hd;rw [zg,QH u];unfold Wh;rw [kP _ _ _ (by rw [q.1,g.1]),q.2,g.2];have w:=xl (x:=c.1) (y:=d.1) (E:=e) p;have:=ya (a:=Zm ((e - c.1) / (d.1 - c.1)) c.1 d.1 - e) (b:=d.1 - c.1) (by grind) (xY p)
   grind
def gv (hr:yx (c::r)) (he:(lastC (c::r)).1<=e):zg (c::r) e=(lastC (c::r)).2:=by
 have:=Ys (M:=[]) hr he;rw [jaX] at this;rw [this];rfl
def yg (h:List Int):zh:=((h.sum:Int),h.map λ(x:Int)=>(x:Rat))
theorem UO:∀h:List Int,zH (h.map λ(x:Int)=>(x:Rat))=((h.sum:Int):Rat)
 |[]=>rfl
 |x::h=>by rw [Qk,zH,UO h,QR,Rat.intCast_add]
theorem aQ {f g:Int->Int}:∀{as:List Int},(∀a∈as,f a<=g a)->(as.map f).sum<=(as.map g).sum
 |[],_=>jbF _
 |a::as,h=>by
  have p:=aQ λx m=>h x (Qf _ m);have:=h a (Qe ..);rw [Qk,Qk,QR,QR];lia
theorem aP {f g:Int->Int}:∀{as:List Int} {b:Int},(∀a∈as,f a<=g a)->b∈as->f b<g b->(as.map f).sum<(as.map g).sum
 |[],b,_,m,_=>by simp at m
 |a::as,b,h,m,Mu=>by
  rw [Qk,Qk,QR,QR];have ha:=h a (Qe ..)
  rcases Qn.mp m with rfl|m
  ·have:=aQ λx p=>h x (Qf _ p);lia
  ·have:=aP (λx p=>h x (Qf _ p)) m Mu;lia
structure LvOk (as ls:List Int):Prop where
 rise:ls.Pairwise (·<·)
 mem:∀k,k∈ls↔k=0\/k∈as
 nn:∀a∈as,0<=a
def Vi (as:List Int) (l:Int):List Int:=as.map λa=>min a l
def aA (as:List Int) (l:Int):List Int:=as.map λa=>a - min a l
def evP (as ls:List Int):List zh:=ls.map λl=>yg (Vi as l)
def loP (as ls:List Int):List zh:=ls.reverse.map λl=>yg (aA as l)
section
def LvOk.nnL (h:LvOk as ls):∀l∈ls,0<=l:=λl g=>by
 rcases (h.mem l).mp g with rfl|z
 ·exact jbF _
 ·exact h.nn l z
def LvOk.zero (h:LvOk as ls):ls[0]? =some 0:=by
 have m0:(0:Int)∈ls:=(h.mem 0).mpr (.inl rfl)
 cases ls with
 |nil=>simp at m0
 |cons a l=>
  have ha:=h.nnL a (Qe ..)
  rcases Qn.mp m0 with e|e
  ·rw [e];rfl
  ·have:=(Qo.mp h.rise).1 0 e;lia
def LvOk.gap (h:LvOk as ls)  (t:ls[i]? =some l) (u:ls[i+1]? =some l') (ha:a∈as):a<=l\/l'<=a:=by
 have m:=(h.mem a).mpr (.inr ha);obtain ⟨j,q,g⟩:=QI m;obtain ⟨li,r⟩:=Qd.mp t;obtain ⟨p,s⟩:=Qd.mp u;have P:=QN.mp h.rise
 rcases Nat.lt_or_ge j (i+1) with c|c
 ·left
  by_cases e:j=i
  ·subst e;rw [<-g,<-r];exact jbF _
  ·have:=P j i q li ⋯;rw [g,r] at this;lia
 ·right
  by_cases e:j=i+1
  ·subst e;rw [<-g,<-s];exact jbF _
  ·have:=P (i+1) j p q ⋯;rw [g,s] at this;lia
def LvOk.sumlt (h:LvOk as ls) {l g:Int} (p:l∈ls) (q:g∈ls) (lt:l<g):(Vi as l).sum<(Vi as g).sum:=by
 have m:g∈as:=((h.mem g).mp q).resolve_left (by have:=h.nnL l p;lia);exact aP (λa _=>by lia) m ⋯
theorem ux:∀(as:List Int) (l:Int),(aA as l).sum=as.sum - (Vi as l).sum
 |[],_=>rfl
 |a::as,l=>by
  have:=ux as l;unfold aA Vi at*;rw [Qk,Qk,QR,QR,QR,this];lia
def LvOk.riseE (h:LvOk as ls):yx (evP as ls):=by
 unfold yx evP;rw [QZ];exact h.rise.imp_of_mem λ{a b} ha hb lt=>jaB.mpr (h.sumlt ha hb lt)
def LvOk.top (h:LvOk as ls):∃t,ls.getLast? =some t/\∀a∈as,a<=t:=by
 have ne:ls≠[]:=λe=>by have:=h.zero;rw [e] at this;simp at this
 refine ⟨_,Tj ne,λa ha=>?_⟩;have m:=(h.mem a).mpr (.inr ha);rw [<-jal ne] at m;have R:=h.rise;rw [<-jal ne] at R
 rcases QW.mp m with z|z
 ·exact jbp ((TN.mp R).2.2 a z _ (by simp))
 ·rw [Qq.mp z];exact jbF _
def Kf (h:∀a∈as,a<=t):Vi as t=as:=by
 unfold Vi
 conv=>rhs;rw [<-List.map_id as]
 exact QC λa ha=>by show min a t=a;have:=h a ha;lia
def uk (h:∀a∈as,0<=a):Vi as 0=YG as.length:=by
 unfold Vi YG;rw [<-jaY];exact QC λa ha=>by have:=h a ha;lia
def LvOk.evenly (h:LvOk as ls) {e:Rat} (h0:0<=e):∃z:Rat,0<=z/\zg (evP as ls) e=as.map λ(a:Int)=>mn (a:Rat) z:=by
 refine BA (λl=>?_) h.riseE h.nnL (λi l s m p a ha t t0 t1=>mn_mix t0 t1 ?_) h.zero ?_
 ·unfold yg Vi;rw [Qm];exact QC λa _=>Iu a l
 ·obtain ⟨li,q⟩:=Qd.mp m;obtain ⟨g,r⟩:=Qd.mp p;have lt:=QN.mp h.rise i (i+1) li g ⋯;rw [q,r] at lt
  rcases h.gap m p ha with z|z
  ·exact .inl ⟨QK.mpr z,QK.mpr ⋯⟩
  ·exact .inr ⟨QK.mpr ⋯,QK.mpr z⟩
 ·show ((Vi as 0).sum:Rat)<=e;rw [uk h.nn,nS];exact h0
end
section
variable {as ls:List Int}
def Ej (h:LvOk as ls):∃r,evP as ls=yg (YG as.length)::r:=by
 have z:=h.zero
 cases ls with
 |nil=>simp at z
 |cons a l=>
  have:a=0:=by simpa using z
  subst this;exact ⟨_,by unfold evP;rw [Qk,uk h.nn]⟩
def uN (h:LvOk as ls):lastC (evP as ls)=yg as:=by
 obtain ⟨t,ht,top⟩:=h.top;unfold lastC evP;rw [jaF,ht];show yg (Vi as t)=_;rw [Kf top]
def vG:∀(as:List Int) (l:Int),Up (yg as) (yg (Vi as l))=yg (aA as l):=λas l=>by
 unfold Up yg;refine Prod.ext ?_ ?_
 ·show ((as.sum:Int):Rat) - ((Vi as l).sum:Int)=((aA as l).sum:Int);rw [ux,jaZ]
 ·show List.zipWith (· - ·) (as.map λ(x:Int)=>(x:Rat)) ((Vi as l).map λ(x:Int)=>(x:Rat))=(aA as l).map λ(x:Int)=>(x:Rat);unfold Vi aA
  apply Ts
  ·simp
  ·intro i m g;simp only [Ta,jaA];rw [jaZ]
def eS (h:LvOk as ls):yA (evP as ls)=loP as ls:=by
 unfold yA;rw [uN h];unfold evP loP;rw [<-List.map_reverse,Qm];exact QC λl _=>vG as l
def loP_ne (h:LvOk as ls):∃r,loP as ls=yg (YG as.length)::r:=by
 obtain ⟨t,ht,top⟩:=h.top;have ne:ls≠[]:=λe=>by rw [e] at ht;simp at ht
 obtain ⟨g,m⟩:=List.getLast?_eq_some_iff.mp ht;refine ⟨g.reverse.map λl=>yg (aA as l),?_⟩;unfold loP;rw [m,List.reverse_append,List.reverse_singleton,List.singleton_append,Qk]
 congr 2
 unfold aA YG;rw [<-jaY];exact QC λa ha=>by have:=top a ha;lia
def Wi (h:List Int):(yg h).2.length=h.length/\zH (yg h).2=(yg h).1:=⟨Qa _,UO h⟩
def uM (as ls:List Int):∀c∈evP as ls,c.2.length=as.length/\zH c.2=c.1:=λc g=>by
 obtain ⟨l,_,rfl⟩:=Qi.mp g;have:=Wi (Vi as l);rwa [show (Vi as l).length=as.length by unfold Vi;rw [Qa]] at this
def Dn (as ls:List Int):∀c∈loP as ls,c.2.length=as.length/\zH c.2=c.1:=λc g=>by
 obtain ⟨l,_,rfl⟩:=Qi.mp g;have:=Wi (aA as l);rwa [show (aA as l).length=as.length by unfold aA;rw [Qa]] at this
def WB (m:Nat):yg (YG m)=(0,List.replicate m 0):=by
 unfold yg;rw [nS];unfold YG;rw [jbB];rfl
def tK (r:List zh) (p:P=(0,List.replicate m 0)::r) (rise:yx P) (ok:∀c∈P,c.2.length=m/\zH c.2=c.1) (h0:0<=e):zH (zg P e)=mn e (lastC P).1:=by
 subst p;unfold mn
 split
 ·exact gn rise ok h0 (by assumption)
 ·rename_i z;have g:=jan.mp z;rw [gv rise (QE g)]
  have m:lastC ((0,List.replicate m 0)::r)∈((0:Rat),List.replicate m (0:Rat))::r:=by
   unfold lastC;rw [Tj (by simp)];exact List.getLast_mem _
  exact (ok _ m).2
def hfA (as ls:List Int):List zh:=yd (1 / 2) (evP as ls)
def hfB (as ls:List Int):List zh:=yd (1 / 2) (loP as ls)
def uC:(0:Rat)<1 / 2:=by decide+kernel
def qZ (hp:0<p) (h:yx a):yx (yd p a):=by
 unfold yx yd;rw [QZ];exact h.imp λ{x y} lt=>Rat.mul_lt_mul_of_pos_right lt hp
def hf_len (as ls:List Int):∀x∈hfA as ls++yM (hfA as ls) (hfB as ls),lastC (hfA as ls)∈hfA as ls->x.2.length=as.length:=λx g hm=>by
 have p:∀x∈hfA as ls,x.2.length=as.length:=λx g=>by
  obtain ⟨c,m,rfl⟩:=Qi.mp g;rw [Qa];exact (uM as ls c m).1
 rcases QW.mp g with z|z
 ·exact p x z
 ·obtain ⟨d,hd,rfl⟩:=Qi.mp z
  have ld:d.2.length=as.length:=by
   have:=TQ hd;obtain ⟨c,m,rfl⟩:=Qi.mp this;rw [Qa];exact (Dn as ls c m).1
  show (List.zipWith _ _ _).length=_;rw [QB,p _ hm,ld];exact Tx _
def sj (h:LvOk as ls):lastC (hfA as ls)∈hfA as ls:=by
 obtain ⟨r,g⟩:=Ej h;have ne:hfA as ls≠[]:=by unfold hfA yd;rw [g];simp
 unfold lastC;rw [Tj ne];exact List.getLast_mem _
def hvP (as ls:List Int):List zh:=hfA as ls++yM (hfA as ls) (hfB as ls)
theorem xj (p:Rat):∀l:List Rat,zH (l.map (·*p))=zH l*p
 |[]=>by rw [TC,zH,jbS]
 |x::l=>by rw [Qk,zH,zH,xj p l];grind
theorem dS:∀{x y:List Rat},x.length=y.length->zH (List.zipWith (·+·) x y)=zH x+zH y
 |[],[],_=>by rw [List.zipWith_nil_left,zH];grind
 |a::x,b::y,h=>by rw [jak,zH,zH,zH,dS ‹h›];grind
 |[],_::_,h=>by simp at h
 |_::_,[],h=>by simp at h
def Iz (as ls:List Int):∀c∈hfA as ls,c.2.length=as.length/\zH c.2=c.1:=λc g=>by
 obtain ⟨d,hd,rfl⟩:=Qi.mp g;have:=uM as ls d hd;exact ⟨by rw [Qa];exact this.1,by rw [xj,this.2]⟩
def hfB_ok (as ls:List Int):∀c∈hfB as ls,c.2.length=as.length/\zH c.2=c.1:=λc g=>by
 obtain ⟨d,hd,rfl⟩:=Qi.mp g;have:=Dn as ls d hd;exact ⟨by rw [Qa];exact this.1,by rw [xj,this.2]⟩
def hv_ok (h:LvOk as ls):∀c∈hvP as ls,c.2.length=as.length/\zH c.2=c.1:=λc g=>by
 refine ⟨hf_len as ls c g (sj h),?_⟩
 rcases QW.mp g with z|z
 ·exact (Iz as ls c z).2
 ·obtain ⟨d,hd,rfl⟩:=Qi.mp z;have a:=Iz as ls _ (sj h);have b:=hfB_ok as ls d (TQ hd);show zH (List.zipWith (·+·) _ _)=_+_;rw [dS (by rw [a.1,b.1]),a.2,b.2]
def shP (as:List Int):List zh:=if as.sum=0 then [yg (YG as.length)] else [yg (YG as.length),yg as]
theorem kN:∀n:Nat,(List.replicate n (0:Int)).sum=0
 |0=>rfl
 |n+1=>by rw [Tt,QR,kN n];rfl
def VY (h:∀a∈as,0<=a):0<=as.sum:=by
 have:=aQ (g:=id) (as:=as) λa ha=>h a ha;rw [List.map_id,jaY,kN] at this
 simpa using this
def tJ (h:∀a∈as,0<=a) (z:as.sum=0):∀a∈as,a=0:=λa ha=>by
 rcases Int.lt_or_eq_of_le (h a ha) with lt|e
 ·have:=aP (g:=id) (as:=as) (λa ha=>h a ha) ha lt;rw [List.map_id,jaY,kN,z] at this;simp at this
 ·exact e.symm
def FJ (nn:∀a∈as,0<=a) (h0:0<=e):∃z:Rat,(0<=z/\z<=1)/\zg (shP as) e=(as.map λ(a:Int)=>(a:Rat)*z)/\zH (zg (shP as) e)=mn e ((as.sum:Int):Rat):=by
 have s0:=VY nn;unfold shP
 by_cases c:as.sum=0
 ·have w:=tJ nn c;rw [QH c,c]
  have k:zg [yg (YG as.length)] e=as.map λ(a:Int)=>(a:Rat)*0:=by
   rw [WB];show List.replicate as.length (0:Rat)=_;rw [<-jaY];exact QC λa ha=>by rw [Rat.mul_zero]
  refine ⟨0,⟨QQ,by decide+kernel⟩,k,?_⟩;rw [WB];show zH (List.replicate as.length 0)=_;rw [Xy];unfold mn
  split
  ·exact jaK h0 (by assumption)
  ·rfl
 ·rw [QS c];have sp:(0:Rat)<((as.sum:Int):Rat):=by exact_mod_cast jaB.mpr (show 0<as.sum by lia)
  have rise:yx [yg (YG as.length),yg as]:=by
   refine Qo.mpr ⟨λd hd=>?_,jao _ _⟩;rw [Qq.mp hd,WB];exact sp
  have ok:∀x∈[yg (YG as.length),yg as],x.2.length=as.length/\zH x.2=x.1:=λx m=>by
   rcases Qn.mp m with rfl|m
   ·have:=Wi (YG as.length);rwa [UN] at this
   ·rw [Qq.mp m];exact Wi as
  have g:=tK [yg as] (by rw [WB]) rise ok h0;have r:(lastC [yg (YG as.length),yg as]).1=((as.sum:Int):Rat):=rfl;rw [r] at g
  by_cases q:e<((as.sum:Int):Rat)
  ·have s:=To _ (show ((as.sum:Int):Rat)≠0 from λz=>by rw [z] at sp;exact jaS sp);have p:0<(((as.sum:Int):Rat))⁻¹:=Rat.inv_pos.mpr sp;refine ⟨e*(((as.sum:Int):Rat))⁻¹,⟨QO h0 (QE p),?_⟩,?_,g⟩
   ·have:=QO (show 0<=((as.sum:Int):Rat) - e by grind) (QE p);generalize (((as.sum:Int):Rat))⁻¹=j at*
    grind
   ·rw [zg,QH (show e<(yg as).1 from q),WB];unfold Wh
    have et:(e - (0:Rat)) / ((yg as).1 - (0:Rat))=e*(((as.sum:Int):Rat))⁻¹:=by
     show (e - 0) / (((as.sum:Int):Rat) - 0)=_;rw [show e - 0=e by grind,show ((as.sum:Int):Rat) - 0=((as.sum:Int):Rat) by grind,jac]
    dsimp only;rw [et];unfold yg
    apply Ts
    ·simp
    ·intro i u t;simp only [Ta,jaA,Tw];unfold Zm
     grind
  ·refine ⟨1,⟨by decide+kernel,QQ⟩,?_,g⟩;rw [yc (show (yg as).1<=e from Ti.mp q)];show (as.map λ(x:Int)=>(x:Rat))=_;exact QC λa _=>by rw [Rat.mul_one]
end
def InB (am tk:List Int):Prop:=tk.length=am.length/\∀(i:Nat) (a p:Int),am[i]? =some a->tk[i]? =some p->0<=p/\p<=a
def Vy (am tk:List Int):Prop:=tk.length=am.length/\∀(i:Nat) (a p:Int),am[i]? =some a->tk[i]? =some p->0<=p/\p<=a/\(p<a->∀q∈tk,q<=p)
def xB (am tk:List Int):List Int:=List.zipWith (· - ·) am tk
section
def Vr {a b:Int} (h:(a:Rat)<=(b:Rat)):a<=b:=QK.mp h
def ny {a b:Int} (h:a<b):(a:Rat)<(b:Rat):=jaB.mpr h
def cg {a:Int} (h:0<=a):(0:Rat)<=(a:Rat):=by have:=QK.mpr h;exact this
def Yd {a:Int} (h:0<a):(0:Rat)<(a:Rat):=by have:=jaB.mpr h;exact this
def Zy {x y b:Rat} (h:x<=y) (g:0<=b):x*b<=y*b:=by
 have:=QO (show 0<=y - x by grind) g
 grind
def XG (h:tk.length=am.length):(xB am tk).length=am.length:=by
 unfold xB;rw [QB,h,Tx]
def mn_nn (a0:0<=a) (g:0<=z):0<=mn a z/\mn a z<=a:=by
 unfold mn
 split<;>grind
noncomputable def Ky (as ls:List Int):Nat->List zh
 |0=>shP as
 |1=>evP as ls
 |2=>loP as ls
 |_=>yv (hvP as ls)
def Gz {e t b:Rat} (g:0<b):mn e t*b=mn (e*b) (t*b):=by
 unfold mn
 by_cases c:e<=t
 ·rw [QH c,QH (Zy c (QE g))]
 ·rw [QS c,QS];intro h;have lt:=jan.mp c;have:=jbt (show 0<e - t by grind) g
  grind
end
end S
namespace L2
open PySem PySem.W PySem.Spec PySem.Calls PyProof.Rows
section
def pe_ccall (G:Gl X c) (hm:X.mg c=some (.ref C))
 (z:specialIn X.K (.ref C) "__getattribute__"=some (some (.builtin "type.__getattribute__"))) (g:readsIn X.K C (.type "type")=true) (hf:findCls X.K (.ref C) (.type "type") m=some (.val (.ref f)))
 (F:FnOk X.prog X.w X.K X.mg X.base CX k f fd ps sp) (hr:Room k X.A) (D:PySem.W.keepIn X.K (.ref f)=true) (J:xp X.K fd ps []) (y:Ue CX X E) (ha:PA X (e::es) t)
 (hd:(c==("__debug__":Str))=false:=by decide) (M:starEach (e::es) X.env=(false,eval e X.env)::starEach es X.env:=by rfl) (L:(backTo pos (starEach es X.env)).any (·.1)=false:=by rfl)
 (ht:eval (.Call (.Attribute (.Name c p) m apos) (e::es) [] pos) X.env=(do
  let ov<-eval (.Name c p) X.env
  standAt apos.atName
  let (f,first)<-holding [ov] (getMethod ov m pl)
  callWith pos f first (backTo pos (starEach (e::es) X.env)) (backToKw pos (keywordEach [] X.env))):=by rfl):
 PE X (.Call (.Attribute (.Name c p) m apos) (e::es) [] pos) (vK sp [] E t):=by
 intro pins s σ H Q I h;refine PySem.W.methodCall_KW (gR I G hm ?_ hd) ht;refine method_cls I.kIn z (cls_value I.kIn g hf rfl ?_);have N:=I.tok (s.toks+1);refine jbV I.ok.mod.kin D (thn (ha pos pins _ σ H _ N h) ?_) M L;rintro us s2 ⟨vs,O,q,r,u⟩;refine ⟨q.kIn,?_⟩;exact tU F hr J .nil y q r u
def Ih (K:Frg) (m:Str) (f:Addr) (sp:Sp) (E:XK) (g:TE):TE:=λσ H Q=>g σ H λx H1=>∃a C p fs,x= .ref a/\H1 a=some (.ins C p fs)/\Cls K C/\Meth K C m f/\fs.lookup m=none/\sp [x] H1 Q E
def pe_methA (he:PE X e te) (F:FnOk X.prog X.w X.K X.mg X.base CX k f fd ps sp) (hr:Room k X.A) (y:xp X.K fd ps []) (r:Ue CX X E)
 (ht:eval (.Call (.Attribute e m apos) [] [] pos) X.env=(do
  let ov<-eval e X.env
  standAt apos.atName
  let (f,first)<-holding [ov] (getMethod ov m pl)
  callWith pos f first (backTo pos (starEach [] X.env)) (backToKw pos (keywordEach [] X.env))):=by rfl):
 PE X (.Call (.Attribute e m apos) [] [] pos) (Ih X.K m f sp E te):=by
 intro pins s σ H Q I h;refine PySem.W.methodCall_KW (thn (he pins s σ H _ I h) λu s1 t=>?_) ht;obtain ⟨x,H1,g,p,a,C,D,fs,ex,z,c,k,l,q⟩:=t;subst ex;cases (show u=Value.ref a from p);refine km g z c k l ?_;exact PySem.W.callWith_K0 (first:=[.ref a]) g.kIn k.kp (tU (us:=[.ref a]) (vs:=[.ref a]) F hr y .nil r g (.cons rfl .nil) q)
end
end L2
namespace S
open PySem PySem.Spec PyProof.Rows L2
inductive Rl where
 |shares|evenly|losses|halves
 |other (r:Rl)|ranks (r:Rl)|groups (a b:Rl)|upto (t b:Int) (x y:Rl)
def itS (i:Int):Str:=Str.ofString (toString i)
def Rl.shape:Rl->PyData
 | .shares=> .tuple [.str "shares"]
 | .evenly=> .tuple [.str "evenly"]
 | .losses=> .tuple [.str "losses"]
 | .halves=> .tuple [.str "halves"]
 | .other r=> .tuple [.str "other",r.shape]
 | .ranks r=> .tuple [.str "ranks",r.shape]
 | .groups a b=> .tuple [.str "groups",a.shape,b.shape]
 | .upto t b x y=> .tuple [.str "upto", .tuple [.int t, .int b],x.shape,y.shape]
def Rl.text:Rl->Str
 | .shares=>"shares"
 | .evenly=>"evenly"
 | .losses=>"losses"
 | .halves=>"halves"
 | .other r=>("other(":Str)++r.text++(")":Str)
 | .ranks r=>("ranks(":Str)++r.text++(")":Str)
 | .groups a b=>("groups(":Str)++a.text++(", ":Str)++b.text++(")":Str)
 | .upto t b x y=>("upto(":Str)++itS t++("/":Str)++itS b++(", ":Str)++x.text++(", ":Str)++y.text++(")":Str)
def Rl.size:Rl->Nat
 | .other r=>r.size+1
 | .ranks r=>r.size+1
 | .groups a b=>a.size+b.size+1
 | .upto _ _ x y=>x.size+y.size+1
 |_=>1
def Rl.deep:Rl->Nat
 | .other r=>r.deep+1
 | .ranks r=>r.deep+1
 | .groups a b=>max a.deep b.deep+1
 | .upto _ _ x y=>max x.deep y.deep+1
 |_=>1
def Vt (t b:Int):Prop:=(Sz 210 t/\Sz 210 b)/\0<t/\t<b/\Int.gcd t b=1
structure RAd where
 (sh ev lo ha ot ra gr up:Addr)
def RAd.cls (A:RAd):Rl->Addr
 | .shares=>A.sh
 | .evenly=>A.ev
 | .losses=>A.lo
 | .halves=>A.ha
 | .other _=>A.ot
 | .ranks _=>A.ra
 | .groups _ _=>A.gr
 | .upto _ _ _ _=>A.up
def Hf (C:Addr) (form:PyData):PyData:= .dict [(.int ((C:Nat):Int),form)]
def Rl.ins (A:RAd) (r:Rl):PyData:=Hf (A.cls r) r.shape
structure ROk (K:Frg) (fS fT Ru C:Addr):Prop where
 cl:Cls K C
 na:cZ K C "form"
 ms:Meth K C "shape" fS
 mt:Meth K C "text" fT
 ha:PySem.W.findIn K (.ref C) "__class__"=some (some (.builtin "object.__class__"))
 hn:PySem.W.specialIn K (.builtin "object.__class__") "__get__"=some (some (.builtin "getset_descriptor.__get__"))
 htk:PySem.W.takesIn K (.builtin "object.__class__")=some true
 hm:PySem.W.mroIn K C (.type "object")=some true
 kit:PySem.W.kitOne K (.ref C) (.ref Ru)=some true
section
variable {B G0 H:Hp} {cs:xg} {ds:Dat} {Q:VK} {E:XK} {v w u:V} {K:Frg} {α:Type} {C:Addr} {x:PyData}
def is_ins (h:Is G (Hf C x) v):∃p g w,v= .ref p/\G p=some (.ins C g [("form",w)])/\Is G x w:=by
 unfold Hf at h;rw [Is,EZ] at h;obtain ⟨p,s,g,w,e,r,q,m⟩:=h;have:C=s:=Int.ofNat.inj (PyData.int.inj e);subst this;exact ⟨p,g,w,r,q,m⟩
def Sta.ins (S:Sta B G0 H cs ds) (h:Has ds (Hf C x) v):∃p m w,v= .ref p/\H p=some (.ins C m [("form",w)])/\Sta B G0 H cs ((x,w)::ds):=by
 obtain ⟨G,a,b,c,d,e,f,g⟩:=S;obtain ⟨p,m,w,s,r,q⟩:=is_ins (h G g);exact ⟨p,m,w,s,b _ _ r,G,a,b,c,d,e,f,g.cons q⟩
def kFld (K:Frg) (f:Str) (Q:VK):VK:=λx H1=>∃a C g fs v,x= .ref a/\H1 a=some (.ins C g fs)/\Cls K C/\cZ K C f/\fs.lookup f=some v/\Q v H1
def rd_fld (h:ta σ H (kFld K f Q)):tFld K ta f σ H Q:=h
def Cm (S:Sta B G0 H cs ds) (h:Has ds (Hf C x) v) (ok:ROk K fS fT Ru C) (k:∀w,Sta B G0 H cs ((x,w)::ds)->Q w H):kFld K "form" Q v H:=by
 obtain ⟨p,g,w,rfl,hp,m⟩:=S.ins h;exact ⟨p,C,g,_,w,rfl,hp,ok.cl,ok.na,rfl,k w m⟩
def kMA (K:Frg) (m:Str) (f:Addr) (sp:Sp) (E:XK) (Q:VK):VK:=λx H1=>∃a C g fs,x= .ref a/\H1 a=some (.ins C g fs)/\Cls K C/\Meth K C m f/\fs.lookup m=none/\sp [x] H1 Q E
def rd_methA (h:ta σ H (kMA K m f sp E Q)):Ih K m f sp E ta σ H Q:=h
def jT (S:Sta B G0 H cs ds) (h:Has ds (Hf C x) v) (ok:ROk K fS fT Ru C) (k:sp [v] H Q E):kMA K "shape" fS sp E Q v H:=by
 obtain ⟨p,g,w,rfl,hp,m⟩:=S.ins h;exact ⟨p,C,g,_,rfl,hp,ok.cl,ok.ms,rfl,k⟩
def xq (C:Addr) (enc:α->List PyData) (form:α->PyData):Sp:=λvs H Q _=>∃(G:Hp) (a:α) (x m:Addr) (us:List V),vs= .ref x::us/\zV G H/\G x=none/\H x=some (.ins C m [])/\zL G (enc a) us/\
 ∀H' g w,(∀p o,p≠x->H p=some o->H' p=some o)->zV G g->zV g H'->(∀p,H p≠none->g p=G p)->H' x=some (.ins C m [("form",w)])->Is g (form a) w->Q .non H'
def kMake (C:Addr) (sp:Sp) (E:XK) (Q:VK) (vs:List V) (H1:Hp):Prop:=∀x g,H1 x=none->H1 g=none->g≠x->sp (.ref x::(vs++[])) (upd (upd H1 g (.own x)) x (.ins C g [])) (λv m=>v= .non/\Q (.ref x) m) E
def rd_make (h:t σ H (kMake C sp E Q)):Jd C sp [] E t σ H Q:=h
def Xd (a:α) (S:Sta B G0 H cs ds) (P:yy ds (enc a) vs) (k:∀x H',zV H H'->Sta B G0 H' cs ((Hf C (form a), .ref x)::ds)->Q (.ref x) H'):kMake C (xq C enc form) E Q vs H:=by
 intro x g q L MR;obtain ⟨G,s1,s2,s3,s4,s5,O,D⟩:=S;have J:G x=none:=s2.free q;have gd:G g=none:=s2.free L
 have old:∀p o,H p=some o->upd (upd H g (.own x)) x (.ins C g []) p=some o:=λp o hp=>by
  rw [ym (yn hp q),ym (yn hp L)];exact hp
 refine ⟨G,a,x,g,vs,by rw [jaX],λp o hp=>old p o (s2 p o hp),J,yU,P G D,λH' M w Z z Y y X U=>⟨rfl,?_⟩⟩;have keep:∀p o,H p=some o->H' p=some o:=λp o hp=>Z p o (yn hp q) (old p o hp);have A:M x=none:=by rw [y x (by rw [yU];simp)];exact J
 have r:=zV.new A (.ins C g [("form",w)]);refine k x H' keep ⟨upd M x (.ins C g [("form",w)]),(s1.trans z).trans r,λp o hp=>?_,λp o hp=>keep p o (s3 p o hp),λp hp=>?_,λc T=>?_,O,(D.mono (z.trans r)).cons ?_⟩
 ·by_cases m:p=x
  ·subst m;rw [yU] at hp;rw [<-hp];exact X
  ·rw [ym m] at hp;exact Y p o hp
 ·cases hb:B p with
  |none=>exact absurd hb hp
  |some o=>
   have I:=s3 p o hb;rw [ym (yn I q),y p (by rw [old p o I];simp),s4 p hp]
 ·obtain ⟨z1,z2,us,s,N⟩:=s5 c T;have t:=yn s q;exact ⟨z1,by rw [ym t,y c.1 (by rw [old _ _ s];simp)];exact z2,us,keep _ _ s,zL.mono (z.trans r) _ _ N⟩
 ·unfold Hf;rw [Is,EZ];exact ⟨x,C,g,w,rfl,rfl,yU,Is.mono r _ _ U⟩
def Xk (K:Frg) (fS fT Ru:Addr):Sp:=λvs H Q E=>∃C,ROk K fS fT Ru C/\xq C (α:=PyData) (λd=>[d]) (λd=>d) vs H Q E
def Xc (S:Sta H G H1 [] ds) (M:G y=none) (q:H y=some (.ins C dx [])) (ok:ROk K fS fT Ru C) (hd:Has ds d v)
 (k:∀H' g w,(∀p o,p≠y->H p=some o->H' p=some o)->zV G g->zV g H'->(∀p,H p≠none->g p=G p)->H' y=some (.ins C dx [("form",w)])->Is g d w->Q .non H'):Xk K fS fT Ru [.ref y,v] H1 Q E:=by
 obtain ⟨s,a1,N,m,r,_,_,g1⟩:=S;refine ⟨C,ok,s,d,y,dx,[v],rfl,N,by rw [r y (by rw [q];simp)];exact M,m _ _ q,(yy.cons hd yy.nil) s g1,λH' g w L J I D A z=>k H' g w (λp o hp t=>L p o hp (m p o t)) (a1.trans J) I (λp hp=>?_) A z⟩;rw [D p ?_,r p hp]
 cases hb:H p with
 |none=>exact absurd hb hp
 |some o=>rw [m p o hb];simp
def rAddS:R2:=λx y H Q=>FZ x y H Q\/∃i j,x= .str i/\y= .str j/\i.length+j.length<=sizeLine/\Q (.str (i++j)) H
def op_addS:OpR X (binaryOp .Add) rAddS:=CA.or wo
def rd_eqS (h:Q (.bl (decide (i=j))) H):rEqA (.str i) (.str j) H Q:= .inl ⟨rfl,by
 rw [Vq (show V.str i=V.str j↔i=j from ⟨V.str.inj,congrArg _⟩)];exact h⟩
def rd_ixTS (S:Sta B G0 H cs ds) (g:Has ds (.tuple xs) v) (m:atI xs i=some (.str n)) (k:Q (.str n) H):rIx K v (.int i) H Q:=
 pf S g m λw p=>by have:=p.top;rw [Is] at this;subst this;exact k
def aT (A:RAd):Sp:=spT (α:=Rl) (λr=>[r.ins A]) (λ_=>True) (λr=>r.shape)
def VF {A:RAd} {r:Rl} (S:Sta B G0 H cs ds) (h:Has ds (r.ins A) v) (k:∀w H',zV H H'->Sta B G0 H' cs ((r.shape,w)::ds)->Q w H'):aT A [v] H Q E:=Ye r S (yy.cons h yy.nil) trivial k
def Kr (h:zL G [x,y,z,t] vs):∃v w u r,vs=[v,w,u,r]/\Xw G [(x,v),(y,w),(z,u),(t,r)]:=by
 simp only [zL] at h;obtain ⟨v,_,rfl,s,w,_,rfl,q,u,_,rfl,m,r,_,rfl,g,rfl⟩:=h;exact ⟨v,w,u,r,rfl,λp hp=>by simp at hp;rcases hp with rfl|rfl|rfl|rfl<;>assumption⟩
end
def VX (P:Program) (w:World) (K:Frg) (mg:Str->Option Value) (base:Heap) (x:Str) (C:Addr) (ps:List Str) (sp:Sp):Prop:=∃f fd,Mk K C f/\FnOk P w K mg base CX0 2 f fd ps sp/\xp K fd ps []/\mg x=some (.ref C)
end S
namespace S
open PySem
def Ris (xs:Array Nat):Prop:=xs.toList.Pairwise (·<·)
def Ris.lt {xs:Array Nat} (h:Ris xs) {i k a b:Nat} (g:i<k) (ha:xs[i]? =some a) (q:xs[k]? =some b):a<b:=by
 have t:xs.toList[i]? =some a:=by simpa using ha
 have u:xs.toList[k]? =some b:=by simpa using q
 obtain ⟨p,s⟩:=Qd.mp t;obtain ⟨m,r⟩:=Qd.mp u;have:=QN.mp h i k p m g;rw [s,r] at this;exact this
theorem nB {xs:Array Nat} {j:Nat} (h:Ris xs):∀(fuel lo g:Nat),g - lo<=fuel->lo<=g->g<=xs.size->(∀k a,k<lo->xs[k]? =some a->a<j)->(∀k a,g<=k->xs[k]? =some a->j<=a)->
 SetTable.below.go xs j fuel lo g<=xs.size/\(∀k a,k<SetTable.below.go xs j fuel lo g->xs[k]? =some a->a<j)/\(∀k a,SetTable.below.go xs j fuel lo g<=k->xs[k]? =some a->j<=a)
 |0,lo,g,hf,t,m,q,p=>by
  rw [SetTable.below.go];have e:lo=g:=⋯
  subst e;exact ⟨m,q,p⟩
 |fuel+1,lo,g,hf,t,m,q,p=>by
  rw [SetTable.below.go]
  by_cases c:lo<g
  ·rw [QH c];dsimp only;have hm:(lo+g) / 2<xs.size:=⋯
   have em:xs[(lo+g) / 2]? =some xs[(lo+g) / 2]:=by simp [hm]
   have w:xs.getD ((lo+g) / 2) j=xs[(lo+g) / 2]:=by simp [Array.getD,hm]
   rw [w]
   by_cases s:xs[(lo+g) / 2]<j
   ·rw [QH s];refine nB h fuel _ g ⋯ ⋯ m (λk a u ha=>?_) p
    by_cases r:k=(lo+g) / 2
    ·subst r;rw [em] at ha;cases ha;exact s
    ·have:=h.lt (show k<(lo+g) / 2 by lia) ha em;lia
   ·rw [QS s];refine nB h fuel lo _ ⋯ ⋯ ⋯ q λk a u ha=>?_
    by_cases r:k=(lo+g) / 2
    ·subst r;rw [em] at ha;cases ha;lia
    ·have:=h.lt (show (lo+g) / 2<k by lia) em ha;lia
  ·rw [QS c];have e:lo=g:=⋯
   subst e;exact ⟨m,q,p⟩
def VR (h:Ris xs) (j:Nat):SetTable.below xs j<=xs.size/\(∀k a,k<SetTable.below xs j->xs[k]? =some a->a<j)/\(∀k a,SetTable.below xs j<=k->xs[k]? =some a->j<=a):=
 nB h _ 0 xs.size ⋯ (jap _) (Qu _) (λk a g=>absurd g (Nat.not_lt_zero _)) λk a g ha=>by
  have:k<xs.size:=by
   have:=jbd.mp ha;exact this.1
  lia
def Ae (h:Ris xs) (t:∀a∈xs.toList,a≠j):Ris (SetTable.insertAt xs (SetTable.below xs j) j):=by
 obtain ⟨A,w,u⟩:=VR h j;unfold Ris;rw [SetTable.toList_insertAt]
 have m:∀a∈xs.toList.take (SetTable.below xs j),a<j:=λa ha=>by
  obtain ⟨i,g⟩:=Qv.mp ha;rw [List.getElem?_take] at g
  split at g
  ·rename_i z;exact w i a z ‹g›
  ·cases g
 have y:∀a∈xs.toList.drop (SetTable.below xs j),j<a:=λa ha=>by
  obtain ⟨i,g⟩:=Qv.mp ha;rw [jax] at g;have:=u _ a (Nat.le_add_right _ i) ‹g›;have ne:=t a (List.mem_of_mem_drop ha);lia
 have h':=h;unfold Ris at h';rw [<-List.take_append_drop (SetTable.below xs j) xs.toList] at h';obtain ⟨s,r,q⟩:=TN.mp h';refine TN.mpr ⟨s,Qo.mpr ⟨y,r⟩,λa ha b p=>?_⟩
 rcases Qn.mp p with rfl|p
 ·exact m a ha
 ·exact q a ha b p
def Bx {t:SetTable} (h:Ris t.place) {j:Nat} (p:∀i,t.slot j≠ .live i):∀a∈t.place.toList,a≠j:=λa ha e=>by
 subst e;obtain ⟨i,q⟩:=Qv.mp ha;have g:t.place[i]? =some a:=by simpa using q
 obtain ⟨y,s,r⟩:=VR h a
 have e:SetTable.below t.place a=i:=by
  rcases Nat.lt_trichotomy (SetTable.below t.place a) i with c|c|c
  ·have m:t.place[SetTable.below t.place a]? =some (t.place[SetTable.below t.place a]'(by have:=(jbd.mp g).1;lia)):=by simp
   have w:=h.lt c m g;have u:=r _ _ (Qu _) m;lia
  ·exact c
  ·have:=s i a c g;lia
 refine p i ?_;unfold SetTable.slot;dsimp only;rw [e,g]
 simp
theorem bG:∀{fuel:Nat} {p:SetTable.Probe} {j:Nat} {d:Option Nat},(∀x,p.dummy=some x->∀i,t.slot x≠ .live i)->SetTable.probe.go t hashAt h fuel p=some (.empty j d)->(∀i,t.slot j≠ .live i)/\∀x,d=some x->∀i,t.slot x≠ .live i
 |0,p,j,d,_,e=>by rw [SetTable.probe.go] at e;cases e
 |fuel+1,p,j,d,hd,e=>by
  rw [SetTable.probe.go] at e
  cases hs:t.slot p.j with
  |empty=>
   rw [hs] at e;cases e;exact ⟨λi z=>(by rw [hs] at z;cases z),hd⟩
  |dummy=>
   rw [hs] at e;refine bG (fuel:=fuel) (λx g=>?_) e
   have:x=p.j:=by
    unfold SetTable.advance at g;dsimp only at g
    split at g<;>(cases g;rfl)
   subst this;intro i z;rw [hs] at z;cases z
  |live i=>
   rw [hs] at e;dsimp only at e
   split at e
   ·cases e
   ·refine bG (fuel:=fuel) (λx g=>hd x ?_) e;unfold SetTable.advance at g;dsimp only at g
    split at g<;>exact g
def DS {t:SetTable} {h:Int} {j:Nat} {b:Bool} (e:t.freeSlot h=some (j,b)):∀i,t.slot j≠ .live i:=by
 unfold SetTable.freeSlot SetTable.probe at e
 split at e
 ·rename_i p m hp;have:=bG (λx g=>by unfold SetTable.probeStart at g;cases g) hp
  cases m with
  |none=>cases e;exact this.1
  |some d=>cases e;exact this.2 d rfl
 ·cases e
def sY (b:Bool) (t:SetTable):Prop:=Ris t.place/\t.led=b
def Cp (n:Nat):Ris (Array.range n):=by
 unfold Ris;rw [Array.toList_range];exact List.pairwise_lt_range
def YV {b:Bool} {t:SetTable} (h:t.led=b) (n:Nat):sY b (t.standIn n):=⟨Cp n,h⟩
def sg {b:Bool} {t:SetTable} (g:sY b t) (es:Array (Int×Value)) (h:Int) (x:Value):sY b (layNew t es h x).2.1:=by
 unfold layNew
 split
 ·rename_i slot wd hf;dsimp only;unfold SetTable.orStandIn
  split
  ·exact ⟨Ae g.1 (Bx g.1 (DS hf)),g.2⟩
  ·exact YV g.2 _
 ·exact YV g.2 _
def GX {mask:Nat} {owner:Array (Option Nat)}:(((List.range (mask+1)).filterMap λj=>(owner.getD j none).map (j,·)).map (·.1)).Pairwise (·<·):=by
 rw [QZ,List.pairwise_filterMap];refine List.pairwise_lt_range.imp λ{i k} hik a ha b hb=>?_;obtain ⟨_,_,rfl⟩:=Option.map_eq_some_iff.mp ha;obtain ⟨_,_,rfl⟩:=Option.map_eq_some_iff.mp hb;exact hik
def mf (g:sY b t) (es:Array (Int×Value)) (wanted:Nat):sY b (relayAll t es wanted).2.1:=by
 unfold relayAll
 split
 ·rename_i t' order hr;dsimp only
  split
  ·unfold SetTable.relaid SetTable.laid at hr;obtain ⟨owner,_,hr⟩:=Option.bind_eq_some_iff.mp hr;cases hr;refine ⟨?_,g.2⟩;show (List.toArray _).toList.Pairwise _;exact GX
  ·exact YV g.2 _
 ·exact YV g.2 _
def aO:Value->Int
 | .int n _=>n
 |_=>0
def jE (prog:Program) (w:World) (h:Heap) (a:Addr) (b:Bool) (ns:List Int):Prop:=
 ∃(o:Obj) (es:Array (Int×Value)) (ep:Nat) (t:SetTable),(h.get? a=some o/\o.ExactSet/\o.data= .set es ep t)/\ElemsOf (intKind prog w) es.toList/\(t.fits es.size=true/\sY b t)/\ns=es.toList.map (λe=>aO e.2)/\ns.Nodup
section
def Ic (h:(intKind prog w).is k v=true):aO v=k:=by
 obtain ⟨t,ht⟩:=Value.isInt_shape h;rw [ht];rfl
def jE.kept (T:jE prog w h a b ns) (k:∀o,h.get? a=some o->h'.get? a=some o):jE prog w h' a b ns:=by
 obtain ⟨o,es,ep,t,⟨g,ex,data⟩,rest⟩:=T;exact ⟨o,es,ep,t,⟨k o g,ex,data⟩,rest⟩
def Ii {h:Heap} {a:Addr} {o:Obj} {es es1:Array (Int×Value)} {ep:Nat} {t t1:SetTable} (g:h.get? a=some o) (data:o.data= .set es ep t):(h.update a (Obj.putSet es1 t1)).get? a=some {o with data:= .set es1 (ep+1) t1}:=by
 have z:=jaG (Obj.putSet es1 t1) g (by rw [putSet_of es1 t1 data];rfl);rwa [putSet_of es1 t1 data] at z
def add_T {a:Addr} {b:Bool} {ns:List Int} {k:Int} {tk:Tok} {Q:Bool->Shared->Prop} (T:jE prog w s.heap a b ns) (few:ns.length<1000)
 (h:∀(r:Bool) (h':Heap) (m:List Int),Heap.SameBut a s.heap h'->jE prog w h' a b m->(∀x,x∈m↔x∈ns\/x=k)->m.length<=ns.length+1->Q r {s with heap:=h'}):
 wpAny (model prog w) A (setAddHashed a (.int k tk) ((intKind prog w).hash k)) Q E s:=by
 obtain ⟨o,es,ep,t,⟨K,ex,data⟩,elems,⟨fit,good⟩,rfl,nd⟩:=T;have sz:es.size=(es.toList.map λe=>aO e.2).length:=by simp
 have e4:scanBound=4096:=rfl;have bound:es.size<scanBound:=⋯
 have I:=intKind_is prog w k tk;unfold setAddHashed setAddHashedIn;refine jbr (Qh (jbJ K data fit ?_));dsimp only;rw [byScan_of (knd:=intKind prog w) (x:= .int k tk) rfl bound elems,QH rfl];unfold setAddByScan;refine Qh (Qh (jce (Qh (wpAny_setScan_of I K data fit elems ?_))))
 cases found:List.findIdx? (λe=>(intKind prog w).is k e.2) es.toList with
 |some j=>
  dsimp only;obtain ⟨hj,pj,_⟩:=List.findIdx?_eq_some_iff_getElem.mp found;have mem:k∈es.toList.map λe=>aO e.2:=Qi.mpr ⟨es.toList[j],QY hj,Ic pj⟩;refine Qt (Qt ?_);exact h false s.heap _ (Heap.SameBut.refl a s.heap) ⟨o,es,ep,t,⟨K,ex,data⟩,elems,⟨fit,good⟩,rfl,nd⟩ (λx=>⟨.inl,λz=>z.elim id λe=>e▸mem⟩) (jaq _)
 |none=>
  dsimp only
  have new:k∉es.toList.map λe=>aO e.2:=λz=>by
   obtain ⟨e,he,Z⟩:=Qi.mp z;obtain ⟨⟨k',Nh,_⟩,_⟩:=elems e he;have ek:k'=k:=(Ic Nh).symm.trans Z;subst ek;have:=List.findIdx?_eq_none_iff.mp found e he;rw [Nh] at this;cases this
  have perm:=layNew_perm t es ((intKind prog w).hash k) (.int k tk);have fits:=layNew_fits t es ((intKind prog w).hash k) (.int k tk);have N:=sg good es ((intKind prog w).hash k) (.int k tk);generalize layNew t es ((intKind prog w).hash k) (.int k tk)=L at perm fits N⊢;obtain ⟨es1,t1,wasDummy,gave⟩:=L;dsimp only at perm fits N⊢;rw [Array.toList_push] at perm;have p:ElemsOf (intKind prog w) es1.toList:=(elems.push I rfl).perm perm
  have pm:(es1.toList.map λe=>aO e.2).Perm ((es.toList.map λe=>aO e.2)++[k]):=by
   have:=perm.map λe=>aO e.2;rwa [QT] at this
  have SY:(es1.toList.map λe=>aO e.2).Nodup:=by
   refine (pm.nodup_iff).mpr (List.nodup_append.mpr ⟨nd,by simp,λx hx y hy=>?_⟩);rw [Qq.mp hy];exact λe=>new (e▸hx)
  have OX:=pm.length_eq;rw [QA,TH] at OX;have NN:es1.size=(es1.toList.map λe=>aO e.2).length:=by simp
  have D:es1.size<scanBound:=⋯
  have iU:∀x,x∈(es1.toList.map λe=>aO e.2)↔x∈(es.toList.map λe=>aO e.2)\/x=k:=λx=>by
   rw [pm.mem_iff,QW,Qq]
  have g1:=Ii (es1:=es1) (t1:=t1) K data;have G:=jab s.heap a (Obj.putSet es1 t1);have J:=relayAll_perm t1 es1 (SetTable.grown es1.size);have Oe:=relayAll_fits t1 es1 (SetTable.grown es1.size);have good2:=mf N es1 (SetTable.grown es1.size)
  have tail:∀{g:Bool->Sem Unit} {R:Option Bool->Shared->Prop},(∀(b:Bool) (s₁:Shared) (u:Unit->Shared->Prop),u () s₁->wpAny (model prog w) A (g b) u E s₁)->
   (∀(h':Heap) (m:List Int),Heap.SameBut a s.heap h'->jE prog w h' a b m->(∀x,x∈m↔x∈(es.toList.map λe=>aO e.2)\/x=k)->m.length<=(es.toList.map λe=>aO e.2).length+1->R (some true) {s with heap:=h'})->
   wpAny (model prog w) A (do
    storeSet a es1 t1
    if (!wasDummy && t1.tooFull)=true then do
        g (relayAll t1 es1 (SetTable.grown es1.size)).2.2
        storeSet a (relayAll t1 es1 (SetTable.grown es1.size)).1 (relayAll t1 es1 (SetTable.grown es1.size)).2.1
        pure (some true)
     else pure (some true)) R E s:=λ{g R} hg hR=>by
   refine Qh (wpAny_storeSet_of K data ?_ (fits_of_scanBound D))
   split
   ·generalize relayAll t1 es1 (SetTable.grown es1.size)=L2 at J Oe good2⊢;obtain ⟨M,t2,gave2⟩:=L2;dsimp only at J Oe good2⊢;have Y:(M.toList.map λe=>aO e.2).Perm (es1.toList.map λe=>aO e.2):=J.map _;have sz2:M.size=es1.size:=by rw [<-jau,J.length_eq,jau]
    have C:M.size<scanBound:=⋯
    refine Qh (hg _ _ _ (Qh (wpAny_storeSet_of g1 rfl (Qt ?_) (fits_of_scanBound C))));refine hR _ _ (G.trans (jab _ a _)) ⟨_,M,_,t2,⟨Ii g1 rfl,ex,rfl⟩,p.perm J,⟨Oe,good2⟩,rfl,Y.nodup_iff.mpr SY⟩ (λx=>by rw [Y.mem_iff];exact iU x) (by rw [Y.length_eq,OX];exact Qu _)
   ·exact Qt (hR _ _ G ⟨_,es1,_,t1,⟨g1,ex,rfl⟩,p,⟨fits,N⟩,rfl,SY⟩ iU (by rw [OX];exact Qu _))
  have fin:∀(h':Heap) (m:List Int),Heap.SameBut a s.heap h'->jE prog w h' a b m->(∀x,x∈m↔x∈(es.toList.map λe=>aO e.2)\/x=k)->m.length<=(es.toList.map λe=>aO e.2).length+1->Q true {s with heap:=h'}:=h true
  have pass:∀(c:Bool) (s₁:Shared) (u:Unit->Shared->Prop),u () s₁->wpAny (model prog w) A (match c with|true=>rule "set.scan.the-table-gave-way"|false=>pure ()) u E s₁:=λc s₁ u q=>by
   cases c
   ·exact Qt q
   ·exact jce q
  refine Qh (pass _ _ _ ?_);have Z:hashByValue 8 (.int k tk)=pure true:=rfl
  split
  ·refine Qh ?_;rw [Z];refine Qt ?_;exact tail (λc s₁ u q=>pass c s₁ u q) λh' m X U P O=>Qt (fin h' m X U P O)
  ·refine Qh (Qt ?_);exact tail (λc s₁ u q=>pass c s₁ u q) λh' m X U P O=>Qt (fin h' m X U P O)
def AM (w:World):Bool:=!(w.params.followText "set-order")
def WE (w:World):Obj:={cls:= .type "set",dict:=none,data:= .set #[] 0 (.fresh 0 0 (AM w))}
def Kb (x:Value) (k:R (.ref s.heap.objs.size) {s with heap:=s.heap.push (WE w)}):
 codeAny (model prog w) A (.call (.builtin "set.__new__") ⟨[.type "set",x],[]⟩) (wants R E) s:=by
 refine codeAny_of_tree (show wpAny _ A.in1 (do checkBuiltinCall "set.__new__" ⟨[.type "set",x],[]⟩;again (.builtin "set.__new__" ⟨[.type "set",x],[]⟩)) _ _ s from ?_)
 refine Qh (wpAny_of_eq (F.newCall_set_1 x) (Qt ⟨plainId_quiet F.plain_set_new _,jbG F.entry_set_new (by
  rw [jbl F.plain_set_new _];unfold Builtin.«set.__new__» Builtin.Frozenset.newClass;have sub:=sub_set_self;obtain ⟨hp,g,d,tk,os⟩:=s;dsimp only
  wp_walk
  refine wpAny_askSetting (Qt ?_);dsimp only;simp only [newObj]
  exact Qh (wpAny_alloc (Qt (Qt k))))⟩))
def jE.fresh (g:h.get? a=some (WE w)):jE prog w h a (AM w) []:=
 ⟨_,#[],0,_,⟨g,⟨rfl,rfl,rfl⟩,rfl⟩,λe he=>by simp at he,⟨rfl,by unfold Ris SetTable.fresh;exact List.Pairwise.nil,rfl⟩,rfl,List.nodup_nil⟩
def upd_T
 (W:WalksS prog w A.in1 I fp wr G n P St) (a:Addr) (out:a∉fp) (ns:List Int) (val:∀i v,P i v->∃k t,ns[i]? =some k/\v= .int k t) (few:n<900):
 ∀(m i:Nat) (s:Shared) (T:List Int),n - i=m->i<=n->St i s->jE prog w s.heap a b T->(∀x,x∈T↔x∈ns.take i)->T.length<=i->
  (∀g J,Moved (a::wr) G s g->jE prog w g.heap a b J->(∀x,x∈J↔x∈ns.take n)->J.length<=n->R (.ok (.ret .none)) g)->
  codeAny (model prog w) A (.builtin "set.update.loop" ⟨[.ref a, .ref I],[]⟩) R s:=by
 have p:a∉wr:=λz=>out (W.sub _ z);have more:∀c∈wr,c∈a::wr:=λc D=>Qf _ D;intro m
 induction m with
 |zero=>
  intro i s T hm Z st M K U N;have e:i=n:=⋯
  subst e;refine jbG PyProof.Rows.F.entry_set_update_loop ?_;rw [jbl jaU _];show wpAny _ A.in1 (pyNext (.ref I)>>=_) _ _ s;exact Qh (W.done s _ _ st λg u=>Qt (N g T (u.mono more) (M.kept λo=>u.heap a o p) K U))
 |succ m X=>
  intro i s T hm Z st M K U N;have lt:i<n:=⋯
  refine jbG PyProof.Rows.F.entry_set_update_loop ?_;rw [jbl jaU _];show wpAny _ A.in1 (pyNext (.ref I)>>=_) _ _ s;refine Qh (W.item i s _ _ lt st λv g hP MX u=>?_);obtain ⟨k,tk,Y,rfl⟩:=val i v hP;show wpAny _ A.in1 (holding [Value.int k tk] (setAdd a (.int k tk))>>=_) _ _ g;refine Qh (jbr ?_);unfold setAdd;refine jbr (Qh ((intKind prog w).pyHash (k:=k) (intKind_is _ _ _ _) ?_));refine add_T (b:=b) (ns:=T) (s:={g with toks:=g.toks+1}) (M.kept λo=>u.heap a o p) ⋯ λr h' J sb L MI MS=>?_;refine Qt ⟨plainId_quiet jaU _,X (i+1) _ J ⋯ lt (W.frame _ g _ _ MX (jaq _) λc D o e=>?_) L (λx=>?_) ⋯ λPU O q Ob y C=>?_⟩
  ·rw [sb.2 c (λz:c=a=>out (by rw [<-z];exact D))];exact e
  ·rw [MI x,K x,TZ,Y]
   simp
  ·refine N PU O (Moved.trans W.gtrans ((u.mono more).then_heap (jaq _) λc o D e=>?_) q) Ob y C;rw [sb.2 c (λz:c=a=>D (by rw [z];exact Qe))];exact e
set_option maxHeartbeats 8000000 in
def Av (quiet:A.handled=none) (hl:s.heap.IsList l items) (hi:PyProof.Rows.IntsAre items.toList ns) (few:items.size<900)
 (k:∀(h':Heap) (tk:Nat) (T:List Int),jE prog w h' s.heap.objs.size (AM w) T->(∀x,x∈T↔x∈ns)->T.length<=ns.length->(∀b o,b<s.heap.objs.size->s.heap.get? b=some o->h'.get? b=some o)->Q (.ref s.heap.objs.size) {s with heap:=h',toks:=tk}):
 wpAny (model prog w) A (call (.type "set") [.ref l]) Q E s:=by
 have lenN:items.size=ns.length:=by have:=hi.length;simpa using this
 obtain ⟨c1,tl1,Z⟩:=jbH.mro;have K:=jbH.made;have X:=jbH.sub;refine wpAny_call (codeAny_of_tree (show wpAny _ _ (callAny (.type "set") _) _ _ _ from ?_));refine Qt ⟨Code.quiet_builtin _ (by decide+kernel),jbG F.entry_type_call ?_⟩;rw [Around.under_plain (weight_type_call_type "set" [.ref l] []) rfl];have nt1:=jbH.notType;have cc1:=jbH.canCreate;have ct1:=F.typeCall_set_1 (.ref l)
 repeat any_goals (first|wp_step|assumption)
 refine jcc (Kb (.ref l) (E:=E) (R:=λobj s₁=>obj= .ref s.heap.objs.size/\s₁={s with heap:=s.heap.push (WE w)}) ⟨rfl,rfl⟩) λr s₁ hr=>?_
 cases r with
 |error e=>exact hr
 |ok fl=>
  cases fl with
  |ret obj=>
   obtain ⟨rfl,rfl⟩:=hr;have U:(s.heap.push (WE w)).get? s.heap.objs.size=some (WE w):=Qx _ rfl;have ty:Shared.TypeIs {s with heap:=s.heap.push (WE w)} (.ref s.heap.objs.size) "set":=⟨_,U,rfl⟩;have lk1:=jbH.init.lookup;have bd1:=jbH.init.bind (.ref s.heap.objs.size)
   repeat any_goals (first|wp_step|assumption)
   refine jcc (codeAny_call_builtin (R:=wants (λr s₂=>r= .none/\∃h' tk T,s₂={s with heap:=h',toks:=tk}/\jE prog w h' s.heap.objs.size (AM w) T/\(∀x,x∈T↔x∈ns)/\T.length<=ns.length/\
    (∀b o,b<s.heap.objs.size->s.heap.get? b=some o->h'.get? b=some o)) E) jbH.init.plain F.entry_set_init (check_set_init_1 ty ?_)) λr₂ s₂ hr₂=>?_
   ·obtain ⟨ol,D,p,nl,m⟩:=hl;obtain ⟨Y,u,I,g⟩:=ol;simp only at p m;subst p;subst m;have RG:(s.heap.push (WE w)).get? l=some {cls:= .type "list",dict:=u,data:= .seq items nl,slots:=g}:=Qj _ D;have sls:=F.sub_list_set;have slf:=F.sub_list_frozenset;have SY:(Value.type "list"==Value.type "dict")=false:=by decide
    have C:(s.heap.push (WE w)).IsList l items:=⟨_,RG,rfl,nl,rfl⟩;have P:=U;unfold WE at P RG;unfold Builtin.«set.__init__» noKeywords Builtin.Frozenset.updateFrom;generalize O:pyIter=PI
    wp_walk
    subst O;refine jaC C (Qh (wpAny_runValue ?_));have y:l<s.heap.objs.size:=Qz D;have q3:A.in1.in1.in1.handled=none:=by simp [quiet]
    have q:(s.heap.push (WE w)).objs.size=s.heap.objs.size+1:=Td ..;have J:l≠(s.heap.push (WE w)).objs.size:=by rw [q];exact QU (Tz y)
    have out:s.heap.objs.size∉[(s.heap.push (WE w)).objs.size,l]:=by
     rw [q];intro z
     rcases Qn.mp z with z|z
     ·exact absurd z (QU (Tp _))
     ·exact absurd (Qq.mp z) (jbf y)
    refine upd_T (b:=AM w) ((Walks.list q3 _ l J items).toS) s.heap.objs.size out ns (λi v hv=>?_) few (items.size - 0) 0 _ [] ⋯ (jap _) ⟨⟨_,Qx _ rfl,rfl,rfl⟩,C.push _⟩ (jE.fresh (Qj _ U)) (λx=>by simp) (jap _) λs' T' G N MI MS=>?_
    ·have OY:items.toList[i]? =some v:=by rw [Array.getElem?_toList];exact hv
     obtain ⟨t,ht⟩:=PyProof.Rows.IntsAre.int_at hi i v OY
     have lt:i<ns.length:=by
      have:=(Qd.mp OY).1;rw [jau] at this;lia
     refine ⟨ns.getD i 0,t,?_,ht⟩;rw [Ql,Qb lt];rfl
    ·obtain ⟨h',g',d',SM,OW⟩:=s';have eg:g'=s.gens:=G.gens;have ed:d'=s.drawn:=G.drawn;have eo:OW=s.os:=G.os;subst eg;subst ed;subst eo;show wpAny _ _ _ _ _ _;refine Qt (show wpAny _ _ (ret Value.none) _ _ _ from Qt ⟨rfl,h',SM,T',rfl,N,λx=>?_,⋯,λb o M e=>?_⟩)
     ·rw [MI x,Tv ⋯]
     ·refine G.heap b o (λz=>?_) (Qj _ (Qj _ e))
      rcases Qn.mp z with z|z
      ·exact absurd z (QU M)
      ·rw [Qq.mp z,q] at M;exact absurd M (Nat.not_lt.mpr (jaq _))
   ·cases r₂ with
    |error e=>exact hr₂
    |ok fl₂=>
     cases fl₂ with
     |ret r=>
      obtain ⟨rfl,h',tk,T,rfl,hT,hx,L,keep⟩:=hr₂
      repeat any_goals (first|wp_step|assumption)
      exact k _ _ T hT hx L keep
     |_=>exact hr₂.elim
  |_=>exact hr.elim
end
def Cz:Manifest.owners.lookup (String.ofList ['r','o','t','a','r','e','t','i','_','t','e','s'].reverse)=some Manifest.sig_set_iterator:=by kernel_rfl
def Yx (x:Value):argsOk "set_iterator.__next__" ⟨[x],[]⟩:=by
 unfold argsOk;rw [signature?_of (id:="set_iterator.__next__") (n:=['_','_','t','x','e','n','_','_']) (by kernel_rfl) Cz]
 kernel_rfl
def yp:Slot "set_iterator" "__next__" "set_iterator.__next__":= .of (owner:="set_iterator") (n:="__next__") (by rw [typeLookup_type,builtinLookup_eq_fast];kernel_rfl) (by decide+kernel) (by decide+kernel) (by decide+kernel) (by first|exact .inl (by decide+kernel)|exact .inr (by decide+kernel)) (by rw [isSubtype_type];kernel_rfl)
def Yc:entryFor table "set_iterator.__next__"=some Builtin.«set_iterator.__next__»:=entryFor_of_tree (by kernel_rfl)
def UY:Slot "set_iterator" "__iter__" "set_iterator.__iter__":= .of (owner:="set_iterator") (n:="__iter__") (by rw [typeLookup_type,builtinLookup_eq_fast];kernel_rfl) (by decide+kernel) (by decide+kernel) (by decide+kernel) (by first|exact .inl (by decide+kernel)|exact .inr (by decide+kernel)) (by rw [isSubtype_type];kernel_rfl)
def nG (x:Value):argsOk "set_iterator.__iter__" ⟨[x],[]⟩:=by
 unfold argsOk;rw [signature?_of (id:="set_iterator.__iter__") (n:=['_','_','r','e','t','i','_','_']) (by kernel_rfl) Cz]
 kernel_rfl
def js:entryFor table "set_iterator.__iter__"=some Builtin.«dict_keyiterator.__iter__»:=entryFor_alias (id':="dict_keyiterator.__iter__") (by kernel_rfl) rfl (by decide+kernel) (by kernel_rfl)
def jt:entryFor table "set.__iter__"=some Builtin.«frozenset.__iter__»:=entryFor_alias (id':="frozenset.__iter__") (by kernel_rfl) rfl (by decide+kernel) (by kernel_rfl)
theorem bV {α:Type}:∀{xs:List α} {i:Nat} (h:i<xs.length),(xs[i]::xs.eraseIdx i).Perm xs
 |[],i,h=>by simp at h
 |x::xs,0,h=>List.Perm.refl _
 |x::xs,i+1,h=>by
  have g:=bV ‹h›;exact (List.Perm.swap _ _ _).trans (g.cons x)
section
def Ar (hn:n≠0) (k:∀i d,i<n->Q i {s with drawn:=d}):wpAny (model prog w) A (choose src n) Q E s:=λΓ p hΓ=>by
 show Sem.wp _ _ (Sem.choose src n _) _ _ _ _;rw [Sem.wp_choose];exact ⟨hn,k _ _ (Nat.mod_lt _ ⋯)⟩
theorem IC {α:Type}:∀(n:Nat) (xs:List α) (s:Shared) (Q:List α->Shared->Prop),xs.length=n->(∀d ys,ys.Perm xs->Q ys {s with drawn:=d})->wpAny (model prog w) A (drawOrder n xs) Q E s
 |0,[],s,Q,_,k=>by rw [drawOrder];exact Qt (k s.drawn [] (List.Perm.refl _))
 |n+1,x::xs,s,Q,hl,k=>by
  rw [drawOrder]
  ·refine Qh (Ar (by simp) λi d g=>?_);have e:(x::xs)[i]? =some (x::xs)[i]:=Qb g;rw [e];dsimp only;refine Qh (IC n _ _ _ (by rw [List.length_eraseIdx,QH g,hl];rfl) λp ys hp=>Qt (k p _ ?_));have m:=List.Perm.cons (x::xs)[i] hp;refine m.trans ?_;exact bV g
  ·intro z;cases z
 |0,_::_,s,Q,h,_=>by simp at h
 |_+1,[],s,Q,h,_=>by simp at h
structure SetD (prog:Program) (w:World) (oS:Obj) (es:Array (Int×Value)) (ep:Nat) (t:SetTable):Prop where
 ex:oS.ExactSet
 data:oS.data= .set es ep t
 elems:ElemsOf (intKind prog w) es.toList
 fit:t.fits es.size=true
 good:sY (AM w) t
def Ay (h:Ris xs):SetTable.below xs 0=0:=by
 obtain ⟨p,g,m⟩:=VR h 0
 rcases Nat.eq_zero_or_pos (SetTable.below xs 0) with z|z
 ·exact z
 ·have:xs[0]? =some (xs[0]'⋯):=by simp
  exact absurd (g 0 _ z this) (Nat.not_lt_zero _)
def Az (h:Ris xs) (g:xs[i]? =some j):SetTable.below xs (j+1)=i+1:=by
 obtain ⟨s,r,q⟩:=VR h (j+1);have li:i<xs.size:=(jbd.mp g).1
 rcases Nat.lt_trichotomy (SetTable.below xs (j+1)) (i+1) with z|z|z
 ·have:=q i j ⋯ g;lia
 ·exact z
 ·have p:i+1<xs.size:=⋯
  have m:xs[i+1]? =some xs[i+1]:=by simp [p]
  have:=r (i+1) _ z m;have:=h.lt (Tp i) g m;lia
def byT (w:World):Bool:=w.params.followText "set-order"
def nP (w:World) (a:Addr) (ep:Nat) (es:Array (Int×Value)):Array (Int×Value):=if byT w=true then pickOrder (w.params.setOrder a ep) es else es
def stT (w:World) (t:SetTable) (i slot:Nat):Prop:=byT w=true\/SetTable.below t.place slot=i
theorem pC {α:Type} (f:Nat->Nat):∀(n k:Nat) (left:List α) (out:Array α),left.length=n->(pickOrder.go f n k left out).toList.Perm (out.toList++left)
 |0,k,[],out,_=>by rw [pickOrder.go];simp
 |0,k,_::_,out,h=>by simp at h
 |n+1,k,[],out,h=>by simp at h
 |n+1,k,x::left,out,h=>by
  rw [pickOrder.go];have g:f k % (x::left).length<(x::left).length:=Nat.mod_lt _ (by simp);rw [Qb g];dsimp only;have m:=pC f n (k+1) ((x::left).eraseIdx (f k % (x::left).length)) (out.push (x::left)[f k % (x::left).length]) (by rw [List.length_eraseIdx,QH g,h];rfl);refine m.trans ?_;rw [Array.toList_push,jah];exact (bV g).append_left _
def ar (w:World) (a:Addr) (ep:Nat) (es:Array (Int×Value)):(nP w a ep es).toList.Perm es.toList:=by
 unfold nP
 split
 ·unfold pickOrder;have:=pC (w.params.setOrder a ep) es.size 0 es.toList #[] (by simp)
  simpa using this
 ·exact List.Perm.refl _
section
def sJ (k:Q (byT w) s):wpAny (model prog w) A setsByText Q E s:=by
 unfold setsByText;exact Qh (wpAny_askSetting (Qt k))
def Bb (m:s.heap.get? a=some oS) (D:SetD prog w oS es ep t) (g:byT w=true) (k:Q (pickOrder (w.params.setOrder a ep) es) s):wpAny (model prog w) A (setWalk a) Q E s:=by
 unfold setWalk;refine Qh (jbJ m D.data D.fit ?_);dsimp only;refine Qh (sJ ?_);rw [g,QH rfl];exact Qh (wpAny_askSetting (Qt k))
def Ir (C:s.heap.get? a=some oS) (D:SetD prog w oS es ep t) (pl:byT w=true\/(t.plain=true\/es.size<=1)) (st:stT w t i slot)
 (u:∀e G,(nP w a ep es)[i]? =some e->stT w t (i+1) G->Q (some (e.2,G)) s) (r:es.size<=i->Q none s):wpAny (model prog w) A (setNext a slot i ep) Q E s:=by
 have J:(nP w a ep es).size=es.size:=by
  have:=(ar w a ep es).length_eq
  simpa using this
 unfold setNext;refine Qh (jbJ C D.data D.fit ?_);dsimp only;refine Qh (sJ ?_)
 cases hb:byT w with
 |true=>
  rw [QH rfl,QS (by simp)];refine Qh (Bb C D hb (Qt ?_));have q:nP w a ep es=pickOrder (w.params.setOrder a ep) es:=by unfold nP;rw [QH hb]
  rw [<-q]
  by_cases c:i<(nP w a ep es).size
  ·have e:(nP w a ep es)[i]? =some (nP w a ep es)[i]:=by simp [c]
   rw [e];exact u _ slot e (.inl hb)
  ·rw [Array.getElem?_eq_none ⋯];exact r ⋯
 |false=>
  have K:SetTable.below t.place slot=i:=st.resolve_left (by rw [hb];exact QM);have m:=pl.resolve_left (by rw [hb];exact QM);rw [QS QM]
  split
  ·rename_i z
   exfalso
   have g:(!t.plain && decide (es.size>1))=true:=z;rw [jaz,decide_eq_true_eq] at g
   rcases m with p|p
   ·rw [p] at g;exact QM g.1
   ·lia
  have led:t.led=true:=by
   have:=D.good.2;unfold AM at this;rw [this,show w.params.followText "set-order"=false from hb];rfl
  refine Qh (show wpAny _ _ (if (!t.led && !es.isEmpty)=true then unsupported "set:maker-not-led" else pure ()) _ _ s from ?_);rw [led,QS (by simp)];refine Qt (Qt ?_);rw [K];have q:nP w a ep es=es:=by unfold nP;rw [QS (by rw [hb];exact QM)]
  have I:t.place.size=es.size:=by
   have:=D.fit;unfold SetTable.fits at this;rw [jaz] at this
   simpa using this.1
  by_cases c:i<es.size
  ·have e:es[i]? =some es[i]:=by simp [c]
   have y:t.place[i]? =some (t.place[i]'⋯):=by simp
   rw [e,y];exact u es[i] _ (by rw [q];exact e) (.inr (Az D.good.1 y))
  ·rw [Array.getElem?_eq_none (show es.size<=i by lia)];exact r ⋯
end
end
section
variable {prog:Program} {w:World} {A:Around} {E:Value->Shared->Prop} {s:Shared} {a I:Addr} {oS:Obj} {es:Array (Int×Value)} {ep:Nat} {t:SetTable} {slot i:Nat}
def ItF (h:Heap) (I:Addr) (vs:Array Value):Prop:=∃o,h.get? I=some o/\o.cls= .type "set_iterator"/\o.data= .fields vs
def ItF.ty (x:ItF s.heap I vs):s.TypeIs (.ref I) "set_iterator":=by
 obtain ⟨_,e,c,_⟩:=x;exact ⟨_,e,c⟩
def ItF.set (x:ItF h I vs) (j:Nat) (v:Value):ItF (h.update I (Obj.mapFields (·.setIfInBounds j v))) I (vs.setIfInBounds j v):=by
 obtain ⟨o,e,c,d⟩:=x;exact ⟨_,jaG _ e (Obj.isFreed_of_fields (jbX d _)),(Obj.cls_mapFields ..).trans c,jbX d _⟩
def FH {Q:Option Value->Shared->Prop} (x:ItF s.heap I #[.int slot 0, .int i 0, .ref a, .int es.size 0, .int ep 0]) (ne:a≠I) (u:s.heap.get? a=some oS) (D:SetD prog w oS es ep t) (pl:byT w=true\/(t.plain=true\/es.size<=1)) (st:stT w t i slot) (J:i<es.size)
 (G:∀e g h',(nP w a ep es)[i]? =some e->stT w t (i+1) g->ItF h' I #[.int g 0, .int (i+1:Nat) 0, .ref a, .int es.size 0, .int ep 0]->Heap.SameBut I s.heap h'->Q (some e.2) {s with heap:=h'}):wpAny (model prog w) A (pyNext (.ref I)) Q E s:=by
 have C:=x;obtain ⟨o,go,N,r⟩:=C;unfold pyNext;refine Qh (jbI (TK x.ty yp (jae yp x.ty Yc ?_ (Yx _))));unfold Builtin.«set_iterator.__next__»;refine Qh (Qt ?_);refine Qh (wpAny_fieldsOf go r ?_);dsimp only;refine Qh (jbu u D.data D.fit ?_);rw [QS (by simp)];refine Qh (Ir u D pl st (λe g he L=>?_) (λz=>absurd J ⋯));dsimp only;refine Qh (jbj go r (by simp) ?_);have q:=x.set 0 (rawInt (g:Nat));have y:=q.set 1 (rawInt ((i:Int)+1));obtain ⟨M,m,K,p⟩:=q;refine Qh (jbj m p (by simp) ?_);refine Qt ⟨_,rfl,Qt (G e g _ he L ?_ ((jab ..).trans (jab ..)))⟩
 simpa [rawInt] using y
def Ij {j:Nat} {x:Value} {m:Heap} {Q:Option Value->Shared->Prop} (quiet:A.handled=none) (k:∀h',(∀b o,m.get? b=some o->h'.get? b=some o)->Q none {s with heap:=h'}):
 wpAny (model prog w) A.in1 (newExc (.type "StopIteration") []>>=λe=>(raiseNew e:Sem Fin)) (λfin g=>∃v,fin=Fin.done (Flow.ret v)/\wpAny (model prog w) A (pure (some v)) Q E g)
  (λe g=>wpAny (model prog w) A (isInstance e (Value.type "StopIteration")>>=λb=>if b=true then pure none else throw e) Q E g) {s with heap:=m}:=by
 refine Qh ?_;simp only [newExc,newTuple];refine Qh (jaf (Qh (wpAny_of_eq (by first|rfl|(simp only [firstArgMember];rfl)) (jaf ?_ (by size_fits)))) (by size_fits));simp only [raiseNew];refine Qh (wpAny_handled ?_);rw [show A.in1.handled=none from quiet];refine' Qh (Qt (wpAny_throw ?told))
 case told=>
  refine' Qh (wpAny_isInstance ⟨_,Qx _ rfl,rfl⟩ isSubtype_stop ?yes)
  case yes=>exact Qt (k _ λb o e=>Qj _ (Qj _ e))
def FI {Q:Option Value->Shared->Prop} (quiet:A.handled=none) (x:ItF s.heap I #[.int slot 0, .int i 0, .ref a, .int es.size 0, .int ep 0]) (p:s.heap.get? a=some oS) (D:SetD prog w oS es ep t) (pl:byT w=true\/(t.plain=true\/es.size<=1)) (st:stT w t i slot) (u:es.size<=i)
 (k:∀h',(∀b o,b≠I->s.heap.get? b=some o->h'.get? b=some o)->Q none {s with heap:=h'}):wpAny (model prog w) A (pyNext (.ref I)) Q E s:=by
 have g:(nP w a ep es).size=es.size:=by
  have:=(ar w a ep es).length_eq
  simpa using this
 have q:=x;obtain ⟨o,go,y,m⟩:=q;unfold pyNext;refine Qh (jbI (TK (name:=Str.ofString "__next__") x.ty yp (jae yp x.ty Yc ?_ (Yx _))));unfold Builtin.«set_iterator.__next__»;refine Qh (Qt (Qh (wpAny_fieldsOf go m ?_)));dsimp only;refine Qh (jbu p D.data D.fit ?_);rw [QS (by simp)];refine Qh (Ir p D pl st (λe G he C=>?_) (λ_=>?_))
 ·have:=(jbd.mp he).1
  exact absurd this (by have z:(nP w a ep es).size=es.size:=g
                        show ¬i<(nP w a ep es).size
                        lia)
 dsimp only;refine Qh (jbj go m (by simp) ?_);exact Ij (j:=0) (x:= .none) quiet λh' keep=>k h' λb o r e=>keep b o ((jab s.heap I _).extBut b o r e)
def tR {vs:Array Value} {Q:Value->Shared->Prop} (x:ItF s.heap I vs) (k:Q (.ref I) s):wpAny (model prog w) A (pyIter (.ref I)) Q E s:=by
 refine wpAny_pyIter_slot x.ty UY (jae UY x.ty js (show wpAny _ _ (ret (.ref I)) _ _ s from ?_) (nG _));exact Qt ⟨_,rfl,"set_iterator",_,x.ty,yp.lookup,k⟩
def By {g:Addr} {pls:List Nat} {q:Obj} {C p:Nat} {e:Int×Value} {Q:Option Value->Shared->Prop} (x:ItF s.heap I #[.ref g, .int i 0, .ref a, .int es.size 0, .int ep 0]) (gt:s.heap.get? g=some q) (m:q.data= .seq (pls.map λ(p:Nat)=>rawInt p).toArray C)
 (u:s.heap.get? a=some oS) (D:SetD prog w oS es ep t) (hp:pls[i]? =some p) (he:es[p]? =some e)
 (G:∀h',ItF h' I #[.ref g, .int (i+1:Nat) 0, .ref a, .int es.size 0, .int ep 0]->Heap.SameBut I s.heap h'->Q (some e.2) {s with heap:=h'}):wpAny (model prog w) A (pyNext (.ref I)) Q E s:=by
 have z:=x;obtain ⟨o,go,K,r⟩:=z;unfold pyNext;refine Qh (jbI (TK x.ty yp (jae yp x.ty Yc ?_ (Yx _))));unfold Builtin.«set_iterator.__next__»;refine Qh (Qt (Qh (wpAny_fieldsOf go r ?_)));dsimp only;refine Qh (jbu u D.data D.fit ?_);rw [QS (by simp)];refine Qh (show wpAny _ _ (load g>>=_) _ _ s from Qh (wpAny_load gt ?_));rw [m];refine Qt ?_;dsimp only
 have J:(pls.map λ(p:Nat)=>rawInt p).toArray[(i:Int).toNat]? =some (rawInt p):=by
  rw [Tn,List.getElem?_toArray,Qg,hp];rfl
 rw [J];show wpAny _ _ (setNextDrawn a (p:Int).toNat (ep:Int).toNat>>=_) _ _ s;refine Qh ?_;unfold setNextDrawn;refine Qh (jbJ u D.data D.fit ?_);dsimp only;rw [Tn,Tn,QS (by simp),he];refine Qh (Qt (Qt ?_));refine Qh (jbj go r (by simp) ?_);have y:=x.set 1 (rawInt ((i:Int)+1));refine Qt ⟨_,rfl,Qt (G _ ?_ (jab ..))⟩
 simpa [rawInt] using y
def Bz {g:Addr} {pls:List Nat} {u:Obj} {G:Nat} {Q:Option Value->Shared->Prop} (quiet:A.handled=none) (x:ItF s.heap I #[.ref g, .int i 0, .ref a, .int es.size 0, .int ep 0]) (gt:s.heap.get? g=some u) (m:u.data= .seq (pls.map λ(p:Nat)=>rawInt p).toArray G)
 (M:s.heap.get? a=some oS) (D:SetD prog w oS es ep t) (hp:pls.length<=i)
 (k:∀h',(∀b o,b≠I->s.heap.get? b=some o->h'.get? b=some o)->Q none {s with heap:=h'}):wpAny (model prog w) A (pyNext (.ref I)) Q E s:=by
 have C:=x;obtain ⟨o,go,O,y⟩:=C;unfold pyNext;refine Qh (jbI (TK (name:=Str.ofString "__next__") x.ty yp (jae yp x.ty Yc ?_ (Yx _))));unfold Builtin.«set_iterator.__next__»;refine Qh (Qt (Qh (wpAny_fieldsOf go y ?_)));dsimp only;refine Qh (jbu M D.data D.fit ?_);rw [QS (by simp)];refine Qh (show wpAny _ _ (load g>>=_) _ _ s from Qh (wpAny_load gt ?_));rw [m];refine Qt ?_;dsimp only
 have L:(pls.map λ(p:Nat)=>rawInt p).toArray[(i:Int).toNat]? =none:=by
  rw [Tn,List.getElem?_toArray,Qg,QD hp];rfl
 rw [L];dsimp only;refine Qh (jbj go y (by simp) ?_);have z:=x.set 0 (rawInt 0);obtain ⟨N,q,K,r⟩:=z;refine Qh (jbj q r (by simp) ?_);exact Ij (j:=0) (x:= .none) quiet λh' keep=>k h' λb o J e=>keep b o (((jab s.heap I _).trans (jab _ I _)).extBut b o J e)
end
section
def ItF.at (x:ItF h I vs) (k:∀o,h.get? I=some o->h'.get? I=some o):ItF h' I vs:=by
 obtain ⟨o,e,r⟩:=x;exact ⟨o,k o e,r⟩
def Ba (quiet:A.handled=none) (ne:a≠I) (D:SetD prog w oS es ep t) (pl:byT w=true\/(t.plain=true\/es.size<=1)):
 Walks prog w A I [I,a] [I] es.size (λi v=>∃e,(nP w a ep es)[i]? =some e/\v=e.2) (λi h=>(∃slot,stT w t i slot/\ItF h I #[.int (slot:Nat) 0, .int (i:Nat) 0, .ref a, .int es.size 0, .int ep 0])/\h.get? a=some oS) where
 sub:=λb p=>by rw [Qq.mp p];exact Qe
 frame:=λi h h' st keep=>⟨let ⟨q,m,g⟩:=st.1;⟨q,m,g.at λo e=>keep I Qe o e⟩,keep a (by simp) _ st.2⟩
 item:=λi s Q E u st k=>by
  obtain ⟨⟨q,m,g⟩,r⟩:=st;refine FH g ne r D pl m u λe C h' he y x sb=>?_;exact k e.2 h' s.toks ⟨e,he,rfl⟩ ⟨⟨C,y,x⟩,sb.extBut a _ ne r⟩ λb o p e=>sb.extBut b o (λz=>p (by rw [z];exact Qq.mpr rfl)) e
 done:=λs Q E st k=>by
  obtain ⟨⟨q,m,g⟩,r⟩:=st;exact FI quiet g r D pl m (Qu _) λh' keep=>k h' s.toks λb o p e=>keep b o (λz=>p (by rw [z];exact Qq.mpr rfl)) e
 self:=λi s Q E st k=>let ⟨q,m,g⟩:=st.1;tR g k
def qI {g:Addr} {pls:List Nat} {r:Obj} {G:Nat} (quiet:A.handled=none) (ne:a≠I) (ne2:g≠I) (D:SetD prog w oS es ep t) (q:r.data= .seq (pls.map λ(p:Nat)=>rawInt p).toArray G) (hp:∀p∈pls,p<es.size):
 Walks prog w A I [I,a,g] [I] pls.length (λi v=>∃p e,pls[i]? =some p/\es[p]? =some e/\v=e.2) (λi h=>ItF h I #[.ref g, .int (i:Nat) 0, .ref a, .int es.size 0, .int ep 0]/\h.get? a=some oS/\h.get? g=some r) where
 sub:=λb m=>by rw [Qq.mp m];exact Qe
 frame:=λi h h' st keep=>⟨st.1.at λo e=>keep I Qe o e,keep a (by simp) _ st.2.1,keep g (by simp) _ st.2.2⟩
 item:=λi s Q E u st k=>by
  have C:=Qb u;have lt:=hp _ (QY u);have y:es[pls[i]]? =some es[pls[i]]:=by simp [lt]
  refine By st.1 st.2.2 q st.2.1 D C y λh' x sb=>?_;exact k _ h' s.toks ⟨_,_,C,y,rfl⟩ ⟨x,sb.extBut a _ ne st.2.1,sb.extBut g _ ne2 st.2.2⟩ λb o m e=>sb.extBut b o (λz=>m (by rw [z];exact Qq.mpr rfl)) e
 done:=λs Q E st k=>Bz quiet st.1 st.2.2 q st.2.1 D (Qu _) λh' keep=>k h' s.toks λb o m e=>keep b o (λz=>m (by rw [z];exact Qq.mpr rfl)) e
 self:=λi s Q E st k=>tR st.1 k
def WalkOk (prog:Program) (w:World) (h:Heap) (I a:Addr) (lo:Nat) (ns:List Int):Prop:=
 ∃(g:List Addr) (n:Nat) (P:Nat->Value->Prop) (St:Nat->Heap->Prop) (os:List Int),St 0 h/\I∈g/\(∀b∈g,b<h.objs.size/\(b=a\/lo<=b))/\n=os.length/\os.Perm ns/\(∀i v,P i v->∃tk k,os[i]? =some k/\v= .int k tk)/\∀m:Around,m.handled=none->Walks prog w m I g [I] n P St
def uO (D:SetD prog w oS es ep t) (he:e∈es.toList):∃tk,e.2= .int (aO e.2) tk:=by
 obtain ⟨⟨k,g,_⟩,_⟩:=D.elems e he;obtain ⟨tk,h⟩:=Value.isInt_shape g;exact ⟨tk,by rw [h];rfl⟩
def Cq {α β:Type} (g:α->β) (d:α) (l:List α):(List.range l.length).map (λi=>g (l.getD i d))=l.map g:=by
 apply Ts
 ·simp
 ·intro i m p;simp at m;simp [m]
def iter_T {ns:List Int} {Q:Value->Shared->Prop} (T:jE prog w s.heap a (AM w) ns) (few:ns.length<1000)
 (k:∀(h':Heap) (d) (I:Addr),(∀b o,s.heap.get? b=some o->h'.get? b=some o)->s.heap.objs.size<=I->I<h'.objs.size->h'.objs.size<=s.heap.objs.size+2->WalkOk prog w h' I a s.heap.objs.size ns->Q (.ref I) {s with heap:=h',drawn:=d}):
 wpAny (model prog w) A (pyIter (.ref a)) Q E s:=by
 obtain ⟨o,es,ep,t,⟨u,ex,data⟩,elems,⟨fit,good⟩,rfl,nd⟩:=T;have D:SetD prog w o es ep t:=⟨ex,data,elems,fit,good⟩;have ty:s.TypeIs (.ref a) "set":=⟨_,u,ex.1⟩;have y:a<s.heap.objs.size:=Qz u;refine wpAny_pyIter_slot ty F.slot_set_iter (jae F.slot_set_iter ty jt ?_ (F.args_set_iter_1 _));unfold Builtin.«frozenset.__iter__» Builtin.Frozenset.slot0 Builtin.Frozenset.sizeOf;refine Qh (Qh (Qt (show wpAny _ _ (pure a) _ _ s from Qt ?_)));refine Qh (Qh (jbu u data fit (Qt ?_)));unfold setDrawn;refine Qh (Qh (jbJ u data fit ?_));dsimp only;refine Qh (sJ (Qt ?_));have vals:∀l:List (Int×Value),l.Perm es.toList->(l.map λe=>aO e.2).Perm (es.toList.map λe=>aO e.2):=λl p=>p.map _;have P:es.size<1000:=by simpa using few
 split
 ·refine Qh (IC es.size (List.range es.size) _ _ jaE λd ys hp=>?_);have ly:ys.length=es.size:=by rw [hp.length_eq,jaE]
  simp only [newTuple]
  refine Qh (jaf ?_ (by
   show (List.map _ ys).toArray.size<=sizeLine
   rw [sizeLine_eq,QL,Qa];lia))
  dsimp only;have g1:(s.heap.push {cls:= .type "tuple",data:= .seq (ys.map λ(p:Nat)=>rawInt p).toArray}).get? a=some o:=Qj _ u;have gt:(s.heap.push {cls:= .type "tuple",data:= .seq (ys.map λ(p:Nat)=>rawInt p).toArray}).get? s.heap.objs.size=some {cls:= .type "tuple",data:= .seq (ys.map λ(p:Nat)=>rawInt p).toArray}:=Qx _ rfl;have m:(s.heap.push {cls:= .type "tuple",data:= .seq (ys.map λ(p:Nat)=>rawInt p).toArray}).objs.size=s.heap.objs.size+1:=Td ..;generalize Y:s.heap.push {cls:= .type "tuple",data:= .seq (ys.map λ(p:Nat)=>rawInt p).toArray}=r at g1 gt m⊢;have U:∀b o,s.heap.get? b=some o->r.get? b=some o:=λb o e=>by rw [<-Y];exact Qj _ e
  refine Qh (wpAny_setEpoch_of g1 data fit ?_);simp only [newFields];refine Qh (jaf (Qt ⟨_,rfl,"set_iterator",_,⟨_,Qx _ rfl,rfl⟩,yp.lookup,?_⟩));refine k _ d _ (λb o e=>Qj _ (U b o e)) (by show _<=r.objs.size;rw [m];exact jaq _) (by rw [Td];exact Tp _) (by rw [Td,m];exact Qu _) ?_;have K:a≠r.objs.size:=by rw [m];exact QU (Tz y)
  have J:s.heap.objs.size≠r.objs.size:=by rw [m];exact QU (Tp _)
  have Nj:∀p∈ys,p<es.size:=λp MB=>by
   have:=hp.mem_iff.mp MB;exact jcb.mp this
  refine ⟨[r.objs.size,a,s.heap.objs.size],ys.length,_,_,ys.map λp=>aO (es.toList.getD p (0, .none)).2,⟨⟨_,Qx _ rfl,rfl,rfl⟩,Qj _ g1,Qj _ gt⟩,Qe,λb g=>?_,(Qa ..).symm,?_,λi v M=>?_,λA' q=>qI q K J D rfl Nj⟩
  ·rw [Td]
   rcases Qn.mp g with z|g
   ·rw [z];exact ⟨Tp _, .inr (by rw [m];exact jaq _)⟩
   rcases Qn.mp g with z|g
   ·rw [z,m];exact ⟨Tz (Tz y), .inl rfl⟩
   ·rw [Qq.mp g,m];exact ⟨Tz (Tp _), .inr (Qu _)⟩
  ·have N:=hp.map λp=>aO (es.toList.getD p (0, .none)).2;have e:=Cq (λe:Int×Value=>aO e.2) (0, .none) es.toList;rw [jau] at e;rw [e] at N;exact N
  ·obtain ⟨p,e,Z,O,rfl⟩:=M;have L:e∈es.toList:=Qc ‹O›;obtain ⟨tk,ht⟩:=uO D L;refine ⟨tk,aO e.2,?_,ht⟩;have X:es.toList.getD p (0, .none)=e:=by rw [Ql,Array.getElem?_toList,O];rfl
   rw [Qg,Z];show some (aO (es.toList.getD p (0, .none)).2)=_;rw [X]
 ·rename_i z
  have pl:byT w=true\/(t.plain=true\/es.size<=1):=by
   have C:¬(!byT w && (!t.plain && decide (es.size>1)))=true:=z
   cases r:byT w with
   |true=>exact .inl rfl
   |false=>
    cases h2:t.plain with
    |true=>exact .inr (.inl rfl)
    |false=>
     right;right
     rw [r,h2] at C;simp at C;exact C
  refine Qh (Qt (Qh (wpAny_setEpoch_of u data fit ?_)));simp only [newFields];refine Qh (jaf (Qt ⟨_,rfl,"set_iterator",_,⟨_,Qx _ rfl,rfl⟩,yp.lookup,?_⟩));refine k _ s.drawn _ (λb o e=>Qj _ e) (Qu _) (by rw [Td];exact Tp _) (by rw [Td];exact jaq _) ?_
  have G:(nP w a ep es).size=es.size:=by
   have:=(ar w a ep es).length_eq
   simpa using this
  refine ⟨[s.heap.objs.size,a],es.size,_,_,(nP w a ep es).toList.map λe=>aO e.2,⟨⟨0,Or.inr (Ay good.1),_,Qx _ rfl,rfl,rfl⟩,Qj _ u⟩,Qe,λb g=>?_,by rw [Qa,jau,G],vals _ (ar w a ep es),λi v M=>?_,λA' q=>Ba q (QU y) D pl⟩
  ·rw [Td]
   rcases Qn.mp g with z|g
   ·rw [z];exact ⟨Tp _, .inr (Qu _)⟩
   ·rw [Qq.mp g];exact ⟨Tz y, .inl rfl⟩
  ·obtain ⟨e,he,rfl⟩:=M;have L:e∈es.toList:=(ar w a ep es).mem_iff.mp (Qc ‹he›);obtain ⟨tk,ht⟩:=uO D L;refine ⟨tk,aO e.2,?_,ht⟩;rw [Qg,Array.getElem?_toList,he];rfl
end
section
def hint_T {ns:List Int} {Q:Bool->Shared->Prop} (ty:s.TypeIs (.ref a) "set") (k:Q false s):wpAny (model prog w) A (Builtin.List.listLengthHint (.ref a)) Q E s:=by
 unfold Builtin.List.listLengthHint;refine Qh (wpAny_specialOf ty F.slot_set_len.lookup ?_);dsimp only;rw [show splitId "set.__len__"=some ("set","__len__") by decide+kernel];dsimp only;refine Qh (wpAny_isInstance ty sub_set_self ?_);rw [QS (by simp),QH (by decide+kernel)];exact Qh (wpAny_typeOf ty (Qt k))
theorem DH:∀{vs:List Value} {os:List Int},vs.length=os.length->(∀(j:Nat) (v:Value),vs[j]? =some v->∃tk k,os[j]? =some k/\v=Value.int k tk)->PyProof.Rows.IntsAre vs os
 |[],[],_,_=> .nil
 |v::vs,k::os,hl,h=>by
  obtain ⟨tk,q,g,rfl⟩:=h 0 v rfl;cases g
  exact .cons k tk (DH ‹hl› λj v m=>by
   obtain ⟨tk,k,g,p⟩:=h (j+1) v ‹m›
   exact ⟨tk,k,by simpa using g,p⟩)
 |[],_::_,h,_=>by simp at h
 |_::_,[],h,_=>by simp at h
def Ex {ns:List Int} {Q:List Value->Shared->Prop} (quiet:A.handled=none) (T:jE prog w s.heap a (AM w) ns) (few:ns.length<1000)
 (k:∀(h':Heap) (d) (tk:Nat) (vs:List Value) (os:List Int),(∀b o,s.heap.get? b=some o->h'.get? b=some o)->s.heap.objs.size<h'.objs.size->PyProof.Rows.IntsAre vs os->os.Perm ns->Q vs {s with heap:=h',drawn:=d,toks:=tk}):wpAny (model prog w) A (collect (.ref a)) Q E s:=by
 have Y:a<s.heap.objs.size:=let ⟨_,_,_,_,⟨g,_⟩,_⟩:=T;Qz g
 unfold collect;refine Qh (wpAny_runValue (jbG PySem.F.entry_proto_collect ?_));rw [jbl PySem.F.plain_proto_collect _];show wpAny _ A.in1 (newList []>>=λl=>again (.builtin "list.__iadd__" ⟨[l, .ref a],[]⟩)) _ _ s;refine Qh (jaf (Qt ⟨plainId_quiet PySem.F.plain_list_iadd _,jbG PySem.F.entry_list_iadd ?_⟩));rw [jbl PySem.F.plain_list_iadd _];show wpAny _ A.in1 (Builtin.List.listExtendWith (.ref s.heap.objs.size) (.ref a) (.ref s.heap.objs.size)) _ _ _;unfold Builtin.List.listExtendWith;generalize M:s.heap.push {cls:= .type "list",data:= .seq ([]:List Value).toArray}=p;have g1:p.get? s.heap.objs.size=some {cls:= .type "list",data:= .seq ([]:List Value).toArray}:=by rw [<-M];exact Qx _ rfl
 have X:p.objs.size=s.heap.objs.size+1:=by rw [<-M];exact Td ..
 have O:∀b o,s.heap.get? b=some o->p.get? b=some o:=λb o e=>by rw [<-M];exact Qj _ e
 have L:jE prog w p a (AM w) ns:=T.kept λo e=>O a o e;have y:Shared.TypeIs {s with heap:=p} (.ref a) "set":=let ⟨_,_,_,_,⟨g,x,_⟩,_⟩:=L;⟨_,g,x.1⟩
 have ne:s.heap.objs.size≠a:=jbf Y;refine Qh (wpAny_typeOf (s:={s with heap:=p}) y ?_);have c1:Builtin.List.listSameRef (.ref s.heap.objs.size) (.ref a)=false:=by unfold Builtin.List.listSameRef;simpa using ne
 rw [c1,show (Value.type "set"==Value.type "list")=false by decide,show (Value.type "set"==Value.type "tuple")=false by decide,QS (by simp)];refine Qh (iter_T (s:={s with heap:=p}) L few λq d I t J hI C W=>?_);dsimp only at t J C;have T2:jE prog w q a (AM w) ns:=L.kept λo e=>t a o e;have u:Shared.TypeIs {s with heap:=q,drawn:=d} (.ref a) "set":=let ⟨_,_,_,_,⟨g,x,_⟩,_⟩:=T2;⟨_,g,x.1⟩
 refine Qh (jbr (hint_T (ns:=ns) (s:={s with heap:=q,drawn:=d}) u ?_));rw [QH (by decide+kernel)];refine Qh (jce ?_);have g2:=t _ _ g1;have g3:=jaG (Obj.mapSeq (·.push Value.none)) g2 rfl;have g4:=jaG (Obj.mapSeq (·.pop)) g3 rfl;refine Qh (show wpAny _ A.in1 (updateSeq s.heap.objs.size (·.push .none)>>=λ_=>updateSeq s.heap.objs.size (·.pop)) _ _ _ from Qh (wpAny_updateSeq g2 rfl (wpAny_updateSeq g3 rfl ?_)));obtain ⟨fp,n,P,St,os,D,mI,K,hn,perm,val,Wk⟩:=W
 have out:s.heap.objs.size∉fp:=λz=>by
  rcases (K _ z).2 with e|e
  ·exact ne e
  ·dsimp only at e;rw [X] at e;exact absurd e (Nat.not_le.mpr (Tp _))
 have G:n<=sizeLine:=by
  have:=perm.length_eq;rw [sizeLine_eq];lia
 have oth:∀b o,b≠s.heap.objs.size->q.get? b=some o->((q.update s.heap.objs.size (Obj.mapSeq (·.push Value.none))).update s.heap.objs.size (Obj.mapSeq (·.pop))).get? b=some o:=
  λb o m e=>(jbx _ _ (Ne.symm m)).trans ((jbx _ _ (Ne.symm m)).trans e)
 have WS:=(Wk A.in1 (by simp [quiet])).toS;refine Qt ⟨plainId_quiet PySem.F.plain_extend_loop _,codeAny_extend_loopS WS G _ out _ n 0 _ _ _ rfl (jap _) ((Wk A.in1 (by simp [quiet])).frame 0 q _ D λb m o e=>oth b o (λz=>out (z▸m)) e) g4 (ItemsOf.nil P) λN acc c r U items=>?_⟩;refine (show wpAny _ A (load s.heap.objs.size>>=_) _ _ N from Qh (wpAny_load U (Qt ?_)));obtain ⟨h',g',d',SM,OW⟩:=N;have eg:g'=s.gens:=r.gens;have ed:d'=d:=r.drawn;have eo:OW=s.os:=r.os;subst eg;subst ed;subst eo;refine k h' d' SM acc.toList os (λb o e=>?_) (Qz U) (DH ?_ λj v hv=>?_) perm
 ·have m:b<s.heap.objs.size:=Qz e;refine r.heap b o (λz=>?_) (oth b o (QU m) (t b o (O b o e)))
  rcases Qn.mp z with z|z
  ·exact absurd m (by rw [z];exact jat _)
  ·rw [Qq.mp z] at m;rw [X] at J;exact absurd m (Nat.not_lt.mpr (Tc (jaq _) J))
 ·rw [jau,items.1,hn]
 ·obtain ⟨tk,Z,Oc,Su⟩:=val j v (items.2 j v ‹hv›);exact ⟨tk,Z,Oc,Su⟩
def FG {ns:List Int} {Q:Value->Shared->Prop} (quiet:A.handled=none) (T:jE prog w s.heap a (AM w) ns) (few:ns.length<64)
 (k:∀(h':Heap) (d) (tk:Nat) (L:Addr) (out:Array Value) (os:List Int) (e:Nat),(∀b o,s.heap.get? b=some o->h'.get? b=some o)->s.heap.objs.size<=L->h'.get? L=some (PyProof.Rows.seqObj "list" out e)->PyProof.Rows.IntsAre out.toList os->os.Perm ns->os.Pairwise (·<=·)->Q (.ref L) {s with heap:=h',drawn:=d,toks:=tk}):
 wpAny (model prog w) A (call (.builtin "sorted") [.ref a]) Q E s:=by
 refine Calls.call_function_entry PyProof.Rows.kind_sorted PyProof.Rows.plain_sorted PyProof.Rows.entry_sorted (PyProof.Rows.args_sorted1 _) ?_;unfold Builtin.«sorted»;refine Qh (m:=checkCount "sorted" 1 1 _) (Qt (Qh (Ex (by simp [quiet]) T ⋯ λq d tk vs os keep lt p perm=>Qh (wpAny_newList ?_ (by rw [sizeLine_eq,p.length,perm.length_eq];lia)))));have r:(q.push (PyProof.Rows.seqObj "list" vs.toArray 0)).get? q.objs.size=some (PyProof.Rows.seqObj "list" vs.toArray 0):=Qx _ rfl
 have lv:vs.length<64:=by
  have z:=p.length;have y:=perm.length_eq;lia
 show wpAny _ _ _ _ _ {s with heap:=q.push (PyProof.Rows.seqObj "list" vs.toArray 0),drawn:=d,toks:=tk};refine Qh (jbr (jae PyProof.Rows.slot_list_sort ⟨_,r,rfl⟩ PyProof.Rows.entry_list_sort (PyProof.Rows.list_sort_tree (s:={s with heap:=q.push (PyProof.Rows.seqObj "list" vs.toArray 0),drawn:=d,toks:=tk}) r p lv λout u a1 a2 a3=>⟨_,rfl,?_⟩) (PyProof.Rows.args_list_sort _)));obtain ⟨e,he⟩:=PyProof.Rows.sortedHeap_at (out:=out) r;refine Qt ⟨_,rfl,k _ d tk _ out u e (λb o g=>?_) (jbO lt) he a1 (a2.trans perm) a3⟩;have t:b<q.objs.size:=Qz (keep b o g);rw [PyProof.Rows.sortedHeap_old (QU t) (by rw [Td];exact Tz t)];exact Qj _ (keep b o g)
end
end S
namespace S
open PySem PySem.Spec PyProof.Rows L2
def jE.nodup (T:jE prog w h a b ns):ns.Nodup:=by
 obtain ⟨_,_,_,_,_,_,_,_,nd⟩:=T;exact nd
def bt_set:bootBuiltins "set"=some (.type "set"):=by decide+kernel
def Ax:bootBuiltins "sorted"=some (.builtin "sorted"):=by decide+kernel
theorem le_lt:∀{l:List Int},l.Pairwise (·<=·)->l.Nodup->l.Pairwise (·<·)
 |[],_,_=>List.Pairwise.nil
 |x::l,h,nd=>by
  obtain ⟨q,p⟩:=Qo.mp h;obtain ⟨n1,m⟩:=TX.mp nd;refine Qo.mpr ⟨λy g=>?_,le_lt p m⟩;have:=q y g;have:x≠y:=λe=>n1 (e▸g);lia
section
def Inv.redrawn (I:Inv X pins σ H s):Inv X pins σ H {s with drawn:=d}:=⟨I.ok,I.os,I.bare,I.base,I.loc,I.cell,I.free,I.freeC,I.pin,I.hok,I.len⟩
def Cr (K:Frg):V->Hp->VK->Prop:=λx H1 Q=>∃(p:Addr) (ns:List Int),x= .ref p/\SqL K H1 p (ns.map V.int)/\ns.length<60/\∀(os:List Int) (l:Addr),os.Pairwise (·<·)->(∀k,k∈os↔k∈ns)->H1 l=none->Q (.ref l) (upd H1 l (.lst (os.map V.int)))
def Ie (K:Frg) (g:TE):TE:=λσ H Q=>g σ H λx H1=>Cr K x H1 Q
theorem cO:∀{ns:List Int} {us:List Value},IntsAre us ns->xV (ns.map V.int) us
 |[],_, .nil=> .nil
 |n::ns,_, .cons _ t r=> .cons ⟨t,rfl⟩ (cO r)
def Gb (Z:X.calm=true) (g1:Gl X "sorted") (m1:X.mg "sorted"=none) (g2:Gl X "set") (m2:X.mg "set"=none) (he:PE X e te)
 (m:starEach [.Call (.Name "set" p2) [e] [] q2] X.env=[(false,eval (.Call (.Name "set" p2) [e] [] q2) X.env)]:=by rfl) (J:starEach [e] X.env=[(false,eval e X.env)]:=by rfl):
 PE X (.Call (.Name "sorted" p1) [.Call (.Name "set" p2) [e] [] q2] [] q1) (Ie X.K te):=by
 intro pins s σ H Q I h;refine jaM (Uc I g1 m1 Ax ?_ nofun nofun);refine PyProof.Rows.callWith_builtin1 ?_ m (by rfl);rw [m];show wpAny _ _ (spliced ((false,eval (.Call (.Name "set" p2) [e] [] q2) X.env)::backTo q1 (starEach [] X.env))) _ _ s;refine Calls.spliced_cons ?_;refine jaM (Uc I g2 m2 bt_set ?_ nofun nofun);refine TV (thn ((Vg he gB J) q2 pins s σ H (λvs H1=>match vs with|[x]=>Cr X.K x H1 Q|_=>False) I h) ?_) J (by rfl);rintro us s1 ⟨vs,H1,C,t,r⟩
 match vs,t,r with
 |[x],t,r=>
  obtain ⟨p,ns,rfl,U,few,k⟩:=r;obtain ⟨u,rfl,N⟩:=eR t;cases N;obtain ⟨its,O,pl,_⟩:=C.list U;have D:=XJ O;have hl:=D.length;have quiet:=C.ok.hd Z;refine Av quiet pl.isList ‹D› (by simpa using (by lia:its.length<900)) λz A T G P Y PY=>?_;refine Calls.spliced_nil ?_;have y:∀b o,s1.heap.get? b=some o->z.get? b=some o:=λb o e=>PY b o (Qz e) e;have M:Inv X pins σ H1 {s1 with heap:=z,toks:=A}:=C.kept (t':=A) y;refine FG (s:={s1 with heap:=z,toks:=A}) quiet G ⋯ λh3 d g L out os e PX le gL q perm sorted=>?_;have I3:=Inv.redrawn (d:=d) M;have nd:os.Nodup:=perm.nodup_iff.mpr G.nodup;have lo:=q.length;have po:=perm.length_eq;have I4:Inv X pins σ (upd H1 L (.lst (os.map V.int))) {s1 with heap:=h3,drawn:=d,toks:=g}:=I3.laid (t':=g) PX le (show YU X.prog X.w _ _ _ (.lst (os.map V.int)) from ⟨?_,out.toList,e,cO q,?_⟩)
  ·exact ⟨.ref L,_,I4,rfl,k os L (le_lt sorted nd) (λx=>by rw [perm.mem_iff];exact P x) (M.hok.fresh le)⟩
  ·rw [Qa,sizeLine_eq];lia
  ·simpa using gL
end
section
def rMinT (K:Frg):List V->Hp->VK->Prop:=λxs H Q=>∃(p:Addr) (ns:List Int),xs=[.ref p]/\SqT K H p (ns.map V.int)/\0<ns.length/\∀m,m∈ns->(∀x∈ns,m<=x)->Q (.int m) H
def JJ (K:Frg):List V->Hp->VK->Prop:=λxs H Q=>∃(p:Addr) (ns:List Int),xs=[.ref p]/\SqL K H p (ns.map V.int)/\0<ns.length/\∀m,m∈ns->(∀x∈ns,x<=m)->Q (.int m) H
def VI (m:IntsAre its ns):∀(i:Nat) (v:Value),its.toArray[i]? =some v->∃t,v= .int ((λi=>ns.getD i 0) i) t:=λi v g=>PyProof.Rows.IntsAre.int_at m i v ‹g›
def Ez (N:X.calm=true):Vz X (.builtin "min") (rMinT X.K):=by
 intro pins s σ H xs us Q I r h;obtain ⟨p,ns,rfl,G,Y,q⟩:=h;obtain ⟨u,rfl,y⟩:=eR r;cases y;obtain ⟨its,C,ht,U⟩:=I.tuple G;have m:=XJ C;have J:=m.length;have below:p≠s.heap.objs.size:=let ⟨_,e,_⟩:=ht;QU (Qz e)
 refine call_min_walk (jar ht ⟨_,_,_,_,_,_,_,rfl,Walks.tuple (A:=X.A.in1) (I.ok.hd N) _ p below its.toArray,⟨⟨_,Qx _ rfl,rfl,rfl⟩,ht.push _⟩,λb O=>?_,by simpa using (by lia:0<its.length),CmpOf.ints_lt (λi=>ns.getD i 0) (VI m),λv h' tk P L=>?_⟩)
 ·rw [Td]
  rcases Qn.mp O with z|z
  ·rw [z];exact Tp _
  ·rw [Qq.mp z];obtain ⟨_,e,_⟩:=ht;exact Tz (Qz e)
 ·obtain ⟨t,rfl⟩:=VI m _ v P;obtain ⟨T,w⟩:=argBest_lt (λi=>ns.getD i 0) (its.toArray.size - 1);have g:its.toArray.size=ns.length:=by simpa using J
  rw [g] at T w;rw [g];refine ⟨.int _,H,I.kept (t':=tk) λb o e=>L b o (λz=>?_) (Qj _ e),⟨t,rfl⟩,q _ ?_ λx D=>?_⟩
  ·rw [Qq.mp z] at e;exact absurd (Qz e) (jat _)
  ·dsimp only;rw [Ql,Qb ⋯];exact QY _
  ·obtain ⟨j,M,rfl⟩:=QI D;have:=w j ⋯;rwa [show ns.getD j 0=ns[j] by rw [Ql,Qb M];rfl] at this
def call_maxL (N:X.calm=true):Vz X (.builtin "max") (JJ X.K):=by
 intro pins s σ H xs us Q I r h;obtain ⟨p,ns,rfl,G,Y,q⟩:=h;obtain ⟨u,rfl,y⟩:=eR r;cases y;obtain ⟨its,C,pl,U⟩:=I.list G;have ht:=pl.isList;have m:=XJ C;have J:=m.length;have below:p≠s.heap.objs.size:=let ⟨_,e,_⟩:=ht;QU (Qz e)
 refine call_max_walk (jaC ht ⟨_,_,_,_,_,_,_,rfl,Walks.list (A:=X.A.in1) (I.ok.hd N) _ p below its.toArray,⟨⟨_,Qx _ rfl,rfl,rfl⟩,ht.push _⟩,λb O=>?_,by simpa using (by lia:0<its.length),CmpOf.ints_gt (λi=>ns.getD i 0) (VI m),λv h' tk P L=>?_⟩)
 ·rw [Td]
  rcases Qn.mp O with z|z
  ·rw [z];exact Tp _
  ·rw [Qq.mp z];obtain ⟨_,e,_⟩:=ht;exact Tz (Qz e)
 ·obtain ⟨t,rfl⟩:=VI m _ v P;obtain ⟨T,w⟩:=argBest_gt (λi=>ns.getD i 0) (its.toArray.size - 1);have g:its.toArray.size=ns.length:=by simpa using J
  rw [g] at T w;rw [g];refine ⟨.int _,H,I.kept (t':=tk) λb o e=>L b o (λz=>?_) (Qj _ e),⟨t,rfl⟩,q _ ?_ λx D=>?_⟩
  ·rw [Qq.mp z] at e;exact absurd (Qz e) (jat _)
  ·dsimp only;rw [Ql,Qb ⋯];exact QY _
  ·obtain ⟨j,M,rfl⟩:=QI D;have:=w j ⋯;rwa [show ns.getD j 0=ns[j] by rw [Ql,Qb M];rfl] at this
end
structure Bl3 (mg:Str->Option Value):Prop where
 sorted:mg "sorted"=none
 set:mg "set"=none
section
def Ig (K:Frg) (m:Str) (f:Addr) (sp:Sp) (E:XK) (g:TE) (t:TA):TE:=λσ H Q=>g σ H λx H1=>∃a C p fs,x= .ref a/\H1 a=some (.ins C p fs)/\Cls K C/\Meth K C m f/\fs.lookup m=none/\t σ H1 λvs q=>sp (x::vs) q Q E
def pe_methB (he:PE X o ta) (F:FnOk X.prog X.w X.K X.mg X.base CX k f fd ps sp) (hr:Room k X.A) (J:xp X.K fd ps []) (D:Ue CX X E) (ha:PA X (e::es) t)
 (N:starEach (e::es) X.env=(false,eval e X.env)::starEach es X.env:=by rfl) (M:(backTo pos (starEach es X.env)).any (·.1)=false:=by rfl)
 (ht:eval (.Call (.Attribute o m apos) (e::es) [] pos) X.env=(do
  let ov<-eval o X.env
  standAt apos.atName
  let (f,first)<-holding [ov] (getMethod ov m pl)
  callWith pos f first (backTo pos (starEach (e::es) X.env)) (backToKw pos (keywordEach [] X.env))):=by rfl):
 PE X (.Call (.Attribute o m apos) (e::es) [] pos) (Ig X.K m f sp E ta t):=by
 intro pins s σ H Q I h;refine PySem.W.methodCall_KW (pl:=pl) (thn (he pins s σ H _ I h) λu s1 G=>?_) ht;obtain ⟨x,H1,p,y,a,C,O,fs,ex,L,c,hm,l,q⟩:=G;subst ex;obtain rfl:u=Value.ref a:=y;refine km p L c hm l ?_;refine jbV (first:=[.ref a]) (h₀:=X.base) I.ok.mod.kin hm.kp (thn (ha pos pins s1 σ H1 _ p q) ?_) N M;rintro us s2 ⟨vs,P,g,r,z⟩;refine ⟨g.kIn,?_⟩;exact tU (us:= .ref a::us) (vs:= .ref a::vs) F hr J .nil D g (.cons rfl r) (by rw [jaX];exact z)
end
section
variable {B G0 H:Hp} {cs:xg} {ds:Dat} {Q:VK} {E:XK} {v w u:V} {K:Frg} {C L:Addr} {x:PyData} {σ:L2.St}
def kMB (K:Frg) (m:Str) (f:Addr) (sp:Sp) (E:XK) (t:TA) (σ:L2.St) (Q:VK):VK:=λx H1=>∃a C g fs,x= .ref a/\H1 a=some (.ins C g fs)/\Cls K C/\Meth K C m f/\fs.lookup m=none/\t σ H1 λvs p=>sp (x::vs) p Q E
def rd_methB (h:ta σ H (kMB K m f sp E t σ Q)):Ig K m f sp E ta t σ H Q:=h
def Cj (S:Sta B G0 H cs ds) (h:Has ds (Hf C x) v) (cl:Cls K C) (g:Meth K C m f) (hm:(m==("form":Str))=false) (k:t σ H λvs r=>sp (v::vs) r Q E):kMB K m f sp E t σ Q v H:=by
 obtain ⟨p,q,w,rfl,hp,s⟩:=S.ins h;exact ⟨p,C,q,_,rfl,hp,cl,g,by rw [jaO,hm];rfl,k⟩
def Iy (K:Frg) (Q:VK):VK:=λx H1=>Cr K x H1 Q
def rd_sortS (h:te σ H (Iy K Q)):Ie K te σ H Q:=h
def Vc {ns:List Int} (S:Sta B G0 H cs ds) (h:(L,ns.map PyData.int)∈cs) (few:ns.length<60) (k:∀(os:List Int) (l:Addr) (H':Hp),os.Pairwise (·<·)->(∀z,z∈os↔z∈ns)->zV H H'->Sta B G0 H' ((l,os.map PyData.int)::cs) ds->Q (.ref l) H'):Iy K Q (.ref L) H:=by
 obtain ⟨vs,hp,u⟩:=S.vwC h;obtain ⟨G,q⟩:=id S;rw [yP (u G q)] at hp;exact ⟨L,ns,rfl,SqL.of hp,few,λos l p m g=>k os l _ p m (zV.new g _) (S.newL g λG _=>Yw os)⟩
def Jy {ns:List Int} (S:Sta B G0 H cs ds) (h:Has ds (.tuple (ns.map PyData.int)) v) (hn:0<ns.length) (k:∀m,m∈ns->(∀x∈ns,m<=x)->Q (.int m) H):rMinT K [v] H Q:=by
 obtain ⟨p,vs,rfl,hp,r,q,al⟩:=S.tupAll h;obtain ⟨G,g⟩:=id q;rw [yP (al G g.2.2.2.2.2.2)] at hp;exact ⟨p,ns,rfl,SqT.of hp,hn,k⟩
def JA {ns:List Int} (S:Sta B G0 H cs ds) (h:(L,ns.map PyData.int)∈cs) (hn:0<ns.length) (k:∀m,m∈ns->(∀x∈ns,x<=m)->Q (.int m) H):JJ K [.ref L] H Q:=by
 obtain ⟨vs,hp,u⟩:=S.vwC h;obtain ⟨G,g⟩:=id S;rw [yP (u G g)] at hp;exact ⟨L,ns,rfl,SqL.of hp,hn,k⟩
theorem rE {α:Type} (a:α):∀n:Nat,(List.replicate n [a]).flatten=List.replicate n a
 |0=>rfl
 |n+1=>by rw [Tt,TY,rE a n];rfl
def Jw (S:Sta B G0 H cs ds) (h:(L,[PyData.int i])∈cs) (hn:n<=1000) (k:∀l H',zV H H'->Sta B G0 H' ((l,(List.replicate n i).map PyData.int)::cs) ds->Q (.ref l) H'):rRep (.ref L) (.int (n:Int)) H Q:=by
 obtain ⟨vs,hp,u⟩:=S.vwC h;obtain ⟨G,m⟩:=id S;have e:=yP (ns:=[i]) (u G m);subst e;refine ⟨L,(n:Int),_,rfl,rfl,hp,⋯,⋯,?_,λp g=>?_⟩
 ·show 1*n<=sizeLine;have:1000<=sizeLine:=by decide
  lia
 ·rw [Tn];show Q (.ref p) (upd H p (.lst (List.replicate n [V.int i]).flatten));rw [rE];refine k p _ (zV.new g _) ?_;have:=S.newL (vs:=(List.replicate n i).map V.int) g λG _=>Yw (List.replicate n i);rw [jbB] at this;rw [jbB] at this⊢;exact this
end
abbrev Cl:=Int×Int×Int
def zJ (c:Cl):PyData:= .tuple [.int c.1, .int c.2.1, .int c.2.2]
def zo (l:List Cl):PyData:= .list (l.map zJ)
def amV (l:List Cl):List Int:=l.map λc=>c.1
structure ClOk (n:Nat) (l:List Cl):Prop where
 pos:0<l.length
 few:l.length<=8
 nn:∀c∈l,0<=c.1/\0<=c.2.1/\0<=c.2.2
 sz:∀c∈l,Sz n c.1
def yf (l:List Cl):(amV l).length=l.length:=Qa _
theorem bP:∀as:List Int,∃ls:List Int,ls.Pairwise (·<·)/\∀k,k∈ls↔k∈as
 |[]=>⟨[],List.Pairwise.nil,λ_=>Iff.rfl⟩
 |a::as=>by
  obtain ⟨ls,p,r⟩:=bP as;refine ⟨ls.filter (·<a)++a::ls.filter (a<·),?_,λk=>?_⟩
  ·refine TN.mpr ⟨p.filter _,Qo.mpr ⟨λy g=>?_,p.filter _⟩,λx q y g=>?_⟩
   ·simpa using (Tb.mp g).2
   ·have m:x<a:=by simpa using (Tb.mp q).2
    rcases Qn.mp g with rfl|g
    ·exact m
    ·have:a<y:=by simpa using (Tb.mp g).2
     lia
  ·rw [QW,Qn,Tb,Tb,Qn,r];simp only [decide_eq_true_eq]
   constructor
   ·rintro (⟨h,_⟩|h|⟨h,_⟩)
    ·exact .inr h
    ·exact .inl h
    ·exact .inr h
   ·rintro (h|h)
    ·exact .inr (.inl h)
    ·rcases Int.lt_trichotomy k a with c|c|c
     ·exact .inl ⟨h,c⟩
     ·exact .inr (.inl c)
     ·exact .inr (.inr ⟨h,c⟩)
theorem xZ:∀{x y:List Int},x.Pairwise (·<·)->y.Pairwise (·<·)->(∀k,k∈x↔k∈y)->x=y
 |[],[],_,_,_=>rfl
 |[],b::y,_,_,h=>absurd ((h b).mpr (Qe ..)) Qp
 |a::x,[],_,_,h=>absurd ((h a).mp (Qe ..)) Qp
 |a::x,b::y,h1,h2,h=>by
  obtain ⟨a1,a2⟩:=Qo.mp h1;obtain ⟨q,r⟩:=Qo.mp h2
  have e:a=b:=by
   rcases Qn.mp ((h a).mp (Qe ..)) with e|e
   ·exact e
   ·rcases Qn.mp ((h b).mpr (Qe ..)) with p|p
    ·exact p.symm
    ·have:=q a e;have:=a1 b p;lia
  subst e;rw [xZ a2 r λk=>?_];have g:=h k;rw [Qn,Qn] at g
  constructor
  ·intro m
   rcases g.mp (.inr m) with e|e
   ·subst e;exact absurd (a1 k m) (Int.lt_irrefl _)
   ·exact e
  ·intro m
   rcases g.mpr (.inr m) with e|e
   ·subst e;exact absurd (q k m) (Int.lt_irrefl _)
   ·exact e
noncomputable def lvV (as:List Int):List Int:=(bP (0::as)).choose
def Vj (nn:∀a∈as,0<=a):LvOk as (lvV as):=
 ⟨(bP (0::as)).choose_spec.1,λk=>by rw [lvV,(bP (0::as)).choose_spec.2 k,Qn],nn⟩
def lvV_eq {as os:List Int} (m:os.Pairwise (·<·)) (g:∀z,z∈os↔z∈0::as):os=lvV as:=
 xZ m (bP (0::as)).choose_spec.1 λk=>by rw [g,lvV,(bP (0::as)).choose_spec.2 k]
theorem Iv:∀{ls as:List Int},ls.Nodup->(∀k∈ls,k∈as)->ls.length<=as.length
 |[],_,_,_=>jap _
 |a::ls,as,nd,h=>by
  obtain ⟨n1,m⟩:=TX.mp nd;have:=Iv (ls:=ls) (as:=as.erase a) m λk g=>(List.mem_erase_of_ne (λ(e:k=a)=>n1 (e▸g))).mpr (h k (Qf _ g));have p:=List.length_erase_of_mem (h a (Qe ..));have:=jbb (h a (Qe ..));rw [Qy];lia
def LvOk.few (h:LvOk as ls):ls.length<=as.length+1:=by
 have:=Iv (ls:=ls) (as:=0::as) (h.rise.imp λ{a b} (m:a<b)=>by lia) λk g=>by rw [Qn];exact (h.mem k).mp g
 simpa using this
def Uq (h0:0<=x) (h:x<=y) (z:Sz n y):Sz n x:=by unfold Sz at*;lia
theorem eY (m:0<=b):∀{l:List Int},(∀x∈l,0<=x/\x<=b)->0<=l.sum/\l.sum<=l.length*b
 |[],_=>by simp
 |x::l,h=>by
  have q:=h x (Qe ..);have p:=eY m (l:=l) λy g=>h y (Qf _ g);rw [QR,Qy];have e:(((l.length+1:Nat):Int))*b=l.length*b+b:=by rw [Int.natCast_add,Int.add_mul];lia
  lia
def aI (l:List Int):Prop:=l.length<=8/\∀x∈l,0<=x/\Sz 160 x
def aI.sum (h:aI l):0<=l.sum/\Sz 170 l.sum:=by
 have m:=eY (b:=2 ^ 160) nofun (l:=l) λx g=>⟨(h.2 x g).1,by
  have:=(h.2 x g).2;unfold Sz at this;have:=(h.2 x g).1
  lia⟩
 refine ⟨m.1,?_⟩;have p:=h.1;have:(l.length:Int)*2 ^ 160<=8*2 ^ 160:=jbq ⋯ nofun;unfold Sz;have e:(8:Int)*2 ^ 160<2 ^ 170:=by decide+kernel
 lia
def tF (h:aI l):SzC 170 (yg l):=by
 refine ⟨⟨h.sum.2,by show Sz 170 1;unfold Sz;decide⟩,λq m=>?_⟩;obtain ⟨x,g,rfl⟩:=Qi.mp m;exact ⟨Sz.mono (h.2 x g).2 nofun,by show Sz 170 1;unfold Sz;decide⟩
def ClOk.am (h:ClOk 160 l):aI (amV l):=by
 refine ⟨by rw [yf];exact h.few,λx m=>?_⟩;obtain ⟨c,g,rfl⟩:=Qi.mp m;exact ⟨(h.nn c g).1,h.sz c g⟩
def aI.min (h:aI as) (m:0<=l):aI (Vi as l)/\aI (aA as l):=by
 refine ⟨⟨by unfold Vi;rw [Qa];exact h.1,λx g=>?_⟩,⟨by unfold aA;rw [Qa];exact h.1,λx g=>?_⟩⟩
 ·obtain ⟨a,ha,rfl⟩:=Qi.mp g;have:=h.2 a ha;exact ⟨⋯,Uq ⋯ ⋯ this.2⟩
 ·obtain ⟨a,ha,rfl⟩:=Qi.mp g;have:=h.2 a ha;exact ⟨⋯,Uq ⋯ ⋯ this.2⟩
section
def LvOk.szE (h:LvOk as ls) (i:aI as):∀c∈evP as ls,SzC 170 c:=λc m=>by
 obtain ⟨l,g,rfl⟩:=Qi.mp m;exact tF (i.min (h.nnL l g)).1
def LvOk.szL (h:LvOk as ls) (i:aI as):∀c∈loP as ls,SzC 170 c:=λc m=>by
 obtain ⟨l,g,rfl⟩:=Qi.mp m;exact tF (i.min (h.nnL l (jbM.mp g))).2
def LvOk.inE (h:LvOk as ls) (i:aI as):PathIn (evP as ls):=by
 obtain ⟨r,m⟩:=Ej h;have f:=h.few;have p:=i.1;exact ⟨by rw [m];simp,λc g=>(h.szE i c g).mono nofun,λc g=>by rw [(uM as ls c g).1];lia,by unfold evP;rw [Qa];lia⟩
def LvOk.inL (h:LvOk as ls) (i:aI as):PathIn (loP as ls):=by
 obtain ⟨r,m⟩:=loP_ne h;have f:=h.few;have p:=i.1;exact ⟨by rw [m];simp,λc g=>(h.szL i c g).mono nofun,λc g=>by rw [(Dn as ls c g).1];lia,by unfold loP;rw [Qa,Tu];lia⟩
def sk:SzQ 2 ((1:Rat) / 2):=by unfold SzQ Sz;decide+kernel
def fA (h:∀c∈a,SzC 170 c):∀c∈yd (1 / 2) a,SzC 172 c:=λc p=>by
 obtain ⟨d,hd,rfl⟩:=Qi.mp p;have:=h d hd;refine ⟨(this.1.mul sk).mono nofun,λq m=>?_⟩;obtain ⟨x,g,rfl⟩:=Qi.mp m;exact ((this.2 x g).mul sk).mono nofun
def oy (ok:PathIn a) (h:∀c∈a,SzC 170 c):PathIn (yd (1 / 2) a):=by
 refine ⟨λe=>ok.ne (List.map_eq_nil_iff.mp e),λc g=>(fA h c g).mono nofun,λc g=>?_,by unfold yd;rw [Qa];exact ok.few⟩;obtain ⟨d,hd,rfl⟩:=Qi.mp g;rw [Qa];exact ok.len d hd
def LvOk.szH (h:LvOk as ls) (i:aI as):∀c∈hvP as ls,SzC 400 c:=λc r=>by
 have g:=fA (h.szE i);have sB:=fA (h.szL i)
 rcases QW.mp r with z|z
 ·exact (g c z).mono nofun
 ·obtain ⟨d,hd,rfl⟩:=Qi.mp z;have x:=g _ (sj h);have y:=sB d (TQ hd);refine ⟨(x.1.add y.1).mono nofun,λq m=>?_⟩;obtain ⟨j,p,e⟩:=QI m;have t:=p;simp only [VW,QB] at t
  have s:q=(lastC (hfA as ls)).2[j]'⋯+d.2[j]'⋯:=by
   rw [<-e];simp only [VW,Ta]
  rw [s];exact ((x.2 _ (QY _)).add (y.2 _ (QY _))).mono nofun
def LvOk.okH (h:LvOk as ls) (i:aI as):PathOk as.length (hvP as ls):=by
 have f:=h.few;have m:=i.1;refine ⟨λc g=>(h.szH i c g).mono nofun,λc g=>(hv_ok h c g).1,⋯,?_⟩;unfold hvP hfA hfB yM yd evP loP;simp only [QA,Qa,jaQ,Tu];lia
end
theorem Vl:∀(a:zh) (r:List zh),(yl a r).Sublist r
 |a,[]=>by rw [yl];exact jbn _
 |a,[b]=>by rw [yl];exact jbn _
 |a,b::c::r=>by
  rw [yl]
  split
  ·exact List.Sublist.cons _ (Vl b (c::r))
  ·exact List.Sublist.cons₂ _ (Vl b (c::r))
theorem ZX:∀r:List zh,(yv r).Sublist r
 |[]=>jbn _
 |c::r=>List.Sublist.cons₂ _ (Vl c r)
section
end
def iteSY {a b:Str} {X Y:Prop} (g:a=b) (h:X):if decide (a=b)=true then X else Y:=Yh (λ_=>h) λn=>absurd g n
def iteSN {a b:Str} {X Y:Prop} (g:¬a=b) (h:Y):if decide (a=b)=true then X else Y:=Yh (λy=>absurd y g) λ_=>h
section
def nr:Nat->Rl
 |0=> .shares
 |1=> .evenly
 |2=> .losses
 |_=> .halves
def lB:Sp:=spB (α:=List Cl) (λl=>[zo l]) (ClOk 160) (λ_=> .non)
def ua (S:Sta B G0 H cs ds) (h:Has ds (zo l) v) (ok:ClOk 160 l) (k:∀H',zV H H'->Sta B G0 H' cs ds->Q .non H'):lB [v] H Q E:=Vb l (S.hpAll (.cons h .nil)) ok λH' e=>k H' e (S.same e)
def spWC:Sp:=spT (α:=List Int) (λl=>[.list (l.map PyData.int)]) (λl=>l.length<=8) (λl=>yb (yg l))
def Js (S:Sta B G0 H cs ds) (h:Has ds (.list (l.map PyData.int)) v) (ok:l.length<=8) (k:∀w H',zV H H'->Sta B G0 H' cs ((yb (yg l),w)::ds)->Q w H'):spWC [v] H Q E:=Ye l S (.cons h .nil) ok k
def WQ:Sp:=spL (α:=Nat) (λn=>[.int (n:Int)]) (λn=>n<=8) (λn=>[yg (YG n)].map yb)
def bE (S:Sta B G0 H cs ds) (ok:n<=8) (k:∀p H',zV H H'->Sta B G0 H' ((p,[yg (YG n)].map yb)::cs) ds->Q (.ref p) H'):WQ [.int (n:Int)] H Q E:=ZF n S (.cons Has.int .nil) ok k
noncomputable def flV (k:Nat) (l:List Cl):List zh:=Ky (amV l) (lvV (amV l)) k
noncomputable def cR (k:Nat):Sp:=spL (α:=List Cl) (λl=>[zo l]) (ClOk 160) (λl=>(flV k l).map yb)
def bF (S:Sta B G0 H cs ds) (h:Has ds (zo l) v) (ok:ClOk 160 l) (k:∀p H',zV H H'->Sta B G0 H' ((p,(flV n l).map yb)::cs) ds->Q (.ref p) H'):cR n [v] H Q E:=ZF l S (.cons h .nil) ok k
def ClOk.lv (h:ClOk 160 l):LvOk (amV l) (lvV (amV l)):=Vj λa ha=>(h.am.2 a ha).1
noncomputable def WM (p:Rat) (a b:List zh):List zh:=yv (yd p a++yM (yd p a) (yd (1 - p) b))
structure UpOk (p:Rat) (a b:List zh):Prop where
 sz:SzQ 1000 p
 pa:PathIn a
 pb:PathIn b
 sa:PathIn (yd p a)
 sb:PathIn (yd (1 - p) b)
 m:∃m,PathOk m (yd p a++yM (yd p a) (yd (1 - p) b))
noncomputable def Bt:Sp:=spL (α:=Rat×List zh×List zh) (λa=>[frD a.1,yJ a.2.1,yJ a.2.2]) (λa=>UpOk a.1 a.2.1 a.2.2) (λa=>(WM a.1 a.2.1 a.2.2).map yb)
def BX (S:Sta B G0 H cs ds) (r:Has ds (frD p) u) (m:Has ds (yJ a) v) (g:Has ds (yJ b) w) (ok:UpOk p a b) (k:∀q H',zV H H'->Sta B G0 H' ((q,(WM p a b).map yb)::cs) ds->Q (.ref q) H'):Bt [u,v,w] H Q E:=ZF (p,a,b) S (.cons r (.cons m (.cons g .nil))) ok k
def up_ok (h:ClOk 160 l):UpOk (1 / 2) (flV 1 l) (flV 2 l):=by
 have L:=h.lv;have e:(1:Rat) - 1 / 2=1 / 2:=by decide+kernel
 refine ⟨sk.mono nofun,L.inE h.am,L.inL h.am,oy (L.inE h.am) (L.szE h.am),?_,(amV l).length,?_⟩
 ·rw [e];exact oy (L.inL h.am) (L.szL h.am)
 ·rw [e];exact L.okH h.am
def Bc (l:List Cl):WM (1 / 2) (flV 1 l) (flV 2 l)=flV 3 l:=by
 have e:(1:Rat) - 1 / 2=1 / 2:=by decide+kernel
 unfold WM;rw [e];rfl
end
def Du (c:Cl):(zJ c).canLay0=true:=by unfold zJ;simp only [PyData.canLay0,PyData.canLayAll0];rfl
def Er (c:Cl):(zJ c).depth<=2:=by unfold zJ;simp only [PyData.depth,PyData.depthAll];decide
def wX (l:List Cl):(zo l).canLay0=true:=by unfold zo;rw [PyData.canLay0];exact gT Du l
def InS (n:Nat) (l:List Int):Prop:=l.length<=8/\∀x∈l,0<=x/\Sz n x
def InS.sum (h:InS n l):0<=l.sum/\Sz (n+4) l.sum:=by
 have p:(0:Int)<2 ^ n:=Int.pow_pos nofun
 have m:=eY (b:=2 ^ n) (jbp p) (l:=l) λx g=>⟨(h.2 x g).1,by
  have z:=(h.2 x g).2;have q:=(h.2 x g).1;unfold Sz at z;have:(x.natAbs:Int)<((2 ^ n:Nat):Int):=Int.ofNat_lt.mpr z;rw [jbY] at this;have e:((2:Nat):Int)=2:=rfl;rw [e] at this
  lia⟩
 refine ⟨m.1,?_⟩;have r:=h.1;have le:(l.length:Int)*2 ^ n<=8*2 ^ n:=jbq ⋯ (jbp p);unfold Sz;have e:(2:Nat) ^ (n+4)=2 ^ n*16:=by rw [Nat.pow_add]
 rw [e];have s:((2 ^ n:Nat):Int)=2 ^ n:=by rw [jbY];rfl
 lia
def InB.inS (h:InB am tk) (l:am.length<=8) (z:∀x∈am,Sz n x):InS n tk/\InS n am:=by
 refine ⟨⟨by rw [h.1];exact l,λx m=>?_⟩,⟨l,λx m=>?_⟩⟩
 ·obtain ⟨i,g,rfl⟩:=QI m;have p:i<am.length:=by rw [<-h.1];exact g
  have b:=h.2 i _ _ (Qb p) (Qb g);exact ⟨b.1,Uq b.1 b.2 (z _ (QY _))⟩
 ·obtain ⟨i,g,rfl⟩:=QI m;have p:i<tk.length:=by rw [h.1];exact g
  have b:=h.2 i _ _ (Qb g) (Qb p);exact ⟨⋯,z _ (QY _)⟩
def Dz (n:Int):List Int:=if n % 5=0 then [7,10,2] else if n % 5=1 then [10 ^ 40+5,9,30] else if n % 5=2 then [2024,10 ^ 20,100] else [0,1,2]
def Dw (n i:Int):∃x,0<=x/\atI ((Dz n).map PyData.int) (i % 3)=some (.int x):=by
 have g:i % 3=0\/i % 3=1\/i % 3=2:=⋯
 unfold Dz
 split
 ·rcases g with h|h|h<;>rw [h]<;>exact ⟨_,nofun,rfl⟩
 ·split
  ·rcases g with h|h|h<;>rw [h]<;>exact ⟨_,nofun,rfl⟩
  ·split
   ·rcases g with h|h|h<;>rw [h]<;>exact ⟨_,nofun,rfl⟩
   ·rcases g with h|h|h<;>rw [h]<;>exact ⟨_,nofun,rfl⟩
section
variable {B G0 H:Hp} {cs:xg} {ds:Dat} {v w u:V} {K:Frg} {xs ys:List PyData} {R:It->Hp->Prop}
def VG (S:Sta B G0 H cs ds) (h:Has ds (.list xs) v) (m:Has ds (.list ys) w) (k:∀J,Wk B G0 J (Ib xs ys) (λcs ds=>Has ds (.list xs) v/\(∀x u,Has ds (.list ys) w->Has ((x,u)::ds) (.list ys) w)/\Has ds (.list ys) w)->R J H):kZi true true K R [v,w] H:=by
 obtain ⟨p,vs,rfl,hp,_⟩:=S.lst h;obtain ⟨q,ws,rfl,g,_⟩:=S.lst m;exact ⟨p,q,rfl,⟨_,SqL.of hp⟩,⟨_,SqL.of g⟩,k _ (AX VB VB)⟩
def lz:Sp:=spL (α:=Int) (λn=>[.int n]) (λ_=>True) (λn=>(Dz n).map PyData.int)
def oY (S:Sta B G0 H cs ds) (k:∀p H',zV H H'->Sta B G0 H' ((p,(Dz n).map PyData.int)::cs) ds->Q (.ref p) H'):lz [.int n] H Q E:=ZF n S (.cons Has.int .nil) trivial k
end
def mY {b d:Int} (q:0<b) (hd:0<d):0<b.fdiv (Int.gcd b d:Nat)*d/\b∣b.fdiv (Int.gcd b d:Nat)*d/\d∣b.fdiv (Int.gcd b d:Nat)*d:=by
 have r:0<Int.gcd b d:=Int.gcd_pos_of_ne_zero_left d ⋯;have m:(0:Int)<((Int.gcd b d:Nat):Int):=⋯
 rw [QV _ (jbp m)];obtain ⟨x,g⟩:=Int.gcd_dvd_left b d;obtain ⟨y,p⟩:=Int.gcd_dvd_right b d
 have ex:b / ((Int.gcd b d:Nat):Int)=x:=by
  conv=>lhs;arg 1;rw [g]
  exact Int.mul_ediv_cancel_left x ⋯
 rw [ex]
 have x0:0<x:=by
  rcases Int.lt_or_le 0 x with h|h
  ·exact h
  ·have:=Int.mul_nonpos_of_nonneg_of_nonpos (jbp m) h;lia
 refine ⟨Int.mul_pos x0 hd,⟨y,?_⟩,⟨x,Int.mul_comm ..⟩⟩
 conv=>rhs;rw [g,Int.mul_comm ((Int.gcd b d:Nat):Int) x,Int.mul_assoc,<-p]
def eU (s:0<B) (hd:(p.den:Int)∣B):((p.num*B.fdiv (p.den:Int):Int):Rat)=p*(B:Rat):=by
 rw [QV _ (Int.natCast_nonneg _)];obtain ⟨x,rfl⟩:=hd;have m:(p.den:Int)≠0:=by have:=p.den_pos;lia
 rw [Int.mul_ediv_cancel_left _ m,QP,QP,<-Rat.mul_assoc]
 congr 1
 have r:p=Rat.divInt p.num (p.den:Int):=(jbA p).symm;have g:∀z:Int,(z:Rat)=Rat.divInt z 1:=λz=>by rw [<-jbA (z:Rat)];rfl
 have q:=g (p.den:Int)
 conv=>rhs;arg 1;rw [r]
 rw [q,jaJ,g,jbN];exact ((jbQ m nofun).mpr (by rw [jbN])).symm
noncomputable def tkV (B:Int) (v:List Rat):List Int:=v.map λp=>p.num*B.fdiv (p.den:Int)
def pG (hr:yx P) (p:∀x∈P,x.2.length=m) (g:P[j]? =some c) (hd:P[j+1]? =some d) (r:c.1<=e) (q:e<=d.1):zg P e=Wh c d e:=by
 by_cases lt:e<d.1
 ·have:=Zx (E:=e) hr g r (.inr ⟨d,hd,lt⟩);rw [hd] at this;exact this
 ·have s:e=d.1:=jaK q (Ti.mp lt);subst s;have lc:=p c (Qc g);have ld:=p d (Qc hd)
  have u:c.1<d.1:=by
   have:=QN.mp hr j (j+1) (Qd.mp g).1 (Qd.mp hd).1 ⋯;rw [(Qd.mp g).2,(Qd.mp hd).2] at this;exact this
  rw [uV (by rw [lc,ld]) u]
  cases hn:P[j+1+1]? with
  |none=>
   have:=Zx (E:=d.1) hr hd QQ (.inl (by
    have r:=(Qd.mp hd).1;have q:=jbk.mp hn
    lia))
   rw [hn] at this;exact this
  |some f=>
   have t:d.1<f.1:=by
    have:=QN.mp hr (j+1) (j+1+1) (Qd.mp hd).1 (Qd.mp hn).1 ⋯;rw [(Qd.mp hd).2,(Qd.mp hn).2] at this;exact this
   have:=Zx (E:=d.1) hr hd QQ (.inr ⟨f,hn,t⟩);rw [hn] at this;rw [this];exact Wa (by rw [ld,p f (Qc hn)])
def qJ (x y:List Rat):List Rat:=List.zipWith (· - ·) x y
def Ub (p:Rat) (x:List Rat):List Rat:=x.map (·*p)
def tO (h:y.length=x.length):(qJ x y).length=x.length:=by unfold qJ;rw [QB,h,Tx]
def Br {x y:List Rat} {i:Nat} {z:Rat} (h:(qJ x y)[i]? =some z):∃a b,x[i]? =some a/\y[i]? =some b/\z=a - b:=by
 unfold qJ at h;rw [Qr] at h
 cases e:x[i]? with
 |none=>rw [e] at h;cases h
 |some a=>
  cases e2:y[i]? with
  |none=>rw [e,e2] at h;cases h
  |some b=>rw [e,e2] at h;exact ⟨a,b,rfl,rfl,(QJ h).symm⟩
def UP {x y:List Rat} {i:Nat} {a b:Rat} (m:x[i]? =some a) (g:y[i]? =some b):(qJ x y)[i]? =some (a - b):=by
 unfold qJ;rw [Qr,m,g]
def Bq {x y:List Rat} (h:y.length=x.length):qJ x (qJ x y)=y:=by
 apply Tg
 intro i
 by_cases p:i<x.length
 ·have m:=Qb p;have g:=Qb (l:=y) (i:=i) ⋯;rw [UP m (UP m g),g]
  congr 1
  grind
 ·rw [QD (by rw [tO (by rw [tO h])];lia),QD ⋯]
structure Std (m:Nat) (T:Rat) (as:List Rat) (P:List zh):Prop where
 rise:yx P
 ok:∀c∈P,c.2.length=m/\zH c.2=c.1
 head:P[0]? =some (0,List.replicate m 0)
 last:P.getLast? =some (T,as)
section
def Std.lastC (h:Std m T as P):lastC P=(T,as):=by unfold S.lastC;rw [h.last];rfl
def Std.ne (h:Std m T as P):P≠[]:=λz=>by have:=h.head;rw [z] at this;cases this
def Std.cons (h:Std m T as P):∃r,P=(0,List.replicate m 0)::r:=by
 cases P with
 |nil=>exact absurd rfl h.ne
 |cons c r=>have:=h.head;cases this;exact ⟨r,rfl⟩
def Std.lenA (h:Std m T as P):as.length=m:=(h.ok _ (jaj h.last)).1
def Std.T0 (h:Std m T as P):0<=T:=by
 obtain ⟨r,rfl⟩:=h.cons;have g:=h.last
 cases r with
 |nil=>cases g;exact QQ
 |cons d r=>
  have:(T,as)∈d::r:=by
   rw [TM] at g;exact jaj g
  exact QE ((Qo.mp h.rise).1 _ this)
def Std.sum (h:Std m T as P) (h0:0<=e):zH (zg P e)=mn e T:=by
 obtain ⟨r,g⟩:=h.cons;have:=tK r g h.rise h.ok h0;rw [h.lastC] at this;exact this
def Std.len (h:Std m T as P):(zg P e).length=m:=by
 obtain ⟨r,p⟩:=h.cons;have:=h.ok;rw [p] at this⊢;exact YB λx g=>(this x g).1
def Std.past (h:Std m T as P) (he:T<=e):zg P e=as:=by
 obtain ⟨r,p⟩:=h.cons;have l:=h.lastC;have g:=h.rise;rw [p] at l g⊢;rw [gv g (by rw [l];exact he),l]
def Std.zero (h:Std m T as P):zg P 0=List.replicate m 0:=by
 obtain ⟨r,p⟩:=h.cons
 cases r with
 |nil=>rw [p];rfl
 |cons d r=>
  have g:=h.rise;have ok:=h.ok;rw [p] at g ok⊢;have lt:=(Qo.mp g).1 d (Qe ..);rw [zg,QH lt];have:=Wa (c:=((0:Rat),List.replicate m (0:Rat))) (d:=d) (by rw [QF,(ok d (Qf _ (Qe ..))).1]);exact this
def Std.turned (h:Std m T as P) (h0:0<=e) (h1:e<=T):zg (yA P) e=qJ as (zg P (T - e)):=by
 have J:=h.lastC;have w:∀x∈P,x.2.length=m:=λx u=>(h.ok x u).1
 have rise:yx (yA P):=by
  unfold yA yx;rw [QZ,List.pairwise_reverse]
  exact h.rise.imp λ{c d} N=>by
   show (S.lastC P).1 - d.1<(S.lastC P).1 - c.1
   grind
 have g:∀x∈yA P,x.2.length=m:=λx u=>by
  obtain ⟨c,s,rfl⟩:=Qi.mp u;show (List.zipWith _ (S.lastC P).2 c.2).length=m;rw [QB,J,w c (jbM.mp s),h.lenA,Tx]
 have lp:0<P.length:=jba.mpr h.ne;obtain ⟨j,q,X,y,L⟩:=nu (E:=T - e) (M:=P.map λc=>c.1) (z:=0) (by rw [Qg,h.head];rfl) (by grind);rw [Qa] at L;obtain ⟨c,s,rfl⟩:=zN X;have jl:j<P.length:=(Qd.mp s).1
 have p:∀(k:Nat) (x:zh),P[k]? =some x->(yA P)[P.length - 1 - k]? =some (Up (T,as) x):=λk x u=>by
  have kl:k<P.length:=(Qd.mp u).1;unfold yA;rw [Qg,List.getElem?_reverse ⋯,show P.length - 1 - (P.length - 1 - k)=k by lia,u,J];rfl
 by_cases t:j+1=P.length
 ·
  have K:c=(T,as):=by
   have:=h.last;rw [jas,show P.length - 1=j by lia,s] at this;exact QJ this
  have e0:e=0:=by
   rw [K] at y;have:T<=T - e:=y;exact jaK (by grind) h0
  subst e0;rw [show T - (0:Rat)=T by grind,h.past QQ];have ht:=p j c s;rw [show P.length - 1 - j=0 by lia,K] at ht
  have I:Up (T,as) (T,as)=(0,List.replicate m 0):=by
   unfold Up;rw [show T - T=(0:Rat) by grind]
   congr 1
   apply Ts
   ·rw [QB,h.lenA,QF,Tx]
   ·intro i _ _;rw [Ta,Tw]
    grind
  have Z:qJ as as=List.replicate m 0:=(congrArg Prod.snd I);rw [Z];rw [I] at ht
  cases hT:yA P with
  |nil=>rw [hT] at ht;cases ht
  |cons x r=>
   rw [hT] at ht rise g;cases ht
   cases r with
   |nil=>rfl
   |cons d r=>
    have lt:=(Qo.mp rise).1 d (Qe ..);rw [zg,QH lt];have:=Wa (c:=((0:Rat),List.replicate m (0:Rat))) (d:=d) (by rw [QF,g d (Qf _ (Qe ..))]);exact this
 ·rcases L with z|⟨r,hr,Mu⟩
  ·exact absurd z t
  obtain ⟨d,hd,rfl⟩:=zN hr;have lc:=w c (Qc s);have ld:=w d (Qc hd);have N:c.1<d.1:=by grind
  rw [pG h.rise w s hd y (QE Mu)];have t1:=p (j+1) d hd;have G:=p j c s;have dl:j+1<P.length:=(Qd.mp hd).1;rw [show P.length - 1 - j=P.length - 1 - (j+1)+1 by lia] at G;rw [pG rise g t1 G (by show T - d.1<=e;grind) (by show e<=T - c.1;grind)];unfold Wh qJ
  apply Tg
  intro i
  by_cases Y:i<m
  ·have U:i<as.length:=by rw [h.lenA];exact Y
   have O:i<c.2.length:=⋯
   have id':i<d.2.length:=⋯
   have a1:=Qb U;have c1:=Qb O;have d1:=Qb id';unfold Up;dsimp only;rw [Qr,Qr,Qr,Qr,Qr,a1,c1,d1]
   congr 1
   generalize as[i]=A;generalize c.2[i]=C;generalize d.2[i]=D;unfold Zm;have OL:=To _ (xY N);rw [jac,jac,show T - c.1 - (T - d.1)=d.1 - c.1 by grind];generalize (d.1 - c.1)⁻¹=v at*
   grind
  ·rw [QD,QD]
   ·simp only [QB,h.lenA,lc,ld];lia
   ·simp only [Up,QB,h.lenA,lc,ld];lia
end
structure Row where
 am:Rat
 rank:Int
 group:Int
 part:Rat
def Ym (L:List Row):Rat:=zH (L.map (·.am))
def Yl (L:List Row):Rat:=zH (L.map (·.part))
def Row.flip (x:Row):Row:={x with part:=x.am - x.part}
def Row.first (p:Rat) (x:Row):Row:={x with am:=x.am*p}
def Row.rest (p:Rat) (x:Row):Row:={x with am:=x.am*(1 - p),part:=x.part - x.am*p}
def Row.scale (c:Rat) (x:Row):Row:={x with am:=x.am*c,part:=x.part*c}
def InQ (L:List Row):Prop:=∀x∈L,0<=x.part/\x.part<=x.am
def Wz (L:List Row):Prop:=∀x∈L,x.part*Ym L=x.am*Yl L
def xo (L:List Row):Prop:=InQ L/\∀x∈L,x.part<x.am->∀y∈L,y.part<=x.part
noncomputable def xJ (L:List Row):List Int:=(bP (L.map (·.group))).choose
def jg:List Int->Int
 |[]=>0
 |[a]=>a
 |a::l=>min a (jg l)
noncomputable def VV (L:List Row):List Row:=(xJ L).map λg=>
 ⟨Ym (L.filter (·.group=g)),jg ((L.filter (·.group=g)).map (·.rank)),g,Yl (L.filter (·.group=g))⟩
def Zn (p:Rat) (X Y:List Row->Prop) (L:List Row):Prop:=if Yl L<=Ym L*p then X (L.map (Row.first p)) else Y (L.map (Row.rest p))
noncomputable def yL:Rl->List Row->Prop
 | .shares,L=>InQ L/\Wz L
 | .evenly,L=>InQ L/\xo L
 | .losses,L=>InQ L/\xo (L.map Row.flip)
 | .halves,L=>InQ L/\Zn (1 / 2) (λL=>InQ L/\xo L) (λL=>InQ L/\xo (L.map Row.flip)) L
 | .other r,L=>InQ L/\yL r (L.map Row.flip)
 | .ranks r,L=>InQ L/\(∀k,yL r (L.filter (·.rank=k)))/\∀x∈L,∀y∈L,x.rank<y.rank->0<y.part->x.part=x.am
 | .groups a b,L=>InQ L/\(∀g,yL b (L.filter (·.group=g)))/\yL a (VV L)
 | .upto t b x y,L=>InQ L/\Zn (Rat.divInt t b) (yL x) (yL y) L
theorem yL.inQ:∀{r:Rl} {L:List Row},yL r L->InQ L
 | .shares,_,h=>h.1
 | .evenly,_,h=>h.1
 | .losses,_,h=>h.1
 | .halves,_,h=>h.1
 | .other _,_,h=>h.1
 | .ranks _,_,h=>h.1
 | .groups _ _,_,h=>h.1
 | .upto _ _ _ _,_,h=>h.1
section
variable {c:Rat} {L:List Row}
def aS:Ym (L.map (Row.scale c))=Ym L*c:=by
 unfold Ym;rw [<-xj,Qm,Qm];rfl
def aR:Yl (L.map (Row.scale c))=Yl L*c:=by
 unfold Yl;rw [<-xj,Qm,Qm];rfl
def gQ (g:0<c):x*c<=y*c↔x<=y:=by
 constructor
 ·intro h
  by_cases z:x<=y
  ·exact z
  ·have:=jbt (show 0<x - y by grind) g
   grind
 ·intro h;exact Zy h (QE g)
def InQ.scale (g:0<c) (h:InQ L):InQ (L.map (Row.scale c)):=λx p=>by
 obtain ⟨y,m,rfl⟩:=Qi.mp p;have:=h y m;exact ⟨QO this.1 (QE g),Zy this.2 (QE g)⟩
def xo.scale (m:0<c) (h:xo L):xo (L.map (Row.scale c)):=by
 refine ⟨h.1.scale m,λx r lt y q=>?_⟩;obtain ⟨g,t,rfl⟩:=Qi.mp r;obtain ⟨p,s,rfl⟩:=Qi.mp q
 have lt':g.part<g.am:=by
  rcases jan.mp (λz=>absurd ((gQ m).mpr z) (jan.mpr lt)) with z
  exact z
 exact Zy (h.2 g t lt' p s) (QE m)
def bU:(L.map (Row.scale c)).map Row.flip=(L.map Row.flip).map (Row.scale c):=by
 rw [Qm,Qm];refine QC λx _=>?_;simp only [Function.comp,Row.flip,Row.scale]
 congr 1
 grind
def sv:(L.map (Row.scale c)).map (Row.first p)=(L.map (Row.first p)).map (Row.scale c):=by
 rw [Qm,Qm];refine QC λx _=>?_;simp only [Function.comp,Row.first,Row.scale]
 congr 1
 grind
def vS:(L.map (Row.scale c)).map (Row.rest p)=(L.map (Row.rest p)).map (Row.scale c):=by
 rw [Qm,Qm];refine QC λx _=>?_;simp only [Function.comp,Row.rest,Row.scale]
 congr 1<;>grind
def Zn.scale (g:0<c) (q:∀L,X L->X (L.map (Row.scale c))) (m:∀L,Y L->Y (L.map (Row.scale c))) (h:Zn p X Y L):Zn p X Y (L.map (Row.scale c)):=by
 unfold Zn at h⊢;rw [aR,aS,show Ym L*c*p=Ym L*p*c by grind]
 by_cases z:Yl L<=Ym L*p
 ·rw [QH z] at h;rw [QH ((gQ g).mpr z),sv];exact q _ h
 ·rw [QS z] at h;rw [QS (λw=>z ((gQ g).mp w)),vS];exact m _ h
def sC:(L.map (Row.scale c)).filter (·.rank=k)=(L.filter (·.rank=k)).map (Row.scale c):=by
 rw [List.filter_map];rfl
def cV:(L.map (Row.scale c)).filter (·.group=k)=(L.filter (·.group=k)).map (Row.scale c):=by
 rw [List.filter_map];rfl
def vL:VV (L.map (Row.scale c))=(VV L).map (Row.scale c):=by
 have e:xJ (L.map (Row.scale c))=xJ L:=by
  unfold xJ
  congr 2
  rw [Qm];rfl
 unfold VV;rw [e,Qm];refine QC λg _=>?_;simp only [Function.comp,cV,aS,aR,Row.scale]
 congr 2
 rw [Qm];rfl
theorem yL.scale (m:0<c):∀{r:Rl} {L:List Row},yL r L->yL r (L.map (Row.scale c))
 | .shares,L,h=>⟨h.1.scale m,λx u=>by
  obtain ⟨y,s,rfl⟩:=Qi.mp u;have:=h.2 y s;rw [aS,aR];show y.part*c*(Ym L*c)=y.am*c*(Yl L*c)
  grind⟩
 | .evenly,L,h=>⟨h.1.scale m,h.2.scale m⟩
 | .losses,L,h=>⟨h.1.scale m,by rw [bU];exact h.2.scale m⟩
 | .halves,L,h=>⟨h.1.scale m,Zn.scale m (λL z=>⟨z.1.scale m,z.2.scale m⟩) (λL z=>⟨z.1.scale m,by rw [bU];exact z.2.scale m⟩) h.2⟩
 | .other r,L,h=>⟨h.1.scale m,by rw [bU];exact yL.scale m h.2⟩
 | .ranks r,L,h=>⟨h.1.scale m,λk=>by rw [sC];exact yL.scale m (h.2.1 k),λx u y s lt pos=>by
  obtain ⟨q,A,rfl⟩:=Qi.mp u;obtain ⟨p,w,rfl⟩:=Qi.mp s
  have py:0<p.part:=by
   rcases jan.mp (λz:p.part<=0=>absurd (by have:=(gQ m).mpr z;rwa [jbS] at this) (jan.mpr pos)) with z
   exact z
  show q.part*c=q.am*c
  rw [h.2.2 q A p w lt py]⟩
 | .groups a b,L,h=>⟨h.1.scale m,λg=>by rw [cV];exact yL.scale m (h.2.1 g),by rw [vL];exact yL.scale m h.2.2⟩
 | .upto t b x y,L,h=>⟨h.1.scale m,Zn.scale m (λL z=>yL.scale m z) (λL z=>yL.scale m z) h.2⟩
end
def yO (c:Cl) (p:Rat):Row:=⟨(c.1:Rat),c.2.1,c.2.2,p⟩
def zA (l:List Cl) (v:List Rat):List Row:=List.zipWith yO l v
def amQ (l:List Cl):List Rat:=l.map λc=>(c.1:Rat)
section
def xi (h:x∈zA l v):∃(i:Nat) (c:Cl) (p:Rat),l[i]? =some c/\v[i]? =some p/\x=yO c p:=by
 obtain ⟨i,m,e⟩:=QI h;have g:=m;unfold zA at g;rw [QB] at g;refine ⟨i,l[i]'⋯,v[i]'⋯,Qb _,Qb _,?_⟩;rw [<-e];exact Ta
def YL {i:Nat} {c:Cl} {p:Rat} (g:l[i]? =some c) (hp:v[i]? =some p):yO c p∈zA l v:=by
 apply Qc
 unfold zA;rw [Qr,g,hp]
theorem Zs:∀{l:List Cl} {v:List Rat},v.length=l.length->Ym (zA l v)=zH (amQ l)
 |[],[],_=>rfl
 |[],_::_,h=>by simp at h
 |_::_,[],h=>by simp at h
 |c::l,p::v,h=>by
  have:=Zs ‹h›;unfold Ym at this⊢;show zH ((c.1:Rat)::(zA l v).map (·.am))=zH ((c.1:Rat)::amQ l);rw [zH,zH,this]
theorem Zr:∀{l:List Cl} {v:List Rat},v.length=l.length->Yl (zA l v)=zH v
 |[],[],_=>rfl
 |[],_::_,h=>by simp at h
 |_::_,[],h=>by simp at h
 |c::l,p::v,h=>by
  have:=Zr ‹h›;unfold Yl at this⊢;show zH (p::(zA l v).map (·.part))=zH (p::v);rw [zH,zH,this]
theorem aj:∀{l:List Cl} {v:List Rat},(zA l v).map Row.flip=zA l (qJ (amQ l) v)
 |[],_=>rfl
 |_::_,[]=>rfl
 |c::l,p::v=>by
  show _::(zA l v).map Row.flip=_::zA l (qJ (amQ l) v);rw [aj];rfl
theorem jP (p:Rat):∀{l:List Cl} {v:List Rat},(zA l (Ub p v)).map (Row.first p)=(zA l v).map (Row.scale p)
 |[],_=>rfl
 |_::_,[]=>rfl
 |c::l,q::v=>by
  show _::(zA l (Ub p v)).map (Row.first p)=_::(zA l v).map (Row.scale p);rw [jP];rfl
def bC (p:Rat) (as v:List Rat):List Rat:=List.zipWith (λa x=>a*p+x*(1 - p)) as v
theorem oM (p:Rat):∀{l:List Cl} {v:List Rat},(zA l (bC p (amQ l) v)).map (Row.rest p)=(zA l v).map (Row.scale (1 - p))
 |[],_=>rfl
 |_::_,[]=>rfl
 |c::l,q::v=>by
  show Row.rest p (yO c ((c.1:Rat)*p+q*(1 - p)))::(zA l (bC p (amQ l) v)).map (Row.rest p)=Row.scale (1 - p) (yO c q)::(zA l v).map (Row.scale (1 - p));rw [oM]
  congr 1
  simp only [Row.rest,Row.scale,yO]
  congr 1
  grind
def Wy (l:List Cl):(amQ l).length=l.length:=Qa _
end
structure Good (r:Rl) (l:List Cl) (P:List zh):Prop where
 std:Std l.length (zH (amQ l)) (amQ l) P
 fit:∀e:Rat,0<=e->yL r (zA l (zg P e))
section
def Std.clip (h:Std m T as P):zg P e=zg P (mn e T):=by
 unfold mn
 split
 ·rfl
 ·rename_i c;rw [h.past (QE (jan.mp c)),h.past QQ]
def nq (h:Std m T as P):Std m T as (yA P):=by
 have p:=h.lastC;have g:=h.lenA;obtain ⟨r,u⟩:=h.cons
 have tz:Up (T,as) (T,as)=(0,List.replicate m 0):=by
  unfold Up;rw [show T - T=(0:Rat) by grind]
  congr 1
  apply Ts
  ·rw [QB,g,QF,Tx]
  ·intro i _ _;rw [Ta,Tw]
   grind
 have t0:Up (T,as) (0,List.replicate m 0)=(T,as):=by
  unfold Up;dsimp only;rw [show T - (0:Rat)=T by grind]
  congr 1
  apply Ts
  ·rw [QB,g,QF,Tx]
  ·intro i _ _;rw [Ta,Tw]
   grind
 have sub:∀{x y:List Rat},x.length=y.length->zH (List.zipWith (· - ·) x y)=zH x - zH y:=by
  intro x
  induction x with
  |nil=>intro y h;cases y with
   |nil=>rw [List.zipWith_nil_left,zH];grind
   |cons _ _=>simp at h
  |cons a x s=>intro y h;cases y with
   |nil=>simp at h
   |cons b y=>rw [jak,zH,zH,zH,s ‹h›];grind
 have q:zH as=T:=(h.ok _ (jaj h.last)).2;refine ⟨?_,λc t=>?_,?_,?_⟩
 ·unfold yA yx;rw [QZ,List.pairwise_reverse]
  exact h.rise.imp λ{c d} My=>by
   show (S.lastC P).1 - d.1<(S.lastC P).1 - c.1
   grind
 ·obtain ⟨d,hd,rfl⟩:=Qi.mp t;have ok:=h.ok d (jbM.mp hd);rw [p];refine ⟨?_,?_⟩
  ·show (List.zipWith _ as d.2).length=m;rw [QB,g,ok.1,Tx]
  ·show zH (List.zipWith _ as d.2)=T - d.1;rw [sub (by rw [g,ok.1]),q,ok.2]
 ·unfold yA;rw [Qg,<-List.head?_eq_getElem?,List.head?_reverse,h.last,p,<-tz];rfl
 ·unfold yA;rw [jaF,List.getLast?_reverse,p,List.head?_eq_getElem?,h.head];show some (Up (T,as) (0,List.replicate m 0))=_;rw [t0]
def Good.other (h:Good r l P):Good (.other r) l (yA P):=by
 have st:=h.std;refine ⟨nq st,λe h0=>?_⟩;have p:=nq st;rw [p.clip]
 have m0:0<=mn e (zH (amQ l)):=by
  have:=st.T0;unfold mn
  split<;>grind
 have m1:mn e (zH (amQ l))<=zH (amQ l):=by unfold mn;split<;>grind
 rw [st.turned m0 m1];have f:=h.fit (zH (amQ l) - mn e (zH (amQ l))) (by grind);have ln:=st.len (e:=zH (amQ l) - mn e (zH (amQ l)));generalize zg P (zH (amQ l) - mn e (zH (amQ l)))=w at*;refine ⟨?_,by rw [aj,Bq (by rw [Wy];exact ln)];exact f⟩;intro x g;rw [<-aj] at g;obtain ⟨z,m,rfl⟩:=Qi.mp g;have:=f.inQ z m;show 0<=z.am - z.part/\z.am - z.part<=z.am
 grind
def WU (hp:0<p) (h:Std m T as P):Std m (T*p) (Ub p as) (yd p P):=by
 refine ⟨qZ hp h.rise,λc g=>?_,?_,?_⟩
 ·obtain ⟨d,hd,rfl⟩:=Qi.mp g;have:=h.ok d hd;exact ⟨by rw [Qa];exact this.1,by rw [xj,this.2]⟩
 ·unfold yd;rw [Qg,h.head];show some ((0:Rat)*p,(List.replicate m (0:Rat)).map (·*p))=_;rw [jbS,jbB,jbS]
 ·unfold yd;rw [jaF,h.last];rfl
def iC (h:Std m T as P) (h':Std m T' RL P'):Std m (T+T') (List.zipWith (·+·) as RL) (P++yM P P'):=by
 have r:=h.lastC;obtain ⟨D,p⟩:=h'.cons;have q:=h.lenA;have mem:(T,as)∈P:=jaj h.last;have C:=(h.ok _ mem).2;refine ⟨?_,λc s=>?_,?_,?_⟩
 ·refine TN.mpr ⟨h.rise,?_,λc s d hd=>?_⟩
  ·unfold yM;rw [QZ];refine jbK (λ{a b} Nd=>?_) (jbh (List.tail_sublist P') h'.rise);show (S.lastC P).1+a.1<(S.lastC P).1+b.1
   grind
  ·obtain ⟨d',y,rfl⟩:=Qi.mp hd
   have L:c.1<=T:=by
    obtain ⟨i,I,rfl⟩:=QI s;have A:=h.last;rw [jas] at A;obtain ⟨J,w⟩:=Qd.mp A
    by_cases z:i=P.length - 1
    ·subst z;rw [w];exact QQ
    ·have:=QN.mp h.rise i (P.length - 1) I J ⋯;rw [w] at this;exact QE this
   have K:0<d'.1:=by
    have u:=h'.rise;rw [p] at u y;exact (Qo.mp u).1 d' y
   show c.1<(S.lastC P).1+d'.1;rw [r];show c.1<T+d'.1
   grind
 ·rcases QW.mp s with z|z
  ·exact h.ok c z
  ·obtain ⟨d,hd,rfl⟩:=Qi.mp z;have ok:=h'.ok d (TQ hd);rw [r];refine ⟨?_,?_⟩
   ·show (List.zipWith _ as d.2).length=m;rw [QB,q,ok.1,Tx]
   ·show zH (List.zipWith (·+·) as d.2)=T+d.1;rw [dS (by rw [q,ok.1]),ok.2];rw [show zH as=T from C]
 ·rw [jag (jba.mpr h.ne),h.head]
 ·unfold yM
  have G:List.zipWith (·+·) as (List.replicate m (0:Rat))=as:=by
   apply Ts
   ·rw [QB,q,QF,Tx]
   ·intro i _ _;rw [Ta,Tw]
    grind
  cases D with
  |nil=>
   have g:=h'.last;rw [p] at g⊢;cases g;rw [List.tail_cons,TC,jaX,h.last,G,Rat.add_zero]
  |cons d t=>
   have g:=h'.last;rw [p,TM] at g;rw [p,List.tail_cons,List.getLast?_append,jaF,g,r];rfl
def mZ (h:Std m T as P):Std m T as (yv P)/\∀e:Rat,0<=e->zg (yv P) e=zg P e:=by
 obtain ⟨r,g⟩:=h.cons;have sub:=ZX P
 have s:(yv P).getLast? =P.getLast? :=by
  rw [g];show ((0,List.replicate m 0)::yl (0,List.replicate m 0) r).getLast? =((0,List.replicate m 0)::r).getLast?
  have:∀(r:List zh) (a:zh),(yl a r).getLast? =r.getLast? :=by
   intro r
   induction r with
   |nil=>intro a;rw [yl]
   |cons b r q=>
    intro a
    cases r with
    |nil=>rw [yl]
    |cons c r=>
     rw [yl]
     split
     ·rw [q b,TM]
     ·rw [jbZ,q b,TM,jbZ];rfl
  rw [jbZ,this,<-jbZ]
 refine ⟨⟨jbh sub h.rise,λc u=>h.ok c (sub.subset u),by rw [g];rfl,by rw [s];exact h.last⟩,λe h0=>?_⟩;have p:=h.rise;have ok:=h.ok;rw [g] at p ok⊢;exact nh p (λx t=>(ok x t).1) h0
def cW (h:Std m T as P) (h':Std m T' RL P') (h0:0<=e):zg (yv (P++yM P P')) e=if e<T then zg P e else List.zipWith (·+·) as (zg P' (e - T)):=by
 have s:=iC h h';obtain ⟨_,y⟩:=mZ s;rw [y e h0];obtain ⟨D,g⟩:=h.cons;obtain ⟨w,t⟩:=h'.cons;have p:=h.lastC
 split
 ·rename_i c;have lt:e<(S.lastC P).1:=by rw [p];exact c
  generalize C:yM P P'=M;rw [g] at lt⊢;exact Vf h0 lt
 ·rename_i c;have ge:T<=e:=Ti.mp c;have le:(S.lastC P).1<=e:=by rw [p];exact ge
  have u:=h.rise
  have ev:zg (P++yM P P') e=zg (S.lastC P::yM P P') e:=by
   generalize C:yM P P'=M;rw [g] at le u⊢;exact Ys u le
  rw [ev,p]
  have em:((T,as):zh)::yM P P'=P'.map (VW (T,as)):=by
   unfold yM;rw [p]
   conv=>rhs;rw [t]
   rw [Qk]
   congr 1
   ·unfold VW;dsimp only;rw [Rat.add_zero]
    congr 1
    apply Ts
    ·rw [QB,QF,h.lenA,Tx]
    ·intro i _ _;rw [Ta,Tw]
     grind
   ·rw [t];rfl
  rw [em];have pp:=gu (m:=m) (c:=(T,as)) (e:=e) h.lenA (q:=(0,List.replicate m 0)) (r:=w) (by rw [<-t];exact λz A=>(h'.ok z A).1);rw [<-t] at pp;exact pp
def Good.upto {p:Rat} {t b:Int} (ep:p=Rat.divInt t b) (p0:0<p) (p1:p<1) (nn:∀c∈l,0<=c.1) (u:Good x l P) (J:Good y l P'):Good (.upto t b x y) l (WM p P P'):=by
 have s:0<1 - p:=by grind
 have s1:=WU p0 u.std;have s2:=WU s J.std;have s3:=iC s1 s2;have eT:zH (amQ l)*p+zH (amQ l)*(1 - p)=zH (amQ l):=by grind
 have eA:List.zipWith (·+·) (Ub p (amQ l)) (Ub (1 - p) (amQ l))=amQ l:=by
  unfold Ub
  apply Ts
  ·simp
  ·intro i _ _;simp only [Ta,jaA]
   grind
 rw [eT,eA] at s3;obtain ⟨Y,_⟩:=mZ s3;refine ⟨Y,λe h0=>?_⟩;unfold WM;rw [cW s1 s2 h0];have G:∀e:Rat,(zg P e).length=l.length:=λe=>u.std.len;have D:∀e:Rat,(zg P' e).length=l.length:=λe=>J.std.len;have T0:=u.std.T0;have I:∀(i:Nat) (c:Cl),l[i]? =some c->(0:Rat)<=(c.1:Rat):=λi c A=>cg (nn c (Qc A));have N:∀v:List Rat,v.length=l.length->Ym (zA l v)=zH (amQ l):=λv hv=>Zs hv
 have low:∀w:List Rat,w.length=l.length->yL x (zA l w)->zH w<=zH (amQ l)->yL (.upto t b x y) (zA l (Ub p w)):=λw hw C K=>by
  have lw:(Ub p w).length=l.length:=by unfold Ub;rw [Qa];exact hw
  refine ⟨λz M=>?_,?_⟩
  ·obtain ⟨i,c,q,A,g,rfl⟩:=xi M;unfold Ub at g;rw [Qg] at g
   cases r:w[i]? with
   |none=>rw [r] at g;cases g
   |some m=>
    rw [r] at g;cases g;have:=C.inQ _ (YL A r);have a0:=I i c A;have t1:0<=m/\m<=(c.1:Rat):=this;show 0<=m*p/\m*p<=(c.1:Rat);refine ⟨QO t1.1 (QE p0),?_⟩;have X:=Zy t1.2 (QE p0);have U:=QO a0 (QE s)
    grind
  ·rw [<-ep];unfold Zn;rw [N _ lw,Zr lw];have:zH (Ub p w)=zH w*p:=xj p w;rw [this,QH ((gQ p0).mpr K),jP];exact yL.scale p0 C
 have high:∀w:List Rat,w.length=l.length->yL y (zA l w)->0<zH w->yL (.upto t b x y) (zA l (bC p (amQ l) w)):=λw hw C K=>by
  have lw:(bC p (amQ l) w).length=l.length:=by unfold bC;rw [QB,Wy,hw,Tx]
  have es:zH (bC p (amQ l) w)=zH (amQ l)*p+zH w*(1 - p):=by
   have r:bC p (amQ l) w=List.zipWith (·+·) (Ub p (amQ l)) (Ub (1 - p) w):=by
    unfold bC Ub;rw [jbv]
   rw [r,dS (by unfold Ub;rw [Qa,Qa,Wy,hw])];show zH ((amQ l).map (·*p))+zH (w.map (·*(1 - p)))=_;rw [xj,xj]
  refine ⟨λz M=>?_,?_⟩
  ·obtain ⟨i,c,q,A,g,rfl⟩:=xi M;unfold bC at g;rw [Qr] at g;have ea:(amQ l)[i]? =some (c.1:Rat):=by unfold amQ;rw [Qg,A];rfl
   rw [ea] at g
   cases r:w[i]? with
   |none=>rw [r] at g;cases g
   |some m=>
    rw [r] at g;cases g;have:=C.inQ _ (YL A r);have a0:=I i c A;have t1:0<=m/\m<=(c.1:Rat):=this;show 0<=(c.1:Rat)*p+m*(1 - p)/\(c.1:Rat)*p+m*(1 - p)<=(c.1:Rat);have u0:=QO a0 (QE p0);have X:=Zy t1.2 (QE s);have U:=QO t1.1 (QE s)
    grind
  ·rw [<-ep];unfold Zn;rw [N _ lw,Zr lw,es];have pos:=jbt K s;rw [QS (by grind),oM];exact yL.scale s C
 split
 ·rw [Ve p0];have e0:0<=e / p:=by rw [jac];exact QO h0 (QE (Rat.inv_pos.mpr p0))
  refine low _ (G _) (u.fit _ e0) ?_;rw [u.std.sum e0];unfold mn
  split<;>grind
 ·rename_i c;have ge:zH (amQ l)*p<=e:=Ti.mp c
  have k:List.zipWith (·+·) (Ub p (amQ l)) (zg (yd (1 - p) P') (e - zH (amQ l)*p))=bC p (amQ l) (zg P' ((e - zH (amQ l)*p) / (1 - p))):=by
   rw [Ve s];unfold bC Ub;rw [jbv]
  rw [k];have O:0<=(e - zH (amQ l)*p) / (1 - p):=by rw [jac];exact QO (by grind) (QE (Rat.inv_pos.mpr s))
  have C:=J.fit _ O;have sw:=J.std.sum O;have lw:=D ((e - zH (amQ l)*p) / (1 - p));generalize zg P' ((e - zH (amQ l)*p) / (1 - p))=w at*
  by_cases pos:0<zH w
  ·exact high w lw C pos
  ·
   have T:∀q∈w,q=0:=by
    have L:∀q∈w,0<=q:=λq g=>by
     obtain ⟨i,hi,rfl⟩:=QI g;have:=C.inQ _ (YL (Qb ⋯) (Qb hi));exact this.1
    have:∀{w:List Rat},(∀q∈w,0<=q)->0<=zH w/\(zH w<=0->∀q∈w,q=0):=by
     intro w
     induction w with
     |nil=>intro _;exact ⟨by rw [zH];exact QQ,λ_ q g=>absurd g Qp⟩
     |cons a w Z=>
      intro h;have ha:=h a (Qe ..);obtain ⟨i1,i2⟩:=Z λq g=>h q (Qf _ g);rw [zH];refine ⟨by grind,λK q g=>?_⟩
      rcases Qn.mp g with rfl|g
      ·exact jaK (by grind) ha
      ·exact i2 (by grind) q g
    exact (this L).2 (Ti.mp pos)
   have ew:bC p (amQ l) w=Ub p (amQ l):=by
    unfold bC Ub
    apply Ts
    ·rw [QB,Qa,Wy,lw,Tx]
    ·intro i h1 h2;rw [Ta,jaA,T _ (QY _)]
     grind
   rw [ew];have full:=u.fit _ u.std.T0;rw [u.std.past QQ] at full;exact low _ (Wy l) full QQ
end
def aG (l:List Cl):amQ l=(amV l).map λ(a:Int)=>(a:Rat):=by unfold amQ amV;rw [Qm];rfl
def xh (l:List Cl):zH (amQ l)=(((amV l).sum:Int):Rat):=by rw [aG,UO]
def eO (l:List Cl):yg (amV l)=(zH (amQ l),amQ l):=by rw [xh,aG];rfl
def Kp (ne:P≠[]) (h:lastC P=c):P.getLast? =some c:=by
 rw [<-h];unfold lastC;rw [Tj ne];rfl
section
def Wv (h:LvOk (amV l) ls):Good .evenly l (evP (amV l) ls):=by
 obtain ⟨r,s⟩:=Ej h;refine ⟨⟨h.riseE,λc q=>by rw [<-yf];exact uM _ _ c q,by rw [s,WB,yf];rfl,Kp (by rw [s];simp) (by rw [uN h,eO])⟩,λe h0=>?_⟩;obtain ⟨z,t,u⟩:=h.evenly h0;rw [u]
 have row:∀x∈zA l ((amV l).map λ(a:Int)=>mn (a:Rat) z),0<=x.am/\x.part=mn x.am z:=λx m=>by
  obtain ⟨i,c,p,q,hp,rfl⟩:=xi m;unfold amV at hp;rw [Qm,Qg,q] at hp;cases hp;exact ⟨cg (h.nn _ (Qi.mpr ⟨c,Qc q,rfl⟩)),rfl⟩
 have g:InQ (zA l ((amV l).map λ(a:Int)=>mn (a:Rat) z)):=λx m=>by
  obtain ⟨a0,e⟩:=row x m;rw [e];exact mn_nn a0 t
 refine ⟨g,g,λx m lt y w=>?_⟩;obtain ⟨a0,ex⟩:=row x m;obtain ⟨C,A⟩:=row y w;rw [ex] at lt⊢;rw [A];unfold mn at lt⊢
 split at lt
 ·exact absurd lt jaS
 ·rename_i c;rw [QS c]
  split<;>grind
def gY (h:LvOk (amV l) ls):Good .losses l (loP (amV l) ls):=by
 have g:=(Wv h).other;rw [eS h] at g;exact ⟨g.std,λe h0=>⟨(g.fit e h0).1,(g.fit e h0).2.2⟩⟩
def gX (nn:∀a∈amV l,0<=a):Good .shares l (shP (amV l)):=by
 have s0:=VY nn
 have std:Std l.length (zH (amQ l)) (amQ l) (shP (amV l)):=by
  have u:(amV l).sum=0->amQ l=List.replicate l.length 0:=λc=>by
   have:=tJ nn c;rw [aG,<-yf,<-jaY];exact QC λa ha=>by rw [this a ha];rfl
  unfold shP
  by_cases c:(amV l).sum=0
  ·rw [QH c];refine ⟨jao _ _,λx g=>?_,by rw [WB,yf];rfl,?_⟩
   ·rw [Qq.mp g];have:=Wi (YG (amV l).length);rw [UN,yf] at this;rw [yf];exact this
   ·show some _=some _;rw [WB,yf,u c,Xy];rfl
  ·rw [QS c];refine ⟨?_,λx g=>?_,by rw [WB,yf];rfl,?_⟩
   ·refine Qo.mpr ⟨λd hd=>?_,jao _ _⟩;rw [Qq.mp hd,WB];exact Yd (show 0<(amV l).sum by lia)
   ·rcases Qn.mp g with rfl|g
    ·have:=Wi (YG (amV l).length);rw [UN,yf] at this;rw [yf];exact this
    ·rw [Qq.mp g,<-yf];exact Wi _
   ·show some _=some _;rw [eO];rfl
 refine ⟨std,λe h0=>?_⟩;have ln:=std.len (e:=e);obtain ⟨z,⟨t,z1⟩,r,_⟩:=FJ nn h0;have m:=Zr ln;have q:=Zs ln
 have es:zH (zg (shP (amV l)) e)=zH (amQ l)*z:=by
  rw [r,aG,<-xj,Qm];rfl
 rw [es] at m;rw [r] at m q⊢
 have row:∀x∈zA l ((amV l).map λ(a:Int)=>(a:Rat)*z),0<=x.am/\x.part=x.am*z:=λx g=>by
  obtain ⟨i,c,p,s,hp,rfl⟩:=xi g;unfold amV at hp;rw [Qm,Qg,s] at hp;cases hp;exact ⟨cg (nn _ (Qi.mpr ⟨c,Qc s,rfl⟩)),rfl⟩
 refine ⟨λx g=>?_,λx g=>?_⟩
 ·obtain ⟨a0,e⟩:=row x g;rw [e];refine ⟨QO a0 t,?_⟩;have:=QO a0 (show 0<=1 - z by grind)
  grind
 ·rw [q,m,(row x g).2]
  grind
def sr (h:LvOk (amV l) ls):Good .halves l (yv (hvP (amV l) ls)):=by
 have m:Rat.divInt 1 2=(1:Rat) / 2:=by decide+kernel
 have g:=Good.upto (p:=1 / 2) m.symm uC (by decide+kernel) (λc q=>h.nn _ (Qi.mpr ⟨c,q,rfl⟩)) (Wv h) (gY h)
 have r:WM (1 / 2) (evP (amV l) ls) (loP (amV l) ls)=yv (hvP (amV l) ls):=by
  unfold WM;rw [show (1:Rat) - 1 / 2=1 / 2 by decide+kernel];rfl
 rw [r] at g;refine ⟨g.std,λe h0=>?_⟩;have f:=g.fit e h0;refine ⟨f.1,?_⟩;have f2:=f.2;rw [m] at f2;exact f2
end
def yq (m:b≠0):Rat.divInt t b*(b:Rat)=(t:Rat):=by
 have g:∀z:Int,(z:Rat)=Rat.divInt z 1:=λz=>by rw [<-jbA (z:Rat)];rfl
 rw [g b,g t,jaJ,jbN];exact (jbQ m nofun).mpr (by rw [jbN])
def UH (h:Vt t b):0<Rat.divInt t b/\Rat.divInt t b<1:=by
 obtain ⟨_,t0,p,_⟩:=h;have g:(0:Rat)<(b:Rat):=Yd ⋯;have e:=yq (t:=t) (b:=b) ⋯;have r:=Yd t0;have m:=ny p;generalize Rat.divInt t b=q at*
 constructor
 ·by_cases z:0<q
  ·exact z
  ·have:=Zy (Ti.mp z) (QE g)
   grind
 ·by_cases z:q<1
  ·exact z
  ·have:=Zy (Ti.mp z) (QE g)
   grind
def Yy (D:Int) (x:Rat):Prop:=∃k:Int,x*(D:Rat)=(k:Rat)
section
def Yy.mul (h:Yy D x) (n:Int):Yy (D*n) x:=by
 obtain ⟨k,g⟩:=h;exact ⟨k*n,by rw [QP,QP,<-Rat.mul_assoc,g]⟩
def Yy.mulL (h:Yy D x) (n:Int):Yy (n*D) x:=by rw [Int.mul_comm];exact h.mul n
def Yy.add (h:Yy D x) (g:Yy D y):Yy D (x+y):=by
 obtain ⟨k,m⟩:=h;obtain ⟨j,p⟩:=g;exact ⟨k+j,by rw [Rat.intCast_add,<-m,<-p];grind⟩
def Yy.sub (h:Yy D x) (g:Yy D y):Yy D (x - y):=by
 obtain ⟨k,m⟩:=h;obtain ⟨j,p⟩:=g;exact ⟨k - j,by rw [jaZ,<-m,<-p];grind⟩
def Yy.port (m:b≠0) (h:Yy D x):Yy (b*D) (x*Rat.divInt t b):=by
 obtain ⟨k,g⟩:=h;refine ⟨k*t,?_⟩;have e:=yq (t:=t) m;rw [QP,QP,<-g,<-e]
 grind
def Yy.int (n:Int) (D:Int):Yy D (n:Rat):=⟨n*D,by rw [QP]⟩
def Yy.sz (h:Yy D x) (y:0<D) (g:Sz m D) (x0:0<=x) (s:x<=T) (r:∃k:Int,T=(k:Rat)/\Sz n k):SzQ (n+m) x:=by
 obtain ⟨k,p⟩:=h;obtain ⟨t,rfl,q⟩:=r;have dp:=Yd y
 have e:x=Rat.divInt k D:=by
  have A:=yq (t:=k) (b:=D) ⋯;have:(x - Rat.divInt k D)*(D:Rat)=0:=by grind
  rcases Rat.mul_eq_zero.mp this with z|z
  ·grind
  ·rw [z] at dp;exact absurd dp jaS
 have w:0<=k:=Vr (by rw [<-p];exact QO x0 (QE dp));have u:k<=t*D:=Vr (by rw [<-p,QP];exact Zy s (QE dp));rw [e];exact SzQ.divInt (Uq w u (q.mul g)) (g.mono ⋯) ⋯
def eN (h:z∈List.zipWith f u v):∃a∈u,∃b∈v,z=f a b:=by
 obtain ⟨i,g,e⟩:=QI h;have m:=g;rw [QB] at m;rw [Ta] at e;exact ⟨_,QY ⋯,_,QY ⋯,e.symm⟩
def pS (ne:P≠[]):lastC P∈P:=by
 unfold lastC;rw [Tj ne];exact List.getLast_mem ne
def JR (g:b≠0):1 - Rat.divInt t b=Rat.divInt (b - t) b:=by
 have p:=yq (t:=t) g;have m:=yq (t:=b - t) g;have bn:((b:Int):Rat)≠0:=λz=>g (Rat.intCast_inj.mp (by rw [z];rfl))
 have:(1 - Rat.divInt t b - Rat.divInt (b - t) b)*(b:Rat)=0:=by
  rw [jaZ] at m
  grind
 rcases Rat.mul_eq_zero.mp this with z|z
 ·grind
 ·exact absurd z bn
end
section
def Std.at_corner (h:Std m T as P) (q:c∈P):zg P c.1=c.2:=by
 obtain ⟨i,g,rfl⟩:=QI q;have p:=Qb g
 cases hn:P[i+1]? with
 |none=>
  have:=Zx h.rise p QQ (.inl (by have:=jbk.mp hn;lia));rw [hn] at this;exact this
 |some d=>
  have hd:=Qd.mp hn;have lt:=QN.mp h.rise i (i+1) g hd.1 ⋯;rw [hd.2] at lt;have:=Zx h.rise p QQ (.inr ⟨d,hn,lt⟩);rw [hn] at this;rw [this];exact Wa (by rw [(h.ok _ (QY g)).1,(h.ok d (Qc hn)).1])
def Std.range (h:Std m T as P) (g:c∈P):0<=c.1/\c.1<=T:=by
 have h0:0<=c.1:=by
  obtain ⟨r,q⟩:=h.cons;have p:=h.rise;rw [q] at p g
  rcases Qn.mp g with rfl|g
  ·exact QQ
  ·exact QE ((Qo.mp p).1 c g)
 refine ⟨h0,?_⟩;have s:=h.sum h0;rw [h.at_corner g,(h.ok c g).2] at s;unfold mn at s
 split at s
 ·assumption
 ·rw [s];exact QQ
theorem ZV:∀{v:List Rat},(∀q∈v,0<=q)->0<=zH v/\∀q∈v,q<=zH v
 |[],_=>⟨by rw [zH];exact QQ,λq g=>absurd g Qp⟩
 |a::v,h=>by
  have ha:=h a (Qe ..);obtain ⟨p,m⟩:=ZV λq g=>h q (Qf _ g);rw [zH];refine ⟨by grind,λq g=>?_⟩
  rcases Qn.mp g with rfl|g
  ·grind
  ·have:=m q g;grind
def Good.parts (h:Good r l P) (h0:0<=e):∀q∈zg P e,0<=q/\q<=zH (amQ l):=by
 have nn:∀q∈zg P e,0<=q:=λq g=>by
  obtain ⟨i,m,rfl⟩:=QI g;have ln:=h.std.len (e:=e);exact ((h.fit e h0).inQ _ (YL (Qb ⋯) (Qb m))).1
 obtain ⟨_,le⟩:=ZV nn;have s:=h.std.sum h0;have m1:mn e (zH (amQ l))<=zH (amQ l):=by unfold mn;split<;>grind
 intro q g;have:=le q g;exact ⟨nn q g,by grind⟩
end
def yo (tk:List Int):List Rat:=tk.map λ(p:Int)=>(p:Rat)
structure FitG (r:Rl) (l:List Cl) (tk:List Int):Prop where
 len:tk.length=l.length
 fit:yL r (zA l (yo tk))
def zO (n:Int) (l:List Cl):List Cl:=l.map λc=>(n*c.1,c.2)
def yw (n:Int) (tk:List Int):List Int:=tk.map (n*·)
section
def ZD (tk:List Int):(yo tk).length=tk.length:=Qa _
def FitG.row (h:FitG r l tk) {i:Nat} {a p:Int} (ha:(amV l)[i]? =some a) (hp:tk[i]? =some p):∃c:Cl,l[i]? =some c/\c.1=a/\yO c (p:Rat)∈zA l (yo tk):=by
 unfold amV at ha;rw [Qg] at ha
 cases e:l[i]? with
 |none=>rw [e] at ha;cases ha
 |some c=>
  rw [e] at ha;cases ha;exact ⟨c,rfl,rfl,YL e (by unfold yo;rw [Qg,hp];rfl)⟩
def FitG.inB (h:FitG r l tk):InB (amV l) tk:=⟨by rw [yf];exact h.len,λi a p ha hp=>by
 obtain ⟨c,_,rfl,hm⟩:=h.row ha hp;have:=h.fit.inQ _ hm
 exact ⟨Vr this.1,Vr this.2⟩⟩
def Ei (r:tk.length=l.length) (e:L=zA l (yo tk)) (h:xo L):Vy (amV l) tk:=by
 refine ⟨by rw [yf];exact r,λi a p ha hp=>?_⟩;unfold amV at ha;rw [Qg] at ha
 cases e1:l[i]? with
 |none=>rw [e1] at ha;cases ha
 |some c=>
  rw [e1] at ha;cases ha;have hm:yO c (p:Rat)∈L:=by rw [e];exact YL e1 (by unfold yo;rw [Qg,hp];rfl)
  have b:=h.1 _ hm;refine ⟨Vr b.1,Vr b.2,λlt q m=>?_⟩;obtain ⟨j,s,rfl⟩:=QI m
  have g:yO (l[j]'⋯) ((tk[j]:Int):Rat)∈L:=by
   rw [e];exact YL (Qb _) (by unfold yo;rw [Qg,Qb s];rfl)
  exact Vr (h.2 _ hm (ny lt) _ g)
def Au:yo (xB am tk)=qJ (yo am) (yo tk):=by
 unfold yo xB qJ;rw [jbe,jbv]
 congr 1
 funext a b
 rw [jaZ]
def Hy (l:List Cl):yo (amV l)=amQ l:=(aG l).symm
def ah:zA l (yo (xB (amV l) tk))=(zA l (yo tk)).map Row.flip:=by
 rw [Au,Hy,aj]
def mV (h:tk.length=l.length):(xB (amV l) tk).length=l.length:=by rw [XG (by rw [yf];exact h),yf]
def FitG.evenly (h:FitG .evenly l tk):Vy (amV l) tk:=Ei h.len rfl h.fit.2
def FitG.losses (h:FitG .losses l tk):Vy (amV l) (xB (amV l) tk):=Ei (mV h.len) ah.symm h.fit.2
def FitG.other (h:FitG (.other r) l tk):FitG r l (xB (amV l) tk):=⟨mV h.len,by rw [ah];exact h.fit.2⟩
def Xz (tk:List Int):zH (yo tk)=((tk.sum:Int):Rat):=UO tk
def FitG.sums (h:FitG r l tk):Ym (zA l (yo tk))=(((amV l).sum:Int):Rat)/\Yl (zA l (yo tk))=((tk.sum:Int):Rat):=
 ⟨by rw [Zs (by rw [ZD];exact h.len),xh],by rw [Zr (by rw [ZD];exact h.len),Xz]⟩
def FitG.shares (h:FitG .shares l tk):tk.map (·*(amV l).sum)=(amV l).map (·*tk.sum):=by
 have s:=h.sums;have f:=h.fit.2
 apply Ts
 ·rw [Qa,Qa,yf,h.len]
 ·intro i m g;rw [Qa] at m g;obtain ⟨c,_,e,hm⟩:=h.row (Qb g) (Qb m);have:=f _ hm;rw [s.1,s.2] at this;rw [jaA,jaA]
  apply Rat.intCast_inj.mp
  rw [QP,QP,<-e];exact this
def FitG.halves (h:FitG .halves l tk):FitG (.upto 1 2 .evenly .losses) l tk:=by
 refine ⟨h.len,h.fit.1,?_⟩;have g:Rat.divInt 1 2=(1:Rat) / 2:=by decide+kernel
 rw [g];exact h.fit.2
def yQ (n:Int) (l:List Cl):(zO n l).length=l.length:=Qa _
def xS (n:Int) (tk:List Int):(yw n tk).length=tk.length:=Qa _
def xE (n:Int) (l:List Cl):amV (zO n l)=yw n (amV l):=by
 unfold amV zO yw;rw [Qm,Qm];rfl
theorem Xx (n:Int):∀tk:List Int,(yw n tk).sum=n*tk.sum
 |[]=>by show (0:Int)=n*0;rw [Int.mul_zero]
 |a::tk=>by
  show (n*a::yw n tk).sum=_;rw [QR,QR,Xx n tk,Int.mul_add]
theorem md (g:b≠0):∀{l:List Cl} {tk:List Int},zA (zO t l) (yo (yw b tk))=((zA l (yo tk)).map (Row.first (Rat.divInt t b))).map (Row.scale (b:Rat))
 |[],_=>rfl
 |_::_,[]=>rfl
 |c::l,p::tk=>by
  show yO (t*c.1,c.2) ((b*p:Int):Rat)::zA (zO t l) (yo (yw b tk))=Row.scale (b:Rat) (Row.first (Rat.divInt t b) (yO c (p:Rat)))::((zA l (yo tk)).map (Row.first (Rat.divInt t b))).map (Row.scale (b:Rat));rw [md g];have e:=yq (t:=t) g
  congr 1
  simp only [yO,Row.scale,Row.first,QP]
  congr 1<;>grind
theorem lZ (g:b≠0):∀{l:List Cl} {tk:List Int},zA (zO (b - t) l) (yo (xB (yw b tk) (yw t (amV l))))=((zA l (yo tk)).map (Row.rest (Rat.divInt t b))).map (Row.scale (b:Rat))
 |[],[]=>rfl
 |[],_::_=>rfl
 |_::_,[]=>rfl
 |c::l,p::tk=>by
  show yO ((b - t)*c.1,c.2) ((b*p - t*c.1:Int):Rat)::zA (zO (b - t) l) (yo (xB (yw b tk) (yw t (amV l))))=Row.scale (b:Rat) (Row.rest (Rat.divInt t b) (yO c (p:Rat)))::((zA l (yo tk)).map (Row.rest (Rat.divInt t b))).map (Row.scale (b:Rat));rw [lZ g];have e:=yq (t:=t) g
  congr 1
  simp only [yO,Row.scale,Row.rest,QP,jaZ]
  congr 1<;>grind
def FitG.upto (m:0<b) (h:FitG (.upto t b x y) l tk):
 if (yw b tk).sum<=(amV (zO t l)).sum then FitG x (zO t l) (yw b tk) else FitG y (zO (b - t) l) (xB (yw b tk) (amV (zO t l))):=by
 have s:=h.sums;have f:=h.fit.2;have g:=Yd m;have bn:b≠0:=⋯
 have e:=yq (t:=t) bn;unfold Zn at f;rw [s.1,s.2] at f
 have iff:((tk.sum:Int):Rat)<=(((amV l).sum:Int):Rat)*Rat.divInt t b↔(yw b tk).sum<=(amV (zO t l)).sum:=by
  rw [xE,Xx,Xx,<-gQ g,<-QK,QP,QP,<-e]
  constructor<;>intro z<;>grind
 by_cases c:(yw b tk).sum<=(amV (zO t l)).sum
 ·rw [QH (iff.mpr c)] at f;rw [QH c];exact ⟨by rw [xS,yQ];exact h.len,by rw [md bn];exact yL.scale g f⟩
 ·rw [QS (λz=>c (iff.mp z))] at f;rw [QS c];refine ⟨?_,by rw [xE,lZ bn];exact yL.scale g f⟩;rw [xE,yQ,XG (by rw [xS,xS,yf,h.len]),xS];exact h.len
def Af (g:Good r l P) (m:0<B) (e0:0<=e) (w:(e.den:Int)∣B) (hd:∀p∈zg P e,(p.den:Int)∣B):
 (tkV B (zg P e)).sum=min (e.num*B.fdiv (e.den:Int)) (B*(amV l).sum)/\FitG r (zO B l) (tkV B (zg P e)):=by
 have t:=Yd m;have ln:=g.std.len (e:=e)
 have s:yo (tkV B (zg P e))=Ub (B:Rat) (zg P e):=by
  unfold yo tkV Ub;rw [Qm];exact QC λp hp=>eU m (hd p hp)
 have lt:(tkV B (zg P e)).length=l.length:=by unfold tkV;rw [Qa];exact ln
 refine ⟨?_,by rw [yQ];exact lt,?_⟩
 ·apply Rat.intCast_inj.mp
  rw [<-Xz,s,Iu,eU m w,QP,Rat.mul_comm (B:Rat),<-Gz t,<-xh];have:=g.std.sum e0;rw [<-this];exact xj _ _
 ·rw [s]
  have:∀{l:List Cl} {v:List Rat},zA (zO B l) (Ub (B:Rat) v)=(zA l v).map (Row.scale (B:Rat)):=by
   intro l
   induction l with
   |nil=>intro v;rfl
   |cons c l u=>
    intro v
    cases v with
    |nil=>rfl
    |cons q v=>
     show yO (B*c.1,c.2) (q*(B:Rat))::zA (zO B l) (Ub (B:Rat) v)=Row.scale (B:Rat) (yO c q)::(zA l v).map (Row.scale (B:Rat));rw [u]
     congr 1
     simp only [yO,Row.scale,QP]
     congr 1
     grind
  rw [this];exact yL.scale t (g.fit e e0)
end
section
def Ga (h:Vt t b):PyData.tuple [.int t, .int b]=frD (Rat.divInt t b):=by
 have g:0<b:=by have:=h.2.1;have:=h.2.2.1;lia
 have l:=bQ (a:=t) g;unfold frD;rw [<-l.1,<-l.2,h.2.2.2];rw [show (((1:Nat):Int))=1 from rfl,Int.fdiv_one,Int.fdiv_one]
def JM (h:Vt t b):SzQ 210 (Rat.divInt t b):=SzQ.divInt h.1.1 h.1.2 (by have:=h.2.1;have:=h.2.2.1;lia)
def aY (h:∀c∈P,SzC n c) (hp:SzQ m p):∀c∈yd p P,SzC (n+m) c:=λc s=>by
 obtain ⟨d,hd,rfl⟩:=Qi.mp s;have:=h d hd;refine ⟨this.1.mul hp,λq r=>?_⟩;obtain ⟨x,g,rfl⟩:=Qi.mp r;exact (this.2 x g).mul hp
end
section
end
def Vp:Rl->Nat
 | .halves=>3
 | .other r=>Vp r+1
 | .upto _ _ x y=>max (Vp x) (Vp y)+1
 | .ranks r=>Vp r+1
 | .groups a b=>max (Vp a) (Vp b)+1
 |_=>1
theorem Hx:∀r:Rl,1<=Vp r
 | .shares=>Qu _
 | .evenly=>Qu _
 | .losses=>Qu _
 | .halves=>by decide
 | .other r=>by simp [Vp]
 | .ranks r=>by simp [Vp]
 | .groups a b=>by simp [Vp]
 | .upto _ _ x y=>by simp [Vp]
section
def port12:Vt 1 2:=⟨⟨by unfold Sz;decide,by unfold Sz;decide⟩,nofun,nofun,nofun⟩
end
section
end
structure Small (t b:Int):Prop where
 port:Vt t b
 le:b<=61
section
variable {B G0 H:Hp} {cs:xg} {ds:Dat} {Q:VK} {v w u:V}
def qQ:Sp:=λvs H Q _=>∃(G:Hp) (c:Int),vs=[.int c]/\zV G H/\∀v H' G' (t b:Int),Grow G H G' H'->Is G' (.tuple [.int t, .int b]) v->Small t b->Q v H'
def FQ (S:Sta B G0 H cs ds) (k:∀v H' (t b:Int),Small t b->zV H H'->Sta B G0 H' cs ((.tuple [.int t, .int b],v)::ds)->Q v H'):qQ [.int c] H Q E:=by
 obtain ⟨G,S⟩:=S;refine ⟨G,c,rfl,S.2.1,λv H' y t b gr g good=>k v H' t b good gr.h ?_⟩;obtain ⟨s,r,q,d',p,m,g'⟩:=S.grow gr;exact ⟨y,s,r,q,d',p,m,g'.cons g⟩
def BV (S:Sta H G H' cs ds) (k:∀v H' g (t b:Int),Grow G H g H'->Is g (.tuple [.int t, .int b]) v->Small t b->Q v H') (h:Has ds (.tuple [.int t, .int b]) v) (m:Small t b):Q v H':=by
 obtain ⟨g,gr,al⟩:=S.leave;exact k v H' g t b gr (h g al) m
end
def qK (G:b.1<c.1) (q:b.2.length=m) (lc:c.2.length=m) (u:zY a b c) (t:zY b c y):zY a b y:=λi A B Y s g r=>by
 have I:i<m:=by rw [<-q];exact (Qd.mp g).1
 have p:=Qb (l:=c.2) (i:=i) ⋯;have J:=u i A B _ s g p;have D:=t i B _ Y g p r;generalize c.2[i]=C at*;have z:(B - A)*(c.1 - b.1)=(C - B)*(b.1 - a.1):=by grind
 have w:((B - A)*(y.1 - a.1) - (Y - A)*(b.1 - a.1))*(c.1 - b.1)=0:=by
  have:((B - A)*(y.1 - a.1) - (Y - A)*(b.1 - a.1))*(c.1 - b.1)=((B - A)*(c.1 - b.1))*(y.1 - a.1) - ((Y - B)*(c.1 - b.1))*(b.1 - a.1) - ((B - A)*(c.1 - b.1))*(b.1 - a.1):=by grind
  rw [this,z,<-D];grind
 have:=ya w (xY G)
 grind
def oh (D:k.1<b.1) (r:a.2.length=m) (G:k.2.length=m) (u:zY k a b) (t:zY k b c):zY a b c:=λi A B C q p s=>by
 have I:i<m:=by rw [<-r];exact (Qd.mp q).1
 have g:=Qb (l:=k.2) (i:=i) ⋯;have L:=u i _ A B g q p;have J:=t i _ B C g p s;generalize k.2[i]=K at*;have z:(B - A)*(b.1 - k.1)=(B - K)*(b.1 - a.1):=by grind
 have y:(C - A)*(b.1 - k.1)=(B - K)*(c.1 - a.1):=by grind
 have w:((B - A)*(c.1 - a.1) - (C - A)*(b.1 - a.1))*(b.1 - k.1)=0:=by
  have:((B - A)*(c.1 - a.1) - (C - A)*(b.1 - a.1))*(b.1 - k.1)=((B - A)*(b.1 - k.1))*(c.1 - a.1) - ((C - A)*(b.1 - k.1))*(b.1 - a.1):=by grind
  rw [this,z,y];grind
 have:=ya w (xY D)
 grind
theorem Thn.cons (h:Thn F) (h0:∀y z t,F=y::z::t->¬zY k y z):Thn (k::F)
 |0,x,y,z,p,m,g=>by
  match F,h0,m,g with
  |[],_,m,_=>simp at m
  |[_],_,_,g=>simp at g
  |a::b::t,h0,m,g=>
   simp at p m g;subst p;subst m;subst g;exact h0 _ _ t rfl
 |i+1,x,y,z,p,m,g=>h i x y z ‹p› ‹m› ‹g›
theorem gV:∀(r:List zh) (k a b:zh),yx (k::b::r)->(∀x∈k::b::r,x.2.length=m)->(a=k\/(k.1<a.1/\a.1<b.1/\a.2.length=m/\zY k a b))->
 Thn (k::yl a (b::r))/\∃y t,yl a (b::r)=y::t/\(y=b\/(b.1<y.1/\y.2.length=m/\zY a b y))
 |[],k,a,b,_,_,_=>by
  rw [yl];exact ⟨λi x y z _ _ M=>by simp at M,b,[],rfl, .inl rfl⟩
 |c::r,k,a,b,hr,hl,ha=>by
  obtain ⟨J,I⟩:=Qo.mp hr;obtain ⟨O,N⟩:=Qo.mp I;have K:=J b (Qe ..);have q:=O c (Qe ..);have G:=hl k (Qe ..);have w:=hl b (Qf _ (Qe ..));have lc:=hl c (Qf _ (Qf _ (Qe ..)));rw [yl]
  split
  ·rename_i st
   have P:zY k b c:=by
    rcases ha with rfl|⟨_,L,A,s0⟩
    ·exact st
    ·exact cP L G A s0 st
   have rk:yx (k::c::r):=Qo.mpr ⟨λx g=>J x (Qf _ g),N⟩
   obtain ⟨D,y,t,e,C⟩:=gV r k b c rk (λx g=>hl x (by
    rcases Qn.mp g with rfl|g
    ·exact Qe ..
    ·exact Qf _ (Qf _ g))) (.inr ⟨K,q,w,P⟩)
   refine ⟨D,y,t,e, .inr ?_⟩
   rcases C with rfl|⟨p,u,s⟩
   ·exact ⟨q,lc,st⟩
   ·exact ⟨xr q p,u,qK q w lc st s⟩
  ·rename_i st;obtain ⟨D,y,t,e,C⟩:=gV r b b c I (λx g=>hl x (Qf _ g)) (.inl rfl);refine ⟨D.cons λT z t' ez=>?_,b,_,rfl, .inl rfl⟩;rw [e] at ez;cases ez;intro s
   have s1:zY k b c:=by
    rcases C with rfl|⟨p,u,s2⟩
    ·exact s
    ·exact kR (xr q p) w u s2 s
   rcases ha with rfl|⟨_,L,A,s0⟩
   ·exact st s1
   ·exact st (oh K A G s0 s1)
def pT (hr:yx L) (g:∀x∈L,x.2.length=m):Thn (yv L):=by
 match L,hr,g with
 |[],_,_=>exact λi x y z q=>by simp [yv] at q
 |[c],_,_=>exact λi x y z _ p=>by simp [yv,yl] at p
 |c::b::r,hr,g=>exact (gV r c c b hr g (.inl rfl)).1
def Mon (P:List zh):Prop:=P.Pairwise λc d=>LeV c.2 d.2
structure Ful (m:Nat) (T:Rat) (as:List Rat) (P:List zh):Prop where
 std:Std m T as P
 mono:Mon P
 thin:Thn P
section
def Ful.pm (h:Ful m T as P):PathM m P:=⟨⟨h.std.rise,λc g=>(h.std.ok c g).1,h.thin⟩,λc g=>(h.std.ok c g).2,h.mono⟩
def LeV.refl (x:List Rat):LeV x x:=λi a b ha g=>by rw [ha] at g;cases g;exact QQ
def Std.le_last (h:Std m T as P) (mo:Mon P):∀c∈P,LeV c.2 as:=λc r=>by
 obtain ⟨i,q,rfl⟩:=QI r;have p:=h.last;rw [jas] at p;obtain ⟨s,g⟩:=Qd.mp p
 by_cases z:i=P.length - 1
 ·subst z;rw [g];exact LeV.refl _
 ·have:=QN.mp mo i (P.length - 1) q s ⋯;rw [g] at this;exact this
def Std.nn (h:Std m T as P) (mo:Mon P):∀c∈P,∀(i:Nat) (a:Rat),c.2[i]? =some a->0<=a:=λc g i a ha=>by
 obtain ⟨r,p⟩:=h.cons;have q:=(h.ok c g).1;rw [p] at g mo
 rcases Qn.mp g with rfl|g
 ·have:=(Qd.mp ha).2;rw [Tw] at this;rw [<-this];exact QQ
 ·refine (Qo.mp mo).1 c g i 0 a ?_ ha;have:=(Qd.mp ha).1;rw [QX,QH ⋯]
def Ful.turned (h:Ful m T as P):Ful m T as (yA P):=by
 have I:=h.std.lastC;have D:=h.std.lenA;refine ⟨nq h.std,?_,λi x y z u t s st=>?_⟩
 ·unfold Mon yA;rw [QZ,List.pairwise_reverse];refine jbK (λ{c d} My=>?_) h.mono;intro i a b ha g;obtain ⟨a1,a2,M,L,rfl⟩:=Br ha;obtain ⟨O,N,f1,f2,rfl⟩:=Br g;rw [M] at f1;cases f1;have:=My i N a2 f2 L
  grind
 ·unfold yA at u t s;obtain ⟨x,r,rfl⟩:=zN u;obtain ⟨y,w,rfl⟩:=zN t;obtain ⟨z,q,rfl⟩:=zN s;have G:=(Qd.mp q).1;rw [Tu] at G;rw [List.getElem?_reverse ⋯] at r w q;have C:=(h.std.ok x (Qc r)).1;refine h.thin (P.length - 1 - (i+2)) z y x q (by rw [<-w];congr 1;lia) (by rw [<-r];congr 1;lia) ?_;rw [I] at st;intro j c b a K g ha;have J:j<as.length:=by rw [D,<-C];exact (Qd.mp ha).1
  have p:=Qb J;have:=st j (as[j] - a) (as[j] - b) (as[j] - c) (UP p ha) (UP p g) (UP p K);generalize as[j]=A at*;have e:(A - b - (A - a))*(T - z.1 - (T - x.1))=(A - c - (A - a))*(T - y.1 - (T - x.1)):=this
  grind
def Ful.scaled (hp:0<p) (h:Ful m T as P):Ful m (T*p) (Ub p as) (yd p P):=by
 have q:∀{x:List Rat} {i:Nat} {a:Rat},(x.map (·*p))[i]? =some a->∃b,x[i]? =some b/\a=b*p:=λ{x i a} ha=>by
  rw [Qg] at ha
  cases e:x[i]? with
  |none=>rw [e] at ha;cases ha
  |some b=>rw [e] at ha;cases ha;exact ⟨b,rfl,rfl⟩
 refine ⟨WU hp h.std,?_,λi x y z u t s st=>?_⟩
 ·unfold Mon yd;rw [QZ];refine jbK (λ{c d} My=>?_) h.mono;intro i a b ha r;obtain ⟨C,G,rfl⟩:=q ha;obtain ⟨A,J,rfl⟩:=q r;exact Zy (My i C A G J) (QE hp)
 ·unfold yd at u t s;obtain ⟨x,K,rfl⟩:=zN u;obtain ⟨y,I,rfl⟩:=zN t;obtain ⟨z,D,rfl⟩:=zN s;refine h.thin i x y z K I D ?_;intro j a b c ha r w;have g:∀{x:List Rat} {a:Rat},x[j]? =some a->(x.map (·*p))[j]? =some (a*p):=λ{x a} h=>by rw [Qg,h];rfl
  have:=st j (a*p) (b*p) (c*p) (g ha) (g r) (g w);have e:(b*p - a*p)*(z.1*p - x.1*p)=(c*p - a*p)*(y.1*p - x.1*p):=this
  have pn:p*p≠0:=λz=>by
   have:=jbt hp hp;rw [z] at this;exact absurd this jaS
  have:=ya (a:=(b - a)*(z.1 - x.1) - (c - a)*(y.1 - x.1)) (b:=p*p) (by grind) pn
  grind
def HS (h:Std m T as P) (mo:Mon P) (h':Std m T' RL P') (r:Mon P'):Mon (P++yM P P'):=by
 have s:=h.lastC;refine TN.mpr ⟨mo,?_,λc t d hd=>?_⟩
 ·unfold yM;rw [QZ];refine jbK (λ{a b} Nd=>?_) (jbh (List.tail_sublist P') r);intro i x y p g;unfold VW at p g;dsimp only at p g;rw [Qr] at p g
  cases e0:(lastC P).2[i]? with
  |none=>rw [e0] at p;cases p
  |some q=>
   cases e1:a.2[i]? with
   |none=>rw [e0,e1] at p;cases p
   |some u=>
    cases e2:b.2[i]? with
    |none=>rw [e0,e2] at g;cases g
    |some v=>
     rw [e0,e1] at p;rw [e0,e2] at g;cases p;cases g;have:=Nd i u v e1 e2
     grind
 ·obtain ⟨d',z,rfl⟩:=Qi.mp hd;have w:=TQ z;intro i x y p g;unfold VW at g;dsimp only at g;rw [s,Qr] at g
  cases e0:as[i]? with
  |none=>dsimp only at g;rw [e0] at g;cases g
  |some q=>
   cases e1:d'.2[i]? with
   |none=>dsimp only at g;rw [e0,e1] at g;cases g
   |some u=>
    dsimp only at g;rw [e0,e1] at g;cases g;have C:=h.le_last mo c t i x q p e0;have A:=h'.nn r d' w i u e1
    grind
def ku (h:Std m T as P) (mo:Mon P) (h':Std m T' RL P') (q:Mon P'):Ful m (T+T') (List.zipWith (·+·) as RL) (yv (P++yM P P')):=by
 have s:=iC h h';obtain ⟨g,_⟩:=mZ s;exact ⟨g,jbh (ZX _) (HS h mo h' q),pT s.rise λx p=>(s.ok x p).1⟩
end
section
def KD (as:List Int) (h:ls.Pairwise (·<·)):Mon (evP as ls):=by
 unfold Mon evP;rw [QZ];refine jbK (λ{a b} Nd=>?_) h;intro i x y g m;unfold yg Vi at g m;simp only [Qm,Qg] at g m
 cases e:as[i]? with
 |none=>rw [e] at g;cases g
 |some q=>
  rw [e] at g m;cases g;cases m;show ((min q a:Int):Rat)<=((min q b:Int):Rat);exact QK.mpr ⋯
def KC (h:LvOk as ls):Thn (evP as ls):=λi x y z s r p st=>by
 unfold evP at s r p;obtain ⟨a,ha,rfl⟩:=zN s;obtain ⟨b,m,rfl⟩:=zN r;obtain ⟨c,t,rfl⟩:=zN p
 have lt:∀{i j:Nat} {a b:Int},ls[i]? =some a->ls[j]? =some b->i<j->a<b:=λ{i j a b} ha m ME=>by
  obtain ⟨A,rfl⟩:=Qd.mp ha;obtain ⟨w,rfl⟩:=Qd.mp m;exact QN.mp h.rise i j A w ME
 have ab:=lt ha m ⋯;have D:=lt m t ⋯;have a0:=h.nnL a (Qc ha)
 have bm:b∈as:=by
  rcases (h.mem b).mp (Qc m) with z|z
  ·lia
  ·exact z
 obtain ⟨j,C⟩:=Qv.mp bm
 have g:∀q:Int,(yg (Vi as q)).2[j]? =some ((min b q:Int):Rat):=λq=>by
  unfold yg Vi;simp only [Qm,Qg,C];rfl
 have e:=st j _ _ _ (g a) (g b) (g c);have s1:=h.sumlt (Qc m) (Qc t) D;rw [show min b a=a by lia,show min b b=b by lia,show min b c=b by lia] at e;have I:((b:Rat) - (a:Rat))*((((Vi as c).sum:Int):Rat) - (((Vi as a).sum:Int):Rat))=((b:Rat) - (a:Rat))*((((Vi as b).sum:Int):Rat) - (((Vi as a).sum:Int):Rat)):=e;have G:=ny ab;have u:=ny s1;have:=jbt (show (0:Rat)<(b:Rat) - (a:Rat) by grind) (show (0:Rat)<(((Vi as c).sum:Int):Rat) - (((Vi as b).sum:Int):Rat) by grind)
 grind
def VJ (h:LvOk (amV l) ls):Ful l.length (zH (amQ l)) (amQ l) (evP (amV l) ls):=⟨(Wv h).std,KD _ h.rise,KC h⟩
def ko (h:LvOk (amV l) ls):Ful l.length (zH (amQ l)) (amQ l) (loP (amV l) ls):=by
 have:=(VJ h).turned;rwa [eS h] at this
def Am (nn:∀a∈amV l,0<=a):Ful l.length (zH (amQ l)) (amQ l) (shP (amV l)):=by
 have s:=(gX nn).std;refine ⟨s,?_,λi x y z _ _ m=>?_⟩
 ·obtain ⟨r,t⟩:=s.cons;have ok:=s.ok;unfold shP at t ok⊢
  split
  ·exact jao _ _
  ·refine Qo.mpr ⟨λd hd=>?_,jao _ _⟩;rw [Qq.mp hd,WB];intro i a b ha g;have p:=(Qd.mp ha).2;rw [Tw] at p;unfold yg at g;simp only [Qg] at g
   cases e:(amV l)[i]? with
   |none=>rw [e] at g;cases g
   |some q=>
    rw [e] at g;cases g;rw [<-p];exact cg (nn q (Qc e))
 ·unfold shP at m
  split at m<;>simp at m
def uK (p0:0<p) (s:p<1) (m:Ful l.length (zH (amQ l)) (amQ l) P) (g:Ful l.length (zH (amQ l)) (amQ l) P'):Ful l.length (zH (amQ l)) (amQ l) (WM p P P'):=by
 have s1:=m.scaled p0;have s2:=g.scaled (p:=1 - p) (by grind);have:=ku s1.std s1.mono s2.std s2.mono;have q:zH (amQ l)*p+zH (amQ l)*(1 - p)=zH (amQ l):=by grind
 have r:List.zipWith (·+·) (Ub p (amQ l)) (Ub (1 - p) (amQ l))=amQ l:=by
  unfold Ub
  apply Ts
  ·simp
  ·intro i _ _;simp only [Ta,jaA]
   grind
 rw [q,r] at this;exact this
def An (h:LvOk (amV l) ls):Ful l.length (zH (amQ l)) (amQ l) (yv (hvP (amV l) ls)):=by
 have g:=uK (p:=1 / 2) uC (by decide+kernel) (VJ h) (ko h)
 have m:WM (1 / 2) (evP (amV l) ls) (loP (amV l) ls)=yv (hvP (amV l) ls):=by
  unfold WM;rw [show (1:Rat) - 1 / 2=1 / 2 by decide+kernel];rfl
 rw [m] at g;exact g
end
def Za:List (Rat×Nat)->List Rat->List Rat
 |[],w=>w
 |(p,i)::r,w=>Za r (w.set i p)
def yh (pl:List Nat) (n:Nat) (v:List Rat):List Rat:=Za (v.zip pl) (List.replicate n 0)
theorem aW:∀(z:List (Rat×Nat)) (w:List Rat),(Za z w).length=w.length
 |[],w=>rfl
 |(p,i)::r,w=>by rw [Za,aW r,jaH]
theorem Ur:∀(z:List (Rat×Nat)) (w:List Rat),(∀x∈z,x.2≠j)->(Za z w)[j]? =w[j]?
 |[],w,_=>rfl
 |(p,i)::r,w,h=>by
  rw [Za,Ur r _ λx g=>h x (Qf _ g),jaR (h (p,i) (Qe ..))]
theorem jN:∀(z:List (Rat×Nat)) (w:List Rat),(z.map (·.2)).Nodup->(p,j)∈z->j<w.length->(Za z w)[j]? =some p
 |[],w,_,h,_=>absurd h Qp
 |(q,i)::r,w,nd,h,hj=>by
  rw [Qk,TX] at nd;rw [Za]
  rcases Qn.mp h with e|h
  ·cases e;rw [Ur r _ λx g e=>nd.1 (Qi.mpr ⟨x,g,e⟩),List.getElem?_set_self hj]
  ·exact jN r _ nd.2 h (by rw [jaH];exact hj)
def AV {v:List Rat} {pl:List Nat} (h:v.length=pl.length):(v.zip pl).map (·.2)=pl:=by
 have:(v.zip pl).map Prod.snd=pl:=List.map_snd_zip ⋯;exact this
structure Pls (n:Nat) (pl:List Nat):Prop where
 nd:pl.Nodup
 lt:∀i∈pl,i<n
section
variable {n m:Nat} {pl:List Nat} {v u:List Rat}
def yN (pl:List Nat) (n:Nat) (v:List Rat):(yh pl n v).length=n:=by unfold yh;rw [aW,QF]
def jK (h:Pls n pl) (g:v.length=pl.length) {p:Rat} {i:Nat} (hm:(p,i)∈v.zip pl):(yh pl n v)[i]? =some p:=
 jN _ _ (by rw [AV g];exact h.nd) hm (by rw [QF];exact h.lt i (jbD hm).2)
def Zo (h:Pls n pl) (g:v.length=pl.length) {i j:Nat} {p:Rat} (q:pl[j]? =some i) (hp:v[j]? =some p):(yh pl n v)[i]? =some p:=
 jK h g (Qc (by rw [Tr];exact ⟨hp,q⟩))
def Zf (p:i<n) (hm:i∉pl):(yh pl n v)[i]? =some 0:=by
 unfold yh;rw [Ur _ _ λx g e=>hm (by rw [<-e];exact (jbD g).2),QX,QH p]
def Zl (h:Pls n pl) (q:v.length=pl.length) {i:Nat} {p:Rat} (hp:(yh pl n v)[i]? =some p):(∃j:Nat,pl[j]? =some i/\v[j]? =some p)\/(i∉pl/\p=0):=by
 have r:i<n:=by have:=(Qd.mp hp).1;rwa [yN] at this
 by_cases c:i∈pl
 ·obtain ⟨j,g⟩:=Qv.mp c;have jl:=(Qd.mp g).1;have e:=Qb (l:=v) (i:=j) ⋯;have:=Zo h q g e;rw [hp] at this;cases this;exact .inl ⟨j,g,e⟩
 ·rw [Zf r c] at hp;cases hp;exact .inr ⟨c,rfl⟩
theorem tN:∀{w:List Rat} {i:Nat} {q p:Rat},w[i]? =some q->zH (w.set i p)=zH w - q+p
 |[],_,_,_,h=>by simp at h
 |a::w,0,q,p,h=>by
  cases h;rw [List.set_cons_zero,zH,zH];grind
 |a::w,i+1,q,p,h=>by
  rw [List.set_cons_succ,zH,zH,tN (p:=p) ‹h›];grind
theorem jM:∀(z:List (Rat×Nat)) (w:List Rat),(z.map (·.2)).Nodup->(∀x∈z,w[x.2]? =some 0)->zH (Za z w)=zH w+zH (z.map (·.1))
 |[],w,_,_=>by rw [Za,TC,zH];grind
 |(p,i)::r,w,nd,h=>by
  rw [Qk,TX] at nd;have h0:=h (p,i) (Qe ..)
  rw [Za,jM r _ nd.2 λx g=>by
   rw [jaR (λe=>nd.1 (Qi.mpr ⟨x,g,e.symm⟩))]
   exact h x (Qf _ g),tN h0,Qk,zH]
  grind
def vM (h:Pls n pl) (p:v.length=pl.length):zH (yh pl n v)=zH v:=by
 unfold yh
 rw [jM _ _ (by rw [AV p];exact h.nd) λx g=>by
  rw [QX,QH (h.lt _ (jbD g).2)],Xy]
 have:(v.zip pl).map Prod.fst=v:=List.map_fst_zip ⋯;have e:(v.zip pl).map (·.1)=v:=this;rw [e];grind
def qL (h:Pls n pl):yh pl n (List.replicate pl.length 0)=List.replicate n 0:=by
 apply Tg
 intro i
 by_cases g:i<n
 ·rw [QX,QH g];have e:=Qb (l:=yh pl n (List.replicate pl.length 0)) (i:=i) (by rw [yN];exact g)
  rcases Zl h (by rw [QF]) e with ⟨j,p,hp⟩|⟨_,hp⟩
  ·rw [e];have:=(Qd.mp hp).2;rw [Tw] at this;rw [<-this]
  ·rw [e,hp]
 ·rw [QD (by rw [yN];lia),QD (by rw [QF];lia)]
def Xj (pl:List Nat) (n:Nat) (c:zh):zh:=(c.1,yh pl n c.2)
def yB (pl:List Nat) (n:Nat) (P:List zh):List zh:=P.map (Xj pl n)
def Ke (t:Rat):Zm t 0 0=0:=by unfold Zm;grind
def qN {c d:zh} {e:Rat} (h:Pls n pl) (lc:c.2.length=pl.length) (ld:d.2.length=pl.length):Wh (Xj pl n c) (Xj pl n d) e=yh pl n (Wh c d e):=by
 have s:(Wh c d e).length=pl.length:=eE lc ld
 apply Tg
 intro i
 by_cases g:i<n
 ·have r:=Qb (l:=yh pl n c.2) (i:=i) (by rw [yN];exact g);have q:=Qb (l:=yh pl n d.2) (i:=i) (by rw [yN];exact g);unfold Wh Xj;dsimp only;rw [Qr,r,q]
  by_cases hm:i∈pl
  ·obtain ⟨j,p⟩:=Qv.mp hm;have jl:=(Qd.mp p).1;have f1:=Qb (l:=c.2) (i:=j) ⋯;have f2:=Qb (l:=d.2) (i:=j) ⋯;have g1:=Zo h lc p f1;have g2:=Zo h ld p f2;rw [r] at g1;rw [q] at g2
   have t:(Wh c d e)[j]? =some (Zm ((e - c.1) / (d.1 - c.1)) c.2[j] d.2[j]):=by
    unfold Wh;rw [Qr,f1,f2]
   have g3:=Zo h s p t;unfold Wh at g3;rw [g3,QJ g1,QJ g2]
  ·have g1:=Zf (v:=c.2) g hm;have g2:=Zf (v:=d.2) g hm;have g3:=Zf (v:=Wh c d e) g hm;rw [r] at g1;rw [q] at g2;unfold Wh at g3;rw [g3,QJ g1,QJ g2];show some (Zm _ 0 0)=_;rw [Ke]
 ·rw [QD,QD (by rw [yN];lia)];rw [eE (yN ..) (yN ..)];lia
theorem cQ (h:Pls n pl):∀{c:zh} {r:List zh},(∀x∈c::r,x.2.length=pl.length)->zg (yB pl n (c::r)) e=yh pl n (zg (c::r) e)
 |c,[],_=>rfl
 |c,d::r,hl=>by
  have lc:=hl c (Qe ..);have ld:=hl d (Qf _ (Qe ..));show zg (Xj pl n c::Xj pl n d::yB pl n r) e=_;rw [zg,zg]
  by_cases he:e<d.1
  ·rw [QH he,QH (show e<(Xj pl n d).1 from he),qN h lc ld]
  ·rw [QS he,QS (show ¬e<(Xj pl n d).1 from he)];exact cQ h λx g=>hl x (Qf _ g)
def Std.spread (h:Std m T as P) (hp:Pls n pl) (hm:pl.length=m):Std n T (yh pl n as) (yB pl n P):=by
 subst hm;refine ⟨?_,λc g=>?_,?_,?_⟩
 ·unfold yB yx;rw [QZ];exact h.rise
 ·obtain ⟨d,hd,rfl⟩:=Qi.mp g;have:=h.ok d hd;exact ⟨yN ..,by show zH (yh pl n d.2)=d.1;rw [vM hp this.1,this.2]⟩
 ·unfold yB;rw [Qg,h.head];show some (0,yh pl n _)=_;rw [qL hp]
 ·unfold yB;rw [jaF,h.last];rfl
def Std.spreadE (h:Std m T as P) (hp:Pls n pl) (hm:pl.length=m) (e:Rat):zg (yB pl n P) e=yh pl n (zg P e):=by
 obtain ⟨r,p⟩:=h.cons;have ok:=h.ok;rw [p] at ok⊢;exact cQ hp λx g=>by rw [(ok x g).1,hm]
def Ful.spread {T:Rat} {as:List Rat} {P:List zh} (h:Ful m T as P) (hp:Pls n pl) (hm:pl.length=m):Ful n T (yh pl n as) (yB pl n P):=by
 have ls:∀c∈P,c.2.length=pl.length:=λc p=>by rw [(h.std.ok c p).1,hm]
 refine ⟨h.std.spread hp hm,?_,λi x y z C A w st=>?_⟩
 ·unfold yB Mon;rw [QZ];refine List.Pairwise.imp_of_mem (λ{c d} p hd My=>?_) h.mono;intro i a b ha q
  rcases Zl hp (ls c p) ha with ⟨j,g,K⟩|⟨hn,rfl⟩
  ·rcases Zl hp (ls d hd) q with ⟨t,r,I⟩|⟨hn,rfl⟩
   ·have J:j=t:=(List.getElem?_inj (by exact (Qd.mp g).1) hp.nd).mp (by rw [g,r]);subst J;exact My j a b K I
   ·exact absurd (Qc g) hn
  ·rcases Zl hp (ls d hd) q with ⟨t,r,I⟩|⟨_,rfl⟩
   ·exact absurd (Qc r) hn
   ·exact QQ
 ·unfold yB at C A w;obtain ⟨x,s,rfl⟩:=zN C;obtain ⟨y,G,rfl⟩:=zN A;obtain ⟨z,D,rfl⟩:=zN w;refine h.thin i x y z s G D λj a b c ha q p=>?_;have jl:j<pl.length:=by rw [<-ls x (Qc s)];exact (Qd.mp ha).1
  have g:=Qb jl;exact st (pl[j]) a b c (Zo hp (ls x (Qc s)) g ha) (Zo hp (ls y (Qc G)) g q) (Zo hp (ls z (Qc D)) g p)
end
def zR (p:Cl->Bool) (l:List Cl):List Nat:=(List.range l.length).filter λi=>p (l.getD i (0,0,0))
def zX {α:Type} (d:α) (pl:List Nat) (v:List α):List α:=pl.map λi=>v.getD i d
section
variable {p:Cl->Bool} {l:List Cl} {v:List Rat}
def Zv (p:Cl->Bool) (l:List Cl):Pls l.length (zR p l):=⟨List.Pairwise.filter _ List.nodup_range,λi g=>jcb.mp (Tb.mp g).1⟩
def Yr (g:l[i]? =some c):i∈zR p l↔p c=true:=by
 unfold zR;rw [Tb,jcb,Ql,g];exact ⟨λh=>h.2,λh=>⟨(Qd.mp g).1,h⟩⟩
theorem UK {α:Type} (d:α) (p:α->Bool):∀l:List α,l.filter p=((List.range l.length).filter λi=>p (l.getD i d)).map λi=>l.getD i d
 |[]=>rfl
 |a::l=>by
  have g:=UK d p l;have e0:List.range (a::l).length=0::(List.range l.length).map Nat.succ:=by rw [Qy,List.range_succ_eq_map]
  have e:(List.map Nat.succ ((List.range l.length).filter ((λi=>p ((a::l).getD i d))∘Nat.succ))).map (λi=>(a::l).getD i d)=((List.range l.length).filter λi=>p (l.getD i d)).map λi=>l.getD i d:=by
   rw [Qm];rfl
  have z:(a::l).getD 0 d=a:=rfl;rw [e0,jbw,jbw,List.filter_map,z]
  split
  ·rw [Qk,e,<-g,z]
  ·rw [e,<-g]
def Yi (p:Cl->Bool) (l:List Cl):l.filter p=zX (0,0,0) (zR p l) l:=UK (0,0,0) p l
def xH (p:Cl->Bool) (l:List Cl):(zR p l).length=(l.filter p).length:=by rw [Yi];unfold zX;rw [Qa]
def YS (q:Row->Bool) (s:∀c x,q (yO c x)=p c) (r:v.length=l.length):(zA l v).filter q=zA (l.filter p) (zX 0 (zR p l) v):=by
 have t:(zA l v).length=l.length:=by unfold zA;rw [QB,r,Tx]
 have g:∀i,i<l.length->(zA l v).getD i (yO (0,0,0) 0)=yO (l.getD i (0,0,0)) (v.getD i 0):=λi m=>by
  unfold zA;rw [Ql,Qr,Ql,Ql,Qb m,Qb (show i<v.length by lia)];rfl
 rw [UK (yO (0,0,0) 0) q,t,Yi]
 have w:(List.range l.length).filter (λi=>q ((zA l v).getD i (yO (0,0,0) 0)))=zR p l:=by
  unfold zR;refine List.filter_congr λi m=>?_;rw [g i (jcb.mp m),s]
 rw [w];unfold zX
 have u:zA (List.map (λi=>l.getD i (0,0,0)) (zR p l)) (List.map (λi=>v.getD i 0) (zR p l))=(zR p l).map λi=>yO (l.getD i (0,0,0)) (v.getD i 0):=by
  unfold zA;rw [jbv,List.zipWith_self]
 rw [u];refine QC λi m=>?_;rw [g i ((Zv p l).lt i m)]
def rM {n:Nat} {pl:List Nat} (h:Pls n pl) (g:v.length=pl.length):zX 0 pl (yh pl n v)=v:=by
 unfold zX
 apply Tg
 intro j;rw [Qg]
 cases e:pl[j]? with
 |none=>
  have:=jbk.mp e;rw [QD ⋯];rfl
 |some i=>
  have jl:=(Qd.mp e).1;have f:=Qb (l:=v) (i:=j) ⋯;have:=Zo h g e f;show some ((yh pl n v).getD i 0)=_;rw [Ql,this,f];rfl
def jX (h:∀i∈pl,v[i]? =u[i]?):zX 0 pl v=zX 0 pl u:=by
 unfold zX;refine QC λi g=>?_;rw [Ql,Ql,h i g]
def Zw {α:Type} (d:α) (pl:List Nat) (v:List α):(zX d pl v).length=pl.length:=Qa _
end
def sq:xJ []=[]:=by
 unfold xJ;have:=(bP (([]:List Row).map (·.group))).choose_spec
 exact List.eq_nil_iff_forall_not_mem.mpr λk g=>by
  have:=(this.2 k).mp g;simp at this
theorem Yb:∀r:Rl,yL r []
 | .shares=>⟨λx m=>absurd m Qp,λx m=>absurd m Qp⟩
 | .evenly=>⟨λx m=>absurd m Qp,λx m=>absurd m Qp,λx m=>absurd m Qp⟩
 | .losses=>⟨λx m=>absurd m Qp,λx m=>absurd m Qp,λx m=>absurd m Qp⟩
 | .halves=>⟨λx m=>absurd m Qp,by
  unfold Zn
  split
  ·exact ⟨λx m=>absurd m Qp,λx m=>absurd m Qp,λx m=>absurd m Qp⟩
  ·exact ⟨λx m=>absurd m Qp,λx m=>absurd m Qp,λx m=>absurd m Qp⟩⟩
 | .other r=>⟨λx m=>absurd m Qp,Yb r⟩
 | .ranks r=>⟨λx m=>absurd m Qp,λk=>Yb r,λx m=>absurd m Qp⟩
 | .groups a b=>⟨λx m=>absurd m Qp,λg=>Yb b,by unfold VV;rw [sq];exact Yb a⟩
 | .upto t b x y=>⟨λx m=>absurd m Qp,by
  unfold Zn
  split
  ·exact Yb x
  ·exact Yb y⟩
structure GF (r:Rl) (l:List Cl) (P:List zh):Prop where
 good:Good r l P
 ful:Ful l.length (zH (amQ l)) (amQ l) P
section
def qM (h:Pls n pl) (m:i<n) (q:v.length=n):(yh pl n (zX 0 pl v))[i]? =if i∈pl then v[i]? else some 0:=by
 split
 ·rename_i c;obtain ⟨j,g⟩:=Qv.mp c;have e:=Qb (l:=v) (i:=i) ⋯;refine (Zo h (Zw ..) g (p:=v[i]) ?_).trans e.symm;unfold zX;rw [Qg,g];show some (v.getD i 0)=_;rw [Ql,e];rfl
 ·exact Zf m (by assumption)
def kB (p:Cl->Bool) (l:List Cl):amQ (l.filter p)=zX 0 (zR p l) (amQ l):=by
 rw [Yi];unfold amQ zX;rw [Qm];refine QC λi m=>?_;have g:=(Zv p l).lt i m;show (((l.getD i (0,0,0)).1:Int):Rat)=(l.map λc=>((c.1:Int):Rat)).getD i 0;rw [Ql,Ql,Qg,Qb g];rfl
end
def zM (k:Int):Cl->Bool:=λc=>decide (c.2.1=k)
def zC (k:Int):Cl->Bool:=λc=>decide (c.2.2=k)
noncomputable def zS (l:List Cl):List Int:=(bP (l.map (·.2.1))).choose
noncomputable def zF (l:List Cl):List Int:=(bP (l.map (·.2.2))).choose
def yH (l:List Cl):(zS l).Pairwise (·<·)/\∀k,k∈zS l↔k∈l.map (·.2.1):=(bP (l.map λc:Cl=>c.2.1)).choose_spec
def zU (l:List Cl):(zF l).Pairwise (·<·)/\∀k,k∈zF l↔k∈l.map (·.2.2):=(bP (l.map λc:Cl=>c.2.2)).choose_spec
def kL (n:Nat):List zh:=[(0,List.replicate n 0)]
noncomputable def ZE (f:List Cl->List zh) (l:List Cl) (P:List zh) (k:Int):List zh:=
 yv (P++yM P (yB (zR (zM k) l) l.length (f (l.filter (zM k)))))
noncomputable def Ua (f:List Cl->List zh) (l:List Cl):List zh:=(zS l).foldl (ZE f l) (kL l.length)
open Classical in
noncomputable def asD (done:List Int) (l:List Cl):List Rat:=l.map λc=>if c.2.1∈done then (c.1:Rat) else 0
section
def EG (done:List Int) (l:List Cl):(asD done l).length=l.length:=Qa _
def qu {i:Nat} {c:Cl} (g:l[i]? =some c) (h:c.2.1∈done):(asD done l)[i]? =some (c.1:Rat):=by
 unfold asD;rw [Qg,g,Option.map_some,QH h]
def iB {i:Nat} {c:Cl} (g:l[i]? =some c) (h:c.2.1∉done):(asD done l)[i]? =some 0:=by
 unfold asD;rw [Qg,g,Option.map_some,QS h]
structure RkI (r:Rl) (l:List Cl) (done:List Int) (P:List zh):Prop where
 ful:Ful l.length (zH (asD done l)) (asD done l) P
 fit:∀e:Rat,0<=e->∀k∈done,yL r ((zA l (zg P e)).filter (·.rank=k))
 zero:∀e:Rat,0<=e->∀(i:Nat) (c:Cl) (q:Rat),l[i]? =some c->(zg P e)[i]? =some q->c.2.1∉done->q=0
 ord:∀e:Rat,0<=e->∀x∈zA l (zg P e),∀y∈zA l (zg P e),x.rank∈done->x.rank<y.rank->0<y.part->x.part=x.am
def Fn (n:Nat):Ful n 0 (List.replicate n 0) (kL n):=by
 refine ⟨⟨jao _ _,λc m=>?_,rfl,rfl⟩,jao _ _,λi x y z _ g=>by simp [kL] at g⟩;rw [Qq.mp m];exact ⟨QF,Xy n⟩
def RkI.nil:RkI r l [] (kL l.length):=by
 have e:asD [] l=List.replicate l.length 0:=by
  unfold asD;rw [<-jaY];exact QC λc _=>QS Qp
 refine ⟨?_,λe _ k p=>absurd p Qp,λe _ i c q s m _=>?_,λe _ x _ y _ g=>absurd g Qp⟩
 ·rw [e,Xy];exact Fn l.length
 ·have:(List.replicate l.length (0:Rat))[i]? =some q:=m;have:=(Qd.mp this).2;rw [Tw] at this;exact this.symm
def RkI.step (h:RkI r l done P) (T:∀w∈done,w<k) (hf:GF r (l.filter (zM k)) (f (l.filter (zM k)))):RkI r l (done++[k]) (ZE f l P k):=by
 have I:=Zv (zM k) l;have J:=xH (zM k) l;have N:=hf.ful.spread I J;have st:=h.ful.std;have kn:k∉done:=λz=>absurd (T k z) ⋯;have G:=ku st h.ful.mono N.std N.mono;have inl:∀{i:Nat},i<l.length->∃c,l[i]? =some c:=λ{i} m=>⟨_,Qb m⟩
 have U:List.zipWith (·+·) (asD done l) (yh (zR (zM k) l) l.length (amQ (l.filter (zM k))))=asD (done++[k]) l:=by
  apply Tg
  intro i
  by_cases m:i<l.length
  ·obtain ⟨c,g⟩:=inl m;rw [Qr,kB,qM I m (Wy l)]
   by_cases s:c.2.1∈done
   ·have n1:i∉zR (zM k) l:=λz=>by
     have:=Qw ((Yr g).mp z);rw [this] at s;exact kn s
    rw [qu g s,QS n1,qu g (jai _ s)];show some ((c.1:Rat)+0)=_;rw [Rat.add_zero]
   ·by_cases K:c.2.1=k
    ·have n1:i∈zR (zM k) l:=(Yr g).mpr (Te K);rw [iB g s,QH n1,qu g (QG _ (by rw [K];exact jaT _))];unfold amQ;rw [Qg,g];show some ((0:Rat)+(c.1:Rat))=_;rw [Rat.zero_add]
    ·have n1:i∉zR (zM k) l:=λz=>K (Qw ((Yr g).mp z))
     rw [iB g s,QS n1,iB g (λz=>by
      rcases QW.mp z with z|z
      ·exact s z
      ·exact K (Qq.mp z))]
     show some ((0:Rat)+0)=_;rw [Rat.zero_add]
  ·rw [QD (by rw [QB,EG];lia),QD (by rw [EG];lia)]
 have eT:zH (asD done l)+zH (amQ (l.filter (zM k)))=zH (asD (done++[k]) l):=by
  rw [<-U];exact (G.std.ok _ (jaj G.std.last)).2.symm
 rw [U,eT] at G
 have parts:∀e:Rat,0<=e->zg (ZE f l P k) e=if e<zH (asD done l) then zg P e else List.zipWith (·+·) (asD done l) (yh (zR (zM k) l) l.length (zg (f (l.filter (zM k))) (e - zH (asD done l)))):=λe h0=>by
  unfold ZE;rw [cW st N.std h0,hf.ful.std.spreadE I J]
 have MQ:∀e:Rat,(zg (ZE f l P k) e).length=l.length:=λe=>G.std.len;have D:∀x:Rat,(zg (f (l.filter (zM k))) x).length=(zR (zM k) l).length:=λx=>by rw [hf.ful.std.len,J]
 have here:∀e:Rat,0<=e->¬e<zH (asD done l)->∀(i:Nat) (c:Cl),l[i]? =some c->(c.2.1∈done->(zg (ZE f l P k) e)[i]? =some (c.1:Rat))/\(c.2.1∉done++[k]->(zg (ZE f l P k) e)[i]? =some 0)/\(c.2.1=k->(zg (ZE f l P k) e)[i]? =(yh (zR (zM k) l) l.length (zg (f (l.filter (zM k))) (e - zH (asD done l))))[i]?):=λe h0 t i c g=>by
  have m:=(Qd.mp g).1;rw [parts e h0,QS t,Qr];refine ⟨λs=>?_,λs=>?_,λs=>?_⟩
  ·rw [qu g s,Zf m λz=>by
    have:=Qw ((Yr g).mp z);rw [this] at s
    exact kn s]
   show some ((c.1:Rat)+0)=_;rw [Rat.add_zero]
  ·rw [iB g λz=>s (jai _ z),Zf m λz=>by
    have:=Qw ((Yr g).mp z)
    exact s (QG _ (by rw [this];exact jaT _))]
   show some ((0:Rat)+0)=_;rw [Rat.zero_add]
  ·rw [iB g (by rw [s];exact kn)];have A:=Qb (l:=yh (zR (zM k) l) l.length (zg (f (l.filter (zM k))) (e - zH (asD done l)))) (i:=i) (by rw [yN];exact m);rw [A];show some ((0:Rat)+_)=_;rw [Rat.zero_add]
 have zero:∀e:Rat,0<=e->∀(i:Nat) (c:Cl) (q:Rat),l[i]? =some c->(zg (ZE f l P k) e)[i]? =some q->c.2.1∉done++[k]->q=0:=λe h0 i c q g C hn=>by
  by_cases t:e<zH (asD done l)
  ·rw [parts e h0,QH t] at C;exact h.zero e h0 i c q g C λz=>hn (jai _ z)
  ·rw [(here e h0 t i c g).2.1 hn] at C;cases C;rfl
 have rk:∀{w:Int} {i:Nat},i∈zR (zM w) l->∃c,l[i]? =some c/\c.2.1=w:=λ{w i} m=>by
  obtain ⟨c,g⟩:=inl ((Zv (zM w) l).lt i m);exact ⟨c,g,Qw ((Yr g).mp m)⟩
 refine ⟨G,λe h0 w Y=>?_,zero,λe h0 x M y L Ou Mu Z=>?_⟩
 ·rw [YS (p:=zM w) _ (λc x=>rfl) (MQ e)]
  by_cases t:e<zH (asD done l)
  ·rcases QW.mp Y with z|z
   ·have:=h.fit e h0 w z;rw [YS (p:=zM w) _ (λc x=>rfl) st.len] at this;rw [parts e h0,QH t];exact this
   ·rw [Qq.mp z]
    have e0:zX 0 (zR (zM k) l) (zg (ZE f l P k) e)=zg (f (l.filter (zM k))) 0:=by
     rw [hf.ful.std.zero,<-J,<-jaY];unfold zX;refine QC λi m=>?_;obtain ⟨c,g,A⟩:=rk m;have il:=(Qd.mp g).1;have X:=Qb (l:=zg P e) (i:=i) (by rw [st.len];exact il);rw [parts e h0,QH t,Ql,X];exact h.zero e h0 i c _ g X (by rw [A];exact kn)
    rw [e0];exact hf.good.fit 0 QQ
  ·rcases QW.mp Y with z|z
   ·have T0:=st.T0;have:=h.fit _ T0 w z;rw [YS (p:=zM w) _ (λc x=>rfl) st.len,st.past QQ] at this;rw [jX λi m=>?_]
    ·exact this
    ·obtain ⟨c,g,A⟩:=rk m;rw [(here e h0 t i c g).1 (by rw [A];exact z),qu g (by rw [A];exact z)]
   ·rw [Qq.mp z];rw [jX (u:=yh (zR (zM k) l) l.length (zg (f (l.filter (zM k))) (e - zH (asD done l)))) λi m=>?_,rM I (D _)]
    ·exact hf.good.fit _ (by have:=Ti.mp t;grind)
    ·obtain ⟨c,g,A⟩:=rk m;exact (here e h0 t i c g).2.2 A
 ·obtain ⟨j,d,O,hd,Ng,rfl⟩:=xi L
  have big:x.rank=k->False:=λA=>by
   have:=zero e h0 j d O hd Ng λz=>by
    have lt':x.rank<d.2.1:=Mu
    rcases QW.mp z with z|z
    ·have:=T _ z;lia
    ·have:=Qq.mp z;lia
   have pos:0<O:=Z;rw [this] at pos;exact absurd pos jaS
  rcases QW.mp Ou with z|z
  ·by_cases t:e<zH (asD done l)
   ·rw [parts e h0,QH t] at M L;exact h.ord e h0 x M _ L z Mu Z
   ·obtain ⟨i,c,q,g,C,rfl⟩:=xi M;rw [(here e h0 t i c g).1 z] at C;cases C;rfl
  ·exact (big (Qq.mp z)).elim
theorem rD:∀(g done:List Int) (P:List zh),RkI r l done P->(done++g).Pairwise (·<·)->(∀k∈g,GF r (l.filter (zM k)) (f (l.filter (zM k))))->RkI r l (done++g) (g.foldl (ZE f l) P)
 |[],done,P,h,_,_=>by rw [jaX];exact h
 |k::g,done,P,h,hp,hf=>by
  have e:done++k::g=done++[k]++g:=by rw [jah];rfl
  rw [e] at hp⊢;rw [List.foldl_cons];refine rD g (done++[k]) _ (h.step (λm p=>?_) (hf k (Qe ..))) hp λm p=>hf m (Qf _ p);exact (TN.mp (TN.mp hp).1).2.2 m p k (jaT _)
def FX (hf:∀k∈zS l,GF r (l.filter (zM k)) (f (l.filter (zM k)))):RkI r l (zS l) (Ua f l):=by
 have:=rD (zS l) [] _ RkI.nil (by rw [jaI];exact (yH l).1) hf;rw [jaI] at this;exact this
def Ag (hf:∀k∈zS l,GF r (l.filter (zM k)) (f (l.filter (zM k)))):GF (.ranks r) l (Ua f l):=by
 have h:=FX hf;have mem:∀{i:Nat} {c:Cl},l[i]? =some c->c.2.1∈zS l:=λ{i c} g=>((yH l).2 _).mpr (Qi.mpr ⟨c,Qc g,rfl⟩)
 have t:asD (zS l) l=amQ l:=by
  unfold asD amQ;refine QC λc g=>?_;obtain ⟨i,s⟩:=Qv.mp g;rw [QH (mem s)]
 have ful:=h.ful;rw [t] at ful
 have fits:∀(e:Rat),0<=e->∀k,yL r ((zA l (zg (Ua f l) e)).filter (·.rank=k)):=λe h0 k=>by
  by_cases z:k∈zS l
  ·exact h.fit e h0 k z
  ·rw [List.filter_eq_nil_iff.mpr λx m hd=>?_]
   ·exact Yb r
   ·obtain ⟨i,c,q,g,_,rfl⟩:=xi m;have u:c.2.1=k:=Qw hd;exact z (by rw [<-u];exact mem g)
 refine ⟨⟨ful.std,λe h0=>⟨λx m=>?_,fits e h0,λx m y p A w=>?_⟩⟩,ful⟩
 ·exact (fits e h0 x.rank).inQ x (Tb.mpr ⟨m,Te rfl⟩)
 ·refine h.ord e h0 x m y p ?_ A w;obtain ⟨i,c,q,g,_,rfl⟩:=xi m;exact mem g
end
def mO (h:Nest P Qs) (st:Std Qs.length T as P):Ful (nQ Qs) T (yW Qs as) (yI P Qs):=by
 have K:=st.lastC;have past:zg P T=as:=st.past QQ;refine ⟨⟨h.riseF,λc M=>?_,?_,?_⟩,?_,λi x y z I G D s=>?_⟩
 ·obtain ⟨i,L⟩:=Qv.mp M;obtain ⟨O,N⟩:=Nest.F_at L;have g:=h.in_range (Qc O);rw [N];exact ⟨h.flen _,h.sum g.1 g.2⟩
 ·rw [Nest.F_of h.zeroM,h.flat0]
 ·rw [h.getLast,K,past]
 ·unfold Mon yI;rw [QZ];refine List.Pairwise.imp_of_mem (λ{u v} hu hv MP=>?_) h.rise;have ru:=h.in_range hu;have C:=h.in_range hv;exact h.rises ru.1 (QE MP) C.2
 ·obtain ⟨A,w⟩:=Nest.F_at I;obtain ⟨t,m⟩:=Nest.F_at G;obtain ⟨z1,z2⟩:=Nest.F_at D;refine h.thin A t z1 λj p q r hp J hr=>?_;exact s j p r q (by rw [w];exact hp) (by rw [m];exact hr) (by rw [z2];exact J)
def xm (L:List Row):(xJ L).Pairwise (·<·)/\∀k,k∈xJ L↔k∈L.map (·.group):=(bP (L.map λc:Row=>c.group)).choose_spec
def AO (g:Int) (l:List Cl):Cl:=((amV l).sum,jg (l.map (·.2.1)),g)
noncomputable def zK (l:List Cl):List Cl:=(zF l).map λg=>AO g (l.filter (zC g))
noncomputable def ye (f:List Cl->List zh) (l:List Cl):List (List zh):=(zF l).map λg=>f (l.filter (zC g))
noncomputable def nO (l:List Cl):List (List Nat):=(zF l).map λg=>zR (zC g) l
noncomputable def AN (l:List Cl):List Nat:=(nO l).flatten
noncomputable def xI (m g:List Cl->List zh) (l:List Cl):List zh:=yB (AN l) l.length (yI (m (zK l)) (ye g l))
theorem cN:∀{g:List (List Rat)} {m:List (List Nat)},g.map List.length=m.map List.length->∀{k:Nat} {V:List Rat} {L:List Nat},g[k]? =some V->m[k]? =some L->(q,i)∈V.zip L->(q,i)∈g.flatten.zip m.flatten
 |[],m,_,k,V,L,h,_,_=>by simp at h
 |V'::g,[],h,_,_,_,_,_,_=>by simp at h
 |V'::g,L'::m,h,k,V,L,h1,h2,h3=>by
  rw [Qk,Qk] at h;have p:V'.length=L'.length:=by injection h
  have ht:g.map List.length=m.map List.length:=by injection h
  rw [TY,TY,List.zip_append p]
  cases k with
  |zero=>
   cases h1;cases h2;exact jai _ h3
  |succ k=>exact QG _ (cN ht ‹h1› ‹h2› h3)
def JN {pl:List Nat} {V v:List Rat} (g:V.length=pl.length) (h:∀(q:Rat) (i:Nat),(q,i)∈V.zip pl->v[i]? =some q):zX 0 pl v=V:=by
 apply Tg
 intro j;unfold zX;rw [Qg]
 cases e:pl[j]? with
 |none=>
  have:=jbk.mp e;rw [QD ⋯];rfl
 |some i=>
  have jl:=(Qd.mp e).1;have f:=Qb (l:=V) (i:=j) ⋯;have:=h V[j] i (Qc (i:=j) (by rw [Tr];exact ⟨f,e⟩));show some (v.getD i 0)=_;rw [Ql,this,f];rfl
section
variable {l:List Cl} {fa fb:List Cl->List zh}
theorem kq (l:List Cl):∀m:List Int,m.Pairwise (·<·)->(m.map λg=>zR (zC g) l).flatten.Nodup
 |[],_=>List.nodup_nil
 |g::m,h=>by
  obtain ⟨u,t⟩:=Qo.mp h;rw [Qk,TY,List.nodup_append];refine ⟨(Zv _ l).nd,kq l m t,λi p j r e=>?_⟩;subst e;obtain ⟨L,s,y⟩:=List.mem_flatten.mp r;obtain ⟨g',w,rfl⟩:=Qi.mp s;have lt:=(Zv _ l).lt i p;have q:=Qb lt;have A:=Qw ((Yr q).mp p);have z:=Qw ((Yr q).mp y);have:=u g' w;lia
def mF (l:List Cl):Pls l.length (AN l):=⟨kq l _ (zU l).1,λi g=>by
 obtain ⟨L,m,p⟩:=List.mem_flatten.mp g;obtain ⟨g',q,rfl⟩:=Qi.mp m
 exact (Zv _ l).lt i p⟩
def xK (l:List Cl):(zK l).length=(zF l).length:=Qa _
def YC (f:List Cl->List zh) (l:List Cl):(ye f l).length=(zF l).length:=Qa _
def uZ {k:Nat} {g:Int} (m:(zF l)[k]? =some g):(amQ (zK l))[k]? =some (zH (amQ (l.filter (zC g)))):=by
 unfold amQ zK;rw [Qm,Qg,m];show some (((amV (l.filter (zC g))).sum:Int):Rat)=_;rw [<-xh];rfl
def UI (ha:Ful (zK l).length (zH (amQ (zK l))) (amQ (zK l)) (fa (zK l))) (q:∀g∈zF l,Ful (l.filter (zC g)).length (zH (amQ (l.filter (zC g)))) (amQ (l.filter (zC g))) (fb (l.filter (zC g)))):Nest (fa (zK l)) (ye fb l):=by
 have e:(ye fb l).length=(zK l).length:=by rw [xK,YC]
 refine ⟨by rw [e];exact ha.pm,by rw [e];exact ha.std.cons,λk Q m=>?_⟩;unfold ye at m;obtain ⟨g,p,rfl⟩:=zN m;have h:=q g (Qc p);obtain ⟨r,s⟩:=h.std.cons;refine ⟨_,r,s,h.pm,?_⟩;rw [ha.std.lastC,h.std.lastC];exact uZ p
def gF (m:∀g∈zF l,Ful (l.filter (zC g)).length (zH (amQ (l.filter (zC g)))) (amQ (l.filter (zC g))) (fb (l.filter (zC g)))):(AN l).length=nQ (ye fb l):=by
 unfold AN nO ye;generalize zF l=p at*
 induction p with
 |nil=>rfl
 |cons g p q=>
  rw [Qk,TY,QA,q λg' t=>m g' (Qf _ t),Qk,nQ,xH];obtain ⟨r,s⟩:=(m g (Qe ..)).std.cons;rw [s]
  congr 1
  show _=(List.replicate _ (0:Rat)).length;rw [QF]
def jW (r:∀g∈zF l,Ful (l.filter (zC g)).length (zH (amQ (l.filter (zC g)))) (amQ (l.filter (zC g))) (fb (l.filter (zC g)))) {ps:List Rat} (t:ps.length=(zF l).length) {k:Nat} {g:Int} {p:Rat} (m:(zF l)[k]? =some g) (hp:ps[k]? =some p):
 zX 0 (zR (zC g) l) (yh (AN l) l.length (yW (ye fb l) ps))=zg (fb (l.filter (zC g))) p:=by
 have s:(List.zipWith zg (ye fb l) ps).map List.length=(nO l).map List.length:=by
  apply Tg
  intro j;unfold ye nO;rw [Qg,Qg,Qg,Qr,Qg]
  cases e:(zF l)[j]? with
  |none=>rfl
  |some g'=>
   have jl:=(Qd.mp e).1;rw [Qb ⋯];show some (zg (fb (l.filter (zC g'))) ps[j]).length=some (zR (zC g') l).length;rw [(r g' (Qc e)).std.len,xH]
 have fl:(yW (ye fb l) ps).length=(AN l).length:=by
  unfold yW AN;rw [List.length_flatten,List.length_flatten,s]
 refine JN ?_ λq i hm=>?_
 ·rw [(r g (Qc m)).std.len,xH]
 ·refine jK (mF l) fl ?_;refine cN s (k:=k) (V:=zg (fb (l.filter (zC g))) p) (L:=zR (zC g) l) ?_ ?_ hm
  ·unfold ye;rw [Qr,Qg,m,hp];rfl
  ·unfold nO;rw [Qg,m];rfl
def su (ha:GF a (zK l) (fa (zK l))) (hb:∀g∈zF l,GF b (l.filter (zC g)) (fb (l.filter (zC g)))):GF (.groups a b) l (xI fa fb l):=by
 have A:=λg C=>(hb g C).ful;have nest:=UI ha.ful A;have J:(ye fb l).length=(zK l).length:=by rw [xK,YC]
 have u:=ha.ful.std;have G:Std (ye fb l).length (zH (amQ (zK l))) (amQ (zK l)) (fa (zK l)):=by rw [J];exact u
 have W:=mO nest G;have Z:=gF A;have X:=mF l;have R:=W.spread X Z;have w:∀e:Rat,(zg (fa (zK l)) e).length=(zF l).length:=λe=>by rw [u.len,xK]
 have t:∀{i:Nat} {c:Cl},l[i]? =some c->c.2.2∈zF l:=λ{i c} D=>((zU l).2 _).mpr (Qi.mpr ⟨c,Qc D,rfl⟩)
 have eA:yh (AN l) l.length (yW (ye fb l) (amQ (zK l)))=amQ l:=by
  apply Tg
  intro i
  by_cases N:i<l.length
  ·have D:=Qb N;obtain ⟨k,r⟩:=Qv.mp (t D);have s:=jW A (by rw [Wy,xK]) r (uZ r);rw [(A _ (Qc r)).std.past QQ,kB] at s;unfold zX at s;have O:=List.map_inj_left.mp s i ((Yr D).mpr (Te rfl));rw [Ql,Ql] at O;have f1:=Qb (l:=yh (AN l) l.length (yW (ye fb l) (amQ (zK l)))) (i:=i) (by rw [yN];exact N);have f2:=Qb (by rw [Wy];exact N);rw [f1,f2] at O;rw [f1,f2];exact congrArg some O
  ·rw [QD (by rw [yN];lia),QD (by rw [Wy];lia)]
 have eT:zH (amQ (zK l))=zH (amQ l):=by
  rw [<-eA];exact (R.std.ok _ (jaj R.std.last)).2.symm
 have K:=R;rw [eA,eT] at K;refine ⟨⟨K.std,λe h0=>?_⟩,K⟩;rw [show zg (xI fa fb l) e=zg (xI fa fb l) (mn e (zH (amQ l))) from K.std.clip]
 have m0:0<=mn e (zH (amQ l)):=by
  have:=K.std.T0;unfold mn
  split<;>grind
 have m1:mn e (zH (amQ l))<=zH (amQ l):=by unfold mn;split<;>grind
 generalize mn e (zH (amQ l))=x at*;have Y:x<=(lastC (fa (zK l))).1:=by rw [u.lastC];show x<=zH (amQ (zK l));rw [eT];exact m1
 have ev:zg (xI fa fb l) x=yh (AN l) l.length (yW (ye fb l) (zg (fa (zK l)) x)):=by
  unfold xI;rw [W.std.spreadE X Z,nest.at m0 Y]
 have MQ:(zg (xI fa fb l) x).length=l.length:=by rw [ev,yN]
 have pick:∀{k:Nat} {g:Int} {p:Rat},(zF l)[k]? =some g->(zg (fa (zK l)) x)[k]? =some p->(zA l (zg (xI fa fb l) x)).filter (·.group=g)=zA (l.filter (zC g)) (zg (fb (l.filter (zC g))) p):=λ{k g p} C hp=>by
  rw [YS (p:=zC g) _ (λc x=>rfl) MQ,ev,jW A (w x) C hp]
 have m:∀{k:Nat} {g:Int} {p:Rat},(zF l)[k]? =some g->(zg (fa (zK l)) x)[k]? =some p->0<=p/\p<=zH (amQ (l.filter (zC g))):=λ{k g p} C hp=>by
  have hQ:(ye fb l)[k]? =some (fb (l.filter (zC g))):=by unfold ye;rw [Qg,C];rfl
  have:=nest.range m0 Y hQ hp;rw [(A g (Qc C)).std.lastC] at this;exact this
 have fits:∀g,yL b ((zA l (zg (xI fa fb l) x)).filter (·.group=g)):=λg=>by
  by_cases z:g∈zF l
  ·obtain ⟨k,r⟩:=Qv.mp z;have hp:=Qb (l:=zg (fa (zK l)) x) (i:=k) (by rw [w];exact (Qd.mp r).1);rw [pick r hp];exact (hb g z).good.fit _ (m r hp).1
  ·rw [List.filter_eq_nil_iff.mpr λy M hd=>?_]
   ·exact Yb b
   ·obtain ⟨i,c,q,D,_,rfl⟩:=xi M;have s:c.2.2=g:=Qw hd;exact z (by rw [<-s];exact t D)
 refine ⟨λy M=>(fits y.group).inQ y (Tb.mpr ⟨M,Te rfl⟩),fits,?_⟩
 have eg:xJ (zA l (zg (xI fa fb l) x))=zF l:=by
  have:(zA l (zg (xI fa fb l) x)).map (·.group)=l.map (·.2.2):=by
   unfold zA;rw [jbe]
   apply Tg
   intro i;rw [Qr,Qg]
   cases s:l[i]? with
   |none=>rfl
   |some c=>
    have L:=(Qd.mp s).1;rw [Qb (by rw [MQ];exact L)];rfl
  exact xZ (xm _).1 (zU l).1 λk=>by rw [(xm _).2,this,(zU l).2]
 have es:VV (zA l (zg (xI fa fb l) x))=zA (zK l) (zg (fa (zK l)) x):=by
  unfold VV;rw [eg]
  apply Tg
  intro k;unfold zA zK;rw [Qg,Qr,Qg]
  cases r:(zF l)[k]? with
  |none=>rfl
  |some g=>
   obtain ⟨p,hp⟩:∃p,(zg (fa (zK l)) x)[k]? =some p:=⟨_,Qb (by rw [w];exact (Qd.mp r).1)⟩;have MB:=hp;unfold zK at MB;rw [MB];have I:=pick r hp;unfold zA at I;have U:=m r hp;have sb:=(A g (Qc r)).std;have ls:=sb.len (e:=p);have T:=Zs ls;have P:=Zr ls;unfold zA at T P;show some (Row.mk _ _ _ _)=some (yO (AO g (l.filter (zC g))) _);rw [I,T,P,sb.sum U.1]
   congr 1
   have e4:mn p (zH (amQ (l.filter (zC g))))=p:=by unfold mn;rw [QH U.2]
   have e5:(List.zipWith yO (l.filter (zC g)) (zg (fb (l.filter (zC g))) p)).map (·.rank)=(l.filter (zC g)).map (·.2.1):=by
    rw [jbe]
    apply Tg
    intro i;rw [Qr,Qg]
    cases s:(l.filter (zC g))[i]? with
    |none=>rfl
    |some c=>
     have L:=(Qd.mp s).1;rw [Qb (by rw [ls];exact L)];rfl
   rw [e4,e5,xh];rfl
 rw [es];exact ha.good.fit x m0
end
noncomputable def zQ:Rl->List Cl->List zh
 | .shares,l=>shP (amV l)
 | .evenly,l=>evP (amV l) (lvV (amV l))
 | .losses,l=>loP (amV l) (lvV (amV l))
 | .halves,l=>yv (hvP (amV l) (lvV (amV l)))
 | .other r,l=>yA (zQ r l)
 | .ranks r,l=>Ua (λl=>zQ r l) l
 | .groups a b,l=>xI (λl=>zQ a l) (λl=>zQ b l) l
 | .upto t b x y,l=>WM (Rat.divInt t b) (zQ x l) (zQ y l)
def POk:Rl->Prop
 | .other r=>POk r
 | .upto t b x y=>Vt t b/\POk x/\POk y
 | .ranks r=>POk r
 | .groups a b=>POk a/\POk b
 |_=>True
def xn {l:List Cl} (nn:∀c∈l,0<=c.1) (p:Cl->Bool):∀c∈l.filter p,0<=c.1:=λc g=>nn c (Tb.mp g).1
def Yg (nn:∀c∈l,0<=c.1):∀a∈amV l,0<=a:=λa ha=>by
 obtain ⟨c,g,rfl⟩:=Qi.mp ha;exact nn c g
def kM {l:List Cl} (nn:∀c∈l,0<=c.1):∀c∈zK l,0<=c.1:=λc m=>by
 obtain ⟨g,_,rfl⟩:=Qi.mp m;exact VY (Yg (xn nn _))
theorem yZ:∀{r:Rl} {l:List Cl},POk r->(∀c∈l,0<=c.1)->GF r l (zQ r l)
 | .shares,l,_,nn=>⟨gX (Yg nn),Am (Yg nn)⟩
 | .evenly,l,_,nn=>⟨Wv (Vj (Yg nn)),VJ (Vj (Yg nn))⟩
 | .losses,l,_,nn=>⟨gY (Vj (Yg nn)),ko (Vj (Yg nn))⟩
 | .halves,l,_,nn=>⟨sr (Vj (Yg nn)),An (Vj (Yg nn))⟩
 | .other r,l,h,nn=>⟨(yZ (r:=r) h nn).good.other,(yZ (r:=r) h nn).ful.turned⟩
 | .ranks r,l,h,nn=>Ag λk _=>yZ h (xn nn _)
 | .groups a b,l,h,nn=>su (yZ h.1 (kM nn)) λg _=>yZ h.2 (xn nn _)
 | .upto t b x y,l,h,nn=>⟨Good.upto rfl (UH h.1).1 (UH h.1).2 nn (yZ h.2.1 nn).good (yZ h.2.2 nn).good,uK (UH h.1).1 (UH h.1).2 (yZ h.2.1 nn).ful (yZ h.2.2 nn).ful⟩
def DQ (d:Nat) (x:Rat):Prop:=∃D:Int,(0<D/\D<=2 ^ d)/\Yy D x
def DC (d:Nat) (c:zh):Prop:=DQ d c.1/\∀x∈c.2,DQ d x
def DP (d:Nat) (P:List zh):Prop:=∀c∈P,DC d c
def aq {a b:Int} {m n:Nat} (ha:0<a/\a<=2 ^ m) (g:0<b/\b<=2 ^ n):0<a*b/\a*b<=2 ^ (m+n):=by
 refine ⟨Int.mul_pos ha.1 g.1,?_⟩;rw [Int.pow_add];exact Int.mul_le_mul ha.2 g.2 (jbp g.1) (jaL (jbp ha.1) ha.2)
def JL {m n:Nat} (h:m<=n):(2:Int) ^ m<=2 ^ n:=by
 have:=Nat.pow_le_pow_right (n:=2) nofun h;have e:∀k:Nat,(2:Int) ^ k=((2 ^ k:Nat):Int):=λk=>by rw [jbY];rfl
 rw [e,e];exact Int.ofNat_le.mpr this
section
variable {d d' t:Nat} {x y:Rat} {T:Int}
def DQ.mono (h:DQ d x) (hd:d<=d'):DQ d' x:=by
 obtain ⟨D,⟨p,m⟩,g⟩:=h;exact ⟨D,⟨p,jaL m (JL hd)⟩,g⟩
def DQ.int (n:Int):DQ 0 (n:Rat):=⟨1,⟨nofun,nofun⟩,Yy.int n 1⟩
def DQ.zero:DQ 0 0:=DQ.int 0
def DQ.add (h:DQ d x) (g:DQ d' y):DQ (d+d') (x+y):=by
 obtain ⟨D,p,q⟩:=h;obtain ⟨E,m,g3⟩:=g;exact ⟨D*E,aq p m,(q.mul E).add (g3.mulL D)⟩
def DQ.sub (h:DQ d x) (g:DQ d' y):DQ (d+d') (x - y):=by
 obtain ⟨D,p,q⟩:=h;obtain ⟨E,m,g3⟩:=g;exact ⟨D*E,aq p m,(q.mul E).sub (g3.mulL D)⟩
def DP.mono {P:List zh} (h:DP d P) (hd:d<=d'):DP d' P:=λc g=>⟨(h c g).1.mono hd,λx m=>((h c g).2 x m).mono hd⟩
def DQ.mix {Y X U M db:Nat} {e a b:Rat} (he:DQ Y e) (K:DQ X x) (J:DQ U y) (ha:DQ M a) (L:DQ db b) (Nd:a<b) (a0:0<=a) (bT:b<=(T:Rat)) (hT:T<=2 ^ t):DQ (Y+X+(U+(t+(M+db)))) (Zm ((e - a) / (b - a)) x y):=by
 have line:=xl (x:=x) (y:=y) (E:=e) Nd;generalize Zm ((e - a) / (b - a)) x y=m at*;obtain ⟨I,pe,ke,he⟩:=he;obtain ⟨O,Z,P,K⟩:=K;obtain ⟨G,py,ky,J⟩:=J;obtain ⟨Da,pa,g,ha⟩:=ha;obtain ⟨Db,pb,q,L⟩:=L
 have D:(b - a)*((Da*Db:Int):Rat)=((q*Da - g*Db:Int):Rat):=by
  rw [jaZ,QP,QP,QP,<-ha,<-L];grind
 have A:=aq pa pb;have p:=Yd A.1
 have T0:0<T:=by
  have:(0:Rat)<(T:Rat):=by grind
  exact Int.not_le.mp λz=>by
   have:=QK.mpr z
   grind
 have N0:0<q*Da - g*Db:=by
  have:(0:Rat)<((q*Da - g*Db:Int):Rat):=by rw [<-D];exact jbt (by grind) p
  exact Int.not_le.mp λz=>by
   have:=QK.mpr z
   grind
 have NT:q*Da - g*Db<=T*(Da*Db):=by
  apply Vr
  rw [<-D,QP T];exact Zy (by grind) (QE p)
 have pN:0<q*Da - g*Db/\q*Da - g*Db<=2 ^ (t+(M+db)):=⟨N0,jaL NT (aq ⟨T0,hT⟩ A).2⟩;generalize q*Da - g*Db=N at*;refine ⟨I*O*(G*N),aq (aq pe Z) (aq py pN),P*(I*G*N)+(ke*Da - g*I)*(ky*O - P*G)*Db,?_⟩;simp only [QP,jaZ,Rat.intCast_add] at D⊢;rw [<-he,<-K,<-J,<-ha,<-D];generalize (I:Rat)=w at*;generalize (O:Rat)=u at*;generalize (G:Rat)=s at*;generalize (Da:Rat)=r at*;generalize (Db:Rat)=C at*;have:m*(w*u*(s*((b - a)*(r*C)))) - (x*u*(w*s*((b - a)*(r*C)))+(e*w*r - a*r*w)*(y*s*u - x*u*s)*C)=w*u*s*r*C*((m - x)*(b - a) - (e - a)*(y - x)):=by grind
 rw [line] at this
 grind
theorem bI {m u:Nat} {e:Rat} (he:DQ u e) (s:T<=2 ^ t):∀{P:List zh},yx P->(∀c∈P,0<=c.1/\c.1<=(T:Rat))->DP d P->∀x∈zg P e,DQ (u+4*d+t) x
 |[],_,_,_,x,hx=>by simp [zg] at hx
 |[c],_,_,h,x,hx=>((h c (Qe ..)).2 x hx).mono ⋯
 |c::f::r,hr,rg,h,x,hx=>by
  rw [zg] at hx
  split at hx
  ·obtain ⟨i,z⟩:=Qv.mp hx;obtain ⟨p,q,hp,w,rfl⟩:=Xf z;have g:=h c (Qe ..);have hd:=h f (Qf _ (Qe ..));have lt:=(Qo.mp hr).1 f (Qe ..);exact (DQ.mix he (g.2 p (Qc hp)) (hd.2 q (Qc w)) g.1 hd.1 lt (rg c (Qe ..)).1 (rg f (Qf _ (Qe ..))).2 s).mono ⋯
  ·exact bI (m:=m) he s (Qo.mp hr).2 (λc g=>rg c (Qf _ g)) (λc g=>h c (Qf _ g)) x hx
def Nest.den {P:List zh} {Qs:List (List zh)} {a b:Nat} (h:Nest P Qs) (ha:DP a P) (hb:∀Q∈Qs,DP b Q) (hl:(lastC P).1<=(T:Rat)) (N:T<=2 ^ t) {e:Rat} (he:e∈wpV P Qs):DQ (b+4*a+t) e/\∀p∈zg P e,DQ (b+4*a+t) p:=by
 rcases h.mem.mp he with ⟨c,w,rfl⟩|⟨k,Q,D,c,w,hr⟩
 ·refine ⟨(ha c w).1.mono ⋯,λp hp=>?_⟩;have pm:=h.pm;obtain ⟨r,z⟩:=h.p0;rw [z] at pm hp w;rw [yk pm.t w] at hp;exact ((ha c (by rw [z];exact w)).2 p hp).mono ⋯
 ·have O:=(hb Q (Qc D) c w).1;have h0:=(h.qpos D c w).1;have pm:=h.pm;have X:k<Qs.length:=(Qd.mp D).1
  have le:∀g∈P,∀(i:Nat) (x:Rat),g.2[i]? =some x->0<=x/\x<=(T:Rat):=λg C i x hx=>by
   have s:=pm.sums g C
   have A:zg P g.1=g.2:=by
    obtain ⟨r,z⟩:=h.p0;rw [z] at C pm⊢;exact yk pm.t C
   have mem:g.1∈wpV P Qs:=h.mem.mpr (.inl ⟨g,C,rfl⟩);have M:=h.in_range mem
   have nn:∀q∈g.2,0<=q:=λq hq=>by
    obtain ⟨j,u⟩:=Qv.mp hq;have jl:j<Qs.length:=by rw [<-pm.t.len g C];exact (Qd.mp u).1
    exact (h.range M.1 M.2 (Qb jl) (by rw [A];exact u)).1
   have m:=Qc hx;have:=(ZV nn).2 x m;exact ⟨nn x m,by rw [s] at this;grind⟩
  obtain ⟨r,z⟩:=h.p0;rw [z] at pm hr ha le⊢
  obtain ⟨i,g,G,x,y,g1,g2,g3,U,hxL,hLy,ee,_,_,_,ep⟩:=UG X pm (by
   rw [Ql,QX,QH X];exact h0) hr
  have z1:=ha g (Qc g1);have z2:=ha G (Qc g2);have L:=le g (Qc g1) k x g3;have K:=le G (Qc g2) k y U;have J:=z1.2 x (Qc g3);have I:=z2.2 y (Qc U);have Y:x<y:=by grind
  rw [ep];refine ⟨by rw [ee];exact (DQ.mix O z1.1 z2.1 J I Y L.1 K.2 N).mono ⋯,λp hp=>?_⟩;obtain ⟨j,u⟩:=Qv.mp hp;rw [Qr] at u
  cases A:g.2[j]? with
  |none=>rw [A] at u;cases u
  |some p1=>
   cases e2:G.2[j]? with
   |none=>rw [A,e2] at u;cases u
   |some Z=>
    rw [A,e2] at u;cases u;exact (DQ.mix O (z1.2 p1 (Qc A)) (z2.2 Z (Qc e2)) J I Y L.1 K.2 N).mono ⋯
def DP.within {P:List zh} {Qs:List (List zh)} {a b:Nat} (h:Nest P Qs) (ha:DP a P) (u:∀Q∈Qs,DP b Q) (s:∀Q∈Qs,yx Q/\∀c∈Q,0<=c.1/\c.1<=(T:Rat)) (z:(lastC P).1<=(T:Rat)) (w:T<=2 ^ t):DP (5*b+4*a+2*t) (yI P Qs):=λc D=>by
 obtain ⟨i,C⟩:=Qv.mp D;obtain ⟨I,G⟩:=Nest.F_at C;obtain ⟨z1,z2⟩:=h.den ha u z w (Qc I);refine ⟨z1.mono ⋯,λx r=>?_⟩;rw [G] at r;obtain ⟨k,Q,p,A,hp,q⟩:=um r;have g:=Qc A;exact (bI (m:=0) (z2 p (Qc hp)) w (s Q g).1 (s Q g).2 (u Q g) x q).mono ⋯
def DP.spread {P:List zh} {pl:List Nat} {n m:Nat} (hp:Pls n pl) (q:∀c∈P,c.2.length=pl.length) (h:DP d P):DP d (yB pl n P):=λc u=>by
 obtain ⟨c,g,rfl⟩:=Qi.mp u;refine ⟨(h c g).1,λx p=>?_⟩;obtain ⟨i,s⟩:=Qv.mp p
 rcases Zl hp (q c g) s with ⟨j,_,r⟩|⟨_,rfl⟩
 ·exact (h c g).2 x (Qc r)
 ·exact DQ.zero.mono ⋯
def DP.keep {P:List zh} (h:DP d P):DP d (yv P):=λc g=>h c ((ZX P).subset g)
def DP.app {P p:List zh} (ne:P≠[]) (h:DP d P) (m:DC 0 (lastC P)) (g:DP d p):DP d (P++yM P p):=λc r=>by
 rcases QW.mp r with z|z
 ·exact h c z
 ·obtain ⟨f,hf,rfl⟩:=Qi.mp z;have hf:=g f (TQ hf);refine ⟨(m.1.add hf.1).mono ⋯,λx q=>?_⟩;obtain ⟨a,ha,b,s,rfl⟩:=eN q;exact ((m.2 a ha).add (hf.2 b s)).mono ⋯
def DP.turned {P:List zh} (g:DC 0 (lastC P)) (h:DP d P):DP d (yA P):=λc p=>by
 obtain ⟨f,hf,rfl⟩:=Qi.mp p;have hf:=h f (jbM.mp hf);refine ⟨(g.1.sub hf.1).mono ⋯,λx m=>?_⟩;obtain ⟨a,ha,b,q,rfl⟩:=eN m;exact ((g.2 a ha).sub (hf.2 b q)).mono ⋯
def ay (b:Int):Nat:=b.toNat.log2+1
def Hb {b:Int} (g:0<b):b<=2 ^ ay b:=by
 have:=Nat.lt_log2_self (n:=b.toNat);have e:(2:Int) ^ ay b=((2 ^ (b.toNat.log2+1):Nat):Int):=by unfold ay;rw [jbY];rfl
 rw [e];lia
def DP.upto {P K:List zh} {as:List Rat} {p b:Int} {m:Nat} {U:Rat} (J:0<b) (st:Std m U as P) (G:DC 0 (U,as)) (h:DP d P) (g:DP d K):DP (ay b+d) (WM (Rat.divInt p b) P K):=by
 have bn:b≠0:=⋯
 have I:0<b/\b<=2 ^ ay b:=⟨J,Hb J⟩
 have sc:∀{t:Int} {x:Rat},DQ d x->DQ (ay b+d) (x*Rat.divInt t b):=λ{t x} r=>by
  obtain ⟨D,s,A⟩:=r;exact ⟨b*D,aq I s,A.port bn⟩
 have N:∀{x:Rat},DQ 0 x->Yy 1 x:=λ{x} r=>by
  obtain ⟨D,s,A⟩:=r;have:D=1:=by have:=s.2;have:=s.1;lia
  rwa [this] at A
 have M:lastC (yd (Rat.divInt p b) P)=(U*Rat.divInt p b,Ub (Rat.divInt p b) as):=by
  unfold lastC yd;rw [jaF,st.last];rfl
 have both:∀{x y:Rat} {t:Int},DQ 0 x->DQ d y->DQ (ay b+d) (x*Rat.divInt p b+y*Rat.divInt t b):=λ{x y t} r hy=>by
  obtain ⟨D,s,A⟩:=hy;have w:=(N r).port (t:=p) bn;rw [jbN] at w;exact ⟨b*D,aq I s,(w.mul D).add (A.port bn)⟩
 unfold WM;refine DP.keep λc X=>?_
 rcases QW.mp X with z|z
 ·obtain ⟨f,hf,rfl⟩:=Qi.mp z;refine ⟨sc (h f hf).1,λx r=>?_⟩;obtain ⟨a,ha,rfl⟩:=Qi.mp r;exact sc ((h f hf).2 a ha)
 ·obtain ⟨f',C,rfl⟩:=Qi.mp z;have u:=TQ C;obtain ⟨f,hf,rfl⟩:=Qi.mp u;rw [M,JR bn];refine ⟨both G.1 (g f hf).1,λx r=>?_⟩;obtain ⟨a,ha,q,O,rfl⟩:=eN r;obtain ⟨Y,Z,rfl⟩:=Qi.mp ha;obtain ⟨L,Ng,rfl⟩:=Qi.mp O;exact both (G.2 Y Z) ((g f hf).2 L Ng)
end
def XX (t:Nat):Rl->Nat
 | .halves=>2
 | .other r=>XX t r
 | .ranks r=>XX t r
 | .groups a b=>5*XX t b+4*XX t a+2*t
 | .upto _ b x y=>ay b+max (XX t x) (XX t y)
 |_=>0
def Xe (h:List Int):DC 0 (yg h):=⟨DQ.int _,λx g=>by
 obtain ⟨a,_,rfl⟩:=Qi.mp g
 exact DQ.int a⟩
def sE (l:List Cl):DC 0 (zH (amQ l),amQ l):=by rw [<-eO];exact Xe _
theorem DA {x:Int} {w:Int}:∀{p:List Int},p.Pairwise (·<·)->(p.map λg=>if x=g then w else 0).sum=if x∈p then w else 0
 |[],_=>by simp
 |g::p,h=>by
  obtain ⟨r,q⟩:=Qo.mp h;rw [Qk,QR,DA q]
  by_cases e:x=g
  ·have:x∉p:=λz=>by have:=r x z;lia
   rw [QH e,QS this,QH (by rw [e];exact Qe ..)];lia
  ·rw [QS e]
   by_cases z:x∈p
   ·rw [QH z,QH (Qf _ z)];lia
   ·rw [QS z,QS (λm=>(Qn.mp m).elim e z)];lia
theorem Bn (f g:Int->Int):∀m:List Int,(m.map λk=>f k+g k).sum=(m.map f).sum+(m.map g).sum
 |[]=>rfl
 |k::m=>by rw [Qk,Qk,Qk,QR,QR,QR,Bn f g m];lia
theorem kO (key w:Cl->Int) {m:List Int} (q:m.Pairwise (·<·)):∀l:List Cl,(∀c∈l,key c∈m)->(m.map λg=>((l.filter λc=>decide (key c=g)).map w).sum).sum=(l.map w).sum
 |[],_=>by
  show (m.map λ_=>(0:Int)).sum=0
  induction m with
  |nil=>rfl
  |cons g m p=>rw [Qk,QR,p (Qo.mp q).2 λc s=>absurd s Qp];rfl
 |c::l,h=>by
  have p:=kO key w q l λx r=>h x (Qf _ r)
  have e:(m.map λg=>(((c::l).filter λc=>decide (key c=g)).map w).sum)=m.map λg=>(if key c=g then w c else 0)+((l.filter λc=>decide (key c=g)).map w).sum:=by
   refine QC λg _=>?_;rw [jbw]
   by_cases z:key c=g
   ·rw [QH z,QH (Te z),Qk,QR]
   ·rw [QS z,QS (by rw [TF z];decide)];lia
  rw [e,Bn,DA q,QH (h c (Qe ..)),p,Qk,QR]
def dR (l:List Cl):(amV (zK l)).sum=(amV l).sum:=by
 have:=kO (·.2.2) (·.1) (zU l).1 l λc m=>((zU l).2 _).mpr (Qi.mpr ⟨c,m,rfl⟩);unfold zK
 have e:amV ((zF l).map λg=>AO g (l.filter (zC g)))=(zF l).map λg=>((l.filter λc=>decide (c.2.2=g)).map (·.1)).sum:=by
  unfold amV;rw [Qm];rfl
 rw [e,this];rfl
def XQ {l:List Cl} (nn:∀c∈l,0<=c.1) (p:Cl->Bool):(amV (l.filter p)).sum<=(amV l).sum:=by
 induction l with
 |nil=>exact jbF _
 |cons c l g=>
  have g:=g λx m=>nn x (Qf _ m);have h0:=nn c (Qe ..);have e:(amV (c::l)).sum=c.1+(amV l).sum:=by unfold amV;rw [Qk,QR]
  rw [jbw]
  split
  ·have q:(amV (c::l.filter p)).sum=c.1+(amV (l.filter p)).sum:=by unfold amV;rw [Qk,QR]
   rw [e,q];lia
  ·rw [e];lia
theorem BQ {r:Rl} {l:List Cl} {f:List Cl->List zh} {d:Nat}:∀(g done:List Int) (P:List zh),RkI r l done P->(done++g).Pairwise (·<·)->(∀k∈g,GF r (l.filter (zM k)) (f (l.filter (zM k)))/\DP d (f (l.filter (zM k))))->DP d P->DP d (g.foldl (ZE f l) P)
 |[],done,P,h,_,_,hd=>hd
 |k::g,done,P,h,hp,hf,hd=>by
  have e:done++k::g=done++[k]++g:=by rw [jah];rfl
  rw [e] at hp;rw [List.foldl_cons];have s:=hf k (Qe ..);refine BQ g (done++[k]) _ (h.step (λq t=>?_) s.1) hp (λq t=>hf q (Qf _ t)) ?_
  ·exact (TN.mp (TN.mp hp).1).2.2 q t k (jaT _)
  ·refine DP.keep (DP.app h.ful.std.ne hd ?_ (DP.spread (m:=0) (Zv _ l) (λc y=>by rw [(s.1.ful.std.ok c y).1,xH]) s.2));rw [h.ful.std.lastC]
   have u:∀x∈asD done l,DQ 0 x:=λx p=>by
    unfold asD at p;obtain ⟨c,_,rfl⟩:=Qi.mp p
    split
    ·exact DQ.int _
    ·exact DQ.zero
   refine ⟨?_,u⟩
   have:∀{v:List Rat},(∀x∈v,DQ 0 x)->DQ 0 (zH v):=by
    intro v
    induction v with
    |nil=>intro _;rw [zH];exact DQ.zero
    |cons a v w=>
     intro h;rw [zH];exact (h a (Qe ..)).add (w λx p=>h x (Qf _ p))
   exact this u
theorem YT {t:Nat}:∀{r:Rl} {l:List Cl},POk r->(∀c∈l,0<=c.1)->(amV l).sum<=2 ^ t->DP (XX t r) (zQ r l)
 | .shares,l,_,_,_=>λc q=>by
   simp only [zQ,shP] at q
   split at q
   ·rw [Qq.mp q];exact Xe _
   ·rcases Qn.mp q with rfl|q
    ·exact Xe _
    ·rw [Qq.mp q];exact Xe _
 | .evenly,l,_,_,_=>λc q=>by
   obtain ⟨z,_,rfl⟩:=Qi.mp q;exact Xe _
 | .losses,l,_,_,_=>λc q=>by
   obtain ⟨z,_,rfl⟩:=Qi.mp q;exact Xe _
 | .halves,l,_,nn,_=>by
   have ge:DP 0 (evP (amV l) (lvV (amV l))):=λc q=>by
    obtain ⟨z,_,rfl⟩:=Qi.mp q;exact Xe _
   have gl:DP 0 (loP (amV l) (lvV (amV l))):=λc q=>by
    obtain ⟨z,_,rfl⟩:=Qi.mp q;exact Xe _
   have st:=(VJ (Vj (Yg nn))).std;have:=DP.upto (p:=1) (b:=2) nofun st (sE l) ge gl;have J:Rat.divInt 1 2=(1:Rat) / 2:=by decide+kernel
   have I:WM (1 / 2) (evP (amV l) (lvV (amV l))) (loP (amV l) (lvV (amV l)))=yv (hvP (amV l) (lvV (amV l))):=by
    unfold WM;rw [show (1:Rat) - 1 / 2=1 / 2 by decide+kernel];rfl
   rw [J,I] at this;exact this.mono (by show ay 2+0<=2;decide)
 | .other r,l,h,nn,s=>by
   have g:=(yZ (r:=r) h nn).ful.std;refine DP.turned ?_ (YT (r:=r) h nn s);rw [g.lastC];exact sE l
 | .ranks r,l,h,nn,s=>by
   refine BQ (r:=r) (zS l) [] _ RkI.nil (by rw [jaI];exact (yH l).1) (λk _=>⟨yZ (r:=r) h (xn nn _),YT (r:=r) h (xn nn _) (jaL (XQ nn _) s)⟩) λc q=>?_;rw [Qq.mp q];refine ⟨DQ.zero.mono ⋯,λx G=>?_⟩;rw [List.eq_of_mem_replicate G];exact DQ.zero.mono ⋯
 | .groups a b,l,h,nn,s=>by
   have ga:=yZ h.1 (kM nn);have A:=λ(g:Int) (_:g∈zF l)=>yZ h.2 (xn nn (zC g));have nest:=UI ga.ful λg u=>(A g u).ful;have K:=YT h.1 (kM nn) (by rw [dR];exact s);have W:=mO nest (by rw [YC,<-xK];exact ga.ful.std);have D:=gF λg u=>(A g u).ful;refine DP.spread (m:=0) (mF l) (λc q=>by rw [(W.std.ok c q).1,D]) (DP.within (T:=(amV l).sum) nest K (λQ w=>?_) (λQ w=>?_) ?_ s)
   ·obtain ⟨g,u,rfl⟩:=Qi.mp w;exact YT h.2 (xn nn _) (jaL (XQ nn _) s)
   ·obtain ⟨g,u,rfl⟩:=Qi.mp w;have st:=(A g u).ful.std;refine ⟨st.rise,λc q=>?_⟩;have C:=st.range q;have:=QK.mpr (XQ nn (zC g));rw [<-xh] at this;exact ⟨C.1,TL C.2 this⟩
   ·rw [ga.ful.std.lastC];show zH (amQ (zK l))<=_;rw [xh,dR];exact QQ
 | .upto t' b x y,l,h,nn,s=>by
   have st:=(yZ h.2.1 nn).ful.std;exact DP.upto (by have:=h.1.2.1;have:=h.1.2.2.1;lia) st (sE l) ((YT h.2.1 nn s).mono (Nat.le_max_left ..)) ((YT h.2.2 nn s).mono (Nat.le_max_right ..))
def Vk:Rl->Nat
 | .halves=>2
 | .other r=>Vk r
 | .ranks r=>Vk r
 | .groups a b=>Vk a+Vk b+1
 | .upto _ _ x y=>Vk x+Vk y
 |_=>1
theorem uU (f:Int->Nat):∀g:List Int,(((g.map f).sum:Nat):Int)=(g.map λk=>(f k:Int)).sum
 |[]=>rfl
 |k::g=>by rw [Qk,QR,Qk,QR,<-uU f g];lia
theorem mJ {α:Type}:∀l:List α,(l.map λ_=>(1:Int)).sum=(l.length:Nat)
 |[]=>rfl
 |a::l=>by rw [Qk,QR,mJ l,Qy];lia
def eB (key:Cl->Int) {m:List Int} (p:m.Pairwise (·<·)) (l:List Cl) (h:∀c∈l,key c∈m):(m.map λg=>(l.filter λc=>decide (key c=g)).length).sum=l.length:=by
 have:=kO key (λ_=>1) p l h;rw [mJ] at this;have e:=uU (λg=>(l.filter λc=>decide (key c=g)).length) m;have q:(m.map λg=>(((l.filter λc=>decide (key c=g)).length:Nat):Int))=m.map λg=>((l.filter λc=>decide (key c=g)).map λ_=>(1:Int)).sum:=QC λg _=>(mJ _).symm;rw [q,this] at e;lia
def GZ (f:List Cl->List zh) (l:List Cl) (P:List zh) (k:Int):(ZE f l P k).length<=P.length+((f (l.filter (zM k))).length - 1):=by
 unfold ZE;refine Tc (ZX _).length_le ?_;unfold yM yB;simp only [QA,Qa,jaQ];lia
theorem mW:∀(g:List Int) (P:List zh),(∀k∈g,(f (l.filter (zM k))).length<=c*(l.filter (zM k)).length+1)->(g.foldl (ZE f l) P).length<=P.length+c*(g.map λk=>(l.filter (zM k)).length).sum
 |[],P,_=>by simp
 |k::g,P,h=>by
  have s:=mW g (ZE f l P k) λm p=>h m (Qf _ p);have r:=GZ f l P k;have q:=h k (Qe ..);rw [List.foldl_cons,Qk,QR,Nat.mul_add];lia
theorem Dp:∀{Qs:List (List zh)} {k:Nat} {M:List Rat},(wpF P k Qs M).length<=M.length+(Qs.map List.length).sum
 |[],k,M=>by rw [wpF];simp
 |Q::Qs,k,M=>by
  rw [wpF];have p:=Dp (P:=P) (Qs:=Qs) (k:=k+1) (M:=yC M (Xb P k Q));have m:=av M (Xb P k Q)
  have g:(Xb P k Q).length<=Q.length:=by
   unfold Xb;have:=jbo (xk P k) (yi Q);unfold yi at this⊢;rw [Qa] at this;lia
  rw [Qk,QR];lia
theorem uv:∀m:List Int,(∀k∈m,f k<=c*g k+1)->(m.map f).sum<=c*(m.map g).sum+m.length
 |[],_=>by simp
 |k::m,h=>by
  have s:=uv m λp q=>h p (Qf _ q);have r:=h k (Qe ..);rw [Qk,QR,Qk,QR,Qy,Nat.mul_add];lia
theorem kd:∀m:List Int,(∀k∈m,1<=g k)->m.length<=(m.map g).sum
 |[],_=>by simp
 |k::m,h=>by
  have s:=kd m λp q=>h p (Qf _ q);have r:=h k (Qe ..);rw [Qk,QR,Qy];lia
def XM (m:g∈zF l):1<=(l.filter (zC g)).length:=by
 obtain ⟨c,p,rfl⟩:=Qi.mp (((zU l).2 g).mp m);exact jbb (Tb.mpr ⟨p,Te rfl⟩)
def fX (m:g∈zS l):1<=(l.filter (zM g)).length:=by
 obtain ⟨c,p,rfl⟩:=Qi.mp (((yH l).2 g).mp m);exact jbb (Tb.mpr ⟨p,Te rfl⟩)
def YE (l:List Cl):(zF l).length<=l.length:=by
 have q:=eB (·.2.2) (zU l).1 l λc m=>((zU l).2 _).mpr (Qi.mpr ⟨c,m,rfl⟩);have p:=kd (zF l) λk g=>XM g;rw [<-q];exact p
theorem Xs:∀{r:Rl} {l:List Cl},POk r->(∀c∈l,0<=c.1)->(zQ r l).length<=Vk r*l.length+1
 | .shares,l,_,_=>by
   show (shP (amV l)).length<=1*l.length+1;unfold shP
   split
   ·simp
   ·rename_i c;have:l≠[]:=λz=>c (by rw [z];rfl);have:=jba.mpr this;simp only [Qy,List.length_nil];lia
 | .evenly,l,_,nn=>by
   have f:=(Vj (Yg nn)).few;rw [yf] at f;show (evP _ _).length<=1*l.length+1;unfold evP;rw [Qa];lia
 | .losses,l,_,nn=>by
   have f:=(Vj (Yg nn)).few;rw [yf] at f;show (loP _ _).length<=1*l.length+1;unfold loP;rw [Qa,Tu];lia
 | .halves,l,_,nn=>by
   have f:=(Vj (Yg nn)).few;rw [yf] at f;show (yv _).length<=2*l.length+1;refine Tc (ZX _).length_le ?_;unfold hvP hfA hfB yM yd evP loP;simp only [QA,Qa,jaQ,Tu];lia
 | .other r,l,h,nn=>by
   show (yA _).length<=Vk r*l.length+1;unfold yA;rw [Qa,Tu];exact Xs (r:=r) h nn
 | .ranks r,l,h,nn=>by
   have q:=mW (f:=λl=>zQ r l) (l:=l) (c:=Vk r) (zS l) (kL l.length) λk _=>Xs (r:=r) h (xn nn _);have m:=eB (·.2.1) (yH l).1 l λc p=>((yH l).2 _).mpr (Qi.mpr ⟨c,p,rfl⟩);have e:((zS l).map λk=>(l.filter (zM k)).length).sum=l.length:=m;rw [e] at q;show (Ua (λl=>zQ r l) l).length<=Vk r*l.length+1;have z:(kL l.length).length=1:=rfl;unfold Ua;lia
 | .groups a b,l,h,nn=>by
   have ha:=Xs (r:=a) h.1 (kM nn);rw [xK] at ha;have G:=YE l;have m:=eB (·.2.2) (zU l).1 l λc p=>((zU l).2 _).mpr (Qi.mpr ⟨c,p,rfl⟩);have e:((zF l).map λk=>(l.filter (zC k)).length).sum=l.length:=m;have s:=uv (f:=λg=>(zQ b (l.filter (zC g))).length) (g:=λg=>(l.filter (zC g)).length) (c:=Vk b) (zF l) λk _=>Xs (r:=b) h.2 (xn nn _);rw [e] at s;have w:=Dp (P:=zQ a (zK l)) (Qs:=ye (λl=>zQ b l) l) (k:=0) (M:=yi (zQ a (zK l)))
   have eq:(ye (λl=>zQ b l) l).map List.length=(zF l).map λg=>(zQ b (l.filter (zC g))).length:=by
    unfold ye;rw [Qm];rfl
   rw [eq] at w;have pl:(yi (zQ a (zK l))).length=(zQ a (zK l)).length:=by unfold yi;rw [Qa]
   rw [pl] at w;show (xI (λl=>zQ a l) (λl=>zQ b l) l).length<=(Vk a+Vk b+1)*l.length+1;unfold xI yB yI wpV;rw [Qa,Qa];show (wpF (zQ a (zK l)) 0 (ye (λl=>zQ b l) l) (yi (zQ a (zK l)))).length<=_;have m1:=Nat.mul_le_mul_left (Vk a) G;rw [Nat.add_mul,Nat.add_mul,Nat.one_mul];lia
 | .upto t b x y,l,h,nn=>by
   have q:=Xs h.2.1 nn;have m:=Xs h.2.2 nn;show (WM _ _ _).length<=(Vk x+Vk y)*l.length+1;unfold WM;refine Tc (ZX _).length_le ?_;unfold yM yd;simp only [QA,Qa,jaQ];rw [Nat.add_mul];lia
structure ClS (t:Nat) (l:List Cl):Prop where
 pos:0<l.length
 few:l.length<=8
 nn:∀c∈l,0<=c.1/\0<=c.2.1/\0<=c.2.2
 sum:(amV l).sum<=2 ^ t
theorem XF:∀{as:List Int},(∀a∈as,0<=a)->∀a∈as,a<=as.sum
 |[],_,a,h=>absurd h Qp
 |b::as,nn,a,h=>by
  have h0:=nn b (Qe ..);have m:=VY λx g=>nn x (Qf _ g);rw [QR]
  rcases Qn.mp h with rfl|h
  ·lia
  ·have:=XF (λx g=>nn x (Qf _ g)) a h;lia
section
def Bi (h0:0<=x) (h:x<=2 ^ t):Sz (t+1) x:=by
 unfold Sz;have e:(2:Int) ^ t=((2 ^ t:Nat):Int):=by rw [jbY];rfl
 have p:0<2 ^ t:=Nat.pow_pos nofun;rw [e] at h;rw [Nat.pow_succ];lia
def ClS.n1 (h:ClS t l):∀c∈l,0<=c.1:=λc g=>(h.nn c g).1
def ClS.ok (h:ClS t l) (ht:t<=150):ClOk 160 l:=⟨h.pos,h.few,h.nn,λc g=>(Bi (h.nn c g).1 (jaL (XF (Yg h.n1) c.1 (Qi.mpr ⟨c,g,rfl⟩)) h.sum)).mono ⋯⟩
def ClS.filter (h:ClS t l) (p:Cl->Bool) (pos:1<=(l.filter p).length):ClS t (l.filter p):=⟨pos,Tc (jav _ _) h.few,λc g=>h.nn c (Tb.mp g).1,jaL (XQ h.n1 p) h.sum⟩
theorem Dg:∀{l:List Int},(∀x∈l,0<=x)->0<=jg l
 |[],_=>jbF _
 |[a],h=>h a (Qe ..)
 |a::b::l,h=>by
  have p:=h a (Qe ..);have m:=Dg λx g=>h x (Qf _ g);rw [jg]
  ·lia
  ·simp
def ClS.sums (h:ClS t l):ClS t (zK l):=by
 refine ⟨?_,by rw [xK];exact Tc (YE l) h.few,λc m=>?_,by rw [dR];exact h.sum⟩
 ·rw [xK];obtain ⟨c,m⟩:=List.exists_mem_of_length_pos h.pos;exact jbb (((zU l).2 _).mpr (Qi.mpr ⟨c,m,rfl⟩))
 ·obtain ⟨g,q,rfl⟩:=Qi.mp m;refine ⟨VY (Yg (xn h.n1 _)),Dg λx p=>?_,?_⟩
  ·obtain ⟨c,m,rfl⟩:=Qi.mp p;exact (h.nn c (Tb.mp m).1).2.1
  ·obtain ⟨c,r,rfl⟩:=Qi.mp (((zU l).2 g).mp q);exact (h.nn c r).2.2
def DQ.sz {d:Nat} {x:Rat} {T:Int} (h:DQ d x) (x0:0<=x) (m:x<=(T:Rat)) (T0:0<=T) (p:T<=2 ^ t):SzQ (t+d+2) x:=by
 obtain ⟨D,g,q⟩:=h;exact (q.sz g.1 (Bi (jbp g.1) g.2) x0 m ⟨T,rfl,Bi T0 p⟩).mono ⋯
def all_sz (h:POk r) (ok:ClS t l):∀c∈zQ r l,SzC (t+XX t r+2) c:=λc q=>by
 have g:=yZ h ok.n1;have s:=YT h ok.n1 ok.sum c q;have m:=g.good.std.range q;have pr:=g.good.parts m.1;rw [g.good.std.at_corner q] at pr;have T0:=VY (Yg ok.n1);rw [xh] at m pr;exact ⟨s.1.sz m.1 m.2 T0 ok.sum,λx p=>(s.2 x p).sz (pr x p).1 (pr x p).2 T0 ok.sum⟩
structure RuS (t:Nat) (r:Rl):Prop where
 pok:POk r
 ht:t<=150
 den:t+XX t r+2<=700
 len:Vk r<=50
def RuS.other (h:RuS t (.other r)):RuS t r:=⟨h.pok,h.ht,h.den,h.len⟩
def RuS.ranks (h:RuS t (.ranks r)):RuS t r:=⟨h.pok,h.ht,h.den,h.len⟩
def RuS.groups (h:RuS t (.groups a b)):RuS t a/\RuS t b:=by
 have d:=h.den;have f:=h.len;simp only [XX] at d;simp only [Vk] at f;exact ⟨⟨h.pok.1,h.ht,⋯,⋯⟩,⟨h.pok.2,h.ht,⋯,⋯⟩⟩
def RuS.upto (h:RuS t (.upto a b x y)):RuS t x/\RuS t y:=by
 have d:=h.den;have f:=h.len;simp only [XX] at d;simp only [Vk] at f;exact ⟨⟨h.pok.2.1,h.ht,⋯,⋯⟩,⟨h.pok.2.2,h.ht,⋯,⋯⟩⟩
def RuS.few (h:RuS t r) (ok:ClS t l):(zQ r l).length<=401:=by
 have f:=Xs h.pok ok.n1;have m:=Nat.mul_le_mul h.len ok.few;lia
def RuS.gf (h:RuS t r) (ok:ClS t l):GF r l (zQ r l):=yZ h.pok ok.n1
def RuS.R (h:RuS t r) (ok:ClS t l):PathR 700 (zQ r l):=by
 have g:=(h.gf ok).ful.std;have f:=h.few ok;have p:=ok.few;refine ⟨g.ne,λc m=>(all_sz h.pok ok c m).mono h.den,λc m=>by rw [(g.ok c m).1];lia,⋯,g.rise,λc m=>?_⟩;rw [g.head] at m;cases m;rfl
def RuS.inn (h:RuS t r) (ok:ClS t l):PathIn (zQ r l):=by
 have R:=h.R ok;have f:=h.few ok;exact ⟨R.ne,λc g=>(R.sz c g).mono nofun,R.len,⋯⟩
end
section
def rMinL (K:Frg):List V->Hp->VK->Prop:=λxs H Q=>∃(p:Addr) (ns:List Int),xs=[.ref p]/\SqL K H p (ns.map V.int)/\0<ns.length/\∀m,m∈ns->(∀x∈ns,m<=x)->Q (.int m) H
def call_minL (N:X.calm=true):Vz X (.builtin "min") (rMinL X.K):=by
 intro pins s σ H xs us Q I r h;obtain ⟨p,ns,rfl,G,Y,q⟩:=h;obtain ⟨u,rfl,y⟩:=eR r;cases y;obtain ⟨its,C,pl,U⟩:=I.list G;have ht:=pl.isList;have m:=XJ C;have J:=m.length;have below:p≠s.heap.objs.size:=let ⟨_,e,_⟩:=ht;QU (Qz e)
 refine call_min_walk (jaC ht ⟨_,_,_,_,_,_,_,rfl,Walks.list (A:=X.A.in1) (I.ok.hd N) _ p below its.toArray,⟨⟨_,Qx _ rfl,rfl,rfl⟩,ht.push _⟩,λb O=>?_,by simpa using (by lia:0<its.length),CmpOf.ints_lt (λi=>ns.getD i 0) (VI m),λv h' tk P L=>?_⟩)
 ·rw [Td]
  rcases Qn.mp O with z|z
  ·rw [z];exact Tp _
  ·rw [Qq.mp z];obtain ⟨_,e,_⟩:=ht;exact Tz (Qz e)
 ·obtain ⟨t,rfl⟩:=VI m _ v P;obtain ⟨T,w⟩:=argBest_lt (λi=>ns.getD i 0) (its.toArray.size - 1);have g:its.toArray.size=ns.length:=by simpa using J
  rw [g] at T w;rw [g];refine ⟨.int _,H,I.kept (t':=tk) λb o e=>L b o (λz=>?_) (Qj _ e),⟨t,rfl⟩,q _ ?_ λx D=>?_⟩
  ·rw [Qq.mp z] at e;exact absurd (Qz e) (jat _)
  ·dsimp only;rw [Ql,Qb ⋯];exact QY _
  ·obtain ⟨j,M,rfl⟩:=QI D;have:=w j ⋯;rwa [show ns.getD j 0=ns[j] by rw [Ql,Qb M];rfl] at this
end
section
variable {B G0 H:Hp} {cs:xg} {ds:Dat} {Q:VK} {v w u:V} {K:Frg} {L:Addr}
def Cf {ns:List Int} (S:Sta B G0 H cs ds) (h:(L,ns.map PyData.int)∈cs) (hn:0<ns.length) (k:∀m,m∈ns->(∀x∈ns,m<=x)->Q (.int m) H):rMinL K [.ref L] H Q:=by
 obtain ⟨vs,hp,u⟩:=S.vwC h;obtain ⟨G,g⟩:=id S;rw [yP (u G g)] at hp;exact ⟨L,ns,rfl,SqL.of hp,hn,k⟩
def Jz {ns:List Int} (S:Sta B G0 H cs ds) (h:Has ds (.list (ns.map PyData.int)) v) (hn:0<ns.length) (k:∀m,m∈ns->(∀x∈ns,x<=m)->Q (.int m) H):JJ K [v] H Q:=by
 obtain ⟨p,vs,rfl,hp,r,q,al⟩:=S.lstAll h;obtain ⟨G,g⟩:=id q;rw [yP (al G g.2.2.2.2.2.2)] at hp;exact ⟨p,ns,rfl,SqL.of hp,hn,k⟩
end
theorem gw:∀{a:List zh},(∀c∈a,c.2.length<=n)->(zg a e).length<=n
 |[],_=>by simp [zg]
 |[c],h=>h c (Qe ..)
 |c::d::r,h=>by
  rw [zg]
  split
  ·unfold Wh;rw [QB];have:=h c (Qe ..);lia
  ·exact gw λx g=>h x (Qf _ g)
theorem DV:∀{Qs:List (List zh)} {ps:List Rat} (i:Nat),(∀Q∈Qs,∀c∈Q,c.2.length<=n)->((List.zipWith zg Qs ps).take i).flatten.length<=n*Qs.length
 |[],ps,i,_=>by simp
 |Q::Qs,[],i,_=>by simp
 |Q::Qs,p::ps,0,_=>by simp
 |Q::Qs,p::ps,i+1,h=>by
  have q:=DV (ps:=ps) i λm g=>h m (Qf _ g);have:=gw (e:=p) (h Q (Qe ..));rw [jak,List.take_succ_cons,TY,QA,Qy,Nat.mul_succ];lia
def getD_some {l:List Rat} {k:Nat} (h:k<l.length):l[k]? =some (l.getD k 0):=by rw [Ql,Qb h];rfl
def Fv (h:e∈wpF P 0 (Qs.take i) M):e∈wpF P 0 Qs M:=by
 rcases bK.mp h with h|⟨j,Q,g,m⟩
 ·exact bK.mpr (.inl h)
 ·refine bK.mpr (.inr ⟨j,Q,?_,m⟩);rw [List.getElem?_take] at g
  split at g
  ·exact g
  ·cases g
def HQ:atI (G++[x,y]) (-2)=some x:=by
 unfold atI ixN;rw [QS nofun,QH (by simp;lia)];show (G++[x,y])[_]? =_;rw [show ((-2:Int)+((G++[x,y]).length:Nat)).toNat=G.length by simp;lia]
 simp
section
variable {B G0 H:Hp} {cs:xg} {ds:Dat} {Q:VK} {v w u:V} {K:Frg} {xs ys:List PyData} {vs:List V} {R:It->Hp->Prop}
def tY (S:Sta B G0 H cs ds) (h:Has ds (.tuple xs) v) (m:Has ds (.list ys) w) (k:∀J,Wk B G0 J (Ib xs ys) (λcs ds=>Has ds (.tuple xs) v/\(∀x u,Has ds (.list ys) w->Has ((x,u)::ds) (.list ys) w)/\Has ds (.list ys) w)->R J H):kZi false true K R [v,w] H:=by
 obtain ⟨p,vs,rfl,hp,_⟩:=S.tup h;obtain ⟨q,ws,rfl,g,_⟩:=S.lst m;exact ⟨p,q,rfl,⟨_,SqT.of hp⟩,⟨_,SqL.of g⟩,k _ (AX fe VB)⟩
def spLx {α:Type} (enc:α->List PyData) (dom:α->Prop) (res:α->List PyData->Prop):Sp:=λvs H Q _=>∃(G:Hp) (a:α),zV G H/\zL G (enc a) vs/\dom a/\∀r p H' g us,res a r->Grow G H g H'->H p=none->g p=none->H' p=some (.lst us)->zL g r us->Q (.ref p) H'
def Ju {α:Type} {enc:α->List PyData} {dom:α->Prop} {res:α->List PyData->Prop} (a:α) (S:Sta B G0 H cs ds) (g:yy ds (enc a) vs) (hd:dom a) (k:∀r p H',res a r->zV H H'->Sta B G0 H' ((p,r)::cs) ds->Q (.ref p) H'):spLx enc dom res vs H Q E:=by
 obtain ⟨G,S⟩:=S;exact ⟨G,a,S.2.1,g G S.2.2.2.2.2.2,hd,λr p H' t us hr gr hp s q m=>k r p H' hr gr.h (Sta.put_call S gr hp s q m)⟩
def ret_Lx {G H':Hp} {r:List PyData} {p:Addr} {res:List PyData->Prop} (S:Sta H G H' ((p,r)::cs) ds) (hr:res r) (k:∀r p H' m us,res r->Grow G H m H'->H p=none->m p=none->H' p=some (.lst us)->zL m r us->Q (.ref p) H'):Q (.ref p) H':=by
 obtain ⟨m,a,b,c,d,e,f,g⟩:=S;obtain ⟨x,y,us,z,u⟩:=e _ (Qe ..);exact k r p H' m us hr ⟨c,a,b,d⟩ x y z u
structure ReachOk (m k n b:Nat) (P:List zh) (L:List Rat):Prop where
 pm:PathM m P
 pr:PathR0 n P
 kn:k<m
 lev:∀l∈L,SzQ b l/\∀c,P[0]? =some c->c.2.getD k 0<=l
 sz:b+6*n+4<=8999
 few:L.length<=450
def qP:Sp:=spL (α:=List zh×Nat×List Rat) (λa=>[yJ a.1, .int (a.2.1:Nat), .list (a.2.2.map frD)]) (λa=>∃m n b,ReachOk m a.2.1 n b a.1 a.2.2) (λa=>(a.2.2.filterMap (xk a.1 a.2.1)).map frD)
def FP (S:Sta B G0 H cs ds) (r:Has ds (yJ P) v) (g:Has ds (.list (L.map frD)) u) (ok:ReachOk m k n b P L)
 (q:∀p H',zV H H'->Sta B G0 H' ((p,(L.filterMap (xk P k)).map frD)::cs) ds->Q (.ref p) H'):qP [v, .int (k:Nat),u] H Q E:=
 ZF (P,k,L) S (.cons r (.cons .int (.cons g .nil))) ⟨m,n,b,ok⟩ q
end
section
def PathR.r0 (h:PathR n a):PathR0 n a:=⟨h.ne,h.sz,h.len,h.few,h.rise⟩
end
theorem ef:∀(xs ys:List Rat),xs.length<=(yC xs ys).length
 |[],ys=>jap _
 |x::xs,[]=>by rw [yC];exact Qu _
 |x::xs,y::ys=>by
  have p:=ef xs (y::ys);have m:=ef xs ys;have g:=ef (x::xs) ys;rw [yC]
  split
  ·simp only [Qy] at*;lia
  ·split
   ·simp only [Qy] at*;lia
   ·simp only [Qy] at*;lia
termination_by xs ys=>xs.length+ys.length
structure PWO (P:List zh) (Qs:List (List zh)) (e:Rat):Prop where
 p:PathR 700 P
 q:∀Q∈Qs,PathR 700 Q/\∀c∈Q,c.2.length<=8
 len:(zg P e).length=Qs.length
 few:Qs.length<=8
 ez:SzQ 700 e
 e0:0<=e
 part:∀p∈zg P e,SzQ 700 p/\0<=p
structure WithO (P:List zh) (Qs:List (List zh)):Prop where
 nest:Nest P Qs
 pr:PathR 700 P
 qr:∀Q∈Qs,PathR 700 Q/\∀c∈Q,c.2.length<=8
 szM:∀e∈wpV P Qs,SzQ 700 e/\∀p∈zg P e,SzQ 700 p
 ql:∀Q∈Qs,Q.length<=401
 pl:P.length<=401
 few:Qs.length<=8
 lenV:(wpV P Qs).length<=401
section
def aU:Sp:=spT (α:=List zh×List (List zh)×Rat) (λa=>[yJ a.1, .list (a.2.1.map yJ),frD a.2.2]) (λa=>PWO a.1 a.2.1 a.2.2) (λa=>yj (yW a.2.1 (zg a.1 a.2.2)))
def rH (S:Sta B G0 H cs ds) (p:Has ds (yJ P) v) (m:Has ds (.list (Qs.map yJ)) w) (g:Has ds (frD e) u) (ok:PWO P Qs e)
 (k:∀r H',zV H H'->Sta B G0 H' cs ((yj (yW Qs (zg P e)),r)::ds)->Q r H'):aU [v,w,u] H Q E:=
 Ye (P,Qs,e) S (.cons p (.cons m (.cons g .nil))) ok k
def UR:Sp:=spL (α:=List zh×List (List zh)) (λa=>[yJ a.1, .list (a.2.map yJ)]) (λa=>WithO a.1 a.2) (λa=>(yI a.1 a.2).map yb)
def vT (S:Sta B G0 H cs ds) (m:Has ds (yJ P) v) (g:Has ds (.list (Qs.map yJ)) w) (ok:WithO P Qs)
 (k:∀p H',zV H H'->Sta B G0 H' ((p,(yI P Qs).map yb)::cs) ds->Q (.ref p) H'):UR [v,w] H Q E:=
 ZF (P,Qs) S (.cons m (.cons g .nil)) ok k
def GY (i:Nat):(wpF P 0 (Qs.take i) M).length<=(wpF P 0 Qs M).length:=by
 have mono:∀(Qs:List (List zh)) (k:Nat) (M:List Rat),M.length<=(wpF P k Qs M).length:=by
  intro Qs
  induction Qs with
  |nil=>intro k M;rw [wpF];exact Qu _
  |cons Q Qs g=>
   intro k M;rw [wpF];refine Tc ?_ (g (k+1) _);exact ef M _
 have:∀(Qs:List (List zh)) (i k:Nat) (M:List Rat),(wpF P k (Qs.take i) M).length<=(wpF P k Qs M).length:=by
  intro Qs
  induction Qs with
  |nil=>intro i k M;rw [List.take_nil];exact Qu _
  |cons Q Qs g=>
   intro i k M
   cases i with
   |zero=>rw [List.take_zero,wpF];exact mono _ k M
   |succ i=>rw [List.take_succ_cons,wpF,wpF];exact g i (k+1) _
 exact this Qs i 0 M
def WithO.len (h:WithO P Qs) (i:Nat):(wpF P 0 (Qs.take i) (yi P)).length<=401:=Tc (GY i) h.lenV
def WithO.pw (h:WithO P Qs) (he:e∈wpV P Qs):PWO P Qs e:=by
 have r:=h.nest.in_range he;refine ⟨h.pr,h.qr,h.nest.plen e,h.few,(h.szM e he).1,r.1,λp hp=>⟨(h.szM e he).2 p hp,?_⟩⟩;obtain ⟨k,g⟩:=Qv.mp hp;have m:k<Qs.length:=by rw [<-h.nest.plen e];exact (Qd.mp g).1
 exact (h.nest.range r.1 r.2 (Qb m) g).1
def WithO.reach (h:WithO P Qs) {k:Nat} {Q:List zh} (g:Qs[k]? =some Q):ReachOk Qs.length k 700 700 P (yi Q):=by
 have p:=Qc g;have q:k<Qs.length:=(Qd.mp g).1;refine ⟨h.nest.pm,h.pr.r0,q,λl s=>?_,nofun,by unfold yi;rw [Qa];have:=h.ql Q p;lia⟩;obtain ⟨c,m,rfl⟩:=Qi.mp s;refine ⟨((h.qr Q p).1.sz c m).1,λd hd=>?_⟩;obtain ⟨r,e⟩:=h.nest.p0;rw [e] at hd;cases hd;rw [Ql,QX,QH q];exact (h.nest.qpos g c m).1
def wb (S:Sta B G0 H ((L,xs)::cs) ds) (m:Has ds (.list ys) w) (g:xs.length+ys.length<=1000) (k:∀H',Sta B G0 H' ((L,xs++ys)::cs) ds->Q .non H'):Cs (.ref L) [w] H Q:=by
 obtain ⟨p,us,e,hp,s,u,al⟩:=S.lstAll m;obtain ⟨vs,t,y,put⟩:=u.put;subst e;refine ⟨L,p,vs,us,rfl,rfl,t,hp,?_,k _ ((put (xs++ys) (vs++us) λG a b=>b.app (al G a)).weak (jbn _) λq r=> .mem (QG _ r))⟩;rw [<-s,<-y];exact Tc g (jcd rfl)
def Jv (S:Sta B G0 H cs ds) (h:(L,[d])∈cs) (hn:n<=1000) (k:∀l H',zV H H'->Sta B G0 H' ((l,List.replicate n d)::cs) ds->Q (.ref l) H'):rRep (.ref L) (.int (n:Int)) H Q:=by
 obtain ⟨vs,hp,t,w,_⟩:=S.cellAll h;obtain ⟨z,rfl⟩:=List.length_eq_one_iff.mp t.symm
 ·refine ⟨L,(n:Int),_,rfl,rfl,hp,⋯,⋯,?_,λp g=>?_⟩
  ·show 1*n<=sizeLine;have:1000<=sizeLine:=by decide
   lia
  ·rw [Tn];show Q (.ref p) (upd H p (.lst (List.replicate n [z]).flatten));rw [rE];have u:Sta B G0 H cs ((d,z)::ds):=w;refine k p _ (zV.new g _) ((u.newL g λG a=>?_).dat λq s=> .mem (Qf _ s));have r:Is G d z:=a (d,z) (Qe ..);clear hn k
   induction n with
   |zero=>rw [List.replicate_zero,List.replicate_zero,zL]
   |succ n m=>rw [Tt,Tt,zL];exact ⟨_,_,rfl,r,m⟩
theorem fv (p:Rat) (i:Nat):∀(z:List (Rat×Nat)) (w:List Rat),Za (z++[(p,i)]) w=(Za z w).set i p
 |[],w=>rfl
 |(q,j)::z,w=>by rw [TB,Za,Za,fv p i z]
def si (h:j<n):ixN n (j:Int)=some j:=by
 unfold ixN;rw [QH ⋯,QH ⋯,Tn]
theorem DT {α β:Type} (p:α->Bool) (f:α->β):∀xs:List α,xs.filterMap (λj=>if p j=true then some (f j) else none)=(xs.filter p).map f
 |[]=>rfl
 |x::xs=>by
  rw [jaV,jbw,DT p f xs]
  split
  ·rename_i h
   split at h
   ·cases h
   ·rw [QS (by assumption)]
  ·rename_i h
   split at h
   ·cases h;rw [QH (by assumption),Qk]
   ·cases h
def gm (p:Cl->Bool) (l:List Cl):(List.range l.length).filterMap (λj=>if p (l.getD j (0,0,0)) then some (PyData.int (j:Int)) else none)=(zR p l).map λ(i:Nat)=>PyData.int (i:Int):=by
 unfold zR;exact DT (λj=>p (l.getD j (0,0,0))) (λ(j:Nat)=>PyData.int (j:Int)) _
def jU (p:Cl->Bool) (l:List Cl):(List.range l.length).filterMap (λj=>if p (l.getD j (0,0,0)) then some (PyData.int (0+(j:Int))) else none)=(zR p l).map λ(i:Nat)=>PyData.int (i:Int):=by
 rw [<-gm];simp only [Int.zero_add]
theorem rR:∀{l:List Int} {x:Int},x∈l->jg l<=x/\jg l∈l
 |[],x,h=>absurd h Qp
 |[a],x,h=>by rw [Qq.mp h,jg];exact ⟨jbF _,jaT _⟩
 |a::b::l,x,h=>by
  have e:jg (a::b::l)=min a (jg (b::l)):=by rw [jg];simp
  have g:=rR (l:=b::l) (Qe ..);rw [e];refine ⟨?_,?_⟩
  ·rcases Qn.mp h with rfl|h
   ·lia
   ·have:=(rR h).1;lia
  ·rcases Int.le_total a (jg (b::l)) with z|z
   ·rw [Int.min_eq_left z];exact Qe ..
   ·rw [Int.min_eq_right z];exact Qf _ g.2
def Dh (h:m∈l) (low:∀x∈l,m<=x):m=jg l:=by
 have:=rR h;have:=low _ this.2;lia
def plD (pl:List Nat):PyData:= .list (pl.map λ(i:Nat)=>PyData.int (i:Int))
def ff:Sp:=spL (α:=List Cl×List Nat) (λa=>[zo a.1,plD a.2]) (λa=>(∀i∈a.2,i<a.1.length)/\a.2.length<=8) (λa=>(zX (0,0,0) a.2 a.1).map zJ)
def mh (S:Sta B G0 H cs ds) (m:Has ds (zo l) v) (g:Has ds (plD pl) w) (lt:∀i∈pl,i<l.length) (few:pl.length<=8) (k:∀p H',zV H H'->Sta B G0 H' ((p,(zX (0,0,0) pl l).map zJ)::cs) ds->Q (.ref p) H'):ff [v,w] H Q E:=
 ZF (l,pl) S (.cons m (.cons g .nil)) ⟨lt,few⟩ k
def Wj (p:Int->Cl->Bool):Sp:=spL (α:=List Cl×Int) (λa=>[zo a.1, .int a.2]) (λa=>a.1.length<=8) (λa=>(zR (p a.2) a.1).map λ(i:Nat)=>PyData.int (i:Int))
def oW (S:Sta B G0 H cs ds) (m:Has ds (zo l) v) (few:l.length<=8) (k:∀q H',zV H H'->Sta B G0 H' ((q,(zR (p g) l).map λ(i:Nat)=>PyData.int (i:Int))::cs) ds->Q (.ref q) H'):Wj p [v, .int g] H Q E:=
 ZF (l,g) S (.cons m (.cons Has.int .nil)) few k
def FD:Sp:=spT (α:=List Cl×Int) (λa=>[zo a.1, .int a.2]) (λa=>0<a.1.length/\a.1.length<=8) (λa=>zJ (AO a.2 a.1))
def rd_one (S:Sta B G0 H cs ds) (m:Has ds (zo l) v) (pos:0<l.length) (few:l.length<=8) (k:∀q H',zV H H'->Sta B G0 H' cs ((zJ (AO g l),q)::ds)->Q q H'):FD [v, .int g] H Q E:=
 Ye (l,g) S (.cons m (.cons Has.int .nil)) ⟨pos,few⟩ k
structure SpO (pl:List Nat) (n:Nat) (v:List Rat):Prop where
 pls:Pls n pl
 len:v.length=pl.length
 few:n<=8
def fi:Sp:=spT (α:=List Rat×List Nat×Nat) (λa=>[yj a.1,plD a.2.1, .int (a.2.2:Int)]) (λa=>SpO a.2.1 a.2.2 a.1) (λa=>yj (yh a.2.1 a.2.2 a.1))
def vW (S:Sta B G0 H cs ds) (m:Has ds (yj x) v) (g:Has ds (plD pl) w) (ok:SpO pl n x) (k:∀q H',zV H H'->Sta B G0 H' cs ((yj (yh pl n x),q)::ds)->Q q H'):fi [v,w, .int (n:Int)] H Q E:=
 Ye (x,pl,n) S (.cons m (.cons g (.cons Has.int .nil))) ok k
def US:Sp:=spL (α:=List zh×List Nat×Nat) (λa=>[yJ a.1,plD a.2.1, .int (a.2.2:Int)]) (λa=>(∀c∈a.1,SpO a.2.1 a.2.2 c.2)/\a.1.length<=450) (λa=>(yB a.2.1 a.2.2 a.1).map yb)
def oQ (S:Sta B G0 H cs ds) (m:Has ds (yJ x) v) (g:Has ds (plD pl) w) (ok:∀c∈x,SpO pl n c.2) (few:x.length<=450) (k:∀q H',zV H H'->Sta B G0 H' ((q,(yB pl n x).map yb)::cs) ds->Q (.ref q) H'):US [v,w, .int (n:Int)] H Q E:=
 ZF (x,pl,n) S (.cons m (.cons g (.cons Has.int .nil))) ⟨ok,few⟩ k
noncomputable def XA (t n:Nat):Sp:=spL (α:=Rl×List Cl) (λa=>[a.1.shape,zo a.2]) (λa=>(RuS t a.1/\a.1.deep<=n)/\ClS t a.2) (λa=>(zQ a.1 a.2).map yb)
def ZR (S:Sta B G0 H cs ds) (g:Has ds r.shape v) (h:Has ds (zo l) w) (ru:RuS t r) (hn:r.deep<=n) (ok:ClS t l) (k:∀p H',zV H H'->Sta B G0 H' ((p,(zQ r l).map yb)::cs) ds->Q (.ref p) H'):XA t n [v,w] H Q E:=ZF (r,l) S (.cons g (.cons h .nil)) ⟨⟨ru,hn⟩,ok⟩ k
noncomputable def lh (t n:Nat):Sp:=spL (α:=Rl×List Cl) (λa=>[a.1.shape,zo a.2]) (λa=>(RuS t a.1/\a.1.deep<=n)/\ClS t a.2) (λa=>(Ua (λl=>zQ a.1 l) a.2).map yb)
def Ca (S:Sta B G0 H cs ds) (g:Has ds r.shape v) (h:Has ds (zo l) w) (ru:RuS t r) (hn:r.deep<=n) (ok:ClS t l) (k:∀p H',zV H H'->Sta B G0 H' ((p,(Ua (λl=>zQ r l) l).map yb)::cs) ds->Q (.ref p) H'):lh t n [v,w] H Q E:=ZF (r,l) S (.cons g (.cons h .nil)) ⟨⟨ru,hn⟩,ok⟩ k
noncomputable def fm (t n:Nat):Sp:=spL (α:=(Rl×Rl)×List Cl) (λa=>[a.1.1.shape,a.1.2.shape,zo a.2]) (λa=>(RuS t (.groups a.1.1 a.1.2)/\a.1.1.deep<=n/\a.1.2.deep<=n)/\ClS t a.2) (λa=>(xI (λl=>zQ a.1.1 l) (λl=>zQ a.1.2 l) a.2).map yb)
def vZ (S:Sta B G0 H cs ds) (q:Has ds a.shape v) (m:Has ds b.shape u) (h:Has ds (zo l) w) (ru:RuS t (.groups a b)) (ha:a.deep<=n) (g:b.deep<=n) (ok:ClS t l) (k:∀p H',zV H H'->Sta B G0 H' ((p,(xI (λl=>zQ a l) (λl=>zQ b l) l).map yb)::cs) ds->Q (.ref p) H'):fm t n [v,u,w] H Q E:=ZF ((a,b),l) S (.cons q (.cons m (.cons h .nil))) ⟨⟨ru,ha,g⟩,ok⟩ k
noncomputable def qR (A:RAd) (t n:Nat):Sp:=spL (α:=Rl×List Cl) (λa=>[a.1.ins A,zo a.2]) (λa=>(RuS t a.1/\a.1.deep<=n)/\ClS t a.2) (λa=>(zQ a.1 a.2).map yb)
def FR (S:Sta B G0 H cs ds) (g:Has ds (r.ins A) v) (h:Has ds (zo l) w) (ru:RuS t r) (hn:r.deep<=n) (ok:ClS t l) (k:∀p H',zV H H'->Sta B G0 H' ((p,(zQ r l).map yb)::cs) ds->Q (.ref p) H'):qR A t n [v,w] H Q E:=ZF (r,l) S (.cons g (.cons h .nil)) ⟨⟨ru,hn⟩,ok⟩ k
end
def Sta.rot3 (S:Sta B G0 H (m::c2::g::cs) ds):Sta B G0 H (g::m::c2::cs) ds:=S.permC ((List.Perm.cons _ (List.Perm.swap _ _ _)).trans (List.Perm.swap _ _ _))
theorem pX:∀{g:List (List Nat)},(∀L∈g,L.length<=8)->g.flatten.length<=8*g.length
 |[],_=>by simp
 |L::g,h=>by
  have r:=h L (Qe ..);have q:=pX λp m=>h p (Qf _ m);rw [TY,QA,Qy];lia
def ful_sz {m d t:Nat} {T:Rat} {as:List Rat} {P:List zh} {Z:Int} (h:Ful m T as P) (hd:DP d P) (A:T<=(Z:Rat)) (w:0<=Z) (s:Z<=2 ^ t):∀c∈P,SzC (t+d+2) c:=λc g=>by
 have r:=h.std.range g;have u:c.1<=(Z:Rat):=TL r.2 A
 have nn:∀q∈c.2,0<=q:=λq y=>by
  obtain ⟨i,z⟩:=Qv.mp y;exact h.std.nn h.mono c g i q z
 have le:=(ZV nn).2;rw [(h.std.ok c g).2] at le;exact ⟨(hd c g).1.sz r.1 u w s,λx p=>((hd c g).2 x p).sz (nn x p) (TL (le x p) u) w s⟩
theorem IK:∀{l:List Cl},(∀c∈l,0<=c.1)->zH (asD done l)<=zH (amQ l)
 |[],_=>QQ
 |c::l,nn=>by
  have q:=IK (done:=done) λx g=>nn x (Qf _ g);have h0:=cg (nn c (Qe ..));have p:asD done (c::l)=(if c.2.1∈done then (c.1:Rat) else 0)::asD done l:=rfl;have m:amQ (c::l)=(c.1:Rat)::amQ l:=rfl;rw [p,m,zH,zH]
  split<;>grind
noncomputable def rkP (r:Rl) (l:List Cl) (i:Nat):List zh:=((zS l).take i).foldl (ZE (λl=>zQ r l) l) (kL l.length)
section
def FO (g:(zS l)[i]? =some k):rkP r l (i+1)=ZE (λl=>zQ r l) l (rkP r l i) k:=by
 unfold rkP;rw [TZ,g,List.foldl_append];rfl
def Jr (r:Rl) (l:List Cl):rkP r l (zS l).length=Ua (λl=>zQ r l) l:=by
 unfold rkP Ua;rw [List.take_length]
def rkP_ok (ru:RuS t r) (ok:ClS t l) (i:Nat):RkI r l ((zS l).take i) (rkP r l i)/\(∀c∈rkP r l i,SzC 700 c)/\(rkP r l i).length<=401:=by
 have pw:([]++(zS l).take i).Pairwise (·<·):=jbh (List.take_sublist _ _) (yH l).1;have gf:∀k∈(zS l).take i,GF r (l.filter (zM k)) (zQ r (l.filter (zM k)))/\DP (XX t r) (zQ r (l.filter (zM k))):=λk _=>⟨yZ ru.pok (xn ok.n1 _),YT ru.pok (xn ok.n1 _) (jaL (XQ ok.n1 _) ok.sum)⟩;have R:=rD ((zS l).take i) [] _ (RkI.nil) pw λk p=>(gf k p).1
 have D:=BQ ((zS l).take i) [] _ (RkI.nil) pw gf λc g=>by
  rw [Qq.mp g];refine ⟨DQ.zero.mono ⋯,λx m=>?_⟩;rw [List.eq_of_mem_replicate m];exact DQ.zero.mono ⋯
 rw [jaI] at R;refine ⟨R,λc g=>?_,?_⟩
 ·have T0:=VY (Yg ok.n1);have le:=IK (done:=(zS l).take i) ok.n1;rw [xh] at le;exact (ful_sz R.ful D le T0 ok.sum c g).mono ru.den
 ·have f:=mW (f:=λl=>zQ r l) (l:=l) (c:=Vk r) ((zS l).take i) (kL l.length) λk _=>Xs ru.pok (xn ok.n1 _);have q:=eB (·.2.1) (yH l).1 l λc g=>((yH l).2 _).mpr (Qi.mpr ⟨c,g,rfl⟩);have e:((zS l).map λk=>(l.filter (zM k)).length).sum=l.length:=q
  have sub:(((zS l).take i).map λk=>(l.filter (zM k)).length).sum<=((zS l).map λk=>(l.filter (zM k)).length).sum:=by
   conv=>rhs;rw [<-List.take_append_drop i (zS l)]
   rw [QT,List.sum_append];lia
  rw [e] at sub;have m1:=Nat.mul_le_mul_left (Vk r) sub;have m2:=Nat.mul_le_mul ru.len ok.few;have z:(kL l.length).length=1:=rfl;unfold rkP;lia
def Cw (st:Std m T as P) (hm:m<=8) (sz:∀c∈P,SzC 700 c) (few:P.length<=401):PathIn P:=
 ⟨st.ne,λc g=>(sz c g).mono nofun,λc g=>by rw [(st.ok c g).1];lia,⋯⟩
def Bs (hp:Pls n pl) (p:∀c∈P,c.2.length=pl.length) (h:∀c∈P,SzC 700 c):∀c∈yB pl n P,SzC 700 c:=λc s=>by
 obtain ⟨c,g,rfl⟩:=Qi.mp s;refine ⟨(h c g).1,λx m=>?_⟩;obtain ⟨i,r⟩:=Qv.mp m
 rcases Zl hp (p c g) r with ⟨j,_,q⟩|⟨_,rfl⟩
 ·exact (h c g).2 x (Qc q)
 ·unfold SzQ Sz;decide
def BS (ru:RuS t r) (ok:ClS t l) (J:(zS l)[i]? =some k):
 PathIn (rkP r l i)/\PathIn (yB (zR (zM k) l) l.length (zQ r (l.filter (zM k))))/\PathOk l.length (rkP r l i++yM (rkP r l i) (yB (zR (zM k) l) l.length (zQ r (l.filter (zM k))))):=by
 obtain ⟨R,sz,few⟩:=rkP_ok ru ok i;have m:=ok.filter (zM k) (fX (Qc J));have g:=(ru.gf m).ful;have K:=ru.R m;have A:=xH (zM k) l;have y:=Zv (zM k) l;have C:=g.spread y A;have p:=Bs y (λc w=>by rw [(g.std.ok c w).1,A]) K.sz;have s:(yB (zR (zM k) l) l.length (zQ r (l.filter (zM k)))).length<=401:=by unfold yB;rw [Qa];exact ru.few m
 have st:=iC R.ful.std C.std;refine ⟨Cw R.ful.std ok.few sz few,Cw C.std ok.few p s,λc w=>?_,λc w=>(st.ok c w).1,by have:=ok.few;lia,?_⟩
 ·rcases QW.mp w with z|z
  ·exact (sz c z).mono nofun
  ·obtain ⟨d,hd,rfl⟩:=Qi.mp z;have z1:=sz _ (pS R.ful.std.ne);have z2:=p d (TQ hd);refine ⟨(z1.1.add z2.1).mono nofun,λq I=>?_⟩;obtain ⟨u,G,v,D,rfl⟩:=eN I;exact ((z1.2 u G).add (z2.2 v D)).mono nofun
 ·unfold yM;simp only [QA,Qa,jaQ];lia
def DM (ru:RuS t (.groups a b)) (ok:ClS t l):WithO (zQ a (zK l)) (ye (λl=>zQ b l) l):=by
 obtain ⟨ra,y⟩:=ru.groups;have s:=ok.sums;have r:∀g∈zF l,ClS t (l.filter (zC g)):=λg m=>ok.filter (zC g) (XM m);have ga:=ra.gf s;have C:=λg m=>y.gf (r g m);have nest:=UI ga.ful λg m=>(C g m).ful;have T0:=VY (Yg ok.n1)
 have z:(lastC (zQ a (zK l))).1<=(((amV l).sum:Int):Rat):=by
  rw [ga.ful.std.lastC];show zH (amQ (zK l))<=_;rw [xh,dR];exact QQ
 have K:=ru.den;simp only [XX] at K;have N:=YE l;have M:=ok.few;refine ⟨nest,ra.R s,λQ w=>?_,λe he=>?_,λQ w=>?_,ra.few s,by rw [YC];lia,?_⟩
 ·obtain ⟨g,m,rfl⟩:=Qi.mp w;refine ⟨y.R (r g m),λc J=>?_⟩;rw [((C g m).ful.std.ok c J).1];exact (r g m).few
 ·have D:=nest.den (YT ra.pok s.n1 s.sum) (λQ w=>by
   obtain ⟨g,m,rfl⟩:=Qi.mp w
   exact YT y.pok (r g m).n1 (r g m).sum) z ok.sum he
  have u:=nest.in_range he;refine ⟨(D.1.sz u.1 (TL u.2 z) T0 ok.sum).mono ⋯,λp hp=>?_⟩
  have nn:∀q∈zg (zQ a (zK l)) e,0<=q:=λq I=>by
   obtain ⟨k,A⟩:=Qv.mp I;have L:k<(ye (λl=>zQ b l) l).length:=by rw [<-nest.plen e];exact (Qd.mp A).1
   exact (nest.range u.1 u.2 (Qb L) A).1
  have le:=(ZV nn).2 p hp;rw [ga.ful.std.sum u.1] at le;have G:mn e (zH (amQ (zK l)))<=e:=by unfold mn;split<;>grind
  exact ((D.2 p hp).sz (nn p hp) (by have:=u.2;grind) T0 ok.sum).mono ⋯
 ·obtain ⟨g,m,rfl⟩:=Qi.mp w;exact y.few (r g m)
 ·have f:=ru.few ok
  have e:(zQ (.groups a b) l).length=(wpV (zQ a (zK l)) (ye (λl=>zQ b l) l)).length:=by
   show (xI (λl=>zQ a l) (λl=>zQ b l) l).length=_;unfold xI yB yI;rw [Qa,Qa]
  lia
def DN (ru:RuS t (.groups a b)) (ok:ClS t l):(∀c∈yI (zQ a (zK l)) (ye (λl=>zQ b l) l),SpO (AN l) l.length c.2)/\(yI (zQ a (zK l)) (ye (λl=>zQ b l) l)).length<=450:=by
 obtain ⟨ra,q⟩:=ru.groups;have w:=DM ru ok;have m:∀g∈zF l,ClS t (l.filter (zC g)):=λg p=>ok.filter (zC g) (XM p);have ga:=ra.gf ok.sums;have r:=gF λg p=>(q.gf (m g p)).ful;have W:=mO w.nest (by rw [YC,<-xK];exact ga.ful.std);refine ⟨λc s=>⟨mF l,by rw [(W.std.ok c s).1,r],ok.few⟩,?_⟩;have:=w.lenV;unfold yI;rw [Qa];lia
def jO (ok:PathIn P) (h:∀c∈P,SzC 700 c) (hp:SzQ m p) (hm:m<=1000):PathIn (yd p P):=by
 refine ⟨λe=>ok.ne (List.map_eq_nil_iff.mp e),λc g=>(aY h hp c g).mono ⋯,λc g=>?_,by unfold yd;rw [Qa];exact ok.few⟩;obtain ⟨d,hd,rfl⟩:=Qi.mp g;rw [Qa];exact ok.len d hd
def RuS.up (h:RuS t (.upto t' b' x y)) (ok:ClS t l):UpOk (Rat.divInt t' b') (zQ x l) (zQ y l):=by
 obtain ⟨p,m⟩:=h.upto;have g:=JM h.pok.1;have one:SzQ 1 (1:Rat):=by unfold SzQ Sz;decide+kernel
 have w:SzQ 212 (1 - Rat.divInt t' b'):=(one.sub g).mono nofun;have C:=p.R ok;have py:=m.R ok;have M:=(p.gf ok).ful.std;have L:=(m.gf ok).ful.std;have r:=p.inn ok;have D:=m.inn ok;have pi:=UH h.pok.1;have A:=aY C.sz g;have G:=aY py.sz w;have P:=Xs p.pok ok.n1;have O:=Xs m.pok ok.n1;have f:=h.len;simp only [Vk] at f;have N:=ok.few;have m1:=Nat.mul_le_mul (show Vk x+Vk y<=50 from f) N;rw [Nat.add_mul] at m1;have st:=iC (WU pi.1 M) (WU (show 0<1 - Rat.divInt t' b' by grind) L);refine ⟨g.mono nofun,r,D,jO r C.sz g nofun,jO D py.sz w nofun,l.length,⟨λc s=>?_,λc s=>(st.ok c s).1,⋯,?_⟩⟩
 ·rcases QW.mp s with z|z
  ·exact (A c z).mono nofun
  ·obtain ⟨d,hd,rfl⟩:=Qi.mp z;have a:=A _ (pS (λe=>r.ne (List.map_eq_nil_iff.mp e)));have b:=G d (TQ hd);refine ⟨(a.1.add b.1).mono nofun,λq K=>?_⟩;obtain ⟨u,J,v,I,rfl⟩:=eN K;exact ((a.2 u J).add (b.2 v I)).mono nofun
 ·unfold yM yd;simp only [QA,Qa,jaQ];lia
end
def WN (m:List Int) (l:List Cl) (tk:List Int):List Int:=m.map λg=>(zX 0 (zR (zC g) l) tk).sum
section
def As (h:∀i∈pl,i<tk.length):yo (zX 0 pl tk)=zX 0 pl (yo tk):=by
 unfold yo zX;rw [Qm];refine QC λi g=>?_;show (((tk.getD i 0):Int):Rat)=(tk.map λ(p:Int)=>(p:Rat)).getD i 0;rw [Ql,Ql,Qg,Qb (h i g)];rfl
def XE (p:Cl->Bool) (q:Row->Bool) (m:∀c x,q (yO c x)=p c) (g:tk.length=l.length):(zA l (yo tk)).filter q=zA (l.filter p) (yo (zX 0 (zR p l) tk)):=by
 rw [YS (p:=p) q m (by rw [ZD];exact g),As λi r=>by rw [g];exact (Zv p l).lt i r]
def FitG.ranks (h:FitG (.ranks r) l tk) (k:Int):FitG r (l.filter (zM k)) (zX 0 (zR (zM k) l) tk):=by
 refine ⟨by rw [Zw,xH],?_⟩;have:=h.fit.2.1 k;rwa [XE (zM k) _ (λc x=>rfl) h.len] at this
def FitG.order (h:FitG (.ranks r) l tk) {i j:Nat} {c d:Cl} {p q:Int} (s:l[i]? =some c) (hp:tk[i]? =some p) (hd:l[j]? =some d) (m:tk[j]? =some q) (lt:c.2.1<d.2.1) (pos:0<q):p=c.1:=by
 have g:∀{n:Nat} {x:Int},tk[n]? =some x->(yo tk)[n]? =some (x:Rat):=λ{n x} hx=>by unfold yo;rw [Qg,hx];rfl
 have:=h.fit.2.2 _ (YL s (g hp)) _ (YL hd (g m)) lt (Yd pos);exact Rat.intCast_inj.mp this
def FitG.group (h:FitG (.groups a b) l tk) (g:Int):FitG b (l.filter (zC g)) (zX 0 (zR (zC g) l) tk):=by
 refine ⟨by rw [Zw,xH],?_⟩;have:=h.fit.2.1 g;rwa [XE (zC g) _ (λc x=>rfl) h.len] at this
def FitG.outer (h:FitG (.groups a b) l tk):FitG a (zK l) (WN (zF l) l tk):=by
 refine ⟨by unfold WN;rw [Qa,xK],?_⟩;have f:=h.fit.2.2
 have s:xJ (zA l (yo tk))=zF l:=by
  have:(zA l (yo tk)).map (·.group)=l.map (·.2.2):=by
   unfold zA;rw [jbe]
   apply Tg
   intro i;rw [Qr,Qg]
   cases e1:l[i]? with
   |none=>rfl
   |some c=>
    have m:=(Qd.mp e1).1;rw [Qb (by rw [ZD,h.len];exact m)];rfl
  exact xZ (xm _).1 (zU l).1 λk=>by rw [(xm _).2,this,(zU l).2]
 have es:VV (zA l (yo tk))=zA (zK l) (yo (WN (zF l) l tk)):=by
  unfold VV;rw [s];unfold zA zK yo WN;rw [Qm,jbv,List.zipWith_self];refine QC λg _=>?_;have r:=XE (zC g) (λx=>decide (x.group=g)) (λc x=>rfl) h.len;unfold zA at r;have ln:(yo (zX 0 (zR (zC g) l) tk)).length=(l.filter (zC g)).length:=by rw [ZD,Zw,xH]
  have q:=Zs ln;have p:=Zr ln;unfold zA at q p
  have t:(List.zipWith yO (l.filter (zC g)) (yo (zX 0 (zR (zC g) l) tk))).map (·.rank)=(l.filter (zC g)).map (·.2.1):=by
   rw [jbe]
   apply Tg
   intro i;rw [Qr,Qg]
   cases e1:(l.filter (zC g))[i]? with
   |none=>rfl
   |some c=>
    have m:=(Qd.mp e1).1;rw [Qb (by rw [ln];exact m)];rfl
  show Row.mk (Ym ((List.zipWith yO l (yo tk)).filter λx=>decide (x.group=g))) (jg (((List.zipWith yO l (yo tk)).filter λx=>decide (x.group=g)).map (·.rank))) g (Yl ((List.zipWith yO l (yo tk)).filter λx=>decide (x.group=g)))=yO (AO g (l.filter (zC g))) (((zX 0 (zR (zC g) l) tk).sum:Int):Rat);rw [r,q,p,t,Xz,xh];rfl
 rw [es] at f;exact f
end
section
variable {B G0 H:Hp} {cs:xg} {ds:Dat} {Q:VK} {E:XK} {v w u:V} {n:Nat} {r x y a b':Rl} {k g:Int}
def iD (p:Cl->Bool) {x:Int} (h:x∈amV (l.filter p)):x∈amV l:=by
 obtain ⟨c,m,rfl⟩:=Qi.mp h;exact Qi.mpr ⟨c,(Tb.mp m).1,rfl⟩
theorem Bk:∀{as:List Int} (j:Nat),as.length<=j->(∀a∈as,Sz m a)->Sz (m+j+1) as.sum
 |[],j,_,_=>by unfold Sz;exact Nat.pow_pos nofun
 |a::as,0,h,_=>by simp at h
 |a::as,j+1,h,hz=>by
  have s:=Bk j ‹h› λx p=>hz x (Qf _ p);have q:=(hz a (Qe ..)).mono (show m<=m+j+1 by lia);rw [QR];exact (q.add s).mono ⋯
def KR (h:i<l.length):(l.getD i (0,0,0)).1=(amV l).getD i 0:=by
 unfold amV;rw [Ql,Ql,Qg,Qb h];rfl
def kY (A:RAd) (n:Nat):Sp:=spT (α:=Rl) (λr=>[r.shape]) (λr=>r.deep<=n) (λr=>r.ins A)
def Ws (S:Sta B G0 H cs ds) (h:Has ds r.shape v) (hn:r.deep<=n) (k:∀p H',zV H H'->Sta B G0 H' cs ((r.ins A,p)::ds)->Q p H'):kY A n [v] H Q E:=Ye r S (.cons h .nil) hn k
end
structure ClZ (size:Int) (l:List Cl):Prop where
 pos:0<l.length
 few:l.length<=8
 nn:∀c∈l,0<=c.1/\0<=c.2.1/\0<=c.2.2
 lt:∀c∈l,c.1<size
theorem eV (h0:0<=size):∀{as:List Int},(∀a∈as,a<size)->as.sum<=(as.length:Int)*size
 |[],_=>by simp
 |a::as,h=>by
  have p:=h a (Qe ..);have m:=eV h0 λx g=>h x (Qf _ g);rw [QR,Qy,Int.natCast_add,Int.add_mul];lia
def ClZ.S (h:ClZ size l) (h0:0<=size) (p:size<=2 ^ s):ClS (s+3) l:=by
 refine ⟨h.pos,h.few,h.nn,?_⟩
 have m:=eV h0 (as:=amV l) λa ha=>by
  obtain ⟨c,g,rfl⟩:=Qi.mp ha;exact h.lt c g
 rw [yf] at m;have q:(l.length:Int)*size<=8*size:=jbq (by have:=h.few;lia) h0;rw [Int.pow_add];have e:(2:Int) ^ 3=8:=by decide
 rw [e];lia
section
variable {B G0 H:Hp} {cs:xg} {ds:Dat} {Q:VK} {E:XK} {K:Frg}
def fq (K:Frg):Sp:=λvs H Q _=>∃(G:Hp) (a:Addr) (ns:List Int) (at' many size:Int),vs=[.ref a, .int at', .int many, .int size]/\zV G H/\SqL K H a (ns.map V.int)/\(0<=at'/\1<=many/\many<=8/\10<=size/\size<=10 ^ 46)/\
 ∀(l:List Cl) (p:Addr) (H' g:Hp) (us:List V),l.length=many.toNat->ClZ size l->Grow G H g H'->H p=none->g p=none->H' p=some (.lst us)->zL g (l.map zJ) us->Q (.ref p) H'
def we {a:Addr} {ns:List Int} {at' many size:Int} (S:Sta B G0 H cs ds) (s:SqL K H a (ns.map V.int)) (r:0<=at'/\1<=many/\many<=8/\10<=size/\size<=10 ^ 46)
 (k:∀(l:List Cl) (p:Addr) (H':Hp),l.length=many.toNat->ClZ size l->zV H H'->Sta B G0 H' ((p,l.map zJ)::cs) ds->Q (.ref p) H'):fq K [.ref a, .int at', .int many, .int size] H Q E:=by
 obtain ⟨G,S⟩:=S;exact ⟨G,a,ns,at',many,size,rfl,S.2.1,s,r,λl p H' w us u t gr hp q m g=>k l p H' u t gr.h (Sta.put_call S gr hp q m g)⟩
def D26 (r:Rl):Prop:=(RuS 103 r/\Vp r<=12)/\r.deep<=4
end
def nd:Rl->Nat
 | .other r=>nd r+1
 | .ranks r=>nd r+1
 | .groups a b=>nd a+nd b+1
 | .upto _ _ x y=>nd x+nd y+1
 |_=>1
theorem gC:∀r:Rl,1<=nd r
 | .shares=>Qu _
 | .evenly=>Qu _
 | .losses=>Qu _
 | .halves=>Qu _
 | .other r=>by simp [nd]
 | .ranks r=>by simp [nd]
 | .groups a b=>by simp [nd]
 | .upto _ _ x y=>by simp [nd]
def PS6:Rl->Prop
 | .other r=>PS6 r
 | .ranks r=>PS6 r
 | .groups a b=>PS6 a/\PS6 b
 | .upto t b x y=>(Vt t b/\ay b<=6)/\PS6 x/\PS6 y
 |_=>True
theorem PS6.pok:∀{r:Rl},PS6 r->POk r
 | .shares,_=>trivial
 | .evenly,_=>trivial
 | .losses,_=>trivial
 | .halves,_=>trivial
 | .other r,h=>PS6.pok (r:=r) h
 | .ranks r,h=>PS6.pok (r:=r) h
 | .groups a b,h=>⟨PS6.pok h.1,PS6.pok h.2⟩
 | .upto _ _ x y,h=>⟨h.1.1,PS6.pok h.2.1,PS6.pok h.2.2⟩
theorem gE:∀{r:Rl},PS6 r->(nd r<=2->XX t r<=2)/\(nd r<=4->XX t r<=18+2*t)/\(nd r<=6->XX t r<=98+12*t)
 | .shares,_=>⟨λ_=>by simp only [XX];lia,λ_=>by simp only [XX];lia,λ_=>by simp only [XX];lia⟩
 | .evenly,_=>⟨λ_=>by simp only [XX];lia,λ_=>by simp only [XX];lia,λ_=>by simp only [XX];lia⟩
 | .losses,_=>⟨λ_=>by simp only [XX];lia,λ_=>by simp only [XX];lia,λ_=>by simp only [XX];lia⟩
 | .halves,_=>⟨λ_=>by simp only [XX];lia,λ_=>by simp only [XX];lia,λ_=>by simp only [XX];lia⟩
 | .other r,h=>by
   have g:=gE (t:=t) (r:=r) h;simp only [XX,nd];exact ⟨λz=>g.1 ⋯,λz=>g.2.1 ⋯,λz=>g.2.2 ⋯⟩
 | .ranks r,h=>by
   have g:=gE (t:=t) (r:=r) h;simp only [XX,nd];exact ⟨λz=>g.1 ⋯,λz=>g.2.1 ⋯,λz=>g.2.2 ⋯⟩
 | .groups a b,h=>by
   obtain ⟨a1,a2,a3⟩:=gE (t:=t) (r:=a) h.1;obtain ⟨m,q,s⟩:=gE (t:=t) (r:=b) h.2;have pa:=gC a;have pb:=gC b;simp only [XX,nd];refine ⟨λz=>absurd z ⋯,λz=>?_,λz=>?_⟩
   ·have:=a1 ⋯;have:=m ⋯;lia
   ·by_cases c:nd a<=2
    ·have:=a1 c
     by_cases d:nd b<=2
     ·have:=m d;lia
     ·have:=q ⋯;lia
    ·have:=a2 ⋯;have:=m ⋯;lia
 | .upto p b x y,h=>by
   obtain ⟨a1,a2,a3⟩:=gE (t:=t) (r:=x) h.2.1;obtain ⟨m,q,s⟩:=gE (t:=t) (r:=y) h.2.2;have pa:=gC x;have pb:=gC y;have u:=h.1.2;simp only [XX,nd];refine ⟨λz=>absurd z ⋯,λz=>?_,λz=>?_⟩
   ·have:=a1 ⋯;have:=m ⋯;lia
   ·have:=a2 ⋯;have:=q ⋯;lia
theorem gD:∀r:Rl,Vk r<=2*nd r
 | .shares=>by simp [Vk,nd]
 | .evenly=>by simp [Vk,nd]
 | .losses=>by simp [Vk,nd]
 | .halves=>by simp [Vk,nd]
 | .other r=>by have:=gD r;simp only [Vk,nd];lia
 | .ranks r=>by have:=gD r;simp only [Vk,nd];lia
 | .groups a b=>by have:=gD a;have:=gD b;simp only [Vk,nd];lia
 | .upto _ _ x y=>by have:=gD x;have:=gD y;simp only [Vk,nd];lia
theorem cU:∀r:Rl,Vp r<=nd r+2/\r.deep<=nd r
 | .shares=>by simp [Vp,nd,Rl.deep]
 | .evenly=>by simp [Vp,nd,Rl.deep]
 | .losses=>by simp [Vp,nd,Rl.deep]
 | .halves=>by simp [Vp,nd,Rl.deep]
 | .other r=>by have:=cU r;simp only [Vp,nd,Rl.deep];lia
 | .ranks r=>by have:=cU r;simp only [Vp,nd,Rl.deep];lia
 | .groups a b=>by have:=cU a;have:=cU b;simp only [Vp,nd,Rl.deep];lia
 | .upto _ _ x y=>by have:=cU x;have:=cU y;simp only [Vp,nd,Rl.deep];lia
structure JOk (t k N:Nat) (r:Rl):Prop where
 ps:PS6 r
 pos:1<=N
 den:XX t r<=98+12*t+6*k
 len:Vk r<=2*N
 dep:Vp r<=N+2
 deep:r.deep<=N
 size:r.size<=N+k
theorem UJ:∀r:Rl,r.size=nd r
 | .shares=>rfl
 | .evenly=>rfl
 | .losses=>rfl
 | .halves=>rfl
 | .other r=>by have:=UJ r;simp only [Rl.size,nd];lia
 | .ranks r=>by have:=UJ r;simp only [Rl.size,nd];lia
 | .groups a b=>by have:=UJ a;have:=UJ b;simp only [Rl.size,nd];lia
 | .upto _ _ x y=>by have:=UJ x;have:=UJ y;simp only [Rl.size,nd];lia
def JOk.of (h:PS6 r) (hn:nd r<=6):JOk t 0 (nd r) r:=
 ⟨h,gC r,by have:=(gE (t:=t) h).2.2 hn;lia,gD r,(cU r).1,(cU r).2,by have:=UJ r;lia⟩
def JOk.join (hp:Vt p b) (q:ay b<=6) (m:JOk t 0 M x) (g:JOk t k N y):JOk t (k+1) (M+N) (.upto p b x y):=by
 have a:=m.den;have c:=g.den;have a2:=m.len;have z:=g.len;have a3:=m.dep;have w:=g.dep;have a4:=m.deep;have u:=g.deep;have C:=m.pos;have s:=g.pos;have A:=m.size;have r:=g.size;exact ⟨⟨⟨hp,q⟩,m.ps,g.ps⟩,⋯,by simp only [XX];lia,by simp only [Vk];lia,by simp only [Vp];lia,by simp only [Rl.deep];lia,by simp only [Rl.size];lia⟩
def JOk.ru (h:JOk t k N r) (ht:t<=36) (g:k<=6) (m:N<=7):RuS t r/\Vp r<=12/\r.deep<=7:=by
 have a:=h.den;have b:=h.len;have c:=h.dep;have d:=h.deep;exact ⟨⟨h.ps.pok,⋯,⋯,⋯⟩,⋯,⋯⟩
def Iw (h0:0<b) (h:b<=61):ay b<=6:=by
 unfold ay
 have:b.toNat.log2<=5:=by
  by_cases z:b.toNat=0
  ·rw [z];decide
  ·have:=(Nat.log2_lt z (k:=6)).mpr ⋯;lia
 lia
def Small.ps (h:Small t b):Vt t b/\ay b<=6:=⟨h.port,Iw (by have:=h.port.2.1;have:=h.port.2.2.1;lia) h.le⟩
def DU (n:Nat):PS6 (nr n)/\nd (nr n)=1:=by
 match n with
 |0=>exact ⟨trivial,rfl⟩
 |1=>exact ⟨trivial,rfl⟩
 |2=>exact ⟨trivial,rfl⟩
 |n+3=>exact ⟨trivial,rfl⟩
def ndS (rs:List Rl):Nat:=(rs.map nd).sum
def Yv (rs:List Rl) (r:Rl):ndS (rs++[r])=ndS rs+nd r:=by unfold ndS;rw [QT,List.sum_append];rfl
theorem Vh:∀rs:List Rl,rs.length<=ndS rs
 |[]=>Qu _
 |r::rs=>by
  have:=Vh rs;have:=gC r;unfold ndS at*;rw [Qk,QR,Qy];lia
def Drn (r:Rl):Prop:=∃k N,(∀t,JOk t k N r)/\k<=6/\N<=7
section
variable {B G0 H:Hp} {cs:xg} {ds:Dat} {Q:VK} {v w u:V}
def qU:Sp:=λvs H Q _=>∃(G:Hp) (c:Int),vs=[.int c]/\zV G H/\∀v H' G' (n:Nat),Grow G H G' H'->Is G' (nr n).shape v->Q v H'
def FV (S:Sta B G0 H cs ds) (k:∀v H' (n:Nat),zV H H'->Sta B G0 H' cs (((nr n).shape,v)::ds)->Q v H'):qU [.int c] H Q E:=by
 obtain ⟨G,S⟩:=S;refine ⟨G,c,rfl,S.2.1,λv H' t n gr g=>k v H' n gr.h ?_⟩;obtain ⟨s,r,q,d',p,m,g'⟩:=S.grow gr;exact ⟨t,s,r,q,d',p,m,g'.cons g⟩
def BW (S:Sta H G H' cs ds) (k:∀v H' g (n:Nat),Grow G H g H'->Is g (nr n).shape v->Q v H') (h:Has ds (nr n).shape v):Q v H':=by
 obtain ⟨g,gr,al⟩:=S.leave;exact k v H' g n gr (h g al)
end
def uQ (xs:List PyData) (x:PyData):qb (xs++[x]) none (some (-1))=xs:=by
 have e:HT.sIx (xs++[x]).length (xs++[x]).length (some (-1))=xs.length:=by
  rw [QA,TH];unfold HT.sIx
  simp
  try lia
 unfold qb;rw [HT.sIx_none,e,List.drop_zero,Nat.sub_zero];exact List.take_left
def nv (xs:List PyData) (x y:PyData):qb (xs++[x,y]) none (some (-2))=xs:=by
 have e:HT.sIx (xs++[x,y]).length (xs++[x,y]).length (some (-2))=xs.length:=by
  rw [QA];unfold HT.sIx
  simp
  try lia
 unfold qb;rw [HT.sIx_none,e,List.drop_zero,Nat.sub_zero];exact List.take_left
section
end
def if2 {A X Y:Prop} (h:(if q=true then X else Y)->A) (m:p=true->q=true->X) (g:(p && q)=false->Y):if p=true then A else Y:=by
 cases p
 ·exact g rfl
 ·cases q
  ·exact h (g rfl)
  ·exact h (m rfl rfl)
def if3 {A m X Y:Prop} (h:(if q=true then m else Y)->A) (h':(if r=true then X else Y)->m) (s:p=true->q=true->r=true->X) (g:(p && (q && r))=false->Y):if p=true then A else Y:=by
 cases p
 ·exact g rfl
 ·cases q
  ·exact h (g rfl)
  ·exact h (h' (by
    cases r
    ·exact g rfl
    ·exact s rfl rfl rfl))
def NG:Rl->Prop
 | .other r=>NG r
 | .ranks r=>NG r
 | .groups _ _=>False
 | .upto _ _ x y=>NG x/\NG y
 |_=>True
section
variable {α:Type} {f g:α->Rat}
theorem AL:∀{Z:List α},(∀z∈Z,f z<=g z)->zH (Z.map f)<=zH (Z.map g)
 |[],_=>by simp [zH]
 |z::Z,h=>by
  have q:=h z (Qe ..);have p:=AL λx m=>h x (Qf _ m);rw [Qk,Qk,zH,zH]
  grind
theorem Zk:∀{Z:List α},(∀z∈Z,f z<=g z)->zH (Z.map f)=zH (Z.map g)->∀z∈Z,f z=g z
 |[],_,_,z,m=>absurd m Qp
 |y::Z,h,e,z,m=>by
  have r:=h y (Qe ..);have q:=AL λx p=>h x (Qf _ p);rw [Qk,Qk,zH,zH] at e
  rcases Qn.mp m with rfl|m
  ·grind
  ·exact Zk (λx p=>h x (Qf _ p)) (by grind) z m
theorem YA:∀{Z:List α},(∀z∈Z,f z=g z)->zH (Z.map f)=zH (Z.map g)
 |[],_=>rfl
 |z::Z,h=>by
  rw [Qk,Qk,zH,zH,h z (Qe ..),YA λx m=>h x (Qf _ m)]
theorem tQ (c:Rat):∀{Z:List α},zH (Z.map λz=>f z*c)=zH (Z.map f)*c
 |[]=>by simp [zH]
 |z::Z=>by rw [Qk,Qk,zH,zH,tQ c];grind
theorem smsu:∀{Z:List α},zH (Z.map λz=>f z - g z)=zH (Z.map f) - zH (Z.map g)
 |[]=>by show (0:Rat)=0 - 0;grind
 |z::Z=>by rw [Qk,Qk,Qk,zH,zH,zH,smsu];grind
theorem smsp (p:α->Bool):∀{Z:List α},zH (Z.map f)=zH ((Z.filter p).map f)+zH ((Z.filter λz=>!p z).map f)
 |[]=>by show (0:Rat)=0+0;grind
 |z::Z=>by
  have m:=smsp p (Z:=Z)
  cases e:p z with
  |true=>
   rw [List.filter_cons_of_pos ‹e›,List.filter_cons_of_neg (by simp [e]),Qk,Qk,zH,zH,m]
   grind
  |false=>
   rw [List.filter_cons_of_neg (by simp [e]),List.filter_cons_of_pos (by simp [e]),Qk,Qk,zH,zH,m]
   grind
end
def InQ.sub (h:InQ L) (s:M.Sublist L):InQ M:=λx g=>h x (s.subset g)
def jF (L:List Row):Prop:=∀x∈L,x.part=0/\0<=x.am
def ET (L:List Row):Prop:=∀x∈L,x.part=x.am/\0<=x.am
def jF.sum (h:jF L):Yl L=0:=by
 unfold Yl;rw [YA (g:=λ_=>0*0) λx m=>by rw [(h x m).1];grind,tQ]
 grind
def ET.sum (h:ET L):Yl L=Ym L:=by
 unfold Yl Ym;exact YA λx g=>(h x g).1
def Bo (h:∀x∈L,0<=x.am):0<=Ym L:=by
 have:=AL (Z:=L) (f:=λ_=>0*0) (g:=(·.am)) λx m=>by have:=h x m;grind
 rw [tQ] at this;unfold Ym
 grind
def xo.none (h:jF L):xo L:=⟨λx g=>by have:=h x g;grind,λx g _ y m=>by have:=h x g;have:=h y m;grind⟩
def xo.full (h:ET L):xo L:=⟨λx g=>by have:=h x g;grind,λx g lt=>by have:=h x g;grind⟩
def jF.flip (h:jF L):ET (L.map Row.flip):=λx m=>by
 obtain ⟨y,g,rfl⟩:=Qi.mp m;have:=h y g;exact ⟨by show y.am - y.part=y.am;grind,this.2⟩
def ET.flip (h:ET L):jF (L.map Row.flip):=λx m=>by
 obtain ⟨y,g,rfl⟩:=Qi.mp m;have:=h y g;exact ⟨by show y.am - y.part=0;grind,this.2⟩
def nX (p0:0<=p) (q:∀L,jF L->X L) (h:jF L):Zn p X Y L:=by
 unfold Zn;rw [QH (by rw [h.sum];exact QO (Bo λx g=>(h x g).2) p0)];refine q _ λx g=>?_;obtain ⟨y,m,rfl⟩:=Qi.mp g;exact ⟨(h y m).1,QO (h y m).2 p0⟩
def tH (p0:0<=p) (u:p<1) (r:∀L,ET L->X L) (q:∀L,ET L->Y L) (h:ET L):Zn p X Y L:=by
 have an:∀x∈L,0<=x.am:=λx g=>(h x g).2;have sn:=Bo an;unfold Zn;rw [h.sum]
 split
 ·next c=>
  have z:Ym L=0:=by
   by_cases z:Ym L=0
   ·exact z
   ·have:=jbt (show 0<Ym L by grind) (show 0<1 - p by grind)
    grind
  have t:∀x∈L,(0:Rat)=x.am:=λx g=>by
   refine Zk (Z:=L) (λx g=>an x g) ?_ x g;have e:=tQ (f:=λ_:Row=>(0:Rat)) 0 (Z:=L)
   have s:zH (L.map λ_:Row=>(0:Rat))=0:=by
    rw [<-show (λ_:Row=>(0:Rat)*0)=λ_=>0 by funext x;grind,e];grind
   rw [s];exact z.symm
  refine r _ λx g=>?_;obtain ⟨y,m,rfl⟩:=Qi.mp g;have a:=t y m;have b:=(h y m).1;exact ⟨by show y.part=y.am*p;rw [b,<-a];grind,by show 0<=y.am*p;rw [<-a];grind⟩
 ·refine q _ λx g=>?_;obtain ⟨y,m,rfl⟩:=Qi.mp g;have b:=h y m;exact ⟨by show y.part - y.am*p=y.am*(1 - p);grind,QO b.2 (by grind)⟩
def mE (h:Vt t b):0<=Rat.divInt t b/\Rat.divInt t b<1:=⟨QE (UH h).1,(UH h).2⟩
theorem XN:∀{r:Rl},NG r->POk r->(∀L,jF L->yL r L)/\∀L,ET L->yL r L
 | .shares,_,_=>⟨λL h=>⟨(xo.none h).1,λx g=>by rw [h.sum,(h x g).1];grind⟩,λL h=>⟨(xo.full h).1,λx g=>by rw [h.sum,(h x g).1]⟩⟩
 | .evenly,_,_=>⟨λL h=>⟨(xo.none h).1, .none h⟩,λL h=>⟨(xo.full h).1, .full h⟩⟩
 | .losses,_,_=>⟨λL h=>⟨(xo.none h).1, .full h.flip⟩,λL h=>⟨(xo.full h).1, .none h.flip⟩⟩
 | .halves,_,_=>⟨λL h=>⟨(xo.none h).1,nX (by grind) (λL z=>⟨(xo.none z).1, .none z⟩) h⟩,λL h=>⟨(xo.full h).1,tH (by grind) (by grind) (λL z=>⟨(xo.full z).1, .full z⟩) (λL z=>⟨(xo.full z).1, .none z.flip⟩) h⟩⟩
 | .other r,n,p=>by
   obtain ⟨a,b⟩:=XN (r:=r) n p;exact ⟨λL h=>⟨(xo.none h).1,b _ h.flip⟩,λL h=>⟨(xo.full h).1,a _ h.flip⟩⟩
 | .ranks r,n,p=>by
   obtain ⟨a,b⟩:=XN (r:=r) n p
   exact ⟨λL h=>⟨(xo.none h).1,λk=>a _ λx g=>h x (Tb.mp g).1,λx g y q _ pos=>by have:=h y q;grind⟩,
    λL h=>⟨(xo.full h).1,λk=>b _ λx g=>h x (Tb.mp g).1,λx g _ _ _ _=>(h x g).1⟩⟩
 | .groups _ _,n,_=>absurd n id
 | .upto t b x y,n,p=>by
   obtain ⟨a,b⟩:=XN n.1 p.2.1;obtain ⟨c,d⟩:=XN n.2 p.2.2;obtain ⟨p0,m⟩:=mE p.1;exact ⟨λL h=>⟨(xo.none h).1,nX p0 a h⟩,λL h=>⟨(xo.full h).1,tH p0 m b d h⟩⟩
def xo.sub (h:xo L) (s:M.Sublist L):xo M:=⟨h.1.sub s,λx m lt y g=>h.2 x (s.subset m) lt y (s.subset g)⟩
def Wz.sub (i:InQ L) (h:Wz L) (s:M.Sublist L):Wz M:=λx m=>by
 have an:∀x∈L,0<=x.am:=λx m=>by have:=i x m;grind
 by_cases z:Ym L=0
 ·have r:∀y∈L,y.am=0/\y.part=0:=λy g=>by
   have p:zH (L.map λ_:Row=>(0:Rat))=0:=by
    rw [<-show (λ_:Row=>(0:Rat)*0)=λ_=>0 by funext x;grind,tQ];grind
   have:=Zk (λx m=>an x m) (by rw [p];exact z.symm) y g;have:=i y g
   grind
  have:=r x (s.subset m);rw [this.1,this.2];grind
 ·have q:∀y∈L,y.part=y.am*(Yl L / Ym L):=λy g=>by
   have e:=h y g;rw [jac,<-Rat.mul_assoc,<-e,Rat.mul_assoc,To _ z,Rat.mul_one]
  have e:Yl M=Ym M*(Yl L / Ym L):=by
   unfold Yl Ym;rw [<-tQ];exact YA λy g=>q y (s.subset g)
  rw [e,q x (s.subset m)]
  grind
def tG (p0:0<=p) (r:∀L,X L->InQ L) (q:∀L,Y L->InQ L) (u:∀L M,X L->M.Sublist L->X M) (t:∀L M,Y L->M.Sublist L->Y M) (w:∀L,ET L->X L) (i:InQ L) (h:Zn p X Y L) (s:M.Sublist L):Zn p X Y M:=by
 unfold Zn at h⊢
 split at h
 ·have b:=r _ h
  have c:Yl M<=Ym M*p:=by
   unfold Yl Ym;rw [<-tQ];exact AL λx g=>(b (x.first p) (Qi.mpr ⟨x,s.subset g,rfl⟩)).2
  rw [QH c];exact u _ _ h (s.map _)
 ·have b:=q _ h
  have ge:∀x∈M,x.am*p<=x.part:=λx g=>by
   have:=(b (x.rest p) (Qi.mpr ⟨x,s.subset g,rfl⟩)).1;have e:(x.rest p).part=x.part - x.am*p:=rfl
   grind
  split
  ·next c=>
   have le:Ym M*p<=Yl M:=by
    unfold Yl Ym;rw [<-tQ];exact AL ge
   have eq:=Zk ge (by
    rw [tQ];have:Ym M*p=Yl M:=by grind
    exact this)
   refine w _ λx g=>?_;obtain ⟨y,m,rfl⟩:=Qi.mp g;have a:=i y (s.subset m);exact ⟨(eq y m).symm,QO (by grind) p0⟩
  ·exact t _ _ h (s.map _)
theorem her:∀{r:Rl},NG r->POk r->∀{L M:List Row},yL r L->M.Sublist L->yL r M
 | .shares,_,_,L,M,h,s=>⟨h.1.sub s,h.2.sub h.1 s⟩
 | .evenly,_,_,L,M,h,s=>⟨h.1.sub s,h.2.sub s⟩
 | .losses,_,_,L,M,h,s=>⟨h.1.sub s,h.2.sub (s.map _)⟩
 | .halves,_,_,L,M,h,s=>⟨h.1.sub s,tG (by grind) (λ_ z=>z.1) (λ_ z=>z.1) (λ_ _ z s=>⟨z.1.sub s,z.2.sub s⟩) (λ_ _ z s=>⟨z.1.sub s,z.2.sub (s.map _)⟩) (λL z=>⟨(xo.full z).1, .full z⟩) h.1 h.2 s⟩
 | .other r,n,p,L,M,h,s=>⟨h.1.sub s,her (r:=r) n p h.2 (s.map _)⟩
 | .ranks r,n,p,L,M,h,s=>⟨h.1.sub s,λk=>her (r:=r) n p (h.2.1 k) (s.filter _),λx m y g=>h.2.2 x (s.subset m) y (s.subset g)⟩
 | .groups _ _,n,_,_,_,_,_=>absurd n id
 | .upto t b x y,n,p,L,M,h,s=>⟨h.1.sub s,tG (mE p.1).1 (λ_ z=>z.inQ) (λ_ z=>z.inQ) (λ_ _ z s=>her n.1 p.2.1 z s) (λ_ _ z s=>her n.2 p.2.2 z s) (XN n.1 p.2.1).2 h.1 h.2 s⟩
def tw (z:Row×Rat):Row:={z.1 with part:=z.2}
section
variable {Z:List (Row×Rat)}
def iU (h:z∈Z):z.1∈Z.map (·.1):=Qi.mpr ⟨z,h,rfl⟩
def pL (h:z∈Z):tw z∈Z.map tw:=Qi.mpr ⟨z,h,rfl⟩
def FA:Yl (Z.map (·.1))=zH (Z.map (·.1.part)):=by unfold Yl;rw [Qm];rfl
def Fz:Yl (Z.map tw)=zH (Z.map (·.2)):=by unfold Yl;rw [Qm];rfl
def Bp:Ym (Z.map tw)=Ym (Z.map (·.1)):=by unfold Ym;rw [Qm,Qm];rfl
def ex_lt {α:Type} {f g:α->Rat} {Y:List α} (h:zH (Y.map f)<zH (Y.map g)):∃z∈Y,f z<g z:=
 Classical.byContradiction λn=>by
  have:=AL λz m=>Ti.mp λl=>n ⟨z,m,l⟩
  grind
def aB (a:xo (Z.map (·.1))) (b:xo (Z.map tw)) (e:zH (Z.map (·.1.part))=zH (Z.map (·.2))):∀z∈Z,z.1.part=z.2:=by
 have up:∀z∈Z,z.1.part<z.2->∀y∈Z,y.1.part<=y.2:=λz g lt y p=>by
  have u:=(b.1 _ (pL g)).2;have a1:=a.2 z.1 (iU g) (by have:(tw z).part=z.2:=rfl;have:(tw z).am=z.1.am:=rfl;grind) y.1 (iU p);have a2:=(a.1 y.1 (iU p)).2;have t:=(b.1 _ (pL p)).2
  by_cases c:y.2<y.1.am
  ·have:=b.2 (tw y) (pL p) c (tw z) (pL g);have r:(tw y).part=y.2:=rfl;have q:(tw z).part=z.2:=rfl
   grind
  ·grind
 have s:∀z∈Z,z.2<z.1.part->∀y∈Z,y.2<=y.1.part:=λz g lt y p=>by
  have u:=(a.1 _ (iU g)).2;have a1:=b.2 (tw z) (pL g) (by have:(tw z).part=z.2:=rfl;have:(tw z).am=z.1.am:=rfl;grind) (tw y) (pL p);have r:(tw y).part=y.2:=rfl;have q:(tw z).part=z.2:=rfl;have a2:=(a.1 y.1 (iU p)).2;have t:y.2<=y.1.am:=(b.1 _ (pL p)).2
  by_cases c:y.1.part<y.1.am
  ·have:=a.2 y.1 (iU p) c z.1 (iU g)
   grind
  ·grind
 intro z g
 by_cases l:z.1.part<z.2
 ·exact Zk (up z g l) e z g
 ·by_cases m:z.2<z.1.part
  ·exact (Zk (s z g m) e.symm z g).symm
  ·grind
def flZ (z:Row×Rat):Row×Rat:=(z.1.flip,z.1.am - z.2)
def fiZ (p:Rat) (z:Row×Rat):Row×Rat:=(z.1.first p,z.2)
def reZ (p:Rat) (z:Row×Rat):Row×Rat:=(z.1.rest p,z.2 - z.1.am*p)
def fl1:(Z.map (·.1)).map Row.flip=(Z.map flZ).map (·.1):=by rw [Qm,Qm];rfl
def fl2:(Z.map tw).map Row.flip=(Z.map flZ).map tw:=by rw [Qm,Qm];rfl
def fi1:(Z.map (·.1)).map (Row.first p)=(Z.map (fiZ p)).map (·.1):=by rw [Qm,Qm];rfl
def fi2:(Z.map tw).map (Row.first p)=(Z.map (fiZ p)).map tw:=by rw [Qm,Qm];rfl
def re1:(Z.map (·.1)).map (Row.rest p)=(Z.map (reZ p)).map (·.1):=by rw [Qm,Qm];rfl
def re2:(Z.map tw).map (Row.rest p)=(Z.map (reZ p)).map tw:=by rw [Qm,Qm];rfl
def DW (e:zH (Z.map (·.1.part))=zH (Z.map (·.2))):zH ((Z.map flZ).map (·.1.part))=zH ((Z.map flZ).map (·.2)):=by
 rw [Qm,Qm];show zH (Z.map λz=>z.1.am - z.1.part)=zH (Z.map λz=>z.1.am - z.2);rw [smsu,smsu,e]
def DX (h:∀z∈Z.map flZ,z.1.part=z.2):∀z∈Z,z.1.part=z.2:=λz g=>by
 have e:z.1.am - z.1.part=z.1.am - z.2:=h (flZ z) (Qi.mpr ⟨z,g,rfl⟩)
 grind
def nW (r:∀Z:List (Row×Rat),X (Z.map (·.1))->X (Z.map tw)->zH (Z.map (·.1.part))=zH (Z.map (·.2))->∀z∈Z,z.1.part=z.2) (m:∀Z:List (Row×Rat),Y (Z.map (·.1))->Y (Z.map tw)->zH (Z.map (·.1.part))=zH (Z.map (·.2))->∀z∈Z,z.1.part=z.2)
 (a:Zn p X Y (Z.map (·.1))) (b:Zn p X Y (Z.map tw)) (e:zH (Z.map (·.1.part))=zH (Z.map (·.2))):∀z∈Z,z.1.part=z.2:=by
 unfold Zn at a b;rw [Bp,Fz,<-e] at b;rw [FA] at a
 split at a
 ·next c=>
  rw [QH c] at b;rw [fi1] at a;rw [fi2] at b;intro z g;exact r _ a b (by rw [Qm,Qm];exact e) (fiZ p z) (Qi.mpr ⟨z,g,rfl⟩)
 ·next c=>
  rw [QS c] at b;rw [re1] at a;rw [re2] at b;intro z g
  have q:z.1.part - z.1.am*p=z.2 - z.1.am*p:=m _ a b (by
   rw [Qm,Qm];show zH (Z.map λz=>z.1.part - z.1.am*p)=zH (Z.map λz=>z.2 - z.1.am*p)
   rw [smsu,smsu,e]) (reZ p z) (Qi.mpr ⟨z,g,rfl⟩)
  grind
def qW (i:InQ (Z.map (·.1))) (j:InQ (Z.map tw)) (a:Wz (Z.map (·.1))) (b:Wz (Z.map tw)) (e:zH (Z.map (·.1.part))=zH (Z.map (·.2))):∀z∈Z,z.1.part=z.2:=λz m=>by
 have p:=a z.1 (iU m);have q:z.2*Ym (Z.map tw)=z.1.am*Yl (Z.map tw):=b (tw z) (pL m);rw [Bp,Fz,<-e,<-FA,<-p] at q
 by_cases s:Ym (Z.map (·.1))=0
 ·have y:z.1.am=0:=by
   have t:zH ((Z.map (·.1)).map λ_:Row=>(0:Rat))=0:=by
    rw [<-show (λ_:Row=>(0:Rat)*0)=λ_=>0 by funext x;grind,tQ];grind
   exact (Zk (Z:=Z.map (·.1)) (f:=λ_=>(0:Rat)) (g:=(·.am)) (λx r=>by have:=i x r;grind) (by rw [t];exact s.symm) z.1 (iU m)).symm
  have w:=i z.1 (iU m);have u:0<=z.2/\z.2<=z.1.am:=j (tw z) (pL m)
  grind
 ·have:=congrArg (·*(Ym (Z.map (·.1)))⁻¹) q;simp only [Rat.mul_assoc,To _ s,Rat.mul_one] at this;exact this.symm
def FY (i:InQ (Z.map (·.1))) (j:InQ (Z.map tw)) (a:∀x∈Z.map (·.1),∀y∈Z.map (·.1),x.rank<y.rank->0<y.part->x.part=x.am) (b:∀x∈Z.map tw,∀y∈Z.map tw,x.rank<y.rank->0<y.part->x.part=x.am)
 (e:zH (Z.map (·.1.part))=zH (Z.map (·.2))) (k:Int):zH ((Z.filter (·.1.rank=k)).map (·.1.part))=zH ((Z.filter (·.1.rank=k)).map (·.2)):=by
 have s1:=smsp (f:=λz:Row×Rat=>z.1.part) (λz=>decide (z.1.rank=k)) (Z:=Z);have s2:=smsp (f:=λz:Row×Rat=>z.2) (λz=>decide (z.1.rank=k)) (Z:=Z)
 have mm:∀{z:Row×Rat},z∈Z.filter (λz=>decide (z.1.rank=k))->z∈Z/\z.1.rank=k:=λ{z} h=>by
  have:=Tb.mp h;exact ⟨this.1,by simpa using this.2⟩
 have mn:∀{z:Row×Rat},z∈Z.filter (λz=>!decide (z.1.rank=k))->z∈Z/\z.1.rank≠k:=λ{z} h=>by
  have:=Tb.mp h;exact ⟨this.1,by simpa using this.2⟩
 by_cases l:zH ((Z.filter λz=>decide (z.1.rank=k)).map (·.1.part))<zH ((Z.filter λz=>decide (z.1.rank=k)).map (·.2))
 ·obtain ⟨x,r,t⟩:=ex_lt l;obtain ⟨r,u⟩:=mm r;have A:0<=x.2/\x.2<=x.1.am:=j (tw x) (pL r);have D:=i x.1 (iU r)
  have le:=AL (f:=λz:Row×Rat=>z.1.part) (g:=λz=>z.2) (Z:=Z.filter λz=>!decide (z.1.rank=k)) λz p=>by
   obtain ⟨p,s⟩:=mn p;have C:=i z.1 (iU p);have w:0<=z.2/\z.2<=z.1.am:=j (tw z) (pL p)
   rcases Int.lt_or_gt_of_ne s with c|c
   ·have q:z.2=z.1.am:=b (tw z) (pL p) (tw x) (pL r) (by show z.1.rank<x.1.rank;lia) (by show 0<x.2;grind)
    grind
   ·by_cases pz:0<z.1.part
    ·have:=a x.1 (iU r) z.1 (iU p) ⋯ pz
     grind
    ·grind
  grind
 ·by_cases m:zH ((Z.filter λz=>decide (z.1.rank=k)).map (·.2))<zH ((Z.filter λz=>decide (z.1.rank=k)).map (·.1.part))
  ·obtain ⟨x,r,t⟩:=ex_lt m;obtain ⟨r,u⟩:=mm r;have A:0<=x.2/\x.2<=x.1.am:=j (tw x) (pL r);have D:=i x.1 (iU r)
   have le:=AL (f:=λz:Row×Rat=>z.2) (g:=λz=>z.1.part) (Z:=Z.filter λz=>!decide (z.1.rank=k)) λz p=>by
    obtain ⟨p,s⟩:=mn p;have C:=i z.1 (iU p);have w:0<=z.2/\z.2<=z.1.am:=j (tw z) (pL p)
    rcases Int.lt_or_gt_of_ne s with c|c
    ·have q:=a z.1 (iU p) x.1 (iU r) ⋯ (by grind)
     grind
    ·by_cases pz:0<z.2
     ·have q:x.2=x.1.am:=b (tw x) (pL r) (tw z) (pL p) (by show x.1.rank<z.1.rank;lia) pz
      grind
     ·grind
   grind
  ·grind
end
def Hr {Z:List (Row×Rat)} (k:Int):(Z.map (·.1)).filter (·.rank=k)=(Z.filter (·.1.rank=k)).map (·.1):=by rw [List.filter_map];rfl
def Hq {Z:List (Row×Rat)} (k:Int):(Z.map tw).filter (·.rank=k)=(Z.filter (·.1.rank=k)).map tw:=by rw [List.filter_map];rfl
theorem smad {α:Type} {f g:α->Rat}:∀{Z:List α},zH (Z.map λz=>f z+g z)=zH (Z.map f)+zH (Z.map g)
 |[]=>by show (0:Rat)=0+0;grind
 |z::Z=>by rw [Qk,Qk,Qk,zH,zH,zH,smad];grind
theorem sm0 {α:Type} {f:α->Rat}:∀{Z:List α},(∀z∈Z,f z=0)->zH (Z.map f)=0
 |[],_=>rfl
 |z::Z,h=>by rw [Qk,zH,h z (Qe ..),sm0 λx g=>h x (Qf _ g)];grind
theorem Bm {k:Int} {x:Rat}:∀{m:List Int},m.Pairwise (·<·)->k∈m->zH (m.map λg=>if k=g then x else 0)=x
 |[],_,h=>absurd h Qp
 |g::m,hp,h=>by
  rw [Qo] at hp;rw [Qk,zH]
  rcases Qn.mp h with rfl|h
  ·rw [QH rfl,sm0 λz p=>QS (by have:=hp.1 z p;lia)]
   grind
  ·rw [QS (by have:=hp.1 k h;lia),Bm hp.2 h]
   grind
theorem eZ {α:Type} (key:α->Int) (w:α->Rat) {m:List Int} (p:m.Pairwise (·<·)):∀l:List α,(∀c∈l,key c∈m)->zH (m.map λg=>zH ((l.filter λc=>decide (key c=g)).map w))=zH (l.map w)
 |[],_=>sm0 λz _=>rfl
 |c::l,h=>by
  rw [Qk,zH,<-eZ key w p l λx q=>h x (Qf _ q),<-Bm (x:=w c) p (h c (Qe ..)),<-smad];refine YA λg _=>?_
  by_cases e:key c=g
  ·rw [List.filter_cons_of_pos ‹e›,Qk,zH,QH e]
  ·rw [List.filter_cons_of_neg ‹e›,QS e];grind
def fgr1 {Z:List (Row×Rat)} (k:Int):(Z.map (·.1)).filter (·.group=k)=(Z.filter (·.1.group=k)).map (·.1):=by rw [List.filter_map];rfl
def fgr2 {Z:List (Row×Rat)} (k:Int):(Z.map tw).filter (·.group=k)=(Z.filter (·.1.group=k)).map tw:=by rw [List.filter_map];rfl
def so {A B:List Row->Prop} (G:∀Z:List (Row×Rat),A (Z.map (·.1))->A (Z.map tw)->zH (Z.map (·.1.part))=zH (Z.map (·.2))->∀z∈Z,z.1.part=z.2) (D:∀Z:List (Row×Rat),B (Z.map (·.1))->B (Z.map tw)->zH (Z.map (·.1.part))=zH (Z.map (·.2))->∀z∈Z,z.1.part=z.2)
 {Z:List (Row×Rat)} (a1:∀g,B ((Z.map (·.1)).filter (·.group=g))) (a2:∀g,B ((Z.map tw).filter (·.group=g))) (w:A (VV (Z.map (·.1)))) (t:A (VV (Z.map tw))) (e:zH (Z.map (·.1.part))=zH (Z.map (·.2))):∀z∈Z,z.1.part=z.2:=by
 have I:xJ (Z.map tw)=xJ (Z.map (·.1)):=xZ (xm _).1 (xm _).1 λk=>by rw [(xm _).2,(xm _).2,Qm,Qm];exact Iff.rfl
 have m:=xm (Z.map (·.1))
 have K:VV (Z.map (·.1))=((xJ (Z.map (·.1))).map λg=>((⟨Ym ((Z.map (·.1)).filter (·.group=g)),jg (((Z.map (·.1)).filter (·.group=g)).map (·.rank)),g,Yl ((Z.map (·.1)).filter (·.group=g))⟩:Row),Yl ((Z.map tw).filter (·.group=g)))).map (·.1):=by
  rw [Qm];rfl
 have J:VV (Z.map tw)=((xJ (Z.map (·.1))).map λg=>((⟨Ym ((Z.map (·.1)).filter (·.group=g)),jg (((Z.map (·.1)).filter (·.group=g)).map (·.rank)),g,Yl ((Z.map (·.1)).filter (·.group=g))⟩:Row),Yl ((Z.map tw).filter (·.group=g)))).map tw:=by
  unfold VV;rw [I,Qm];refine QC λg _=>?_;show (⟨Ym ((Z.map tw).filter (·.group=g)),jg (((Z.map tw).filter (·.group=g)).map (·.rank)),g,Yl ((Z.map tw).filter (·.group=g))⟩:Row)=⟨Ym ((Z.map (·.1)).filter (·.group=g)),jg (((Z.map (·.1)).filter (·.group=g)).map (·.rank)),g,Yl ((Z.map tw).filter (·.group=g))⟩;rw [fgr1,fgr2,Bp,Qm,Qm];rfl
 have mem:∀z∈Z,z.1.group∈xJ (Z.map (·.1)):=λz p=>(m.2 _).mpr (Qi.mpr ⟨z.1,iU p,rfl⟩);have C:=eZ (λz:Row×Rat=>z.1.group) (λz=>z.1.part) m.1 Z mem;have y:=eZ (λz:Row×Rat=>z.1.group) (λz=>z.2) m.1 Z mem;rw [K] at w;rw [J] at t
 have u:=G _ w t (by
  rw [Qm,Qm];show zH ((xJ (Z.map (·.1))).map λg=>Yl ((Z.map (·.1)).filter (·.group=g)))=zH ((xJ (Z.map (·.1))).map λg=>Yl ((Z.map tw).filter (·.group=g)));simp only [fgr1,fgr2,FA,Fz]
  rw [C,y,e])
 intro z p;have q:=u _ (Qi.mpr ⟨z.1.group,mem z p,rfl⟩);have q:Yl ((Z.map (·.1)).filter (·.group=z.1.group))=Yl ((Z.map tw).filter (·.group=z.1.group)):=q;have s:=a1 z.1.group;have r:=a2 z.1.group;rw [fgr1] at s q;rw [fgr2] at r q;rw [FA,Fz] at q;exact D _ s r q z (Tb.mpr ⟨p,by simp⟩)
theorem uniq:∀{r:Rl} {Z:List (Row×Rat)},yL r (Z.map (·.1))->yL r (Z.map tw)->zH (Z.map (·.1.part))=zH (Z.map (·.2))->∀z∈Z,z.1.part=z.2
 | .shares,Z,a,b,e=>qW a.1 b.1 a.2 b.2 e
 | .evenly,Z,a,b,e=>aB a.2 b.2 e
 | .losses,Z,a,b,e=>DX (aB (by have:=a.2;rwa [fl1] at this) (by have:=b.2;rwa [fl2] at this) (DW e))
 | .halves,Z,a,b,e=>nW (λZ a b e=>aB a.2 b.2 e) (λZ a b e=>DX (aB (by have:=a.2;rwa [fl1] at this) (by have:=b.2;rwa [fl2] at this) (DW e))) a.2 b.2 e
 | .other r,Z,a,b,e=>DX (uniq (by have:=a.2;rwa [fl1] at this) (by have:=b.2;rwa [fl2] at this) (DW e))
 | .ranks r,Z,a,b,e=>λz p=>by
   have m:=a.2.1 z.1.rank;have g:=b.2.1 z.1.rank;rw [Hr] at m;rw [Hq] at g;exact uniq m g (FY a.1 b.1 a.2.2 b.2.2 e z.1.rank) z (Tb.mpr ⟨p,by simp⟩)
 | .groups x y,Z,a,b,e=>so (λZ a b e=>uniq a b e) (λZ a b e=>uniq a b e) a.2.1 b.2.1 a.2.2 b.2.2 e
 | .upto _ _ x y,Z,a,b,e=>nW (λZ a b e=>uniq a b e) (λZ a b e=>uniq a b e) a.2 b.2 e
def zipZ (l:List Cl) (v w:List Rat):List (Row×Rat):=(zA l v).zip w
theorem zip1:∀{l:List Cl} {v w:List Rat},v.length=l.length->w.length=l.length->(zipZ l v w).map (·.1)=zA l v/\(zipZ l v w).map tw=zA l w/\(zipZ l v w).map (·.1.part)=v/\(zipZ l v w).map (·.2)=w
 |[],[],[],_,_=>⟨rfl,rfl,rfl,rfl⟩
 |c::l,x::v,y::w,h1,h2=>by
  obtain ⟨a,b,d,e⟩:=zip1 (Nat.succ.inj h1) (Nat.succ.inj h2);refine ⟨congrArg (yO c x::·) a,congrArg (yO c y::·) b,congrArg (x::·) d,congrArg (y::·) e⟩
def KS {Z:List (Row×Rat)} (h:∀z∈Z,z.1.part=z.2):Z.map (·.1.part)=Z.map (·.2):=QC h
def DY {r:Rl} {l:List Cl} {v w:List Rat} (p:v.length=l.length) (hw:w.length=l.length) (a:yL r (zA l v)) (b:yL r (zA l w)) (e:zH v=zH w):v=w:=by
 obtain ⟨z1,z2,m,g⟩:=zip1 p hw;rw [<-z1] at a;rw [<-z2] at b;have:=KS (uniq a b (by rw [m,g];exact e));rwa [m,g] at this
def vQ (g:v.length=l.length):zA l v=(List.range l.length).map λi=>yO (l.getD i (0,0,0)) (v.getD i 0):=by
 unfold zA;refine Tg λi=>?_;rw [Qr,Qg]
 by_cases h:i<l.length
 ·rw [List.getElem?_range h,Qb h,Qb ⋯];simp [Ql,Qb h,Qb (show i<v.length by lia)]
 ·rw [QD (l:=l) ⋯,QD (l:=List.range l.length) (by rw [jaE];lia)];rfl
theorem og:∀{l:List Cl} {v:List Rat},v.length=l.length->Yl (zA l v)=zH v
 |[],[],_=>rfl
 |c::l,x::v,h=>by
  have:=og (Nat.succ.inj h);unfold Yl zA at*;rw [jak,Qk,zH,zH,this];rfl
def DI (m:v.length=l.length) (i:InQ (zA l v)):0<=zH v/\zH v<=zH (amQ l):=by
 have a:=AL λx g=>(i x g).2;have b:=AL λx g=>(i x g).1;rw [sm0 λ_ _=>rfl] at b;have q:zH ((zA l v).map (·.part))=zH v:=og m;have p:zH ((zA l v).map (·.am))=zH (amQ l):=Zs m;rw [q] at a b;rw [p] at a;exact ⟨b,a⟩
section
variable {r x y a b:Rl} {l:List Cl} {tk:List Int}
noncomputable def Ud (r:Rl) (l:List Cl) (tk:List Int):Bool:=@decide (FitG r l tk) (Classical.propDecidable _)
def XO:Ud r l tk=true↔FitG r l tk:=by
 unfold Ud;exact @decide_eq_true_iff _ (Classical.propDecidable _)
def Vm (h:FitG r l tk↔c=true):Ud r l tk=c:=jbC.mpr (XO.trans h)
def XZ {i:Nat} {q:Rat} (h:(yo tk)[i]? =some q):∃p:Int,tk[i]? =some p/\q=(p:Rat):=by
 unfold yo at h;rw [Qg] at h
 cases e:tk[i]? with
 |none=>rw [e] at h;cases h
 |some p=>rw [e] at h;exact ⟨p,rfl,(QJ h).symm⟩
def EH {i:Nat} {c:Cl} (g:l[i]? =some c):(amV l)[i]? =some c.1:=by unfold amV;rw [Qg,g];rfl
def InB.len (h:InB (amV l) tk):tk.length=l.length:=by rw [h.1,yf]
def InB.inQ (h:InB (amV l) tk):InQ (zA l (yo tk)):=λx g=>by
 obtain ⟨i,c,q,s,m,rfl⟩:=xi g;obtain ⟨p,hp,rfl⟩:=XZ m;have:=h.2 i c.1 p (EH s) hp;exact ⟨QK.mpr this.1,QK.mpr this.2⟩
def Vy.evenQ (h:Vy (amV l) tk):xo (zA l (yo tk)):=by
 refine ⟨InB.inQ ⟨h.1,λi a p ha hp=>⟨(h.2 i a p ha hp).1,(h.2 i a p ha hp).2.1⟩⟩,λx s lt y m=>?_⟩;obtain ⟨i,c,q,u,t,rfl⟩:=xi s;obtain ⟨p,hp,rfl⟩:=XZ t;obtain ⟨j,d,A,hd,w,rfl⟩:=xi m;obtain ⟨g,z,rfl⟩:=XZ w;exact QK.mpr ((h.2 i c.1 p (EH u) hp).2.2 (jaB.mp lt) g (Qc z))
def Ed:FitG .evenly l tk↔Vy (amV l) tk:=⟨λh=>h.evenly,λh=>⟨by rw [h.1,yf],h.evenQ.1,h.evenQ⟩⟩
def Ea (g:InB (amV l) tk):FitG .losses l tk↔Vy (amV l) (xB (amV l) tk):=⟨λh=>h.losses,λh=>⟨g.len,g.inQ,by rw [<-ah];exact h.evenQ⟩⟩
def Ht (g:InB (amV l) tk):FitG (.other r) l tk↔FitG r l (xB (amV l) tk):=⟨λh=>h.other,λh=>⟨g.len,g.inQ,by rw [<-ah];exact h.fit⟩⟩
def tV (g:tk.length=l.length):Ym (zA l (yo tk))=(((amV l).sum:Int):Rat)/\Yl (zA l (yo tk))=((tk.sum:Int):Rat):=
 ⟨by rw [Zs (by rw [ZD];exact g),xh],by rw [Zr (by rw [ZD];exact g),Xz]⟩
def DZ (g:InB (amV l) tk):FitG .shares l tk↔tk.map (·*(amV l).sum)=(amV l).map (·*tk.sum):=by
 refine ⟨λh=>h.shares,λh=>⟨g.len,g.inQ,λx m=>?_⟩⟩;obtain ⟨i,c,q,t,s,rfl⟩:=xi m;obtain ⟨p,hp,rfl⟩:=XZ s;rw [(tV g.len).1,(tV g.len).2];have e:=congrArg (λz:List Int=>z[i]?) h;simp only [Qg,hp,EH t,Option.map_some] at e;have e:=QJ e;show (p:Rat)*_=(c.1:Rat)*_;rw [<-QP,<-QP,e]
def Eb:FitG .halves l tk↔FitG (.upto 1 2 .evenly .losses) l tk:=by
 refine ⟨λh=>h.halves,λh=>⟨h.len,h.fit.1,?_⟩⟩;have g:Rat.divInt 1 2=(1:Rat) / 2:=by decide+kernel
 have f:=h.fit.2;rw [g] at f;exact f
def aZ (m:0<c) (h:yL r (L.map (Row.scale c))):yL r L:=by
 have f:=yL.scale (Rat.inv_pos.mpr m) h;have e:c*c⁻¹=1:=To _ (by grind)
 have g:(L.map (Row.scale c)).map (Row.scale c⁻¹)=L:=by
  rw [Qm];refine (QC λx _=>?_).trans (List.map_id L);show Row.mk _ _ _ _=x;simp only [Row.scale,Rat.mul_assoc,e,Rat.mul_one]
 rw [g] at f;exact f
def Kz {t b:Int} (p:0<b) (g:InB (amV l) tk):FitG (.upto t b x y) l tk↔if (yw b tk).sum<=(amV (zO t l)).sum then FitG x (zO t l) (yw b tk) else FitG y (zO (b - t) l) (xB (yw b tk) (amV (zO t l))):=by
 refine ⟨λh=>h.upto p,λh=>⟨g.len,g.inQ,?_⟩⟩;have m:=Yd p;have bn:b≠0:=⋯
 have e:=yq (t:=t) bn;unfold Zn;rw [(tV g.len).1,(tV g.len).2]
 have iff:((tk.sum:Int):Rat)<=(((amV l).sum:Int):Rat)*Rat.divInt t b↔(yw b tk).sum<=(amV (zO t l)).sum:=by
  rw [xE,Xx,Xx,<-gQ m,<-QK,QP,QP,<-e]
  constructor<;>intro z<;>grind
 by_cases c:(yw b tk).sum<=(amV (zO t l)).sum
 ·rw [QH c] at h;rw [QH (iff.mpr c)];have f:=h.fit;rw [md bn] at f;exact aZ m f
 ·rw [QS c] at h;rw [QS (λz=>c (iff.mp z))];have f:=h.fit;rw [xE,lZ bn] at f;exact aZ m f
noncomputable abbrev pkR (k:Int) (l:List Cl) (tk:List Int):List Int:=zX 0 (zR (zM k) l) tk
noncomputable def rkB (r:Rl) (l:List Cl) (tk:List Int):Bool->List Int->Bool
 |_,[]=>true
 |fl,k::ks=>if (!fl && (pkR k l tk).any λx=>decide (0<x))=true then false else if Ud r (l.filter (zM k)) (pkR k l tk)=true then rkB r l tk (fl && decide (pkR k l tk=pkR k l (amV l))) ks else false
theorem BU:∀(p:List Int) (fl:Bool),rkB r l tk fl p=true↔(∀k∈p,FitG r (l.filter (zM k)) (pkR k l tk))/\(fl=false->∀k∈p,∀x∈pkR k l tk,¬0<x)/\p.Pairwise λk m=>pkR k l tk=pkR k l (amV l)\/∀x∈pkR m l tk,¬0<x
 |[],fl=>⟨λ_=>⟨λk g=>absurd g Qp,λ_ k g=>absurd g Qp, .nil⟩,λ_=>rfl⟩
 |k::p,fl=>by
  have w:=BU p (fl && decide (pkR k l tk=pkR k l (amV l)))
  have an:(pkR k l tk).any (λx=>decide (0<x))=true↔∃x∈pkR k l tk,0<x:=by
   rw [List.any_eq_true];exact ⟨λ⟨x,h,h'⟩=>⟨x,h,Qw h'⟩,λ⟨x,h,h'⟩=>⟨x,h,Te h'⟩⟩
  rw [rkB,Qo]
  by_cases c:(!fl && (pkR k l tk).any λx=>decide (0<x))=true
  ·rw [QH c];obtain ⟨D,C⟩:=Bool.and_eq_true_iff.mp c;obtain ⟨x,s,x0⟩:=an.mp C;refine ⟨λz=>Bool.noConfusion z,λh=>absurd x0 (h.2.1 ‹D› k (Qe ..) x s)⟩
  ·rw [QS c];have G:fl=false->∀x∈pkR k l tk,¬0<x:=λz x s x0=>c (Bool.and_eq_true_iff.mpr ⟨by rw [z];rfl,an.mpr ⟨x,s,x0⟩⟩)
   by_cases f:Ud r (l.filter (zM k)) (pkR k l tk)=true
   ·rw [QH f,w]
    constructor
    ·rintro ⟨u,q,t⟩
     refine ⟨λm g=>?_,λz m g=>?_,λm g=>?_,t⟩
     ·rcases Qn.mp g with rfl|g
      ·exact XO.mp f
      ·exact u m g
     ·rcases Qn.mp g with rfl|g
      ·exact G z
      ·exact q (by rw [z];rfl) m g
     ·by_cases e:pkR k l tk=pkR k l (amV l)
      ·exact .inl e
      ·exact .inr (q (by rw [TF e,Bool.and_false]) m g)
    ·rintro ⟨u,q,t,A⟩
     refine ⟨λm g=>u m (Qf _ g),λz m g=>?_,A⟩
     cases fl with
     |false=>exact q rfl m (Qf _ g)
     |true=>
      rw [Bool.true_and] at z;exact (t m g).resolve_left (of_decide_eq_false z)
   ·rw [QS f];exact ⟨λz=>Bool.noConfusion z,λh=>absurd (XO.mpr (h.1 k (Qe ..))) f⟩
def Hs (C:InB (amV l) tk):FitG (.ranks r) l tk↔rkB r l tk true (zS l)=true:=by
 have ok:=yH l;have D:=C.len;rw [BU]
 constructor
 ·intro h;refine ⟨λk _=>h.ranks k,λz=>Bool.noConfusion z,ok.1.imp λ{k k'} lt=>?_⟩
  by_cases e:pkR k l tk=pkR k l (amV l)
  ·exact .inl e
  ·refine .inr λx A x0=>?_;obtain ⟨i,s,ne⟩:∃i∈zR (zM k) l,tk.getD i 0≠(amV l).getD i 0:=Classical.byContradiction λno=>e (QC λi s=>Classical.byContradiction λh=>no ⟨i,s,h⟩);obtain ⟨j,I,rfl⟩:=Qi.mp A;have P:=(Zv (zM k) l).lt i s;have jl:=(Zv (zM k') l).lt j I;have g:=Qb P;have hd:=Qb jl;have hp:=Qb (l:=tk) (i:=i) ⋯;have m:=Qb (l:=tk) (i:=j) ⋯;have rk:l[i].2.1=k:=Qw ((Yr g).mp s);have t:l[j].2.1=k':=Qw ((Yr hd).mp I);rw [zG m] at x0;have:=h.order g hp hd m (by rw [rk,t];exact lt) x0;rw [zG hp,zG (EH g)] at ne;exact ne this
 ·rintro ⟨X,_,U⟩
  refine ⟨D,C.inQ,λk=>?_,λx A y T lt L=>?_⟩
  ·rw [XE (zM k) _ (λc x=>rfl) D]
   by_cases G:k∈zS l
   ·exact (X k G).fit
   ·have e:l.filter (zM k)=[]:=List.filter_eq_nil_iff.mpr λc g z=>G ((ok.2 k).mpr (Qi.mpr ⟨c,g,Qw z⟩));rw [e];exact Yb r
  ·obtain ⟨i,c,q,g,m,rfl⟩:=xi A;obtain ⟨p,hp,rfl⟩:=XZ m;obtain ⟨j,d,q',hd,Ng,rfl⟩:=xi T;obtain ⟨M,MB,rfl⟩:=XZ Ng;have O:c.2.1∈zS l:=(ok.2 _).mpr (Qi.mpr ⟨c,Qc g,rfl⟩);have N:d.2.1∈zS l:=(ok.2 _).mpr (Qi.mpr ⟨d,Qc hd,rfl⟩);have lt:c.2.1<d.2.1:=lt;obtain ⟨w,K,Z⟩:=QI O;obtain ⟨u,J,Y⟩:=QI N
   have ij:w<u:=Nat.lt_of_not_le λz=>by
    rcases Nat.lt_or_eq_of_le z with z|z
    ·have:=QN.mp ok.1 u w J K z;lia
    ·subst z;lia
   have mem:∀{i:Nat} {c:Cl},l[i]? =some c->i∈zR (zM c.2.1) l:=λ{i c} g=>(Yr g).mpr (Te rfl)
   rcases QN.mp U w u K J ij with z|z
   ·rw [Z] at z;have:=(List.map_inj_left.mp z) i (mem g);rw [zG hp,zG (EH g)] at this;exact congrArg (λz:Int=>(z:Rat)) this
   ·rw [Y] at z;exact absurd (jaB.mp L) (z M (Qi.mpr ⟨j,mem hd,zG MB⟩))
def Bj (t:tk.length=l.length):VV (zA l (yo tk))=zA (zK l) (yo (WN (zF l) l tk)):=by
 have u:xJ (zA l (yo tk))=zF l:=by
  have:(zA l (yo tk)).map (·.group)=l.map (·.2.2):=by
   unfold zA;rw [jbe]
   apply Tg
   intro i;rw [Qr,Qg]
   cases e1:l[i]? with
   |none=>rfl
   |some c=>
    have m:=(Qd.mp e1).1;rw [Qb (by rw [ZD,t];exact m)];rfl
  exact xZ (xm _).1 (zU l).1 λk=>by rw [(xm _).2,this,(zU l).2]
 unfold VV;rw [u];unfold zA zK yo WN;rw [Qm,jbv,List.zipWith_self];refine QC λg _=>?_;have s:=XE (zC g) (λx=>decide (x.group=g)) (λc x=>rfl) t;unfold zA at s;have ln:(yo (zX 0 (zR (zC g) l) tk)).length=(l.filter (zC g)).length:=by rw [ZD,Zw,xH]
 have q:=Zs ln;have p:=Zr ln;unfold zA at q p
 have w:(List.zipWith yO (l.filter (zC g)) (yo (zX 0 (zR (zC g) l) tk))).map (·.rank)=(l.filter (zC g)).map (·.2.1):=by
  rw [jbe]
  apply Tg
  intro i;rw [Qr,Qg]
  cases e1:(l.filter (zC g))[i]? with
  |none=>rfl
  |some c=>
   have m:=(Qd.mp e1).1;rw [Qb (by rw [ln];exact m)];rfl
 show Row.mk (Ym ((List.zipWith yO l (yo tk)).filter λx=>decide (x.group=g))) (jg (((List.zipWith yO l (yo tk)).filter λx=>decide (x.group=g)).map (·.rank))) g (Yl ((List.zipWith yO l (yo tk)).filter λx=>decide (x.group=g)))=yO (AO g (l.filter (zC g))) (((zX 0 (zR (zC g) l) tk).sum:Int):Rat);rw [s,q,p,w,Xz,xh];rfl
def Ec (m:InB (amV l) tk):FitG (.groups a b) l tk↔(∀g∈zF l,FitG b (l.filter (zC g)) (zX 0 (zR (zC g) l) tk))/\FitG a (zK l) (WN (zF l) l tk):=by
 refine ⟨λh=>⟨λg _=>h.group g,h.outer⟩,λh=>⟨m.len,m.inQ,λg=>?_,?_⟩⟩
 ·rw [XE (zC g) _ (λc x=>rfl) m.len]
  by_cases p:g∈zF l
  ·exact (h.1 g p).fit
  ·have e:l.filter (zC g)=[]:=List.filter_eq_nil_iff.mpr λc q z=>p (((zU l).2 g).mpr (Qi.mpr ⟨c,q,Qw z⟩));rw [e];exact Yb b
 ·rw [Bj m.len];exact h.2.fit
end
theorem pB {α:Type} {R:α->α->Prop}:∀{L:List α},L.Pairwise R->∀x∈L,∀y∈L,x=y\/R x y\/R y x
 |[],_,x,hx,_,_=>absurd hx Qp
 |a::L,h,x,hx,y,hy=>by
  obtain ⟨g,r⟩:=Qo.mp h
  rcases Qn.mp hx with ex|q<;>rcases Qn.mp hy with m|p
  ·exact .inl (ex.trans m.symm)
  ·rw [ex];exact .inr (.inl (g y p))
  ·rw [m];exact .inr (.inr (g x q))
  ·exact pB r x q y p
def m0:x∈[x,y]:=Qe ..
def m1:y∈[x,y]:=Qf _ (Qe ..)
def InQ.flip (h:InQ L):InQ (L.map Row.flip):=λx m=>by
 obtain ⟨y,g,rfl⟩:=Qi.mp m;have:=h y g;exact ⟨by show 0<=y.am - y.part;grind,by show y.am - y.part<=y.am;grind⟩
def qX {L:List Row} (h:L.Pairwise λx y=>Wz [x,y]):Wz L:=λx m=>by
 have key:∀y∈L,y.am*x.part=y.part*x.am:=λy g=>by
  have two:∀{x y:Row},Wz [x,y]->x.part*y.am=x.am*y.part:=λ{x y} h=>by
   have:=h x m0;simp only [Ym,Yl,zH,Qk,TC] at this
   grind
  rcases pB h x m y g with rfl|z|z
  ·grind
  ·have:=two z;grind
  ·have:=two z;grind
 have e:=YA key;rw [tQ,tQ] at e;unfold Ym Yl
 grind
def aC {L:List Row} (i:InQ L) (h:L.Pairwise λx y=>xo [x,y]):xo L:=⟨i,λx m lt y g=>by
 rcases pB h x m y g with rfl|z|z
 ·exact QQ
 ·exact z.2 x m0 lt y m1
 ·exact z.2 x m1 lt y m0⟩
def nZ {p:Rat} (N:p<1) {X Y:List Row->Prop} (G:∀L,X L->InQ L) (D:∀L,Y L->InQ L) (J:∀L,InQ L->(L.Pairwise λx y=>X [x,y])->X L) (I:∀L,InQ L->(L.Pairwise λx y=>Y [x,y])->Y L) (C:∀L,jF L->Y L) {L:List Row} (i:InQ L) (h:L.Pairwise λx y=>Zn p X Y [x,y]):Zn p X Y L:=by
 have both:∀{x y:Row},Zn p X Y [x,y]->(X [x.first p,y.first p]/\x.part<=x.am*p/\y.part<=y.am*p)\/(Y [x.rest p,y.rest p]/\x.am*p<=x.part/\y.am*p<=y.part):=λ{x y} u=>by
  unfold Zn at u
  split at u
  ·have q:=G _ u;exact .inl ⟨u,(q _ m0).2,(q _ m1).2⟩
  ·have q:=D _ u;have M:0<=x.part - x.am*p:=(q _ m0).1;have K:0<=y.part - y.am*p:=(q _ m1).1;exact .inr ⟨u,by grind,by grind⟩
 unfold Zn
 by_cases al:∀x∈L,x.part<=x.am*p
 ·have s:Yl L<=Ym L*p:=by
   unfold Yl Ym;rw [<-tQ];exact AL al
  rw [QH s];refine J _ (λx g=>?_) (QZ.mpr ((List.pairwise_iff_forall_sublist.mpr λ{x y} sb=>?_)))
  ·obtain ⟨y,m,rfl⟩:=Qi.mp g;exact ⟨(i y m).1,al y m⟩
  ·have g:=sb.subset m0;have m:=sb.subset m1;have u:=List.pairwise_iff_forall_sublist.mp h sb;have a1:=al x g;have a2:=al y m;unfold Zn at u;rw [QH (by simp only [Ym,Yl,zH,Qk,TC];grind)] at u;exact u
 ·obtain ⟨z,A,t⟩:∃z∈L,¬z.part<=z.am*p:=Classical.byContradiction λno=>al λx g=>Classical.byContradiction λh=>no ⟨x,g,h⟩
  have r:∀x∈L,x.am*p<=x.part:=λx g=>by
   rcases pB h z A x g with rfl|u|u
   ·grind
   ·rcases both u with ⟨_,b,_⟩|⟨_,_,b⟩
    ·exact absurd b t
    ·exact b
   ·rcases both u with ⟨_,_,b⟩|⟨_,b,_⟩
    ·exact absurd b t
    ·exact b
  have s:¬Yl L<=Ym L*p:=λs=>by
   have le:zH (L.map λx=>x.am*p)<=zH (L.map (·.part)):=AL r
   have e:zH (L.map λx=>x.am*p)=zH (L.map (·.part)):=by
    unfold Yl Ym at s;rw [<-tQ] at s
    grind
   have:=Zk r e z A
   grind
  rw [QS s];refine I _ (λx g=>?_) (QZ.mpr ((List.pairwise_iff_forall_sublist.mpr λ{x y} sb=>?_)))
  ·obtain ⟨y,m,rfl⟩:=Qi.mp g;have a:=r y m;have b:=i y m;exact ⟨by show 0<=y.part - y.am*p;grind,by show y.part - y.am*p<=y.am*(1 - p);grind⟩
  ·have g:=r x (sb.subset m0);have m:=r y (sb.subset m1)
   rcases both (List.pairwise_iff_forall_sublist.mp h sb) with ⟨_,b,c⟩|⟨u,_⟩
   ·refine C _ λw hw=>?_;have P:=i x (sb.subset m0);have O:=i y (sb.subset m1)
    rcases Qn.mp hw with rfl|hw
    ·exact ⟨by show x.part - x.am*p=0;grind,QO (by grind) (by grind)⟩
    ·rw [Qq.mp hw];exact ⟨by show y.part - y.am*p=0;grind,QO (by grind) (by grind)⟩
   ·exact u
theorem cnvQ:∀{r:Rl},NG r->POk r->∀{L:List Row},InQ L->(L.Pairwise λx y=>yL r [x,y])->yL r L
 | .shares,_,_,L,i,h=>⟨i,qX (h.imp λh=>h.2)⟩
 | .evenly,_,_,L,i,h=>⟨i,aC i (h.imp λh=>h.2)⟩
 | .losses,_,_,L,i,h=>⟨i,aC i.flip (QZ.mpr (h.imp λh=>h.2))⟩
 | .halves,_,_,L,i,h=>by
   refine ⟨i,nZ (by decide+kernel) (λL h=>h.1) (λL h=>h.1) (λL i h=>⟨i,aC i (h.imp λh=>h.2)⟩) (λL i h=>⟨i,aC i.flip (QZ.mpr (h.imp λh=>h.2))⟩) (λL h=>?_) i (h.imp λh=>h.2)⟩;exact ⟨(xo.none h).1,xo.full h.flip⟩
 | .other r,n,p,L,i,h=>⟨i,cnvQ (r:=r) n p i.flip (QZ.mpr (h.imp λh=>h.2))⟩
 | .ranks r,n,p,L,i,h=>by
   refine ⟨i,λk=>cnvQ (r:=r) n p (λx g=>i x (Tb.mp g).1) (List.pairwise_filter.mpr (h.imp λ{x y} h g m=>?_)),λx g y m lt q=>?_⟩
   ·have f:=h.2.1 k;simp only [jbw,g,m,if_true,List.filter_nil] at f;exact f
   ·rcases pB h x g y m with rfl|z|z
    ·exact absurd lt (Int.lt_irrefl _)
    ·exact z.2.2 x m0 y m1 lt q
    ·exact z.2.2 x m1 y m0 lt q
 | .groups _ _,n,_,_,_,_=>absurd n id
 | .upto t b x y,n,p,L,i,h=>⟨i,nZ (mE p.1).2 (λL h=>h.inQ) (λL h=>h.inQ) (λL i h=>cnvQ n.1 p.2.1 i h) (λL i h=>cnvQ n.2 p.2.2 i h) (XN n.2 p.2.2).1 i (h.imp λh=>h.2)⟩
def Cy (g:GF r l P) (m:v.length=l.length) (i:InQ (zA l v)):zg P (zH v)=v↔yL r (zA l v):=by
 obtain ⟨s0,s1⟩:=DI m i;have f:=g.good.fit (zH v) s0
 constructor
 ·intro e;rw [e] at f;exact f
 ·intro h;refine DY g.ful.std.len m f h ?_;rw [g.ful.std.sum s0];unfold mn
  split
  ·rfl
  ·grind
def Ful.parts (h:Ful m T as P) (h0:0<=e):∀q∈zg P e,0<=q/\q<=T:=by
 have nn:∀q∈zg P e,0<=q:=λq g=>by
  obtain ⟨i,t,rfl⟩:=QI g;have ln:=h.std.len (e:=e);have z:=h.std.zero;have pm:=h.pm;obtain ⟨r,p⟩:=h.std.cons;rw [p] at pm;have mo:=YO h0 pm QQ;rw [<-p,z] at mo;exact mo i 0 _ (by rw [QX,QH ⋯]) (Qb t)
 obtain ⟨_,le⟩:=ZV nn;have s:=h.std.sum h0;have m1:mn e T<=T:=by unfold mn;split<;>grind
 intro q g;have:=le q g;exact ⟨nn q g,by grind⟩
section
def RuS.dens (h:RuS t r) (ok:ClS t l) (he:DQ de e):∀q∈zg (zQ r l) e,DQ (de+4*XX t r+t) q:=by
 have g:=(h.gf ok).ful;have u:=YT h.pok ok.n1 ok.sum;refine bI (m:=0) (T:=(amV l).sum) he ok.sum g.std.rise (λc s=>?_) u;have p:=g.std.range s;rw [xh] at p;exact p
def RuS.part (h:RuS t r) (ok:ClS t l) (he:DQ de e) (h0:0<=e):∀q∈zg (zQ r l) e,0<=q/\SzQ (de+4*XX t r+2*t+2) q:=λq g=>by
 have p:=(h.gf ok).ful.parts h0 q g;rw [xh] at p;exact ⟨p.1,((h.dens ok he q g).sz p.1 p.2 (VY (Yg ok.n1)) ok.sum).mono ⋯⟩
end
def Je (h:a.Sublist b):(∀c∈b,0<=c.1)->(amV a).sum<=(amV b).sum:=by
 induction h with
 |slnil=>intro _;exact jbF _
 |cons x h g=>
  intro nn;have:=g λc m=>nn c (Qf _ m);have:=nn x (Qe ..);show _<=x.1+(amV _).sum;lia
 |cons_cons x h g=>
  intro nn;have:=g λc m=>nn c (Qf _ m);show x.1+(amV _).sum<=x.1+(amV _).sum;lia
section
end
section
noncomputable def dW (A:RAd) (t n:Nat):Sp:=spT (α:=Rl×List Cl×Rat) (λa=>[a.1.ins A,zo a.2.1,frD a.2.2]) (λa=>((RuS t a.1/\a.1.deep<=n)/\ClS t a.2.1)/\SzQ 6800 a.2.2/\0<=a.2.2) (λa=>yj (zg (zQ a.1 a.2.1) a.2.2))
def oX (S:Sta B G0 H cs ds) (q:Has ds (r.ins A) v) (h:Has ds (zo l) w) (m:Has ds (frD e) u) (ru:RuS t r) (hn:r.deep<=n) (ok:ClS t l) (g:SzQ 6800 e) (e0:0<=e) (k:∀p H',zV H H'->Sta B G0 H' cs ((yj (zg (zQ r l) e),p)::ds)->Q p H'):dW A t n [v,w,u] H Q E:=Ye (r,l,e) S (.cons q (.cons h (.cons m .nil))) ⟨⟨⟨ru,hn⟩,ok⟩,g,e0⟩ k
noncomputable def kZ (t:Nat):Sp:=spB (α:=Rl×List Cl×Rat) (λa=>[a.1.shape,zo a.2.1,frD a.2.2,yj (zg (zQ a.1 a.2.1) a.2.2)]) (λa=>((RuS t a.1/\Vp a.1<=12)/\ClS t a.2.1)/\SzQ 6800 a.2.2/\0<=a.2.2/\∀p∈zg (zQ a.1 a.2.1) a.2.2,SzQ 8900 p) (λ_=> .bl true)
def BZ (S:Sta B G0 H cs ds) (A:Has ds r.shape u) (y:Has ds (zo l) v) (t:Has ds (frD e) w) (s:Has ds (yj (zg (zQ r l) e)) z) (ru:RuS m r) (hd:Vp r<=12) (ok:ClS m l) (q:SzQ 6800 e) (e0:0<=e) (g:∀p∈zg (zQ r l) e,SzQ 8900 p) (k:∀H',zV H H'->Sta B G0 H' cs ds->Q (.bl true) H'):kZ m [u,v,w,z] H Q E:=Vb (r,l,e) (S.hpAll (.cons A (.cons y (.cons t (.cons s .nil))))) ⟨⟨⟨ru,hd⟩,ok⟩,q,e0,g⟩ λH' e=>k H' e (S.same e)
end
def PSG (g:Bool) (r:Rl):Prop:=PS6 r/\(g=false->NG r)
def Kx (n:Nat):NG (nr n):=by
 match n with
 |0=>exact trivial
 |1=>exact trivial
 |2=>exact trivial
 |n+3=>exact trivial
section
variable {B G0 H:Hp} {cs:xg} {ds:Dat} {Q:VK} {v w:V}
def DrG (g:Bool) (r:Rl):Prop:=Drn r/\(g=false->NG r)
def kW:Sp:=λvs H Q _=>∃(G:Hp) (ns:List Int) (g:Bool) (v:V),vs=[v, .bl g]/\zV G H/\Is G (Zb ns) v/\ns.length<=6/\∀w H' G' (r:Rl),Grow G H G' H'->Is G' r.shape w->DrG g r->Q w H'
def BY (S:Sta B G0 H cs ds) (h:Has ds (Zb ns) v) (p:ns.length<=6) (k:∀w H' (r:Rl),DrG g r->zV H H'->Sta B G0 H' cs ((r.shape,w)::ds)->Q w H'):kW [v, .bl g] H Q E:=by
 obtain ⟨G,S⟩:=S;refine ⟨G,ns,g,v,rfl,S.2.1,h G S.2.2.2.2.2.2,p,λw H' z r gr m good=>k w H' r good gr.h ?_⟩;obtain ⟨y,u,t,d',s,q,g'⟩:=S.grow gr;exact ⟨z,y,u,t,d',s,q,g'.cons m⟩
def jQ (S:Sta H G H' cs ds) (k:∀w H' m (r:Rl),Grow G H m H'->Is m r.shape w->DrG g r->Q w H') (h:Has ds r.shape w) (p:DrG g r):Q w H':=
 Zc S (λv H' m a b=>k v H' m r a b p) h
def lj:Sp:=λvs H Q _=>∃(G:Hp) (g c:Int),vs=[.int g, .int c]/\zV G H/\(0<=g/\Sz 180 g)/\∀v H' G' (e:Rat),Grow G H G' H'->Is G' (frD e) v->(0<=e/\SzQ 300 e)/\DQ 40 e->Q v H'
def Cb (S:Sta B G0 H cs ds) (m:0<=wh/\Sz 180 wh) (k:∀v H' (e:Rat),(0<=e/\SzQ 300 e)/\DQ 40 e->zV H H'->Sta B G0 H' cs ((frD e,v)::ds)->Q v H'):lj [.int wh, .int c] H Q E:=by
 obtain ⟨G,S⟩:=S;refine ⟨G,wh,c,rfl,S.2.1,m,λv H' u e gr g good=>k v H' e good gr.h ?_⟩;obtain ⟨t,s,r,d',q,p,g'⟩:=S.grow gr;exact ⟨u,t,s,r,d',q,p,g'.cons g⟩
def fU (S:Sta H G H' cs ds) (k:∀v H' g (e:Rat),Grow G H g H'->Is g (frD e) v->(0<=e/\SzQ 300 e)/\DQ 40 e->Q v H') (h:Has ds (frD e) v) (m:0<=e/\SzQ 300 e) (hd:DQ 40 e):Q v H':=
 Zc S (λv H' g a b=>k v H' g e a b ⟨m,hd⟩) h
def uP (m:0<j) (g:j<=2 ^ 40):DQ 40 (Rat.divInt i j):=by
 refine ⟨j,⟨m,g⟩,i,?_⟩;rw [Rat.divInt_eq_div];exact Rat.div_mul_cancel λz=>absurd (Rat.intCast_eq_zero_iff.mp z) ⋯
end
structure FitD (n:Nat) (r:Rl) (l:List Cl) (tk:List Int):Prop where
 pok:POk r
 dep:Vp r<=n
 hn:n<=20
 few:l.length<=8
 sz:∀x∈amV l,Sz (100000 - 300*n) x
 len:tk.length=l.length
 szt:∀x∈tk,Sz (100000 - 300*n) x
section
def Bd (g:Sz k z) (h:∀x∈tk,Sz m x):∀x∈yw z tk,Sz (k+m) x:=λx q=>by
 obtain ⟨p,hp,rfl⟩:=Qi.mp q;exact g.mul (h p hp)
def uu (h:q∈xB am tk):∃(i:Nat) (a p:Int),am[i]? =some a/\tk[i]? =some p/\q=a - p:=by
 obtain ⟨i,g,e⟩:=QI h;unfold xB at g e;rw [QB] at g;rw [Ta] at e;exact ⟨i,_,_,Qb ⋯,Qb ⋯,e.symm⟩
def mG (h:∀x∈tk,Sz m x) (hp:∀i∈pl,i<tk.length):∀x∈zX 0 pl tk,Sz m x:=λx g=>by
 obtain ⟨i,p,rfl⟩:=Qi.mp g;have e:=Qb (hp i p);rw [zG e];exact h _ (Qc e)
def FitD.other (h:FitD (n+1) (.other r) l tk) (g:InB (amV l) tk):FitD n r l (xB (amV l) tk):=
 ⟨h.pok,by have:=h.dep;simp only [Vp] at this;lia,by have:=h.hn;lia,h.few,λx m=>(h.sz x m).mono ⋯,mV h.len,λq s=>by
  obtain ⟨i,a,p,ha,hp,rfl⟩:=uu s;have:=g.2 i a p ha hp
  exact (Uq ⋯ ⋯ (h.sz a (Qc ha))).mono ⋯⟩
def FitD.halves (h:FitD (n+1) .halves l tk):FitD n (.upto 1 2 .evenly .losses) l tk:=
 ⟨⟨port12,trivial,trivial⟩,by have:=h.dep;simp only [Vp] at this⊢;lia,by have:=h.hn;lia,h.few,λx g=>(h.sz x g).mono ⋯,h.len,λx g=>(h.szt x g).mono ⋯⟩
def FitD.first (h:FitD (n+1) (.upto t b x y) l tk):FitD n x (zO t l) (yw b tk):=by
 have p:=h.pok.1;have d:=h.dep;simp only [Vp] at d;have hn:=h.hn;exact ⟨h.pok.2.1,⋯,⋯,by rw [yQ];exact h.few,λx g=>by rw [xE] at g;exact (Bd p.1.1 h.sz x g).mono ⋯,by rw [xS,yQ];exact h.len,λx g=>(Bd p.1.2 h.szt x g).mono ⋯⟩
def FitD.rest (h:FitD (n+1) (.upto t b x y) l tk):FitD n y (zO (b - t) l) (xB (yw b tk) (amV (zO t l))):=by
 have p:=h.pok.1;have d:=h.dep;simp only [Vp] at d;have hn:=h.hn;have r:Sz 211 (b - t):=p.1.2.sub p.1.1;refine ⟨h.pok.2.2,⋯,⋯,by rw [yQ];exact h.few,λx g=>by rw [xE] at g;exact (Bd r h.sz x g).mono ⋯,?_,λq m=>?_⟩
 ·rw [xE,yQ,XG (by rw [xS,xS,yf,h.len]),xS];exact h.len
 ·rw [xE] at m;obtain ⟨i,a,c,ha,s,rfl⟩:=uu m;exact ((Bd p.1.2 h.szt a (Qc ha)).sub (Bd p.1.1 h.sz c (Qc s))).mono ⋯
def FitD.ranks (h:FitD (n+1) (.ranks r) l tk) (k:Int):FitD n r (l.filter (zM k)) (zX 0 (zR (zM k) l) tk):=
 ⟨h.pok,by have:=h.dep;simp only [Vp] at this;lia,by have:=h.hn;lia,Tc (jav _ _) h.few,λx g=>(h.sz x (iD _ g)).mono ⋯,by rw [Zw,xH],λx g=>(mG h.szt (λi m=>by rw [h.len];exact (Zv _ l).lt i m) x g).mono ⋯⟩
def FitD.group (h:FitD (n+1) (.groups a b') l tk) (g:Int):FitD n b' (l.filter (zC g)) (zX 0 (zR (zC g) l) tk):=
 ⟨h.pok.2,by have:=h.dep;simp only [Vp] at this;lia,by have:=h.hn;lia,Tc (jav _ _) h.few,λx m=>(h.sz x (iD _ m)).mono ⋯,by rw [Zw,xH],λx m=>(mG h.szt (λi p=>by rw [h.len];exact (Zv _ l).lt i p) x m).mono ⋯⟩
def FitD.outer (h:FitD (n+1) (.groups a b') l tk):FitD n a (zK l) (WN (zF l) l tk):=by
 have hn:=h.hn;have fl:∀g,(l.filter (zC g)).length<=8:=λg=>Tc (jav _ _) h.few;refine ⟨h.pok.1,by have:=h.dep;simp only [Vp] at this;lia,⋯,by rw [xK];exact Tc (YE l) h.few,λx m=>?_,by unfold WN;rw [Qa,xK],λx m=>?_⟩
 ·obtain ⟨c,r,rfl⟩:=Qi.mp m;obtain ⟨g,q,rfl⟩:=Qi.mp r;refine (Bk 8 (by rw [yf];exact fl g) λa ha=>h.sz a (iD _ ha)).mono ⋯
 ·obtain ⟨g,q,rfl⟩:=Qi.mp m;exact (Bk 8 (by rw [Zw,xH];exact fl g) (mG h.szt λi p=>by rw [h.len];exact (Zv _ l).lt i p)).mono ⋯
def InB.of (g:tk.length=l.length) (h:∀(i:Nat) (a p:Int),i<(amV l).length->(amV l)[i]? =some a->tk[i]? =some p->0<=p/\p<=a):InB (amV l) tk:=⟨by rw [yf];exact g,λi a p ha hp=>h i a p (Qd.mp ha).1 ha hp⟩
def KA (m:0<b) (g:InB (amV l) tk):Ud (.upto t b x y) l tk=if (yw b tk).sum<=(amV (zO t l)).sum then Ud x (zO t l) (yw b tk) else Ud y (zO (b - t) l) (xB (yw b tk) (amV (zO t l))):=by
 refine Vm ((Kz m g).trans ?_)
 split<;>exact XO.symm
def Hv (g:InB (amV l) tk):Ud (.other r) l tk=Ud r l (xB (amV l) tk):=Vm ((Ht g).trans XO.symm)
def Eg:Ud .halves l tk=Ud (.upto 1 2 .evenly .losses) l tk:=Vm (Eb.trans XO.symm)
def Hu (g:InB (amV l) tk):Ud (.ranks r) l tk=rkB r l tk true (zS l):=Vm (Hs g)
def Ee (g:InB (amV l) tk):Ud .shares l tk=decide (tk.map (·*(amV l).sum)=(amV l).map (·*tk.sum)):=Vm ((DZ g).trans decide_eq_true_iff.symm)
def IB (h:¬FitG r l tk):Ud r l tk=false:=Bool.eq_false_iff.mpr λz=>h (XO.mp z)
noncomputable def evB (am tk:List Int):Bool:=@decide (Vy am tk) (Classical.propDecidable _)
def Hw:evB am tk=true↔Vy am tk:=by
 unfold evB;exact @decide_eq_true_iff _ (Classical.propDecidable _)
def evB_f:evB am tk=false↔¬Vy am tk:=by rw [<-Hw,Bool.not_eq_true]
def Eh:Ud .evenly l tk=evB (amV l) tk:=Vm (Ed.trans Hw.symm)
def Ef (g:InB (amV l) tk):Ud .losses l tk=evB (amV l) (xB (amV l) tk):=Vm ((Ea g).trans Hw.symm)
def Ao {m:Int} (w:tk.length=am.length) (hm:m∈0::tk) (top:∀x∈0::tk,x<=m):Vy am tk↔∀(i:Nat) (a p:Int),am[i]? =some a->tk[i]? =some p->0<=p/\p<=a/\(p<a->p=m):=by
 constructor
 ·intro h i a p ha hp;obtain ⟨s,r,g⟩:=h.2 i a p ha hp;refine ⟨s,r,λlt=>?_⟩;have t:=top p (Qf _ (Qc hp))
  rcases Qn.mp hm with z|z
  ·lia
  ·have:=g lt m z;lia
 ·intro h;refine ⟨w,λi a p ha hp=>?_⟩;obtain ⟨s,r,g⟩:=h i a p ha hp;exact ⟨s,r,λlt q u=>by rw [g lt];exact top q (Qf _ u)⟩
end
section
noncomputable def qV:Sp:=spB (α:=List Int×List Int) (λa=>[Zb a.1,Zb a.2]) (λa=>a.1.length<=8/\a.2.length=a.1.length) (λa=> .bl (evB a.1 a.2))
def tZ (S:Sta B G0 H cs ds) (m:Has ds (Zb am) v) (g:Has ds (Zb tk) w) (l:am.length<=8) (e:tk.length=am.length) (k:∀H',zV H H'->Sta B G0 H' cs ds->Q (.bl (evB am tk)) H'):qV [v,w] H Q E:=Vb (am,tk) (S.hpAll (.cons m (.cons g .nil))) ⟨l,e⟩ λH' e=>k H' e (S.same e)
noncomputable def Wm (n:Nat):Sp:=spB (α:=Rl×List Cl×List Int) (λa=>[a.1.shape,zo a.2.1,Zb a.2.2]) (λa=>FitD n a.1 a.2.1 a.2.2) (λa=> .bl (Ud a.1 a.2.1 a.2.2))
def Ya (S:Sta B G0 H cs ds) (p:Has ds r.shape u) (m:Has ds (zo l) v) (g:Has ds (Zb tk) w) (ok:FitD n r l tk) (k:∀H',zV H H'->Sta B G0 H' cs ds->Q (.bl (Ud r l tk)) H'):Wm n [u,v,w] H Q E:=Vb (r,l,tk) (S.hpAll (.cons p (.cons m (.cons g .nil)))) ok λH' e=>k H' e (S.same e)
noncomputable def Jf (n:Nat):Sp:=spB (α:=(Int×Int)×(Rl×Rl)×List Cl×List Int) (λa=>[(Rl.upto a.1.1 a.1.2 a.2.1.1 a.2.1.2).shape,zo a.2.2.1,Zb a.2.2.2]) (λa=>FitD n (Rl.upto a.1.1 a.1.2 a.2.1.1 a.2.1.2) a.2.2.1 a.2.2.2/\InB (amV a.2.2.1) a.2.2.2) (λa=> .bl (Ud (Rl.upto a.1.1 a.1.2 a.2.1.1 a.2.1.2) a.2.2.1 a.2.2.2))
def rd_upD (S:Sta B G0 H cs ds) (q:Has ds (Rl.upto t b x y).shape u) (p:Has ds (zo l) v) (m:Has ds (Zb tk) w) (ok:FitD n (.upto t b x y) l tk) (g:InB (amV l) tk) (k:∀H',zV H H'->Sta B G0 H' cs ds->Q (.bl (Ud (.upto t b x y) l tk)) H'):Jf n [u,v,w] H Q E:=Vb ((t,b),(x,y),l,tk) (S.hpAll (.cons q (.cons p (.cons m .nil)))) ⟨ok,g⟩ λH' e=>k H' e (S.same e)
noncomputable def Jh (n:Nat):Sp:=spB (α:=Rl×List Cl×List Int) (λa=>[a.1.shape,zo a.2.1,Zb a.2.2]) (λa=>FitD n (.ranks a.1) a.2.1 a.2.2/\InB (amV a.2.1) a.2.2) (λa=> .bl (Ud (.ranks a.1) a.2.1 a.2.2))
def rd_rkD (S:Sta B G0 H cs ds) (q:Has ds r.shape u) (p:Has ds (zo l) v) (m:Has ds (Zb tk) w) (ok:FitD n (.ranks r) l tk) (g:InB (amV l) tk) (k:∀H',zV H H'->Sta B G0 H' cs ds->Q (.bl (Ud (.ranks r) l tk)) H'):Jh n [u,v,w] H Q E:=Vb (r,l,tk) (S.hpAll (.cons q (.cons p (.cons m .nil)))) ⟨ok,g⟩ λH' e=>k H' e (S.same e)
noncomputable def Ji (n:Nat):Sp:=spB (α:=(Rl×Rl)×List Cl×List Int) (λa=>[(Rl.groups a.1.1 a.1.2).shape,zo a.2.1,Zb a.2.2]) (λa=>FitD n (.groups a.1.1 a.1.2) a.2.1 a.2.2/\InB (amV a.2.1) a.2.2) (λa=> .bl (Ud (.groups a.1.1 a.1.2) a.2.1 a.2.2))
def rd_grD (S:Sta B G0 H cs ds) (q:Has ds (Rl.groups x y).shape u) (p:Has ds (zo l) v) (m:Has ds (Zb tk) w) (ok:FitD n (.groups x y) l tk) (g:InB (amV l) tk) (k:∀H',zV H H'->Sta B G0 H' cs ds->Q (.bl (Ud (.groups x y) l tk)) H'):Ji n [u,v,w] H Q E:=Vb ((x,y),l,tk) (S.hpAll (.cons q (.cons p (.cons m .nil)))) ⟨ok,g⟩ λH' e=>k H' e (S.same e)
end
def iG (l:List Cl) (v:List Rat):Prop:=v.length=l.length/\∀(i:Nat) (c:Cl) (p:Rat),l[i]? =some c->v[i]? =some p->0<=p/\p<=(c.1:Rat)
theorem pF {α:Type} (d:α):∀{l:List α} {i j:Nat},i<j->j<l.length->(zX d [i,j] l).Sublist l
 |[],_,_,_,h=>absurd h (Nat.not_lt_zero _)
 |a::l,_,0,h,_=>absurd h (Nat.not_lt_zero _)
 |a::l,0,j+1,_,h=>by
  show [a,l.getD j d].Sublist (a::l);refine List.Sublist.cons_cons _ (List.singleton_sublist.mpr ?_);rw [Ql,Qb ‹h›];exact QY _
 |a::l,i+1,j+1,ME,h=>(pF d (l:=l) (Nat.lt_of_succ_lt_succ ME) ‹h›).cons a
section
def iG.inQ (h:iG l v):InQ (zA l v):=λx g=>by
 obtain ⟨i,c,q,p,m,rfl⟩:=xi g;exact h.2 i c q p m
def ClS.two (h:ClS t l) (m:i<j) (jl:j<l.length):ClS t (zX (0,0,0) [i,j] l):=by
 have s:=pF ((0,0,0):Cl) m jl;exact ⟨by show 0<2;decide,Tc s.length_le h.few,λc g=>h.nn c (s.subset g),jaL (Je s λc g=>(h.nn c g).1) h.sum⟩
def Rt (r:Rl) (l:List Cl) (v:List Rat) (i j:Nat):Prop:=yL r (zA (zX (0,0,0) [i,j] l) (zX 0 [i,j] v))
noncomputable def rtB (r:Rl) (l:List Cl) (v:List Rat) (i j:Nat):Bool:=@decide (Rt r l v i j) (Classical.propDecidable _)
def Jq:rtB r l v i j=true↔Rt r l v i j:=by
 unfold rtB;exact @decide_eq_true_iff _ (Classical.propDecidable _)
def JK (p:v.length=l.length):(zA l v).Pairwise R↔∀i j,i<j->j<l.length->R (yO (l.getD i (0,0,0)) (v.getD i 0)) (yO (l.getD j (0,0,0)) (v.getD j 0)):=by
 rw [vQ p,QZ,QN]
 constructor
 ·intro h i j m g;have:=h i j (by rw [jaE];lia) (by rw [jaE];exact g) m;rwa [List.getElem_range,List.getElem_range] at this
 ·intro h i j q g m;rw [jaE] at g;rw [List.getElem_range,List.getElem_range];exact h i j m g
def EI (m:NG r) (po:POk r) (g:iG l v):yL r (zA l v)↔∀i j,i<j->j<l.length->Rt r l v i j:=by
 have p:=JK (R:=λx y=>yL r [x,y]) g.1
 constructor
 ·intro h;exact p.mp (List.pairwise_iff_forall_sublist.mpr λsb=>her m po h sb)
 ·intro h;exact cnvQ m po g.inQ (p.mpr h)
def iG.two (h:iG l v) (s:i<j) (jl:j<l.length):InQ (zA (zX (0,0,0) [i,j] l) (zX 0 [i,j] v)):=by
 have m:=h.inQ
 have one:∀k,k<l.length->yO (l.getD k (0,0,0)) (v.getD k 0)∈zA l v:=λk p=>by
  have r:=Qb p;have q:=Qb (l:=v) (i:=k) (by rw [h.1];exact p);rw [zG r,zG q];exact YL r q
 intro x g;have g:x∈[yO (l.getD i (0,0,0)) (v.getD i 0),yO (l.getD j (0,0,0)) (v.getD j 0)]:=g
 rcases Qn.mp g with rfl|g
 ·exact m _ (one i ⋯)
 ·rw [Qq.mp g];exact m _ (one j jl)
noncomputable def alP (r:Rl) (l:List Cl) (v:List Rat) (i j:Nat):List Rat:=zg (zQ r (zX (0,0,0) [i,j] l)) (v.getD i 0+v.getD j 0)
def al_iff (ru:RuS t r) (ok:ClS t l) (g:iG l v) (m:i<j) (jl:j<l.length):alP r l v i j=[v.getD i 0,v.getD j 0]↔Rt r l v i j:=by
 have:=Cy (v:=zX 0 [i,j] v) (ru.gf (ok.two m jl)) rfl (g.two m jl)
 have e:zH (zX 0 [i,j] v)=v.getD i 0+v.getD j 0:=by
  show v.getD i 0+(v.getD j 0+0)=_;rw [Rat.add_zero]
 rw [e] at this;exact this
def IL (ru:RuS t r) (ok:ClS t l) (g:i<j) (jl:j<l.length):(alP r l v i j).length=2:=(ru.gf (ok.two g jl)).ful.std.len
theorem fO (B:Int):∀{l:List Cl} {v:List Rat},zA (zO B l) (Ub (B:Rat) v)=(zA l v).map (Row.scale (B:Rat))
 |[],_=>rfl
 |_::_,[]=>rfl
 |c::l,q::v=>by
  show yO (B*c.1,c.2) (q*(B:Rat))::zA (zO B l) (Ub (B:Rat) v)=Row.scale (B:Rat) (yO c q)::(zA l v).map (Row.scale (B:Rat));rw [fO]
  congr 1
  simp only [yO,Row.scale,QP]
  congr 1
  grind
def uL (g:0<B) (s:v.length=l.length) (hd:∀p∈v,(p.den:Int)∣B):FitG r (zO B l) (tkV B v)↔yL r (zA l v):=by
 have q:=Yd g
 have m:yo (tkV B v)=Ub (B:Rat) v:=by
  unfold yo tkV Ub;rw [Qm];exact QC λp hp=>eU g (hd p hp)
 constructor
 ·intro h;have f:=h.fit;rw [m,fO] at f;exact aZ q f
 ·intro h;refine ⟨by unfold tkV;rw [Qa,yQ];exact s,?_⟩;rw [m,fO];exact yL.scale q h
structure DvOk (l:List Cl) (v:List Rat):Prop where
 good:iG l v
 sz:∀p∈v,SzQ 4499 p
 two:∀(i j:Nat) (p q:Rat),i<j->v[i]? =some p->v[j]? =some q->DQ 6600 (p+q)
def DvOk.at' (h:DvOk l v) (g:i<l.length):∃p,v[i]? =some p/\v.getD i 0=p/\0<=p/\SzQ 4499 p/\p∈v:=by
 have e:=Qb (l:=v) (i:=i) (by rw [h.good.1];exact g);exact ⟨_,e,zG e,(h.good.2 i _ _ (Qb g) e).1,h.sz _ (Qc e),Qc e⟩
def DvOk.sum2 (h:DvOk l v) (ok:ClS t l) (g:i<j) (jl:j<l.length):0<=v.getD i 0+v.getD j 0/\DQ 6600 (v.getD i 0+v.getD j 0)/\SzQ (t+6600+2) (v.getD i 0+v.getD j 0):=by
 obtain ⟨p,hp,ep,p0,_⟩:=h.at' (i:=i) ⋯;obtain ⟨q,r,eq,u,_⟩:=h.at' jl;have s:=(DI (v:=zX 0 [i,j] v) (l:=zX (0,0,0) [i,j] l) rfl (h.good.two g jl)).2
 have e:zH (zX 0 [i,j] v)=v.getD i 0+v.getD j 0:=by
  show v.getD i 0+(v.getD j 0+0)=_;rw [Rat.add_zero]
 rw [e,xh] at s;have d:=h.two i j p q g hp r;have m:=ok.two g jl;rw [ep,eq] at*;have z:0<=p+q:=by grind
 exact ⟨z,d,d.sz z s (VY (Yg m.n1)) m.sum⟩
structure FirstW (r:Rl) (l:List Cl) (v:List Rat) (i j:Nat):Prop where
 ij:i<j
 jl:j<l.length
 bad:¬Rt r l v i j
 first:∀i' j',i'<j'->j'<l.length->(i'<i\/(i'=i/\j'<j))->Rt r l v i' j'
def FirstW.uniq (h:FirstW r l v i j) (h':FirstW r l v i' j'):i=i'/\j=j':=by
 have a:¬(i'<i\/(i'=i/\j'<j)):=λz=>h'.bad (h.first i' j' h'.ij h'.jl z);have b:¬(i<i'\/(i=i'/\j<j')):=λz=>h.bad (h'.first i j h.ij h.jl z);lia
structure PrOk (n:Nat) (r:Rl) (l:List Cl) (v:List Rat):Prop where
 ru:RuS 33 r
 deep:r.deep<=n
 dep:Vp r<=12
 den:XX 33 r<=530
 cl:ClS 33 l
 dv:DvOk l v
noncomputable abbrev WG (r:Rl) (l:List Cl) (v:List Rat) (i j:Nat):PyData:= .tuple [.int (i:Int), .int (j:Int),frD ((alP r l v i j).getD 0 0),frD ((alP r l v i j).getD 1 0)]
end
def isAll5 (h:zL G [x,y,z,t,u] vs):∃a b c d e,vs=[a,b,c,d,e]/\Xw G [(x,a),(y,b),(z,c),(t,d),(u,e)]:=by
 simp only [zL] at h;obtain ⟨a,_,rfl,s,b,_,rfl,r,c,_,rfl,q,d,_,rfl,m,e,_,rfl,g,rfl⟩:=h;exact ⟨a,b,c,d,e,rfl,λp hp=>by simp at hp;rcases hp with rfl|rfl|rfl|rfl|rfl<;>assumption⟩
section
variable {B G0 H:Hp} {cs:xg} {ds:Dat} {Q:VK} {l:List Cl} {ps:List Rat}
def Jk:Sp:=spB (α:=List Cl×List Rat) (λa=>[zo a.1, .list (a.2.map frD)]) (λa=>(∀c∈a.1,Sz 160 c.1)/\(∀p∈a.2,SzQ 4499 p)/\a.1.length<=8/\iG a.1 a.2) (λ_=> .non)
def rd_dv0 (S:Sta B G0 H cs ds) (g:Has ds (zo l) v) (h:Has ds (.list (ps.map frD)) w) (ok:(∀c∈l,Sz 160 c.1)/\(∀p∈ps,SzQ 4499 p)/\l.length<=8/\iG l ps) (k:∀H',zV H H'->Sta B G0 H' cs ds->Q .non H'):Jk [v,w] H Q E:=Vb (l,ps) (S.hpAll (.cons g (.cons h .nil))) ok λH' e=>k H' e (S.same e)
noncomputable def qS (A:RAd) (n:Nat):Sp:=λvs H Q _=>∃(G:Hp) (r:Rl) (l:List Cl) (ps:List Rat),zV G H/\zL G [r.ins A,zo l, .list (ps.map frD)] vs/\PrOk n r l ps/\((∀i j,i<j->j<l.length->Rt r l ps i j)->∀H',zV H H'->Q .non H')/\∀i j,FirstW r l ps i j->∀w H' g,Grow G H g H'->Is g (WG r l ps i j) w->Q w H'
def FT (S:Sta B G0 H cs ds) (z:Has ds (r.ins A) v) (y:Has ds (zo l) w) (t:Has ds (.list (ps.map frD)) u) (ok:PrOk n r l ps) (q:(∀i j,i<j->j<l.length->Rt r l ps i j)->∀H',zV H H'->Sta B G0 H' cs ds->Q .non H') (m:∀i j,FirstW r l ps i j->∀p H',zV H H'->Sta B G0 H' cs ((WG r l ps i j,p)::ds)->Q p H'):qS A n [v,w,u] H Q E:=by
 have L:=S;obtain ⟨G,S⟩:=S;refine ⟨G,r,l,ps,S.2.1,((show yy ds [r.ins A,zo l, .list (ps.map frD)] [v,w,u] from .cons z (.cons y (.cons t .nil))) G S.2.2.2.2.2.2),ok,λg H' e=>q g H' e (L.same e),λi j f w H' M gr s=>m i j f w H' gr.h ?_⟩;obtain ⟨K,J,I,d',D,C,g'⟩:=S.grow gr;exact ⟨M,K,J,I,d',D,C,g'.cons s⟩
noncomputable def Bu:Sp:=spB (α:=(Rl×List Cl×List Rat)×Nat×Nat) (λa=>[a.1.1.shape,zo a.1.2.1, .list (a.1.2.2.map frD), .int (a.2.1:Int), .int (a.2.2:Int)]) (λa=>PrOk 7 a.1.1 a.1.2.1 a.1.2.2/\a.2.1<a.2.2/\a.2.2<a.1.2.1.length) (λa=> .bl (rtB a.1.1 a.1.2.1 a.1.2.2 a.2.1 a.2.2))
def Jt (S:Sta B G0 H cs ds) (p:Has ds r.shape v) (m:Has ds (zo l) w) (g:Has ds (.list (ps.map frD)) u) (ok:PrOk 7 r l ps) (q:i<j) (jl:j<l.length) (k:∀H',zV H H'->Sta B G0 H' cs ds->Q (.bl (rtB r l ps i j)) H'):Bu [v,w,u, .int (i:Int), .int (j:Int)] H Q E:=Vb ((r,l,ps),i,j) (S.hpAll (.cons p (.cons m (.cons g (.cons Has.int (.cons Has.int .nil)))))) ⟨ok,q,jl⟩ λH' e=>k H' e (S.same e)
noncomputable def fj:Sp:=λvs H Q _=>∃(r:Rl) (l:List Cl) (ps:List Rat) (v0 v1 v2 g:V),vs=[v0,v1,v2,g]/\zL H [r.shape,zo l, .list (ps.map frD)] [v0,v1,v2]/\PrOk 7 r l ps/\((g= .non/\∀i j,i<j->j<l.length->Rt r l ps i j)\/∃i j,FirstW r l ps i j/\Is H (WG r l ps i j) g)/\∀H',zV H H'->Q (.bl true) H'
def Cd (S:Sta B G0 H cs ds) (p:Has ds r.shape v) (m:Has ds (zo l) w) (g:Has ds (.list (ps.map frD)) u) (ok:PrOk 7 r l ps) (al:∀i j,i<j->j<l.length->Rt r l ps i j) (k:∀H',zV H H'->Sta B G0 H' cs ds->Q (.bl true) H'):fj [v,w,u, .non] H Q E:=⟨r,l,ps,_,_,_,_,rfl,S.hpAll (.cons p (.cons m (.cons g .nil))),ok, .inl ⟨rfl,al⟩,λH' e=>k H' e (S.same e)⟩
def Cc (S:Sta B G0 H cs ds) (q:Has ds r.shape v) (p:Has ds (zo l) w) (m:Has ds (.list (ps.map frD)) u) (g:Has ds (WG r l ps i j) x) (ok:PrOk 7 r l ps) (f:FirstW r l ps i j) (k:∀H',zV H H'->Sta B G0 H' cs ds->Q (.bl true) H'):fj [v,w,u,x] H Q E:=⟨r,l,ps,_,_,_,_,rfl,S.hpAll (.cons q (.cons p (.cons m .nil))),ok, .inr ⟨i,j,f,S.hp g⟩,λH' e=>k H' e (S.same e)⟩
structure PvOk (l:List Cl) (v:List Rat):Prop where
 good:iG l v
 dq:∀p∈v,DQ 2193 p
def qT:Sp:=spLx (α:=List Cl×List Rat×Int) (λa=>[zo a.1, .list (a.2.1.map frD), .int a.2.2]) (λa=>ClS 33 a.1/\2<=a.1.length/\PvOk a.1 a.2.1) (λa r=>∃g,r=g.map frD/\DvOk a.1 g)
def FU (S:Sta B G0 H cs ds) (t:Has ds (zo l) v) (s:Has ds (.list (ps.map frD)) w) (ok:ClS 33 l) (q:2<=l.length) (pv:PvOk l ps) (k:∀(m:List Rat) p H',DvOk l m->zV H H'->Sta B G0 H' ((p,m.map frD)::cs) ds->Q (.ref p) H'):qT [v,w, .int c] H Q E:=
 Ju (l,ps,c) S (.cons t (.cons s (.cons Has.int .nil))) ⟨ok,q,pv⟩ λr p H' hr e u=>by
  obtain ⟨m,rfl,g⟩:=hr;exact k m p H' g e u
def Bw (K:Frg) (A:RAd) (n:Nat):Sp:=λvs H Q _=>∃(G:Hp) (a:Addr) (ns:List Int) (r:Rl) (l:List Cl) (kind:Int) (v1 v2:V),vs=[.ref a,v1,v2, .int kind]/\zV G H/\SqL K H a (ns.map V.int)/\zL G [zo l,r.ins A] [v1,v2]/\((RuS 33 r/\r.deep<=n/\XX 33 r<=530)/\ClS 33 l)/\
 ∀(m:List Rat) (p:Addr) (H' g:Hp) (us:List V),DvOk l m->Grow G H g H'->H p=none->g p=none->H' p=some (.lst us)->zL g (m.map frD) us->Q (.ref p) H'
def JI {K:Frg} {A:RAd} {a:Addr} {ns:List Int} {kind:Int} (S:Sta B G0 H cs ds) (u:SqL K H a (ns.map V.int)) (y:Has ds (zo l) v) (m:Has ds (r.ins A) w) (ru:RuS 33 r) (hn:r.deep<=n) (hd:XX 33 r<=530) (ok:ClS 33 l)
 (k:∀(g:List Rat) (p:Addr) (H':Hp),DvOk l g->zV H H'->Sta B G0 H' ((p,g.map frD)::cs) ds->Q (.ref p) H'):Bw K A n [.ref a,v,w, .int kind] H Q E:=by
 obtain ⟨G,S⟩:=S;exact ⟨G,a,ns,r,l,kind,v,w,rfl,S.2.1,u,(show yy ds [zo l,r.ins A] [v,w] from .cons y (.cons m .nil)) G S.2.2.2.2.2.2,⟨⟨ru,hn,hd⟩,ok⟩,λg p H' z us m gr hp t s q=>k g p H' m gr.h (Sta.put_call S gr hp t s q)⟩
def tX (S:Sta H G H' ((p,ps.map frD)::cs) ds) (g:DvOk l ps) (k:∀(q:List Rat) (p:Addr) (H' m:Hp) (us:List V),DvOk l q->Grow G H m H'->H p=none->m p=none->H' p=some (.lst us)->zL m (q.map frD) us->Q (.ref p) H'):Q (.ref p) H':=xU S λp H' m us=>k ps p H' m us g
def PvOk.dv (h:PvOk l ps) (ok:ClS 33 l):DvOk l ps:=by
 refine ⟨h.good,λp hp=>?_,λi j p q _ hp s=>((h.dq p (Qc hp)).add (h.dq q (Qc s))).mono nofun⟩;obtain ⟨i,m,rfl⟩:=QI hp;have r:i<l.length:=by rw [<-h.good.1];exact m
 have g:=h.good.2 i _ _ (Qb r) (Qb m);have am:l[i].1∈amV l:=Qi.mpr ⟨_,QY _,rfl⟩;have le:=XF (Yg ok.n1) _ am;exact ((h.dq _ hp).sz g.1 g.2 (Yg ok.n1 _ am) (jaL le ok.sum)).mono nofun
def DQ.third (h:DQ d q):DQ (d+2) (q*(Rat.divInt k 3)):=by
 obtain ⟨D,⟨p,g⟩,m,hm⟩:=h;refine ⟨D*3,⟨⋯,?_⟩,m*k,?_⟩
 ·have:(2:Int) ^ (d+2)=2 ^ d*4:=by rw [Int.pow_add];rfl
  lia
 ·have e:Rat.divInt k 3*((3:Int):Rat)=(k:Rat):=by
   rw [Rat.divInt_eq_div];exact Rat.div_mul_cancel (by decide+kernel)
  rw [QP,QP,<-hm,<-e]
  grind
def Gy (h:PvOk l ps) (ok:ClS 33 l) (ij:i≠j) (hp:ps[i]? =some p) (A:ps[j]? =some q) (I:l[i]? =some c) (hd:l[j]? =some d) (m0:0<=m) (mp:m<=p) (mq:m<=(d.1:Rat) - q) (J:DQ 2195 m):DvOk l ((ps.set i (p - m)).set j (q+m)):=by
 have L:=(Qd.mp hp).1;have jl:=(Qd.mp A).1
 have at':∀{k:Nat} {z:Rat},((ps.set i (p - m)).set j (q+m))[k]? =some z->(k=j/\z=q+m)\/(k=i/\z=p - m)\/(k≠i/\k≠j/\ps[k]? =some z):=λ{k z} r=>by
  by_cases t:k=j
  ·subst t;rw [List.getElem?_set_self (by rw [jaH];exact jl)] at r;exact .inl ⟨rfl,(QJ r).symm⟩
  ·rw [jaR (Ne.symm t)] at r
   by_cases u:k=i
   ·subst u;rw [List.getElem?_set_self L] at r;exact .inr (.inl ⟨rfl,(QJ r).symm⟩)
   ·rw [jaR (Ne.symm u)] at r;exact .inr (.inr ⟨u,t,r⟩)
 have dp:=h.dq p (Qc hp);have dq:=h.dq q (Qc A);have U:=h.good.2 i c p I hp;have T:=h.good.2 j d q hd A;have D:DQ 4388 (p - m):=dp.sub J;have C:DQ 4388 (q+m):=dq.add J
 have good:iG l ((ps.set i (p - m)).set j (q+m)):=by
  refine ⟨by rw [jaH,jaH];exact h.good.1,λk O z s r=>?_⟩
  rcases at' r with ⟨rfl,rfl⟩|⟨rfl,rfl⟩|⟨_,_,r⟩
  ·rw [hd] at s;cases s;exact ⟨by grind,by grind⟩
  ·rw [I] at s;cases s;exact ⟨by grind,by grind⟩
  ·exact h.good.2 k O z s r
 have dz:∀{k:Nat} {z:Rat},((ps.set i (p - m)).set j (q+m))[k]? =some z->DQ 4388 z:=λ{k z} r=>by
  rcases at' r with ⟨rfl,rfl⟩|⟨rfl,rfl⟩|⟨_,_,r⟩
  ·exact C
  ·exact D
  ·exact (h.dq z (Qc r)).mono nofun
 refine ⟨good,λz r=>?_,λa b y z ab ha M=>?_⟩
 ·obtain ⟨k,G,rfl⟩:=QI r;have e:=Qb G;have K:k<l.length:=by rw [<-good.1];exact G
  have g:=good.2 k _ _ (Qb K) e;have am:l[k].1∈amV l:=Qi.mpr ⟨_,QY _,rfl⟩;have le:=XF (Yg ok.n1) _ am;exact ((dz e).sz g.1 g.2 (Yg ok.n1 _ am) (jaL le ok.sum)).mono nofun
 ·have both:DQ 6600 (p - m+(q+m)):=by
   rw [show p - m+(q+m)=p+q by grind];exact (dp.add dq).mono nofun
  have P:DQ 6600 (q+m+(p - m)):=by
   rw [show q+m+(p - m)=p+q by grind];exact (dp.add dq).mono nofun
  rcases at' ha with ⟨rfl,rfl⟩|⟨rfl,rfl⟩|⟨_,_,w⟩<;>rcases at' M with ⟨N,rfl⟩|⟨N,rfl⟩|⟨_,_,r⟩
  ·lia
  ·exact P
  ·exact (C.add (h.dq z (Qc r))).mono nofun
  ·exact both
  ·lia
  ·exact (D.add (h.dq z (Qc r))).mono nofun
  ·exact ((h.dq y (Qc w)).add C).mono nofun
  ·exact ((h.dq y (Qc w)).add D).mono nofun
  ·exact ((h.dq y (Qc w)).add (h.dq z (Qc r))).mono nofun
def RuS.pv (ru:RuS 33 r) (ok:ClS 33 l) (hd:XX 33 r<=530) (e0:0<=e) (he:DQ 40 e):PvOk l (zg (zQ r l) e):=by
 have g:=ru.gf ok;refine ⟨⟨g.ful.std.len,λi c p m hp=>(g.good.fit e e0).inQ _ (YL m hp)⟩,λp hp=>(ru.dens ok he p hp).mono ⋯⟩
def JE {K:Frg} {t:TGs} {σ:L2.St} {N:L2.St->Hp->Prop} {x y z r:PyData} (S:Sta B G0 H cs ds) (h:Has ds (.tuple [x,y,z,r]) v) (k:∀q p m g,Sta B G0 H cs ((x,q)::(y,p)::(z,m)::(r,g)::ds)->t [q,p,m,g] σ H N):kGT K 4 t σ N v H:=by
 refine Ip S h rfl λvs s u=>?_
 rcases vs with _|⟨q,_|⟨p,_|⟨m,_|⟨g,_|⟨w,t⟩⟩⟩⟩⟩<;>simp at s
 exact k q p m g u
def prD (x:Nat×Nat):PyData:= .tuple [.int (x.1:Int), .int (x.2:Int)]
def IM (r:Rl) (l:List Cl) (ps:List Rat) (g:Nat->Nat->Prop) (W:List (Nat×Nat)):Prop:=(W=[]/\∀i j,i<j->j<l.length->g i j->Rt r l ps i j)\/∃i j m,W=(i,j)::m/\FirstW r l ps i j
def IM.imp (h:IM r l ps dn W) (f:∀i j,i<j->j<l.length->dn' i j->dn i j\/Rt r l ps i j):IM r l ps dn' W:=by
 rcases h with ⟨e,h⟩|h
 ·exact .inl ⟨e,λi j a b c=>(f i j a b c).elim (h i j a b) id⟩
 ·exact .inr h
def IM.app (h:IM r l ps dn W) (q:i<j) (jl:j<l.length) (bad:¬Rt r l ps i j) (f:∀g m,(g<i\/(g=i/\m<j))->dn g m):IM r l ps dn' (W++[(i,j)]):=by
 rcases h with ⟨e,h⟩|⟨a,b,p,e,h⟩
 ·subst e;exact .inr ⟨i,j,[],rfl,q,jl,bad,λg m a b c=>h g m a b (f g m c)⟩
 ·subst e;exact .inr ⟨a,b,p++[(i,j)],rfl,h⟩
end
def all1 {p:List Value->Prop} (h:∀a,p [a]) (us:List Value) (g:us.length=1):p us:=by
 obtain ⟨a,rfl⟩:=List.length_eq_one_iff.mp g;exact h a
def all2 {p:List Value->Prop} (h:∀a b,p [a,b]) (us:List Value) (g:us.length=2):p us:=by
 cases us with
 |nil=>cases g
 |cons a us=>exact all1 (p:=λus=>p (a::us)) (h a) us (Nat.succ.inj g)
def all3 {p:List Value->Prop} (h:∀a b c,p [a,b,c]) (us:List Value) (g:us.length=3):p us:=by
 cases us with
 |nil=>cases g
 |cons a us=>exact all2 (p:=λus=>p (a::us)) (h a) us (Nat.succ.inj g)
def all4 {p:List Value->Prop} (h:∀a b c d,p [a,b,c,d]) (us:List Value) (g:us.length=4):p us:=by
 cases us with
 |nil=>cases g
 |cons a us=>exact all3 (p:=λus=>p (a::us)) (h a) us (Nat.succ.inj g)
def all5 {p:List Value->Prop} (h:∀a b c d e,p [a,b,c,d,e]) (us:List Value) (g:us.length=5):p us:=by
 cases us with
 |nil=>cases g
 |cons a us=>exact all4 (p:=λus=>p (a::us)) (h a) us (Nat.succ.inj g)
structure DkT (K:Frg) (mg:Str->Option Value) (nm:Str) (st:Stmt) (f:Addr) (fd:FuncData) (ps:List Str):Prop where
 F:Fun K nm nm st f fd
 m:mg nm=some (.ref f)
 b:xp K fd ps []
structure FkT (K:Frg) (x q:Str) (st:Stmt) (f:Addr) (fd:FuncData) (ps:List Str):Prop where
 F:Fun K x q st f fd
 b:xp K fd ps []
 k:PySem.W.keepIn K (.ref f)=true
section
variable {K:Frg} {h:Heap} {mg:Str->Option Value} {x q:Str} {st:Stmt} {f:Addr} {oc:Value} {od an:Option Addr} {osl:Array (Option Value)} {kV doc pm Mv ct:Value} {ps:List Str}
def fk_mk (l:K.lookup f=some ⟨oc,od, .func (PySem.W.fnOf x q (Yt st) (ZC st) (zu st) .none kV doc pm an Mv ct),osl⟩) (c:PySem.W.codeIn K Mv q=true) (k:PySem.W.keepIn K (.ref f)=true)
 (b:∀(kV doc pm:Value) (an:Option Addr) (Mv ct:Value) (us:List Value),us.length=ps.length->bindArgs (PySem.W.fnOf x q (Yt st) (ZC st) (zu st) .none kV doc pm an Mv ct) ⟨us,[]⟩=pure (ps.zip us)):
 FkT K x q st f (PySem.W.fnOf x q (Yt st) (ZC st) (zu st) .none kV doc pm an Mv ct) ps:=⟨pV l c k,(pV l c k).binds b,k⟩
def dk_mk (X:K.In h) (G:h.Ns mainGlobals mg) (a:PySem.W.nsIn K mainGlobals x=some (some (.ref f))) (l:K.lookup f=some ⟨oc,od, .func (PySem.W.fnOf x x (Yt st) (ZC st) (zu st) .none kV doc pm an Mv ct),osl⟩) (c:PySem.W.codeIn K Mv x=true) (k:PySem.W.keepIn K (.ref f)=true)
 (b:∀(kV doc pm:Value) (an:Option Addr) (Mv ct:Value) (us:List Value),us.length=ps.length->bindArgs (PySem.W.fnOf x x (Yt st) (ZC st) (zu st) .none kV doc pm an Mv ct) ⟨us,[]⟩=pure (ps.zip us)):
 DkT K mg x st f (PySem.W.fnOf x x (Yt st) (ZC st) (zu st) .none kV doc pm an Mv ct) ps:=⟨pV l c k,jay X G a,(pV l c k).binds b⟩
end
structure CkT (K:Frg) (c fI Ru fS fT fP fQ:Addr):Prop where
 e:PySem.W.findIn K (.ref c) "__init__"=some (some (.ref fI))
 es:PySem.W.findIn K (.ref c) "shape"=some (some (.ref fS))
 et:PySem.W.findIn K (.ref c) "text"=some (some (.ref fT))
 ep:PySem.W.findIn K (.ref c) "path"=some (some (.ref fP))
 eq:PySem.W.findIn K (.ref c) "parts"=some (some (.ref fQ))
 pg:PySem.W.plainGet K c Str.empty=true
 hd:PySem.W.hasDictIn K c=true
 po:PySem.W.plainOver K c=true
 sa:PySem.W.findIn K (.ref c) "__setattr__"=some (some (.builtin "object.__setattr__"))
 na:PySem.W.findIn K (.ref c) "form"=some none
 ha:PySem.W.findIn K (.ref c) "__class__"=some (some (.builtin "object.__class__"))
 mo:PySem.W.mroIn K c (.type "object")=some true
 kt:PySem.W.kitOne K (.ref c) (.ref Ru)=some true
 mq:PySem.W.makesIn K c=true
 nf:PySem.W.isFn K (.ref fI)=true
 kc:PySem.W.keepIn K (.ref c)=true
section
variable {K:Frg} {c fI Ru fS fT fP fQ:Addr}
def CkT.ok (Q:CkT K c fI Ru fS fT fP fQ) (n1:PySem.W.isFn K (.ref fS)=true) (p:PySem.W.keepIn K (.ref fS)=true) (g:PySem.W.isFn K (.ref fT)=true) (m:PySem.W.keepIn K (.ref fT)=true) (hn:PySem.W.specialIn K (.builtin "object.__class__") "__get__"=some (some (.builtin "getset_descriptor.__get__"))) (ht:PySem.W.takesIn K (.builtin "object.__class__")=some true):ROk K fS fT Ru c:=
 ⟨⟨Q.pg,Q.hd,Q.po,Q.sa⟩,Q.na,⟨Q.es,n1,p⟩,⟨Q.et,g,m⟩,Q.ha,hn,ht,Q.mo,Q.kt⟩
def CkT.MK (Q:CkT K c fI Ru fS fT fP fQ):Mk K c fI:=⟨Q.mq,Q.e,Q.nf,Q.kc⟩
def CkT.mp (Q:CkT K c fI Ru fS fT fP fQ) (n:PySem.W.isFn K (.ref fP)=true) (k:PySem.W.keepIn K (.ref fP)=true) (g:PySem.W.isFn K (.ref fQ)=true) (m:PySem.W.keepIn K (.ref fQ)=true):Meth K c "path" fP/\Meth K c "parts" fQ:=⟨⟨Q.ep,n,k⟩,⟨Q.eq,g,m⟩⟩
end
section
def ps_a (i:Nat)   (q:X.N.Nodup) (he:PE X e te) (p:X.N[i]? =some x:=by rfl) (g:Loc X.env.scope x:=by walk_at "o") (m:swapsWith e (some (.Name x pos')) pos.line X.env=pure false:=by rfl) (hf:X.fn x=true\/X.env.scope.names.lookup x=some .local:=by walk_at "f"):
 PS X (.Assign [.Name x pos'] e pos) (Li te (nk i)):=ps_set q p g he m hf
def pg_a (i:Nat)  (p:X.N.Nodup) (m:X.N[i]? =some x:=by rfl) (g:Loc X.env.scope x:=by walk_at "o") (hf:X.fn x=true\/X.env.scope.names.lookup x=some .local:=by walk_at "f"):PG X (.Name x pos) (nk i):=rN p m g hf
def pcl (C:Cal X.prog X.w X.K X.mg X.base CX0 k x ps sp) (hr:Room j X.A) (ha:PA X (e::es) t) (g:k<=j:=by walk_at "l") (m:Gl X x:=by rfl) (r:(x==("__debug__":Str))=false:=by decide) (he:starEach (e::es) X.env=(false,eval e X.env)::starEach es X.env:=by rfl) (q:(backTo pos (starEach es X.env)).any (·.1)=false:=by rfl):
 PE X (.Call (.Name x p) (e::es) [] pos) (vK sp [] E0 t):=pe_cal C hr g pass0 m ha r he q
def pix (i:Nat)   (p:X.N[i]? =some x:=by rfl) (g:Vis X.env.scope x:=by walk_at "v") (hd:(x==("__debug__":Str))=false:=by decide) (m:(x==("__classdict__":Str))=false:=by decide):PE X (.Subscript (.Name x p1) (.Constant (.int k) j p2) p3) (tOp (rIx X.K) (tVar i) (tC (.int k))):=pe_ix ix_seq (pv i p g hd m) ug (λ_ _=>rfl)
def pg_c (i:Nat)     (p:N.Nodup:=by decide+kernel) (m:(xD X N scope C ex s H).N[i]? =some x:=by rfl) (g:Loc (xD X N scope C ex s H).env.scope x:=by walk_at "o") (hf:(xD X N scope C ex s H).fn x=true\/(xD X N scope C ex s H).env.scope.names.lookup x=some .local:=by walk_at "f"):
 PG (xD X N scope C ex s H) (.Name x pos) (nk i):=rN p m g hf
def pcf (N:List Str) (n:Nat) (fr:List Nat)     (p:PI X tg iter wi) (q:∀{C ex s H},PG (xD X N scope C ex s H) tg (g C ex s H)) (ht:∀{C ex s H},PIf (xD X N scope C ex s H) ifs (tt C ex s H)) (he:∀{C ex s H},PE (xD X N scope C ex s H) elt (te C ex s H))
 (r:X.calm=true:=by rfl) (O:CompOk X N n fr scope:=by exact ⟨rfl,by decide+kernel,rfl,nofun,rfl,rfl,rfl,rfl,rfl⟩) (m:∀x,foldedSetIterable iter X.env x=pure x:=by intro _;rfl):
 PE X (.ListComp elt [⟨tg,iter,ifs,0⟩] scope pos) (vJ n fr wi g tt te):=JP r O p (λ_ _ _ _=>q) (λ_ _ _ _=>ht) (λ_ _ _ _=>he) m
def pscf (i:Nat) (y:X.N.Nodup) (N:List Str) (n:Nat) (fr:List Nat)      (t:PI X tg iter wi) (u:∀{C ex s H},PG (xD X N scope C ex s H) tg (g C ex s H)) (ht:∀{C ex s H},PIf (xD X N scope C ex s H) ifs (tt C ex s H)) (he:∀{C ex s H},PE (xD X N scope C ex s H) elt (te C ex s H))
 (p:X.N[i]? =some x:=by rfl) (r:X.env.scope.names.lookup x=some .local:=by rfl) (w:X.calm=true:=by rfl) (O:CompOk X N n fr scope:=by exact ⟨rfl,by decide+kernel,rfl,nofun,rfl,rfl,rfl,rfl,rfl⟩)
 (m:swapsWith (.ListComp elt [⟨tg,iter,ifs,0⟩] scope pos) (some (.Name x px)) spos.line X.env=pure true:=by rfl) (q:∀x,foldedSetIterable iter X.env x=pure x:=by intro _;rfl):
 PS X (.Assign [.Name x px] (.ListComp elt [⟨tg,iter,ifs,0⟩] scope pos) spos) (Li (vJ n fr wi g tt te) (nk i)):=wj y p r w O t (λ_ _ _ _=>u) (λ_ _ _ _=>ht) (λ_ _ _ _=>he) m q
def xA (a:sc.kind= .function:=by rfl) (b:sc.isCoroutine=false:=by rfl) (c:sc.isGenerator=false:=by rfl) (d:N.Nodup:=by decide+kernel) (e:N.take P.length=P:=by rfl) (f:∀x∈P,sc.names.lookup x=some .local\/sc.names.lookup x=some .cell:=by decide+kernel) (g:∀y∈sc.names,y.2≠ .free:=by decide+kernel):FnScope N P sc:=⟨a,b,c,d,e,f,g⟩
def _root_.L2.Fun.oo {P:Program} {w:World} {K:Frg} {mg:Str->Option Value} {base:Heap} {x qual:Str} {st:Stmt} {f:Addr} {fd:FuncData} {N ps:List Str} {k:Nat} {sp:Sp} (F:Fun K x qual st f fd) (s1:FnScope N ps (zu st))
 (m:∀{g:Value} {A:Around} {outer:List Env} {s:Shared} (H:Hp) (vs:List V) (Q:VK) (E:XK),Room k (A.deeper (envOfC qual (zu st) s.heap.objs.size f g))->N.Nodup->sp vs H Q E->
  ∃t,PSs (IE CX0 P w K mg base N qual (zu st) f g A outer s H E).nox (ZC st) t/\t {nx:=λ_ H'=>Q .non H',rt:=Q} (kS N vs) H) (len:∀vs H Q E,sp vs H Q E->vs.length=ps.length:=by walk_at "n"):FnOk P w K mg base CX0 (k+1) f fd ps sp:=F.ok s1 len λ_ _ _ _ H vs Q E hr h=>m H vs Q E hr s1.nd h
def yr (w:Wk B G0 J xs P) (f:Nat->PyData) (t:(List.range xs.length).map f=ys) (s1:Sta B G0 H cs ds)
 (u:∀(i:Nat) (x:PyData) (v:V) {m p:Hp} {q:VK} {A:Hp->Prop} {C ex s0 H0},xs[i]? =some x->Turn1 B G0 cs m p->Sta m p m [] ((x,v)::ds)->(∀{y:V} {r:Hp} {cs':xg} {ds':Dat},Sta m p r cs' ds'->Has ds' (f i) y->q y r)->
  g C ex s0 H0 v (List.replicate n none++frσ σ fr) m λσ4 H4=>σ4.drop n=frσ σ fr/\tt C ex s0 H0 σ4 H4 λb s=>if b=true then te C ex s0 H0 σ4 s q else A s)
 (k:∀D H',zV H H'->Sta B G0 H' ((D,ys)::cs) ds->Q (.ref D) H') (z:∀D ys,P ((D,ys)::cs) ds:=by intro _ _;exact .mem (by walk_at "mem")) (hn:xs.length<=1000:=by rw [Qa];lia):Hd n fr g tt te σ Q J H:=
 yt w f t s1 z hn (λi x v _ _ _ _ a b c d _ _ _ _=>u i x v a b c d) k
def kxx {CX:CXT} {P:Program} {w:World} {K:Frg} {mg:Str->Option Value} {base:Heap} {N:List Str} {q:Str} {sc:Scope} {f:Addr} {cd:Value} {A:Around} {o:List Env} {s:Shared} {H:Hp} {E:XK}:(IE CX P w K mg base N q sc f cd A o s H E).nox.K=K:=rfl
def kyy:(xD X N sc C ex s H).K=X.K:=rfl
end
def Has.mm (h:(x,v)∈ds:=by walk_at "mem"):Has ds x v:= .mem h
end S
namespace K
open PySem L2 S
abbrev paa:List Str:=["_law_shape_here","_law_claims_here","_law_parts"]
abbrev pab:List Str:=["one","two"]
abbrev pac:List Str:=["self"]
abbrev pae:List Str:=["self","form"]
abbrev paf:List Str:=["_law_shape_here","_law_claims_here","_law_purse_here","_law_parts"]
abbrev pag:List Str:=["_law_shape_here","_law_claims_here","_law_parts","_law_i","_law_j"]
abbrev pah:List Str:=["_law_shape_here","_law_claims_here","_law_parts","_law_found"]
abbrev pai:List Str:=["_law_script","_law_claims_here","_law_rule_here","_law_kind"]
abbrev paj:List Str:=["claims","group"]
abbrev pak:List Str:=["ones","twos"]
abbrev pal:List Str:=["_law_one","_law_two"]
abbrev pam:List Str:=["self","claims","purse"]
abbrev pan:List Str:=["self","portion","first","last"]
abbrev pao:List Str:=["_law_script","_law_at","_law_many","_law_size"]
abbrev paq:List Str:=["self","inner"]
abbrev pas:List Str:=["claims"]
abbrev pau:List Str:=["_law_top","_law_bottom"]
abbrev pav:List Str:=["_law_claims_here","_law_parts","_law_cell"]
abbrev paw:List Str:=["path","places","count"]
abbrev pax:List Str:=["_law_script","_law_k"]
abbrev pay:List Str:=["_law_found"]
abbrev paz:List Str:=["start","end","portion"]
abbrev paA:List Str:=["start","end","amount"]
abbrev paB:List Str:=["self","outer","inner"]
abbrev paC:List Str:=["shape","claims"]
abbrev paD:List Str:=["claims","places"]
abbrev paE:List Str:=["_law_shape_here"]
abbrev paF:List Str:=["portion","first","last"]
abbrev paG:List Str:=["outer","inner","claims"]
abbrev paH:List Str:=["_law_cell","_law_place"]
abbrev paI:List Str:=["_law_whole_here","_law_cell"]
abbrev paJ:List Str:=["ahead","corner","following"]
abbrev paK:List Str:=["_law_cell"]
abbrev paL:List Str:=["_law_amounts","_law_parts"]
abbrev paM:List Str:=["top","bottom"]
abbrev paN:List Str:=["_law_cells","_law_groups"]
abbrev paO:List Str:=["parts","places","count"]
abbrev paP:List Str:=["path","second"]
abbrev paQ:List Str:=["self","claims"]
abbrev paR:List Str:=["claims","rank"]
abbrev paS:List Str:=["amounts","amount"]
abbrev paT:List Str:=["path","place","levels"]
abbrev paU:List Str:=["path","others","purse"]
abbrev paV:List Str:=["rule","claims","parts"]
abbrev paW:List Str:=["start","end","purse"]
abbrev paX:List Str:=["path","portion"]
abbrev paY:List Str:=["inner","claims"]
abbrev paZ:List Str:=["path","others"]
local macro_rules|`(tactic|assumption)=>`(tactic|first|exact .mm|fail)
local macro_rules|`(tactic|right)=>`(tactic|walk_at "mem")
local macro_rules|`(tactic|left)=>`(tactic|walk_at "walk")
local macro_rules|`(tactic|walk_at "l")=>`(tactic|first|decide|exact Qu _|lia|omega)
local macro_rules|`(tactic|walk_at "o")=>`(tactic|first|exact Or.inl rfl|exact Or.inr rfl)
abbrev mtS:=Lean.Syntax
abbrev mtQ:=List (Lean.Name×List mtS)
def mtI (s:String) (n:Nat):String:=String.ofList (s.toList.drop n)
def mtP (x:mtS) (q:mtQ):mtQ:=(q.head!.1,x::q.head!.2)::q.tail
def mtC (q:mtQ):mtQ:=mtP (.node .none q.head!.1 q.head!.2.reverse.toArray) q.tail
def mtE (s:String) (q:mtQ):mtQ:=((if s.front=='.' then "Lean.Parser.Tactic"++s else if s.front==':' then "Lean.Parser.Term."++mtI s 1 else s).toName,[])::q
def mtO (a:List mtS) (q:mtQ) (w:String):mtQ:=
 if w=="}" then mtC q
 else if w=="[[" then mtE "null" (mtE ".tacticSeq1Indented" (mtE ".tacticSeq" q))
 else if w=="]]" then mtC (mtC (mtC q))
 else if w.front=='{' then mtE (mtI w 1) q
 else mtP (if w.front=='#' then a.getD (mtI w 1).toNat! .missing else if w.front=='%' then Lean.mkIdent (mtI w 1).toName else .atom .none w) q
def mS (s:String) (a:List mtS):mtS:=((s.splitOn " ").foldl (mtO a) [(`null,[])]).head!.2.head!
def mtB (w:String):mtS:=Lean.Syntax.mkStrLit w
def mtL (t k:String):String:=(((t.splitOn ("`"++k)).getD 1 "").splitOn "`").head!
def mtA (f:mtS) (a:List mtS):mtS:=if a.isEmpty then f else mS "{:app #0 #1 }" [f,.node .none `null a.toArray]
def mtU (c:Char):mtS:=
 let w:=mtL "`a{.assumption assumption }`Hhas`Mmem`Ahasall`zszq`Ddom`mmul`ssz`usub`vdats`r{.exact exact %rfl }`o{.lia lia {.optConfig {null } } }`d{.decide decide {.optConfig {null } } }`K{.decide decide {.optConfig {null {.configItem {.posConfigItem + %kernel } } } } }`xx`yy`tt`TT`NN`i{.paren ( [[ {.show show {«term_<_» {:typeAscription {:hygienicLParen ( {hygieneInfo %[anonymous] } } {num 0 } : {null %Int } ) } < {:hole _ } } } ; {.decide decide {.optConfig {null } } } ]] ) }`j{.paren ( [[ {.show show {«term_<_» {:typeAscription {:hygienicLParen ( {hygieneInfo %[anonymous] } } {num 0 } : {null %Int } ) } < {:hole _ } } } ; {.lia lia {.optConfig {null } } } ]] ) }`qq`L{.first first {null {group | [[ {.assumption assumption } ]] } {group | [[ {.lia lia {.optConfig {null } } } ]] } {group | [[ {.paren ( [[ {.simp simp {.optConfig {null } } {null } {null only } {null [ {null {.simpLemma {null } {null } %str_len } } ] } {null } } ; {.lia lia {.optConfig {null } } } ]] ) } ]] } {group | [[ {.paren ( [[ {.simp simp {.optConfig {null } } {null } {null only } {null [ {null {.simpLemma {null } {null } %str_len } } ] } {null {.location at {.locationWildcard * } } } } ; {.lia lia {.optConfig {null } } } ]] ) } ]] } } }" c.toString
 if w.front=='{' then mS w [] else mS "{PyProof.Rows.tacticWalk_at_ walk_at #0 }" [mtB w]
def mtY (b:List Lean.Name) (n s:String):mtS:=
 let f:=Lean.mkIdent n.toName
 let r:=s.toList
 if s.front=='!' then mtU (r.getD 1 'a')
 else if s.front=='*' then .missing
 else if s.front=='=' then mS "{.exact exact #0 }" [mtA f (r.tail.map λc=>if c=='_' then mS "{:hole _ }" [] else mS "{:byTactic by [[ #0 ]] }" [mtU c])]
 else
  let z:=(r.filter λc=>!(c=='+'||c.isDigit)).zipIdx
  let i:=λp:Char×Nat=>(Lean.mkIdent (b.getD (if p.1=='k' then 0 else p.2+1) .anonymous)).raw
  let t:=mS "{.refine' refine' #0 }" [mtA f (z.map λp=>if p.1=='_' then mS "{:hole _ }" [] else mS "{:syntheticHole ? #0 }" [i p])]
  let t:=if s.front=='+' then t else mS "{.withReducible with_reducible [[ #0 ]] }" [t]
  let g:=λ(l:List mtS) x=>x::.atom .none ";"::l
  let l:=z.foldl (λl p=>if p.1=='_'||p.1=='k' then l else g l (mS "{.case case {null {.caseArg {Lean.binderIdent #0 } {null } } } => [[ #1 ]] }" [i p,mtU p.1])) [t]
  let l:=(List.range (r.foldl (λn c=>if c.isDigit then n+c.toNat - 48 else n) 0)).foldl (λl _=>g l (mS "{.intro intro {null {:hole _ } } }" [])) l
  mS "{.paren ( {.tacticSeq {.tacticSeq1Indented #0 } } ) }" [.node .none `null l.reverse.toArray]
def mtTK:String:="rk:rd_var k:rd_c k:rd_cons k:rd_nil k:rd_seq k:rd_asg k:zI k:vX k:rd_op k:Jx k:rd_call k:rd_cb k:rd_tup k:rd_fld k:xN k:yV k:Wt k:rd_if k:rd_test k:rd_tB k:rd_rI0 k:rd_bm k:rd_rt k:rd_ret k:rd_for k:rd_comp k:rd_drop k:rd_lst k:Im k:rd_make k:rd_sl k:rd_part k:rd_kPart k:rd_un k:rd_and k:rd_or k:rd_not aHrk:rd_ixTS ak:rd_strI k:rd_rev aqkr:rd_isi k:rd_jCons k:rd_fmt k:rd_methA k:rd_kBMs k:rd_addSI k:rd_eqS k:rd_neS Lk:rd_kJ Lk:rd_jNil Lk:rd_kFmtS ak:rd_kFmtI Lk:rd_addS aHHzzdDk4:rG aHHzzdk:fW aok:rd_cell ok:rd_div2 aqk:rd_isi k:rd_noPart k:rd_iRv k:rd_true k:rd_gsub k:rd_mix aHk:rd_sumL aMk:rd_sumC k:rd_addI aHrk:rd_ixTI aHrk2:pf aHrk:YM aHrk2:zW mk:rd_mulB xk:rd_modL yk:rd_modN tk:rd_fdivL ak:rd_fdivB Tk:rd_pow k:rd_nxL k:rd_rtL aANk4:rd_kTup aANk4:JD k:rd_isbl k:rd_eqI k:rd_neI k:rd_andV k:rd_orV k:rd_notV k:rd_ifE k:rd_rU k:rd_retN aHk:rd_lenT aHk:rd_lenL aMk:rd_lenC k:rd_abs k:rd_min k:rd_max k:rd_iList k:rd_iTup k:rd_iR1 k:rd_iR2 k:rd_iEn k:rd_iZi aHk3:xM aHk4:rd_kGT3 k:rd_bm0 aMk:rd_kBM aMk:rd_kBM0 aHk4:rd_listL aMk4:rd_listC aHk4:rd_listT aHk4:rd_tupleL aMk4:rd_tupleC k:rd_par k:rd_is2 rk:rd_aug k:rd_ipI k:iteT k:iteF k:iteNF k:iteNT k:rd_nx0 k:rd_ctL k:rd_bkL k:rd_ct k:rd_bk k:rd_eqB k:rd_neB . =_:List.Mem.head +_M:List.Mem.tail . =:Has.int =:Has.bl =:Has.non =:Has.str =:Has.mm . =:yy.nil +HA:yy.cons . !a:- =a:SzQ.num =a:SzQ.den =ss:Sz.mul =ss:Sz.add' =ss:Sz.sub' =d:Sz.lit . !a:- =d:IntMulOk.of_left =d:IntMulOk.of_right =d:mulModOk =ssd:Sz.mulOk . !i:- !j:- !d:- !a:- . =_:List.Sublist.refl =_:List.nil_sublist +_u:List.Sublist.cons₂ +_u:List.Sublist.cons . =:Dats.nil +Hv:Dats.cons . !a:- =zz:SzQ.add =zz:SzQ.sub =zz:SzQ.mul =zz:SzQ.div . =:True.intro !a:- . aHHaak4:rd_gap . rk:iteSY Kk:iteSN k:rd_sortS k:rd_methB . k:rd_whole . k:rd_methB . k:rd_whole . =:kit_tt =:kit_tl =:kit_lt =:kit_ll =:kit_it =:kit_il =:kit_ib =:kit_ii =:kit_st =:kit_sl =:kit_sb =:kit_si =:kit_ss . =r:jcd . !d:_ !o:_ . !a:_ !o:_ . =dd:And.intro . =dt:And.intro ."
def mtK (k:Nat):String:=(mtTK.splitOn " ").getD k "."
def mtN (c:Char):Nat:=if c.isDigit then c.toNat - 48 else c.toNat - 87
def mtT:String:="`apv %`bVg # #`cgB`dug`eue # #`fgh #`gpix %`hpcl !3 hr #`ips_ret #`jpe_ix ix_seq # # !1`kps_a % nd0 #`lDc _`mps_if # # #`nFw hr`oCu`ppg_c %`qrK # # # #`rpe_op op_mulB # #`spe_tup #`top_eqA #`urL`vmH #`wpe_str`xdZ qf rfl B.len IH #`ypgs_cons # #`zpcf $ % & # # # #`Apg_a % nd0`Bpe_op CA # #`Cpe_lst #`Dpe_op op_mod # #`Eps_expr #`Fps_for PassesOwn.never rfl # # #`Gpt_val #`Hpg_tup rfl #`Ipgs_nil`Jpe_bl`KPW.pt #`Lpe_un un_neg #`Mpe_op op_fdiv # #`Npscf % nd0 $ % & # # # #`Opw_or # #`Ppe_op op_sub # #`Qpt_not #`Rop_neA #`SrK op_gt # # #`TdZ # rfl B.sum bt_sum #`Ucall_sumA rfl`VrK op_lt # # #`Wpe_op op_fdivB # #`Xpe_bm PySem.F.plainAttrs_list PySem.F.slot_list_append PySem.F.type_list_append pK # #`Ype_op op_modN # #`Zpo_some #`0pw_and # #`1pw_or1 #`2pe_slice sl_list # # #`3pw_and1 #`4po_none`5pe_ccall rfl Yu fN gg Zh # hr Zg Zi pass0 #`6Zj.mono !2`7pe_op op_pow # #`8pe_callTy KJ rfl B.tuple bt_tuple #`9pe_methA # # hr xx pass0`+Yj.mono !2`-pe_cmpR # # # #`*pi_zip true true rfl B.zip #`/ps_while PassesOwn.never # #`<pif_one #`>ps_asg # #`=dZ call_isi rfl B.isinstance HA #`!pi_range1 rfl B.range #`?pe_op op_addS # #`@pe_callTy Ll rfl B.list bt_list #`#gh uf`$pi_enum true rfl B.enumerate #`%pi_tup #`&Gb rfl rfl B2.sorted rfl B2.set #`^dZ call_absA rfl B.abs bt_abs #`~pi_zip false false rfl B.zip #`|ps_aug !6 nd0 rfl !7 # ip_add`:dZ # rfl B.min IG #`.pg_sub # # set_list`,pe_and # #`;pe_one #`_pe_bltn !4 rfl B.tuple bt_tuple rfl`(pe_non`)pe_fld # rfl`[pe_op op_rep # #`]pi_zip false true rfl B.zip #`{call_minL rfl`}dZ # rfl B.max bt_max #`αcall_maxL rfl`βpi_range2 rfl B.range #`γpe_methB # # hr Xg pass0 #`δVx.mono !2`εpe_cmpR op_lt # # #`ζpi_enum false rfl B.enumerate #`ηpi_rev rfl B.reversed #`θps_fld # # rfl`ιpe_bm PySem.F.plainAttrs_list PySem.F.slot_list_extend PySem.F.type_list_extend Lj # #`κpe_bm PySem.F.plainAttrs_list PySem.F.slot_list_extend PySem.F.type_list_extend mt_extend # #`μpe_methB # # hr iA pass0 #`νiS.mono !2`ξps_par !6 !a rfl nd0 rfl rfl !b rfl rfl # rfl`πpe_bltn !4 rfl B.int bt_int rfl`ρpe_not #`σpe_bltn !4 rfl B.bool bt_bool rfl`τpe_cmpR op_gt # # #`υrK op_le # # #`φpe_make0 qx # hr rfl uF EU !8 pass0`χFb.mono !2`ψpe_make0 qC # hr rfl uJ EY !8 pass0`ωFf.mono !2`Γpe_make0 qy # hr rfl uG EV !8 pass0`ΔFc.mono !2`Θpe_make0 qA # hr rfl uH EW !8 pass0`ΞFd.mono !2`Πpe_make vg # hr rfl DR HP !8 pass0 #`ΣHY.mono !2`Φpe_make vd # hr rfl DO HN !8 pass0 #`ΨHX.mono !2`Ωpe_make qB # hr rfl uI EX !8 pass0 #`аFe.mono !2`бpe_make EK # hr rfl IA II !8 pass0 #`вIT.mono !2`гEA rfl`дrK op_isN # # #`еpe_cmpR op_isN # # #"
def mtZ (w:String):mtS:=
 let z:=mtL "`_{:hole _ }`!1{:fun fun {:basicFun {null {:hole _ } {:hole _ } } {null } => %rfl } }`!2{:byTactic by [[ {PyProof.Rows.tacticWalk_at_ walk_at {str \"l\" } } ]] }`!5{:namedArgument ( %v := {:app {:dotIdent . %ref } {null {:hole _ } } } ) }`!7{:byTactic by [[ {PyProof.Rows.tacticWalk_at_ walk_at {str \"o\" } } ]] }`!8{:dotIdent . %nil }`!9{:anonymousCtor ⟨ {null {:hole _ } , %rfl } ⟩ }`!a{:namedArgument ( %j := {num 1 } ) }`!b{:byTactic by [[ {.decide decide {.optConfig {null } } } ]] }`!3{:byTactic by [[ {.assumption assumption } ]] }" w
 if z=="" then Lean.mkIdent w.toName else mS z []
def mtG:Nat->List Char->mtS×List Char
 |0,r=>(.missing,r)
 |k+1,r=>
  let p:=((mtL mtT (String.ofList (r.take 1))).splitOn " ").foldl (λ(q:List mtS×List Char) w=>
   let r:=q.2
   let x:=String.ofList (r.takeWhile (·!=';'))
   let y:=(r.dropWhile (·!=';')).tail
   let n:mtS:=Lean.Syntax.mkNumLit (toString (mtN (r.headD '0')))
   let f:=λx y=>(x::q.1,y)
   if w=="#" then
    let p:=mtG k r
    f p.1 p.2
   else if w=="%" then f n r.tail
   else if w=="$" then f (Lean.quote (x.splitOn ","):Lean.Term).raw y
   else if w=="&" then f (Lean.quote (x.toList.map mtN):Lean.Term).raw y
   else if w=="!4" then f (mS "{:namedArgument ( %v := {:app {:dotIdent . %ty } {null #0 } } ) }" [mtB x]) y
   else if w=="!6" then f (mS "{:namedArgument ( %i := #0 ) }" [n]) r.tail
   else f (mtZ w) r) ([],r.tail)
  let l:=p.1.reverse
  (mtA l.head! l.tail,p.2)
def mtX (x:mtS):Lean.MacroM mtS:=if x.isMissing then Lean.Macro.throwUnsupported else return x
def mtW (s:String):mtS:=
 let w:=(" mem 127 has 130 hasall 136 sz 139 mul 147 mod 153 rd 0 sub 158 dats 163 szq 166 dom 172 q 188 N 202 x 204 y 207 t 210 T 212 div 210 ".splitOn (" "++s++" ")).getD 1 ""
 if s.front=='-' then mS "{.paren ( [[ {.rintro rintro {null {.rintroPat.one {.rcasesPat.one %mtf } } {.rintroPat.one {.rcasesPat.one %mtd } } {.rintroPat.one {.rcasesPat.tuple ⟨ {null {.rcasesPatLo {.rcasesPatMed {null {.rcasesPat.one %mtF } } } {null } } , {.rcasesPatLo {.rcasesPatMed {null {.rcasesPat.one %mtm } } } {null } } , {.rcasesPatLo {.rcasesPatMed {null {.rcasesPat.one %mtb } } } {null } } } ⟩ } } } {null } } ; {.refine refine {:app %aE {null %mtF {:app %mtF.oo {null #0 {:fun fun {:basicFun {null %H %vs %Q %E %hr %nd0 %h } {null } => {:syntheticHole ? _ } } } } } %mtm %mtb } } } ]] ) }" [Lean.mkIdent (mtI s 1).toName]
 else if s.front=='+' then mS "{.refine refine {:app %F.oo {null #0 {:fun fun {:basicFun {null %H %vs %Q %E %hr %nd0 %h } {null } => {:syntheticHole ? _ } } } } } }" [Lean.mkIdent (mtI s 1).toName]
 else if s.front=='=' then mS "{.paren ( [[ {.refine refine {:anonymousCtor ⟨ {null {:hole _ } , #0 , {:app %mw {null {:syntheticHole ? _ } } } } ⟩ } } ; {.tacticTry_ try [[ {.dsimp dsimp {.optConfig {null } } {null } {null only } {null [ {null {.simpLemma {null } {null } %kxx } , {.simpLemma {null } {null } %kyy } } ] } {null } } ]] } ]] ) }" [(mtG 999 (s.toList.drop 1)).1]
 else if s=="n" then mS "{.paren ( [[ {.intro intro {null {:hole _ } {:hole _ } {:hole _ } {:hole _ } %h } } ; {.tacticRepeat_ repeat [[ {.first first {null {group | [[ {.exact exact {:proj {:proj %h . {fieldIdx 1 } } . %len.symm } } ]] } {group | [[ {.exact exact {:subst {:proj %h . {fieldIdx 1 } } ▸ {null %rfl } } } ]] } {group | [[ {.obtain obtain {null {.rcasesPatMed {null {.rcasesPat.tuple ⟨ {null {.rcasesPatLo {.rcasesPatMed {null {.rcasesPat.ignore _ } } } {null } } , {.rcasesPatLo {.rcasesPatMed {null {.rcasesPat.one %h } } } {null } } } ⟩ } } } } {null } {null := {null %h } } } ]] } } } ]] } ]] ) }" []
 else if w=="" then .missing else mS "{.first first {null {group | [[ {.fail fail {null #0 } } ]] } {group | [[ {.fail fail {null } } ]] } } }" [mtB ("&"++(w.splitOn " ").head!)]
def mtV (b:List Lean.Name) (s:String):mtS:=if s.front !='&' then .missing else
 let w:=(mtK (mtI s 1).toNat!).splitOn ":"
 if w.length==2 then mtY b (w.getD 1 "") w.head! else .missing
def mtJ (s:String):mtS:=if s.front !='&' then .missing else
 let k:=(mtI s 1).toNat! +1
 if mtK k=="." then .missing else mS "{.fail fail {null #0 } }" [mtB ("&"++toString k)]
local macro_rules|`(tactic|walk_at $s:str)=>mtX (mtW s.getString)
local macro_rules|`(tactic|fail $s:str)=>mtX (mtJ s.getString)
local macro_rules|`(tactic|fail $s:str)=>do mtX (mtV (<-(List.range 12).mapM λi=>Lean.Macro.addMacroScope (.mkSimple (if i==0 then "k" else "x"++toString i))) s.getString)
local macro_rules|`(tactic|walk_at "walk")=>`(tactic|repeat walk_at "rd")
def FF (K:Frg):Sp:=λvs H Q _=>∃(a:Addr) (ns:List Int),vs=[.ref a]/\SqL K H a (ns.map V.int)/\ns.length<=63/\Only H/\∀H',Q (.bl true) H'
def aE {P:Program} {w:World} {K:Frg} {mg:Str->Option Value} {base:Heap} {f:Addr} {fd:FuncData} {k:Nat} {x:Str} {st:Stmt} {ps:List Str} {sp:Sp} (F:Fun K x x st f fd) (G:FnOk P w K mg base CX0 k f fd ps sp) (hm:mg x=some (.ref f)) (b:xp K fd ps []):Cal P w K mg base CX0 k x ps sp:=⟨f,fd,G,hm,F.kp,b⟩
section
abbrev Coo (P:Program) (w:World) (K:Frg) (mg:Str->Option Value) (base:Heap) (x:Str) (st:Stmt) (k:Nat) (ps:List Str) (sp:Sp):Prop:=∀{f:Addr} {fd:FuncData},DkT K mg x st f fd ps->Cal P w K mg base CX0 k x ps sp
variable {P:Program} {w:World} {K:Frg} {mg:Str->Option Value} {base:Heap} {f:Addr} {fd:FuncData}
def top (i:Nat):Stmt:=PySem.Challenge.pw_shortpurse_k32_two_by_two.main.body.getD i (.Pass ⟨0,0,0,0⟩)
abbrev Zq:Stmt:=top 21
def Uu:FnScope ["one","two","rest"] pab (zu Zq):=xA
abbrev lS:Stmt:=top 20
def BI:FnScope ["top","bottom","divisor"] paM (zu lS):=xA
def spGcd:Sp:=λvs H Q _=>∃a b:Int,vs=[.int a, .int b]/\0<=a/\0<=b/\Q (.int (Int.gcd a b:Nat)) H
def ok_gcd:Coo P w K mg base "greatest_divisor" Zq 1 pab spGcd:=by
 walk_at "-Uu";obtain ⟨a,b,rfl,ha,p,q⟩:=h;walk_at "=e/qRna1dlek2Ya0a1ek0a1fk1a2fia0";refine qH (λm σ H2=>∃(x y:Int) (v:Option V),σ=[some (.int x),some (.int y),v]/\0<=x/\0<=y/\Int.gcd x y=Int.gcd a b/\H2=H/\m=y.toNat) _ ⟨a,b,none,rfl,ha,p,rfl,rfl,rfl⟩ ?_
 rintro m σ H2 ⟨x,y,v,rfl,hx,hy,hg,rfl,rfl⟩
 left;refine vU (λc=>?_) (λc=>?_)
 ·have c:y≠0:=by simpa using c
  left;have e:x.fmod y=x % y:=Th x hy;have g:=jam x c;have r:=jaa x (show 0<y by lia);refine ⟨(x.fmod y).toNat,by rw [e];lia,y,x.fmod y,_,rfl,hy,by rw [e];exact g,?_,rfl,rfl⟩;rw [e,uD,hg]
 ·have c:y=0:=by simpa using c
  subst c;left;have e:x=((Int.gcd a b:Nat):Int):=by rw [<-hg,Int.gcd_zero];lia
  show Q (.int x) H2;rw [e];exact q
def CO (B:Bl mg) (t:Cal P w K mg base CX0 1 "greatest_divisor" pab spGcd):Coo P w K mg base "lowest" lS 2 paM VC:=by
 walk_at "-BI";obtain ⟨G,⟨a,b⟩,s,r,⟨m,g⟩,k⟩:=h;cases (yP (ns:=[a,b]) r);have S:Sta H G H [] []:=Sta.enter s λp hp=>absurd hp Qp;dsimp only at m g k;walk_at "=ek2hb^ba0cb^ba1ccemVa1dlfk2La2ofisbWa0a2bWa1a2c";left;refine ⟨_,_,rfl,⋯,⋯,?_⟩;rw [show Int.gcd (a.natAbs:Int) (b.natAbs:Int)=Int.gcd a b by simp;rfl];have u:0<Int.gcd a b:=jaw a m;left;refine Yh (λc=>?_) (λc=>?_)
 ·have q:CDv a (-((Int.gcd a b:Nat):Int)):=⟨⋯,g.le ⋯⟩;left;refine Zc (by assumption) k (.mem ?_);rw [show frD (Rat.divInt a b)= .tuple [.int (a.fdiv (-((Int.gcd a b:Nat):Int))), .int (b.fdiv (-((Int.gcd a b:Nat):Int)))] by unfold frD;rw [<-(Dk c).1,<-(Dk c).2]];walk_at "mem"
 ·have q:CDv a ((Int.gcd a b:Nat):Int):=⟨⋯,g⟩;left;refine Zc (by assumption) k (.mem ?_);rw [show frD (Rat.divInt a b)= .tuple [.int (a.fdiv ((Int.gcd a b:Nat):Int)), .int (b.fdiv ((Int.gcd a b:Nat):Int))] by unfold frD;rw [<-(bQ (show 0<b by lia)).1,<-(bQ (show 0<b by lia)).2]];walk_at "mem"
abbrev BO:Stmt:=top 15
def Jn:FnScope pab pab (zu BO):=xA
def JU (I:Cal P w K mg base CX0 2 "lowest" paM VC):Coo P w K mg base "plus" BO 3 pab om:=by
 walk_at "-Jn";obtain ⟨G,⟨p,q⟩,t,s,⟨⟨m,n,hp,g,u⟩,_⟩,k⟩:=h;obtain ⟨v,y,rfl,al⟩:=xC s;have S:Sta H G H [] _:=Sta.enter t al;dsimp only at hp g k S;have D:IntMulOk p.num (q.den:Int):=hp.1.mulOk g.2 ⋯;have C:IntMulOk q.num (p.den:Int):=g.1.mulOk hp.2 ⋯;have A:IntMulOk (p.den:Int) (q.den:Int):=hp.2.mulOk g.2 ⋯;have z:IntMulOk p.num q.num:=hp.1.mulOk g.1 ⋯;walk_at "=fihbBrg0g1rg1g0brg0g1c";left;refine ao (by assumption) (xG p q) (bS hp g u) λr H' e S=>?_;rw [nH] at S;exact Zc S k .mm
abbrev rC:Stmt:=top 16
def FN:FnScope pab pab (zu rC):=xA
def Gs (I:Cal P w K mg base CX0 2 "lowest" paM VC):Coo P w K mg base "minus" rC 3 pab aV:=by
 walk_at "-FN";obtain ⟨G,⟨p,q⟩,t,s,⟨⟨m,n,hp,g,u⟩,_⟩,k⟩:=h;obtain ⟨v,y,rfl,al⟩:=xC s;have S:Sta H G H [] _:=Sta.enter t al;dsimp only at hp g k S;have D:IntMulOk p.num (q.den:Int):=hp.1.mulOk g.2 ⋯;have C:IntMulOk q.num (p.den:Int):=g.1.mulOk hp.2 ⋯;have A:IntMulOk (p.den:Int) (q.den:Int):=hp.2.mulOk g.2 ⋯;have z:IntMulOk p.num q.num:=hp.1.mulOk g.1 ⋯;walk_at "=fihbPrg0g1rg1g0brg0g1c";left;refine ao (by assumption) (xG p q) (Ai hp g u) λr H' e S=>?_;rw [kQ] at S;exact Zc S k .mm
abbrev rB:Stmt:=top 17
def FK:FnScope pab pab (zu rB):=xA
def Gf (I:Cal P w K mg base CX0 2 "lowest" paM VC):Coo P w K mg base "times" rB 3 pab qO:=by
 walk_at "-FK";obtain ⟨G,⟨p,q⟩,t,s,⟨⟨m,n,hp,g,u⟩,_⟩,k⟩:=h;obtain ⟨v,y,rfl,al⟩:=xC s;have S:Sta H G H [] _:=Sta.enter t al;dsimp only at hp g k S;have D:IntMulOk p.num (q.den:Int):=hp.1.mulOk g.2 ⋯;have C:IntMulOk q.num (p.den:Int):=g.1.mulOk hp.2 ⋯;have A:IntMulOk (p.den:Int) (q.den:Int):=hp.2.mulOk g.2 ⋯;have z:IntMulOk p.num q.num:=hp.1.mulOk g.1 ⋯;walk_at "=fihbrg0g1brg0g1c";left;refine ao (by assumption) (xG p q) (Aj hp g u) λr H' e S=>?_;rw [Dd] at S;exact Zc S k .mm
abbrev BP:Stmt:=top 18
def Jo:FnScope pab pab (zu BP):=xA
def JV (D:Cal P w K mg base CX0 2 "lowest" paM VC):Coo P w K mg base "over" BP 3 pab Ik:=by
 walk_at "-Jo";obtain ⟨G,⟨p,q⟩,u,t,⟨⟨m,n,hp,g,y⟩,h0⟩,k⟩:=h;obtain ⟨v,z,rfl,al⟩:=xC t;have S:Sta H G H [] _:=Sta.enter u al;dsimp only at hp g k S h0;have C:IntMulOk p.num (q.den:Int):=hp.1.mulOk g.2 ⋯;have A:IntMulOk (p.den:Int) q.num:=hp.2.mulOk g.1 ⋯;have s:=Iq h0;walk_at "=emqtng1dl#ofihbrg0g1brg0g1c";left;refine Yh (λc=>absurd c s) (λ_=>?_);left;refine ao (by assumption) (Int.mul_ne_zero (Int.ne_of_gt (den_pos p)) s) (Al hp g s y) λr H' e S=>?_;rw [En p q h0] at S;exact Zc S k .mm
abbrev lY:Stmt:=top 19
def BM:FnScope pab pab (zu lY):=xA
def CW:Coo P w K mg base "before" lY 1 pab UX:=by
 walk_at "-BM";obtain ⟨⟨p,q⟩,r,⟨m,n,hp,g,y⟩,k⟩:=h;obtain ⟨v,s,rfl,al⟩:=xC r;have S:Sta H H H [] _:=Sta.enter (zV.refl _) al;dsimp only at hp g k S;have u:IntMulOk p.num (q.den:Int):=hp.1.mulOk g.2 ⋯;have t:IntMulOk q.num (p.den:Int):=g.1.mulOk hp.2 ⋯;walk_at "=fiεrg0g1rg1g0l";left;rw [show decide (p<q)=decide (p.num*(q.den:Int)<q.num*(p.den:Int)) from decide_eq_decide.mpr (Rat.lt_iff p q)] at k;exact k
abbrev Xp:Stmt:=top 39
def fG:FnScope ["amounts","amount","low","high","middle"] paS (zu Xp):=xA
def JW (B:Bl mg) (T:Cal P w K mg base CX0 1 "before" pab UX):Coo P w K mg base "last_reached" Xp 2 paS tP:=by
 walk_at "-fG";obtain ⟨qs,e,n,M,⟨g,U,I,L,hn,s⟩,k⟩:=h;obtain ⟨G,D,rfl,al⟩:=xC M;have S:Sta H H H [] [(.list (qs.map frD),G),(frD e,D)]:=Sta.enter (zV.refl _) al;have z:n+n<=100000000:=⋯
 walk_at "=ek2dek3xba0ce/SPa3a2dlek4MBa2a3dfmGhba1bja0a4cfk3a4fk2a4fia2";left
 refine qH (λm σ H2=>∃(low high:Nat) (C:Option V) (q:Rat),σ=[some G,some D,some (.int (low:Nat)),some (.int (high:Nat)),C]/\H2=H/\low<high/\high<=qs.length/\qs[low]? =some q/\q<=e/\(high=qs.length\/∃r,qs[high]? =some r/\e<r)/\m=high - low) (qs.length - 0) ⟨0,qs.length,none,qs[0],by
  rw [Qa];rfl,rfl,g,Qu _,Qb g,s _ (Qb g), .inl rfl,rfl⟩ ?_
 rintro m σ H2 ⟨low,high,C,q,rfl,rfl,hlh,hhn,hq,Nx,Sj,rfl⟩
 left;refine vU (λc=>?_) (λc=>?_)
 ·have c:1<(high:Int) - low:=by simpa using c
  have em:((low:Int)+high) / 2=(((low+high) / 2:Nat):Int):=⋯
  have y:low<(low+high) / 2:=⋯
  have u:(low+high) / 2<high:=⋯
  left;rw [em];generalize (low+high) / 2=mid at*;have t:qs[mid]? =some (qs[mid]'⋯):=Qb _;generalize (qs[mid]'⋯)=p at*;refine zW S .mm (zZ (by rw [Qg,t];rfl)) λwp O=>?_;have J:=I p (Qc t);refine fW O .mm .mm L J z ?_;left;refine Yh (λA=>?_) (λA=>?_)
  ·left;exact ⟨mid - low,⋯,low,mid,_,q,rfl,rfl,y,⋯,hq,Nx, .inr ⟨p,t,A⟩,rfl⟩
  ·left;exact ⟨high - mid,⋯,mid,high,_,p,rfl,rfl,u,hhn,t,Ti.mp A,Sj,rfl⟩
 ·have c:¬1<(high:Int) - low:=by simpa using c
  have N:high=low+1:=⋯
  subst N;left;exact k low q hq Nx Sj
abbrev ZI:Stmt:=top 35
def ae:FnScope paA paA (zu ZI):=xA
def wx (T:Cal P w K mg base CX0 3 "minus" pab aV) (U:Cal P w K mg base CX0 3 "over" pab Ik):Coo P w K mg base "portion_reached" ZI 4 paA UT:=by
 walk_at "-ae";obtain ⟨G,⟨A,O,x⟩,r,q,⟨⟨m,n,z1,z2,g,J⟩,p⟩,k⟩:=h;obtain ⟨v1,v2,y,rfl,al⟩:=ZA q;have S:Sta H G H [] _:=Sta.enter r al;dsimp only at z1 z2 g p k S;walk_at "=fihbhba2ba0cbhba1ba0cc";left;refine rG S .mm .mm g z1 ⋯ True.intro λI H1 N u=>?_;left;refine rG u .mm .mm z2 z1 ⋯ True.intro λD Y M t=>?_;left;refine rG t .mm .mm (g.sub z1) (z2.sub z1) ⋯ (λz=>p (by grind)) λC X L s=>?_;exact Zc s k .mm
abbrev UD:Stmt:=top 36
def oJ:FnScope paz paz (zu UD):=xA
def CY (T:Cal P w K mg base CX0 3 "plus" pab om) (U:Cal P w K mg base CX0 3 "minus" pab aV) (I:Cal P w K mg base CX0 3 "times" pab qO):Coo P w K mg base "amount_at" UD 4 paz dX:=by
 walk_at "-oJ";obtain ⟨G,⟨z,O,t⟩,q,p,⟨m,n,z1,z2,g,J⟩,k⟩:=h;obtain ⟨v1,v2,y,rfl,al⟩:=ZA p;have S:Sta H G H [] _:=Sta.enter q al;dsimp only at z1 z2 g k S;walk_at "=fihba0bhba2bhba1ba0ccc";left;refine rG S .mm .mm z2 z1 ⋯ True.intro λD H1 N u=>?_;left;refine rG u .mm .mm g (z2.sub z1) ⋯ True.intro λC Y M s=>?_;left;refine rG s .mm .mm z1 (g.mul (z2.sub z1)) ⋯ True.intro λA X L r=>?_;exact Zc r k .mm
abbrev YH:Stmt:=top 34
def dh:FnScope ["start","end","purse","portion"] paW (zu YH):=xA
def wH (B:Bl mg) (cM:Cal P w K mg base CX0 4 "portion_reached" paA UT) (tx:Cal P w K mg base CX0 4 "amount_at" paz dX):Coo P w K mg base "parts_between" YH 5 paW ft:=by
 walk_at "-dh";obtain ⟨G,⟨c,d,e⟩,X,O,⟨⟨m,n,z1,z2,g,hz⟩,p,N⟩,k⟩:=h;obtain ⟨v1,v2,v3,rfl,al⟩:=ZA O;have S:Sta H G H [] _:=Sta.enter X al;dsimp only at z1 z2 g p N k S;walk_at "=ek3hbg0bg1ba2cfi8bzone,two,portion;23;~bg0bg1cHyp0yp1Iuhba0ba1ba2cc";left;rename_i I S1 A Z;refine jS Z .mm .mm .mm z1.1 z2.1 g ⋯ (λz=>by rw [z] at p;exact jaS p) λr3 H3 e3 S3=>?_;have u:SzQ (m+3*n+2) ((e - c.1) / (d.1 - c.1)):=((g.sub z1.1).div (z2.1.sub z1.1)).mono ⋯;left;rename_i w4 S4 w5 q;unfold Wh at k;generalize (e - c.1) / (d.1 - c.1)=t at*;refine my (xs:=c.2.map frD) q .mm .mm λJ y=>?_;refine yt y (λj=>frD ((List.zipWith (Zm t) c.2 d.2).getD j 0)) (ys:=(List.zipWith (Zm t) c.2 d.2).map frD) ?_ q (λ_ _=>⟨.mem (by right),λ_ _ h=>h.tail, .mem (by right)⟩) (by rw [yT,Qa,Qa];lia) (λj x v B' G' Kd Kn M t1 S hd C ex s0 H0=>?_) λD H1 e1 S1=>?_
 ·rw [yT,Qa,Qa,show min c.2.length d.2.length=(List.zipWith (Zm t) c.2 d.2).length by rw [QB]];exact zE frD 0 _
 ·obtain ⟨x1,x2,U,T,rfl⟩:=Yk M;obtain ⟨n1,s,rfl⟩:=zN U;obtain ⟨L,r,rfl⟩:=zN T;refine xN (xM S .mm λI A S=>?_);refine yV (zI (yV (zI (Wt ⟨rfl,?_⟩))));left;refine pA S .mm .mm .mm (z1.2 n1 (Qc s)) (z2.2 L (Qc r)) u ⋯ λr6 H6 e6 Y=>?_;refine hd Y ?_;rw [zG (by rw [Qr,s,r])];exact .mem (by right)
 left;exact Zc (by assumption) k .mm
abbrev bq:Stmt:=top 27
def rj:FnScope ["path","purse","place"] ["path","purse"] (zu bq):=xA
def wA (B:Bl mg) (jH:Cal P w K mg base CX0 2 "last_reached" paS tP) (EO:Cal P w K mg base CX0 5 "parts_between" paW ft):Coo P w K mg base "parts_at" bq 6 ["path","purse"] UU:=by
 walk_at "-rj";obtain ⟨G,⟨a,e⟩,Y,X,⟨m,n,ok,t,O,h0⟩,k⟩:=h;obtain ⟨v1,v2,rfl,al⟩:=xC X;have S:Sta H G H [] _:=Sta.enter Y al;dsimp only at ok t h0 k S;have few:=ok.few
 have Oj:¬e.num<0:=by
  have:=Rat.num_nonneg.mpr h0;lia
 have N:0<a.length:=jba.mpr ok.ne;walk_at "=emVg1dl#oek2hbzcorner;1;va0p0ug0ba1cemqtna2Pxba0cdlfijja0a2dofihbja0a2bja0Ba2dba1c";left;refine Yh (λc=>absurd c Oj) (λ_=>?_);left;refine zP (xs:=a.map yb) S .mm λJ L=>?_;refine yr L (λj=>frD ((λc:zh=>c.1) (a.getD j (0,[])))) (ys:=(a.map λc=>c.1).map frD) (by rw [Qa,Qm];exact zE (λc:zh=>frD c.1) (0,[]) a) S (λj x v=>λT t1 S hd=>?_) λD H1 e1 p=>?_
 ·obtain ⟨c,g,rfl⟩:=zN T;refine zI ⟨rfl,?_⟩;left;refine hd (by assumption) ?_;rw [zG g];exact .mem (by right)
 left;refine Ci (qs:=a.map λc=>c.1) (e:=e) (n:=9000) p (p.hpC (by right)) (p.hp .mm) ⟨by rw [Qa];exact N,by rw [Qa];lia,λq u=>?_,t.mono ⋯,nofun,λq u=>?_⟩ λi q U Nx Pd=>?_
 ·obtain ⟨c,g,rfl⟩:=Qi.mp u;exact (ok.sz c g).1.mono ⋯
 ·obtain ⟨c,g,rfl⟩:=zN u;rw [ok.zero c g];exact h0
 obtain ⟨c,g,rfl⟩:=zN U;have z:i<a.length:=(Qd.mp g).1
 have key:=Zx (E:=e) ok.rise g Nx (by
  rcases Pd with h|⟨r,s,h⟩
  ·exact Or.inl ‹h›
  ·obtain ⟨d,hd,rfl⟩:=zN s
   exact .inr ⟨d,hd,h⟩)
 left;refine Yh (λy=>?_) (λy=>?_)
 ·rw [Qa] at y;rw [QD (show a.length<=i+1 by lia)] at key;left;refine zW (xs:=a.map yb) (x:=yb c) p .mm (zZ (by rw [Qg,g];rfl)) λM A=>?_;left;rw [key] at k;exact Zc (by assumption) k .mm
 ·rw [Qa] at y;have I:i+1<a.length:=⋯
  have hd:=Qb I;have s:=ok.rise;unfold yx at s;rw [QN] at s;have C:=s i (i+1) z I ⋯;rw [List.getElem_eq_iff z|>.mpr g] at C;generalize a[i+1]=d at*;rw [hd] at key;left;refine zW (xs:=a.map yb) (x:=yb c) p .mm (zZ (by rw [Qg,g];rfl)) λM A=>?_;left;refine zW (xs:=a.map yb) (x:=yb d) A .mm (by rw [show ((i:Nat):Int)+1=((i+1:Nat):Int) by lia];exact zZ (by rw [Qg,hd];rfl)) λwd S3=>?_;left;refine wg S3 .mm .mm .mm (ok.sz c (Qc g)) (ok.sz d (Qc hd)) t O C (ok.len c (Qc g)) λr4 H4 e4 Z=>?_;rw [key] at k;exact Zc Z k .mm
local macro_rules|`(tactic|walk_at "rd")=>`(tactic|first|fail "&175"|fail)
abbrev Jp:Stmt:=top 33
def sc_gap:FnScope pab pab (zu Jp):=xA
abbrev Wr:Stmt:=top 32
def ja:FnScope ["ahead","corner","following","near","far","place","start","rise","whole"] paJ (zu Wr):=xA
abbrev fK:Stmt:=top 26
def vO:FnScope ["corners","last"] ["corners"] (zu fK):=xA
def ok_gap:Coo P w K mg base "gap" Jp 1 pab Jj:=by
 walk_at "-sc_gap";obtain ⟨G,⟨p,q⟩,r,m,⟨hp,g⟩,k⟩:=h;obtain ⟨v,s,rfl,al⟩:=xC m;have S:Sta H G H [] _:=Sta.enter r al;dsimp only at hp g k S;have y:IntMulOk q.num (p.den:Int):=g.1.mulOk hp.2 nofun;have u:IntMulOk p.num (q.den:Int):=hp.1.mulOk g.2 nofun;have t:IntMulOk (p.den:Int) (q.den:Int):=hp.2.mulOk g.2 nofun;walk_at "=fisbPrg1g0rg0g1brg0g1c";left;exact Zc (by assumption) k .mm
def rQ (B:Bl mg) (LU:Cal P w K mg base CX0 1 "gap" pab Jj):Coo P w K mg base "is_straight" Wr 2 paJ Jg:=by
 walk_at "-ja";obtain ⟨⟨a,b,c⟩,hA,⟨sa,sb,sc,l1,l2,l3⟩,k⟩:=h;obtain ⟨X,U,T,rfl,al⟩:=ZA hA;have S:Sta H H H [] _:=Sta.enter (zV.refl _) al;dsimp only at sa sb sc l1 l2 l3 k S;have za:=sa.1;have zb:=sb.1;have zc:=sc.1;have zn:=uE za zb;have D:=uE za zc;walk_at "=ek3hbg0bg1cek4hbg0bg2ceFζbg0cHyA5yA6Iek7hba6bjg1a5cek8hba6bjg2a5cfmqRnrrrg7g3g8g4rrrg8g4g7g3lfiJofiJ";left;rename_i w1 _ w2 _ N H1 e1 S1 w3 _ w4 _ O H2 e2 S2 w5 S3;refine JF S3 .mm λJ wk=>?_;have S4:Sta H H H2 [] [(yj a.2,w5),(Lk a.1 b.1,N),(Lk a.1 c.1,O),(yb a,X),(yb b,U),(yb c,T)]:=S3.dat ‹()›
 refine xX wk (λi σ cs ds=>∃(M L I G:Option V),σ=[some X,some U,some T,some N,some O,M,L,I,G]/\cs=[]/\ds=[(yj a.2,w5),(Lk a.1 b.1,N),(Lk a.1 c.1,O),(yb a,X),(yb b,U),(yb c,T)]/\
  ∀(j:Nat) (x y z:Rat),j<i->a.2[j]? =some x->b.2[j]? =some y->c.2[j]? =some z->(y - x)*(c.1 - a.1)=(z - x)*(b.1 - a.1)) S4 ⟨none,none,none,none,rfl,rfl,rfl,λj x y z hj=>absurd hj (Nat.not_lt_zero _)⟩ (λi σ cs ds h=>?_) ?_ ?_
 ·obtain ⟨_,_,_,_,_,_,rfl,_⟩:=h;exact .mem (by right)
 ·rintro i x u σ H5 cs ds t ⟨M,L,I,G,rfl,rfl,rfl,inv⟩ S5
  obtain ⟨x0,MY,rfl⟩:=VL t;obtain ⟨p,hp,rfl⟩:=zN MY;have hi:i<a.2.length:=(Qd.mp hp).1;have A:b.2[i]? =some (b.2[i]'⋯):=Qb _;have C:c.2[i]? =some (c.2[i]'⋯):=Qb _;generalize (b.2[i]'⋯)=q at*;generalize (c.2[i]'⋯)=r at*;have zp:SzQ 2000 p:=sa.2 p (Qc hp);have zq:SzQ 2000 q:=sb.2 q (Qc A);have zr:SzQ 2000 r:=sc.2 r (Qc C);have m:=uE zp zq;have s:=uE zp zr;have ib:atI (b.2.map frD) ((i:Nat):Int)=some (frD q):=zZ (by rw [Qg,A];rfl);have ic:atI (c.2.map frD) ((i:Nat):Int)=some (frD r):=zZ (by rw [Qg,C];rfl);refine xN (xM S5 .mm λu1 u2 S6=>?_);cases S6.int1;left;rename_i u3 S7;refine pf S7 .mm ib λu4 S8=>?_;left;rename_i vr H9 e9 S9 u5 MC;refine pf MC .mm ic λu6 MN=>?_;have m1:=m.1.mul zn.2;have m2:=m1.mul s.2;have m3:=s.1.mul D.2;have m4:=m3.mul m.2;have o1:=m.1.mulOk zn.2 nofun;have o2:=m1.mulOk s.2 nofun;have o3:=m2.mulOk D.1 nofun;have o4:=s.1.mulOk D.2 nofun;have o5:=m3.mulOk m.2 nofun;have o6:=m4.mulOk zn.1 nofun;left
  have cr:=Eu (rn:=q.num*(p.den:Int) - p.num*(q.den:Int)) (rd:=(p.den:Int)*(q.den:Int)) (nn:=b.1.num*(a.1.den:Int) - a.1.num*(b.1.den:Int)) (nd:=(a.1.den:Int)*(b.1.den:Int))
   (wn:=r.num*(p.den:Int) - p.num*(r.den:Int)) (wd:=(p.den:Int)*(r.den:Int)) (fn:=c.1.num*(a.1.den:Int) - a.1.num*(c.1.den:Int)) (fd:=(a.1.den:Int)*(c.1.den:Int)) (xG _ _) (xG _ _) (xG _ _) (xG _ _)
  rw [nj,nj,nj,nj] at cr;refine uz (λz=>?_) (λz=>?_)
  ·left;have ML:¬zY a b c:=λst=>z (cr.mp (st i _ _ _ hp A C));rw [show (@decide (zY a b c) (Classical.propDecidable _))=false from @decide_eq_false _ (Classical.propDecidable _) ML] at k;exact ret_B (by assumption) k
  ·left;rename_i vw OB OP MH;refine Zu (MH.dat ‹()›) ⟨_,_,_,_,rfl,rfl,rfl,λj x y z' hj Y Z g=>?_⟩
   by_cases Rn:j<i
   ·exact inv j x y z' Rn Y Z g
   ·have:j=i:=⋯
    subst this;rw [hp] at Y;rw [A] at Z;rw [C] at g;cases Y;cases Z;cases g;exact cr.mpr z
 ·rintro σ H5 cs ds ⟨M,L,I,G,rfl,rfl,rfl,inv⟩ S5
  left
  have ML:zY a b c:=λi x y z t hy hz=>inv i x y z (by
   have:=(Qd.mp t).1
   rw [Zd,Qa];exact this) t hy hz
  rw [show (@decide (zY a b c) (Classical.propDecidable _))=true from @decide_eq_true _ (Classical.propDecidable _) ML] at k;exact ret_B S5 k
def wq (B:Bl mg) (Ia:Cal P w K mg base CX0 2 "is_straight" paJ Jg):Coo P w K mg base "thinned" fK 3 ["corners"] fh:=by
 walk_at "-vO";obtain ⟨G,a,eG,hA,⟨m,ok⟩,k⟩:=h;obtain ⟨v0,rfl,al⟩:=XI hA;have S:Sta H G H [] _:=Sta.enter eG al;have few:=ok.few;walk_at "=ek1Pxba0cdfizplace,corner,corners,last;201;$ba0cHyp0yp1I<KOqtna0dlOqtna0a3l1QGhbja2Pa0dba1bja2Ba0dca1";left;refine mC S .mm λJ wk=>?_;refine cf wk (λj=>if YR a j then (a[j]?).map yb else none) S (λ_ _=> .mem (by right)) (by rw [Zd,Qa];lia) (λi x v Z Y Kd Kn t t1 S hd hn C ex s0 H0=>?_) λD H1 e1 X=>?_
 ·obtain ⟨x0,MY,rfl⟩:=VL t;obtain ⟨c,r,rfl⟩:=zN MY;have hi:i<a.length:=(Qd.mp r).1;refine xN (xM S .mm λu1 N u=>?_);cases u.int1;refine yV (zI (yV (zI (Wt ⟨rfl,?_⟩))));rw [r] at hd hn;have yes:YR a i=true->∀{g:Hp} {cs':xg} {ds':Dat},Sta Z Y g cs' ds'->Has ds' (yb c) N->Kd N g:=λhk {g cs' ds'} p h5=>hd (by rw [hk];rfl) p h5;have no:YR a i=false->∀{g:Hp} {cs':xg} {ds':Dat},Sta Z Y g cs' ds'->Kn g:=λhk {g cs' ds'} p=>hn (by rw [hk];rfl) p;left;refine Yh (λc0=>?_) (λc0=>?_)
  ·left;exact yes (XH (.inl ⋯)) u .mm
  ·left;refine Yh (λI=>?_) (λI=>?_)
   ·left;rw [Qa] at I;exact yes (XH (.inr (.inl ⋯))) u .mm
   ·rw [Qa] at I;have h0:i - 1<a.length:=⋯
    have U:i+1<a.length:=⋯
    have A:=Qb h0;have g2:=Qb U;have s:=QY h0;have L:=QY U;generalize a[i - 1]=c0' at*;generalize a[i+1]=c2' at*;have M:=Qc r;left;refine zW u .mm (IJ ⋯ (by rw [show ((i:Int) - 1).toNat=i - 1 by lia,Qg,A];rfl)) λu3 S3=>?_;left;refine zW S3 .mm (IJ ⋯ (by rw [show ((i:Int)+1).toNat=i+1 by lia,Qg,g2];rfl)) λu4 S4=>?_;left;refine rd_str S4 .mm .mm .mm (ok.sz _ s) (ok.sz _ M) (ok.sz _ L) (by rw [ok.len _ M,ok.len _ s]) (by rw [ok.len _ L,ok.len _ s]) (by rw [ok.len _ s];exact ok.m) λg p=>?_;left;refine @uz _ _ _ (_) (λz=>?_) (λz=>?_)
    ·left;exact yes (XH (.inr (.inr λq=>z (q _ _ _ A r g2)))) p .mm
    ·refine no ?_ p;refine kg ?_
     rintro (q|q|q)
     ·lia
     ·lia
     ·refine q λx y z' t T O=>?_;rw [A] at t;rw [r] at T;rw [g2] at O;cases t;cases T;cases O;exact z
 ·left;rw [Zd,Qa,wY] at X;exact xU X k
abbrev Uv:Stmt:=top 37
def oz:FnScope pak pak (zu Uv):=xA
def pH (B:Bl mg) (dg:Cal P w K mg base CX0 3 "plus" pab om):Coo P w K mg base "plus_each" Uv 4 pak (ou λp q=>p+q):=by
 walk_at "-oz";obtain ⟨G,⟨p,q⟩,L,z,⟨s1,s2,y⟩,k⟩:=h;obtain ⟨v,X,rfl,al⟩:=xC z;have S:Sta H G H [] _:=Sta.enter L al;dsimp only at s1 s2 y k S;walk_at "=fi8bzone,two;2;~ba0ba1cHyp0yp1Iuhba0ba1cc";left;refine my (xs:=p.map frD) S .mm .mm λJ s=>?_;refine yt s (λj=>frD ((List.zipWith (λp q=>p+q) p q).getD j 0)) (ys:=(List.zipWith (λp q=>p+q) p q).map frD) ?_ S (λ_ _=>⟨.mem (by right),λ_ _ h=>h.tail, .mem (by right)⟩) (by rw [yT,Qa,Qa];lia) (λj x v B' G' Kd Kn u t1 S hd C ex s0 H0=>?_) λD H1 Z S1=>?_
 ·rw [yT,Qa,Qa,show min p.length q.length=(List.zipWith (λp q=>p+q) p q).length by rw [QB]];exact zE frD 0 _
 ·obtain ⟨O,N,I,A,rfl⟩:=Yk u;obtain ⟨n1,m,rfl⟩:=zN I;obtain ⟨t,g,rfl⟩:=zN A;have z1:=s1 n1 (Qc m);have z2:=s2 t (Qc g);refine xN (xM S .mm λU T S=>?_);refine yV (zI (yV (zI (Wt ⟨rfl,?_⟩))));left;rename_i r H2 Y M;refine hd M ?_;rw [zG (by rw [Qr,m,g])];exact .mem (by right)
 left;exact Zc (by assumption) k .mm
abbrev Uw:Stmt:=top 38
def oA:FnScope pak pak (zu Uw):=xA
def pI (B:Bl mg) (Xv:Cal P w K mg base CX0 3 "minus" pab aV):Coo P w K mg base "less_each" Uw 4 pak (ou λp q=>p - q):=by
 walk_at "-oA";obtain ⟨G,⟨p,q⟩,L,z,⟨s1,s2,y⟩,k⟩:=h;obtain ⟨v,X,rfl,al⟩:=xC z;have S:Sta H G H [] _:=Sta.enter L al;dsimp only at s1 s2 y k S;walk_at "=fi8bzone,two;2;~ba0ba1cHyp0yp1Iuhba0ba1cc";left;refine my (xs:=p.map frD) S .mm .mm λJ s=>?_;refine yt s (λj=>frD ((List.zipWith (λp q=>p - q) p q).getD j 0)) (ys:=(List.zipWith (λp q=>p - q) p q).map frD) ?_ S (λ_ _=>⟨.mem (by right),λ_ _ h=>h.tail, .mem (by right)⟩) (by rw [yT,Qa,Qa];lia) (λj x v B' G' Kd Kn u t1 S hd C ex s0 H0=>?_) λD H1 Z S1=>?_
 ·rw [yT,Qa,Qa,show min p.length q.length=(List.zipWith (λp q=>p - q) p q).length by rw [QB]];exact zE frD 0 _
 ·obtain ⟨O,N,I,A,rfl⟩:=Yk u;obtain ⟨n1,m,rfl⟩:=zN I;obtain ⟨t,g,rfl⟩:=zN A;have z1:=s1 n1 (Qc m);have z2:=s2 t (Qc g);refine xN (xM S .mm λU T S=>?_);refine yV (zI (yV (zI (Wt ⟨rfl,?_⟩))));left;rename_i r H2 Y M;refine hd M ?_;rw [zG (by rw [Qr,m,g])];exact .mem (by right)
 left;exact Zc (by assumption) k .mm
abbrev lK:Stmt:=top 28
def BD:FnScope ["path","end"] ["path"] (zu lK):=xA
def CC (B:Bl mg) (Z:Cal P w K mg base CX0 3 "minus" pab aV) (Lc:Cal P w K mg base CX0 4 "less_each" pak (ou λp q=>p - q)):Coo P w K mg base "turned" lK 5 ["path"] dU:=by
 walk_at "-BD";obtain ⟨G,a,M,L,ok,k⟩:=h;obtain ⟨v0,rfl,al⟩:=XI L;have S:Sta H G H [] _:=Sta.enter M al;have few:=ok.few;obtain ⟨T,y⟩:=ok.last;have g:=ok.sz _ y;have z:=g.1;walk_at "=ek1ja0Ldfizcorner,end;11;ηba0cp0usbhbg1bg0cbhbg1bg0cc";left;refine zW (xs:=a.map yb) S .mm (uX (by rw [jaF,T];rfl)) λU u=>?_;left;refine JC u .mm λJ I=>?_;refine yt I (λj=>yb (Up (lastC a) (a.reverse.getD j (0,[])))) (ys:=(yA a).map yb) ?_ u (λ_ _=> .mem (by right)) (by rw [Tu,Qa];lia) (λj x v B' G' Kd Kn s t1 S hd C ex s0 H0=>?_) λD H2 Y O=>?_
 ·unfold yA;rw [Qm,Tu,Qa,<-Tu];exact zE (λc=>yb (Up (lastC a) c)) (0,[]) _
 ·rw [<-List.map_reverse] at s;obtain ⟨c,t,rfl⟩:=zN s;have N:c∈a:=jbM.mp (Qc t);have m:=ok.sz c N;have A:=m.1;refine zI ⟨rfl,?_⟩;left;refine Co (p:=(lastC a).2) (by assumption) .mm .mm g.2 m.2 (ok.len _ y) λr H3 X S3=>?_;left;refine hd (by assumption) ?_;rw [zG t];exact .mem (by right)
 exact xU O k
abbrev lN:Stmt:=top 29
def BG:FnScope paX paX (zu lN):=xA
def CH (B:Bl mg) (nN:Cal P w K mg base CX0 3 "times" pab qO):Coo P w K mg base "scaled" lN 4 paX kX:=by
 walk_at "-BG";obtain ⟨G,⟨a,p⟩,L,I,⟨ok,t⟩,k⟩:=h;obtain ⟨v0,vp,rfl,al⟩:=xC I;have S:Sta H G H [] _:=Sta.enter L al;dsimp only at ok t k S;have few:=ok.few;walk_at "=fizcorner,portion;11;va0p0usbhbg0ba1cb8bzpart,portion;11;%g0p0uhba0ba1ccc";left;refine zP (xs:=a.map yb) S .mm λJ z=>?_;refine yr z (λj=>yb ((λc:zh=>(c.1*p,c.2.map (·*p))) (a.getD j (0,[])))) (ys:=(yd p a).map yb) ?_ S (λj x v=>λA t1 S hd=>?_) λD H2 e2 s=>?_
 ·unfold yd;rw [Qm,Qa];exact zE (λc=>yb ((λc:zh=>(c.1*p,c.2.map (·*p))) c)) (0,[]) _
 ·obtain ⟨c,g,rfl⟩:=zN A;have m:=ok.sz c (Qc g);have u:=m.1;have lc:=ok.len c (Qc g);refine zI ⟨rfl,?_⟩;left;rename_i Z S1 r1 H1 e1 s Y r;refine mB r .mm λJ2 O=>?_;refine yt O (λj=>frD (c.2.getD j 0*p)) (ys:=(c.2.map (·*p)).map frD) (by rw [Qa,Qm];exact zE (λx=>frD (x*p)) 0 c.2) r (λ_ _=> .mem (by right)) (by rw [Qa];exact lc) (λj x v B' G' U T N t2 S hd2 C ex s0 H0=>?_) λD2 H4 e4 S4=>?_
  ·obtain ⟨y,q,rfl⟩:=zN N;have X:=m.2 y (Qc q);refine zI ⟨rfl,?_⟩;left;rename_i r5 H5 e5 M;refine hd2 M ?_;rw [zG q];exact .mem (by right)
  left;refine hd (by assumption) ?_;rw [zG g];exact .mem (by right)
 exact xU s k
abbrev lX:Stmt:=top 30
def BL:FnScope ["path","second","end","moved"] paP (zu lX):=xA
def CV (B:Bl mg) (dg:Cal P w K mg base CX0 3 "plus" pab om) (Lb:Cal P w K mg base CX0 4 "plus_each" pak (ou λp q=>p+q)) (qF:Cal P w K mg base CX0 3 "thinned" ["corners"] fh):Coo P w K mg base "behind" lX 5 paP UW:=by
 walk_at "-BL";obtain ⟨G,⟨a,b⟩,eG,Y,⟨ok,s,m,L⟩,k⟩:=h;obtain ⟨v0,v1,rfl,al⟩:=xC Y;have S:Sta H G H [] _:=Sta.enter eG al;dsimp only at ok s L k S;have few:=ok.few;have A:=s.few;obtain ⟨MM,M⟩:=ok.last;have u:=ok.sz _ M;have N:=u.1;walk_at "=ek2ja0LdeN3corner,end;12;v2a1Zd4p0usbhbg1bg0cbhbg1bg0ccfihbBa0a3c";left;refine zW (xs:=a.map yb) S .mm (uX (by rw [jaF,MM];rfl)) λve S1=>?_;left;refine oR S1 .mm λl2 H2 e2 t=>?_
 have Z:qb (b.map yb) (some 1) none=b.tail.map yb:=by
  unfold qb;rw [HT.sIx_none,show (some (1:Int))=some ((1:Nat):Int) from rfl,HT.sIx_nat,Qa];have X:1<=b.length:=jba.mpr s.ne;rw [Nat.min_eq_left X,Tv (by rw [TR,Qa];exact Qu _),<-List.map_drop,List.drop_one]
 rw [Z] at t;refine Ck t (by right) λJ T=>?_;refine yt T (λj=>yb (VW (lastC a) (b.tail.getD j (0,[])))) (ys:=(yM a b).map yb) ?_ t (λ_ _=>Qf _ (by right)) (by rw [Qa,jaQ];lia) (λj x v B' G' Kd Kn U t1 S hd C ex s0 H0=>?_) λD H3 e3 g=>?_
 ·unfold yM;rw [Qm,Qa];exact zE (λc=>yb (VW (lastC a) c)) (0,[]) _
 ·obtain ⟨c,z,rfl⟩:=zN U;have cm:c∈b:=TQ (Qc z);have y:=s.sz c cm;have O:=y.1;refine zI ⟨rfl,?_⟩;left;refine Co (p:=(lastC a).2) (by assumption) .mm .mm u.2 y.2 (ok.len _ M) λr H3 e3 g=>?_;left;refine hd (by assumption) ?_;rw [zG z];exact .mem (by right)
 left;obtain ⟨pa,rfl⟩:=g.refL .mm
 refine ZS g (g.vwL .mm) (g.vwC (by right)) (by
  rw [Qa,Qa];unfold yM
  rw [Qa,jaQ];lia) λp4 H4 e4 I=>?_
 rw [<-QT] at I;have S5:=I.freeze;left;refine vV S5 .mm L λp6 H6 e6 S6=>?_;exact xU (S6.weak (by walk_at "sub") Dats.nil) k
section
variable {fS fT Ru:Addr} {A:RAd}
abbrev YK:Stmt:=ZY (top 56) 0
def WD:FnScope pae pae (zu YK):=xA
def Gj (F:Fun K "__init__" "Rule.__init__" YK f fd):FnOk P w K mg base CX0 1 f fd pae (Xk K fS fT Ru):=by
 refine F.ok WD (λvs H Q E h=>?_) (λy A outer s H vs Q E hr h=>?_)
 ·obtain ⟨C,ok,G,d,x,m,us,rfl,_,_,_,g,_⟩:=h;rw [Qy,<-g.len];rfl
 obtain ⟨C,ok,G,d,x,m,us,rfl,u,t,q,g,k⟩:=h;obtain ⟨v,rfl,al⟩:=XI g;have nd0:=WD.nd;walk_at "=fθa0a1";refine ⟨v,rfl, .ref x,rfl,x,C,m,[],rfl,q,ok.cl,ok.na,nofun,?_⟩;refine k _ G v (λp o hp r=>by rw [ym hp];exact r) (zV.refl _) (λp o hp=>?_) (λ_ _=>rfl) ?_ (al _ (Qq.mpr rfl))
 ·rw [ym (yn hp t)];exact u p o hp
 ·rw [yU];rfl
abbrev WZ:Stmt:=ZY (top 56) 1
def lG:FnScope pac pac (zu WZ):=xA
def Gh (q:∀r:Rl,ROk K fS fT Ru (A.cls r)) (F:Fun K "shape" "Rule.shape" WZ f fd):FnOk P w K mg base CX0 1 f fd pac (aT A):=by
 walk_at "+lG";obtain ⟨G,r,m,g,_,k⟩:=h;obtain ⟨v,rfl,al⟩:=XI g;have S:Sta H G H [] _:=Sta.enter m al;walk_at "=fi)a0";refine rd_ret (rd_fld ?_);left;refine Cm S .mm (q r) λw p=>?_;exact Zc p k .mm
abbrev ZM:Stmt:=ZY (top 57) 0
def YW:FnScope pac pac (zu ZM):=xA
def jb (Yu:mg "Rule"=some (.ref Ru)) (fN:PySem.W.specialIn K (.ref Ru) "__getattribute__"=some (some (.builtin "type.__getattribute__"))) (gg:PySem.W.readsIn K Ru (.type "type")=true) {m:Addr} {q:FuncData} (Zh:PySem.W.findCls K (.ref Ru) (.type "type") "__init__"=some (.val (.ref m))) (Zj:FnOk P w K mg base CX0 1 m q pae (Xk K fS fT Ru)) (Zg:PySem.W.keepIn K (.ref m)=true) (Zi:xp K q pae []) (ok:ROk K fS fT Ru (A.cls .shares)) (F:Fun K "__init__" "Shares.__init__" ZM f fd):FnOk P w K mg base CX0 2 f fd pac (xq (A.cls .shares) (α:=Unit) (λ_=>[]) (λ_=>Rl.shares.shape)):=by
 refine F.ok YW (λvs H Q E h=>?_) (λN A outer s H vs Q E hr h=>?_)
 ·obtain ⟨G,d,x,L,us,rfl,_,_,_,g,_⟩:=h;rw [Qy,<-g.len];rfl
 obtain ⟨G,d,x,L,us,rfl,J,I,r,g,k⟩:=h;rw [zL] at g;subst g;have S:Sta H G H [] []:=Sta.enter J λp hp=>absurd hp Qp;have nd0:=YW.nd;walk_at "=fE56ba0bsbwcc";left;refine Xc (by assumption) I r ok .mm λH' M w D C z y u t=>?_;exact k H' M w D C z y u t
abbrev ZQ:Stmt:=ZY (top 58) 0
def Xa:FnScope pac pac (zu ZQ):=xA
def jf (Yu:mg "Rule"=some (.ref Ru)) (fN:PySem.W.specialIn K (.ref Ru) "__getattribute__"=some (some (.builtin "type.__getattribute__"))) (gg:PySem.W.readsIn K Ru (.type "type")=true) {m:Addr} {q:FuncData} (Zh:PySem.W.findCls K (.ref Ru) (.type "type") "__init__"=some (.val (.ref m))) (Zj:FnOk P w K mg base CX0 1 m q pae (Xk K fS fT Ru)) (Zg:PySem.W.keepIn K (.ref m)=true) (Zi:xp K q pae []) (ok:ROk K fS fT Ru (A.cls .evenly)) (F:Fun K "__init__" "Evenly.__init__" ZQ f fd):FnOk P w K mg base CX0 2 f fd pac (xq (A.cls .evenly) (α:=Unit) (λ_=>[]) (λ_=>Rl.evenly.shape)):=by
 refine F.ok Xa (λvs H Q E h=>?_) (λN A outer s H vs Q E hr h=>?_)
 ·obtain ⟨G,d,x,L,us,rfl,_,_,_,g,_⟩:=h;rw [Qy,<-g.len];rfl
 obtain ⟨G,d,x,L,us,rfl,J,I,r,g,k⟩:=h;rw [zL] at g;subst g;have S:Sta H G H [] []:=Sta.enter J λp hp=>absurd hp Qp;have nd0:=Xa.nd;walk_at "=fE56ba0bsbwcc";left;refine Xc (by assumption) I r ok .mm λH' M w D C z y u t=>?_;exact k H' M w D C z y u t
abbrev ZN:Stmt:=ZY (top 59) 0
def YX:FnScope pac pac (zu ZN):=xA
def jc (Yu:mg "Rule"=some (.ref Ru)) (fN:PySem.W.specialIn K (.ref Ru) "__getattribute__"=some (some (.builtin "type.__getattribute__"))) (gg:PySem.W.readsIn K Ru (.type "type")=true) {m:Addr} {q:FuncData} (Zh:PySem.W.findCls K (.ref Ru) (.type "type") "__init__"=some (.val (.ref m))) (Zj:FnOk P w K mg base CX0 1 m q pae (Xk K fS fT Ru)) (Zg:PySem.W.keepIn K (.ref m)=true) (Zi:xp K q pae []) (ok:ROk K fS fT Ru (A.cls .losses)) (F:Fun K "__init__" "Losses.__init__" ZN f fd):FnOk P w K mg base CX0 2 f fd pac (xq (A.cls .losses) (α:=Unit) (λ_=>[]) (λ_=>Rl.losses.shape)):=by
 refine F.ok YX (λvs H Q E h=>?_) (λN A outer s H vs Q E hr h=>?_)
 ·obtain ⟨G,d,x,L,us,rfl,_,_,_,g,_⟩:=h;rw [Qy,<-g.len];rfl
 obtain ⟨G,d,x,L,us,rfl,J,I,r,g,k⟩:=h;rw [zL] at g;subst g;have S:Sta H G H [] []:=Sta.enter J λp hp=>absurd hp Qp;have nd0:=YX.nd;walk_at "=fE56ba0bsbwcc";left;refine Xc (by assumption) I r ok .mm λH' M w D C z y u t=>?_;exact k H' M w D C z y u t
abbrev ZO:Stmt:=ZY (top 60) 0
def YY:FnScope pac pac (zu ZO):=xA
def jd (Yu:mg "Rule"=some (.ref Ru)) (fN:PySem.W.specialIn K (.ref Ru) "__getattribute__"=some (some (.builtin "type.__getattribute__"))) (gg:PySem.W.readsIn K Ru (.type "type")=true) {m:Addr} {q:FuncData} (Zh:PySem.W.findCls K (.ref Ru) (.type "type") "__init__"=some (.val (.ref m))) (Zj:FnOk P w K mg base CX0 1 m q pae (Xk K fS fT Ru)) (Zg:PySem.W.keepIn K (.ref m)=true) (Zi:xp K q pae []) (ok:ROk K fS fT Ru (A.cls .halves)) (F:Fun K "__init__" "Halves.__init__" ZO f fd):FnOk P w K mg base CX0 2 f fd pac (xq (A.cls .halves) (α:=Unit) (λ_=>[]) (λ_=>Rl.halves.shape)):=by
 refine F.ok YY (λvs H Q E h=>?_) (λN A outer s H vs Q E hr h=>?_)
 ·obtain ⟨G,d,x,L,us,rfl,_,_,_,g,_⟩:=h;rw [Qy,<-g.len];rfl
 obtain ⟨G,d,x,L,us,rfl,J,I,r,g,k⟩:=h;rw [zL] at g;subst g;have S:Sta H G H [] []:=Sta.enter J λp hp=>absurd hp Qp;have nd0:=YY.nd;walk_at "=fE56ba0bsbwcc";left;refine Xc (by assumption) I r ok .mm λH' M w D C z y u t=>?_;exact k H' M w D C z y u t
abbrev Yq:Stmt:=ZY (top 61) 0
def XD:FnScope paq paq (zu Yq):=xA
def mL (Yu:mg "Rule"=some (.ref Ru)) (fN:PySem.W.specialIn K (.ref Ru) "__getattribute__"=some (some (.builtin "type.__getattribute__"))) (gg:PySem.W.readsIn K Ru (.type "type")=true) {p:Addr} {t:FuncData} (Zh:PySem.W.findCls K (.ref Ru) (.type "type") "__init__"=some (.val (.ref p))) (Zj:FnOk P w K mg base CX0 1 p t pae (Xk K fS fT Ru)) (Zg:PySem.W.keepIn K (.ref p)=true) (Zi:xp K t pae []) {g:FuncData} (Yj:FnOk P w K mg base CX0 1 fS g pac (aT A)) (xx:xp K g pac []) (q:∀r:Rl,ROk K fS fT Ru (A.cls r)) (F:Fun K "__init__" "Other.__init__" Yq f fd):FnOk P w K mg base CX0 2 f fd paq (xq (A.cls (.other .shares)) (α:=Rl) (λr=>[r.ins A]) (λr=>(Rl.other r).shape)):=by
 refine F.ok XD (λvs H Q E h=>?_) (λY Z outer s H vs Q E hr h=>?_)
 ·obtain ⟨G,d,x,N,us,rfl,_,_,_,m,_⟩:=h;rw [Qy,<-m.len];rfl
 obtain ⟨G,r,x,N,us,rfl,M,L,u,m,k⟩:=h;obtain ⟨v,rfl,al⟩:=XI m;have S:Sta H G H [] _:=Sta.enter M al;have nd0:=XD.nd;walk_at "=fE56ba0bsbwb9a1+cc";left;refine jT S .mm (q r) ?_;refine VF S .mm λT H1 U X=>?_;left;refine Xc (by assumption) L u (q (.other .shares)) .mm λH' O w J I D C z y=>?_;exact k H' O w J I D C z y
abbrev Yp:Stmt:=ZY (top 62) 0
def XC:FnScope paq paq (zu Yp):=xA
def mK (Yu:mg "Rule"=some (.ref Ru)) (fN:PySem.W.specialIn K (.ref Ru) "__getattribute__"=some (some (.builtin "type.__getattribute__"))) (gg:PySem.W.readsIn K Ru (.type "type")=true) {p:Addr} {t:FuncData} (Zh:PySem.W.findCls K (.ref Ru) (.type "type") "__init__"=some (.val (.ref p))) (Zj:FnOk P w K mg base CX0 1 p t pae (Xk K fS fT Ru)) (Zg:PySem.W.keepIn K (.ref p)=true) (Zi:xp K t pae []) {g:FuncData} (Yj:FnOk P w K mg base CX0 1 fS g pac (aT A)) (xx:xp K g pac []) (q:∀r:Rl,ROk K fS fT Ru (A.cls r)) (F:Fun K "__init__" "Ranks.__init__" Yp f fd):FnOk P w K mg base CX0 2 f fd paq (xq (A.cls (.ranks .shares)) (α:=Rl) (λr=>[r.ins A]) (λr=>(Rl.ranks r).shape)):=by
 refine F.ok XC (λvs H Q E h=>?_) (λY Z outer s H vs Q E hr h=>?_)
 ·obtain ⟨G,d,x,N,us,rfl,_,_,_,m,_⟩:=h;rw [Qy,<-m.len];rfl
 obtain ⟨G,r,x,N,us,rfl,M,L,u,m,k⟩:=h;obtain ⟨v,rfl,al⟩:=XI m;have S:Sta H G H [] _:=Sta.enter M al;have nd0:=XC.nd;walk_at "=fE56ba0bsbwb9a1+cc";left;refine jT S .mm (q r) ?_;refine VF S .mm λT H1 U X=>?_;left;refine Xc (by assumption) L u (q (.ranks .shares)) .mm λH' O w J I D C z y=>?_;exact k H' O w J I D C z y
abbrev ZP:Stmt:=ZY (top 63) 0
def YZ:FnScope paB paB (zu ZP):=xA
def je (Yu:mg "Rule"=some (.ref Ru)) (fN:PySem.W.specialIn K (.ref Ru) "__getattribute__"=some (some (.builtin "type.__getattribute__"))) (gg:PySem.W.readsIn K Ru (.type "type")=true) {p:Addr} {u:FuncData} (Zh:PySem.W.findCls K (.ref Ru) (.type "type") "__init__"=some (.val (.ref p))) (Zj:FnOk P w K mg base CX0 1 p u pae (Xk K fS fT Ru)) (Zg:PySem.W.keepIn K (.ref p)=true) (Zi:xp K u pae []) {g:FuncData} (Yj:FnOk P w K mg base CX0 1 fS g pac (aT A)) (xx:xp K g pac []) (q:∀r:Rl,ROk K fS fT Ru (A.cls r)) (F:Fun K "__init__" "Groups.__init__" ZP f fd):FnOk P w K mg base CX0 2 f fd paB (xq (A.cls (.groups .shares .shares)) (α:=Rl×Rl) (λr=>[r.1.ins A,r.2.ins A]) (λr=>(Rl.groups r.1 r.2).shape)):=by
 refine F.ok YZ (λvs H Q E h=>?_) (λMv A' outer s H vs Q E hr h=>?_)
 ·obtain ⟨G,d,x,T,us,rfl,_,_,_,m,_⟩:=h;rw [Qy,<-m.len];rfl
 obtain ⟨G,⟨r,y⟩,x,T,us,rfl,O,N,z,m,k⟩:=h;obtain ⟨v,v2,rfl,al⟩:=xC m;have S:Sta H G H [] _:=Sta.enter O al;dsimp only at k S;have nd0:=YZ.nd;walk_at "=fE56ba0bsbwb9a1+b9a2+cc";left;refine jT S .mm (q r) ?_;refine VF S .mm λY H1 e1 t=>?_;left;refine jT t .mm (q y) ?_;refine VF t .mm λX H2 Z S2=>?_;left;refine Xc (by assumption) N z (q (.groups .shares .shares)) .mm λH' U w M L J I D C=>?_;exact k H' U w M L J I D C
abbrev YJ:Stmt:=ZY (top 64) 0
def WC:FnScope pan pan (zu YJ):=xA
def pJ (Yu:mg "Rule"=some (.ref Ru)) (fN:PySem.W.specialIn K (.ref Ru) "__getattribute__"=some (some (.builtin "type.__getattribute__"))) (gg:PySem.W.readsIn K Ru (.type "type")=true) {p:Addr} {y:FuncData} (Zh:PySem.W.findCls K (.ref Ru) (.type "type") "__init__"=some (.val (.ref p))) (Zj:FnOk P w K mg base CX0 1 p y pae (Xk K fS fT Ru)) (Zg:PySem.W.keepIn K (.ref p)=true) (Zi:xp K y pae []) {g:FuncData} (Yj:FnOk P w K mg base CX0 1 fS g pac (aT A)) (xx:xp K g pac []) (q:∀r:Rl,ROk K fS fT Ru (A.cls r)) (F:Fun K "__init__" "Upto.__init__" YJ f fd):FnOk P w K mg base CX0 2 f fd pan (xq (A.cls (.upto 0 0 .shares .shares)) (α:=(Int×Int)×Rl×Rl) (λr=>[.tuple [.int r.1.1, .int r.1.2],r.2.1.ins A,r.2.2.ins A]) (λr=>(Rl.upto r.1.1 r.1.2 r.2.1 r.2.2).shape)):=by
 refine F.ok WC (λvs H Q E h=>?_) (λMv A' outer s H vs Q E hr h=>?_)
 ·obtain ⟨G,d,x,U,us,rfl,_,_,_,m,_⟩:=h;rw [Qy,<-m.len];rfl
 obtain ⟨G,⟨⟨t,b⟩,r,z⟩,x,U,us,rfl,T,O,C,m,k⟩:=h;obtain ⟨v0,v,v2,rfl,al⟩:=ZA m;have S:Sta H G H [] _:=Sta.enter T al;dsimp only at k S;have nd0:=WC.nd;walk_at "=fE56ba0bsbwba1b9a2+b9a3+cc";left;refine jT S .mm (q r) ?_;refine VF S .mm λZ H1 e1 u=>?_;left;refine jT u .mm (q z) ?_;refine VF u .mm λY H2 e2 S2=>?_;left;refine Xc (by assumption) O C (q (.upto 0 0 .shares .shares)) .mm λH' X w N M L J I D=>?_;exact k H' X w N M L J I D
end
abbrev fM:Stmt:=ZY (top 56) 2
def Il:FnScope pac pac (zu fM):=xA
local macro_rules|`(tactic|walk_at "rd")=>`(tactic|first|fail "&177"|fail)
section
variable {A:RAd}
abbrev Xq:Stmt:=top 9
def WV:FnScope ["claims","claim"] pas (zu Xq):=xA
def Gx (B:Bl mg) (g:mg "MOST"=some (.int 8 tM)):Coo P w K mg base "check_claims" Xq 1 pas lB:=by
 walk_at "-WV";obtain ⟨l,r,ok,k⟩:=h;obtain ⟨v,rfl,al⟩:=XI r;have S:Sta H H H [] [(zo l,v)]:=Sta.enter (zV.refl _) al;have pos:=ok.pos;have few:=ok.few;refine ⟨_,(ue (ps_if (PW.pt (pw_or (rK (op_eqA (Fw hr)) (dZ qf rfl B.len IH (Vg (pv 0) gB)) ug (Dc _)) (pw_or1 (rK op_gt (dZ qf rfl B.len IH (Vg (pv 0) gB)) (JO (v:= .int 8) rfl g ⟨_,rfl⟩) (Dc _))))) (gh uf) Cu) (gh (ps_for PassesOwn.never rfl (mH (pv 0)) (pg_a 1 WV.nd) (gh (ps_if (rK op_lt (dZ (Ez rfl) rfl B.min IG (Vg (pv 1) gB)) ug (Dc _)) (gh uf) Cu))))),mw ?_⟩;left;refine Yh (λc=>absurd c (by rw [Qa];lia)) (λ_=>?_);left;refine Yh (λc=>absurd c (by rw [Qa];lia)) (λ_=>?_);left;refine zP S .mm λJ p=>?_;refine xX p (λi σ cs ds=>(∃x,σ=[some v,x])/\cs=[]/\ds=[(zo l,v)]) S ⟨⟨none,rfl⟩,rfl,rfl⟩ (λi σ cs ds h=>?_) ?_ ?_
 ·obtain ⟨_,rfl,rfl⟩:=h;exact .mem (by right)
 ·rintro i x u σ H2 cs ds hx ⟨⟨x1,rfl⟩,rfl,rfl⟩ S2
  obtain ⟨c,q,rfl⟩:=zN hx;have nn:=ok.nn c (Qc q);left;refine Jy (ns:=[c.1,c.2.1,c.2.2]) S2 .mm (Nat.zero_lt_succ _) λm hm _=>?_
  have m0:¬m<0:=by
   simp only [Qn,Qp,or_false] at hm
   rcases hm with rfl|rfl|rfl<;>lia
  left;refine Yh (λc=>absurd c m0) (λ_=>?_);left;exact Zu (S2.dat ‹()›) ⟨⟨_,rfl⟩,rfl,rfl⟩
 ·rintro σ H2 cs ds ⟨⟨x1,rfl⟩,rfl,rfl⟩ S2
  exact k _ S2.base
abbrev Xl:Stmt:=top 52
def fB:FnScope ["parts"] ["parts"] (zu Xl):=xA
def ok_wc (B:Bl mg):Coo P w K mg base "whole_corner" Xl 1 ["parts"] spWC:=by
 walk_at "-fB";obtain ⟨G,l,s,r,ok,k⟩:=h;obtain ⟨v,rfl,al⟩:=XI r;have S:Sta H G H [] _:=Sta.enter s al;walk_at "=fisbsbTUba0cbdcb8bzpart;1;va0p0usba0bdccc";left;rename_i t H1 z g;refine zP g .mm λJ m=>?_;refine yr m (λj=>frD ((l.getD j 0:Int):Rat)) (ys:=(yg l).2.map frD) (by unfold yg;rw [Qa,Qm];exact zE (λx:Int=>frD ((x:Int):Rat)) 0 l) g (λj x v=>λq t1 S hd=>?_) λD I u C=>?_
 ·obtain ⟨y,p,rfl⟩:=zN q;cases S.int1;refine zI ⟨rfl,?_⟩;left;refine hd (by assumption) ?_;rw [zG p];exact .mem (by right)
 left;exact Zc (by assumption) k .mm
abbrev fL:Stmt:=top 51
def vP:FnScope ["count"] ["count"] (zu fL):=xA
def wB (J:Cal P w K mg base CX0 1 "whole_corner" ["parts"] spWC):Coo P w K mg base "nothing" fL 2 ["count"] WQ:=by
 walk_at "-vP";obtain ⟨G,n,q,m,ok,k⟩:=h;cases (yP (ns:=[(n:Int)]) m);have S:Sta H G H [] []:=Sta.enter q λp hp=>absurd hp Qp;walk_at "=fiCbhb[Cbdca0cc";left;rename_i z H1 I t;refine Jw t (by right) ⋯ λg u D s=>?_;have r:Sta H G u [] [(.list ((YG n).map PyData.int), .ref g)]:=s.freeze.weak (by walk_at "sub") ‹()›;refine Js r .mm (by rw [UN];exact ok) λy M C L=>?_;left;exact xU (by assumption) k
abbrev lM:Stmt:=top 45
def BF:FnScope ["claims","amounts"] pas (zu lM):=xA
def CF (B:Bl mg) (Wg:Cal P w K mg base CX0 2 "nothing" ["count"] WQ) (Xu:Cal P w K mg base CX0 1 "whole_corner" ["parts"] spWC):Coo P w K mg base "shares" lM 3 pas (cR 0):=by
 walk_at "-BF";obtain ⟨G,l,I,z,ok,k⟩:=h;obtain ⟨v,rfl,al⟩:=XI z;have S:Sta H G H [] _:=Sta.enter I al;have few:=ok.few;walk_at "=eN1claim;1;va0p0ug0emqtnTUba1cdlfihbxba1ccofiBhbxba1ccCbhba1cc";left;refine zP S .mm λJ s=>?_;refine yr s (λj=> .int (l.getD j (0,0,0)).1) (ys:=(amV l).map PyData.int) (by unfold amV;rw [Qa,Qm];exact zE (λc:Cl=>PyData.int c.1) (0,0,0) l) S (λj x v=>λu t1 S hd=>?_) λD H1 e1 r=>?_
 ·obtain ⟨c,y,rfl⟩:=zN u;refine zI ⟨rfl,?_⟩;left;refine hd (by assumption) ?_;rw [zG y];exact Has.int
 have q:Sta H G H1 [] [(.list ((amV l).map PyData.int), .ref D)]:=r.freeze.weak (by walk_at "sub") ‹()›;clear r;have g:(amV l).length<=8:=by rw [yf];lia
 dsimp only at k;unfold flV at k;have C:Ky (amV l) (lvV (amV l)) 0=shP (amV l):=rfl;rw [C] at k;generalize amV l=as at*;unfold shP at k;left;refine Yh (λc=>?_) (λc=>?_)
 ·rw [QH c] at k;left;rw [Qa];refine bE q g λt N L p=>?_;exact xU p k
 ·rw [QS c] at k;left;rw [Qa];refine bE q g λt N L p=>?_;left;refine Js p .mm g λO H4 Z S4=>?_;left;rename_i U H5 Y m;refine ZS m (m.vwC (by right)) (m.vwC (by right)) (by show 1+1<=1000;decide) λT H6 X M=>?_;exact xU M k
abbrev lV:Stmt:=top 46
def oI:FnScope ["claims","amounts"] pas (zu lV):=xA
def CT (B:Bl mg) (B2:Bl3 mg) (Xu:Cal P w K mg base CX0 1 "whole_corner" ["parts"] spWC):Coo P w K mg base "evenly" lV 2 pas (cR 1):=by
 walk_at "-oI";obtain ⟨G,l,eG,T,ok,k⟩:=h;obtain ⟨v,rfl,al⟩:=XI T;have S:Sta H G H [] _:=Sta.enter eG al;have few:=ok.few;refine ⟨_,(ue (ps_a 1 oI.nd (pcf ["claim"] 1 [] (mH (pv 0)) (pg_c 0) rL (pix 0))) (gh (ps_ret (Gd (N:=["level","amounts"]) (n:=1) (fr:=[1]) (y:="level") rfl ⟨rfl,by decide+kernel,rfl,nofun,rfl,rfl,λ_ _=>rfl,λ_=>rfl,rfl,rfl,rfl,rfl⟩ (mH (Gb rfl rfl B2.sorted rfl B2.set (pe_op CA (pe_lst (Vg ug gB)) (pv 1)))) (λ_ _ _ _=>(rN (i:=0) (show (["level","amounts"]:List Str).Nodup from by decide+kernel) rfl (by walk_at "o"))) (λ_ _ _ _=>rL) (λ_ _ _ _=>(pcl Xu hr (Vg (pcf ["amount","level"] 1 [0] (mH (pv 1)) (pg_c 0) rL (dZ (EA rfl) rfl B.min IG (Vg (pv 0) (Vg (pv 1) gB)))) gB))))))),mw ?_⟩;left;refine zP (xs:=l.map zJ) S .mm λJ t=>?_;refine yr t (λj=> .int (l.getD j (0,0,0)).1) (ys:=(amV l).map PyData.int) (by unfold amV;rw [Qa,Qm];exact zE (λc:Cl=>PyData.int c.1) (0,0,0) l) S (λj x v=>λg t1 S hd=>?_) λD H1 e1 s=>?_
 ·obtain ⟨c,O,rfl⟩:=zN g;refine zI ⟨rfl,?_⟩;left;refine hd (by assumption) ?_;rw [zG O];exact Has.int
 have p:Sta H G H1 [] [(.list ((amV l).map PyData.int), .ref D)]:=s.freeze.weak (by walk_at "sub") ‹()›;clear s;have I:(amV l).length<=8:=by rw [yf];lia
 have L:=ok.lv;have Lf:=L.few;dsimp only at k;unfold flV at k;have Z:Ky (amV l) (lvV (amV l)) 1=evP (amV l) (lvV (amV l)):=rfl;rw [Z] at k;generalize amV l=as at*;left;rename_i p3 H3 e3 m;refine ZS m (m.vwC (by right)) (m.vwL .mm) (by rw [Qa];show 1+_<=1000;lia) λp4 H4 e4 r=>?_;rw [show [PyData.int 0]++as.map PyData.int=(0::as).map PyData.int from rfl] at r;refine Vc r (by right) (by rw [Qy];lia) λos l5 H5 X U e5 q=>?_;cases lvV_eq X U;generalize lvV as=ls at*;refine Ck (xs:=ls.map PyData.int) q (by right) λJ2 NA=>?_;refine yt NA (λj=>yb (yg (Vi as (ls.getD j 0)))) (ys:=(evP as ls).map yb) (by unfold evP;rw [Qa,Qm];exact zE (λz:Int=>yb (yg (Vi as z))) 0 ls) q (λ_ _=>Qf _ (by right)) (by rw [Qa];lia) (λj x v B' G' Kd Kn g t1 S hd C ex s0 H0=>?_) λD6 H6 e6 S6=>?_
 ·obtain ⟨z,M,rfl⟩:=zN g;cases S.int1;refine zI ⟨rfl,?_⟩;left;refine zP (xs:=as.map PyData.int) S .mm λJ3 Nv=>?_;refine yt Nv (λi=> .int (min (as.getD i 0) z)) (ys:=(Vi as z).map PyData.int) (by unfold Vi;rw [Qa,Qm];exact zE (λa:Int=>PyData.int (min a z)) 0 as) S (λ_ _=> .mem (by right)) (by rw [Qa];lia) (λi x u B3 G3 Kd2 Kn2 OE t2 p hd2 C2 Y s2 H2=>?_) λD7 H7 e7 S7=>?_
  ·obtain ⟨a,ha,rfl⟩:=zN OE;cases p.int1;refine zI ⟨rfl,?_⟩;left;refine hd2 p ?_;rw [zG ha];exact Has.int
  left;refine Js S7.freeze .mm (by unfold Vi;rw [Qa];exact I) λw8 H8 e8 S8=>?_;refine hd S8 ?_;rw [zG M];exact .mem (by right)
 exact xU S6 k
abbrev lT:Stmt:=top 47
def BJ:FnScope pas pas (zu lT):=xA
def CP (t:Cal P w K mg base CX0 2 "evenly" pas (cR 1)) (u:Cal P w K mg base CX0 5 "turned" ["path"] dU):Coo P w K mg base "losses" lT 6 pas (cR 2):=by
 walk_at "-BJ";obtain ⟨G,l,p,m,ok,k⟩:=h;obtain ⟨v,rfl,al⟩:=XI m;have S:Sta H G H [] _:=Sta.enter p al;walk_at "=fihbhba0cc";left;refine bF S .mm ok λs H1 z q=>?_;left;refine oP (a:=flV 1 l) q.freeze .mm (ok.lv.inE ok.am) λr C y g=>?_;rw [show yA (flV 1 l)=flV 2 l from eS ok.lv] at g;exact xU g k
abbrev BN:Stmt:=top 50
def Jm:FnScope paF paF (zu BN):=xA
def JS (Z:Cal P w K mg base CX0 5 "behind" paP UW) (D:Cal P w K mg base CX0 4 "scaled" paX kX) (Y:Cal P w K mg base CX0 3 "minus" pab aV):Coo P w K mg base "upto" BN 6 paF Bt:=by
 walk_at "-Jm";obtain ⟨G,⟨p,a,b⟩,r,q,ok,k⟩:=h;obtain ⟨v0,v1,v2,rfl,al⟩:=ZA q;have S:Sta H G H [] _:=Sta.enter r al;dsimp only at ok k S;have g:=ok.sz;have one:SzQ 1 (1:Rat):=by unfold SzQ Sz;decide+kernel
 obtain ⟨m,pm⟩:=ok.m;walk_at "=fihbhba1ba0cbhba2bhbsbdbdcba0ccc";left;refine oV (p:=p) S .mm .mm ok.pa (g.mono nofun) λM H1 X z=>?_;have S2:=z.freeze;left;rename_i L H3 U y;refine rG (p:=(1:Rat)) y .mm .mm one g nofun True.intro λC H4 T u=>?_;left;refine oV (p:=1 - p) u .mm .mm ok.pb ((one.sub g).mono nofun) λJ H5 O t=>?_;left;refine ph t.freeze .mm .mm ok.sa ok.sb pm λI H6 N s=>?_;exact xU s k
abbrev lW:Stmt:=top 44
def fH:FnScope ["shape","claims","word"] paC (zu lW):=xA
abbrev UE:Stmt:=ZY (top 56) 3
def oK:FnScope paQ paQ (zu UE):=xA
abbrev Va:Stmt:=ZY (top 56) 4
def lH:FnScope pam pam (zu Va):=xA
end
abbrev lR:Stmt:=top 42
def BH:FnScope ["ones","twos","numbers","one","two"] pak (zu lR):=xA
def CN (B:Bl mg) (VU:Cal P w K mg base CX0 1 "before" pab UX):Coo P w K mg base "merged" lR 2 pak lr:=by
 walk_at "-BH";obtain ⟨G,⟨p,q⟩,eG,hA,⟨⟨n,z1,z2,hn⟩,l1,l2⟩,k⟩:=h;obtain ⟨v1,v2,rfl,al⟩:=xC hA;have S:Sta H G H [] [(.list (p.map frD),v1),(.list (q.map frD),v2)]:=Sta.enter eG al;dsimp only at z1 z2 l1 l2 k;have I:n+n<=100000000:=⋯
 walk_at "=ek2Ccek3dek4de/K0Va3xba0cl3Va4xba1clfmGhbja0a3bja1a4ceEXa2bja0a3cf|3demqtnja0a3ja1a4lf|3doeEXa2bja1a4cf|4dfiBBa22a0Za342a1Za44";left;rename_i pn H1 e1 S1;refine nU (λm σ cs ds=>∃(i j:Nat) (ns:List Rat),σ=[some v1,some v2,some (.ref pn),some (.int (i:Nat)),some (.int (j:Nat))]/\cs=[(pn,ns.map frD)]/\ds=[(.list (p.map frD),v1),(.list (q.map frD),v2)]/\i<=p.length/\j<=q.length/\ns.length<=i+j/\ns++yC (p.drop i) (q.drop j)=yC p q/\m=(p.length - i)+(q.length - j)) ((p.length - 0)+(q.length - 0)) S1 ⟨0,0,[],rfl,rfl,rfl,jap _,jap _,jap _,rfl,rfl⟩ ?_
 rintro m σ H2 cs ds ⟨i,j,ns,rfl,rfl,rfl,hi,hj,NR,Nc,rfl⟩ S2
 have cd:∀(l:List Rat) (t:Nat),t<=l.length->qb (l.map frD) (some ((t:Nat):Int)) none=(l.drop t).map frD:=by
  intro l t ht;unfold qb;rw [HT.sIx_none,HT.sIx_nat,Qa,Nat.min_eq_left ht,Tv (by rw [TR,Qa];exact Qu _),<-List.map_drop]
 left;refine Yh (λN=>?_) (λN=>?_)
 ·rw [Qa] at N;left;refine vU (λM=>?_) (λM=>?_)
  ·rw [Qa,decide_eq_true_eq] at M;have A:i<p.length:=⋯
   have z:j<q.length:=⋯
   have gi:=Qb A;have gj:=Qb z;have Y:=jbL A;have X:=jbL z;have zi:=z1 _ (QY A);have zj:=z2 _ (QY z);generalize p[i]=x at*;generalize q[j]=y at*;have D:atI (p.map frD) ((i:Nat):Int)=some (frD x):=zZ (by rw [Qg,gi];rfl);have C:atI (q.map frD) ((j:Nat):Int)=some (frD y):=zZ (by rw [Qg,gj];rfl);rw [Y,X,yC] at Nc;left;refine zW S2 .mm D λw3 s=>?_;left;refine zW s .mm C λw4 u=>?_;left;refine fW u .mm .mm zi zj I ?_;left;refine Yh (λL=>?_) (λL=>?_)
   ·rw [QH L] at Nc;left;refine zW u .mm D λw5 g=>?_;left;refine yR g .mm (by rw [Qa];lia) λZ r=>?_;left;refine ⟨_,?_,_,_,r.dat ‹()›,i+1,j,ns++[x],rfl,by rw [QT];rfl,rfl,A,hj,by rw [QA,TH];lia,?_,rfl⟩
    ·lia
    ·rw [<-Nc,X,jah];rfl
   ·rw [QS L] at Nc;left;refine zW u .mm D λw5 g=>?_;left;refine zW g .mm C λw6 r=>?_;refine Cn (r.hp .mm) (r.hp .mm) (jL _) (jL _) ?_;rw [El];left;refine Yh (λJ=>?_) (λJ=>?_)
    ·rw [QH J] at Nc;left;refine zW r .mm C λw7 T=>?_;left;refine yR T .mm (by rw [Qa];lia) λH8 O=>?_;left;refine ⟨_,?_,_,_,O.dat ‹()›,i+1,j+1,ns++[y],rfl,by rw [QT];rfl,rfl,A,z,by rw [QA,TH];lia,?_,rfl⟩
     ·lia
     ·rw [<-Nc,jah];rfl
    ·rw [QS J] at Nc;left;refine zW r .mm C λw7 T=>?_;left;refine yR T .mm (by rw [Qa];lia) λH8 O=>?_;left;refine ⟨_,?_,_,_,O.dat ‹()›,i,j+1,ns++[y],rfl,by rw [QT];rfl,rfl,hi,z,by rw [QA,TH];lia,?_,rfl⟩
     ·lia
     ·rw [<-Nc,Y,jah];rfl
  ·rw [Qa,decide_eq_false_iff_not] at M;have U:p.length<=i\/q.length<=j:= .inr ⋯;left;refine oR S2 .mm λl3 H3 e3 s=>?_;rw [cd p i hi] at s;refine ZS s (s.vwC (by right)) (s.vwC (by right)) (by rw [Qa,Qa,TR];lia) λp4 H4 e4 u=>?_;left;refine oR u .mm λl5 H5 e5 g=>?_;rw [cd q j hj] at g;refine ZS g (g.vwC (by right)) (g.vwC (by right)) (by rw [QA,Qa,Qa,Qa,TR,TR];lia) λp6 Z e6 r=>?_;refine Im ?_
   have em:(ns.map frD++(p.drop i).map frD)++(q.drop j).map frD=(yC p q).map frD:=by
    rw [<-Nc,QT,jah]
    congr 1
    rcases U with h|h
    ·rw [jbz h,yC];simp
    ·rw [jbz h,gH];simp
   rw [em] at r;exact xU (r.weak (by walk_at "sub") Dats.nil) k
 ·rw [Qa] at N;have U:p.length<=i\/q.length<=j:= .inl ⋯;refine vU (λh=>by cases h) (λ_=>?_);left;refine oR S2 .mm λl3 H3 e3 s=>?_;rw [cd p i hi] at s;refine ZS s (s.vwC (by right)) (s.vwC (by right)) (by rw [Qa,Qa,TR];lia) λp4 H4 e4 u=>?_;left;refine oR u .mm λl5 H5 e5 g=>?_;rw [cd q j hj] at g;refine ZS g (g.vwC (by right)) (g.vwC (by right)) (by rw [QA,Qa,Qa,Qa,TR,TR];lia) λp6 Z e6 r=>?_;refine Im ?_
  have em:(ns.map frD++(p.drop i).map frD)++(q.drop j).map frD=(yC p q).map frD:=by
   rw [<-Nc,QT,jah]
   congr 1
   rcases U with h|h
   ·rw [jbz h,yC];simp
   ·rw [jbz h,gH];simp
  rw [em] at r;exact xU (r.weak (by walk_at "sub") Dats.nil) k
abbrev ZH:Stmt:=top 40
def aa:FnScope ["path","place","levels","amounts","purses","level","reached","portion"] paT (zu ZH):=xA
def Gk (B:Bl mg) (jH:Cal P w K mg base CX0 2 "last_reached" paS tP) (cM:Cal P w K mg base CX0 4 "portion_reached" paA UT) (tx:Cal P w K mg base CX0 4 "amount_at" paz dX):Coo P w K mg base "purses_reaching" ZH 5 paT qP:=by
 walk_at "-aa";obtain ⟨G,⟨a,g,L⟩,eG,hA,⟨m,n,b,ok⟩,k⟩:=h;obtain ⟨v1,v2,N,rfl,al⟩:=ZA hA;have S:Sta H G H [] [(yJ a,v1),(.int (g:Nat),v2),(.list (L.map frD),N)]:=Sta.enter eG al;dsimp only at ok k;cases (S.hp .mm).int_of;have la:0<a.length:=jba.mpr ok.pr.ne;have fa:=ok.pr.few;have fl:=ok.few;have hz:=ok.sz;walk_at "=eN3corner,place;11;va0p0ujg0a1ek4CceFva2A5ek6hba3ba5cfmVa6Pxba0cdlek7hbja3a6bja3Ba6dba5cfEXa4bhbjja0a6dbjja0Ba6ddba7ccofia4";left;refine zP S .mm λJ Z=>?_;refine yr Z (λj=>frD ((λc:zh=>c.2.getD g 0) (a.getD j (0,[])))) (ys:=(a.map λc=>c.2.getD g 0).map frD) (by rw [Qa,Qm];exact zE (λc:zh=>frD (c.2.getD g 0)) (0,[]) a) S (λj x v=>λhx t1 S hd=>?_) λD H1 e1 S1=>?_
 ·obtain ⟨c,p,rfl⟩:=zN hx;have gc:=getD_some (by rw [ok.pm.t.len c (Qc p)];exact ok.kn);refine zI ⟨rfl,?_⟩;left;rename_i w2 S2;refine pf S2 .mm (zZ (by rw [Qg,gc];rfl)) λw3 S3=>?_;refine hd S3 ?_;rw [zG p];exact .mem (by right)
 have S2:=S1.freeze;clear S1;left;rename_i pp H3 e3 S3;have S4:Sta H G H3 [(pp,[])] [(.list ((a.map λc=>c.2.getD g 0).map frD), .ref D),(yJ a,v1),(.list (L.map frD),N)]:=S3.dat ‹()›;refine zP S4 .mm λJ Z=>?_;refine xX Z (λi σ cs ds=>∃(Y X U:Option V),σ=[some v1,some (.int (g:Nat)),some N,some (.ref D),some (.ref pp),Y,X,U]/\cs=[(pp,((L.take i).filterMap (xk a g)).map frD)]/\ds=[(.list ((a.map λc=>c.2.getD g 0).map frD), .ref D),(yJ a,v1),(.list (L.map frD),N)]) S4 ⟨none,none,none,rfl,rfl,rfl⟩ (λi σ cs ds h=>?_) ?_ ?_
 ·obtain ⟨_,_,_,_,_,rfl⟩:=h;exact .mem (by right)
 ·rintro i x u σ H5 cs ds hx ⟨Y,X,U,rfl,rfl,rfl⟩ S5
  obtain ⟨l,hl,rfl⟩:=zN hx;obtain ⟨T,l0⟩:=ok.lev l (Qc hl);have Si:i<L.length:=(Qd.mp hl).1;have O:∀c∈a,SzQ n (c.2.getD g 0):=λc p=>(ok.pr.sz c p).2 _ (Qc (getD_some (by rw [ok.pm.t.len c p];exact ok.kn)))
  have s:∀o:Option Rat,xk a g l=o->((L.take (i+1)).filterMap (xk a g)).map frD=((L.take i).filterMap (xk a g)).map frD++(o.toList.map frD):=λo ho=>by
   rw [TZ,hl,List.filterMap_append,QT]
   congr 1
   cases o with
   |none=>simp [ho]
   |some y=>simp [ho]
  left;refine Ci (qs:=a.map λc=>c.2.getD g 0) (e:=l) (n:=9000) S5 (S5.hp .mm) (S5.hp .mm) ⟨by rw [Qa];exact la,by rw [Qa];lia,λq hq=>?_,T.mono ⋯,nofun,λq hq=>?_⟩ λr q hi Nx Pd=>?_
  ·obtain ⟨c,p,rfl⟩:=Qi.mp hq;exact (O c p).mono ⋯
  ·obtain ⟨c,p,rfl⟩:=zN hq;exact l0 c p
  obtain ⟨c,p,rfl⟩:=zN hi;have M:r<a.length:=(Qd.mp p).1;rw [Qa] at Pd;left;refine Yh (λc1=>?_) (λc1=>?_)
  ·rw [Qa] at c1
   obtain ⟨y,hy,C⟩:∃y,(a.map λc=>c.2.getD g 0)[r+1]? =some y/\l<y:=by
    rcases Pd with h|h
    ·lia
    ·exact h
   obtain ⟨d,hd,rfl⟩:=zN hy
   have key:xk a g l=some (Zm ((l - c.2.getD g 0) / (d.2.getD g 0 - c.2.getD g 0)) c.1 d.1):=by
    have pm:=ok.pm;have A:=ok.kn
    obtain ⟨c0,r0,e0⟩:∃c r,a=c::r:=by
     cases a with
     |nil=>simp at M
     |cons c r=>exact ⟨c,r,rfl⟩
    rw [e0] at pm p hd⊢;exact oO A pm p hd Nx C
   have zc:=O c (Qc p);have zd:=O d (Qc hd);have z1:=(ok.pr.sz c (Qc p)).1;have z2:=(ok.pr.sz d (Qc hd)).1;have er:((r:Nat):Int)+1=((r+1:Nat):Int):=⋯
   have MR:d.2.getD g 0≠c.2.getD g 0:=λz=>by rw [z] at C;exact jan.mpr C Nx
   have zt:=SzQ.port T zc zd;have st:=s _ key;left;refine zW S5 .mm (zZ (by rw [Qg,hi];rfl)) λw6 S6=>?_;left;refine zW S6 .mm (by rw [er];exact zZ (by rw [Qg,hy];rfl)) λw7 S7=>?_;left;generalize c.2.getD g 0=x0 at*;generalize d.2.getD g 0=y0 at*;refine jS S7 .mm .mm .mm zc zd T ⋯ MR λr8 H8 e8 S8=>?_;generalize (l - x0) / (y0 - x0)=t at*;left;refine zW S8 .mm (zZ (by rw [Qg,p];rfl)) λw9 S9=>?_;left;rename_i OT MC;refine zW MC .mm (by rw [er];exact zZ (by rw [Qg,hd];rfl)) λOS MN=>?_;left;rename_i PN MH;refine pA MH .mm .mm .mm z1 z2 zt ⋯ λr13 RP RI MG=>?_;left;refine yR MG .mm ?_ λH14 Nu=>?_
   ·rw [Qa];have:=jbo (xk a g) (L.take i);rw [jad] at this;lia
   left;exact Zu (Nu.dat ‹()›) ⟨_,_,_,rfl,by rw [st];rfl,rfl⟩
  ·rw [Qa] at c1;have I:r+1=a.length:=⋯
   have key:xk a g l=none:=by
    have pm:=ok.pm;have A:=ok.kn
    obtain ⟨c0,r0,e0⟩:∃c r,a=c::r:=by
     cases a with
     |nil=>simp at M
     |cons c r=>exact ⟨c,r,rfl⟩
    rw [e0] at pm p I⊢;refine jR A pm λl' MS=>?_;rw [jas,<-I,Nat.add_sub_cancel,p] at MS;cases MS;exact Nx
   have st:=s _ key;left;exact Zu (S5.dat ‹()›) ⟨_,_,_,rfl,by rw [st];simp,rfl⟩
 ·rintro σ H5 cs ds ⟨Y,X,U,rfl,rfl,rfl⟩ S5
  rw [Qa,List.take_length] at S5;left;exact xU S5 k
abbrev Xn:Stmt:=top 41
def fD:FnScope ["path","others","purse","parts","part","other"] paU (zu Xn):=xA
def wu (B:Bl mg) (AI:Cal P w K mg base CX0 6 "parts_at" ["path","purse"] UU):Coo P w K mg base "parts_within" Xn 7 paU aU:=by
 walk_at "-fD";obtain ⟨G,⟨a,Qs,e⟩,T,M,ok,k⟩:=h;obtain ⟨v1,v2,y,rfl,al⟩:=ZA M;have S:Sta H G H [] [(yJ a,v1),(.list (Qs.map yJ),v2),(frD e,y)]:=Sta.enter T al;dsimp only at ok k;unfold yW at k;have few:=ok.few;have len:=ok.len;have part:=ok.part;walk_at "=ek3CceF]bhba0ba2cba1cHyA4yA5IfEιa3bhba5ba4ccfi8ba3c";left;rename_i pp H1 e1 S1;refine bD (a:=a) (e:=e) (m:=700) (n:=700) S1 .mm .mm ok.p ok.ez nofun ok.e0 λA H2 e2 Z=>?_;left;generalize zg a e=ps at*;have C:Sta H G H2 [(pp,[])] [(yj ps,A),(.list (Qs.map yJ),v2)]:=Z.dat ‹()›;refine tY (xs:=ps.map frD) (ys:=Qs.map yJ) C .mm .mm λJ D=>?_;refine xX D (λi σ cs ds=>∃(s r:Option V),σ=[some v1,some v2,some y,some (.ref pp),s,r]/\cs=[(pp,(((List.zipWith zg Qs ps).take i).flatten).map frD)]/\ds=[(yj ps,A),(.list (Qs.map yJ),v2)]) C ⟨none,none,rfl,rfl,rfl⟩ (λi σ cs ds h=>?_) ?_ ?_
 ·obtain ⟨_,_,_,_,rfl⟩:=h;exact ⟨.mem (by right),λ_ _ h=>h.tail, .mem (by right)⟩
 ·rintro i z u σ H4 cs ds hz ⟨s,r,rfl,rfl,rfl⟩ S4
  obtain ⟨z1,z2,O,N,rfl⟩:=Yk hz;obtain ⟨p,hp,rfl⟩:=zN O;obtain ⟨t,g,rfl⟩:=zN N;have op:=part p (Qc hp);obtain ⟨I,ql⟩:=ok.q t (Qc g);refine xN (xM S4 .mm λw4 w5 Y=>?_);left;refine bD (a:=t) (e:=p) (m:=700) (n:=700) Y .mm .mm I op.1 nofun op.2 λr6 H6 e6 X=>?_;left;refine wa (ys:=(zg t p).map frD) X .mm ?_ λH7 U=>?_
  ·rw [Qa,Qa];have l1:=DV (ps:=ps) i λQ g c L=>(ok.q Q g).2 c L;have l2:=gw (e:=p) ql;lia
  left;refine Zu (U.dat ‹()›) ⟨_,_,rfl,?_,rfl⟩;rw [TZ,Qr,g,hp]
  simp
 ·rintro σ H4 cs ds ⟨s,r,rfl,rfl,rfl⟩ S4
  rw [yT,Qa,Qa,Tv (by rw [QB];lia)] at S4;left;exact Zc (by assumption) k .mm
abbrev lJ:Stmt:=top 31
def BC:FnScope ["path","others","purses","place","other"] paZ (zu lJ):=xA
def CB (B:Bl mg) (vD:Cal P w K mg base CX0 2 "merged" pak lr) (AH:Cal P w K mg base CX0 5 "purses_reaching" paT qP) (Fi:Cal P w K mg base CX0 7 "parts_within" paU aU):Coo P w K mg base "within" lJ 8 paZ UR:=by
 walk_at "-BC";obtain ⟨G,⟨a,Qs⟩,eG,Y,ok,k⟩:=h;obtain ⟨v1,v2,rfl,al⟩:=xC Y;have S:Sta H G H [] [(yJ a,v1),(.list (Qs.map yJ),v2)]:=Sta.enter eG al;dsimp only at ok k;have pl:=ok.pl;have few:=ok.few;walk_at "=eN2corner;1;va0p0ug0eF$ba1cHyA3yA4Ifk2hba2bhba0ba3bzcorner;1;va4p0ug0ccfizpurse,path,others;101;va2p0usba0bhba1ba2ba0cc";left;refine zP S .mm λJ z=>?_;refine yr z (λj=>frD ((λc:zh=>c.1) (a.getD j (0,[])))) (ys:=(yi a).map frD) (by unfold yi;rw [Qa,Qm];exact zE (λc:zh=>frD c.1) (0,[]) a) S (λj x v=>λm t1 S hd=>?_) λD H1 e1 U=>?_
 ·obtain ⟨c,I,rfl⟩:=zN m;refine zI ⟨rfl,?_⟩;left;refine hd (by assumption) ?_;rw [zG I];exact .mem (by right)
 have T:=U.freeze;clear U;left;refine mC T .mm λJ z=>?_;refine xX z (λi σ cs ds=>∃(pp:Addr) (y t:Option V),σ=[some v1,some v2,some (.ref pp),y,t]/\cs=[]/\ds=[(.list ((wpF a 0 (Qs.take i) (yi a)).map frD), .ref pp),(yJ a,v1),(.list (Qs.map yJ),v2)]) T ⟨D,none,none,rfl,rfl,rfl⟩ (λi σ cs ds h=>?_) ?_ ?_
 ·obtain ⟨_,_,_,_,_,rfl⟩:=h;exact .mem (by right)
 ·rintro i x u σ H3 cs ds m ⟨pp,y,t,rfl,rfl,rfl⟩ S3
  obtain ⟨x0,MY,rfl⟩:=VL m;obtain ⟨g,r,rfl⟩:=zN MY;have Si:i<Qs.length:=(Qd.mp r).1;have ql:=ok.ql g (Qc r);refine xN (xM S3 .mm λw3 w4 L=>?_);cases L.int1;left;refine zP L .mm λJ2 M=>?_;refine yr M (λj=>frD ((λc:zh=>c.1) (g.getD j (0,[])))) (ys:=(yi g).map frD) (by unfold yi;rw [Qa,Qm];exact zE (λc:zh=>frD c.1) (0,[]) g) L (λj x v=>λm t1 S hd=>?_) λD5 H5 e5 s=>?_
  ·obtain ⟨c,I,rfl⟩:=zN m;refine zI ⟨rfl,?_⟩;left;refine hd (by assumption) ?_;rw [zG I];exact .mem (by right)
  have O:=s.freeze;clear s;left;refine FP O .mm .mm (ok.reach r) λX H7 e7 N=>?_;have S8:Sta H G H7 [] [(.list ((Xb a i g).map frD), .ref X),(.list ((wpF a 0 (Qs.take i) (yi a)).map frD), .ref pp),(yJ a,v1),(.list (Qs.map yJ),v2)]:=N.freeze.dat ‹()›;clear N;left;refine Cg (p:=wpF a 0 (Qs.take i) (yi a)) S8 .mm .mm (λq A=>(ok.szM _ (Fv A)).1) (λq A=>(ok.szM _ (bK.mpr (.inr ⟨i,g,r,by rw [jbR];exact A⟩))).1) nofun (by have:=ok.len i;lia) ?_ λpm H9 e9 S9=>?_
  ·unfold Xb;have:=jbo (xk a i) (yi g);have e:(yi g).length=g.length:=by unfold yi;rw [Qa]
   lia
  left;have et:Qs.take (i+1)=Qs.take i++[g]:=by rw [TZ,r];rfl
  have Z:wpF a 0 (Qs.take (i+1)) (yi a)=yC (wpF a 0 (Qs.take i) (yi a)) (Xb a i g):=by
   rw [et,tD,jbR,jad,Nat.min_eq_left ⋯]
  refine Zu (S9.freeze.dat (ds':=[(.list ((yC (wpF a 0 (Qs.take i) (yi a)) (Xb a i g)).map frD), .ref pm),(yJ a,v1),(.list (Qs.map yJ),v2)]) ‹()›) ⟨pm,_,_,rfl,rfl,by rw [Z]⟩
 ·rintro σ H3 cs ds ⟨pp,y,t,rfl,rfl,rfl⟩ S3
  rw [Zd,Qa,List.take_length] at S3;left;refine zP (xs:=(wpV a Qs).map frD) S3 .mm λJ2 M=>?_;refine yt M (λj=>yb ((λe:Rat=>(e,yW Qs (zg a e))) ((wpV a Qs).getD j 0))) (ys:=(yI a Qs).map yb) (by unfold yI;rw [Qa,Qm];exact zE (λe:Rat=>yb (e,yW Qs (zg a e))) 0 (wpV a Qs)) S3 (λ_ _=> .mem (by right)) (by rw [Qa];have:=ok.lenV;lia) (λj x v B' G' Kd Kn m t1 S hd C ex s0 H0=>?_) λD5 H5 e5 s=>?_
  ·obtain ⟨e,he,rfl⟩:=zN m;refine zI ⟨rfl,?_⟩;left;refine rH S .mm .mm .mm (ok.pw (Qc he)) λr6 H6 e6 O=>?_;left;refine hd (by assumption) ?_;rw [zG he];exact .mem (by right)
  left;exact xU s k
abbrev bo:Stmt:=top 10
def rh:FnScope paD paD (zu bo):=xA
def Gg:Coo P w K mg base "those_at" bo 1 paD ff:=by
 walk_at "-rh";obtain ⟨G,⟨l,pl⟩,t,s,⟨lt,few⟩,k⟩:=h;obtain ⟨v0,v1,rfl,al⟩:=xC s;have S:Sta H G H [] [(zo l,v0),(plD pl,v1)]:=Sta.enter t al;dsimp only at lt few k;walk_at "=fizplace,claims;10;va1p0uja1a0";left;refine zP S .mm λJ p=>?_;refine yr p (λj=>zJ (l.getD (pl.getD j 0) (0,0,0))) (ys:=(zX (0,0,0) pl l).map zJ) (by unfold zX;rw [Qa,Qm];exact zE (λi:Nat=>zJ (l.getD i (0,0,0))) 0 pl) S (λj x v=>λr t1 S hd=>?_) λD H1 A y=>?_
 ·obtain ⟨i,g,rfl⟩:=zN r;cases S.int1;have q:=lt i (Qc g);have m:=Qb q;refine zI ⟨rfl,?_⟩;left;refine zW S .mm (zZ (by rw [Qg,m];rfl)) λz u=>?_;refine hd u ?_;rw [zG g,zG m];exact .mem (by right)
 exact xU y k
abbrev Yn:Stmt:=top 11
def ba:FnScope paR paR (zu Yn):=xA
def CL (B:Bl mg):Coo P w K mg base "places_of_rank" Yn 1 paR (Wj zM):=by
 walk_at "-ba";obtain ⟨G,⟨l,g⟩,A,u,few,k⟩:=h;obtain ⟨v0,v1,rfl,al⟩:=xC u;have q:Sta H G H [] [(.int g,v1),(zo l,v0)]:=(Sta.enter A al).dat ‹()›;cases q.int1;have S:Sta H G H [] [(zo l,v0)]:=q.dat ‹()›;dsimp only at few k;walk_at "=fizplace,claim,rank;21;$ba0cHyp0yp1I<qtng1a2la0";left;refine mC S .mm λJ r=>?_;refine cf r (λj=>if zM g (l.getD j (0,0,0)) then some (.int (j:Int)) else none) S (λ_ _=> .mem (by right)) (by rw [Zd,Qa];lia) (λi x v Y X T O s t1 S hd hn C ex s0 U=>?_) λD H1 N p=>?_
 ·obtain ⟨x0,I,rfl⟩:=VL s;obtain ⟨c,t,rfl⟩:=zN I;refine xN (xM S .mm λM L m=>?_);cases m.int1;refine yV (zI (yV (zI (Wt ⟨rfl,?_⟩))));rw [zG t] at hd hn;left;refine Yh (λz=>?_) (λz=>?_)
  ·left;exact hd (QH (Te z)) m Has.int
  ·exact hn (QS λy=>z (Qw y)) m
 rw [Zd,Qa,gm] at p;exact xU p k
abbrev ZJ:Stmt:=top 12
def af:FnScope paj paj (zu ZJ):=xA
def wy (B:Bl mg):Coo P w K mg base "places_of_group" ZJ 1 paj (Wj zC):=by
 walk_at "-af";obtain ⟨G,⟨l,g⟩,A,u,few,k⟩:=h;obtain ⟨v0,v1,rfl,al⟩:=xC u;have q:Sta H G H [] [(.int g,v1),(zo l,v0)]:=(Sta.enter A al).dat ‹()›;cases q.int1;have S:Sta H G H [] [(zo l,v0)]:=q.dat ‹()›;dsimp only at few k;walk_at "=fizplace,claim,group;21;$ba0cHyp0yp1I<qtng1a2la0";left;refine mC S .mm λJ r=>?_;refine cf r (λj=>if zC g (l.getD j (0,0,0)) then some (.int (j:Int)) else none) S (λ_ _=> .mem (by right)) (by rw [Zd,Qa];lia) (λi x v Y X T O s t1 S hd hn C ex s0 U=>?_) λD H1 N p=>?_
 ·obtain ⟨x0,I,rfl⟩:=VL s;obtain ⟨c,t,rfl⟩:=zN I;refine xN (xM S .mm λM L m=>?_);cases m.int1;refine yV (zI (yV (zI (Wt ⟨rfl,?_⟩))));rw [zG t] at hd hn;left;refine Yh (λz=>?_) (λz=>?_)
  ·left;exact hd (QH (Te z)) m Has.int
  ·exact hn (QS λy=>z (Qw y)) m
 rw [Zd,Qa,gm] at p;exact xU p k
abbrev Xr:Stmt:=top 13
def fJ:FnScope paj paj (zu Xr):=xA
def ok_one (B:Bl mg):Coo P w K mg base "as_one_claim" Xr 1 paj FD:=by
 walk_at "-fJ";obtain ⟨G,⟨l,g⟩,z,y,⟨pos,few⟩,k⟩:=h;obtain ⟨v0,v1,rfl,al⟩:=xC y;have u:Sta H G H [] [(.int g,v1),(zo l,v0)]:=(Sta.enter z al).dat ‹()›;cases u.int1;have S:Sta H G H [] [(zo l,v0)]:=u.dat ‹()›;dsimp only at pos few k;walk_at "=fisbTUbzclaim;1;va0p0ug0cb:{bzclaim;1;va0p0ug0cba1c";left;refine zP S .mm λJ p=>?_;refine yr p (λj=> .int (l.getD j (0,0,0)).1) (ys:=(amV l).map PyData.int) (by unfold amV;rw [Qa,Qm];exact zE (λc:Cl=>PyData.int c.1) (0,0,0) l) S (λj x v=>λq t1 S hd=>?_) λD H1 I t=>?_
 ·obtain ⟨c,r,rfl⟩:=zN q;refine zI ⟨rfl,?_⟩;left;refine hd (by assumption) ?_;rw [zG r];exact Has.int
 left;have s:Sta H G H1 [] [(zo l,v0)]:=t.dropC;clear t;refine zP s .mm λJ p=>?_;refine yr p (λj=> .int (l.getD j (0,0,0)).2.1) (ys:=(l.map (·.2.1)).map PyData.int) (by rw [Qa,Qm];exact zE (λc:Cl=>PyData.int c.2.1) (0,0,0) l) s (λj x v=>λq t1 S hd=>?_) λM L C A=>?_
 ·obtain ⟨c,r,rfl⟩:=zN q;refine zI ⟨rfl,?_⟩;left;refine hd (by assumption) ?_;rw [zG r];exact Has.int
 left;refine Cf A (by right) (by rw [Qa];exact pos) λm hm low=>?_;have em:m=jg (l.map (·.2.1)):=Dh hm low;subst em;left;exact Zc (by assumption) k .mm
abbrev Xm:Stmt:=top 54
def fC:FnScope ["parts","places","count","wide","part","place"] paO (zu Xm):=xA
def wt (B:Bl mg):Coo P w K mg base "spread_parts" Xm 1 paO fi:=by
 walk_at "-fC";obtain ⟨G,⟨x,pl,n⟩,U,N,ok,k⟩:=h;obtain ⟨v0,v1,v2,rfl,al⟩:=ZA N;have D:Sta H G H [] [(.int (n:Int),v2),(yj x,v0),(plD pl,v1)]:=(Sta.enter U al).dat ‹()›;cases D.int1;have S:Sta H G H [] [(yj x,v0),(plD pl,v1)]:=D.dat ‹()›;dsimp only at ok k;have few:=ok.few;walk_at "=ek3[Cbsbdbdcca2eF]ba0ba1cHyA4yA5If>a4.a3a5fi8ba3c";left;rename_i q1 H1 e1 Z q2 H2 e2 C;refine Jv C (by right) ⋯ λg H3 e3 s=>?_;left
 have ez:List.replicate n (PyData.tuple [.int 0, .int 1])=(Za ((x.zip pl).take 0) (List.replicate n 0)).map frD:=by
  rw [List.take_zero,Za,jbB];rfl
 rw [ez] at s;have A:Sta H G H3 [(g,(Za ((x.zip pl).take 0) (List.replicate n 0)).map frD)] [(yj x,v0),(plD pl,v1)]:=s.weak (by walk_at "sub") ‹()›;clear s C Z;refine tY A .mm .mm λJ I=>?_;refine xX I (λi σ cs ds=>∃(r q:Option V),σ=[some v0,some v1,some (.int (n:Int)),some (.ref g),r,q]/\cs=[(g,(Za ((x.zip pl).take i) (List.replicate n 0)).map frD)]/\ds=[(yj x,v0),(plD pl,v1)]) A ⟨none,none,rfl,rfl,rfl⟩ (λi σ cs ds h=>?_) ?_ ?_
 ·obtain ⟨_,_,_,_,rfl⟩:=h;exact ⟨.mem (by right),λ_ _ h=>h.tail, .mem (by right)⟩
 ·rintro i z u σ H5 cs ds hz ⟨r,q,rfl,rfl,rfl⟩ S5
  obtain ⟨z1,z2,T,O,rfl⟩:=Yk hz;obtain ⟨p,hp,rfl⟩:=zN T;obtain ⟨j,t,rfl⟩:=zN O;have jl:=ok.pls.lt j (Qc t);refine xN (xM S5 .mm λM L Y=>?_);have y:Sta H G H5 [(g,(Za ((x.zip pl).take i) (List.replicate n 0)).map frD)] [(.int (j:Int),L),(frD p,M),(yj x,v0),(plD pl,v1)]:=Y.dat ‹()›;cases y.int1;left;refine rF y .mm (si (by rw [Qa,aW,QF];exact jl)) λH8 X=>?_;left;refine Zu (X.dat ‹()›) ⟨_,_,rfl,?_,rfl⟩;have m:(x.zip pl)[i]? =some (p,j):=by rw [Tr];exact ⟨hp,t⟩
  rw [TZ,m];show [(g,_)]=[(g,(Za ((x.zip pl).take i++[(p,j)]) (List.replicate n 0)).map frD)];rw [fv,List.map_set]
 ·rintro σ H5 cs ds ⟨r,q,rfl,rfl,rfl⟩ S5
  rw [yT,Qa,Qa,Tv (by rw [List.length_zip];exact Qu _)] at S5;left;exact Zc (by assumption) k .mm
abbrev lL:Stmt:=top 53
def BE:FnScope paw paw (zu lL):=xA
def CD (U:Cal P w K mg base CX0 1 "spread_parts" paO fi):Coo P w K mg base "spread" lL 2 paw US:=by
 walk_at "-BE";obtain ⟨G,⟨x,pl,n⟩,s,r,⟨ok,few⟩,k⟩:=h;obtain ⟨v0,v1,v2,rfl,al⟩:=ZA r;have m:Sta H G H [] [(.int (n:Int),v2),(yJ x,v0),(plD pl,v1)]:=(Sta.enter s al).dat ‹()›;cases m.int1;have S:Sta H G H [] [(yJ x,v0),(plD pl,v1)]:=m.dat ‹()›;dsimp only at ok few k;walk_at "=fizcorner,places,count;112;va0p0usbg0bhbg0ba1ba2cc";left;refine zP S .mm λJ p=>?_;refine yt p (λj=>yb (Xj pl n (x.getD j (0,[])))) (ys:=(yB pl n x).map yb) (by unfold yB;rw [Qa,Qm];exact zE (λc:zh=>yb (Xj pl n c)) (0,[]) x) S (λ_ _=> .mem (by right)) (by rw [Qa];lia) (λj u v X T M L q t1 S hd C ex s0 O=>?_) λD H1 A t=>?_
 ·obtain ⟨c,g,rfl⟩:=zN q;refine zI ⟨rfl,?_⟩;left;refine vW (by assumption) .mm .mm (ok c (Qc g)) λy N z I=>?_;left;refine hd (by assumption) ?_;rw [zG g];exact .mem (by right)
 exact xU t k
section
variable {A:RAd} {t:Nat}
abbrev lO:Stmt:=top 48
def FL:FnScope ["inner","claims","path","rank","places","paid"] paY (zu lO):=xA
def CJ {n:Nat} (B:Bl mg) (B2:Bl3 mg) (Wg:Cal P w K mg base CX0 2 "nothing" ["count"] WQ) (WL:Cal P w K mg base CX0 1 "places_of_rank" paR (Wj zM)) (VS:Cal P w K mg base CX0 1 "those_at" paD ff) (WA:Cal P w K mg base CX0 (2*n+8) "course" paC (XA t n)) (eJ:Cal P w K mg base CX0 2 "spread" paw US) (VT:Cal P w K mg base CX0 5 "behind" paP UW) (F:Fun K "ranks" "ranks" lO f fd):FnOk P w K mg base CX0 (2*n+9) f fd paY (lh t n):=by
 walk_at "+FL";obtain ⟨G,⟨r,l⟩,eG,hA,⟨⟨ru,hd⟩,ok⟩,k⟩:=h;obtain ⟨v0,v1,rfl,al⟩:=xC hA;have S:Sta H G H [] [(r.shape,v0),(zo l,v1)]:=Sta.enter eG al;dsimp only at ru hd ok k;have few:=ok.few;walk_at "=ek2hbxba1cceFv&zclaim;1;va1p0ug0A3ek4hba1ba3cek5hba0bhba1ba4ccfk2hba2bhba5ba4bxba1cccfia2";left;rw [Qa];refine bE S few λU H1 e1 q=>?_;have ez:[yg (YG l.length)]=rkP r l 0:=by rw [WB];rfl
 rw [ez] at q;left;refine zP q .mm λJ D=>?_;refine yr D (λj=> .int (l.getD j (0,0,0)).2.1) (ys:=(l.map (·.2.1)).map PyData.int) (by rw [Qa,Qm];exact zE (λc:Cl=>PyData.int c.2.1) (0,0,0) l) q (λj x v=>λL t1 S hd=>?_) λD2 H2 e2 S2=>?_
 ·obtain ⟨c,N,rfl⟩:=zN L;refine zI ⟨rfl,?_⟩;left;refine hd (by assumption) ?_;rw [zG N];exact Has.int
 refine Vc S2 (by right) (by rw [Qa];lia) λos I H3 h1 h2 e3 S3=>?_;have eo:os=zS l:=xZ h1 (yH l).1 λz=>by rw [h2,(yH l).2]
 subst eo;have S4:Sta H G H3 [(U,(rkP r l 0).map yb)] [(.list ((zS l).map PyData.int), .ref I),(r.shape,v0),(zo l,v1)]:=S3.freeze.weak (by walk_at "sub") ‹()›;clear q S2 S3;left;refine zP S4 .mm λJ D=>?_;refine xX D (λi σ cs ds=>∃(pp:Addr) (C y s:Option V),σ=[some v0,some v1,some (.ref pp),C,y,s]/\cs=[(pp,(rkP r l i).map yb)]/\ds=[(.list ((zS l).map PyData.int), .ref I),(r.shape,v0),(zo l,v1)]) S4 ⟨U,none,none,none,rfl,rfl,rfl⟩ (λi σ cs ds h=>?_) ?_ ?_
 ·obtain ⟨_,_,_,_,_,_,rfl⟩:=h;exact .mem (by right)
 ·rintro i x u σ H5 cs ds L ⟨pp,C,y,s,rfl,rfl,rfl⟩ S5
  obtain ⟨m,M,rfl⟩:=zN L;cases S5.int1;have g:=ok.filter (zM m) (fX (Qc M));obtain ⟨b1,b2,b3⟩:=BS ru ok M;have T:=Zv (zM m) l;have lk:=xH (zM m) l;have fk:=g.few;have gk:=(ru.gf g).ful.std;have fw:=ru.few g;left;refine oW (p:=zM) S5 .mm few λp6 H6 e6 Z=>?_;have Y:=Z.freeze;left;refine mh Y .mm .mm T.lt ⋯ λp8 H8 e8 O=>?_;rw [<-Yi] at O;have X:=O.freeze;left;refine ZR X .mm .mm ru hd g λRU NU RJ MC=>?_;have MN:=MC.freeze;left;rw [Qa];refine oQ MN .mm .mm (λc N=>⟨T,by rw [(gk.ok c N).1,lk],few⟩) ⋯ λOV OB OP MH=>?_;have MG:Sta H G OB [(pp,(rkP r l i).map yb)] [(yJ (yB (zR (zM m) l) l.length (zQ r (l.filter (zM m)))), .ref OV),(.list ((zS l).map PyData.int), .ref I),(r.shape,v0),(zo l,v1)]:=MH.freeze.dat ‹()›;have Nu:=MG.freeze;clear Z Y O X MC MN MH MG;left;refine ph Nu .mm .mm b1 b2 b3 λSW PL SA Na=>?_;left;refine Zu (Na.dat ‹()›) ⟨SW,_,_,_,rfl,?_,rfl⟩;rw [FO M];rfl
 ·rintro σ H5 cs ds ⟨pp,C,y,s,rfl,rfl,rfl⟩ S5
  rw [Qa,Jr] at S5;left;exact xU S5 k
abbrev dY:Stmt:=top 49
def BK:FnScope ["outer","inner","claims","sums","others","places","group","members"] paG (zu dY):=xA
def wD {n:Nat} (B:Bl mg) (B2:Bl3 mg) (Wf:Cal P w K mg base CX0 1 "places_of_group" paj (Wj zC)) (VS:Cal P w K mg base CX0 1 "those_at" paD ff) (Uo:Cal P w K mg base CX0 1 "as_one_claim" paj FD) (WA:Cal P w K mg base CX0 (2*n+8) "course" paC (XA t n)) (eJ:Cal P w K mg base CX0 2 "spread" paw US) (eH:Cal P w K mg base CX0 8 "within" paZ UR) (F:Fun K "groups" "groups" dY f fd):FnOk P w K mg base CX0 (2*n+9) f fd paG (fm t n):=by
 walk_at "+BK";obtain ⟨G,⟨⟨a,b⟩,l⟩,eG,hA,⟨⟨ru,da,db⟩,ok⟩,k⟩:=h;obtain ⟨v0,v1,v2,rfl,al⟩:=ZA hA;have S:Sta H G H [] [(a.shape,v0),(b.shape,v1),(zo l,v2)]:=Sta.enter eG al;dsimp only at ru da db ok k;obtain ⟨ra,rb⟩:=ru.groups;have few:=ok.few;have gfew:=YE l;walk_at "=ek3Ccek4Ccek5CceFv&zclaim;1;va2p0ug0A6ek7hba2ba6ceEXa3bhbhba2ba7cba6cceEXa4bhba1bhba2ba7cccfEκa5ba7cfihbhbhba0ba3cba4cba5bxba2cc";left;rename_i s H1 e1 S1 r H2 e2 S2 q H3 e3 Z;refine zP Z .mm λJ T=>?_;refine yr T (λj=> .int (l.getD j (0,0,0)).2.2) (ys:=(l.map (·.2.2)).map PyData.int) (by rw [Qa,Qm];exact zE (λc:Cl=>PyData.int c.2.2) (0,0,0) l) Z (λj x v=>λY t1 S hd=>?_) λD4 H4 e4 S4=>?_
 ·obtain ⟨c,hc,rfl⟩:=zN Y;refine zI ⟨rfl,?_⟩;left;refine hd (by assumption) ?_;rw [zG hc];exact Has.int
 refine Vc S4 (by right) (by rw [Qa];lia) λos X H5 h1 h2 e5 S5=>?_;have eo:os=zF l:=xZ h1 (zU l).1 λz=>by rw [h2,(zU l).2]
 subst eo;have S6:Sta H G H5 [(q,((nO l).take 0).flatten.map λ(i:Nat)=>PyData.int (i:Int)),(r,((ye (λl=>zQ b l) l).take 0).map yJ),(s,((zK l).take 0).map zJ)] [(.list ((zF l).map PyData.int), .ref X),(a.shape,v0),(b.shape,v1),(zo l,v2)]:=S5.freeze.weak (by walk_at "sub") ‹()›;clear S1 S2 Z S4 S5;left;refine zP S6 .mm λJ T=>?_;refine xX T (λi σ cs ds=>∃(O N:Option V),σ=[some v0,some v1,some v2,some (.ref s),some (.ref r),some (.ref q),O,N]/\cs=[(q,((nO l).take i).flatten.map λ(i:Nat)=>PyData.int (i:Int)),(r,((ye (λl=>zQ b l) l).take i).map yJ),(s,((zK l).take i).map zJ)]/\ds=[(.list ((zF l).map PyData.int), .ref X),(a.shape,v0),(b.shape,v1),(zo l,v2)]) S6 ⟨none,none,rfl,rfl,rfl⟩ (λi σ cs ds h=>?_) ?_ ?_
 ·obtain ⟨_,_,_,_,rfl⟩:=h;exact .mem (by right)
 ·rintro i x u σ H7 cs ds Y ⟨O,N,rfl,rfl,rfl⟩ S7
  obtain ⟨g,y,rfl⟩:=zN Y;cases S7.int1;have gl:=(Qd.mp y).1;have m:=ok.filter (zC g) (XM (Qc y));have pk:=Zv (zC g) l;have lk:=xH (zC g) l;have fk:=m.few
  have t1:(zK l).take (i+1)=(zK l).take i++[AO g (l.filter (zC g))]:=by
   rw [TZ];unfold zK;rw [Qg,y];rfl
  have t2:(ye (λl=>zQ b l) l).take (i+1)=(ye (λl=>zQ b l) l).take i++[zQ b (l.filter (zC g))]:=by
   rw [TZ];unfold ye;rw [Qg,y];rfl
  have t3:((nO l).take (i+1)).flatten=((nO l).take i).flatten++zR (zC g) l:=by
   rw [TZ,List.flatten_append];unfold nO;rw [Qg,y];show _++(zR (zC g) l++[])=_;rw [jaX]
  have fl:((nO l).take i).flatten.length<=64:=by
   have:∀L∈(nO l).take i,L.length<=8:=λL hL=>by
    obtain ⟨g',Oy,rfl⟩:=Qi.mp (List.mem_of_mem_take hL);rw [xH];exact Tc (jav _ _) few
   have h1:=pX this;have h2:((nO l).take i).length<=8:=by rw [jad];unfold nO;rw [Qa];lia
   lia
  left;refine oW (p:=zC) S7 .mm few λp8 H8 e8 I=>?_;have D:=I.freeze;left;refine mh D .mm .mm pk.lt ⋯ λRU NU RJ C=>?_;rw [<-Yi] at C;have M:=C.freeze;left;refine rd_one M .mm m.pos fk λU OB OP MH=>?_;have MG:Sta H G OB [(s,((zK l).take i).map zJ),(q,((nO l).take i).flatten.map λ(i:Nat)=>PyData.int (i:Int)),(r,((ye (λl=>zQ b l) l).take i).map yJ)] [(zJ (AO g (l.filter (zC g))),U),(plD (zR (zC g) l), .ref p8),(.list ((zF l).map PyData.int), .ref X),(a.shape,v0),(b.shape,v1),(zo l,v2)]:=(MH.dat ‹()›).rot3;left;refine yR MG .mm (by rw [Qa,jad];unfold zK;rw [Qa];lia) λH14 Nu=>?_;left;refine mh Nu .mm .mm pk.lt ⋯ λSW PL SA Na=>?_;rw [<-Yi] at Na;have Nt:=Na.freeze;left;refine ZR Nt .mm .mm rb db m λPV RO e17 Nz=>?_;have NM:=Nz.freeze.rot3;clear I D C M MH MG Nu Na Nt Nz;left;refine yR NM .mm (by rw [Qa,jad];unfold ye;rw [Qa];lia) λH19 NL=>?_;have NH:=NL.rot3;left;refine wb NH .mm (by rw [Qa,Qa];lia) λH21 PF=>?_;left;refine Zu (PF.dat ‹()›) ⟨_,_,rfl,?_,rfl⟩;rw [t1,t2,t3,QT,QT,QT];rfl
 ·rintro σ H7 cs ds ⟨O,N,rfl,rfl,rfl⟩ S7
  have e1:(zK l).take (zF l).length=zK l:=Tv (by rw [xK];exact Qu _);have e2:(ye (λl=>zQ b l) l).take (zF l).length=ye (λl=>zQ b l) l:=Tv (by rw [YC];exact Qu _);have e3:(nO l).take (zF l).length=nO l:=Tv (by unfold nO;rw [Qa];exact Qu _);rw [Qa,e1,e2,e3] at S7;have I:Sta H G H7 [] [(zo (zK l), .ref s),(.list ((ye (λl=>zQ b l) l).map yJ), .ref r),(plD (AN l), .ref q),(a.shape,v0),(zo l,v2)]:=S7.freeze.freeze.freeze.dat ‹()›;clear S7;obtain ⟨g1,g2⟩:=DN ru ok;left;refine ZR I .mm .mm ra da ok.sums λp9 H9 e9 D=>?_;left;refine vT D.freeze .mm .mm (DM ru ok) λRU NU RJ C=>?_;left;rw [Qa];refine oQ C.freeze .mm .mm g1 g2 λp11 Oo OQ M=>?_;exact xU M k
def wG (B:Bl mg) (B2:Bl3 mg) (vB:Cal P w K mg base CX0 3 "shares" pas (cR 0)) (eM:Cal P w K mg base CX0 2 "evenly" pas (cR 1)) (vE:Cal P w K mg base CX0 6 "losses" pas (cR 2)) (IU:Cal P w K mg base CX0 6 "upto" paF Bt) (eI:Cal P w K mg base CX0 5 "turned" ["path"] dU)
 (Wg:Cal P w K mg base CX0 2 "nothing" ["count"] WQ) (WL:Cal P w K mg base CX0 1 "places_of_rank" paR (Wj zM)) (Wf:Cal P w K mg base CX0 1 "places_of_group" paj (Wj zC)) (Z:Cal P w K mg base CX0 1 "those_at" paD ff) (Uo:Cal P w K mg base CX0 1 "as_one_claim" paj FD) (X:Cal P w K mg base CX0 2 "spread" paw US) (VT:Cal P w K mg base CX0 5 "behind" paP UW) (eH:Cal P w K mg base CX0 8 "within" paZ UR)
 {fr U:Addr} {z C:FuncData} (Fr:Fun K "ranks" "ranks" lO fr z) (M:mg "ranks"=some (.ref fr)) (br:xp K z paY []) (Fg:Fun K "groups" "groups" dY U C) (Nc:mg "groups"=some (.ref U)) (bg:xp K C paG [])
 (F:Fun K "course" "course" lW f fd) (hm:mg "course"=some (.ref f)) (b:xp K fd paC []):∀n:Nat,FnOk P w K mg base CX0 (2*n+8) f fd paC (XA t n):=by
 intro n
 induction n with
 |zero=>
  refine F.ok fH (λvs H Q E h=>?_) (λMv A outer s H vs Q E hr h=>?_)
  ·obtain ⟨G,a,_,h,_⟩:=h;rw [<-h.len];rfl
  obtain ⟨G,⟨r,l⟩,_,_,⟨⟨_,hd⟩,_⟩,_⟩:=h;exact absurd hd (by cases r<;>simp [Rl.deep])
 |succ n ih=>
  have Y:Cal P w K mg base CX0 (2*n+8) "course" paC (XA t n):=aE F ih hm b;have Mq:Cal P w K mg base CX0 (2*n+9) "ranks" paY (lh t n):=aE Fr (CJ B B2 Wg WL Z Y X VT Fr) M br;have Mg:Cal P w K mg base CX0 (2*n+9) "groups" paG (fm t n):=aE Fg (wD B B2 Wf Z Uo Y X eH Fg) Nc bg;refine F.ok fH (λvs H Q E h=>?_) (λMv A outer s H vs Q E hr h=>?_)
  ·obtain ⟨G,a,_,h,_⟩:=h;rw [<-h.len];rfl
  obtain ⟨G,⟨r,l⟩,eG,hA,⟨⟨ru,hd⟩,q⟩,k⟩:=h;obtain ⟨v0,v1,rfl,al⟩:=xC hA;have S:Sta H G H [] _:=Sta.enter eG al;dsimp only at ru hd q k S;have ok:=q.ok ru.ht;have nd0:=fH.nd;walk_at "=ek2g0emqtna2wlfihba1coemqtna2wlfihba1coemqtna2wlfihba1coemqtna2wlfihbsbdbdcbhba1cbhba1ccoemqtna2wlfihbhbg0ba1ccoemqtna2wlfihbg0ba1coemqtna2wlfihbg0bg0ba1cofihbg0bhbg0ba1cbhbg0ba1cc"
  cases r with
  |shares=>
   simp only [Rl.shape] at S;left;refine bF (n:=0) S .mm ok λL H1 O g=>?_;exact xU g k
  |evenly=>
   simp only [Rl.shape] at S;left;refine bF (n:=1) S .mm ok λL H1 O g=>?_;exact xU g k
  |losses=>
   simp only [Rl.shape] at S;left;refine bF (n:=2) S .mm ok λL H1 O g=>?_;exact xU g k
  |halves=>
   simp only [Rl.shape] at S;left;rename_i p0 H0 e0 S0
   have eh:PyData.tuple [.int 1, .int 2]=frD (1 / 2):=by
    unfold frD;rw [show ((1:Rat) / 2).num=1 by decide+kernel,show ((1:Rat) / 2).den=2 by decide+kernel];rfl
   rw [eh] at S0;refine bF (n:=1) S0 .mm ok λL H1 O g=>?_;have m:=g.freeze;left;refine bF (n:=2) m .mm ok λJ T N u=>?_;have S4:=u.freeze;left;refine BX (p:=1 / 2) (a:=flV 1 l) (b:=flV 2 l) S4 .mm .mm .mm (up_ok ok) λp5 H5 e5 D=>?_;rw [Bc] at D;exact xU D k
  |other r=>
   simp only [Rl.shape] at S;left;rename_i I g;refine ZR (r:=r) g .mm .mm ru.other (by simp only [Rl.deep] at hd;lia) q λp2 H2 e2 m=>?_;left;refine oP (a:=zQ r l) m.freeze .mm (ru.other.inn q) λJ T N u=>?_;exact xU u k
  |upto t b x y=>
   obtain ⟨px,py⟩:=ru.upto;have dx:x.deep<=n:=by simp only [Rl.deep] at hd;lia
   have dy:y.deep<=n:=by simp only [Rl.deep] at hd;lia
   have hp:PyData.tuple [.int t, .int b]=frD (Rat.divInt t b):=Ga ru.pok.1;simp only [Rl.shape] at S;rw [hp] at S;left;rename_i I g w2 m;refine ZR (r:=x) m .mm .mm px dx q λJ T N u=>?_;have S4:=u.freeze;left;rename_i w5 D;refine ZR (r:=y) D .mm .mm py dy q λp6 H6 e6 S6=>?_;have S7:=S6.freeze;left;refine BX (p:=Rat.divInt t b) (a:=zQ x l) (b:=zQ y l) S7 .mm .mm .mm (ru.up q) λp8 H8 e8 S8=>?_;exact xU S8 k
  |ranks r=>
   simp only [Rl.shape] at S;left;rename_i I g;refine Ca (r:=r) g .mm .mm ru.ranks (by simp only [Rl.deep] at hd;lia) q λp2 H2 e2 m=>?_;exact xU m k
  |groups a b=>
   simp only [Rl.shape] at S;left;rename_i I g w2 m;refine vZ (a:=a) (b:=b) m .mm .mm .mm ru (by simp only [Rl.deep] at hd;lia) (by simp only [Rl.deep] at hd;lia) q λJ T N u=>?_;exact xU u k
def Gn {fS fT Ru:Addr} {n:Nat} (y:∀r:Rl,ROk K fS fT Ru (A.cls r)) (D:Cal P w K mg base CX0 1 "check_claims" pas lB) (L:Cal P w K mg base CX0 (2*n+8) "course" paC (XA t n)) (F:Fun K "path" "Rule.path" UE f fd):FnOk P w K mg base CX0 (2*n+9) f fd paQ (qR A t n):=by
 walk_at "+oK";obtain ⟨G,⟨r,l⟩,p,m,⟨⟨pl,hn⟩,g⟩,k⟩:=h;obtain ⟨v0,v1,rfl,al⟩:=xC m;have S:Sta H G H [] _:=Sta.enter p al;dsimp only at pl hn g k S;have ok:=g.ok pl.ht;walk_at "=eEhba1cfihb)a0ba1c";left;refine ua S .mm ok λH1 J u=>?_;left;refine Cm u .mm (y r) λz s=>?_;left;refine ZR s .mm .mm pl hn g λC M I q=>?_;exact xU q k
end
section
variable {A:RAd} {t:Nat}
def CM {fS fT Ru q:Addr} {g:FuncData} {n:Nat} (D:∀r:Rl,ROk K fS fT Ru (A.cls r)) (C:∀r:Rl,Meth K (A.cls r) "path" q) (iS:FnOk P w K mg base CX0 (2*n+9) q g paQ (qR A t n)) (iA:xp K g paQ []) (O:Cal P w K mg base CX0 6 "parts_at" ["path","purse"] UU) (F:Fun K "parts" "Rule.parts" Va f fd):FnOk P w K mg base CX0 (2*n+10) f fd pam (dW A t n):=by
 walk_at "+lH";obtain ⟨G,⟨r,l,e⟩,u,s,⟨⟨⟨pl,hn⟩,m⟩,p,e0⟩,k⟩:=h;obtain ⟨v0,v1,v2,rfl,al⟩:=ZA s;have S:Sta H G H [] _:=Sta.enter u al;dsimp only at pl hn m p e0 k S;walk_at "=fihbμa0νba1cba2c";left;refine Cj S .mm (D r).cl (C r) (by decide+kernel) ?_;left;refine FR S .mm .mm pl hn m λJ H1 M z=>?_;left;refine bD z.freeze .mm .mm (pl.R m) p nofun e0 λI N L y=>?_;exact Zc y k .mm
end
abbrev Wq:Stmt:=top 66
def iZ:FnScope pax pax (zu Wq):=xA
def JZ (B:Bl mg):Coo P w K mg base "_law_cell_at" Wq 1 pax (ow K):=by
 walk_at "-iZ";obtain ⟨a,ns,k,rfl,g,h0,q⟩:=h;walk_at "=emVa1xba0clfija0a1ofid";left;refine JB g ?_;left;refine Yh (λc=>?_) (λc=>?_)
 ·left;refine rd_ixS g h0 c ?_;unfold aD at q;rw [QH c] at q;exact q
 ·left;unfold aD at q;rw [QS c] at q;exact q
abbrev UC:Stmt:=top 67
def oH:FnScope ["_law_cell","_law_place","_law_number"] paH (zu UC):=xA
def Gr:Coo P w K mg base "_law_mixed" UC 1 paH FE:=by
 walk_at "-oH";obtain ⟨c,p,rfl,q⟩:=h;walk_at "=ek2DBBrDa0ddrda1ddek2DBBra2a2rda1ddfiDra2dd";left;exact q
abbrev Wo:Stmt:=top 68
def iW:FnScope pal pal (zu Wo):=xA
def wF (B:Bl mg):Coo P w K mg base "_law_divisor" Wo 1 pal fo:=by
 walk_at "-iW";obtain ⟨a,b,rfl,p,q⟩:=h;walk_at "=e/qRna1dlfξ0ba1bYa0a1cfi^ba0c";refine qH (λm σ H2=>∃(x y:Int),σ=[some (.int x),some (.int y)]/\0<=y/\Int.gcd x y=Int.gcd a b/\H2=H/\m=y.toNat) _ ⟨a,b,rfl,p,rfl,rfl,rfl⟩ ?_
 rintro m σ H2 ⟨x,y,rfl,hy,hg,rfl,rfl⟩
 left;refine vU (λc=>?_) (λc=>?_)
 ·have c:y≠0:=by simpa using c
  left;have e:x.fmod y=x % y:=Th x hy;have g:=jam x c;have r:=jaa x (show 0<y by lia);refine ⟨(x.fmod y).toNat,by rw [e];lia,y,x.fmod y,rfl,by rw [e];exact g,?_,rfl,rfl⟩;rw [e,uD,hg]
 ·have c:y=0:=by simpa using c
  subst c;left
  have e:(x.natAbs:Int)=((Int.gcd a b:Nat):Int):=by
   rw [<-hg,Int.gcd_zero]
  rw [e];exact q
abbrev WW:Stmt:=top 69
def lD:FnScope ["_law_top","_law_bottom","_law_by"] pau (zu WW):=xA
def CQ (t:Cal P w K mg base CX0 1 "_law_divisor" pal fo):Coo P w K mg base "_law_lowest" WW 2 pau Wl:=by
 walk_at "-lD";obtain ⟨G,⟨a,b⟩,q,m,⟨g,sb⟩,k⟩:=h;cases (yP (ns:=[a,b]) m);have S:Sta H G H [] []:=Sta.enter q λp hp=>absurd hp Qp;dsimp only at g sb k;have s:0<Int.gcd a b:=jaw a ⋯;have r:CDv a ((Int.gcd a b:Nat):Int):=⟨⋯,sb⟩;walk_at "=ek2hba0ba1cfisbWa0a2bWa1a2c";left;refine Zc (by assumption) k (.mem ?_);rw [show frD (Rat.divInt a b)= .tuple [.int (a.fdiv ((Int.gcd a b:Nat):Int)), .int (b.fdiv ((Int.gcd a b:Nat):Int))] by unfold frD;rw [<-(bQ g).1,<-(bQ g).2]];walk_at "mem"
local macro_rules|`(tactic|walk_at "rd")=>`(tactic|first|fail "&182"|fail)
abbrev Ux:Stmt:=top 70
def oB:FnScope pay pay (zu Ux):=xA
def Ge (B:Bl mg):Coo P w K mg base "_law_whole" Ux 1 pay kU:=by
 walk_at "-oB";obtain ⟨n,rfl,q⟩:=h;have S:Sta H H H [] []:=Sta.enter (zV.refl _) λp hp=>absurd hp Qp;have g:Is H (.int n) (.int n):=S.hp Has.int;walk_at "=fi,=ba0bπint;c;ρ=ba0bσbool;c";left;exact q
abbrev ZK:Stmt:=top 71
def ag:FnScope pay pay (zu ZK):=xA
def JX (B:Bl mg) (p:Cal P w K mg base CX0 1 "_law_whole" pay kU) (r:Cal P w K mg base CX0 1 "_law_divisor" pal fo):Coo P w K mg base "_law_is_fraction" ZK 2 pay Bv:=by
 walk_at "-ag";obtain ⟨a,m,_,k⟩:=h;obtain ⟨v,rfl,al⟩:=XI m;have S:Sta H H H [] [(frD a,v)]:=Sta.enter (zV.refl _) al;have q:=S.hp (x:=frD a) .mm;walk_at "=emKOQG=ba0b_tuple;cOqRnxba0cdlOQGhbg0c1QGhbg0cfiJofi,τg0dl;-tnhbg0bg0cdl";left;refine DE rfl ?_;left;refine Yh (λ_=>?_) (λc=>absurd (by have:=a.den_pos;lia) c);left
 have g:((a.num.gcd (a.den:Int):Nat):Int)=1:=by
  have:=a.reduced;unfold Nat.Coprime at this;rw [Int.gcd,Int.natAbs_natCast,this];rfl
 rw [Te g];exact k H (zV.refl _)
abbrev WX:Stmt:=top 72
def lE:FnScope ["_law_number"] ["_law_number"] (zu WX):=xA
def CS:Coo P w K mg base "_law_labels" WX 1 ["_law_number"] lz:=by
 walk_at "-lE";obtain ⟨G,n,m,g,_,k⟩:=h;cases (yP (ns:=[n]) g);have S:Sta H G H [] []:=Sta.enter m λp hp=>absurd hp Qp;dsimp only at k;unfold Dz at k;walk_at "=emqtnDa0ddlfiCbdbdbdcoemqtnDa0ddlfiCbB7dddbdbdcoemqtnDa0ddlfiCbdb7ddbdcofiCbdbdbdc";left;refine Yh (λc=>?_) (λc=>?_)
 ·rw [QH c] at k;left;exact xU (by assumption) k
 rw [QS c] at k;left;refine Yh (λc=>?_) (λc=>?_)
 ·rw [QH c] at k;left;exact xU (by assumption) k
 rw [QS c] at k;left;refine Yh (λc=>?_) (λc=>?_)
 ·rw [QH c] at k;left;exact xU (by assumption) k
 rw [QS c] at k;left;exact xU (by assumption) k
section
variable {A:RAd}
abbrev WY:Stmt:=top 73
def lF:FnScope ["_law_script","_law_at","_law_many","_law_size","_law_labels_here","_law_ranks","_law_groups","_law_claims_here","_law_k","_law_cell","_law_amount"] pao (zu WY):=xA
def CU (B:Bl mg) (aN:Cal P w K mg base CX0 1 "_law_cell_at" pax (ow K)) (tu:Cal P w K mg base CX0 1 "_law_mixed" paH FE) (IW:Cal P w K mg base CX0 1 "_law_labels" ["_law_number"] lz):Coo P w K mg base "_law_claims" WY 2 pao (fq K):=by
 walk_at "-lF";obtain ⟨G,a,ns,at',many,size,rfl,eG,hS,⟨Sr,hm1,hm8,hs0,RZ⟩,k⟩:=h;have S:Sta H G H [] []:=Sta.enter eG λp hp=>absurd hp Qp;walk_at "=ek4hbhba0ba1cbdcek5hba4cek6hbMa4dcek7CceF!ba2cA8ek9hba0bBa1a8cekaYMa9da3emqtnDa9ddlfkaDMa9ddoemK0qtnDa9ddl3Sa8dlfkajja7YMa9da8dofEXa7bsbaabja5Dhba9bdcdbja6Dhba9bdcdccfia7";left;generalize Kc (aD ns at') 3=s at*;refine oY S λM H1 e1 S1=>?_;have S1':=S1.freeze;left;refine oY S1' λL H2 e2 S2=>?_;have S2':=S2.freeze;left;rename_i u H3 e3 S3;refine oZ H G ⋯ ⋯ λJ wk=>?_
 refine xX wk (λi σ cs ds=>∃(l:List Cl) (O N U:Option V),σ=[some (.ref a),some (.int at'),some (.int many),some (.int size),some (.int s),some (.ref M),some (.ref L),some (.ref u),O,N,U]/\cs=[(u,l.map zJ)]/\ds=[(Zb (Dz (s / 5)), .ref L),(Zb (Dz s), .ref M)]/\l.length=i/\∀c∈l,(0<=c.1/\0<=c.2.1/\0<=c.2.2)/\c.1<size) S3
  ⟨[],none,none,none,rfl,rfl,rfl,rfl,λc y=>absurd y Qp⟩ (λ_ _ _ _ _=>trivial) ?_ ?_
 ·rintro i x v σ H4 cs ds hx ⟨l,O,N,U,rfl,rfl,rfl,hlen,hok⟩ q
  obtain ⟨hi,rfl⟩:=Yf hx;cases q.int1;have hS4:SqL K H4 a (ns.map V.int):=q.base.seq hS;have q:=q.drop1;left;generalize aD ns (at'+(0+(i:Int)))=c at*
  have fin:∀(am:Int) (y8 y9 SD:Option V) (r g:Int) (I:Hp),0<=am->am<size->0<=r->0<=g->Sta H G I [(u,l.map zJ++[zJ (am,r,g)])] [(Zb (Dz (s / 5)), .ref L),(Zb (Dz s), .ref M)]->
   AtP H G (λσ cs ds=>∃(l:List Cl) (O N U:Option V),σ=[some (.ref a),some (.int at'),some (.int many),some (.int size),some (.int s),some (.ref M),some (.ref L),some (.ref u),O,N,U]/\cs=[(u,l.map zJ)]/\ds=[(Zb (Dz (s / 5)), .ref L),(Zb (Dz s), .ref M)]/\l.length=i+1/\∀c∈l,(0<=c.1/\0<=c.2.1/\0<=c.2.2)/\c.1<size) [some (.ref a),some (.int at'),some (.int many),some (.int size),some (.int s),some (.ref M),some (.ref L),some (.ref u),y8,y9,SD] I:=by
   intro am y8 y9 SD r g I h0 hz hr hg t;refine Zu t ⟨l++[(am,r,g)],y8,y9,SD,rfl,by rw [QT];rfl,rfl,by rw [QA,hlen];rfl,λc y=>?_⟩
   rcases QW.mp y with z|z
   ·exact hok c z
   ·rw [Qq.mp z];exact ⟨⟨h0,hr,hg⟩,hz⟩
  have m:(l.map zJ).length<=1000:=by rw [Qa];lia
  obtain ⟨r,Z,Sb⟩:=Dw s (Kc c 1);obtain ⟨g,X,Y⟩:=Dw (s / 5) (Kc c 2);have sz0:size≠0:=⋯
  have f0:(c / 9).fmod size=c / 9 % size:=Th _ ⋯;have m1:=jam (c / 9) sz0;have m2:=jaa (c / 9) (show 0<size by lia);left;refine Yh (λc1=>?_) (λc1=>?_)
  ·left;refine Yh (λc2=>absurd c2 ⋯) (λ_=>?_);left;refine YM q .mm Sb ?_;left;refine YM q .mm Y ?_;left;rename_i q5 I e5 t;refine yR t .mm m λD C=>?_;left;exact fin (c / 9 % 5) _ _ _ r g D ⋯ ⋯ Z X (C.dat ‹()›)
  ·have q0:0<=(c / 9).fmod size:=by rw [f0];exact m1
   have qz:(c / 9).fmod size<size:=by rw [f0];exact m2
   left;refine Yh (λc2=>?_) (λ_=>?_)
   ·left;refine Yh (λc3=>?_) (λ_=>?_)
    ·have i0:0+(i:Int)≠0:=⋯
     have e1:=Th (c / 9) (show 0<=0+(i:Int) by lia);have n1:=jam (c / 9) i0;have n2:=jaa (c / 9) (show 0<0+(i:Int) by lia);rw [<-e1] at n1 n2;left;have hj:((c / 9).fmod (0+(i:Int))).toNat<l.length:=⋯
     have Mx:=Qb hj
     have Sq:atI (l.map zJ) ((c / 9).fmod (0+(i:Int)))=some (zJ (l[((c / 9).fmod (0+(i:Int))).toNat])):=by
      have:=zZ (xs:=l.map zJ) (j:=((c / 9).fmod (0+(i:Int))).toNat) (v:=zJ (l[((c / 9).fmod (0+(i:Int))).toNat])) (by rw [Qg,Mx];rfl);rwa [Int.toNat_of_nonneg n1] at this
     have T:=hok _ (QY hj);generalize l[((c / 9).fmod (0+(i:Int))).toNat]=c' at*;refine YN q (by right) Sq λw7 S7=>?_;left;refine YM S7 .mm Sb ?_;left;refine YM S7 .mm Y ?_;left;rename_i q5 I e5 t;refine yR t .mm m λD C=>?_;left;exact fin (c'.1) _ _ _ r g D T.1.1 T.2 Z X (C.dat ‹()›)
    ·skip
     left;refine YM q .mm Sb ?_;left;refine YM q .mm Y ?_;left;rename_i q5 I e5 t;refine yR t .mm m λD C=>?_;left;exact fin ((c / 9).fmod size) _ _ _ r g D q0 qz Z X (C.dat ‹()›)
   ·skip
    left;refine YM q .mm Sb ?_;left;refine YM q .mm Y ?_;left;rename_i q5 I e5 t;refine yR t .mm m λD C=>?_;left;exact fin ((c / 9).fmod size) _ _ _ r g D q0 qz Z X (C.dat ‹()›)
 ·rintro σ H4 cs ds ⟨l,O,N,U,rfl,rfl,rfl,hlen,hok⟩ q
  left;rw [yX] at hlen;obtain ⟨G',a',b',c',d',e',f',g'⟩:=q;obtain ⟨z1,z2,us,z3,z4⟩:=e' _ (Qe ..);exact k l u H4 G' us hlen ⟨⋯,⋯,λc y=>(hok c y).1,λc y=>(hok c y).2⟩ ⟨c',a',b',d'⟩ z1 z2 z3 z4
end
section
variable {A:RAd}
abbrev bB:Stmt:=top 77
def rA:FnScope ["_law_amounts","_law_parts","_law_level","_law_amount","_law_part"] paL (zu bB):=xA
def Gw (B:Bl mg):Coo P w K mg base "_law_even" bB 1 paL qV:=by
 walk_at "-rA";obtain ⟨⟨am,tk⟩,N,⟨M,lt⟩,k⟩:=h;obtain ⟨v0,v1,rfl,al⟩:=xC N;have S:Sta H H H [] [(Zb am,v0),(Zb tk,v1)]:=Sta.enter (zV.refl _) al;dsimp only at M lt k;walk_at "=ek2}αbBCbdca1ceF*ba0ba1cHyA3yA4IfmKOVa4dlOSa4a3l1K0Va4a3l3qRna4a2lfiJofiJ";left;rename_i p1 H1 e1 t;obtain ⟨a1,rfl⟩:=t.refL (xs:=tk.map PyData.int) (v:=v1) .mm;refine ZS t (t.vwC (by right)) (t.vwL .mm) (by rw [Qa];show 1+_<=1000;lia) λp2 X e2 y=>?_;left;refine JA (ns:=0::tk) y (by right) (Nat.zero_lt_succ _) λm hm top=>?_;have lev:=Ao lt hm top;have G:Sta H H X [] [(Zb am,v0),(Zb tk, .ref a1)]:=y.weak (by walk_at "sub") ‹()›;clear y t;left;refine VG (xs:=am.map PyData.int) (ys:=tk.map PyData.int) G .mm .mm λJ I=>?_;refine xX I (λi σ cs ds=>(∃r q,σ=[some v0,some (.ref a1),some (.int m),r,q])/\cs=[]/\ds=[(Zb am,v0),(Zb tk, .ref a1)]/\∀(j:Nat) (a p:Int),j<i->am[j]? =some a->tk[j]? =some p->0<=p/\p<=a/\(p<a->p=m)) G ⟨⟨none,none,rfl⟩,rfl,rfl,λj a p h=>absurd h (Nat.not_lt_zero _)⟩ (λi σ cs ds h=>?_) ?_ ?_
 ·obtain ⟨_,rfl,rfl,_⟩:=h;exact ⟨.mem (by right),λ_ _ h=>h.tail, .mem (by right)⟩
 ·rintro i x u σ H4 cs ds hx ⟨⟨r,q,rfl⟩,rfl,rfl,inv⟩ S4
  obtain ⟨Z,Y,T,O,rfl⟩:=Yk hx;obtain ⟨a,ha,rfl⟩:=zN T;obtain ⟨p,hp,rfl⟩:=zN O;have bad:¬(0<=p/\p<=a/\(p<a->p=m))->evB am tk=false:=λz=>evB_f.mpr λh=>z (lev.mp h i a p ha hp);refine xN (xM S4 .mm λw1 w2 s=>?_);cases s.int1;cases s.drop1.int1
  have fin:0<=p/\p<=a/\(p<a->p=m)->∀σ',(∃r q,σ'=[some v0,some (.ref a1),some (.int m),r,q])->AtP H H (λσ cs ds=>(∃r q,σ=[some v0,some (.ref a1),some (.int m),r,q])/\cs=[]/\ds=[(Zb am,v0),(Zb tk, .ref a1)]/\∀(j:Nat) (a p:Int),j<i+1->am[j]? =some a->tk[j]? =some p->0<=p/\p<=a/\(p<a->p=m)) σ' H4:=λg σ' h=>Zu (s.dat ‹()›) ⟨h,rfl,rfl,λj U L hj C D=>by
   by_cases z:j<i
   ·exact inv j U L z C D
   ·have:j=i:=⋯
    subst this;rw [ha] at C;rw [hp] at D;cases C;cases D
    exact g⟩
  left;refine Yh (λc=>?_) (λc1=>?_)
  ·left;rw [bad ⋯] at k;exact k _ s.base
  left;refine Yh (λc=>?_) (λc2=>?_)
  ·left;rw [bad ⋯] at k;exact k _ s.base
  left;refine Yh (λc=>?_) (λc=>?_)
  ·left;refine uz (λz=>?_) (λz=>?_)
   ·left;rw [bad ⋯] at k;exact k _ s.base
   ·left;exact fin ⋯ _ ⟨_,_,rfl⟩
  ·left;exact fin ⋯ _ ⟨_,_,rfl⟩
 ·rintro σ H4 cs ds ⟨⟨r,q,rfl⟩,rfl,rfl,inv⟩ S4
  rw [yT,Qa,Qa,lt,Tx] at inv;left;rw [Hw.mpr (lev.mpr λi a p ha hp=>inv i a p (Qd.mp ha).1 ha hp)] at k;exact k _ S4.base
end
abbrev bA:Stmt:=top 78
def Ut:FnScope ["_law_shape_here","_law_claims_here","_law_parts","_law_amounts","_law_whole_here","_law_purse_here","_law_amount","_law_part"] paa (zu bA):=xA
abbrev ZZ:Stmt:=top 79
def fE:FnScope ["_law_shape_here","_law_claims_here","_law_parts","_law_top","_law_bottom","_law_many","_law_here","_law_there"] paa (zu ZZ):=xA
def ok_upD {n:Nat} (B:Bl mg) (xW:Cal P w K mg base CX0 (2*n+2) "_law_fits" paa (Wm n)) (F:Fun K "_law_upto_fit" "_law_upto_fit" ZZ f fd):FnOk P w K mg base CX0 (2*n+3) f fd paa (Jf (n+1)):=by
 walk_at "+fE";obtain ⟨⟨⟨t,b⟩,⟨x,y⟩,l,tk⟩,hA,⟨ok,inb⟩,k⟩:=h;obtain ⟨v0,v1,v2,rfl,al⟩:=ZA hA;dsimp only at ok inb al k;have S:Sta H H H [] [((Rl.upto t b x y).shape,v0),(zo l,v1),(Zb tk,v2)]:=Sta.enter (zV.refl _) al;have few:=ok.few;have Z:(amV l).length<=8:=by rw [yf];exact few
 obtain ⟨it,ia⟩:=inb.inS Z ok.sz;have po:=ok.pok.1.1;have lt:=ok.len;rw [KA (by have:=ok.pok.1.2.1;have:=ok.pok.1.2.2.1;lia) inb] at k;have L:∀{i:Nat} {c:Cl},l[i]? =some c->c.1∈amV l:=λm=>Qi.mpr ⟨_,Qc m,rfl⟩;walk_at "=e>g0HyA3yA4IeN5_law_part,_law_bottom;14;va2p0ura1a0eN6_law_claim,_law_top;13;va1p0usbra1g0bg0bg0cemυTUba5cTUbz_law_claim;1;va6p0ug0clfihbg0ba6ba5coeN7_law_claim,_law_top,_law_bottom;134;va1p0usbrPa2a1g0bg0bg0cfihbg0ba7bz_law_part,_law_claim;2;*ba5ba6cHyp0yp1IuPa0g1c";simp only [Rl.shape] at S;left;rename_i X S1;refine xN (xM S1 .mm λU w3 s=>?_);cases s.int1;cases s.drop1.int1;left;refine zP (xs:=tk.map PyData.int) s .mm λJ p=>?_;refine yt p (λj=> .int (b*tk.getD j 0)) (ys:=(yw b tk).map PyData.int) (by unfold yw;rw [Qa,Qm];exact zE (λx:Int=>PyData.int (b*x)) 0 tk) s (λ_ _=> .mem (by right)) (by rw [Qa,inb.1];lia) (λj x v I G A z g t1 S hd C ex s0 D=>?_) λD3 H3 e3 S3=>?_
 ·obtain ⟨y,M,rfl⟩:=zN g;cases S.int1;have o:IntMulOk b y:=po.2.mulOk (it.2 y (Qc M)).2 ⋯;refine zI ⟨rfl,?_⟩;left;refine hd S ?_;rw [zG M];exact Has.int
 have O:=S3.freeze;left;refine zP (xs:=l.map zJ) O .mm λJ p=>?_
 refine yt p (λj=>zJ ((λc:Cl=>((t*c.1,c.2):Cl)) (l.getD j (0,0,0)))) (ys:=(zO t l).map zJ) (by
  unfold zO;rw [Qm,Qa];exact zE (λc:Cl=>zJ ((t*c.1,c.2):Cl)) (0,0,0) l) O (λ_ _=> .mem (by right)) (by rw [Qa];lia) (λj x v I G A z g t1 S hd C ex s0 D=>?_) λD5 H5 e5 S5=>?_
 ·obtain ⟨c,m,rfl⟩:=zN g;have o:IntMulOk t c.1:=po.1.mulOk (ok.sz _ (L m)) ⋯;refine zI ⟨rfl,?_⟩;left;refine hd (by assumption) ?_;rw [zG m];exact .mem (by right)
 have N:=S5.freeze;have tl:=yQ t l;left;refine zP (xs:=(zO t l).map zJ) N .mm λJ p=>?_;refine yr p (λj=> .int ((zO t l).getD j (0,0,0)).1) (ys:=(amV (zO t l)).map PyData.int) (by unfold amV;rw [Qa,Qm];exact zE (λc:Cl=>PyData.int c.1) (0,0,0) (zO t l)) N (λj x v=>λg t1 S hd=>?_) λD7 H7 e7 S7=>?_
 ·obtain ⟨c,m,rfl⟩:=zN g;refine zI ⟨rfl,?_⟩;left;refine hd (by assumption) ?_;rw [zG m];exact Has.int
 left;refine Yh (λc=>?_) (λc=>?_)
 ·rw [QH c] at k;left;rename_i w8 q;refine Ya (r:=x) (l:=zO t l) (tk:=yw b tk) q .mm .mm .mm ok.first λH9 e9 u=>?_;exact k _ u.base
 ·rw [QS c] at k;have q:=S7.freeze;have zs:Sz 211 (b - t):=po.2.sub po.1;left;refine zP (xs:=l.map zJ) q .mm λJ p=>?_
  refine yt p (λj=>zJ ((λc:Cl=>(((b - t)*c.1,c.2):Cl)) (l.getD j (0,0,0)))) (ys:=(zO (b - t) l).map zJ) (by
   unfold zO;rw [Qm,Qa];exact zE (λc:Cl=>zJ (((b - t)*c.1,c.2):Cl)) (0,0,0) l) q (λ_ _=> .mem (by right)) (by rw [Qa];lia) (λj x v I G A z g t1 S hd C ex s0 D=>?_) λD9 H9 e9 u=>?_
  ·obtain ⟨c,m,rfl⟩:=zN g;have o:IntMulOk (b - t) c.1:=zs.mulOk (ok.sz _ (L m)) ⋯;refine zI ⟨rfl,?_⟩;left;refine hd (by assumption) ?_;rw [zG m];exact .mem (by right)
  have MC:=u.freeze;left;rename_i OS T;have ld:(yw b tk).length=(amV (zO t l)).length:=by rw [xS,yf,yQ];exact lt
  have Y:(xB (yw b tk) (amV (zO t l))).length=(amV (zO t l)).length:=by rw [XG ld.symm,ld]
  have l9:(amV (zO t l)).length<=8:=by rw [yf,yQ];exact few
  refine VG (xs:=(yw b tk).map PyData.int) (ys:=(zO t l).map zJ) T .mm .mm λJ3 Nv=>?_;refine yt Nv (λj=> .int ((xB (yw b tk) (amV (zO t l))).getD j 0)) (ys:=(xB (yw b tk) (amV (zO t l))).map PyData.int) ?_ T (λ_ _=>⟨.mem (by right),λ_ _ h=>h.tail, .mem (by right)⟩) ?_ (λj x v I G A z g t1 S hd C ex s0 D=>?_) λD12 OB OP MH=>?_
  ·rw [yT,Qa,Qa,ld,yf,Tx,<-yf,<-Y];exact zE (λx=>PyData.int x) 0 _
  ·rw [yT,Qa,Qa];lia
  ·obtain ⟨x1,x2,h1,h2,rfl⟩:=Yk g;obtain ⟨n1,NB,rfl⟩:=zN h1;obtain ⟨c2,Pz,rfl⟩:=zN h2;refine xN (xM S .mm λX U S=>?_);cases S.int1;refine yV (zI (yV (zI (Wt ⟨rfl,?_⟩))));left;refine hd (by assumption) ?_;rw [zG (show (xB (yw b tk) (amV (zO t l)))[j]? =some (n1 - c2.1) by unfold xB amV;rw [Qr,NB,Qg,Pz];rfl)];exact Has.int
  left;refine Ya (r:=y) (l:=zO (b - t) l) (tk:=xB (yw b tk) (amV (zO t l))) MH.freeze .mm .mm .mm ok.rest λRP RI MG=>?_;exact k _ MG.base
abbrev Zp:Stmt:=top 80
def du:FnScope ["_law_shape_here","_law_claims_here","_law_parts","_law_full","_law_rank","_law_places","_law_some"] paa (zu Zp):=xA
def ok_rkD {n:Nat} (B:Bl mg) (B2:Bl3 mg) (xW:Cal P w K mg base CX0 (2*n+2) "_law_fits" paa (Wm n)) (F:Fun K "_law_ranks_fit" "_law_ranks_fit" Zp f fd):FnOk P w K mg base CX0 (2*n+3) f fd paa (Jh (n+1)):=by
 walk_at "+du";obtain ⟨⟨r,l,tk⟩,hA,⟨ok,inb⟩,k⟩:=h;obtain ⟨v0,v1,v2,rfl,al⟩:=ZA hA;dsimp only at ok inb al k;have S:Sta H H H [] [(r.shape,v0),(zo l,v1),(Zb tk,v2)]:=Sta.enter (zV.refl _) al;have few:=ok.few;have tl:=ok.len;have fb:=Hu (r:=r) inb;walk_at "=ek3JeFv&z_law_claim;1;va1p0ug0A4eN5_law_k,_law_claims_here,_law_rank;114;!bxba1ccp0<qtnjja1a0da2la0eN6_law_k,_law_parts;12;va5p0uja1a0emK0QGa33S}αba6cdlfiJoemQGhba0bz_law_k,_law_claims_here;11;va5p0uja1a0ba6cfiJofk3,a3;-tna6z_law_k,_law_claims_here;11;va5p0ujja1a0dlfiJ";left;refine zP S .mm λJ Y=>?_;refine yr Y (λj=> .int (l.getD j (0,0,0)).2.1) (ys:=(l.map (·.2.1)).map PyData.int) (by rw [Qa,Qm];exact zE (λc:Cl=>PyData.int c.2.1) (0,0,0) l) S (λj x v=>λp t1 S hd=>?_) λD2 H2 e2 t=>?_
 ·obtain ⟨c,s,rfl⟩:=zN p;refine zI ⟨rfl,?_⟩;left;refine hd (by assumption) ?_;rw [zG s];exact Has.int
 refine Vc t (by right) (by rw [Qa];lia) λos L H3 h1 h2 e3 S3=>?_;have eo:os=zS l:=xZ h1 (yH l).1 λz=>by rw [h2,(yH l).2]
 subst eo;have S4:Sta H H H3 [] [(.list ((zS l).map PyData.int), .ref L),(r.shape,v0),(zo l,v1),(Zb tk,v2)]:=S3.freeze.weak (by walk_at "sub") ‹()›;clear t S3;left;refine zP S4 .mm λJ Y=>?_;refine xX Y (λi σ cs ds=>∃(fl:Bool) (X U T:Option V),σ=[some v0,some v1,some v2,some (.bl fl),X,U,T]/\cs=[]/\ds=[(.list ((zS l).map PyData.int), .ref L),(r.shape,v0),(zo l,v1),(Zb tk,v2)]/\Ud (.ranks r) l tk=rkB r l tk fl ((zS l).drop i)) S4 ⟨true,none,none,none,rfl,rfl,rfl,fb⟩ (λi σ cs ds h=>?_) ?_ ?_
 ·obtain ⟨_,_,_,_,_,_,rfl,_⟩:=h;exact .mem (by right)
 ·rintro i x u σ H5 cs ds p ⟨fl,X,U,T,rfl,rfl,rfl,inv⟩ S5
  obtain ⟨g,Z,rfl⟩:=zN p;cases S5.int1;have M:=Zv (zM g) l;have lk:=xH (zM g) l;have fk:=Tc (jav (zM g) l) few;have pos:=fX (Qc Z);have step:=ok.ranks g;rw [jbL (Qd.mp Z).1,(Qd.mp Z).2,rkB] at inv;left;refine oZ H H (by rw [Qa];lia) (by rw [Qa];lia) λJ6 SF=>?_;refine cf SF (λj=>if zM g (l.getD j (0,0,0)) then some (.int (0+(j:Int))) else none) S5 (λ_ _=>trivial) (by rw [yX,Tn,Qa];lia) (λj x v B' G' Kd Kn p t1 S hd hn C ex s0 H0=>?_) λD6 H6 e6 S6=>?_
  ·obtain ⟨hj,rfl⟩:=Yf p;rw [Tn,Qa] at hj;cases S.int1;have s:=Qb hj;rw [zG s] at hd hn;refine zI ⟨rfl,?_⟩;left;refine zW S .mm (by rw [Int.zero_add];exact zZ (by rw [Qg,s];rfl)) λw2 t=>?_;left;refine Yh (λz=>?_) (λz=>?_)
   ·left;exact hd (QH (Te z)) t Has.int
   ·exact hn (QS λy=>z (Qw y)) t
  rw [yX,Tn,Qa,jU] at S6;have S7:Sta H H H6 [] [(plD (zR (zM g) l), .ref D6),(.list ((zS l).map PyData.int), .ref L),(r.shape,v0),(zo l,v1),(Zb tk,v2)]:=S6.freeze.weak (by walk_at "sub") ‹()›;clear S6;left;refine zP S7 .mm λJ8 Oq=>?_;refine yr Oq (λj=> .int (tk.getD ((zR (zM g) l).getD j 0) 0)) (ys:=(zX 0 (zR (zM g) l) tk).map PyData.int) (by unfold zX;rw [Qa,Qm];exact zE (λi:Nat=>PyData.int (tk.getD i 0)) 0 (zR (zM g) l)) S7 (λj x v=>λp t1 S hd=>?_) λD8 H8 e8 S8=>?_
  ·obtain ⟨D,A,rfl⟩:=zN p;cases S.int1;have N:=M.lt D (Qc A);have s:=Qb (l:=tk) (i:=D) ⋯;refine zI ⟨rfl,?_⟩;left;refine YM (xs:=tk.map PyData.int) S .mm (zZ (by rw [Qg,s];rfl)) ?_;refine hd S ?_;rw [zG A,zG s];exact Has.int
  have O:Sta H H H8 [] [(Zb (zX 0 (zR (zM g) l) tk), .ref D8),(plD (zR (zM g) l), .ref D6),(.list ((zS l).map PyData.int), .ref L),(r.shape,v0),(zo l,v1),(Zb tk,v2)]:=S8.freeze.weak (by walk_at "sub") ‹()›;clear S8;have plen:(zX 0 (zR (zM g) l) tk).length=(zR (zM g) l).length:=Zw ..;left;refine FW (q:=(zX 0 (zR (zM g) l) tk).any λx=>decide (0<x)) (λhh=>?_) (λc=>?_) (λc=>?_)
  ·left;refine Jz O .mm (by rw [plen];lia) λm hm top=>?_;left
   have em:decide (0<m)=(zX 0 (zR (zM g) l) tk).any λx=>decide (0<x):=jbC.mpr ⟨λh=>List.any_eq_true.mpr ⟨m,hm,h⟩,λh=>by
    obtain ⟨x,p,OE⟩:=List.any_eq_true.mp h;have:=top x p;have:=Qw OE
    exact Te ⋯⟩
   rw [em];exact hh
  ·left;rw [inv,QH c] at k;exact k _ O.base
  ·left;rw [QS (by rw [c];exact QM)] at inv;refine zP O .mm λJ10 I=>?_;refine yr I (λj=>zJ (l.getD ((zR (zM g) l).getD j 0) (0,0,0))) (ys:=(l.filter (zM g)).map zJ) (by rw [Yi];unfold zX;rw [Qa,Qm];exact zE (λi:Nat=>zJ (l.getD i (0,0,0))) 0 (zR (zM g) l)) O (λj x v=>λp t1 S hd=>?_) λD10 NU RJ MC=>?_
   ·obtain ⟨D,A,rfl⟩:=zN p;cases S.int1;have N:=M.lt D (Qc A);have s:=Qb N;refine zI ⟨rfl,?_⟩;left;refine zW S .mm (zZ (by rw [Qg,s];rfl)) λw2 t=>?_;refine hd t ?_;rw [zG A,zG s];exact .mem (by right)
   left;refine Ya MC.freeze .mm .mm .mm step λOo OQ MN=>?_;generalize hf:Ud r (l.filter (zM g)) (zX 0 (zR (zM g) l) tk)=fbb at*
   cases fbb with
   |false=>
    left;rw [inv,QS QM] at k;exact k _ MN.base
   |true=>
   rw [QH rfl] at inv;left;have MH:Sta H H Oo [] [(Zb (zX 0 (zR (zM g) l) tk), .ref D8),(plD (zR (zM g) l), .ref D6),(.list ((zS l).map PyData.int), .ref L),(r.shape,v0),(zo l,v1),(Zb tk,v2)]:=MN.dat ‹()›
   cases fl with
   |false=>
    rw [QS QM];left;refine Zu (MH.dat ‹()›) ⟨false,_,_,_,rfl,rfl,rfl,inv⟩
   |true=>
    rw [QH rfl];left;refine zP MH .mm λJ13 G=>?_
    refine yt G (λj=> .int (l.getD ((zR (zM g) l).getD j 0) (0,0,0)).1) (ys:=(zX 0 (zR (zM g) l) (amV l)).map PyData.int) (by
     unfold zX;rw [Qa,Qm];refine (zE (λi:Nat=>PyData.int (l.getD i (0,0,0)).1) 0 (zR (zM g) l)).trans (QC λi hi=>?_);show PyData.int _=PyData.int _
     rw [KR (M.lt i hi)]) MH (λ_ _=> .mem (by right)) (by rw [Qa];lia) (λj x v B' G' Kd Kn p t1 S hd C ex s0 H0=>?_) λD13 RP RI MG=>?_
    ·obtain ⟨D,A,rfl⟩:=zN p;cases S.int1;have N:=M.lt D (Qc A);have s:=Qb N;refine zI ⟨rfl,?_⟩;left;refine zW S .mm (zZ (by rw [Qg,s];rfl)) λw2 t=>?_;left;refine hd (by assumption) ?_;rw [zG A,zG s];exact Has.int
    refine Cn (y:=Zb (zX 0 (zR (zM g) l) (amV l))) (MG.hp .mm) (MG.hpC (by right)) (VD _) (VD _) ?_;rw [Ek];left;refine Zu (MG.dropC.dat ‹()›) ⟨_,_,_,_,rfl,rfl,rfl,inv⟩
 ·rintro σ H5 cs ds ⟨fl,X,U,T,rfl,rfl,rfl,inv⟩ S5
  rw [Qa,List.drop_length,rkB] at inv;left;rw [inv] at k;exact k _ S5.base
abbrev Ze:Stmt:=top 81
def bh:FnScope ["_law_shape_here","_law_claims_here","_law_parts","_law_sums","_law_told","_law_group","_law_places","_law_some"] paa (zu Ze):=xA
def ok_grD {n:Nat} (B:Bl mg) (B2:Bl3 mg) (xW:Cal P w K mg base CX0 (2*n+2) "_law_fits" paa (Wm n)) (F:Fun K "_law_groups_fit" "_law_groups_fit" Ze f fd):FnOk P w K mg base CX0 (2*n+3) f fd paa (Ji (n+1)):=by
 walk_at "+bh";obtain ⟨⟨⟨a,b⟩,l,tk⟩,hA,⟨ok,inb⟩,k⟩:=h;obtain ⟨v0,v1,v2,rfl,al⟩:=ZA hA;dsimp only at ok inb al k;have S:Sta H H H [] [((Rl.groups a b).shape,v0),(zo l,v1),(Zb tk,v2)]:=Sta.enter (zV.refl _) al;have few:=ok.few;have tl:=ok.len;have fg:=Ec (a:=a) (b:=b) inb;have gfew:=YE l;simp only [Rl.shape] at S;walk_at "=ek3Ccek4CceFv&z_law_claim;1;va1p0ug0A5eN6_law_k,_law_claims_here,_law_group;115;!bxba1ccp0<qtnjja1a0da2la0eN7_law_k,_law_claims_here;11;va6p0uja1a0eEXa3bsbTUbz_law_claim;1;va7p0ug0cb:{bz_law_claim;1;va7p0ug0cba5cceEXa4bTUbz_law_k,_law_parts;12;va6p0uja1a0ccfmQGhbg0ba7bz_law_k,_law_parts;12;va6p0uja1a0cfiJofihbg0ba3ba4c";left;rename_i X H1 e1 S1 U H2 e2 A;refine zP (xs:=l.map zJ) A .mm λJ wk=>?_;refine yr wk (λj=> .int (l.getD j (0,0,0)).2.2) (ys:=(l.map (·.2.2)).map PyData.int) (by rw [Qa,Qm];exact zE (λc:Cl=>PyData.int c.2.2) (0,0,0) l) A (λj x v=>λs t1 S hd=>?_) λD3 H3 e3 S3=>?_
 ·obtain ⟨c,p,rfl⟩:=zN s;refine zI ⟨rfl,?_⟩;left;refine hd (by assumption) ?_;rw [zG p];exact Has.int
 refine Vc S3 (by right) (by rw [Qa];lia) λos Y H4 h1 h2 e4 S4=>?_;have eo:os=zF l:=xZ h1 (zU l).1 λz=>by rw [h2,(zU l).2]
 subst eo;have S5:Sta H H H4 [(U,(WN ((zF l).take 0) l tk).map PyData.int),(X,((zK l).take 0).map zJ)] [(.list ((zF l).map PyData.int), .ref Y),(.tuple [.str "groups",a.shape,b.shape],v0),(zo l,v1),(Zb tk,v2)]:=S4.freeze.weak (by walk_at "sub") ‹()›;clear S1 A S3 S4;left;refine zP (xs:=(zF l).map PyData.int) S5 .mm λJ wk=>?_;refine xX wk (λi σ cs ds=>∃(x5 x6 x7:Option V),σ=[some v0,some v1,some v2,some (.ref X),some (.ref U),x5,x6,x7]/\cs=[(U,(WN ((zF l).take i) l tk).map PyData.int),(X,((zK l).take i).map zJ)]/\ds=[(.list ((zF l).map PyData.int), .ref Y),(.tuple [.str "groups",a.shape,b.shape],v0),(zo l,v1),(Zb tk,v2)]/\∀g∈(zF l).take i,FitG b (l.filter (zC g)) (zX 0 (zR (zC g) l) tk)) S5 ⟨none,none,none,rfl,rfl,rfl,λg h=>absurd h Qp⟩ (λi σ cs ds h=>?_) ?_ ?_
 ·obtain ⟨_,_,_,_,_,rfl,_⟩:=h;exact .mem (by right)
 ·rintro i x u σ H6 cs ds s ⟨x5,x6,x7,rfl,rfl,rfl,inv⟩ S6
  obtain ⟨g,G,rfl⟩:=zN s;cases S6.int1;have gl:=(Qd.mp G).1;have pk:=Zv (zC g) l;have lk:=xH (zC g) l;have fk:=Tc (jav (zC g) l) few;have pos:=XM (Qc G);have step:=ok.group g
  have t1:(zK l).take (i+1)=(zK l).take i++[AO g (l.filter (zC g))]:=by
   rw [TZ];unfold zK;rw [Qg,G];rfl
  have t2:WN ((zF l).take (i+1)) l tk=WN ((zF l).take i) l tk++[(zX 0 (zR (zC g) l) tk).sum]:=by
   rw [TZ,G];unfold WN;rw [QT];rfl
  left;refine oZ H H (by rw [Qa];lia) (by rw [Qa];lia) λJ7 wk7=>?_;refine cf wk7 (λj=>if zC g (l.getD j (0,0,0)) then some (.int (0+(j:Int))) else none) S6 (λ_ _=>trivial) (by rw [yX,Tn,Qa];lia) (λj x v B' G' Kd Kn s t1 S hd hn C ex s0 H0=>?_) λD7 H7 e7 S7=>?_
  ·obtain ⟨hj,rfl⟩:=Yf s;rw [Tn,Qa] at hj;cases S.int1;have p:=Qb hj;rw [zG p] at hd hn;refine zI ⟨rfl,?_⟩;left;refine zW (xs:=l.map zJ) (x:=zJ l[j]) S .mm (by rw [Int.zero_add];exact zZ (by rw [Qg,p];rfl)) λw2 A=>?_;left;refine Yh (λz=>?_) (λz=>?_)
   ·left;exact hd (QH (Te z)) A Has.int
   ·exact hn (QS λy=>z (Qw y)) A
  rw [yX,Tn,Qa,jU] at S7;have T:=S7.freeze;clear S7;left;refine zP (xs:=(zR (zC g) l).map λ(i:Nat)=>PyData.int (i:Int)) T .mm λJ9 wk9=>?_;refine yr wk9 (λj=>zJ (l.getD ((zR (zC g) l).getD j 0) (0,0,0))) (ys:=(l.filter (zC g)).map zJ) (by rw [Yi];unfold zX;rw [Qa,Qm];exact zE (λi:Nat=>zJ (l.getD i (0,0,0))) 0 (zR (zC g) l)) T (λj x v=>λs t1 S hd=>?_) λD9 H9 e9 Z=>?_
  ·obtain ⟨t,D,rfl⟩:=zN s;cases S.int1;have il:=pk.lt t (Qc D);have p:=Qb il;refine zI ⟨rfl,?_⟩;left;refine zW (xs:=l.map zJ) (x:=zJ l[t]) S .mm (zZ (by rw [Qg,p];rfl)) λw2 A=>?_;refine hd A ?_;rw [zG D,zG p];exact .mem (by right)
  have MC:=Z.freeze;clear Z;generalize O:l.filter (zC g)=q at*;left;refine zP (xs:=q.map zJ) MC .mm λJ11 N=>?_;refine yr N (λj=> .int (q.getD j (0,0,0)).1) (ys:=(amV q).map PyData.int) (by unfold amV;rw [Qa,Qm];exact zE (λc:Cl=>PyData.int c.1) (0,0,0) q) MC (λj x v=>λs t1 S hd=>?_) λD11 Oo OQ MN=>?_
  ·obtain ⟨c,p,rfl⟩:=zN s;refine zI ⟨rfl,?_⟩;left;refine hd (by assumption) ?_;rw [zG p];exact Has.int
  left;have MH:=MN.dropC;clear MN;refine zP (xs:=q.map zJ) MH .mm λJ13 M=>?_;refine yr M (λj=> .int (q.getD j (0,0,0)).2.1) (ys:=(q.map (·.2.1)).map PyData.int) (by rw [Qa,Qm];exact zE (λc:Cl=>PyData.int c.2.1) (0,0,0) q) MH (λj x v=>λs t1 S hd=>?_) λD13 RP RI MG=>?_
  ·obtain ⟨c,p,rfl⟩:=zN s;refine zI ⟨rfl,?_⟩;left;refine hd (by assumption) ?_;rw [zG p];exact Has.int
  left;refine Cf (ns:=q.map (·.2.1)) MG (by right) (by rw [Qa];exact pos) λm hm low=>?_;have em:m=jg (q.map (·.2.1)):=Dh hm low;subst em;have Nu:=MG.dropC;clear MG;left;rename_i q15 PL SA Na;have Nt:Sta H H PL [(X,((zK l).take i).map zJ),(U,(WN ((zF l).take i) l tk).map PyData.int)] [(zJ (AO g q), .ref q15),(zo q, .ref D9),(plD (zR (zC g) l), .ref D7),(.list ((zF l).map PyData.int), .ref Y),(.tuple [.str "groups",a.shape,b.shape],v0),(zo l,v1),(Zb tk,v2)]:=(Na.dat ‹()›).swap;clear T MC MH Nu Na;refine yR (y:=zJ (AO g q)) Nt .mm (by rw [Qa,jad];unfold zK;rw [Qa];lia) λRO Nz=>?_;have NM:=Nz.swap;clear Nt Nz;left;refine zP (xs:=(zR (zC g) l).map λ(i:Nat)=>PyData.int (i:Int)) NM .mm λJ19 L=>?_;refine yr L (λj=> .int (tk.getD ((zR (zC g) l).getD j 0) 0)) (ys:=(zX 0 (zR (zC g) l) tk).map PyData.int) (by unfold zX;rw [Qa,Qm];exact zE (λi:Nat=>PyData.int (tk.getD i 0)) 0 (zR (zC g) l)) NM (λj x v=>λs t1 S hd=>?_) λD19 H19 e19 NL=>?_
  ·obtain ⟨t,D,rfl⟩:=zN s;cases S.int1;have il:=pk.lt t (Qc D);have p:=Qb (l:=tk) (i:=t) ⋯;refine zI ⟨rfl,?_⟩;left;refine YM (xs:=tk.map PyData.int) S .mm (zZ (by rw [Qg,p];rfl)) ?_;refine hd S ?_;rw [zG D,zG p];exact Has.int
  left;have NH:=NL.dropC;clear NM NL;refine yR (y:= .int (zX 0 (zR (zC g) l) tk).sum) NH Has.int (by rw [Qa];unfold WN;rw [Qa,jad];lia) λH21 PF=>?_;left;rename_i w22 Og;refine zP (xs:=(zR (zC g) l).map λ(i:Nat)=>PyData.int (i:Int)) Og .mm λJ23 I=>?_;refine yr I (λj=> .int (tk.getD ((zR (zC g) l).getD j 0) 0)) (ys:=(zX 0 (zR (zC g) l) tk).map PyData.int) (by unfold zX;rw [Qa,Qm];exact zE (λi:Nat=>PyData.int (tk.getD i 0)) 0 (zR (zC g) l)) Og (λj x v=>λs t1 S hd=>?_) λD23 H23 e23 Of=>?_
  ·obtain ⟨t,D,rfl⟩:=zN s;cases S.int1;have il:=pk.lt t (Qc D);have p:=Qb (l:=tk) (i:=t) ⋯;refine zI ⟨rfl,?_⟩;left;refine YM (xs:=tk.map PyData.int) S .mm (zZ (by rw [Qg,p];rfl)) ?_;refine hd S ?_;rw [zG D,zG p];exact Has.int
  left;refine Ya (r:=b) (l:=q) (tk:=zX 0 (zR (zC g) l) tk) Of.freeze .mm .mm .mm step λH24 e24 RN=>?_;generalize hf:Ud b q (zX 0 (zR (zC g) l) tk)=fbb at*
  cases fbb with
  |false=>
   left
   rw [IB λz=>by
    have:=XO.mpr ((fg.mp z).1 g (Qc G));rw [O,hf] at this
    exact Bool.noConfusion this] at k
   exact k _ RN.base
  |true=>
  left;refine Zu (RN.dat (ds':=[(.list ((zF l).map PyData.int), .ref Y),(.tuple [.str "groups",a.shape,b.shape],v0),(zo l,v1),(Zb tk,v2)]) ‹()›) ⟨_,_,_,rfl,?_,rfl,λg' Oy=>?_⟩
  ·rw [t1,t2,QT,QT];rfl
  ·rw [TZ,G] at Oy
   rcases QW.mp Oy with z|z
   ·exact inv g' z
   ·rw [Qq.mp z,O];exact XO.mp hf
 ·rintro σ H6 cs ds ⟨x5,x6,x7,rfl,rfl,rfl,inv⟩ S6
  rw [Qa,List.take_length] at inv;have e1:(zK l).take (zF l).length=zK l:=Tv (by rw [xK];exact Qu _);rw [Qa,e1,List.take_length] at S6;have S7:=S6.freeze.freeze;clear S6;left;rename_i w8 T;refine Ya (r:=a) (l:=zK l) (tk:=WN (zF l) l tk) T .mm .mm .mm ok.outer λH9 e9 Z=>?_;rw [Vm (fg.trans ((and_iff_right inv).trans XO.symm))] at k;exact k _ Z.base
def Gv (B:Bl mg) (B2:Bl3 mg) (Lp:Cal P w K mg base CX0 1 "_law_even" paL qV) {fu:Addr} {N:FuncData} (Fu:Fun K "_law_upto_fit" "_law_upto_fit" ZZ fu N) (hmu:mg "_law_upto_fit"=some (.ref fu)) (bu:xp K N paa []) {fr fg:Addr} {O T:FuncData} (Fr:Fun K "_law_ranks_fit" "_law_ranks_fit" Zp fr O) (hmr:mg "_law_ranks_fit"=some (.ref fr)) (br:xp K O paa []) (Fg:Fun K "_law_groups_fit" "_law_groups_fit" Ze fg T) (Nc:mg "_law_groups_fit"=some (.ref fg)) (bg:xp K T paa []) (F:Fun K "_law_fits" "_law_fits" bA f fd) (hm:mg "_law_fits"=some (.ref f)) (bf:xp K fd paa []):∀n:Nat,FnOk P w K mg base CX0 (2*n+2) f fd paa (Wm n):=by
 intro n
 induction n with
 |zero=>
  refine F.ok Ut (λvs H Q E h=>?_) (λMv A outer s H vs Q E hr h=>?_)
  ·obtain ⟨a,h,_⟩:=h;rw [<-h.len];rfl
  obtain ⟨⟨r,l,tk⟩,_,ok,_⟩:=h;dsimp only at ok;exact absurd ok.dep (by have:=Hx r;lia)
 |succ n ih=>
  have xW:Cal P w K mg base CX0 (2*n+2) "_law_fits" paa (Wm n):=aE F ih hm bf;have Fj:Cal P w K mg base CX0 (2*n+3) "_law_upto_fit" paa (Jf (n+1)):=aE Fu (ok_upD B xW Fu) hmu bu;have ES:Cal P w K mg base CX0 (2*n+3) "_law_ranks_fit" paa (Jh (n+1)):=aE Fr (ok_rkD B B2 xW Fr) hmr br;have AS:Cal P w K mg base CX0 (2*n+3) "_law_groups_fit" paa (Ji (n+1)):=aE Fg (ok_grD B B2 xW Fg) Nc bg;refine F.ok Ut (λvs H Q E h=>?_) (λMv A outer s H vs Q E hr h=>?_)
  ·obtain ⟨a,h,_⟩:=h;rw [<-h.len];rfl
  obtain ⟨⟨r,l,tk⟩,hA,ok,k⟩:=h;obtain ⟨v0,v1,v2,rfl,al⟩:=ZA hA;dsimp only at ok al k;have S:Sta H H H [] [(r.shape,v0),(zo l,v1),(Zb tk,v2)]:=Sta.enter (zV.refl _) al;have few:=ok.few;have hn20:=ok.hn;have nd0:=Ut.nd;walk_at "=eN3_law_claim;1;va1p0ug0ek4TUba3cek5TUba2ceF*ba3ba2cHyA6yA7IfmKOVa7dl1Sa7a6lfiJoemqtng0wlfi-tnz_law_part,_law_whole_here;14;va2p0ura0a1z_law_amount,_law_purse_here;15;va3p0ura0a1loemqtng0wlfihba3ba2coemqtng0wlfihba3bz_law_amount,_law_part;2;*ba3ba2cHyp0yp1IuPa0a1coemqtng0wlfihbsbwbsbdbdcbsbwcbsbwccba1ba2coemqtng0wlfihbg0ba1bz_law_amount,_law_part;2;*ba3ba2cHyp0yp1IuPa0a1coemqtng0wlfihbg0ba1ba2coemqtng0wlfihba0ba1ba2cofihba0ba1ba2c";left;refine zP (xs:=l.map zJ) S .mm λJ wk=>?_;refine yr wk (λj=> .int (l.getD j (0,0,0)).1) (ys:=(amV l).map PyData.int) (by unfold amV;rw [Qa,Qm];exact zE (λc:Cl=>PyData.int c.1) (0,0,0) l) S (λj x v=>λq t1 S hd=>?_) λD H1 e1 S1=>?_
  ·obtain ⟨c,hc,rfl⟩:=zN q;refine zI ⟨rfl,?_⟩;left;refine hd (by assumption) ?_;rw [zG hc];exact Has.int
  have S2:Sta H H H1 [] [(Zb (amV l), .ref D),(r.shape,v0),(zo l,v1),(Zb tk,v2)]:=S1.freeze;clear S1;have l8:(amV l).length<=8:=by rw [yf];exact few
  have Nl:=ok.sz;left;refine VG (xs:=(amV l).map PyData.int) (ys:=tk.map PyData.int) S2 .mm .mm λJ2 NA=>?_;refine xX NA (λi σ cs ds=>(∃x6 x7,σ=[some v0,some v1,some v2,some (.ref D),some (.int (amV l).sum),some (.int tk.sum),x6,x7])/\cs=[]/\ds=[(Zb (amV l), .ref D),(r.shape,v0),(zo l,v1),(Zb tk,v2)]/\∀(j:Nat) (a p:Int),j<i->(amV l)[j]? =some a->tk[j]? =some p->0<=p/\p<=a) S2 ⟨⟨none,none,rfl⟩,rfl,rfl,λj a p h=>absurd h (Nat.not_lt_zero _)⟩ (λi σ cs ds h=>?_) ?_ ?_
  ·obtain ⟨_,rfl,rfl,_⟩:=h;exact ⟨.mem (by right),λ_ _ h=>h.tail, .mem (by right)⟩
  ·rintro i x u σ H2 cs ds q ⟨⟨x6,x7,rfl⟩,rfl,rfl,inv⟩ m
   obtain ⟨xa,xb,M,L,rfl⟩:=Yk q;obtain ⟨a,ha,rfl⟩:=zN M;obtain ⟨p,hp,rfl⟩:=zN L;have bad:¬(0<=p/\p<=a)->Ud r l tk=false:=λz=>IB λh=>z (h.inB.2 i a p ha hp);refine xN (xM m .mm λw1 w2 g=>?_);cases g.int1;cases g.drop1.int1;left;refine Yh (λc=>?_) (λc1=>?_)
   ·left;rw [bad ⋯] at k;exact k _ g.base
   left;refine Yh (λc=>?_) (λc2=>?_)
   ·left;rw [bad ⋯] at k;exact k _ g.base
   left;refine Zu (g.dat ‹()›) ⟨⟨_,_,rfl⟩,rfl,rfl,λj a' p' hj Ni MB=>?_⟩
   by_cases z:j<i
   ·exact inv j a' p' z Ni MB
   ·have:j=i:=⋯
    subst this;rw [ha] at Ni;rw [hp] at MB;cases Ni;cases MB;lia
  rintro σ H2 cs ds ⟨⟨x6,x7,rfl⟩,rfl,rfl,inv⟩ m
  clear S2 wk NA;have inb:InB (amV l) tk:=InB.of ok.len λi a p hi ha hp=>inv i a p (by rw [yT,Qa,Qa,ok.len,<-yf,Tx];exact hi) ha hp
  cases r with
  |shares=>
   simp only [Rl.shape] at m;obtain ⟨it,ia⟩:=inb.inS l8 Nl;have st:=it.sum.2;have sa:=ia.sum.2;left;refine zP (xs:=tk.map PyData.int) m .mm λJ3 X=>?_;refine yt X (λj=> .int (tk.getD j 0*(amV l).sum)) (ys:=(tk.map (·*(amV l).sum)).map PyData.int) (by rw [Qa,Qm];exact zE (λx:Int=>PyData.int (x*(amV l).sum)) 0 tk) m (λ_ _=> .mem (by right)) (by rw [Qa,inb.1];lia) (λj x v B' G' Kd Kn q t1 S hd C ex s0 H0=>?_) λD4 H4 e4 g=>?_
   ·obtain ⟨y,I,rfl⟩:=zN q;cases S.int1;have o:IntMulOk y (amV l).sum:=(it.2 y (Qc I)).2.mulOk sa ⋯;refine zI ⟨rfl,?_⟩;left;refine hd S ?_;rw [zG I];exact Has.int
   left;refine zP (xs:=(amV l).map PyData.int) g .mm λJ5 wk5=>?_;refine yr wk5 (λj=> .int ((amV l).getD j 0*tk.sum)) (ys:=((amV l).map (·*tk.sum)).map PyData.int) (by rw [Qa,Qm];exact zE (λx:Int=>PyData.int (x*tk.sum)) 0 (amV l)) g (λj x v=>λq t1 S hd=>?_) λD6 H6 e6 S6=>?_
   ·obtain ⟨y,I,rfl⟩:=zN q;cases S.int1;have o:IntMulOk y tk.sum:=(ia.2 y (Qc I)).2.mulOk st ⋯;refine zI ⟨rfl,?_⟩;left;refine hd S ?_;rw [zG I];exact Has.int
   refine Cn (x:=Zb (tk.map (·*(amV l).sum))) (y:=Zb ((amV l).map (·*tk.sum))) (S6.hpC (by right)) (S6.hpC (by right)) (VD _) (VD _) ?_;rw [Ek,<-Ee inb];exact k _ S6.base
  |evenly=>
   simp only [Rl.shape] at m;left;refine tZ m .mm .mm l8 inb.1 λH4 e4 g=>?_;rw [<-Eh];exact k _ g.base
  |losses=>
   simp only [Rl.shape] at m;left;refine VG (xs:=(amV l).map PyData.int) (ys:=tk.map PyData.int) m .mm .mm λJ3 X=>?_;have Z:(xB (amV l) tk).length=(amV l).length:=XG inb.1;refine yt X (λj=> .int ((xB (amV l) tk).getD j 0)) (ys:=(xB (amV l) tk).map PyData.int) ?_ m (λ_ _=>⟨.mem (by right),λ_ _ h=>h.tail, .mem (by right)⟩) ?_ (λj x v B' G' Kd Kn q t1 S hd C ex s0 H0=>?_) λD4 H4 e4 g=>?_
   ·rw [yT,Qa,Qa,inb.1,Tx,<-Z];exact zE (λx=>PyData.int x) 0 _
   ·rw [yT,Qa,Qa];lia
   ·obtain ⟨x1,x2,M,L,rfl⟩:=Yk q;obtain ⟨n1,NB,rfl⟩:=zN M;obtain ⟨n2,Nm,rfl⟩:=zN L;refine xN (xM S .mm λw1 w2 S=>?_);cases S.int1;cases S.drop1.int1;refine yV (zI (yV (zI (Wt ⟨rfl,?_⟩))));left;refine hd S ?_;rw [zG (show (xB (amV l) tk)[j]? =some (n1 - n2) by unfold xB;rw [Qr,NB,Nm])];exact Has.int
   left;refine tZ (am:=amV l) (tk:=xB (amV l) tk) g.freeze .mm .mm l8 Z λY U G=>?_;rw [<-Ef inb];exact k _ G.base
  |halves=>
   simp only [Rl.shape] at m;left;rename_i p4 H4 e4 g;refine Ya (r:= .upto 1 2 .evenly .losses) (l:=l) (tk:=tk) g .mm .mm .mm ok.halves λY U G=>?_;rw [<-Eg];exact k _ G.base
  |other r=>
   simp only [Rl.shape] at m;left;rename_i w4 S4';have m:=S4';refine VG (xs:=(amV l).map PyData.int) (ys:=tk.map PyData.int) m .mm .mm λJ3 X=>?_;have Z:(xB (amV l) tk).length=(amV l).length:=XG inb.1;refine yt X (λj=> .int ((xB (amV l) tk).getD j 0)) (ys:=(xB (amV l) tk).map PyData.int) ?_ m (λ_ _=>⟨.mem (by right),λ_ _ h=>h.tail, .mem (by right)⟩) ?_ (λj x v B' G' Kd Kn q t1 S hd C ex s0 H0=>?_) λD4 H4 e4 g=>?_
   ·rw [yT,Qa,Qa,inb.1,Tx,<-Z];exact zE (λx=>PyData.int x) 0 _
   ·rw [yT,Qa,Qa];lia
   ·obtain ⟨x1,x2,M,L,rfl⟩:=Yk q;obtain ⟨n1,NB,rfl⟩:=zN M;obtain ⟨n2,Nm,rfl⟩:=zN L;refine xN (xM S .mm λw1 w2 S=>?_);cases S.int1;cases S.drop1.int1;refine yV (zI (yV (zI (Wt ⟨rfl,?_⟩))));left;refine hd S ?_;rw [zG (show (xB (amV l) tk)[j]? =some (n1 - n2) by unfold xB;rw [Qr,NB,Nm])];exact Has.int
   left;refine Ya (r:=r) (l:=l) (tk:=xB (amV l) tk) g.freeze .mm .mm .mm (ok.other inb) λY U G=>?_;rw [<-Hv inb];exact k _ G.base
  |upto t b x y=>
   have g:=m;simp only [Rl.shape] at m;left;refine rd_upD (t:=t) (b:=b) (x:=x) (y:=y) (l:=l) (tk:=tk) g .mm .mm .mm ok inb λY U G=>?_;exact k _ G.base
  |ranks r=>
   simp only [Rl.shape] at m;left;rename_i w4 g;refine rd_rkD (r:=r) (l:=l) (tk:=tk) g .mm .mm .mm ok inb λY U G=>?_;exact k _ G.base
  |groups x y=>
   have g:=m;simp only [Rl.shape] at m;left;refine rd_grD (x:=x) (y:=y) (l:=l) (tk:=tk) g .mm .mm .mm ok inb λY U G=>?_;exact k _ G.base
abbrev bw:Stmt:=top 83
def Us:FnScope paE paE (zu bw):=xA
section
variable {A:RAd}
def Gi (m:VX P w K mg base "Shares" (A.cls .shares) pac (xq (A.cls .shares) (α:=Unit) (λ_=>[]) (λ_=>Rl.shares.shape))) (z:VX P w K mg base "Evenly" (A.cls .evenly) pac (xq (A.cls .evenly) (α:=Unit) (λ_=>[]) (λ_=>Rl.evenly.shape))) (p:VX P w K mg base "Losses" (A.cls .losses) pac (xq (A.cls .losses) (α:=Unit) (λ_=>[]) (λ_=>Rl.losses.shape))) (q:VX P w K mg base "Halves" (A.cls .halves) pac (xq (A.cls .halves) (α:=Unit) (λ_=>[]) (λ_=>Rl.halves.shape))) (D:VX P w K mg base "Other" (A.cls (.other .shares)) paq (xq (A.cls (.other .shares)) (α:=Rl) (λr=>[r.ins A]) (λr=>(Rl.other r).shape))) (C:VX P w K mg base "Ranks" (A.cls (.ranks .shares)) paq (xq (A.cls (.ranks .shares)) (α:=Rl) (λr=>[r.ins A]) (λr=>(Rl.ranks r).shape))) (u:VX P w K mg base "Groups" (A.cls (.groups .shares .shares)) paB (xq (A.cls (.groups .shares .shares)) (α:=Rl×Rl) (λr=>[r.1.ins A,r.2.ins A]) (λr=>(Rl.groups r.1 r.2).shape))) (J:VX P w K mg base "Upto" (A.cls (.upto 0 0 .shares .shares)) pan (xq (A.cls (.upto 0 0 .shares .shares)) (α:=(Int×Int)×Rl×Rl) (λr=>[.tuple [.int r.1.1, .int r.1.2],r.2.1.ins A,r.2.2.ins A]) (λr=>(Rl.upto r.1.1 r.1.2 r.2.1 r.2.2).shape))) (F:Fun K "_law_rule" "_law_rule" bw f fd) (hm:mg "_law_rule"=some (.ref f)) (b:xp K fd paE []):∀n:Nat,FnOk P w K mg base CX0 (n+4) f fd paE (kY A n):=by
 obtain ⟨Mb,LK,qx,Fb,EU,uF⟩:=m;obtain ⟨Mf,LO,qC,Ff,EY,uJ⟩:=z;obtain ⟨Mc,LL,qy,Fc,EV,uG⟩:=p;obtain ⟨Md,LM,qA,Fd,EW,uH⟩:=q;obtain ⟨Mn,Ma,vg,HY,HP,DR⟩:=D;obtain ⟨Mm,LZ,vd,HX,HN,DO⟩:=C;obtain ⟨Me,LN,qB,Fe,EX,uI⟩:=u;obtain ⟨Mr,Ml,EK,IT,II,IA⟩:=J;intro n
 induction n with
 |zero=>
  refine F.ok Us (λvs H Q E h=>?_) (λMv A' outer s H vs Q E hr h=>?_)
  ·obtain ⟨G,a,_,h,_⟩:=h;rw [<-h.len];rfl
  obtain ⟨G,r,_,_,hd,_⟩:=h;exact absurd hd (by cases r<;>simp [Rl.deep])
 |succ n ih=>
  have AJ:Cal P w K mg base CX0 (n+4) "_law_rule" paE (kY A n):=aE F ih hm b;refine F.ok Us (λvs H Q E h=>?_) (λMv A' outer s H vs Q E hr h=>?_)
  ·obtain ⟨G,a,_,h,_⟩:=h;rw [<-h.len];rfl
  obtain ⟨G,r,eG,hA,hd,k⟩:=h;obtain ⟨v,rfl,al⟩:=XI hA;have S:Sta H G H [] [(r.shape,v)]:=Sta.enter eG al;have nd0:=Us.nd;walk_at "=emqtng0wlfiφχoemqtng0wlfiψωoemqtng0wlfiΓΔoemqtng0wlfiΘΞoemqtng0wlfiΠΣbhbg0ccoemqtng0wlfiΦΨbhbg0ccoemqtng0wlfiΩаbhbg0cbhbg0ccofiбвbg0bhbg0cbhbg0cc"
  cases r with
  |shares=>
   simp only [Rl.shape] at S;left;refine Xd () S yy.nil λI H1 T g=>?_;exact Zc g k .mm
  |evenly=>
   simp only [Rl.shape] at S;left;refine Xd () S yy.nil λI H1 T g=>?_;exact Zc g k .mm
  |losses=>
   simp only [Rl.shape] at S;left;refine Xd () S yy.nil λI H1 T g=>?_;exact Zc g k .mm
  |halves=>
   simp only [Rl.shape] at S;left;refine Xd () S yy.nil λI H1 T g=>?_;exact Zc g k .mm
  |other r=>
   simp only [Rl.shape] at S;left;rename_i N g;refine Ws g .mm (by simp only [Rl.deep] at hd;lia) λw2 H2 e2 M=>?_;left;refine Xd r M (yy.cons .mm yy.nil) λI H3 O L=>?_;exact Zc L k .mm
  |upto t b x y=>
   have X:x.deep<=n:=by simp only [Rl.deep] at hd;lia
   have U:y.deep<=n:=by simp only [Rl.deep] at hd;lia
   simp only [Rl.shape] at S;left;rename_i N g w2 M;refine Ws M .mm X λw3 H3 O L=>?_;left;rename_i w4 S4;refine Ws S4 .mm U λw5 H5 e5 Z=>?_;left;refine Xd (((t,b),x,y):(Int×Int)×Rl×Rl) Z (yy.cons .mm (yy.cons .mm (yy.cons .mm yy.nil))) λI H6 e6 Y=>?_;exact Zc Y k .mm
  |ranks r=>
   simp only [Rl.shape] at S;left;rename_i N g;refine Ws g .mm (by simp only [Rl.deep] at hd;lia) λw2 H2 e2 M=>?_;left;refine Xd r M (yy.cons .mm yy.nil) λI H3 O L=>?_;exact Zc L k .mm
  |groups x y=>
   have X:x.deep<=n:=by simp only [Rl.deep] at hd;lia
   have U:y.deep<=n:=by simp only [Rl.deep] at hd;lia
   simp only [Rl.shape] at S;left;rename_i N g;refine Ws g .mm X λw3 H3 O L=>?_;left;rename_i w4 S4;refine Ws S4 .mm U λw5 H5 e5 Z=>?_;left;refine Xd ((x,y):Rl×Rl) Z (yy.cons .mm (yy.cons .mm yy.nil)) λI H6 e6 Y=>?_;exact Zc Y k .mm
end
abbrev Wn:Stmt:=top 74
def iV:FnScope ["_law_cell","_law_number"] paK (zu Wn):=xA
def Gm:Coo P w K mg base "_law_portion" Wn 1 paK qQ:=by
 walk_at "-iV";obtain ⟨G,c,rfl,z,k⟩:=h;have S:Sta H G H [] []:=Sta.enter z λp hp=>absurd hp Qp;walk_at "=ek1Da07ddemqtnDa1ddlfisbdbBdDMa1ddcoemqtnDa1ddlfisbBdDMa1ddbdcofisbBdDMa1ddbBdDMa1ddc";left;generalize c % 10 ^ Int.toNat 9=m at*;have hm:0<=m / 3 % 60/\m / 3 % 60<60:=⋯
 have g:∀t b:Int,0<t->t<b->b<=61->Int.gcd t b=1->Small t b:=λt b y u s r=>⟨⟨⟨by unfold Sz;lia,by unfold Sz;lia⟩,y,u,r⟩,s⟩;refine Yh (λ_=>?_) (λ_=>?_)
 ·left;exact BV (by assumption) k .mm (g _ _ nofun ⋯ ⋯ (by rw [Int.gcd_one_left]))
 left;refine Yh (λ_=>?_) (λ_=>?_)
 ·left;refine BV (by assumption) k .mm (g _ _ ⋯ ⋯ ⋯ ?_);obtain ⟨i,q,e⟩:∃i:Nat,i<60/\m / 3 % 60=(i:Int):=⟨(m / 3 % 60).toNat,⋯,⋯⟩;rw [e];clear e hm
  revert q
  revert i
  decide+kernel
 left;refine BV (by assumption) k .mm (g _ _ ⋯ ⋯ ⋯ ?_);obtain ⟨i,q,e⟩:∃i:Nat,i<60/\m / 3 % 60=(i:Int):=⟨(m / 3 % 60).toNat,⋯,⋯⟩;rw [e];clear e hm
 revert q
 revert i
 decide+kernel
abbrev bz:Stmt:=top 75
def rz:FnScope paK paK (zu bz):=xA
def Gu:Coo P w K mg base "_law_leaf" bz 1 paK qU:=by
 walk_at "-rz";obtain ⟨G,c,rfl,g,k⟩:=h;have S:Sta H G H [] []:=Sta.enter g λp hp=>absurd hp Qp;walk_at "=fijCbsbwcbsbwcbsbwcbsbwccDa0d";left;rename_i z Z J O y Y I N u X D M t U C L s T A q
 obtain ⟨n,hn⟩:∃n,atI [PyData.tuple [.str "shares"], .tuple [.str "evenly"], .tuple [.str "losses"], .tuple [.str "halves"]] (c % 4)=some (nr n).shape:=by
  rcases (by lia:c % 4=0\/c % 4=1\/c % 4=2\/c % 4=3) with h|h|h|h<;>rw [h]
  ·exact ⟨0,rfl⟩
  ·exact ⟨1,rfl⟩
  ·exact ⟨2,rfl⟩
  ·exact ⟨3,rfl⟩
 refine YN q (by right) hn λr m=>?_;exact BW m k .mm
abbrev Uy:Stmt:=top 76
def oC:FnScope ["_law_cells","_law_groups","_law_pile","_law_cell","_law_more","_law_kind"] paN (zu Uy):=xA
def CG (B:Bl mg) (HZ:Cal P w K mg base CX0 1 "_law_portion" paK qQ) (Lo:Cal P w K mg base CX0 1 "_law_leaf" paK qU):Coo P w K mg base "_law_shape" Uy 2 paN kW:=by
 walk_at "-oC";obtain ⟨G,ns,g,v,rfl,eG,hv,hl6,k⟩:=h;have S:Sta H G H [] [(Zb ns,v)]:=Sta.enter eG λp hp=>by rw [Qq.mp hp];exact hv
 have two:∀rs:List Rl,1<rs.length->∃ls ra s,rs=ls++[ra,s]:=λrs h=>by
  refine ⟨rs.dropLast.dropLast,rs.dropLast.getLast (λz=>?_),rs.getLast (λz=>?_),?_⟩
  ·have:=congrArg List.length z;rw [List.length_dropLast,List.length_nil] at this;lia
  ·rw [z,List.length_nil] at h;lia
  ·rw [show ∀a b:Rl,[a,b]=[a]++[b] from λ_ _=>rfl,<-jah,jal,jal]
 have one:∀rs:List Rl,0<rs.length->∃ls ra,rs=ls++[ra]:=λrs h=>by
  refine ⟨rs.dropLast,rs.getLast (λz=>?_),?_⟩
  ·rw [z,List.length_nil] at h;lia
  ·rw [jal]
 have U:∀(ls:List Rl) (r:Rl),atI ((ls++[r]).map Rl.shape) (-1)=some r.shape:=λls r=>by
  rw [QT];exact uY _ _
 have at2:∀(ls:List Rl) (r q:Rl),atI ((ls++[r,q]).map Rl.shape) (-2)=some r.shape/\atI ((ls++[r,q]).map Rl.shape) (-1)=some q.shape:=λls r q=>⟨by rw [QT];exact HQ,by rw [show ls++[r,q]=ls++[r]++[q] by simp];exact U _ _⟩;walk_at "=ek2CceFva0A3ek4DMa3d7ddek5Da3dfmK0qtna5dl3Sxba2cdlfk2?2a24ZLdCbsbwbja2LdccfmK0qtna5dl3Sxba2cdlfk2?2a24ZLdCbsbwbja2LdccfmK0qtna5dl0Sxba2cdl3Ga1fk2?2a24ZLdCbsbwbja2Ldbja2LdccfmK0Sa5dl3Sxba2cdlfk2?2a24ZLdCbsbwbhba4cbja2Ldbja2LdccfEXa2bhba4ccemqtnxba2cdlfisbwcoe/Sxba2cdlfk2?2a24ZLdCbsbwbsbdbBdxba2ccbja2Ldbja2Ldccfig2";left;rename_i p1 H1 e1 S1;refine zP S1 .mm λJ wk=>?_;refine xX wk (λi σ cs ds=>∃(rs:List Rl) (p:Addr) (Z Y X:Option V),σ=[some v,some (.bl g),some (.ref p),Z,Y,X]/\cs=[(p,rs.map Rl.shape)]/\ds=[(Zb ns,v)]/\(∀r∈rs,PSG g r)/\ndS rs<=i) S1 ⟨[],p1,none,none,none,rfl,rfl,rfl,λr hr=>absurd hr Qp,Qu _⟩ (λi σ cs ds h=>?_) ?_ ?_
 ·obtain ⟨_,_,_,_,_,_,_,rfl,_⟩:=h;exact .mem (by right)
 ·rintro i x u σ H2 cs ds hx ⟨rs,p,Z,Y,X,rfl,rfl,rfl,Nb,Rh⟩ O
  obtain ⟨c,hc,rfl⟩:=zN hx;have hi:=(Qd.mp hc).1;cases O.int1;have O:=O.drop1;have ll:=Vh rs
  have fin:∀(q:Addr) (ls:List Rl) (r:Rl) (y3 y4 y5:Option V) (H5:Hp),(∀r∈ls,PSG g r)->PSG g r->ndS ls+nd r<=i+1->Sta H G H5 [(q,ls.map Rl.shape++[r.shape])] [(Zb ns,v)]->
   AtP H G (λσ cs ds=>∃(rs:List Rl) (p:Addr) (Z Y X:Option V),σ=[some v,some (.bl g),some (.ref p),Z,Y,X]/\cs=[(p,rs.map Rl.shape)]/\ds=[(Zb ns,v)]/\(∀r∈rs,PSG g r)/\ndS rs<=i+1) [some v,some (.bl g),some (.ref q),y3,y4,y5] H5:=by
   intro q ls r y3 y4 y5 H5 h1 h2 h3 T;refine Zu T ⟨ls++[r],q,y3,y4,y5,rfl,by rw [QT];rfl,rfl,λz hz=>?_,by rw [Yv];exact h3⟩
   rcases QW.mp hz with z'|z'
   ·exact h1 z z'
   ·rw [Qq.mp z'];exact h2
  left;refine' if2 ?gh1 ?gk1 ?gn1
  case gh1=>
   intro z;left;exact z
  case gk1=>
   intro c1 C;have C:=Qw C;rw [Qa] at C;left;obtain ⟨ls,ra,rfl⟩:=one rs ⋯;have I:=Nb ra (by simp);have nn:=Yv ls ra;refine oU O (by right) λq3 H3 e3 A=>?_;rw [show qb ((ls++[ra]).map Rl.shape) none (some (-1))=ls.map Rl.shape by rw [QT];exact uQ _ _] at A;left;refine YN A (by right) (U ls ra) λw4 M=>?_;left;rename_i q5 H5 e5 T q6 H6 e6 L;refine .inl (ZS L (L.vwC (by right)) (L.vwC (by right)) (by have:=Vh ls;rw [Qa];show _+1<=1000;lia) λq7 H7 e7 D=>?_);left;exact fin q7 ls (Rl.other ra) _ _ _ H7 (λr hr=>Nb r (by simp [hr])) I (by simp only [nd];lia) (D.weak (by walk_at "sub") ‹()›)
  intro _;left;refine' if2 ?gh2 ?gk2 ?gn2
  case gh2=>
   intro z;left;exact z
  case gk2=>
   intro c1 C;have C:=Qw C;rw [Qa] at C;left;obtain ⟨ls,ra,rfl⟩:=one rs ⋯;have I:=Nb ra (by simp);have nn:=Yv ls ra;refine oU O (by right) λq3 H3 e3 A=>?_;rw [show qb ((ls++[ra]).map Rl.shape) none (some (-1))=ls.map Rl.shape by rw [QT];exact uQ _ _] at A;left;refine YN A (by right) (U ls ra) λw4 M=>?_;left;rename_i q5 H5 e5 T q6 H6 e6 L;refine .inl (ZS L (L.vwC (by right)) (L.vwC (by right)) (by have:=Vh ls;rw [Qa];show _+1<=1000;lia) λq7 H7 e7 D=>?_);left;exact fin q7 ls (Rl.ranks ra) _ _ _ H7 (λr hr=>Nb r (by simp [hr])) I (by simp only [nd];lia) (D.weak (by walk_at "sub") ‹()›)
  intro _;left;refine' if3 ?gh3 ?gi3 ?gk3 ?gn3
  case gh3=>
   intro z;left;exact z
  case gi3=>
   intro z;left;exact z
  case gk3=>
   intro c1 C c3;have C:=Qw C;rw [Qa] at C;left;obtain ⟨ls,ra,s,rfl⟩:=two rs ⋯;have I:=Nb ra (by simp);have ob:=Nb s (by simp);have nn:ndS (ls++[ra,s])=ndS ls+nd ra+nd s:=by rw [show ls++[ra,s]=ls++[ra]++[s] by simp,Yv,Yv]
   refine oU O (by right) λq3 H3 e3 A=>?_;rw [show qb ((ls++[ra,s]).map Rl.shape) none (some (-2))=ls.map Rl.shape by rw [QT];exact nv _ _ _] at A;left;refine YN A (by right) (at2 ls ra s).1 λw4 M=>?_;left;refine YN M (by right) (at2 ls ra s).2 λw5 T=>?_;left;rename_i q6 H6 e6 L q7 H7 e7 D;refine .inl (ZS D (D.vwC (by right)) (D.vwC (by right)) (by have:=Vh ls;rw [Qa];show _+1<=1000;lia) λq8 H8 e8 S8=>?_);left;exact fin q8 ls (Rl.groups ra s) _ _ _ H8 (λr hr=>Nb r (by simp [hr])) ⟨⟨I.1,ob.1⟩,λz=>absurd (z▸c3:false=true) nofun⟩ (by simp only [nd];lia) (S8.weak (by walk_at "sub") ‹()›)
  intro _;left;refine' if2 ?gh4 ?gk4 ?gn4
  case gh4=>
   intro z;left;exact z
  case gk4=>
   intro c1 C;have C:=Qw C;rw [Qa] at C;left;obtain ⟨ls,ra,s,rfl⟩:=two rs ⋯;have I:=Nb ra (by simp);have ob:=Nb s (by simp);have nn:ndS (ls++[ra,s])=ndS ls+nd ra+nd s:=by rw [show ls++[ra,s]=ls++[ra]++[s] by simp,Yv,Yv]
   refine oU O (by right) λq3 H3 e3 A=>?_;rw [show qb ((ls++[ra,s]).map Rl.shape) none (some (-2))=ls.map Rl.shape by rw [QT];exact nv _ _ _] at A;left;refine FQ A λwp Hp t b sm ep Sp=>?_;left;refine YN Sp (by right) (at2 ls ra s).1 λw4 M=>?_;left;refine YN M (by right) (at2 ls ra s).2 λw5 T=>?_;left;rename_i q6 H6 e6 L q7 H7 e7 D;refine .inl (ZS D (D.vwC (by right)) (D.vwC (by right)) (by have:=Vh ls;rw [Qa];show _+1<=1000;lia) λq8 H8 e8 S8=>?_);left;exact fin q8 ls (Rl.upto t b ra s) _ _ _ H8 (λr hr=>Nb r (by simp [hr])) ⟨⟨sm.ps,I.1,ob.1⟩,λz=>⟨I.2 z,ob.2 z⟩⟩ (by simp only [nd];lia) (S8.weak (by walk_at "sub") ‹()›)
  intro _;left;refine FV O λw3 H3 n e3 A=>?_;left;refine yR A .mm (by rw [Qa];lia) λH4 M=>?_;left;exact fin p rs (nr n) _ _ _ H4 Nb ⟨(DU n).1,λ_=>Kx n⟩ (by rw [(DU n).2];lia) (M.dat ‹()›)
 ·rintro σ H2 cs ds ⟨rs,p,Z,Y,X,rfl,rfl,rfl,Nb,Rh⟩ O
  rw [Qa] at Rh;have ll:=Vh rs;left;rw [Qa];refine Yh (λc1=>?_) (λc1=>?_)
  ·left;exact jQ (r:= .halves) (by assumption) k .mm ⟨⟨0,1,λt=>JOk.of (r:= .halves) trivial nofun,nofun,nofun⟩,λ_=>trivial⟩
  obtain ⟨ls,y,rfl⟩:=one rs ⋯;have nn:=Yv ls y;left;refine nU (λm σ cs ds=>∃(ls:List Rl) (y:Rl) (p:Addr) (j N:Nat),σ=[some v,some (.bl g),some (.ref p),Z,Y,X]/\cs=[(p,(ls++[y]).map Rl.shape)]/\ds=[(Zb ns,v)]/\(∀r∈ls,PSG g r)/\((∀t,JOk t j N y)/\(g=false->NG y))/\j+ls.length<=5/\N+ndS ls<=6/\m=ls.length) _ O ⟨ls,y,p,0,nd y,rfl,rfl,rfl,λr hr=>Nb r (by simp [hr]),⟨λt=>JOk.of (Nb y (by simp)).1 ⋯,(Nb y (by simp)).2⟩,by rw [QA,TH] at ll;lia,⋯,rfl⟩ ?_;clear Nb Rh O ll nn c1
  rintro m σ H3 cs ds ⟨ls,y,p,j,N,rfl,rfl,rfl,Nb,hy,hj,hN,rfl⟩ A
  left;rw [Qa,QA,TH];refine vU (λc=>?_) (λc=>?_)
  ·have c:0<ls.length:=by
    have:=Qw c;lia
   obtain ⟨ls,ra,rfl⟩:=one ls c;have I:=Nb ra (by simp);have nn:=Yv ls ra;have pa:=gC ra;have ll:=Vh ls;rw [QA,TH] at hj;rw [show ls++[ra]++[y]=ls++[ra,y] by simp] at A;have hb:(((ls++[ra,y]).map Rl.shape).length:Int)=ls.length+2:=by rw [Qa,QA];rfl
   left;refine oU A (by right) λq4 H4 e4 M=>?_;rw [show qb ((ls++[ra,y]).map Rl.shape) none (some (-2))=ls.map Rl.shape by rw [QT];exact nv _ _ _] at M;left;rename_i q5 H5 e5 T;rw [hb] at T;refine YN T (by right) (at2 ls ra y).1 λw6 L=>?_;left;refine YN L (by right) (at2 ls ra y).2 λw7 D=>?_;left;rename_i q8 H8 e8 S8 q9 H9 e9 S9;refine .inl (ZS S9 (S9.vwC (by right)) (S9.vwC (by right)) (by rw [Qa];show _+1<=1000;lia) λqa Ha ea Sa=>?_);left;have po:Vt 1 (1+((ls.length:Int)+2)):=⟨⟨by unfold Sz;lia,by unfold Sz;lia⟩,⋯,⋯,Int.gcd_one_left _⟩;refine ⟨ls.length,by simp,_,_,Sa.weak (cs':=[(qa,ls.map Rl.shape++[(Rl.upto 1 (1+((ls.length:Int)+2)) ra y).shape])]) (ds':=[(Zb ns,v)]) (by walk_at "sub") ‹()›,ls,_,qa,j+1,nd ra+N,rfl,by rw [QT];rfl,rfl,λr hr=>Nb r (by simp [hr]),⟨λt=>JOk.join po (Iw ⋯ ⋯) (JOk.of I.1 ⋯) (hy.1 t),λz=>⟨I.2 z,hy.2 z⟩⟩,⋯,⋯,rfl⟩
  ·have c:ls=[]:=by
    have:=of_decide_eq_false c;exact List.length_eq_zero_iff.mp ⋯
   subst c;left;refine YN A (by right) rfl λw4 M=>?_;exact jQ M k .mm ⟨⟨j,N,hy.1,⋯,⋯⟩,hy.2⟩
abbrev UA:Stmt:=top 84
def oF:FnScope ["_law_whole_here","_law_cell","_law_kind","_law_number"] paI (zu UA):=xA
def CK (O:Cal P w K mg base CX0 2 "_law_lowest" pau Wl):Coo P w K mg base "_law_purse" UA 3 paI lj:=by
 walk_at "-oF";obtain ⟨G,g,c,rfl,I,⟨u,q⟩,k⟩:=h;have S:Sta H G H [] []:=Sta.enter I λp hp=>absurd hp Qp;have good:∀(i j:Int),0<=i->0<j->Sz 300 i->Sz 300 j->0<=Rat.divInt i j/\SzQ 300 (Rat.divInt i j):=λi j D M z1 z2=>⟨Rat.divInt_nonneg D ⋯,SzQ.divInt z1 z2 ⋯⟩;have A:g+3≠0:=⋯
 have z:2*g+5≠0:=⋯
 have N:g<2 ^ 180:=by unfold Sz at q;lia
 have t:(0:Int)<10 ^ Int.toNat 12:=by decide
 walk_at "=ek2Da1dek3Ma1demqtna2dlfisbYa3Ba0dbdcoemqtna2dlfihba0bdcoemqtna2dlfihbYa3Brda0dbdcoemqtna2dlfihbra0Da3dbdcofihbYa3rBa0d7ddb7ddc";left;refine Yh (λ_=>?_) (λ_=>?_)
 ·left;rename_i J H1 s m;have e:=Th (c / 5) (show 0<=g+3 by lia);have m1:=jam (c / 5) A;have m2:=jaa (c / 5) (show 0<g+3 by lia);rw [<-e] at m1 m2;have C:PyData.tuple [.int ((c / 5).fmod (g+3)), .int 1]=frD (((c / 5).fmod (g+3):Int):Rat):=rfl;rw [C] at m;exact fU m k .mm ⟨cg m1,by show Sz 300 ((c / 5).fmod (g+3));unfold Sz;lia,by show Sz 300 1;unfold Sz;decide⟩ ((DQ.int _).mono nofun)
 left;refine Yh (λ_=>?_) (λ_=>?_)
 ·left;refine Zt S nofun (by unfold Sz;decide+kernel) λr H1 s m=>?_;exact fU m k .mm (good _ _ u nofun (q.mono nofun) (by unfold Sz;decide)) (uP nofun nofun)
 left;refine Yh (λ_=>?_) (λ_=>?_)
 ·left;have e:=Th (c / 5) (show 0<=2*g+5 by lia);have m1:=jam (c / 5) z;have m2:=jaa (c / 5) (show 0<2*g+5 by lia);rw [<-e] at m1 m2;refine Zt S nofun (by unfold Sz;decide+kernel) λr H1 s m=>?_;exact fU m k .mm (good _ _ m1 nofun (by unfold Sz;lia) (by unfold Sz;decide)) (uP nofun nofun)
 left;refine Yh (λ_=>?_) (λ_=>?_)
 ·have o:IntMulOk g (c / 5 % 1009):=q.mulOk (n:=10) (by unfold Sz;lia) nofun;left;refine Zt S nofun (by unfold Sz;decide+kernel) λr H1 s m=>?_;exact fU m k .mm (good _ _ (Int.mul_nonneg u ⋯) nofun ((q.mul (n:=10) (by unfold Sz;lia)).mono nofun) (by unfold Sz;decide)) (uP nofun nofun)
 have z1:Sz 181 (g+1):=by unfold Sz;lia
 have z2:Sz 60 ((10:Int) ^ Int.toNat 12):=by unfold Sz;decide
 have L:IntMulOk (g+1) (10 ^ Int.toNat 12):=z1.mulOk z2 nofun;have zz:=z1.mul z2;have pp:0<(g+1)*(10:Int) ^ Int.toNat 12:=Int.mul_pos ⋯ t;have y:(g+1)*(10:Int) ^ Int.toNat 12≠0:=⋯
 have e:=Th (c / 5) (show 0<=(g+1)*(10:Int) ^ Int.toNat 12 by lia);have m1:=jam (c / 5) y;have m2:=jaa (c / 5) pp;rw [<-e] at m1 m2;left;refine Zt S t (z2.mono nofun) λr H1 s m=>?_;exact fU m k .mm (good _ _ m1 t ((Uq m1 (jbp m2) zz).mono nofun) (z2.mono nofun)) (uP t nofun)
local macro_rules|`(tactic|walk_at "rd")=>`(tactic|first|fail "&184"|fail)
section
variable {A:RAd}
abbrev Yo:Stmt:=top 24
def bj:FnScope ["claims","parts","claim","part"] ["claims","parts"] (zu Yo):=xA
def ok_dv0 (B:Bl mg) (X:Cal P w K mg base CX0 1 "before" pab UX):Coo P w K mg base "check_division" Yo 2 ["claims","parts"] Jk:=by
 walk_at "-bj";obtain ⟨⟨l,ps⟩,I,⟨r,q,few,good⟩,k⟩:=h;obtain ⟨v,v1,rfl,al⟩:=xC I;dsimp only at r q few good al;have S:Sta H H H [] [(zo l,v),(.list (ps.map frD),v1)]:=Sta.enter (zV.refl _) al;walk_at "=emqRnxba1cxba0cl#ofF*ba0ba1cHyA2yA3IfmKOVg3dl1Ghbsbg2bdcba3c#o";left;refine DE (by rw [Qa,Qa,good.1]) ?_;left;refine VG S .mm .mm λJ C=>?_;refine xX C (λi σ cs ds=>(∃x y,σ=[some v,some v1,x,y])/\cs=[]/\ds=[(zo l,v),(.list (ps.map frD),v1)]) S ⟨⟨none,none,rfl⟩,rfl,rfl⟩ (λi σ cs ds h=>?_) ?_ ?_
 ·obtain ⟨_,rfl,rfl⟩:=h;exact ⟨.mem (by right),λ_ _ h=>h.tail, .mem (by right)⟩
 ·rintro i z u σ H5 cs ds hz ⟨⟨x4,x5,rfl⟩,rfl,rfl⟩ S5
  obtain ⟨z1,z2,M,L,rfl⟩:=Yk hz;obtain ⟨c,s,rfl⟩:=zN M;obtain ⟨p,hp,rfl⟩:=zN L;have N:=r c (Qc s);have pz:=q p (Qc hp);have g:=good.2 i c p s hp;have T:=Rat.num_nonneg.mpr g.1;refine xN (xM S5 .mm λG D t=>?_);have Y:Sta H H H5 [] [(frD p,D),(zJ c,G),(zo l,v),(.list (ps.map frD),v1)]:=t.dat ‹()›;clear t S5;left;refine Yh (λz=>absurd z ⋯) (λz1=>?_);left;rename_i O Z U m;rw [show PyData.tuple [.int c.1, .int 1]=frD ((c.1:Int):Rat) from rfl] at m;refine fW (p:=((c.1:Int):Rat)) m .mm .mm ⟨N,show Sz 160 1 by unfold Sz;decide⟩ pz nofun ?_;left;refine Yh (λz=>absurd z (Ti.mpr g.2)) (λz2=>?_);left;exact Zu (m.dat ‹()›) ⟨⟨_,_,rfl⟩,rfl,rfl⟩
 ·rintro σ H5 cs ds ⟨⟨x4,x5,rfl⟩,rfl,rfl⟩ S5
  left;exact k _ S5.base
abbrev bt:Stmt:=top 23
def rl:FnScope ["rule","claims","parts","i","j","together","alone"] paV (zu bt):=xA
def Gp {fS fT Ru fQ:Addr} {X:FuncData} {n:Nat} (B:Bl mg) (Mz:∀r:Rl,ROk K fS fT Ru (A.cls r)) (Oh:∀r:Rl,Meth K (A.cls r) "parts" fQ) (jI:Cal P w K mg base CX0 1 "check_claims" pas lB) (AU:Cal P w K mg base CX0 2 "check_division" ["claims","parts"] Jk) (dg:Cal P w K mg base CX0 3 "plus" pab om) (Vx:FnOk P w K mg base CX0 (2*n+10) fQ X pam (dW A 33 n)) (Xg:xp K X pam []):Coo P w K mg base "pair_off" bt (2*n+11) paV (qS A n):=by
 walk_at "-rl";obtain ⟨G,r,l,ps,eG,hA,⟨ru,dp,_,den,Mw,dv⟩,k1,k2⟩:=h;obtain ⟨v0,v1,v2,rfl,al⟩:=ZA hA;have S:Sta H G H [] [(r.ins A,v0),(zo l,v1),(.list (ps.map frD),v2)]:=Sta.enter eG al;have ok:=Mw.ok nofun;have few:=ok.few;have hl:=dv.good.1;walk_at "=eEhba1ceEhba1ba2ceF!bxba1ccA3fFβbBa3dbxba1ccA4ek5hbja2a3bja2a4cek6γa0δbCbja1a3bja1a4cba5cfmqRna6sbja2a3bja2a4clfisba3ba4bg6bg6cofi(";left;refine ua S .mm ok λH1 e1 S1=>?_;left;refine rd_dv0 S1 .mm .mm ⟨λc U=>ok.sz c U,dv.sz,few,dv.good⟩ λH2 e2 S2=>?_;left;rw [Qa];refine oZ H G ⋯ ⋯ λJ wk=>?_;refine xX wk (λi σ cs ds=>(∃x3 L I D,σ=[some v0,some v1,some v2,x3,L,I,D])/\cs=[]/\ds=[(r.ins A,v0),(zo l,v1),(.list (ps.map frD),v2)]/\∀m g,m<g->g<l.length->m<i->Rt r l ps m g) S2 ⟨⟨_,_,_,_,rfl⟩,rfl,rfl,λm g _ _ h=>absurd h (Nat.not_lt_zero _)⟩ (λ_ _ _ _ _=>trivial) ?_ ?_
 ·rintro i x u σ H3 cs ds hx ⟨⟨x3,L,I,D,rfl⟩,rfl,rfl,inv⟩ O
  obtain ⟨hi,rfl⟩:=Yf hx;cases O.int1;have O:=O.drop1;have hi:i<l.length:=⋯
  left;rw [Qa];refine Io H G ⋯ ⋯ λJ2 NA=>?_;refine xX NA (λj σ cs ds=>(∃L I D,σ=[some v0,some v1,some v2,some (.int (0+(i:Int))),L,I,D])/\cs=[]/\ds=[(r.ins A,v0),(zo l,v1),(.list (ps.map frD),v2)]/\∀g,i<g->g<l.length->g<i+1+j->Rt r l ps i g) O ⟨⟨_,_,_,rfl⟩,rfl,rfl,λg _ _ h=>absurd h ⋯⟩ (λ_ _ _ _ _=>trivial) ?_ ?_
  ·rintro j x u σ H4 cs ds hx ⟨⟨L,I,D,rfl⟩,rfl,rfl,inv2⟩ N
   obtain ⟨hj,rfl⟩:=Yf hx;cases N.int1;have N:=N.drop1;have jl:i+1+j<l.length:=⋯
   have ME:i<i+1+j:=⋯
   have U:=Qb hi;have hd:=Qb jl;have n1:(0:Int)+(i:Int)=((i:Nat):Int):=⋯
   have n2:(0:Int)+(i:Int)+1+(j:Int)=((i+1+j:Nat):Int):=⋯
   obtain ⟨p,hp,ep,p0,zp,_⟩:=dv.at' hi;obtain ⟨q,hq,eq,q0,zq,_⟩:=dv.at' jl;have s2:=dv.sum2 Mw ME jl;have ai:=al_iff ru Mw dv.good ME jl;have Z:=IL (v:=ps) ru Mw ME jl
   have alz:alP r l ps i (i+1+j)=zg (zQ r [l[i],l[i+1+j]]) (p+q):=by
    unfold alP zX;rw [ep,eq,Qk,Qk,TC,zG U,zG hd]
   have T:=Mw.two ME jl
   have ep2:zX (0,0,0) [i,i+1+j] l=[l[i],l[i+1+j]]:=by
    unfold zX;rw [Qk,Qk,TC,zG U,zG hd]
   rw [ep2] at T;rw [ep,eq] at s2 ai;have x1:atI (ps.map frD) (0+(i:Int))=some (frD p):=by rw [n1];exact zZ (by rw [Qg,hp];rfl)
   have x2:atI (ps.map frD) (0+(i:Int)+1+(j:Int))=some (frD q):=by rw [n2];exact zZ (by rw [Qg,hq];rfl)
   have y1:atI (l.map zJ) (0+(i:Int))=some (zJ l[i]):=by rw [n1];exact zZ (by rw [Qg,U];rfl)
   have y2:atI (l.map zJ) (0+(i:Int)+1+(j:Int))=some (zJ l[i+1+j]):=by rw [n2];exact zZ (by rw [Qg,hd];rfl)
   generalize l[i]=c at*;generalize l[i+1+j]=d at*;left;refine zW N .mm x1 λw5 S5=>?_;left;refine zW S5 .mm x2 λw6 S6=>?_;left;rename_i w7 H7 e7 S7;refine Cj S7 .mm (Mz r).cl (Oh r) (by decide+kernel) ?_;left;refine zW S7 .mm y1 λw8 S8=>?_;left;refine zW S8 .mm y2 λw9 S9=>?_;left;rename_i RU NU RJ MC;refine oX MC.freeze .mm .mm .mm ru dp T (s2.2.2.mono nofun) s2.1 λOS Oo OQ MN=>?_;rw [<-alz] at MN
   obtain ⟨x,y,Y⟩:∃x y,alP r l ps i (i+1+j)=[x,y]:=by
    rcases h:alP r l ps i (i+1+j) with _|⟨x,_|⟨y,_|⟨z,t⟩⟩⟩<;>rw [h] at Z<;>simp at Z
    exact ⟨x,y,rfl⟩
   rw [Y] at MN ai;have MH:Sta H G Oo [] [(.tuple [frD x,frD y],OS),(r.ins A,v0),(zo l,v1),(.list (ps.map frD),v2)]:=MN.dat ‹()›;clear S5 S6 S7 S8 S9 MC MN;left;refine zW MH .mm x1 λw13 MG=>?_;left;refine zW MG .mm x2 λw14 Nu=>?_;left;rename_i w15 PL SA Na;refine Ce (x:=yj [x,y]) (y:=yj [p,q]) (Na.hp .mm) (Na.hp .mm) (UZ _) (UZ _) ?_;rw [Ap];have Nt:Sta H G PL [] [(.tuple [frD x,frD y],OS),(r.ins A,v0),(zo l,v1),(.list (ps.map frD),v2)]:=Na.dat ‹()›;clear MH MG Nu Na;left;refine uz (λz=>?_) (λz=>?_)
   ·left;rename_i SJ Nz SI NM SH H19 e19 NL
    have f:FirstW r l ps i (i+1+j):=⟨ME,jl,λh=>z (ai.mpr h),λm g C s M=>by
     rcases M with M|⟨rfl,M⟩
     ·exact inv m g C s M
     ·exact inv2 g C s M⟩
    have hh:WG r l ps i (i+1+j)= .tuple [.int (0+(i:Int)), .int (0+(i:Int)+1+(j:Int)),frD x,frD y]:=by
     unfold WG;rw [Y,n2,n1];rfl
    have k3:=k2 i (i+1+j) f;rw [hh] at k3;exact Zc NL k3 .mm
   ·left;refine Zu (Nt.dat ‹()›) ⟨⟨_,_,_,rfl⟩,rfl,rfl,λg C s M=>?_⟩
    by_cases e:g=i+1+j
    ·rw [e];exact ai.mp z
    ·exact inv2 g C s ⋯
  ·rintro σ H4 cs ds ⟨⟨L,I,D,rfl⟩,rfl,rfl,inv2⟩ N
   left;refine Zu N ⟨⟨_,_,_,_,rfl⟩,rfl,rfl,λm g C s M=>?_⟩
   by_cases e:m=i
   ·subst e;exact inv2 g C s (by rw [yX];lia)
   ·exact inv m g C s ⋯
 ·rintro σ H3 cs ds ⟨⟨x3,L,I,D,rfl⟩,rfl,rfl,inv⟩ O
  left;exact k1 (λm g C s=>inv m g C s (by rw [yX];lia)) _ O.base
end
local macro_rules|`(tactic|walk_at "rd")=>`(tactic|first|fail "&186"|fail)
abbrev Uz:Stmt:=top 82
def oE:FnScope ["_law_shape_here","_law_claims_here","_law_purse_here","_law_parts","_law_by","_law_part","_law_told","_law_due"] paf (zu Uz):=xA
def CI {t:Nat} (B:Bl mg) (AK:Cal P w K mg base CX0 2 "_law_is_fraction" pay Bv) (Yz:Cal P w K mg base CX0 1 "_law_divisor" pal fo) (xW:Cal P w K mg base CX0 26 "_law_fits" paa (Wm 12)):Coo P w K mg base "_law_right" Uz 27 paf (kZ t):=by
 walk_at "-oE";obtain ⟨⟨r,l,e⟩,hA,⟨⟨⟨pl,Px⟩,Y⟩,G,e0,X⟩,k⟩:=h;obtain ⟨v0,v1,v2,I,rfl,al⟩:=Kr hA;dsimp only at pl Px Y G e0 al X;have ok:=Y.ok pl.ht;have S:Sta H H H [] [(r.shape,v0),(zo l,v1),(frD e,v2),(yj (zg (zQ r l) e),I)]:=Sta.enter (zV.refl _) al;have g:=(pl.gf (l:=l) Y).good;have hlen:(zg (zQ r l) e).length=l.length:=g.std.len;have key:=λB (hB:0<B) de hd=>Af (B:=B) (e:=e) g hB e0 de hd;have few:=ok.few;generalize zg (zQ r l) e=ps at*;have hv:=S.hp (x:=yj ps) (v:=I) .mm;walk_at "=emKOQG=ba3b_tuple;c1qRnxba3cxba1clfiJoek4g2eF%a3A5emQGhba5cfiJofk4rWa4hba4bg5cg5eN6_law_part,_law_by;14;%a3p0urg0Wa1g0ek7:гbrg2Wa4g2bra4TUbz_law_claim;1;va1p0ug0ccemqRnTUba6ca7lfiJofihba0bz_law_claim,_law_by;14;va1p0usbra1g0bg0bg0cba6c";left;refine DE (by rw [Qa,Qa,hlen]) ?_;left;refine mB (xs:=ps.map frD) S .mm λJ wk=>?_
 refine xX wk (λi σ cs ds=>∃(b:Int) (O N M:Option V),σ=[some v0,some v1,some v2,some I,some (.int b),O,N,M]/\cs=[]/\ds=[(r.shape,v0),(zo l,v1),(frD e,v2),(yj ps,I)]/\0<b/\Sz (6800+i*8900) b/\(e.den:Int)∣b/\∀j p,j<i->ps[j]? =some p->(p.den:Int)∣b) S
  ⟨(e.den:Int),none,none,none,rfl,rfl,rfl,den_pos e,G.2.mono ⋯,⟨1,by rw [jbN]⟩,λj p D=>absurd D (Nat.not_lt_zero _)⟩ (λi σ cs ds h=>?_) ?_ ?_
 ·obtain ⟨_,_,_,_,_,_,rfl,_⟩:=h;exact .mem (by right)
 ·rintro i x u σ H2 cs ds m ⟨b,O,N,M,rfl,rfl,rfl,b0,s,de,hd⟩ S2
  obtain ⟨p,hp,rfl⟩:=zN m;have y:=X p (Qc hp);have L:=den_pos p;have st:=mY b0 L;left;refine JH S2 .mm λH3 S3=>?_;have gp:0<Int.gcd b (p.den:Int):=jaw b ⋯
  have z:CDv b ((Int.gcd b (p.den:Int):Nat):Int):=⟨⋯,by
   refine (Sz.le y.2 ?_).mono nofun;have:=Nat.le_of_dvd ⋯ (jbT b (p.den:Int))
   lia⟩
  have qn:0<=b.fdiv ((Int.gcd b (p.den:Int):Nat):Int):=by
   rw [QV _ ⋯];exact Int.ediv_nonneg ⋯ ⋯
  have ql:b.fdiv ((Int.gcd b (p.den:Int):Nat):Int)<=b:=by
   rw [QV _ ⋯];exact Int.ediv_le_self _ ⋯
  have Z:=Uq qn ql s;have hi:i<ps.length:=(Qd.mp hp).1;have o:IntMulOk (b.fdiv ((Int.gcd b (p.den:Int):Nat):Int)) (p.den:Int):=Z.mulOk y.2 ⋯;left;refine Zu ((by assumption:Sta H H H3 [] _).dat ‹()›) ⟨_,_,_,_,rfl,rfl,rfl,st.1,(Z.mul y.2).mono ⋯,Int.dvd_trans de st.2.1,λj q D U=>?_⟩
  by_cases Rn:j<i
  ·exact Int.dvd_trans (hd j q Rn U) st.2.1
  ·have:j=i:=⋯
   subst this;rw [hp] at U;cases U;exact st.2.2
 rintro σ H2 cs ds ⟨b,O,N,M,rfl,rfl,rfl,b0,s,de,hd⟩ S2
 rw [Qa,hlen] at s;have s:Sz 80000 b:=s.mono ⋯
 have ON:∀p∈ps,(p.den:Int)∣b:=λp hp=>by
  obtain ⟨j,D,rfl⟩:=QI hp;exact hd j _ (by rw [Qa];exact D) (Qb D)
 obtain ⟨ks,T⟩:=key b b0 de ON
 have dq:∀d:Int,0<d->0<=b.fdiv d/\b.fdiv d<=b:=λd Ry=>by
  rw [QV _ ⋯];exact ⟨Int.ediv_nonneg ⋯ ⋯,Int.ediv_le_self _ ⋯⟩
 left;refine mB (xs:=ps.map frD) S2 .mm λJ3 Nv=>?_;refine yr Nv (λj=> .int ((tkV b ps).getD j 0)) (ys:=(tkV b ps).map PyData.int) (by rw [Qa,show ps.length=(tkV b ps).length by unfold tkV;rw [Qa]];exact zE (λx=>PyData.int x) 0 _) S2 (λj x v=>λm t1 S hd=>?_) λD4 H4 e4 S4=>?_
 ·obtain ⟨p,hp,rfl⟩:=zN m;have y:=X p (Qc hp);have L:=den_pos p;have z:CDv b (p.den:Int):=⟨⋯,y.2.mono nofun⟩;have o:IntMulOk p.num (b.fdiv (p.den:Int)):=y.1.mulOk (Uq (dq _ L).1 (dq _ L).2 s) nofun;refine zI ⟨rfl,?_⟩;left;refine hd (by assumption) ?_;rw [zG (show (tkV b ps)[j]? =some (p.num*b.fdiv (p.den:Int)) by unfold tkV;rw [Qg,hp];rfl)];exact Has.int
 have S5:=S4.freeze;have ed:=den_pos e;have Py:CDv b (e.den:Int):=⟨⋯,G.2.mono nofun⟩;have o1:IntMulOk e.num (b.fdiv (e.den:Int)):=G.1.mulOk (Uq (dq _ ed).1 (dq _ ed).2 s) nofun;have o2:IntMulOk b (amV l).sum:=s.mulOk ok.am.sum.2 nofun;left;refine zP (xs:=l.map zJ) (by assumption) .mm λJ6 SF=>?_;refine yr SF (λj=> .int (l.getD j (0,0,0)).1) (ys:=(amV l).map PyData.int) (by unfold amV;rw [Qa,Qm];exact zE (λc:Cl=>PyData.int c.1) (0,0,0) l) (by assumption) (λj x v=>λm t1 S hd=>?_) λD6 H6 e6 S6=>?_
 ·obtain ⟨c,z,rfl⟩:=zN m;refine zI ⟨rfl,?_⟩;left;refine hd (by assumption) ?_;rw [zG z];exact Has.int
 left;refine DE ks ?_;have S7:=S6.freeze;left;refine zP (xs:=l.map zJ) S7 .mm λJ8 Oq=>?_
 refine yt Oq (λj=>zJ ((λc:Cl=>((b*c.1,c.2):Cl)) (l.getD j (0,0,0)))) (ys:=(zO b l).map zJ) (by
  unfold zO;rw [Qm,Qa];exact zE (λc:Cl=>zJ ((b*c.1,c.2):Cl)) (0,0,0) l) S7 (λ_ _=> .mem (by right)) (by rw [Qa];lia) (λj x v B' G' Kd Kn m t1 S hd C ex s0 H0=>?_) λD8 H8 e8 S8=>?_
 ·obtain ⟨c,z,rfl⟩:=zN m;have o:IntMulOk b c.1:=s.mulOk (ok.sz c (Qc z)) nofun;refine zI ⟨rfl,?_⟩;left;refine hd (by assumption) ?_;rw [zG z];exact .mem (by right)
 left
 have A:∀x∈amV (zO b l),Sz (100000 - 300*12) x:=λx m=>by
  rw [xE] at m;obtain ⟨a,ha,rfl⟩:=Qi.mp m;exact (s.mul (ok.am.2 a ha).2).mono nofun
 refine Ya (r:=r) (l:=zO b l) (tk:=tkV b ps) S8.freeze .mm .mm .mm (by exact ⟨pl.pok,Px,nofun,by rw [yQ];exact few,A,T.len,λx m=>((T.inB.inS (by rw [yf,yQ];exact few) A).1.2 x m).2⟩) λH9 e9 S9=>?_;rw [XO.mpr T];exact k _ S9.base
section
variable {A:RAd}
abbrev YI:Stmt:=top 86
def dk:FnScope ["_law_shape_here","_law_claims_here","_law_parts","_law_i","_law_j","_law_ones","_law_by","_law_told","_law_some"] pag (zu YI):=xA
def JT (Yz:Cal P w K mg base CX0 1 "_law_divisor" pal fo) (xW:Cal P w K mg base CX0 26 "_law_fits" paa (Wm 12)):Coo P w K mg base "_law_two_right" YI 27 pag Bu:=by
 walk_at "-dk";obtain ⟨⟨⟨r,l,ps⟩,i,j⟩,hA,⟨⟨ru,_,dep,_,Mw,dv⟩,ME,jl⟩,k⟩:=h;obtain ⟨v0,v1,v2,v3,v4,rfl,al⟩:=isAll5 hA;dsimp only at ru dep Mw dv ME jl al k;have X:Sta H H H [] [(.int (j:Int),v4),(.int (i:Int),v3),(r.shape,v0),(zo l,v1),(.list (ps.map frD),v2)]:=(Sta.enter (zV.refl _) al).dat ‹()›;cases X.int1;have U:=X.drop1;cases U.int1;have S:=U.drop1;clear X U;have il:i<l.length:=⋯
 have ok:=Mw.ok nofun;have I:=Qb il;have hd:=Qb jl;obtain ⟨p,hp,ep,p0,zp,_⟩:=dv.at' il;obtain ⟨q,hq,eq,q0,G,_⟩:=dv.at' jl
 have e2:zX (0,0,0) [i,j] l=[l[i],l[j]]:=by
  unfold zX;rw [Qk,Qk,TC,zG I,zG hd]
 have e3:zX 0 [i,j] ps=[p,q]:=by
  unfold zX;rw [Qk,Qk,TC,ep,eq]
 have zc:=ok.sz _ (Qc I);have zd:=ok.sz _ (Qc hd);have x1:atI (ps.map frD) (i:Int)=some (frD p):=zZ (by rw [Qg,hp];rfl);have x2:atI (ps.map frD) (j:Int)=some (frD q):=zZ (by rw [Qg,hq];rfl);have y1:atI (l.map zJ) (i:Int)=some (zJ l[i]):=zZ (by rw [Qg,I];rfl);have y2:atI (l.map zJ) (j:Int)=some (zJ l[j]):=zZ (by rw [Qg,hd];rfl)
 have rt:∀B:Int,0<B->(∀x∈[p,q],(x.den:Int)∣B)->rtB r l ps i j=Ud r (zO B [l[i],l[j]]) (tkV B [p,q]):=λB b0 hd=>by
  refine jbC.mpr (Jq.trans (Iff.trans ?_ (XO.symm)));unfold Rt;rw [e2,e3];exact (uL b0 rfl hd).symm
 generalize l[i]=c at*;generalize l[j]=d at*;have s:=den_pos p;have qd:=den_pos q;have st:=mY s qd;have gp:0<Int.gcd (p.den:Int) (q.den:Int):=jaw _ ⋯
 have My:CDv (p.den:Int) ((Int.gcd (p.den:Int) (q.den:Int):Nat):Int):=⟨⋯,by
  refine (Sz.le G.2 ?_).mono nofun;have:=Nat.le_of_dvd ⋯ (jbT (p.den:Int) (q.den:Int))
  lia⟩
 have qn:0<=(p.den:Int).fdiv ((Int.gcd (p.den:Int) (q.den:Int):Nat):Int):=by
  rw [QV _ ⋯];exact Int.ediv_nonneg ⋯ ⋯
 have ql:(p.den:Int).fdiv ((Int.gcd (p.den:Int) (q.den:Int):Nat):Int)<=(p.den:Int):=by
  rw [QV _ ⋯];exact Int.ediv_le_self _ ⋯
 have zl:=Uq qn ql zp.2;have o0:IntMulOk ((p.den:Int).fdiv ((Int.gcd (p.den:Int) (q.den:Int):Nat):Int)) (q.den:Int):=zl.mulOk G.2 nofun;walk_at "=ek5Cbja2a3bja2a4cek6rWjg5dhbjg5dbjg5dcjg5deN7_law_one,_law_by;16;va5p0urg0Wa1g0eN8_law_k,_law_claims_here,_law_by;116;%sba3ba4cp0usbra2jja1a0dbjja1a0dbjja1a0dcfihba0ba8ba7c";left;refine zW S .mm x1 λw5 N=>?_;left;refine zW N .mm x2 λw6 M=>?_;left;rename_i p7 H7 e7 y;have L:Sta H H H7 [] [(.list ([p,q].map frD), .ref p7),(r.shape,v0),(zo l,v1),(.list (ps.map frD),v2)]:=y.freeze.dat ‹()›;clear y M N S;refine zW L .mm rfl λw9 J=>?_;left;have Y:Sta H H H7 [] [(.list ([p,q].map frD), .ref p7),(r.shape,v0),(zo l,v1),(.list (ps.map frD),v2)]:=J.dat ‹()›;clear L J;have u:=(zl.mul G.2).mono (show 4499+4499<=9000 by decide);generalize (p.den:Int).fdiv ((Int.gcd (p.den:Int) (q.den:Int):Nat):Int)*(q.den:Int)=D at*
 have ON:∀x∈[p,q],(x.den:Int)∣D:=λx g=>by
  rcases Qn.mp g with rfl|g
  ·exact st.2.1
  ·rw [Qq.mp g];exact st.2.2
 have Z:∀x∈[p,q],SzQ 4499 x:=λx g=>by
  rcases Qn.mp g with rfl|g
  ·exact zp
  ·rw [Qq.mp g];exact G
 have dq:∀d:Int,0<d->0<=D.fdiv d/\D.fdiv d<=D:=λd Ry=>by
  have:=st.1;rw [QV _ ⋯];exact ⟨Int.ediv_nonneg ⋯ ⋯,Int.ediv_le_self _ ⋯⟩
 refine zP Y .mm λJ3 Nv=>?_;refine yt Nv (λj=> .int ((tkV D [p,q]).getD j 0)) rfl Y (λ_ _=> .mem (by right)) (by show 2<=1000;decide) (λj x v B' G' Kd Kn g t1 S hd C ex s0 H0=>?_) λD4 H4 e4 T=>?_
 ·obtain ⟨z,t,rfl⟩:=zN g;have zz:=Z z (Qc t);have s:=den_pos z;have I:CDv D (z.den:Int):=⟨⋯,zz.2.mono nofun⟩;have o:IntMulOk z.num (D.fdiv (z.den:Int)):=zz.1.mulOk (Uq (dq _ s).1 (dq _ s).2 u) nofun;refine zI ⟨rfl,?_⟩;left;refine hd (by assumption) ?_;rw [zG (show (tkV D [p,q])[j]? =some (z.num*D.fdiv (z.den:Int)) by unfold tkV;rw [Qg,t];rfl)];exact Has.int
 have N:=T.freeze;clear T Y;left;rename_i p6 H6 e6 M;have y:Sta H H H6 [] [(.tuple ([i,j].map λ(k:Nat)=>PyData.int (k:Int)), .ref p6),(Zb (tkV D [p,q]), .ref D4),(r.shape,v0),(zo l,v1),(.list (ps.map frD),v2)]:=M.dat ‹()›;clear M N;refine mB y .mm λJ8 Oq=>?_;refine yt Oq (λn=>zJ ((zO D [c,d]).getD n (0,0,0))) rfl y (λ_ _=> .mem (by right)) (by show 2<=1000;decide) (λn x v B' G' Kd Kn g t1 S hd C ex s0 H0=>?_) λD8 H8 e8 L=>?_
 ·obtain ⟨m,hm,rfl⟩:=zN g;cases S.int1
  obtain ⟨z,t,O,zz⟩:∃z:Cl,[c,d][n]? =some z/\atI (l.map zJ) (m:Int)=some (zJ z)/\Sz 160 z.1:=by
   match n,hm with
   |0,hm=>cases hm;exact ⟨c,rfl,y1,zc⟩
   |1,hm=>cases hm;exact ⟨d,rfl,y2,zd⟩
  have o:IntMulOk D z.1:=u.mulOk zz nofun;refine zI ⟨rfl,?_⟩;left;refine zW S .mm O λw2 S2=>?_;left;refine zW S2 .mm O λw3 S3=>?_;left;refine zW S3 .mm O λw4 T=>?_;left;refine hd (by assumption) ?_;rw [zG (show (zO D [c,d])[n]? =some (D*z.1,z.2) by unfold zO;rw [Qg,t];rfl)];exact .mem (by right)
 left;rw [rt D st.1 ON] at k;refine Ya (r:=r) (l:=zO D [c,d]) (tk:=tkV D [p,q]) L.freeze .mm .mm .mm ⟨ru.pok,dep,nofun,by show 2<=8;decide,λx g=>?_,rfl,λx g=>?_⟩ λH9 e9 J=>?_
 ·rw [xE] at g;have g:x∈[D*c.1,D*d.1]:=g
  rcases Qn.mp g with rfl|g
  ·exact (u.mul zc).mono nofun
  ·rw [Qq.mp g];exact (u.mul zd).mono nofun
 ·obtain ⟨z,t,rfl⟩:=Qi.mp g;have s:=den_pos z;exact ((Z z t).1.mul (Uq (dq _ s).1 (dq _ s).2 u)).mono nofun
 ·exact k _ J.base
abbrev bx:Stmt:=top 87
def rm:FnScope ["_law_shape_here","_law_claims_here","_law_parts","_law_found","_law_wrong","_law_i","_law_j","_law_one","_law_two","_law_top","_law_purse_here"] pah (zu bx):=xA
def JEn {n:Nat} {K:Frg} {t:TGs} {σ:L2.St} {N:L2.St->Hp->Prop} {x y z r:PyData} (S:Sta B G0 H cs ds) (h:Has ds (.tuple [x,y,z,r]) v) (e:n=4) (k:∀q p m g,Sta B G0 H cs ((x,q)::(y,p)::(z,m)::(r,g)::ds)->t [q,p,m,g] σ H N):kGT K n t σ N v H:=by
 subst e;exact JE S h k
def wC (B:Bl mg) (ER:Cal P w K mg base CX0 27 "_law_two_right" pag Bu) (tq:Cal P w K mg base CX0 1 "_law_whole" pay kU) (VA:Cal P w K mg base CX0 2 "_law_lowest" pau Wl) (Le:Cal P w K mg base CX0 27 "_law_right" paf (kZ 33)):Coo P w K mg base "_law_pair" bx 28 pah fj:=by
 walk_at "-rm";obtain ⟨r,l,ps,v0,v1,v2,C,rfl,hA,pr,Pu,k⟩:=h;obtain ⟨_,_,_,e,al⟩:=ZA hA;cases e;have few:=(pr.cl.ok nofun).few
 obtain ⟨X,S⟩:∃X:PyData,Sta H H H [] [(X,C),(r.shape,v0),(zo l,v1),(.list (ps.map frD),v2)]/\((C= .non/\∀i j,i<j->j<l.length->Rt r l ps i j)\/∃i j,FirstW r l ps i j/\X=WG r l ps i j):=by
  rcases Pu with ⟨rfl,h⟩|⟨i,j,f,hv⟩
  ·exact ⟨.none,Sta.enter (zV.refl _) (al.cons (by rw [Is])), .inl ⟨rfl,h⟩⟩
  ·exact ⟨_,Sta.enter (zV.refl _) (al.cons hv), .inr ⟨i,j,f,rfl⟩⟩
 obtain ⟨S,Pu⟩:=S;walk_at "=ek4CceF!bxba1ccA5fFβbBa5dbxba1ccA6fmQGhba0ba1ba2ba5ba6cfEXa4bsba5ba6ccoemдa3(lfi-tnxba4cdloemKOQG=ba3b_tuple;cOqRnxba3cdl1qtnxba4cdlfiJoe>a3HyA5yA6yA7yA8IemKOQGhba5cOQGhba6c1qRnsba5ba6cg4lfiJoek9Brjja2a5djja2a6drjja2a6djja2a5dekahba9brjja2a5djja2a6dcfihba0bCbja1a5bja1a6cbaabsba7ba8cc";left;rename_i N H4 e4 S4;rw [Qa];refine oZ H H ⋯ ⋯ λJ wk=>?_;refine xX wk (λi σ cs ds=>∃(W:List (Nat×Nat)) (x5 I:Option V),σ=[some v0,some v1,some v2,some C,some (.ref N),x5,I,none,none,none,none]/\cs=[(N,W.map prD)]/\ds=[(X,C),(r.shape,v0),(zo l,v1),(.list (ps.map frD),v2)]/\IM r l ps (λm _=>m<i) W/\W.length<=8*i) S4 ⟨[],none,none,rfl,rfl,rfl, .inl ⟨rfl,λi j _ _ h=>absurd h (Nat.not_lt_zero _)⟩,Qu _⟩ (λ_ _ _ _ _=>trivial) ?_ ?_
 ·rintro i x u σ H5 cs ds hx ⟨W,x5,I,rfl,rfl,rfl,inv,wl⟩ G
  obtain ⟨hi,rfl⟩:=Yf hx;cases G.int1;have G:=G.drop1;have hi:i<l.length:=⋯
  left;rw [Qa];refine Io H H ⋯ ⋯ λJ2 NA=>?_;refine xX NA (λj σ cs ds=>∃(W:List (Nat×Nat)) (I:Option V),σ=[some v0,some v1,some v2,some C,some (.ref N),some (.int (0+(i:Int))),I,none,none,none,none]/\cs=[(N,W.map prD)]/\ds=[(X,C),(r.shape,v0),(zo l,v1),(.list (ps.map frD),v2)]/\IM r l ps (λm M=>m<i\/(m=i/\M<i+1+j)) W/\W.length<=8*i+j) G ⟨W,_,rfl,rfl,rfl,inv.imp λm M a b c=> .inl ⋯,⋯⟩ (λ_ _ _ _ _=>trivial) ?_ ?_
  ·rintro j x u σ H6 cs ds hx ⟨W,I,rfl,rfl,rfl,inv,wl⟩ s
   obtain ⟨hj,rfl⟩:=Yf hx;cases s.int1;have s:=s.drop1;have jl:i+1+j<l.length:=⋯
   have n1:(0:Int)+(i:Int)=((i:Nat):Int):=⋯
   have n2:(0:Int)+(i:Int)+1+(j:Int)=((i+1+j:Nat):Int):=⋯
   left;rw [n2,n1];refine Jt (i:=i) (j:=i+1+j) s .mm .mm .mm pr ⋯ jl λH7 e7 O=>?_;generalize hb:rtB r l ps i (i+1+j)=bb
   cases bb with
   |true=>
    left;refine Zu O ⟨W,_,rfl,rfl,rfl,inv.imp λm M a b c=>?_,⋯⟩
    by_cases z:m=i/\M=i+1+j
    ·rw [z.1,z.2];exact .inr (Jq.mp hb)
    ·exact .inl ⋯
   |false=>
    left;rename_i p8 H8 e8 S8;refine yR (y:=prD (i,i+1+j)) S8 (by unfold prD;rw [<-n2,<-n1];exact .mem (by right)) (by rw [Qa];lia) λH9 S9=>?_;left;refine Zu (S9.dat ‹()›) ⟨W++[(i,i+1+j)],_,rfl,by rw [QT];rfl,rfl,inv.app ⋯ jl (λh=>by rw [Jq.mpr h] at hb;exact Bool.noConfusion hb) (λm M h=>h),by rw [QA];show _+1<=_;lia⟩
  ·rintro σ H6 cs ds ⟨W,I,rfl,rfl,rfl,inv,wl⟩ s
   rw [yX] at inv wl;left;refine Zu s ⟨W,_,_,rfl,rfl,rfl,inv.imp λm M a b c=> .inl ⋯,⋯⟩
 rintro σ H5 cs ds ⟨W,x5,I,rfl,rfl,rfl,inv,wl⟩ G
 rw [yX] at inv
 rcases Pu with ⟨rfl,all⟩|⟨i,j,fw,rfl⟩
 ·left;refine ⟨rfl,?_⟩;left
  have e:W=[]:=by
   rcases inv with ⟨e,_⟩|⟨i,j,D,_,f⟩
   ·exact e
   ·exact absurd (all i j f.ij f.jl) f.bad
  subst e;refine Yh (λ_=>?_) (λh=>absurd rfl h);left;exact k _ G.base
 ·have ij:=fw.ij;have jl:=fw.jl;have il:i<l.length:=⋯
  have U:=IL (v:=ps) pr.ru pr.cl ij jl
  obtain ⟨x,y,T⟩:∃x y,alP r l ps i j=[x,y]:=by
   rcases h:alP r l ps i j with _|⟨x,_|⟨y,_|⟨z,t⟩⟩⟩<;>rw [h] at U<;>simp at U
   exact ⟨x,y,rfl⟩
  obtain ⟨D,rfl⟩:∃D,W=(i,j)::D:=by
   rcases inv with ⟨_,h⟩|⟨m,M,D,e,f⟩
   ·exact absurd (h i j ij jl il) fw.bad
   ·obtain ⟨a,b⟩:=fw.uniq f;exact ⟨D,by rw [e,a,b]⟩
  have s:Sta H H H5 [(N,((i,j)::D).map prD)] [(.tuple [.int (i:Int), .int (j:Int),frD x,frD y],C),(r.shape,v0),(zo l,v1),(.list (ps.map frD),v2)]:=by
   have:=G;unfold WG at this;rw [T] at this;exact this
  have hv:=s.hp (x:= .tuple [.int (i:Int), .int (j:Int),frD x,frD y]) (v:=C) .mm;have OY:=hv;rw [Is] at OY;obtain ⟨rf,_,e3,_⟩:=OY;subst e3;clear G;left;refine ⟨rfl,?_⟩;left;refine Yh (λh=>by cases h) (λ_=>?_);left;refine DE rfl ?_;left;refine Yh (λh=>absurd h (by rw [Qk,Qy];lia)) (λ_=>?_);left;refine JEn s .mm (by kernel_rfl) λw1 w2 w3 w4 O=>?_;cases O.int1;cases O.drop1.int1;have S8:Sta H H H5 [(N,((i,j)::D).map prD)] [(frD x,w3),(frD y,w4),(r.shape,v0),(zo l,v1),(.list (ps.map frD),v2)]:=O.dat ‹()›;clear O s;left;rename_i p9 H9 e9 S9;refine YN (x:=prD (i,j)) S9 (by right) (show atI (((i,j)::D).map prD) ((0:Nat):Int)=some (prD (i,j)) from zZ rfl) λOT MC=>?_;have ly:(prD (i,j)).canLay0=true:=by unfold prD;simp [PyData.canLay0,PyData.canLayAll0]
  have sh:SeqAt.shaped (prD (i,j))=true:=WT (n:=2) ly (by unfold prD;simp only [PyData.depth,PyData.depthAll];decide) nofun;refine Ce (x:=prD (i,j)) (y:=prD (i,j)) (MC.hp (by unfold prD;exact .mem (by right))) (MC.hp .mm) sh sh ?_;rw [SeqAt.eqv_refl _ ly];have MN:Sta H H H9 [] [(frD x,w3),(frD y,w4),(r.shape,v0),(zo l,v1),(.list (ps.map frD),v2)]:=MC.weak (by walk_at "sub") ‹()›;clear S8 S9 MC sh ly;have hc:=Qb il;have hd:=Qb jl;obtain ⟨p,hp,ep,p0,Z,_⟩:=pr.dv.at' il;obtain ⟨q,hq,eq,q0,Y,_⟩:=pr.dv.at' jl;have s2:=pr.dv.sum2 pr.cl ij jl;have L:=pr.cl.two ij jl
  have e2:zX (0,0,0) [i,j] l=[l[i],l[j]]:=by
   unfold zX;rw [Qk,Qk,TC,zG hc,zG hd]
  have alz:zg (zQ r [l[i],l[j]]) (p+q)=[x,y]:=by
   rw [<-T];unfold alP;rw [ep,eq,e2]
  rw [e2] at L;rw [ep,eq] at s2;have x1:atI (ps.map frD) (i:Int)=some (frD p):=zZ (by rw [Qg,hp];rfl);have x2:atI (ps.map frD) (j:Int)=some (frD q):=zZ (by rw [Qg,hq];rfl);have y1:atI (l.map zJ) (i:Int)=some (zJ l[i]):=zZ (by rw [Qg,hc];rfl);have y2:atI (l.map zJ) (j:Int)=some (zJ l[j]):=zZ (by rw [Qg,hd];rfl);have o1:IntMulOk p.num (q.den:Int):=Z.1.mulOk Y.2 nofun;have o2:IntMulOk q.num (p.den:Int):=Y.1.mulOk Z.2 nofun;have o3:IntMulOk (p.den:Int) (q.den:Int):=Z.2.mulOk Y.2 nofun;generalize l[i]=c at*;generalize l[j]=d at*;left;refine zW (xs:=ps.map frD) (x:=frD p) MN .mm x1 λPN MH=>?_;left;refine zW (xs:=ps.map frD) (x:=frD q) MH .mm x2 λw13 MG=>?_;left;refine zW (xs:=ps.map frD) (x:=frD q) MG .mm x2 λw14 Nu=>?_;left;refine zW (xs:=ps.map frD) (x:=frD p) Nu .mm x1 λw15 Na=>?_;left;refine zW (xs:=ps.map frD) (x:=frD p) Na .mm x1 λw16 Nt=>?_;left;refine zW (xs:=ps.map frD) (x:=frD q) Nt .mm x2 λSJ Nz=>?_;left;refine vY Nz (Int.mul_pos (den_pos _) (den_pos _)) (bS Z Y nofun) λSI H18 e18 g=>?_;rw [nH] at g;have NM:Sta H H H18 [] [(frD (p+q),SI),(frD x,w3),(frD y,w4),(r.shape,v0),(zo l,v1),(.list (ps.map frD),v2)]:=g.dat ‹()›;clear MN MH MG Nu Na Nt Nz g;left;refine zW (xs:=l.map zJ) (x:=zJ c) NM .mm y1 λSH NL=>?_;left;refine zW (xs:=l.map zJ) (x:=zJ d) NL .mm y2 λSG NH=>?_;left;rename_i p21 H21 e21 PF p22 PH e22 Og;have den:=pr.den;have s6:SzQ 6800 (p+q):=s2.2.2.mono nofun;refine BZ (r:=r) (l:=[c,d]) (e:=p+q) Og.freeze .mm .mm .mm (by rw [alz];exact .mem (by right)) pr.ru pr.dep L s6 s2.1 (λz hz=>(pr.ru.part L s2.2.1 s2.1 z hz).2.mono ⋯) λH23 e23 Of=>?_;exact k _ Of.base
end
section
variable {A:RAd}
abbrev UB:Stmt:=top 85
def oG:FnScope ["_law_claims_here","_law_parts","_law_cell","_law_number","_law_i","_law_j","_law_room","_law_most","_law_found"] pav (zu UB):=xA
def Gq (B:Bl mg) (VA:Cal P w K mg base CX0 2 "_law_lowest" pau Wl):Coo P w K mg base "_law_moved" UB 3 pav qT:=by
 walk_at "-oG";obtain ⟨G,⟨l,ps,cell⟩,eG,hA,⟨U,l2,O⟩,k⟩:=h;obtain ⟨v0,v1,v2,rfl,al⟩:=ZA hA;dsimp only at U l2 O al k;have S0:Sta H G H [] [(.int cell,v2),(zo l,v0),(.list (ps.map frD),v1)]:=(Sta.enter eG al).dat ‹()›;cases S0.int1;have S:=S0.drop1;clear S0;have ok:=U.ok nofun;have few:=ok.few;have hl:=O.good.1;have dv:=O.dv U;walk_at "=ek3Da27ddek4Ya3xba0cek5YBBa4dYMa3dPxba0cdxba0cek6hbPrjja0a5djja1a5djja1a5dbjja1a5dcek7ja1a4emVrg6g7rg7g6lfk7a6oek7hbrg7BdDMa3ddbrg7dcek8@ba1ce>hbPrjja1a4dg7rg7jja1a4dbrjja1a4dg7c.a8a4e>hbBrjja1a5dg7rg7jja1a5dbrjja1a5dg7c.a8a5fia8";left;rw [Qa];have e9:(0:Int)<=cell % 10 ^ Int.toNat 9:=jam _ nofun;generalize cell % 10 ^ Int.toNat 9=N at*
 obtain ⟨i,il,ei⟩:∃i:Nat,i<l.length/\N.fmod (l.length:Int)=(i:Int):=by
  rw [Th _ ⋯];have h1:=jaa N (show (0:Int)<l.length by lia);have h2:=jam N (show (l.length:Int)≠0 by lia);exact ⟨(N % (l.length:Int)).toNat,⋯,⋯⟩
 obtain ⟨m,ml,em⟩:∃m:Nat,m+1<l.length/\(N / 8).fmod ((l.length:Int) - 1)=(m:Int):=by
  rw [Th _ ⋯];have h1:=jaa (N / 8) (show (0:Int)<(l.length:Int) - 1 by lia);have h2:=jam (N / 8) (show (l.length:Int) - 1≠0 by lia);exact ⟨(N / 8 % ((l.length:Int) - 1)).toNat,⋯,⋯⟩
 obtain ⟨j,jl,ij,ej⟩:∃j:Nat,j<l.length/\i≠j/\((i:Int)+1+(m:Int)).fmod (l.length:Int)=(j:Int):=by
  rw [Th _ ⋯]
  by_cases z:i+1+m<l.length
  ·exact ⟨i+1+m,z,⋯,by rw [Int.emod_eq_of_lt ⋯ ⋯];lia⟩
  ·refine ⟨i+1+m - l.length,⋯,⋯,?_⟩;have e:(i:Int)+1+(m:Int)=((i+1+m - l.length:Nat):Int)+(l.length:Int):=⋯
   rw [e,Int.add_emod_right,Int.emod_eq_of_lt ⋯ ⋯]
 refine ⟨_,_,rfl,rfl,⋯,?_⟩;rw [show (λi j:Int=>V.int (i.fmod j)) N (l.length:Int)=V.int (i:Int) from congrArg V.int ei];left;rw [Qa];refine ⟨_,_,rfl,rfl,⋯,?_⟩;rw [show (λi j:Int=>V.int (i.fmod j)) (N / 8) ((l.length:Int) - 1)=V.int (m:Int) from congrArg V.int em];left;rw [Qa];refine ⟨_,_,rfl,rfl,⋯,?_⟩;rw [show (λi j:Int=>V.int (i.fmod j)) ((i:Int)+1+(m:Int)) (l.length:Int)=V.int (j:Int) from congrArg V.int ej];left;obtain ⟨p,hp,ep,p0,I,pm⟩:=dv.at' il;obtain ⟨q,hq,eq,q0,X,qm⟩:=dv.at' jl;have hc:=Qb il;have hd:=Qb jl;have gq:=O.good.2 j _ _ hd hq;have dp:=O.dq p pm;have dq:=O.dq q qm;have zc:=ok.sz _ (Qc hd);have am:l[j].1∈amV l:=Qi.mpr ⟨_,QY _,rfl⟩;have cle:=jaL (XF (Yg U.n1) _ am) U.sum;have c0:=Yg U.n1 _ am;have x1:atI (ps.map frD) (i:Int)=some (frD p):=zZ (by rw [Qg,hp];rfl);have Y:atI (ps.map frD) (j:Int)=some (frD q):=zZ (by rw [Qg,hq];rfl);have y2:atI (l.map zJ) (j:Int)=some (zJ l[j]):=zZ (by rw [Qg,hd];rfl);have fin:=λ(M:Rat) (m0:0<=M) (mp:M<=p) (mq:M<=(l[j].1:Rat) - q) (dm:DQ 2195 M)=>Gy O U ij hp hq hc hd m0 mp mq dm;generalize l[j]=c at*;have o1:IntMulOk c.1 (q.den:Int):=zc.mulOk X.2 nofun;refine zW S .mm y2 λw5 S5=>?_;left;refine zW S5 .mm Y λw6 S6=>?_;left;refine zW S6 .mm Y λw7 S7=>?_;left;refine zW S7 .mm Y λw8 S8=>?_;left;refine Zt S8 (den_pos q) (X.2.mono nofun) λw9 H9 e9' L=>?_
 have er:Rat.divInt (c.1*(q.den:Int) - q.num) (q.den:Int)=(c.1:Rat) - q:=by
  have:=kQ (c.1:Rat) q;rw [show ((c.1:Rat)).num=c.1 from rfl,show (((c.1:Rat)).den:Int)=1 from rfl,jbN,Int.one_mul] at this;exact this
 rw [er] at L;have Z:0<=(c.1:Rat) - q:=by grind
 have dr:DQ 2193 ((c.1:Rat) - q):=((DQ.int c.1).sub dq).mono nofun;have zr:SzQ 2300 ((c.1:Rat) - q):=(dr.sz Z (show (c.1:Rat) - q<=(c.1:Rat) by grind) c0 cle).mono nofun;have zp2:SzQ 4499 p:=I;generalize hR:(c.1:Rat) - q=R at*;have S9:Sta H G H9 [] [(frD R,w9),(zo l,v0),(.list (ps.map frD),v1)]:=L.dat ‹()›;clear S5 S6 S7 S8 L S;left;refine zW S9 .mm x1 λOT MC=>zI (vX ?_);refine tS (AtP H G (λσ cs ds=>∃(M:Rat) (w:V),σ=[some v0,some v1,some (.int cell),some (.int N),some (.int (i:Int)),some (.int (j:Int)),some w9,some w,none]/\cs=[]/\ds=[(frD M,w),(zo l,v0),(.list (ps.map frD),v1)]/\0<=M/\M<=p/\M<=R/\DQ 2193 M/\SzQ 4499 M)) ?_ (λnxt=>?_)
 rotate_left
 ·have o2:IntMulOk R.num (p.den:Int):=zr.1.mulOk I.2 nofun;have o3:IntMulOk p.num (R.den:Int):=I.1.mulOk zr.2 nofun;left;have Mu:=Rat.lt_iff R p;refine Yh (λz=>?_) (λz=>?_)
  ·refine rd_asg (rd_var rfl (zI (vX ?_)));exact nxt _ _ (Zu (MC.dat ‹()›) ⟨R,w9,rfl,rfl,rfl,Z,QE (Mu.mpr z),QQ,dr,zr.mono nofun⟩)
  ·exact Jx (vX (nxt _ _ (Zu (MC.dat ‹()›) ⟨p,OT,rfl,rfl,rfl,p0,QQ,Ti.mp λy=>z (Mu.mp y),dp,I⟩)))
 clear MC S9
 rintro σ Oo ⟨cs,ds,MN,M,OS,rfl,rfl,rfl,m0,mp,mr,dm,zm⟩
 have k1:1<=1+N / 56 % 3/\1+N / 56 % 3<=3:=⋯
 left;generalize 1+N / 56 % 3=C at*;have zk:Sz 3 C:=by unfold Sz;lia
 have o4:IntMulOk M.num C:=zm.1.mulOk zk nofun;have o5:IntMulOk (M.den:Int) 3:=zm.2.mulOk (show Sz 3 3 by unfold Sz;decide) nofun;left;refine Zt (by assumption) (Int.mul_pos (den_pos M) nofun) ((zm.2.mul (show Sz 3 3 by unfold Sz;decide)).mono nofun) λPN OB OP u=>?_
 have e3:Rat.divInt C 3*((3:Int):Rat)=(C:Rat):=by
  rw [Rat.divInt_eq_div];exact Rat.div_mul_cancel (by decide+kernel)
 have em':Rat.divInt (M.num*C) ((M.den:Int)*3)=M*Rat.divInt C 3:=by
  rw [<-jaJ,jbA]
 rw [em'] at u;have dm':DQ 2195 (M*Rat.divInt C 3):=dm.third;have t3:((3:Int):Rat)=3:=rfl;have k1':(1:Rat)<=(C:Rat)/\(C:Rat)<=3:=⟨QK.mpr k1.1,QK.mpr k1.2⟩;rw [t3] at e3;generalize hT:Rat.divInt C 3=T at*;have T0:0<=T:=by grind
 have T1:T<=1:=by grind
 have mm0:0<=M*T:=QO m0 T0
 have mm1:M*T<=M:=by
  have:=QO m0 (show 0<=1 - T by grind)
  grind
 generalize M*T=D at*;have good:=fin D mm0 (by grind) (by grind) dm';have J:SzQ 2300 D:=(dm'.sz mm0 (show D<=(c.1:Rat) by grind) c0 cle).mono nofun;have MH:Sta H G OB [] [(frD D,PN),(zo l,v0),(.list (ps.map frD),v1)]:=u.dat ‹()›;clear MN u;have a1:IntMulOk p.num (D.den:Int):=I.1.mulOk J.2 nofun;have a2:IntMulOk D.num (p.den:Int):=J.1.mulOk I.2 nofun;have a3:IntMulOk (p.den:Int) (D.den:Int):=I.2.mulOk J.2 nofun;have b1:IntMulOk q.num (D.den:Int):=X.1.mulOk J.2 nofun;have b2:IntMulOk D.num (q.den:Int):=J.1.mulOk X.2 nofun;have b3:IntMulOk (q.den:Int) (D.den:Int):=X.2.mulOk J.2 nofun;left;rename_i RT RP RI MG;clear MH;refine zW MG .mm x1 λw14 Nu=>?_;left;refine zW Nu .mm x1 λw15 Na=>?_;left;refine zW Na .mm x1 λw16 Nt=>?_;left;refine Zt Nt (Int.mul_pos (den_pos p) (den_pos D)) ((I.2.mul J.2).mono nofun) λSJ RO e17 s=>?_;rw [kQ] at s;have Nz:Sta H G RO [(RT,ps.map frD)] [(frD (p - D),SJ),(frD D,PN),(zo l,v0),(.list (ps.map frD),v1)]:=s.dat ‹()›;clear MG Nu Na Nt s;left;refine rF Nz .mm (si (by rw [Qa,hl];exact il)) λH18 r=>?_;rw [<-List.map_set] at r;have NM:Sta H G H18 [(RT,(ps.set i (p - D)).map frD)] [(frD D,PN),(zo l,v0),(.list (ps.map frD),v1)]:=r.dat ‹()›;clear Nz r;left;refine zW NM .mm Y λSH NL=>?_;left;refine zW NL .mm Y λSG NH=>?_;left;refine zW NH .mm Y λw21 PF=>?_;left;refine Zt PF (Int.mul_pos (den_pos q) (den_pos D)) ((X.2.mul J.2).mono nofun) λw22 PH e22 g=>?_;rw [nH] at g;have Og:Sta H G PH [(RT,(ps.set i (p - D)).map frD)] [(frD (q+D),w22),(zo l,v0),(.list (ps.map frD),v1)]:=g.dat ‹()›;clear NM NL NH PF g;left;refine rF Og .mm (si (by rw [Qa,jaH,hl];exact jl)) λH23 Of=>?_;rw [<-List.map_set] at Of;left;exact ret_Lx Of ⟨_,rfl,good⟩ k
abbrev Xo:Stmt:=top 88
def fF:FnScope ["_law_script","_law_claims_here","_law_rule_here","_law_kind","_law_purse_here","_law_parts","_law_found","_law_claim","_law_some"] pai (zu Xo):=xA
def JY {fS fT ZG fQ:Addr} {I:FuncData} {n:Nat} (B:Bl mg) (Mz:∀r:Rl,ROk K fS fT ZG (A.cls r)) (Oh:∀r:Rl,Meth K (A.cls r) "parts" fQ) (Vx:FnOk P w K mg base CX0 (2*n+10) fQ I pam (dW A 33 n)) (Xg:xp K I pam []) (aN:Cal P w K mg base CX0 1 "_law_cell_at" pax (ow K)) (tu:Cal P w K mg base CX0 1 "_law_mixed" paH FE) (VA:Cal P w K mg base CX0 2 "_law_lowest" pau Wl) (Lg:Cal P w K mg base CX0 3 "_law_purse" paI lj) (Lh:Cal P w K mg base CX0 3 "_law_moved" pav qT):Coo P w K mg base "_law_division" Xo (2*n+11) pai (Bw K A n):=by
 walk_at "-fF";obtain ⟨G,a,ns,r,l,kind,v1,v2,rfl,eG,Z,hA,⟨⟨ru,hn,den⟩,q⟩,k⟩:=h;obtain ⟨_,_,e,al⟩:=xC hA;cases e;have S:Sta H G H [] [(zo l,v1),(r.ins A,v2)]:=Sta.enter eG al;have ok:=q.ok nofun;have few:=ok.few;walk_at "=emqtna3dlek6CceFva1A7ek8Dhbhba0bdcbxba6ccdfEXa6bhbrg7a8bdccfia6oek4hbTUbz_law_claim;1;va1p0ug0cbhba0bdccek5@bγa2δb@ba1cba4ccemK0qtna3dl3Sxba1cdlfihba1ba5bhba0bdccofia5";left;refine Yh (λc=>?_) (λc=>?_)
 ·left;rename_i p6 H6 e6 S6;refine zP (xs:=l.map zJ) S6 .mm λJ wk=>?_;refine xX wk (λi σ cs ds=>∃(vs:List Rat) (U T:Option V),σ=[some (.ref a),some v1,some v2,some (.int kind),none,none,some (.ref p6),U,T]/\cs=[(p6,vs.map frD)]/\ds=[(zo l,v1),(r.ins A,v2)]/\vs.length=i/\∀(j:Nat) (c:Cl) (p:Rat),l[j]? =some c->vs[j]? =some p->(0<=p/\p<=(c.1:Rat))/\DQ 4 p) S6 ⟨[],none,none,rfl,rfl,rfl,rfl,λj c p _ h=>by cases h⟩ (λi σ cs ds h=>?_) ?_ ?_
  ·obtain ⟨_,_,_,_,_,rfl,_⟩:=h;exact .mem (by right)
  ·rintro i x u σ H7 cs ds Y ⟨vs,U,T,rfl,rfl,rfl,vl,inv⟩ S7
   obtain ⟨c,g,rfl⟩:=zN Y;have il:=(Qd.mp g).1;have hS7:SqL K H7 a (ns.map V.int):=S7.base.seq Z;have zc:=ok.sz c (Qc g);have c0:=(q.nn c (Qc g)).1;obtain ⟨y,X⟩:∃y:Int,Kc (aD ns 15) (((vs.map frD).length:Nat):Int) % 13=y:=⟨_,rfl⟩;have y0:0<=y/\y<13:=by rw [<-X];lia
   have o:IntMulOk c.1 (Kc (aD ns 15) (((vs.map frD).length:Nat):Int) % 13):=by
    rw [X];exact zc.mulOk (show Sz 4 y by unfold Sz;lia) nofun
   left;rw [X];refine Zt S7 nofun (show Sz 8999 12 by unfold Sz;decide) λw9 H9 e9 M=>?_
   have OP:Rat.divInt (c.1*y) 12*((12:Int):Rat)=((c.1*y:Int):Rat):=by
    rw [Rat.divInt_eq_div];exact Rat.div_mul_cancel (by decide+kernel)
   have gd:(0<=Rat.divInt (c.1*y) 12/\Rat.divInt (c.1*y) 12<=(c.1:Rat))/\DQ 4 (Rat.divInt (c.1*y) 12):=by
    refine ⟨?_,12,⟨nofun,nofun⟩,c.1*y,OP⟩;have D:((12:Int):Rat)=12:=rfl;have h1:(0:Rat)<=((c.1*y:Int):Rat):=QK.mpr (Int.mul_nonneg c0 y0.1);have h2:((c.1*y:Int):Rat)<=((c.1*12:Int):Rat):=QK.mpr (Int.mul_le_mul_of_nonneg_left ⋯ c0);rw [QP c.1 12,D] at h2;rw [D] at OP;exact ⟨by grind,by grind⟩
   generalize Rat.divInt (c.1*y) 12=qq at*;left;refine yR (y:=frD qq) M .mm (by rw [Qa];lia) λNU O=>?_;left;refine Zu (O.dat ‹()›) ⟨vs++[qq],_,_,rfl,by rw [QT];rfl,rfl,by rw [QA,vl];rfl,λj c' p' Mx s=>?_⟩
   by_cases z:j<vs.length
   ·rw [jag z] at s;exact inv j c' p' Mx s
   ·rw [Tq ⋯] at s
    have hj:j - vs.length=0:=by
     have:=(Qd.mp s).1;simp at this;lia
    rw [hj] at s;cases s;have:j=i:=⋯
    subst this;rw [g] at Mx;cases Mx;exact gd
  ·rintro σ H7 cs ds ⟨vs,U,T,rfl,rfl,rfl,vl,inv⟩ S7
   rw [Qa] at vl;left
   exact tX S7 (PvOk.dv ⟨⟨vl,λi c p g hp=>(inv i c p g hp).1⟩,λp hp=>by
    obtain ⟨i,hi,rfl⟩:=QI hp
    exact (inv i _ _ (Qb (show i<l.length by lia)) (Qb hi)).2.mono nofun⟩ q) k
 left;refine zP (xs:=l.map zJ) S .mm λJ8 Oq=>?_;refine yr Oq (λj=> .int (l.getD j (0,0,0)).1) (ys:=(amV l).map PyData.int) (by unfold amV;rw [Qa,Qm];exact zE (λc:Cl=>PyData.int c.1) (0,0,0) l) S (λj x v=>λY t1 S hd=>?_) λD8 H8 e8 S8=>?_
 ·obtain ⟨c,g,rfl⟩:=zN Y;refine zI ⟨rfl,?_⟩;left;refine hd (by assumption) ?_;rw [zG g];exact Has.int
 have sum:=ok.am.sum;have hS8:SqL K H8 a (ns.map V.int):=S8.base.seq Z;left;refine Cb S8 ⟨sum.1,sum.2.mono nofun⟩ λw9 H9 e ⟨⟨e0,ez⟩,ed⟩ e9 L=>?_;have M:Sta H G H9 [] [(frD e,w9),(zo l,v1),(r.ins A,v2)]:=L.dropC;clear L S8;left;refine Cj (C:=A.cls r) M .mm (Mz r).cl (Oh r) (by decide+kernel) ?_;left;rename_i RU NU RJ O;refine oX (r:=r) (l:=l) (e:=e) O.freeze .mm .mm .mm ru hn q (ez.mono nofun) e0 λOS Oo OQ m=>?_;have MN:Sta H G Oo [] [(yj (zg (zQ r l) e),OS),(zo l,v1),(r.ins A,v2)]:=m.dat ‹()›;clear m O M;have Oi:=ru.pv q den e0 ed;generalize zg (zQ r l) e=ps at*;left;rename_i OV OB OP N;have hS12:SqL K OB a (ns.map V.int):=N.base.seq Z;have dv:=Oi.dv q;refine Yh (λk1=>?_) (λ_=>?_)
 ·left;rw [Qa];refine Yh (λz=>?_) (λ_=>?_)
  ·left;refine FU (l:=l) (ps:=ps) N.freeze .mm .mm q ⋯ Oi λv' RT RP dv' RI MG=>?_;exact tX MG dv' k
  ·left;exact tX N dv k
 ·left;exact tX N dv k
end
section
variable {A:RAd}
abbrev lU:Stmt:=top 89
def sc_law:FnScope ["_law_script","_law_first","_law_many","_law_groups","_law_claims_here","_law_shape_here","_law_rule_here","_law_parts","_law_handed","_law_found","_law_by","_law_part","_law_told","_law_fits_here"] ["_law_script"] (zu lU):=xA
def ok_law {fS fT ZG:Addr} (B:Bl mg) (Mz:∀r:Rl,ROk K fS fT ZG (A.cls r)) (aN:Cal P w K mg base CX0 1 "_law_cell_at" pax (ow K)) (IX:Cal P w K mg base CX0 2 "_law_claims" pao (fq K)) (Ld:Cal P w K mg base CX0 2 "_law_shape" paN kW) (AJ:Cal P w K mg base CX0 11 "_law_rule" paE (kY A 7)) (Fl:Cal P w K mg base CX0 25 "_law_division" pai (Bw K A 7)) (Lm:Cal P w K mg base CX0 25 "pair_off" paV (qS A 7)) (Ln:Cal P w K mg base CX0 28 "_law_pair" pah fj) (Yz:Cal P w K mg base CX0 1 "_law_divisor" pal fo) (xW:Cal P w K mg base CX0 26 "_law_fits" paa (Wm 12)) (F:Fun K "law" "law" lU f fd):FnOk P w K mg base CX0 29 f fd ["_law_script"] (FF K):=by
 walk_at "+sc_law";obtain ⟨a,ns,rfl,hS,hlen,_,q⟩:=h;have S:Sta H H H [] []:=Sta.enter (zV.refl _) λp hp=>absurd hp Qp;walk_at "=ek1hba0bdcek2BdDa1dek3-tnDMa1dddlek4hba0bdba2bjCbdb7ddcDMa1ddcek5hb2a0ZdZdba3cek6hba5cek7hba0ba4ba6bDMa1ddcek8Cb@ba4cb@ba7ccek9hba6bg8bg8cemKOqRna8Cba4ba7cl1QGhba5ba4ba7ba9cfiJoemGa3fiJoekadeFva7AbfkarWaahbaabgbcgbeNc_law_part,_law_by;1a;va7p0urg0Wa1g0ekdhba5bz_law_claim,_law_by;1a;va4p0usbra1g0bg0bg0cbaccfi-tnеa9(ladl";left;generalize aD ns 0=c at*;rename_i p1 H1 e1 S1
 obtain ⟨size,Sq,RZ,NQ⟩:∃n:Int,atI [PyData.int 10, .int (10 ^ Int.toNat 9)] (c / 12 % 2)=some (.int n)/\10<=n/\n<=10 ^ 9:=by
  rcases (by lia:c / 12 % 2=0\/c / 12 % 2=1) with h|h<;>rw [h]
  ·exact ⟨10,rfl,nofun,nofun⟩
  ·exact ⟨10 ^ Int.toNat 9,rfl,nofun,nofun⟩
 refine JG S1 (by right) Sq ?_;have G:Sta H H H1 [] []:=S1.dropC;clear S1;have hS1:SqL K H1 a (ns.map V.int):=G.base.seq hS;left;have p46:(10:Int) ^ 9<=10 ^ 46:=by decide+kernel
 refine we G hS1 ⟨nofun,⋯,⋯,RZ,⋯⟩ λl D H3 Y okZ e3 S3=>?_
 have Mw:ClS 33 l:=okZ.S (s:=30) ⋯ (by
  have:(10:Int) ^ 9<=2 ^ 30:=by decide+kernel
  lia)
 have few6:l.length<=6:=⋯
 have pos:=Mw.pos;have em:1+c % 6=((l.length:Nat):Int):=⋯
 rw [em];clear Y Sq okZ p46 RZ NQ;have S4:Sta H H H3 [] [(zo l, .ref D)]:=S3.freeze;clear S3 G
 have Rz:(cutI ns (some 1) (some 7)).length<=6:=by
  unfold cutI;rw [jad,show HT.sIx ns.length ns.length (some 7)=min 7 ns.length from HT.sIx_nat _ _ 7,show HT.sIx ns.length 0 (some 1)=min 1 ns.length from HT.sIx_nat _ _ 1];lia
 left;refine rd_slS S4 (S4.base.seq hS) λp5 H5 e5 S5=>?_;left;refine BY S5.freeze .mm Rz λI H6 r dr e6 S6'=>?_;obtain ⟨⟨j,N,hJ,Z,hN⟩,ng⟩:=dr;obtain ⟨ru,Ol,Px⟩:=(hJ 33).ru nofun Z hN;have den:XX 33 r<=530:=by have:=(hJ 33).den;lia
 have S6:Sta H H H6 [] [(r.shape,I),(zo l, .ref D)]:=S6'.dat ‹()›;clear S6' S5 S4 Rz hJ;left;refine Ws (A:=A) (r:=r) S6 .mm Px λw7 H7 e7 S7=>?_;clear S6;have ok:ClOk 160 l:=Mw.ok nofun;have hS7:SqL K H7 a (ns.map V.int):=S7.base.seq hS;left;refine JI (r:=r) (l:=l) S7 hS7 .mm .mm ru Px den Mw λps T H8 dv e8 S8=>?_;have S9:=S8.freeze;clear S8 S7 hS7;have pr:PrOk 7 r l ps:=⟨ru,Px,Ol,den,Mw,dv⟩;left;rename_i SW PL SA Na p16 H16 e16 Nt;refine JD Nt.freeze.freeze (.cons .mm (.cons .mm .nil)) (by show 2<=1000;decide) λPV RO e17 L=>zI (vX ?_);have Nz:Sta H H RO [(PV,[zo l, .list (ps.map frD)])] [(.list (ps.map frD), .ref T),(r.ins A,w7),(r.shape,I),(zo l, .ref D)]:=L.dat ‹()›;clear L Nt Na S9;refine tS (AtP H H (λσ cs ds=>∃(PB:PyData) (t:V),σ=[some (.ref a),some (.int c),some (.int (l.length:Nat)),some (.bl (decide (c / 6 % 2=1))),some (.ref D),some I,some w7,some (.ref T),some (.ref PV),some t,none,none,none,none]/\cs=[(PV,[zo l, .list (ps.map frD)])]/\ds=[(PB,t),(.list (ps.map frD), .ref T),(r.shape,I),(zo l, .ref D)]/\((PB= .none/\t= .non/\∀i j,i<j->j<l.length->Rt r l ps i j)\/∃i j M,FirstW r l ps i j/\PB=WG r l ps i j/\t= .ref M))) ?_ (λnxt=>?_)
 rotate_left
 ·left;refine YN (x:=zo l) Nz (by right) rfl λSI NM=>?_;left;refine YN (x:= .list (ps.map frD)) NM (by right) rfl λSH NL=>?_;left;refine FT (r:=r) (l:=l) (ps:=ps) NL .mm .mm .mm pr (λall H20 e20 NH=>zI (vX ?_)) (λi j U SG H20 e20 NH=>?_)
  ·exact nxt _ _ (Zu (NH.dat ‹()›) ⟨.none, .non,rfl,rfl,rfl, .inl ⟨rfl,rfl,all⟩⟩)
  ·have hv:=NH.hp (x:=WG r l ps i j) (v:=SG) .mm;unfold WG at hv;rw [Is] at hv;obtain ⟨M,_,e3,_⟩:=hv;subst e3;refine zI (vX ?_);exact nxt _ _ (Zu (NH.dat ‹()›) ⟨WG r l ps i j, .ref M,rfl,rfl,rfl, .inr ⟨i,j,M,U,rfl,rfl⟩⟩)
 clear Nz
 rintro σ H20 ⟨cs,ds,NH,PB,t,rfl,rfl,rfl,Pu⟩
 left;rename_i p22 PH e22 Og
 have ly:(PyData.list [zo l, .list (ps.map frD)]).canLay0=true:=by
  have h:(PyData.list (ps.map frD)).canLay0=true:=by rw [PyData.canLay0];exact gT Dt ps
  rw [PyData.canLay0,PyData.canLayAll0,PyData.canLayAll0,PyData.canLayAll0,wX,h];rfl
 have sh:SeqAt.shaped (.list [zo l, .list (ps.map frD)])=true:=WT (n:=5) ly (by
  have h1:(zo l).depth<=3:=by unfold zo;rw [PyData.depth];exact Nat.succ_le_succ (hV Er l)
  have h2:(PyData.list (ps.map frD)).depth<=3:=by rw [PyData.depth];exact Nat.succ_le_succ (hV Ep ps)
  rw [PyData.depth,PyData.depthAll,PyData.depthAll,PyData.depthAll]
  lia) nofun
 refine Ce (x:= .list [zo l, .list (ps.map frD)]) (y:= .list [zo l, .list (ps.map frD)]) (Og.hpC (by right)) (Og.hpC (by right)) sh sh ?_;rw [SeqAt.eqv_refl _ ly];have Of:Sta H H PH [] [(PB,t),(.list (ps.map frD), .ref T),(r.shape,I),(zo l, .ref D)]:=Og.weak (by walk_at "sub") ‹()›;clear Og NH sh ly;left
 have pl:∀{Q':VK} {E':XK},(∀H',zV PH H'->Q' (.bl true) H')->fj [I, .ref D, .ref T,t] PH Q' E':=λ{Q' E'} k=>by
  rcases Pu with ⟨_,rfl,all⟩|⟨i,j,M,U,rfl,rfl⟩
  ·exact Cd (r:=r) (l:=l) (ps:=ps) Of .mm .mm .mm pr all λH' e _=>k H' e
  ·exact Cc (r:=r) (l:=l) (ps:=ps) Of .mm .mm .mm .mm pr U λH' e _=>k H' e
 refine pl λH24 e24=>?_;have RN:=Of.same e24;clear Of pl;left;refine Yh (λ_=>?_) (λng'=>?_)
 ·left;exact q _
 left;have Nl:=dv.sz;refine zP (xs:=ps.map frD) RN .mm λJ wk=>?_
 refine xX wk (λi σ cs ds=>∃(b:Int) (SE:Option V),σ=[some (.ref a),some (.int c),some (.int (l.length:Nat)),some (.bl (decide (c / 6 % 2=1))),some (.ref D),some I,some w7,some (.ref T),some (.ref PV),some t,some (.int b),SE,none,none]/\cs=[]/\ds=[(PB,t),(.list (ps.map frD), .ref T),(r.shape,I),(zo l, .ref D)]/\0<b/\Sz (1+i*4499) b/\∀j p,j<i->ps[j]? =some p->(p.den:Int)∣b) RN
  ⟨1,none,rfl,rfl,rfl,nofun,by unfold Sz;decide,λj p Z=>absurd Z (Nat.not_lt_zero _)⟩ (λi σ cs ds h=>?_) ?_ ?_
 ·obtain ⟨_,_,_,_,rfl,_⟩:=h;exact .mem (by right)
 ·rintro i x u σ H2 cs ds g ⟨b,SE,rfl,rfl,rfl,b0,m,hd⟩ G
  obtain ⟨p,hp,rfl⟩:=zN g;have X:=Nl p (Qc hp);have O:=den_pos p;have st:=mY b0 O;have gp:0<Int.gcd b (p.den:Int):=jaw b ⋯
  have hc:CDv b ((Int.gcd b (p.den:Int):Nat):Int):=⟨⋯,by
   refine (Sz.le X.2 ?_).mono nofun;have:=Nat.le_of_dvd ⋯ (jbT b (p.den:Int))
   lia⟩
  have qn:0<=b.fdiv ((Int.gcd b (p.den:Int):Nat):Int):=by
   rw [QV _ ⋯];exact Int.ediv_nonneg ⋯ ⋯
  have ql:b.fdiv ((Int.gcd b (p.den:Int):Nat):Int)<=b:=by
   rw [QV _ ⋯];exact Int.ediv_le_self _ ⋯
  have zq:=Uq qn ql m;have hi:i<ps.length:=(Qd.mp hp).1;have Y:=dv.good.1;have o:IntMulOk (b.fdiv ((Int.gcd b (p.den:Int):Nat):Int)) (p.den:Int):=zq.mulOk X.2 ⋯;left;refine Zu (G.dat ‹()›) ⟨_,_,rfl,rfl,rfl,st.1,(zq.mul X.2).mono ⋯,λj q' Z hq=>?_⟩
  by_cases Rn:j<i
  ·exact Int.dvd_trans (hd j q' Rn hq) st.2.1
  ·have:j=i:=⋯
   subst this;rw [hp] at hq;cases hq;exact st.2.2
 rintro σ H2 cs ds ⟨b,SE,rfl,rfl,rfl,b0,m,hd⟩ G
 left;have Y:=dv.good.1;rw [Qa,Y] at m hd;have few8:=ok.few;have m:Sz 40000 b:=m.mono ⋯
 have ON:∀p∈ps,(p.den:Int)∣b:=λp hp=>by
  obtain ⟨j,Z,rfl⟩:=QI hp;exact hd j _ ⋯ (Qb Z)
 have dq:∀d:Int,0<d->0<=b.fdiv d/\b.fdiv d<=b:=λd Ry=>by
  rw [QV _ ⋯];exact ⟨Int.ediv_nonneg ⋯ ⋯,Int.ediv_le_self _ ⋯⟩
 refine zP (xs:=ps.map frD) G .mm λJ3 Nv=>?_;refine yr Nv (λj=> .int ((tkV b ps).getD j 0)) (ys:=(tkV b ps).map PyData.int) (by rw [Qa,show ps.length=(tkV b ps).length by unfold tkV;rw [Qa]];exact zE (λx=>PyData.int x) 0 _) G (λj x v=>λg t1 S hd=>?_) λD4 H4 e4 S4=>?_
 ·obtain ⟨p,hp,rfl⟩:=zN g;have X:=Nl p (Qc hp);have O:=den_pos p;have hc:CDv b (p.den:Int):=⟨⋯,X.2.mono nofun⟩;have o:IntMulOk p.num (b.fdiv (p.den:Int)):=X.1.mulOk (Uq (dq _ O).1 (dq _ O).2 m) nofun;refine zI ⟨rfl,?_⟩;left;refine hd (by assumption) ?_;rw [zG (show (tkV b ps)[j]? =some (p.num*b.fdiv (p.den:Int)) by unfold tkV;rw [Qg,hp];rfl)];exact Has.int
 have S5:=S4.freeze;clear S4 G;left;refine zP (xs:=l.map zJ) S5 .mm λJ8 Oq=>?_
 refine yt Oq (λj=>zJ ((λc:Cl=>((b*c.1,c.2):Cl)) (l.getD j (0,0,0)))) (ys:=(zO b l).map zJ) (by
  unfold zO;rw [Qm,Qa];exact zE (λc:Cl=>zJ ((b*c.1,c.2):Cl)) (0,0,0) l) S5 (λ_ _=> .mem (by right)) (by rw [Qa];lia) (λj x v B' G' Kd Kn g t1 S hd C ex s0 H0=>?_) λD8 H8 e8 S8=>?_
 ·obtain ⟨c,hc,rfl⟩:=zN g;have o:IntMulOk b c.1:=m.mulOk (ok.sz c (Qc hc)) nofun;refine zI ⟨rfl,?_⟩;left;refine hd (by assumption) ?_;rw [zG hc];exact .mem (by right)
 left;refine Ya (r:=r) (l:=zO b l) (tk:=tkV b ps) S8.freeze .mm .mm .mm ⟨ru.pok,Ol,nofun,by rw [yQ];exact few8,λx g=>?_,by unfold tkV;rw [Qa,yQ];exact Y,λx g=>?_⟩ λH9 e9 S9=>?_
 ·rw [xE] at g;obtain ⟨a,ha,rfl⟩:=Qi.mp g;exact (m.mul (ok.am.2 a ha).2).mono nofun
 ·obtain ⟨z,hz,rfl⟩:=Qi.mp g;have O:=den_pos z;exact ((Nl z hz).1.mul (Uq (dq _ O).1 (dq _ O).2 m)).mono nofun
 have key:Ud r (zO b l) (tkV b ps)=true↔∀i j,i<j->j<l.length->Rt r l ps i j:=(XO.trans (uL b0 Y ON)).trans (EI (ng (TF ng')) ru.pok dv.good)
 rcases Pu with ⟨_,rfl,all⟩|⟨i,j,M,U,rfl,rfl⟩
 ·rw [key.mpr all];left;refine ⟨rfl,?_⟩;left;rw [Te (show decide (V.non=V.non)=true from Te rfl)];exact q _
 ·have nf:Ud r (zO b l) (tkV b ps)=false:=Bool.eq_false_iff.mpr λz=>U.bad (key.mp z i j U.ij U.jl);rw [nf];left;refine ⟨rfl,?_⟩;left;rw [Te (show decide (V.ref M=V.non)=false from TF (by intro h;cases h))];exact q _
end
end
def all_mk {l:PySem.W.OpenLaw} {w:World} {K:Frg} {h:Heap} {mg:Str->Option Value} {fa:Addr} (X:K.In h) (G:h.Ns mainGlobals mg) (hfa:mg "law"=some (.ref fa))
 {od66 an66:Option Addr} {sl66:Array (Option Value)} {oc66 kV66 dc66 pm66 cd66 ct66:Value}
 (D1:DkT K mg "check_claims" Xq f1 d1 pas)
 (D2:DkT K mg "those_at" bo f2 d2 paD)
 (D3:DkT K mg "places_of_rank" Yn f3 d3 paR)
 (D4:DkT K mg "places_of_group" ZJ f4 d4 paj)
 (D5:DkT K mg "as_one_claim" Xr f5 d5 paj)
 (D6:DkT K mg "plus" BO f6 d6 pab)
 (D7:DkT K mg "minus" rC f7 d7 pab)
 (D8:DkT K mg "times" rB f8 d8 pab)
 (D9:DkT K mg "over" BP f9 d9 pab)
 (D10:DkT K mg "before" lY f10 d10 pab)
 (D11:DkT K mg "lowest" lS f11 d11 paM)
 (D12:DkT K mg "greatest_divisor" Zq f12 d12 pab)
 (D13:DkT K mg "thinned" fK f13 d13 ["corners"])
 (D14:DkT K mg "parts_at" bq f14 d14 ["path","purse"])
 (D15:DkT K mg "turned" lK f15 d15 ["path"])
 (D16:DkT K mg "scaled" lN f16 d16 paX)
 (D17:DkT K mg "behind" lX f17 d17 paP)
 (D18:DkT K mg "is_straight" Wr f18 d18 paJ)
 (D19:DkT K mg "gap" Jp f19 d19 pab)
 (D20:DkT K mg "parts_between" YH f20 d20 paW)
 (D21:DkT K mg "portion_reached" ZI f21 d21 paA)
 (D22:DkT K mg "amount_at" UD f22 d22 paz)
 (D23:DkT K mg "plus_each" Uv f23 d23 pak)
 (D24:DkT K mg "less_each" Uw f24 d24 pak)
 (D25:DkT K mg "last_reached" Xp f25 d25 paS)
 (D26:DkT K mg "purses_reaching" ZH f26 d26 paT)
 (D27:DkT K mg "parts_within" Xn f27 d27 paU)
 (D28:DkT K mg "merged" lR f28 d28 pak)
 (D29:DkT K mg "within" lJ f29 d29 paZ)
 (D30:DkT K mg "course" lW f30 d30 paC)
 (D31:DkT K mg "shares" lM f31 d31 pas)
 (D32:DkT K mg "evenly" lV f32 d32 pas)
 (D33:DkT K mg "losses" lT f33 d33 pas)
 (D34:DkT K mg "ranks" lO f34 d34 paY)
 (D35:DkT K mg "groups" dY f35 d35 paG)
 (D36:DkT K mg "upto" BN f36 d36 paF)
 (D37:DkT K mg "nothing" fL f37 d37 ["count"])
 (D38:DkT K mg "whole_corner" Xl f38 d38 ["parts"])
 (D39:DkT K mg "spread" lL f39 d39 paw)
 (D40:DkT K mg "spread_parts" Xm f40 d40 paO)
 (D41:DkT K mg "_law_cell_at" Wq f41 d41 pax)
 (D42:DkT K mg "_law_mixed" UC f42 d42 paH)
 (D43:DkT K mg "_law_divisor" Wo f43 d43 pal)
 (D44:DkT K mg "_law_lowest" WW f44 d44 pau)
 (D45:DkT K mg "_law_whole" Ux f45 d45 pay)
 (D46:DkT K mg "_law_is_fraction" ZK f46 d46 pay)
 (D47:DkT K mg "_law_labels" WX f47 d47 ["_law_number"])
 (D48:DkT K mg "_law_claims" WY f48 d48 pao)
 (D49:DkT K mg "_law_even" bB f49 d49 paL)
 (D50:DkT K mg "_law_fits" bA f50 d50 paa)
 (D51:DkT K mg "_law_upto_fit" ZZ f51 d51 paa)
 (D52:DkT K mg "_law_ranks_fit" Zp f52 d52 paa)
 (D53:DkT K mg "_law_groups_fit" Ze f53 d53 paa)
 (D54:DkT K mg "_law_right" Uz f54 d54 paf)
 (D55:DkT K mg "_law_rule" bw f55 d55 paE)
 (D56:DkT K mg "_law_portion" Wn f56 d56 paK)
 (D57:DkT K mg "_law_leaf" bz f57 d57 paK)
 (D58:DkT K mg "_law_shape" Uy f58 d58 paN)
 (D59:DkT K mg "_law_purse" UA f59 d59 paI)
 (D60:DkT K mg "check_division" Yo f60 d60 ["claims","parts"])
 (D61:DkT K mg "pair_off" bt f61 d61 paV)
 (D62:DkT K mg "_law_two_right" YI f62 d62 pag)
 (D63:DkT K mg "_law_pair" bx f63 d63 pah)
 (D64:DkT K mg "_law_moved" UB f64 d64 pav)
 (D65:DkT K mg "_law_division" Xo f65 d65 pai)
 (a66:PySem.W.nsIn K mainGlobals "law"=some (some (.ref f66))) (l66:K.lookup f66=some ⟨oc66,od66, .func (PySem.W.fnOf "law" "law" (Yt lU) (ZC lU) (zu lU) .none kV66 dc66 pm66 an66 cd66 ct66),sl66⟩) (c66:PySem.W.codeIn K cd66 "law"=true) (k66:PySem.W.keepIn K (.ref f66)=true)
 {T VM VQ VN VO ck cj VP kr Vo yu yK yS yE XR XW XS XT WI WH XU Vn:Addr} {ig pY sF sG pZ bX cc bY bZ dE dD cb ie:FuncData} {t_MOST:Tok} (Lr:PySem.W.nsIn K mainGlobals "Rule"=some (some (.ref T))) (yF:PySem.W.findCls K (.ref T) (.type "type") "__init__"=some (.val (.ref Vo)))
 (Fo:PySem.W.nsIn K mainGlobals "Shares"=some (some (.ref VM)))
 (Ft:PySem.W.nsIn K mainGlobals "Evenly"=some (some (.ref VQ)))
 (Fp:PySem.W.nsIn K mainGlobals "Losses"=some (some (.ref VN)))
 (Fq:PySem.W.nsIn K mainGlobals "Halves"=some (some (.ref VO)))
 (Ja:PySem.W.nsIn K mainGlobals "Other"=some (some (.ref ck)))
 (IZ:PySem.W.nsIn K mainGlobals "Ranks"=some (some (.ref cj)))
 (Fs:PySem.W.nsIn K mainGlobals "Groups"=some (some (.ref VP)))
 (Lq:PySem.W.nsIn K mainGlobals "Upto"=some (some (.ref kr)))
 (nI:CkT K VM XR T yu yK yS yE)
 (nM:CkT K VQ XW T yu yK yS yE)
 (nJ:CkT K VN XS T yu yK yS yE)
 (nK:CkT K VO XT T yu yK yS yE)
 (tj:CkT K ck WI T yu yK yS yE)
 (tf:CkT K cj WH T yu yK yS yE)
 (nL:CkT K VP XU T yu yK yS yE)
 (EJ:CkT K kr Vn T yu yK yS yE)
 (iF:FkT K "__init__" "Rule.__init__" YK Vo ig pae)
 (qv:FkT K "shape" "Rule.shape" WZ yu pY pac)
 (sZ:FkT K "text" "Rule.text" fM yK sF pac)
 (td:FkT K "path" "Rule.path" UE yS sG paQ)
 (qw:FkT K "parts" "Rule.parts" Va yE pZ pam)
 (cC:FkT K "__init__" "Shares.__init__" ZM XR bX pac)
 (cG:FkT K "__init__" "Evenly.__init__" ZQ XW cc pac)
 (cD:FkT K "__init__" "Losses.__init__" ZN XS bY pac)
 (cE:FkT K "__init__" "Halves.__init__" ZO XT bZ pac)
 (dN:FkT K "__init__" "Other.__init__" Yq WI dE paq)
 (dM:FkT K "__init__" "Ranks.__init__" Yp WH dD paq)
 (cF:FkT K "__init__" "Groups.__init__" ZP XU cb paB)
 (iE:FkT K "__init__" "Upto.__init__" YJ Vn ie pan)
 (xt:PySem.W.isFn K (.ref yu)=true) (xO:PySem.W.isFn K (.ref yK)=true) (xP:PySem.W.isFn K (.ref yS)=true) (xu:PySem.W.isFn K (.ref yE)=true) (x_MOST:PySem.W.nsIn K mainGlobals "MOST"=some (some (.int 8 t_MOST)))
 (WO:PySem.W.specialIn K (.ref T) "__getattribute__"=some (some (.builtin "type.__getattribute__"))) (Vd:PySem.W.readsIn K T (.type "type")=true) (Oj:PySem.W.specialIn K (.builtin "object.__class__") "__get__"=some (some (.builtin "getset_descriptor.__get__"))) (OG:PySem.W.takesIn K (.builtin "object.__class__")=some true) (B:Bl mg) (B2:Bl3 mg):
 ∃fd:FuncData,(∀(s:Shared) (v:Value),BindsTo s fd ⟨[v],[]⟩ [("_law_script",v)])/\∀base:Heap,K.In base->base.Ns mainGlobals mg->FnOk l.prog w K mg base CX0 29 fa fd ["_law_script"] (FF K):=by
 have e:=hfa.symm.trans (jay X G a66);cases e;obtain ⟨vy,uo,uW⟩:=D30;obtain ⟨KZ,Kh,KN⟩:=D34;obtain ⟨HW,GN,HJ⟩:=D35;obtain ⟨kI,jZ,kA⟩:=D50;obtain ⟨jG,jm,jy⟩:=D51;obtain ⟨iM,gK,iu⟩:=D52;obtain ⟨dO,dB,dG⟩:=D53;obtain ⟨kF,jY,kv⟩:=D55;have Mp:=pV (st:=lU) l66 c66 k66;refine ⟨PySem.W.fnOf "law" "law" (Yt lU) (ZC lU) (zu lU) .none kV66 dc66 pm66 an66 cd66 ct66,λs v=> .of_eq rfl,λbase XB GB=>?_⟩;obtain ⟨iT,yG,yD⟩:=iF;obtain ⟨Yj,xx,xv⟩:=qv;obtain ⟨La,KP,xQ⟩:=sZ;obtain ⟨iS,iA,xR⟩:=td;obtain ⟨Vx,Xg,xw⟩:=qw;obtain ⟨cH,cx,wZ⟩:=cC;obtain ⟨cL,cB,Ad⟩:=cG;obtain ⟨cI,cy,Aa⟩:=cD;obtain ⟨cJ,cz,Ab⟩:=cE;obtain ⟨dQ,dJ,AR⟩:=dN;obtain ⟨dP,dI,AQ⟩:=dM;obtain ⟨cK,cA,Ac⟩:=cF;obtain ⟨iR,iw,DB⟩:=iE;have Yu:=jay XB GB Lr;have g_MOST:=jay XB GB x_MOST;have uF:=jay XB GB Fo;have qx:=nI.MK;have Lu:=nI.ok xt xv xO xQ Oj OG;have Lz:=nI.mp xP xR xu xw;have uJ:=jay XB GB Ft;have qC:=nM.MK;have Ly:=nM.ok xt xv xO xQ Oj OG;have LD:=nM.mp xP xR xu xw;have uG:=jay XB GB Fp;have qy:=nJ.MK;have Lv:=nJ.ok xt xv xO xQ Oj OG;have LA:=nJ.mp xP xR xu xw;have uH:=jay XB GB Fq;have qA:=nK.MK;have Lw:=nK.ok xt xv xO xQ Oj OG;have LB:=nK.mp xP xR xu xw;have DR:=jay XB GB Ja;have vg:=tj.MK;have LW:=tj.ok xt xv xO xQ Oj OG;have LY:=tj.mp xP xR xu xw;have DO:=jay XB GB IZ;have vd:=tf.MK;have LV:=tf.ok xt xv xO xQ Oj OG;have LX:=tf.mp xP xR xu xw;have uI:=jay XB GB Fs;have qB:=nL.MK;have Lx:=nL.ok xt xv xO xQ Oj OG;have LC:=nL.mp xP xR xu xw;have IA:=jay XB GB Lq;have EK:=EJ.MK;have Mh:=EJ.ok xt xv xO xQ Oj OG;have Mi:=EJ.mp xP xR xu xw;have N:∀r:Rl,ROk K yu yK T ((⟨VM,VQ,VN,VO,ck,cj,VP,kr⟩:RAd).cls r):=λr=>by cases r<;>assumption
 have Oh:∀r:Rl,Meth K ((⟨VM,VQ,VN,VO,ck,cj,VP,kr⟩:RAd).cls r) "path" yS/\Meth K ((⟨VM,VQ,VN,VO,ck,cj,VP,kr⟩:RAd).cls r) "parts" yE:=λr=>by cases r<;>assumption
 generalize OO:(⟨VM,VQ,VN,VO,ck,cj,VP,kr⟩:RAd)=A at N Oh;have g:=Gj (P:=l.prog) (w:=w) (mg:=mg) (base:=base) (fS:=yu) (fT:=yK) (Ru:=T) iT;have m:=Gh (P:=l.prog) (w:=w) (mg:=mg) (base:=base) N Yj;have Hg:=jb (A:=A) Yu WO Vd yF g yD yG (N .shares) cH
 have GR:VX l.prog w K mg base "Shares" (A.cls .shares) pac (xq (A.cls .shares) (α:=Unit) (λ_=>[]) (λ_=>Rl.shares.shape)):=by
  subst OO;exact ⟨_,_,qx,Hg,cx,uF⟩
 have Hk:=jf (A:=A) Yu WO Vd yF g yD yG (N .evenly) cL
 have GW:VX l.prog w K mg base "Evenly" (A.cls .evenly) pac (xq (A.cls .evenly) (α:=Unit) (λ_=>[]) (λ_=>Rl.evenly.shape)):=by
  subst OO;exact ⟨_,_,qC,Hk,cB,uJ⟩
 have Hh:=jc (A:=A) Yu WO Vd yF g yD yG (N .losses) cI
 have GS:VX l.prog w K mg base "Losses" (A.cls .losses) pac (xq (A.cls .losses) (α:=Unit) (λ_=>[]) (λ_=>Rl.losses.shape)):=by
  subst OO;exact ⟨_,_,qy,Hh,cy,uG⟩
 have Hi:=jd (A:=A) Yu WO Vd yF g yD yG (N .halves) cJ
 have GU:VX l.prog w K mg base "Halves" (A.cls .halves) pac (xq (A.cls .halves) (α:=Unit) (λ_=>[]) (λ_=>Rl.halves.shape)):=by
  subst OO;exact ⟨_,_,qA,Hi,cz,uH⟩
 have Kt:=mL (A:=A) Yu WO Vd yF g yD yG m xx N dQ
 have Kk:VX l.prog w K mg base "Other" (A.cls (.other .shares)) paq (xq (A.cls (.other .shares)) (α:=Rl) (λr=>[r.ins A]) (λr=>(Rl.other r).shape)):=by
  subst OO;exact ⟨_,_,vg,Kt,dJ,DR⟩
 have Ks:=mK (A:=A) Yu WO Vd yF g yD yG m xx N dP
 have Kj:VX l.prog w K mg base "Ranks" (A.cls (.ranks .shares)) paq (xq (A.cls (.ranks .shares)) (α:=Rl) (λr=>[r.ins A]) (λr=>(Rl.ranks r).shape)):=by
  subst OO;exact ⟨_,_,vd,Ks,dI,DO⟩
 have Hj:=je (A:=A) Yu WO Vd yF g yD yG m xx N cK
 have GV:VX l.prog w K mg base "Groups" (A.cls (.groups .shares .shares)) paB (xq (A.cls (.groups .shares .shares)) (α:=Rl×Rl) (λr=>[r.1.ins A,r.2.ins A]) (λr=>(Rl.groups r.1 r.2).shape)):=by
  subst OO;exact ⟨_,_,qB,Hj,cA,uI⟩
 have LJ:=pJ (A:=A) Yu WO Vd yF g yD yG m xx N iR
 have LI:VX l.prog w K mg base "Upto" (A.cls (.upto 0 0 .shares .shares)) pan (xq (A.cls (.upto 0 0 .shares .shares)) (α:=(Int×Int)×Rl×Rl) (λr=>[.tuple [.int r.1.1, .int r.1.2],r.2.1.ins A,r.2.2.ins A]) (λr=>(Rl.upto r.1.1 r.1.2 r.2.1 r.2.2).shape)):=by
  subst OO;exact ⟨_,_,EK,LJ,iw,IA⟩
 have dm {x:Str} {st:Stmt} {k:Nat} {ps:List Str} {sp:Sp} {f:Addr} {fd:FuncData} (a:Coo l.prog w K mg base x st k ps sp) (d:DkT K mg x st f fd ps):=a d;have cm {f:Addr} {fd:FuncData} {k:Nat} {x:Str} {st:Stmt} {ps:List Str} {sp:Sp} (F:Fun K x x st f fd) (a:FnOk l.prog w K mg base CX0 k f fd ps sp) (hm:mg x=some (.ref f)) (b:xp K fd ps []):Cal l.prog w K mg base CX0 k x ps sp:=aE F a hm b;have C_gcd:=dm ok_gcd D12;have Xi:=dm (CO B C_gcd) D11;have dg:=dm (JU Xi) D6;have Xv:=dm (Gs Xi) D7;have nN:=dm (Gf Xi) D8;have IV:=dm (JV Xi) D9;have VU:=dm CW D10;have U:=dm (JW B VU) D25;have p:=dm (wx Xv IV) D21;have y:=dm (CY dg Xv nN) D22;have O:=dm (wH B p y) D20;have q:=dm (wA B U O) D14;have LU:=dm ok_gap D19;have L:=dm (rQ B LU) D18;have qF:=dm (wq B L) D13;have C_pe:=dm (pH B dg) D23;have C_le:=dm (pI B Xv) D24;have eI:=dm (CC B Xv C_le) D15;have vC:=dm (CH B nN) D16;have VT:=dm (CV B dg C_pe qF) D17;have M:=dm (Gx B g_MOST) D1;have C_wc:=dm (ok_wc B) D38;have Wg:=dm (wB C_wc) D37;have vB:=dm (CF B Wg C_wc) D31;have eM:=dm (CT B B2 C_wc) D32;have vE:=dm (CP eM eI) D33;have IU:=dm (JS VT vC Xv) D36;have C_reach:=dm (Gk B U p y) D26;have C_pwith:=dm (wu B q) D27;have vD:=dm (CN B VU) D28;have eH:=dm (CB B vD C_reach C_pwith) D29;have C_those:=dm Gg D2;have C_plr:=dm (CL B) D3;have C_plg:=dm (wy B) D4;have C_one:=dm (ok_one B) D5;have C_sprv:=dm (wt B) D40;have C_spr:=dm (CD C_sprv) D39;have WA:=cm vy (wG (t:=33) B B2 vB eM vE IU eI Wg C_plr C_plg C_those C_one C_spr VT eH KZ Kh KN HW GN HJ vy uo uW 7) uo uW;have F_path:=Gn (A:=A) (t:=33) (n:=7) N M WA iS;have I:=CM (A:=A) (t:=33) (n:=7) N (λr=>(Oh r).1) F_path iA q Vx;have C_dv0:=dm (ok_dv0 B VU) D60;have C_pair:=dm (Gp (A:=A) (n:=7) B N (λr=>(Oh r).2) M C_dv0 dg I Xg) D61;have D:=dm (JZ B) D41;have C_mix:=dm Gr D42;have u:=dm (wF B) D43;have z:=dm (CQ u) D44;have J:=dm (Ge B) D45;have C_frac:=dm (JX B J u) D46;have Y:=dm CS D47;have Z:=dm (CU B D C_mix Y) D48;have C_even:=dm (Gw B) D49;have C:=cm kI (Gv B B2 C_even jG jm jy iM gK iu dO dB dG kI jZ kA 12) jZ kA;have C_right:=dm (CI (t:=33) B C_frac u C) D54;have C_rule:=cm kF (Gi GR GW GS GU Kk Kj GV LI kF jY kv 7) jY kv;have C_por:=dm Gm D56;have C_leaf:=dm Gu D57;have C_shape:=dm (CG B C_por C_leaf) D58;have C_purse:=dm (CK z) D59;have C_two:=dm (JT u C) D62;have C_lpair:=dm (wC B C_two J z C_right) D63;have C_moved:=dm (Gq B z) D64;have C_divn:=dm (JY (A:=A) (n:=7) B N (λr=>(Oh r).2) I Xg D C_mix z C_purse C_moved) D65;exact ok_law (A:=A) B N D Z C_shape C_rule C_divn C_pair C_lpair u C Mp
def walk {l:PySem.W.OpenLaw} {q:Program} {loose:List Str} {A:(Str->Option Value)->Heap->Prop} {m:World->Heap->Prop} {d:DefRec} {K:Params->Frg} (hn:l.most=some 63) (C:d.params.defaults=[])
 (r:∀(w:World) (h:Heap),m w h->(K w.params).In h)
 (F:∀(w:World) (mg:Str->Option Value) (g:Addr) (h:Heap),(K w.params).In h->h.Ns mainGlobals mg->mg d.name=some (.ref g)->
  ∃fd:FuncData,(∀(s:Shared) (u:Value),BindsTo s fd ⟨[u],[]⟩ [("_law_script",u)])/\∀base:Heap,(K w.params).In base->base.Ns mainGlobals mg->FnOk l.prog w (K w.params) mg base CX0 29 g fd ["_law_script"] (FF (K w.params))):
 PySem.W.WalkO q loose A m l.row.toRowW d [] (λf vs=>PySem.call f vs):=
 L2.Jb (n:=63) (k:=29) (x:="_law_script") (CX:=λ_=>CX0) (sp:=λw=>FF (K w.params)) hn nofun C ⟨rfl,nofun,nofun⟩ r F (λ_ _ a ns p y t=>⟨a,ns,rfl,t,p,y,λ_=>rfl⟩) λ_ _ _ _ _ z=>z
end K
structure PySem.W.Fast:Prop where(tw12264227599845861278 tw8863381783996188527 tw2794260062702310557 tw427610454525444010 tw5237363986521613009 tw2313193409316283057 tw13750218632299396852 tw14414101324044996353 tw10730426627873050260 tw883918820067667402 tw13488382822869879608 tw10915446626078155295 tw12798167313745596862 tw10956102352334360344 tw5035385564596882081 tw5339129214116687434 tw7141356989240409821 tw16748852097992462735 tw5293290521122689508 tw252782203187853560 tw16664121476669641875 tw10397531494713322465 tw18149500464871719307 tw12674538607310100772 tw16470129266551390052 tw15162277617774554863 tw5822927562967582104 tw11112247977914112409 tw9274896184324495772 tw16501864768791362124 tw12034466674044943944 tw14395806282682630146 tw17783195077448268613 tw12488313680551231153 tw14245624309558123117 tw285091526950909251 tw11855161153910062491 tw18014047296271324132 tw14701600287531879709 tw15808049773447970907 tw5635321500897236944 tw15956658126844349159 tw18408086362777242531 tw6283572419151502168 tw17968290449102944023 tw9572358974638521396 tw5062719346881672226 tw1434974600339151322 tw12300851809407964292 tw12986900965194683873 tw11751245257363811795 tw16162999923963008085 tw15366530561753076761 tw17176068353420818292 tw9819589824389080010 tw16934415843648908327 tw9382467750798038828 tw18228269421029033635 tw7675365058487043117 tw381817607054603587 tw5757538552659399629 tw16070442094210132045 tw10317633694278424535 tw18419278767586625313 tw5054665743505153128 tw1063725077847279882 tw2312891699483079280 tw13122100182546146484 tw3615004567583286395 tw12125467844983744291 tw11426257182767612883 tw9877149434037445921 tw6866353480874590875 tw1948858863726176487 tw16547790544463922806 tw13207964732461603879 tw8344385520352939522 tw367248474914924183 tw11258337270718104891 tw7554892648580115494 tw1123592438486673581 tw5549450858545162341 tw7476031469711082111 tw14216311869695461699 tw3294226711998367287 tw293660729944385851 tw10043707820879445339 tw17937539787398641474 tw3111412437127388178 tw85336395082637784 tw18377722447317770553 tw11430826599533253287 tw3419616665324848636 tw14464821049283988620 tw16917788141046646468 tw4252091410806817759 tw15675609607815641183 tw3867051384122632864 tw14133708616199150377 tw1234662676712713408 tw13592249680789396030 tw18207362302492656906 tw547949834999044086 tw14630496541265385989 tw6907308889829397124 tw665246460392533205 tw17919612269175250321 tw2552840691620931981 tw14684810009562344663 tw6372369671734792795 tw7778763956520267876 tw14174962481461999767 tw6594123096362533277 tw7885504503550210539 tw16455114350492857393 tw8122196430220258470 tw6514490231749279322 tw7710058331383476820 tw3808965258037263125 tw360616017282038801 tw3791631073597892280 tw12869978387874077912 tw8949792955877439578 tw1088051069726370546 tw12614404269328525410 tw6889856643145000043 tw11018429736214447966 tw12845820368410843078 tw9477807246040224683 tw1393627445344633454 tw11926158713290566641 tw8932710620285687466 tw16178634037600518752 tw16282501366630317036 tw18169647547682349816 tw7536806596033131736 tw283411780871944479 tw3764056706613657847 tw12816981428018538638 tw11458852532947899823 tw4340362546198219607 tw6848893002882158597 tw16573288755836525734 tw9152710327834724590 tw3677552108168059931 tw10583928016960872436 tw13346415674267954967 tw15179945108143196158 tw17559188380686246331 tw5160031614694048446 tw16354453565743028373 tw4638842159664296816 tw10147504340220890241 tw1492749589360237322 tw4608162197768292556 tw696334910538026418 tw16844611949365389764 tw3017345450816969599 tw708754731616214014 tw12585003465789628348 tw1394806970650197394 tw14399907088846387998 tw8109937706432051292 tw7963088618547015035 tw2907210122662665538 tw11998039593267313363 tw17859088469211836081 tw7586107981131956639 tw14429689342174274193 tw15350968814189285514 tw6136030690936756544 tw9623010082765473501 tw6353931644892645449 tw14067092767472931245 tw9759400002405241627 tw3430228859910907381 tw4188506338205851833 tw15690028333688833828 tw14583619125201143292 tw2887908550444645284 tw2973247219413747440 tw5943011934897199478 tw7542833120716791055 tw3739644891710336097 tw12424203852519758911 tw2589147248188158792 tw7573595579494397113 tw4341756612243268121 tw13200056924541169748 tw8477039437044909569 tw793923981026031113 tw370483735451805042 tw9014738875482154762 tw5068304639318048014 tw2722440481056808846 tw17053108288305575584 tw2968653468685038420 tw14489889533196796270 tw4462873897453103561 tw16122712286865606397 tw13883842642377761800 tw18206563679006273281 tw2678297496130270256 tw2533314297455148835 tw7701592713522079115 tw8904952198705612708 tw2587917059006081443 tw3044570352618436059 tw1192971445273623431 tw13929014106573044733 tw17367640131150311977 tw12918294187658757432 tw556491949935793890 tw15348303243874300307 tw3246122465579730546 tw3645884410223689845 tw11069555847827207017 tw4023365849994818354 tw15697687410603698245 tw14306276397590387847 tw1920801054764017654 tw7787999159592472495 tw559738972416853356 tw10780406532661746479 tw16430550770778763491 tw10370808269137817480 tw17568075115290800286 tw11907664973664653346 tw4406335338600074774 tw12370672764844130715 tw820005015059345064 tw15683236857775153011 tw6534215525264903907 tw13840988246968608638 tw6684174894747503233 tw3227160269889864474 tw3516337014297393096 tw11566738539267274955 tw5375309345459050193 tw9885302269274478725 tw17020071186912304404 tw13783182062482473900 tw18400782992558866198 tw14666353470640559379 tw8687533978403873394 tw3610104105705011116 tw16231109565123976964 tw4568959766942155383 tw5961859039041614765 tw8188432398660920306 tw18198782276466026454 tw1535815159615042557 tw2638602328157188689 tw12636686558646057966 tw4687866043136997259 tw11498770162355730949 tw12561965390593821929 tw4438170832527528492 tw8607956583253929138 tw5323389659396797728 tw18401636478857950533 tw10085132336093430605 tw8067908385883248900 tw17536899899652110607 tw1112413899481432392 tw7685919073553057116 tw5741526063682712588 tw6524709705468051475 tw12100241260114145805 tw3290092294905731011 tw7570109167576440757 tw675212535610681547 tw12203313057106540305 tw793924195484349624 tw3449363605714264229 tw17337756571918265473 tw1146253931762929102 tw12530972247146113533 tw13157548377656318426 tw13122794112886377609 tw11106376030047399030 tw14112900055776920060 tw2513632343916187036 tw17713886069919386398 tw11440758461592308621 tw13418724801434126408 tw14815649111723427919 tw18055000577413533847 tw2095086585600183118 tw14991832536187394810 tw9046399518645846421 tw3503935059404080921 tw11626335081079266810 tw13687602110489521970 tw9654684693677000181 tw10807667348658621927 tw13378764360414722073 tw18129901201703018082 tw9616395902122434467 tw8179898288630161114 tw11449452176236348184 tw9587052000113939321 tw1294242249964671810 tw11748335605403785085 tw13342280098614928954 tw16668307739722205815 tw16029366279801926817 tw14909598130345589609 tw3455680012234497089 tw1049465879273721615 tw13609489259444894670 tw14470688851717914486 tw6530763790401876332 tw4060034771409217005 tw3332529077067224188 tw13337481127363868242 tw13986768943487874667 tw2878470521954843319 tw4366583785547363370 tw17545989787967040706 tw12927843814200157526 tw10255982609170333826 tw14078762625889666592 tw918005922086525851 tw14956990217658707240 tw13790888325488428959 tw11702447167837184847 tw3387328540215973527 tw10223238494419566688 tw5455857800621214087 tw251506566548477893 tw1023180241171254068 tw1999993992802486681 tw1284286204452522081 tw3806988815605731598 tw17172817778196689344 tw8012218716882930259 tw638791630150740398 tw3931902930544054128 tw3479414152384272051 tw9467542586782618222 tw18146229743485464044 tw7254539102388292470 tw12721923432042940254 tw11814583136212452974 tw4476001116545094799 tw13944830866002532885 tw7394287745520332145 tw7610011391593878585 tw12293031628382503323 tw9741788088146774835 tw4533159100555978553 tw14001378432184312524 tw13786621801512704462 tw17925779703220431711 tw6422137993005817918 tw3882450478718501155 tw16102217172999172666 tw6826070266726618789 tw17113212314092069110 tw15497696305119215197 tw14914812727365831777 tw15825873280325905982 tw4674929705870815844 tw1280451079163188413 tw14426246795592000273 tw7251332111577171160 tw17061779947645281158 tw810981435410904054 tw13435980260127609723 tw739885218866349212 tw10556068690590307934 tw16760600592818396858 tw16089637788116953995 tw7073610754468622035 tw14403178934765357312 tw12568383629040018957 tw518447986434336803 tw7998887302881493949 tw7002070752180019863 tw2135048152596744076 tw6554705132614630575 tw11018702799691000136 tw14995479013485271183 tw15742296560409921747 tw17906068670436549706 tw10421937581524133592 tw2996550231810833374 tw1054433405504113647 tw5073417732320236082 tw9104542699138357478 tw9003744070273516945 tw10459901549319205869 tw105307949850537366 tw6552066758700288743 tw5709647155451323109 tw10353879064609009817 tw4015131022768767313 tw2861620016633527536 tw10047049193112634031 tw17836878668486657517 tw7619795237004435785 tw4002587465889945705 tw15320512179642663916 tw3000640500708121794 tw1904645368543301462 tw7705420055195037911 tw3291578472293043138 tw16722307944150180084 tw14390826020055165881 tw12078116119037880413 tw13937945348233819686 tw17692503943738030395 tw12328286647708949388 tw1690800416677095640 tw11730584581306083089 tw2146887341079477656 tw222701187064990467 tw18225919958337596557 tw755545907472833201 tw7648258667286378330 tw10708553106707880172 tw1934431210293860857 tw15223020591926144248 tw13596703298611687173 tw7664945158612590622 tw2487923433378153849 tw2900513207291699779 tw5472582799470409076 tw13563666500643903230 tw8103062777356426378 tw5503572365076471701 tw11305029819069749164 tw14324394761264202 tw5895978101312987922 tw13825380507043466072 tw17503450810076323545 tw14320553056558732888 tw15656763668577099210 tw5251496822625327756 tw15462524312048377532 tw11431497457806581210 tw510927417702064259 tw17984140632761908139 tw17958956543838343651 tw314077784258043706 tw7234805294308130230 tw8319227924331603455 tw9682902596491343139 tw3209232574103060008 tw16667141323650789840 tw10750167328093206943 tw4936906214860429971 tw14054427089812064724 tw2188026105652200659 tw16078631904813456091 tw16978578963580290404 tw15173631895253914930 tw126214512892460546 tw15157589442806188124 tw12349013082294226498 tw3028717955579458209 tw17754956616382968848 tw15600318724521936106 tw7357776796135071152 tw10095403737101424220 tw11688489330541085989 tw7341155421894716832 tw6257739424217800929:True)
open PySem PySem.W PyProof.Rows
set_option maxRecDepth 100000 in
set_option maxHeartbeats 0 in
theorem PySem.Challenge.cw_shortpurse_k32_two_by_two_holds : PySem.Challenge.rw_shortpurse_k32_two_by_two.Holds := by
 w_on;o_law;k_head;(case hw=>w_witness2)
 k_fill
 refine K.walk (l:=PySem.Challenge.rw_shortpurse_k32_two_by_two) rfl rfl (λw h Y=>PySem.W.kIn_of Y) ?F
 case F=>
  intro w mg p h g G m;refine' K.all_mk g G m ?_ ?_ ?_ ?_ ?_ ?_ ?_ ?_ ?_ ?_ ?_ ?_ ?_ ?_ ?_ ?_ ?_ ?_ ?_ ?_ ?_ ?_ ?_ ?_ ?_ ?_ ?_ ?_ ?_ ?_ ?_ ?_ ?_ ?_ ?_ ?_ ?_ ?_ ?_ ?_ ?_ ?_ ?_ ?_ ?_ ?_ ?_ ?_ ?_ ?_ ?_ ?_ ?_ ?_ ?_ ?_ ?_ ?_ ?_ ?_ ?_ ?_ ?_ ?_ ?_ ?_ ?_ ?_ ?_ ?_ ?_ ?_ ?_ ?_ ?_ ?_ ?_ ?_ ?_ ?_ ?_ ?_ ?_ ?_ ?_ ?_ ?_ ?_ ?_ ?_ ?_ ?_ ?_ ?_ ?_ ?_ ?_ ?_ ?_ ?_ ?_ ?_ ?_ ?_ ?_ ?_ ?_ ?_ ?_ ?_ ?_
  all_goals try first
   |(refine' S.dk_mk g G ?a ?l ?c ?k ?b;(case a=>k_is);(case l=>k_is);(case c=>k_is);(case k=>k_is);(case b=>first|(exact λ_ _ _ _ _ _=>S.all1 λ_=>rfl)|(exact λ_ _ _ _ _ _=>S.all2 λ_ _=>rfl)|(exact λ_ _ _ _ _ _=>S.all3 λ_ _ _=>rfl)|(exact λ_ _ _ _ _ _=>S.all4 λ_ _ _ _=>rfl)|(exact λ_ _ _ _ _ _=>S.all5 λ_ _ _ _ _=>rfl)))
   |(refine' S.fk_mk ?l ?c ?k ?b;(case l=>k_is);(case c=>k_is);(case k=>k_is);(case b=>first|(exact λ_ _ _ _ _ _=>S.all1 λ_=>rfl)|(exact λ_ _ _ _ _ _=>S.all2 λ_ _=>rfl)|(exact λ_ _ _ _ _ _=>S.all3 λ_ _ _=>rfl)|(exact λ_ _ _ _ _ _=>S.all4 λ_ _ _ _=>rfl)|(exact λ_ _ _ _ _ _=>S.all5 λ_ _ _ _ _=>rfl)))
   |(exact S.CkT.mk (by k_is) (by k_is) (by k_is) (by k_is) (by k_is) (by k_is) (by k_is) (by k_is) (by k_is) (by k_is) (by k_is) (by k_is) (by kit_is) (by k_is) (by k_is) (by k_is))
   |(refine' S.Bl.mk ?_ ?_ ?_ ?_ ?_ ?_ ?_ ?_ ?_ ?_ ?_ ?_ ?_ ?_ ?_ ?_;all_goals exact PySem.W.mg_none_of g G (by k_is))
   |(refine' S.Bl3.mk ?_ ?_;all_goals exact PySem.W.mg_none_of g G (by k_is))
   |k_is
