import PyProof.Rows.All
import Wide.All
import OpenK.KLine
import OpenK.KWalk
import OpenK.KOwn
import KE.RegKIsAll
import KE.IntBitsLaws
import KE.KItem
import Wide.FinOn
import Lean
import PyProof.EqAt
import PyProof.EqKinds
import PyProof.TupleCall
import PyProof.Draws
import PyProof.EnumMake
import PyProof.ZipIter
import PyProof.Rows.SumAny
import KE.KRevIter
import PyProof.StrCalls2
import KE.KRevSl
import KE.LcSums
import PyProof.Rows.SetFrom
import PyProof.DictIter
import PyProof.CollectWalk
import PyProof.Rows.SortRev
import PySem.Challenge.RW_shortpurse_k42_whole_going_away_and_two
set_option autoImplicit true
set_option relaxedAutoImplicit true
set_option compiler.extract_closed false
set_option genSizeOfSpec false
set_option Elab.async false
set_option linter.all false
set_option maxRecDepth 100000
set_option maxHeartbeats 4000000
def Qa:=@List.getElem?_eq_getElem
def Qb:=@List.length_map
def Qc:=@PySem.wpAny_bind
def Qd:=@List.mem_of_getElem?
def Qe:=@List.mem_cons_of_mem
def Qf:=@List.getElem?_eq_some_iff
def Qg:=@List.mem_cons_self
def Qh:=@List.getElem?_map
def Qi:=@PySem.Heap.get?_push_of_some
def Qj:=@List.map_cons
def Qk:=@List.mem_map
def Ql:=@PySem.wpAny_pure
def Qm:=@List.not_mem_nil
def Qn:=@List.mem_cons
def Qo:=@List.map_map
def Qp:=@List.mem_singleton
def Qq:=@List.getD_eq_getElem?_getD
def Qr:=@List.pairwise_cons
def Qs:=@Nat.le_refl
def Qt:=@PySem.Heap.lt_size
def Qu:=@PySem.Heap.get?_push_size
def Qv:=@Bool.false_ne_true
def Qw:=@Option.some.inj
def Qx:=@List.getElem?_zipWith
def Qy:=@List.length_zipWith
def Qz:=@of_decide_eq_true
def QA:=@List.map_congr_left
def QB:=@List.mem_append_right
def QC:=@List.getElem?_eq_none
def QD:=@if_pos
def QE:=@List.length_cons
def QF:=@List.length_replicate
def QG:=@List.mem_iff_getElem?
def QH:=@Rat.intCast_le_intCast
def QI:=@if_neg
def QJ:=@List.size_toArray
def QK:=@List.getElem_of_mem
def QL:=@Rat.intCast_mul
def QM:=@List.length_append
def QN:=@Rat.mul_nonneg
def QO:=@Nat.ne_of_lt
def QP:=@Nat.le_trans
def QQ:=@Rat.le_of_lt
def QR:=@List.pairwise_iff_getElem
def QS:=@PySem.Heap.size_push
def QT:=@decide_eq_true
def QU:=@List.sum_cons
def QV:=@List.getElem_zipWith
def QW:=@List.mem_append
def QX:=@Nat.lt_of_lt_of_le
def QY:=@PySem.wpAny_callSpecial?_slot
def QZ:=@Int.fmod_eq_emod_of_nonneg
def Ta:=@List.getElem_mem
def Tb:=@List.pairwise_map
def Tc:=@List.mem_filter
def Td:=@Int.fdiv_eq_ediv_of_nonneg
def Te:=@Nat.lt_succ_self
def Tf:=@decide_eq_false
def Tg:=@Rat.le_refl
def Th:=@PySem.wpAny_call_entry
def Ti:=@PySem.Heap.SameBut.update
def Tj:=@List.getElem?_zip_eq_some
def Tn:=@PyProof.Rows.callWith_type1
def To:=@PySem.wpAny_newObj_type
def Tp:=@Int.toNat_natCast
def Tq:=@PySem.Heap.get?_update_other
def Tr:=@List.getLast?_eq_some_getLast
def Ts:=@List.map_append
def Tt:=@List.getElem?_replicate
def Tu:=@List.map_nil
def Tv:=@Nat.min_self
def Tw:=@Rat.mul_inv_cancel
def Tx:=@List.ext_getElem
def Tz:=@List.length_reverse
def TB:=@List.getElem_replicate
def TC:=@List.getElem?_append_right
def TF:=@Bool.and_eq_true
def TH:=@List.all_eq_true
def TK:=@Nat.lt_succ_of_lt
def TL:=@PySem.Heap.get?_update_self
def TM:=@Int.emod_lt_of_pos
def TN:=@PySem.wpAny_field
def TQ:=@List.replicate_succ
def TR:=@List.pairwise_append
def TU:=@List.mem_of_mem_tail
def TV:=@List.nodup_cons
def TX:=@Rat.not_lt
def TY:=@Array.length_toList
def TZ:=@Int.emod_nonneg
def jaa:=@List.getElem?_append_left
def jab:=@Nat.zero_le
def jac:=@Rat.div_def
def jad:=@List.dropLast_concat_getLast
def jae:=@PySem.W.mg_of
def jaf:=@Option.isSome_iff_exists
def jag:=@Nat.lt_irrefl
def jah:=@List.length_range
def jai:=@List.pairwise_singleton
def jaj:=@Array.getElem?_eq_some_iff
def jak:=@List.mem_append_left
def jal:=@Nat.le_succ
def jam:=@PySem.wpAny_pyIter_tuple
def jan:=@PySem.wpAny_Call_Name_kw
def jao:=@List.getElem?_drop
def jap:=@List.take_of_length_le
def jaq:=@List.zipWith_cons_cons
def jar:=@PySem.wpAny_holding
def jas:=@List.length_singleton
def jat:=@List.ext_getElem?
def jau:=@PySem.wpAny_seqItems
def jav:=@Bool.false_eq_true
def jaw:=@List.getElem?_set_ne
def jax:=@PySem.Around.under_plainId
def jay:=@Nat.ne_of_gt
def jaz:=@List.getElem_map
def jaA:=@Rat.intCast_lt_intCast
def jaB:=@PySem.mem_of_lookup
def jaC:=@List.getLast?_map
def jaD:=@PySem.wpAny_attempt
def jaE:=@List.getElem?_eq_none_iff
def jaF:=@List.length_set
def jaG:=@Rat.divInt_mul_divInt
def jaH:=@Int.le_trans
def jaI:=@PySem.wpAny_setField_rec
def jaJ:=@List.length_drop
def jaK:=@List.lookup_cons
def jaL:=@List.cons_append
def jaM:=@List.length_tail
def jaN:=@List.filter_cons
def jaO:=@List.mem_of_getLast?
def jaP:=@Rat.lt_irrefl
def jaQ:=@List.getLast?_cons_cons
def jaR:=@Int.gcd_pos_of_ne_zero_right
def jaS:=@PyProof.Rows.F.plain_set_update_loop
def jaT:=@PySem.wpAny_pyIter_list
def jaU:=@List.filterMap_cons
def jaV:=@beq_eq_false_iff_ne
def jaW:=@PySem.W.kia_one
def jaX:=@List.append_nil
def jaY:=@PySem.codeAny_builtin
def jaZ:=@List.map_const'
def jba:=@Rat.intCast_sub
def jbb:=@List.length_pos_iff
def jbc:=@PySem.F.slot_tuple_iterator_next
def jbd:=@List.length_take
def jbe:=@Int.le_of_lt
def jbf:=@List.Pairwise.sublist
def jbg:=@List.mem_range
def jbh:=@PySem.wpAny_setField
def jbi:=@PySem.wpAny_passesOwn
def jbj:=@PySem.wpAny_loadPart'
def jbk:=@List.append_assoc
def jbl:=@List.take_add_one
def jbm:=@Int.mul_le_mul_of_nonneg_right
def jbn:=@PySem.wpAny_setEntries_of
def jbo:=@List.mem_singleton_self
def jbp:=@Rat.not_le
def jbq:=@PySem.SeqAt.canLay_of_shaped
def jbr:=@PySem.W.callWith_K
def jbs:=@Rat.num_divInt_den
def jbt:=@List.map_replicate
def jbu:=@Nat.le_of_lt
def jbv:=@Bool.eq_iff_iff
def jbw:=@List.of_mem_zip
def jbx:=@List.nil_append
def jby:=@PySem.F.called_set
def jbz:=@Rat.le_antisymm
def jbA:=@List.length_filter_le
def jbB:=@List.flatten_cons
def jbC:=@PySem.wpAny_setState_of
def jbD:=@List.Pairwise.imp
def jbE:=@List.getLast?_eq_getElem?
def jbF:=@List.mem_reverse
def jbG:=@Int.mul_one
def jbH:=@PySem.wpAny_comprehension_free
def jbI:=@Rat.divInt_eq_divInt_iff
def jbJ:=@Rat.zero_mul
def jbK:=@PySem.Obj.data_mapFields
def jbL:=@Int.natCast_pow
def jbM:=@List.getLast?_cons
def jbN:=@PySem.wpAny_truthy_bool
def jbO:=@PySem.wpAny_rule
def jbP:=@List.Sublist.refl
def jbQ:=@Int.le_refl
def jbR:=@Rat.mul_pos
def jbS:=@PySem.codeAny_mono
def jbT:=@Rat.le_trans
def jbU:=@Nat.le_of_ble_eq_true
def jbV:=@List.zipWith_map
abbrev Frg:=PySem.W.Frag
abbrev Pn:=List (PySem.Addr×PySem.Obj)
set_option exponentiation.threshold 2000
local macro_rules|`(⋯)=>`(by first|lia|omega)
local macro_rules|`(nofun)=>`(by decide)
local macro_rules|`(‹$h:ident›)=>`(by simpa using $h)
local macro_rules|`(‹()›)=>`(by walk_at "dats")
local macro_rules|`(tactic|walk_at "f")=>`(tactic|first|exact .inl rfl|exact .inr rfl|assumption)
local macro_rules|`(tactic|walk_at "o")=>`(tactic|first|exact Or.inl rfl|exact Or.inr rfl)
local macro_rules|`(tactic|walk_at "v")=>`(tactic|first|exact Or.inl rfl|exact Or.inr (Or.inl rfl)|exact Or.inr (Or.inr rfl))
local macro_rules|`(tactic|walk_at "l")=>`(tactic|first|decide|exact Qs _|lia)
namespace L2
open PySem PySem.Spec PyProof.Rows
abbrev Key:=Sum Int Str
inductive V where
 |non|bl (b:Bool)|int (i:Int)|str (x:Str)|ref (a:Addr)|ty (n:String)
 deriving DecidableEq
def Zw:V->Value->Prop
 | .non,u=>u=Value.none
 | .bl b,u=>u=Value.bool b
 | .int i,u=>∃t,u=Value.int i t
 | .str x,u=>∃t,u=Value.str x t
 | .ref a,u=>u=Value.ref a
 | .ty n,u=>u=Value.type n
abbrev xi:List V->List Value->Prop:=Paired Zw
def xi.length {xs:List V} {us:List Value} (r:xi xs us):xs.length=us.length:=Paired.length r
theorem xi.get:∀{xs:List V} {us:List Value} {i:Nat} {x:V},xi xs us->xs[i]? =some x->∃u,us[i]? =some u/\Zw x u
 |_,_,_,_, .nil,e=>by simp at e
 |_,_,0,_, .cons r _,e=>by simp at e;subst e;exact ⟨_,rfl,r⟩
 |_,_,i+1,x, .cons _ t,e=>by
  obtain ⟨u,m,g⟩:=xi.get (i:=i) (x:=x) t ‹e›;exact ⟨u,by simpa using m,g⟩
theorem xi.set {x:V} {u:Value} (r:Zw x u):∀{xs:List V} {us:List Value} (i:Nat),xi xs us->xi (xs.set i x) (us.set i u)
 |_,_,_, .nil=> .nil
 |_,_,0, .cons _ t=> .cons r t
 |_,_,i+1, .cons q t=> .cons q (xi.set r i t)
def xi.append {xs ys:List V} {us ws:List Value} (h:xi xs us) (s:xi ys ws):xi (xs++ys) (us++ws):=by
 induction h with
 |nil=>exact s
 |cons r t g=>exact .cons r g
theorem xi.take:∀{xs:List V} {us:List Value} (n:Nat),xi xs us->xi (xs.take n) (us.take n)
 |_,_,0,_=> .nil
 |_,_,_+1, .nil=> .nil
 |_,_,n+1, .cons r t=> .cons r (xi.take n t)
theorem xi.drop:∀{xs:List V} {us:List Value} (n:Nat),xi xs us->xi (xs.drop n) (us.drop n)
 |_,_,0,r=>r
 |_,_,_+1, .nil=> .nil
 |_,_,n+1, .cons _ t=>xi.drop n t
def Ii:Option V->Option Value->Prop
 |some v,some u=>Zw v u
 |none,none=>True
 |_,_=>False
def kV:Key->V
 | .inl i=> .int i
 | .inr x=> .str x
inductive HO where
 |lst (xs:List V)
 |tup (xs:List V)
 |ins (C dx:Addr) (fs:List (Str×V))
 |own (x:Addr)
 |frz (o:Obj) (u:HO)
 |tbl (ps:Array Value)
abbrev Hp:=Addr->Option HO
def upd (H:Hp) (a:Addr) (o:HO):Hp:=λb=>if b=a then some o else H b
def ya {H:Hp} {a:Addr} {o:HO}:upd H a o a=some o:=by unfold upd;rw [QD rfl]
def zP {H:Hp} {a b:Addr} {o:HO} (h:b≠a):upd H a o b=H b:=by unfold upd;rw [QI h]
def zU {H:Hp} {a b:Addr} {o:HO} (h:H a=some o) (h':H b=none):a≠b:=by
 intro e;subst e;rw [h] at h';cases h'
section
variable (P:Program) (w:World)
def Yg (P:Program) (w:World) (H:Hp) (h:Heap) (a:Addr):HO->Prop
 | .lst xs=>xs.length<=sizeLine/\∃(its:List Value) (n:Nat),xi xs its/\h.get? a=some {cls:= .type "list",data:= .seq its.toArray n}
 | .tup xs=>xs.length<=sizeLine/\∃its:List Value,xi xs its/\IsTup h a its.toArray
 | .ins C g fs=>H g=some (.own a)/\fs.length<=1000/\g≠a/\h.get? a=some (PySem.W.instObj C g)/\
  ∃m,h.Ns1 g m/\(∀f,Ii (fs.lookup f) (m f))/\PySem.Within m (fs.map (·.1))
 | .own _=>∃o,h.get? a=some o
 | .frz o u=>h.get? a=some o/\Yg P w H h a u
 | .tbl ps=>h.get? a=some {cls:= .none,data:= .fields ps}
def HOk (H:Hp) (h:Heap):Prop:=∀a o,H a=some o->Yg P w H h a o
end
section
def Yg.lt (x:Yg P w H h a o):a<h.objs.size:=by
 cases o with
 |lst xs=>obtain ⟨_,_,_,_,e⟩:=x;exact Qt e
 |tup xs=>obtain ⟨_,_,_,p⟩:=x;exact p.lt
 |ins C m fs=>obtain ⟨_,_,_,e,_⟩:=x;exact Qt e
 |own y=>obtain ⟨_,e⟩:=x;exact Qt e
 |frz g u=>obtain ⟨e,_⟩:=x;exact Qt e
 |tbl ps=>exact Qt (show h.get? a=some _ from x)
def Yg.stay (x:Yg P w H h a o) (k:∀b u,(b=a\/H b=some (.own a))->h.get? b=some u->h'.get? b=some u)
 (t:∀b,H b=some (.own a)->H' b=some (.own a)) (ht:∀b xs,H b=some (.tup xs)->H' b=some (.tup xs)):Yg P w H' h' a o:=by
 induction o with
 |lst xs=>obtain ⟨z,its,n,r,e⟩:=x;exact ⟨z,its,n,r,k _ _ (.inl rfl) e⟩
 |tup xs=>obtain ⟨z,its,r,g,e,c⟩:=x;exact ⟨z,its,r,g,k _ _ (.inl rfl) e,c⟩
 |ins C D fs=>
  obtain ⟨d,z,ne,e,p,⟨m,es,ep,A,c⟩,r⟩:=x;exact ⟨t _ d,z,ne,k _ _ (.inl rfl) e,p,⟨m,es,ep,k _ _ (.inr d) A,c⟩,r⟩
 |own y=>obtain ⟨g,e⟩:=x;exact ⟨g,k _ _ (.inl rfl) e⟩
 |frz g u s=>obtain ⟨e,q⟩:=x;exact ⟨k _ _ (.inl rfl) e,s q⟩
 |tbl ps=>
  have e:h.get? a=some {cls:= .none,data:= .fields ps}:=x;show h'.get? a=some {cls:= .none,data:= .fields ps};exact k a _ (.inl rfl) e
def HOk.lt (x:HOk P w H h) (e:H a=some o):a<h.objs.size:=(x a o e).lt
def HOk.fresh (x:HOk P w H h) (e:h.objs.size<=a):H a=none:=by
 cases q:H a with
 |none=>rfl
 |some u=>exact absurd (QX (x.lt q) e) (jag _)
def HOk.kept (x:HOk P w H h) (k:∀b u,h.get? b=some u->h'.get? b=some u):HOk P w H h':=λa o e=>
 (x a o e).stay (λb u _ q=>k b u q) (λ_ q=>q) λ_ _ q=>q
def HOk.laid (x:HOk P w H h) (k:∀b u,h.get? b=some u->h'.get? b=some u) (hp:h.objs.size<=a) (new:Yg P w (upd H a o) h' a o):HOk P w (upd H a o) h':=λb u e=>by
 have hn:=x.fresh hp
 by_cases g:b=a
 ·subst g;rw [ya] at e;cases e;exact new
 ·rw [zP g] at e;exact (x b u e).stay (λc v _ q=>k c v q) (λc q=>by rw [zP (zU q hn)];exact q) λc xs q=>by rw [zP (zU q hn)];exact q
end
def Rd (H:Hp) (a:Addr) (u:HO):Prop:=H a=some u\/∃o,H a=some (.frz o u)
def Rd.ok {P:Program} {w:World} {H:Hp} {h:Heap} {a:Addr} {u:HO} (r:Rd H a u) (x:HOk P w H h):Yg P w H h a u:=by
 rcases r with r|⟨o,r⟩
 ·exact x a u r
 ·obtain ⟨_,q⟩:=x a _ r;exact q
def Mut:Option HO->Prop
 |some (.lst _)=>True
 |some (.ins _ _ _)=>True
 |_=>False
section
def HOk.write (ok:HOk P w H h) (p:Mut (H x)) (he:e=x\/H e=some (.own x)) (k:∀b u,b≠e->h.get? b=some u->h'.get? b=some u) (G:∃u,h'.get? e=some u)
 (new:Yg P w (upd H x o') h' x o'):HOk P w (upd H x o') h':=λb u q=>by
 have g:∀c y,H c=some (.own y)->c≠x:=λc y r z=>by subst z;rw [r] at p;exact p
 have m:∀c xs,H c=some (.tup xs)->c≠x:=λc xs r z=>by subst z;rw [r] at p;exact p
 by_cases t:b=x
 ·subst t;rw [ya] at q;cases q;exact new
 ·rw [zP t] at q
  by_cases A:b=e
  ·have C:H b=some (.own x):=by
    rcases he with z|z
    ·exact absurd (A.trans z) t
    ·rw [A];exact z
   rw [q] at C;cases C;obtain ⟨v,D⟩:=G;exact ⟨v,by rw [A];exact D⟩
  ·refine (ok b u q).stay (λc v s r=>k c v ?_ r) (λc r=>by rw [zP (g c b r)];exact r) λc xs r=>by rw [zP (m c xs r)];exact r
   rcases s with rfl|s
   ·exact A
   ·rintro rfl
    rcases he with z|z
    ·exact g c b s z
    ·rw [s] at z;cases z;exact t rfl
end
structure Un (fs ex:List Addr) (H H':Hp) (h h':Heap):Prop where
 keep:∀b o,h.get? b=some o->H b=none->b∉fs->b∉ex->h'.get? b=some o
 slot:∀b o,h.get? b=some o->H b=none->b∈fs->b∉ex->∃sl,h'.get? b=some {o with slots:=sl}
 free:∀b o,h.get? b=some o->H b=none->b∉ex->H' b=none
 there:∀b o,h.get? b=some o->b∉ex->∃o',h'.get? b=some o'
 tups:∀b xs,H b=some (.tup xs)->H' b=some (.tup xs)
 frzs:∀b o u,H b=some (.frz o u)->H' b=some (.frz o u)
 tbls:∀b ps,H b=some (.tbl ps)->∃more,H' b=some (.tbl (ps++more))
section
def Un.any (u:Un fs ex H H1 h h1) {b:Addr} {g:Obj} (q:h.get? b=some g) (n:H b=none) (m:b∉ex):∃sl,h1.get? b=some {g with slots:=sl}:=by
 by_cases p:b∈fs
 ·exact u.slot b g q n p m
 ·exact ⟨g.slots,u.keep b g q n p m⟩
def Un.trans (a:Un fs ex H H1 h h1) (b:Un fs ex H1 H2 h1 h2):Un fs ex H H2 h h2 where
 keep:=λc g q n r m=>b.keep c g (a.keep c g q n r m) (a.free c g q n m) r m
 slot:=λc g q n r m=>by
  obtain ⟨sl,p⟩:=a.slot c g q n r m;obtain ⟨s,u⟩:=b.slot c _ p (a.free c g q n m) r m;exact ⟨s,u⟩
 free:=λc g q n m=>by
  obtain ⟨t,p⟩:=a.there c g q m;exact b.free c t p (a.free c g q n m) m
 there:=λc g q m=>by
  obtain ⟨t,p⟩:=a.there c g q m;exact b.there c t p m
 tups:=λc xs q=>b.tups c xs (a.tups c xs q)
 frzs:=λc g xs q=>b.frzs c g xs (a.frzs c g xs q)
 tbls:=λc ps q=>by
  obtain ⟨m1,p⟩:=a.tbls c ps q;obtain ⟨m2,u⟩:=b.tbls c _ p;exact ⟨m1++m2,by rw [u,Array.append_assoc]⟩
def Un.kept (k:∀b u,h.get? b=some u->h'.get? b=some u):Un fs ex H H h h':=
 ⟨λb g q _ _ _=>k b g q,λb g q _ _ _=>⟨g.slots,k b g q⟩,λ_ _ _ n _=>n,λb g q _=>⟨g,k b g q⟩,λ_ _ q=>q,λ_ _ _ q=>q,λ_ ps q=>⟨#[],by rw [q];simp⟩⟩
def Un.refl:Un fs ex H H h h:=Un.kept λ_ _ q=>q
def Un.laid (k:∀b u,h.get? b=some u->h'.get? b=some u) (hp:h.objs.size<=a) (hn:H a=none):Un fs ex H (upd H a o) h h' where
 keep:=λb u q _ _ _=>k b u q
 slot:=λb u q _ _ _=>⟨u.slots,k b u q⟩
 free:=λb u q n _=>by rw [zP (QO (QX (Qt q) hp))];exact n
 there:=λb u q _=>⟨u,k b u q⟩
 tups:=λb xs q=>by rw [zP (zU q hn)];exact q
 frzs:=λb u xs q=>by rw [zP (zU q hn)];exact q
 tbls:=λb ps q=>⟨#[],by rw [zP (zU q hn),q];simp⟩
def Un.write (g:Mut (H x)) (he:e=x\/H e=some (.own x)) (k:∀b u,b≠e->h.get? b=some u->h'.get? b=some u) (t:∃u,h'.get? e=some u):Un fs ex H (upd H x o) h h':=by
 have m:∀b,H b=none->b≠x:=λb n z=>by subst z;rw [n] at g;exact g
 have p:∀b,H b=none->b≠e:=λb n z=>by
  subst z
  rcases he with r|r
  ·exact m b n r
  ·rw [n] at r;cases r
 have hm:∀b u,H b=some u->¬Mut (some u)->b≠x:=λb u q nm z=>by subst z;rw [q] at g;exact nm g
 refine ⟨λb u q n _ _=>k b u (p b n) q,λb u q n _ _=>⟨u.slots,k b u (p b n) q⟩,λb u q n _=>by rw [zP (m b n)];exact n,λb u q _=>?_,
  λb xs q=>by rw [zP (hm b _ q λz=>z)];exact q,λb u xs q=>by rw [zP (hm b _ q λz=>z)];exact q,λb ps q=>⟨#[],by rw [zP (hm b _ q λz=>z),q];simp⟩⟩
 by_cases s:b=e
 ·subst s;exact t
 ·exact ⟨u,k b u s q⟩
end
def trk (h:Heap) (H:Hp):List Addr:=(List.range h.objs.size).filter λa=>(H a).isSome
def Hy (h:Heap) (H:Hp):Heap:=PySem.W.hideAll h (trk h H)
def DK (h:Heap) (H:Hp):(Hy h H).objs.size=h.objs.size:=PySem.W.hideAll_size _ _
def Hx {h:Heap} {H:Hp} {b:Addr} {o:Obj} (e:h.get? b=some o) (n:H b=none):(Hy h H).get? b=some o:=
 PySem.W.hideAll_get _ e λhm=>by
  have q:(H b).isSome=true:=(Tc.mp hm).2;rw [n] at q;simp at q
def La {h:Heap} {H:Hp} {b:Addr} {o:Obj} (e:(Hy h H).get? b=some o):h.get? b=some o/\H b=none:=by
 have g:h.get? b=some o:=PySem.W.of_hideAll (trk h H) e;refine ⟨g,?_⟩
 cases q:H b with
 |none=>rfl
 |some x=>
  have hm:b∈trk h H:=Tc.mpr ⟨jbg.mpr (Qt g),by simp [q]⟩;have z:(Hy h H).get? b=none:=PySem.W.hideAll_none (trk h H) hm;rw [z] at e;cases e
def LW (g h:Heap) (L:Addr):List (Addr×Obj):=(List.range h.objs.size).filterMap λa=>if a=L\/(g.get? a).isSome=true then none else (h.get? a).map λo=>(a,o)
def rest (g h:Heap) (L d:Addr):List (Addr×Obj):=(LW g h L).filter λp=>decide (p.1≠d)
structure Mod (K:Frg) (mg:Str->Option Value) (base:Heap):Prop where
 kin:K.In base
 glob:base.Ns mainGlobals mg
 blt:∃mb,base.Ns builtinsNs mb/\∀x:Str,x≠"__name__"->mb x=bootBuiltins x
 nolimit:base.NoLimit
structure Cx where
 prog:Program
 w:World
 K:Frg
 mg:Str->Option Value
 base:Heap
 A:Around
 N:List Str
 s₀:Shared
 H₀:Hp
 env:Env
 outer:List Env
 stack:List Env
 ex:List Addr
 fn:Str->Bool
 calm:Bool
 pn:List (Addr×Obj)
 xe:Value->Shared->Prop
def frs (l:List Env):List Addr:=l.filterMap (·.frame)
abbrev Cx.fs (X:Cx):List Addr:=frs X.outer
def Vis (sc:Scope) (x:Str):Prop:=sc.names.lookup x=some .local\/sc.names.lookup x=some .cell\/sc.names.lookup x=some .free
def Loc (sc:Scope) (x:Str):Prop:=sc.names.lookup x=some .local\/sc.names.lookup x=some .cell
def Look (env:Env) (h:Heap) (m:Str->Option Value) (x:Str) (u:Value):Prop:=
 (env.kindOf x=some .local/\m x=some u)\/((env.kindOf x=some .cell\/env.kindOf x=some .free)/\∃c,env.cells.lookup x=some c/\h.IsCell c (some u))
structure Cx.Ok (X:Cx):Prop where
 mod:Mod X.K X.mg X.base
 kind:X.env.scope.kind= .function
 glob:X.env.globals=mainGlobals
 blt:X.env.builtins=builtinsNs
 above:X.s₀.heap.objs.size<=X.env.locals
 inj:∀x y c,X.env.cells.lookup x=some c->X.env.cells.lookup y=some c->x=y
 has:∀x,(X.env.kindOf x=some .cell\/X.env.kindOf x=some .free)->∃c,X.env.cells.lookup x=some c
 cab:∀x c,X.fn x=true->X.env.cells.lookup x=some c->X.s₀.heap.objs.size<=c
 hd:X.calm=true->X.A.handled=none
 frames:X.A.frames=some X.stack
 stk:X.stack=X.outer\/(X.stack=X.env::X.outer/\X.env.frame=some X.env.locals)
 exf:∀b∈X.ex,b≠X.env.locals/\∀x c,X.env.cells.lookup x=some c->c≠b
 bs:∀b o,X.base.get? b=some o->X.s₀.heap.get? b=some o/\X.H₀ b=none
 bsz:X.base.objs.size<=X.s₀.heap.objs.size
 noex:∀b o,X.base.get? b=some o->b∉X.ex
 exfs:∀b∈X.ex,b∉X.fs
 funs:X.s₀.heap.FunFrames X.base X.outer
 frf:∀b∈X.fs,X.H₀ b=none
structure Inv (X:Cx) (pins:Pn) (σ:List (Option V)) (H:Hp) (s:Shared):Prop where
 ok:X.Ok
 os:s.os=X.s₀.os
 bare:AllBare s.gens
 base:Un X.fs X.ex X.H₀ H X.s₀.heap s.heap
 loc:∃m,s.heap.Ns X.env.locals m/\∀(i:Nat) (x:Str) (v:V),X.N[i]? =some x->σ[i]? =some (some v)->Vis X.env.scope x->∃u,Zw v u/\Look X.env s.heap m x u
 cell:∀x c,X.env.cells.lookup x=some c->∃v,s.heap.IsCell c v
 free:H X.env.locals=none
 freeC:∀x c,X.env.cells.lookup x=some c->H c=none
 pin:∀p∈X.pn++pins,s.heap.get? p.1=some p.2/\H p.1=none/\p.1≠X.env.locals/\p.1∉X.fs/\∀v,p.2.data≠ .cell v
 hok:HOk X.prog X.w H s.heap
 len:σ.length=X.N.length
section
variable {X:Cx} {pins:Pn} {σ:List (Option V)} {H H':Hp} {s:Shared}
def Cx.Ok.nofr (ok:X.Ok) {b:Addr} {o:Obj} (e:X.base.get? b=some o):b∉X.fs:=λg=>by
 have:=(ok.funs.mem g).1;rw [e] at this;cases this
def Inv.bs (I:Inv X pins σ H s):∀b o,X.base.get? b=some o->s.heap.get? b=some o/\H b=none:=λb o e=>
 ⟨I.base.keep b o (I.ok.bs b o e).1 (I.ok.bs b o e).2 (I.ok.nofr e) (I.ok.noex b o e),I.base.free b o (I.ok.bs b o e).1 (I.ok.bs b o e).2 (I.ok.noex b o e)⟩
def Inv.bk (I:Inv X pins σ H s):∀b o,X.base.get? b=some o->s.heap.get? b=some o:=λb o e=>(I.bs b o e).1
def Inv.mod (I:Inv X pins σ H s):Mod X.K X.mg X.base:=I.ok.mod
def Inv.kIn (I:Inv X pins σ H s):X.K.In s.heap:=I.ok.mod.kin.keeps I.bk
def Inv.lt (I:Inv X pins σ H s):X.env.locals<s.heap.objs.size:=by
 obtain ⟨_,hn,_⟩:=I.loc;exact hn.lt
def Inv.sz (I:Inv X pins σ H s):X.s₀.heap.objs.size<=s.heap.objs.size:=QP I.ok.above (jbu I.lt)
def Inv.nofs (I:Inv X pins σ H s) {a:Addr} (h:s.heap.objs.size<=a):a∉X.fs:=λm=>by
 obtain ⟨_,o,g,_⟩:=I.ok.funs.mem m;exact absurd (QX (Qt g) (QP I.sz h)) (jag _)
def Inv.cne (I:Inv X pins σ H s):∀x c,X.env.cells.lookup x=some c->c≠X.env.locals:=λx c e z=>by
 obtain ⟨v,o,g,hd⟩:=I.cell x c e;obtain ⟨m,⟨r,es,ep,p,q,_⟩,_⟩:=I.loc;rw [z,p] at g;cases g;rw [q] at hd;cases hd
def Inv.funs (I:Inv X pins σ H s):s.heap.FunFrames X.base X.outer:=by
 have all:∀(l:List Env),(∀b∈frs l,b∈X.fs)->X.s₀.heap.FunFrames X.base l->s.heap.FunFrames X.base l:=by
  intro l
  induction l with
  |nil=>intro _ _;trivial
  |cons env r q=>
   intro p u;obtain ⟨w,⟨L,o,hf,hn,t,hd⟩,hr⟩:=u;have m:L∈X.fs:=p L (by unfold frs;rw [jaU,hf];exact Qg);obtain ⟨sl,e⟩:=I.base.slot L o t (I.ok.frf L m) m λz=>I.ok.exfs L z m;exact ⟨w,⟨L,_,hf,hn,e,hd⟩,q (λb g=>p b (by unfold frs;rw [jaU,hf];exact Qe _ g)) hr⟩
 exact all X.outer (λ_ g=>g) I.ok.funs
def Inv.stack (I:Inv X pins σ H s):s.heap.FunFrames X.base X.stack:=by
 rcases I.ok.stk with e|⟨e,hf⟩
 ·rw [e];exact I.funs
 ·rw [e];obtain ⟨m,hn,_⟩:=I.loc;refine .cons (by rw [I.ok.kind];decide) hf hn ?_ I.funs;exact Heap.get?_none_of_le (QP I.ok.bsz I.ok.above)
def Inv.stkSub (I:Inv X pins σ H s):∀b∈frs X.stack,b∈X.env.locals::X.fs:=λb g=>by
 rcases I.ok.stk with e|⟨e,hf⟩
 ·rw [e] at g;exact Qe _ g
 ·rw [e] at g;unfold frs at g;rw [jaU,hf] at g;exact g
def Inv.stkFree (I:Inv X pins σ H s):∀b∈frs X.stack,H b=none:=λb g=>by
 rcases Qn.mp (I.stkSub b g) with e|g
 ·rw [e];exact I.free
 ·obtain ⟨_,o,m,_⟩:=I.ok.funs.mem g;exact I.base.free b o m (I.ok.frf b g) λz=>I.ok.exfs b z g
def Inv.step {g':Array GenState} {t':Nat} {d':Drawn} {ch:List Addr} (I:Inv X pins σ H s)
 (L:∀b∈ch,(b∈X.ex\/X.s₀.heap.objs.size<=b)/\b≠X.env.locals/\(∀x c,X.env.cells.lookup x=some c->c≠b)/\∀p∈X.pn++pins,p.1≠b)
 (keep:∀b o,b≠X.env.locals->b∉X.fs->b∉ch->s.heap.get? b=some o->H b=none->h'.get? b=some o)
 (slot:∀b o,b≠X.env.locals->b∈X.fs->b∉ch->s.heap.get? b=some o->H b=none->∃sl,h'.get? b=some {o with slots:=sl}) (free:∀b o,b∉ch->s.heap.get? b=some o->H b=none->H' b=none)
 (there:∀b o,b∉ch->s.heap.get? b=some o->∃G,h'.get? b=some G)
 (tups:∀b xs,H b=some (.tup xs)->H' b=some (.tup xs)) (frzs:∀b o u,H b=some (.frz o u)->H' b=some (.frz o u)) (tbls:∀b ps,H b=some (.tbl ps)->∃more,H' b=some (.tbl (ps++more)))
 (ns:∀m,s.heap.Ns X.env.locals m->h'.Ns X.env.locals m) (hok:HOk X.prog X.w H' h') (P:AllBare g'):
 Inv X pins σ H' {s with heap:=h',gens:=g',drawn:=d',toks:=t'}:=by
 have J:∀b o,X.s₀.heap.get? b=some o->b≠X.env.locals:=λb o e=>QO (QX (Qt e) I.ok.above)
 have y:∀b o,X.s₀.heap.get? b=some o->b∉X.ex->b∉ch:=λb o e g C=>by
  rcases (L b C).1 with z|z
  ·exact g z
  ·exact absurd (QX (Qt e) z) (jag _)
 have cellK:∀x c,X.env.cells.lookup x=some c->∀v,s.heap.IsCell c v->h'.IsCell c v:=λx c e v ⟨o,D,hd⟩=>by
  have t:c∉ch:=λz=>(L c z).2.2.1 x c e rfl
  by_cases N:c∈X.fs
  ·obtain ⟨sl,q⟩:=slot c o (I.cne x c e) N t D (I.freeC x c e);exact ⟨_,q,hd⟩
  ·exact ⟨o,keep c o (I.cne x c e) N t D (I.freeC x c e),hd⟩
 refine ⟨I.ok,I.os,P,⟨λb o e n C g=>?_,λb o e n C g=>?_,λb o e n g=>?_,λb o e g=>?_,λb xs e=>tups b xs (I.base.tups b xs e),λb o xs e=>frzs b o xs (I.base.frzs b o xs e),λb ps e=>?_⟩,?_,λx c e=>?_,?_,λx c e=>?_,λp hp=>?_,hok,I.len⟩
 ·exact keep b o (J b o e) C (y b o e g) (I.base.keep b o e n C g) (I.base.free b o e n g)
 ·obtain ⟨sl,A⟩:=I.base.slot b o e n C g;obtain ⟨M,K⟩:=slot b _ (J b o e) C (y b o e g) A (I.base.free b o e n g);exact ⟨M,K⟩
 ·obtain ⟨G,A⟩:=I.base.there b o e g;exact free b G (y b o e g) A (I.base.free b o e n g)
 ·obtain ⟨G,A⟩:=I.base.there b o e g;exact there b G (y b o e g) A
 ·obtain ⟨m1,A⟩:=I.base.tbls b ps e;obtain ⟨m2,K⟩:=tbls b _ A;exact ⟨m1++m2,by rw [K,Array.append_assoc]⟩
 ·obtain ⟨m,hn,O⟩:=I.loc;refine ⟨m,ns m hn,λi x v A K T=>?_⟩;obtain ⟨u,r,l⟩:=O i x v A K T;refine ⟨u,r,?_⟩
  rcases l with l|⟨k,c,e,z⟩
  ·exact .inl l
  ·exact .inr ⟨k,c,e,cellK x c e _ z⟩
 ·obtain ⟨v,z⟩:=I.cell x c e;exact ⟨v,cellK x c e v z⟩
 ·obtain ⟨m,⟨o,_,_,D,_⟩,_⟩:=I.loc;exact free _ o (λz=>(L _ z).2.1 rfl) D I.free
 ·obtain ⟨v,o,D,hd⟩:=I.cell x c e;exact free c o (λz=>(L c z).2.2.1 x c e rfl) D (I.freeC x c e)
 ·obtain ⟨e,n,ne,nf,d⟩:=I.pin p hp;have t:p.1∉ch:=λz=>(L p.1 z).2.2.2 p hp rfl;exact ⟨keep p.1 p.2 ne nf t e n,free p.1 p.2 t e n,ne,nf,d⟩
def Inv.un {t':Nat} (I:Inv X pins σ H s) (u:Un X.fs [] H H' s.heap h') (hok:HOk X.prog X.w H' h'):Inv X pins σ H' {s with heap:=h',toks:=t'}:=by
 obtain ⟨m,⟨o,es,ep,q,r⟩,_⟩:=id I.loc;obtain ⟨sl,A⟩:=u.any q I.free (by simp)
 exact I.step (g':=s.gens) (d':=s.drawn) (ch:=[]) (λ_ z=>nomatch z) (λb o _ g _ e n=>u.keep b o e n g (by simp)) (λb o _ g _ e n=>u.slot b o e n g (by simp)) (λb o _ e n=>u.free b o e n (by simp)) (λb o _ e=>u.there b o e (by simp)) u.tups u.frzs u.tbls (λG hm=>by
  obtain ⟨D,p,C,t,y⟩:=hm;rw [q] at t;cases t
  exact ⟨_,p,C,A,y⟩) hok I.bare
def Inv.call {g':Array GenState} {t':Nat} {d':Drawn} {ch:List Addr} (I:Inv X pins σ H s) (u:Un (frs X.stack) ch H H' s.heap h') (hok:HOk X.prog X.w H' h') (G:AllBare g')
 (C:∀b∈ch,(b∈X.ex\/X.s₀.heap.objs.size<=b)/\b≠X.env.locals/\(∀x c,X.env.cells.lookup x=some c->c≠b)/\∀p∈X.pn++pins,p.1≠b):
 Inv X pins σ H' {s with heap:=h',gens:=g',drawn:=d',toks:=t'}:=by
 obtain ⟨m,⟨o,es,ep,y,r⟩,_⟩:=id I.loc;obtain ⟨sl,q⟩:=u.any y I.free λz=>(C _ z).2.1 rfl
 exact I.step (ch:=ch) C (λb o q J g e n=>u.keep b o e n (λz=>(Qn.mp (I.stkSub b z)).elim q J) g) (λb o _ _ g e n=>u.any e n g) (λb o g e n=>u.free b o e n g) (λb o g e=>u.there b o e g) u.tups u.frzs u.tbls (λM hm=>by
  obtain ⟨L,t,K,A,D⟩:=hm;rw [y] at A;cases A
  exact ⟨_,t,K,q,D⟩) hok G
def Inv.turned {t':Nat} {it:Addr} (I:Inv X pins σ H s) (k:∀b o,b≠it->s.heap.get? b=some o->h'.get? b=some o) (hn:H it=none) (w:it≠X.env.locals)
 (G:it∈X.ex\/X.s₀.heap.objs.size<=it) (D:∀x c,X.env.cells.lookup x=some c->c≠it) (C:∀p∈X.pn++pins,p.1≠it):Inv X pins σ H {s with heap:=h',toks:=t'}:=by
 have t:∀b u,H b=some u->b≠it:=λb u e z=>by rw [z,hn] at e;cases e
 refine I.step (g':=s.gens) (d':=s.drawn) (ch:=[it]) (λb A=>?_) (λb o _ _ g e _=>k b o (λz=>g (by simp [z])) e) (λb o _ _ g e _=>⟨o.slots,k b o (λz=>g (by simp [z])) e⟩) (λ_ _ _ _ n=>n)
  (λb o g e=>⟨o,k b o (λz=>g (by simp [z])) e⟩) (λ_ _ e=>e) (λ_ _ _ e=>e) (λb ps e=>⟨#[],by rw [e];simp⟩) (λm hm=>?_) (λb u e=>?_) I.bare
 ·have e:b=it:=by simpa using A
  subst e;exact ⟨G,w,D,C⟩
 ·obtain ⟨o,es,ep,y,r⟩:=hm;exact ⟨o,es,ep,k _ o (Ne.symm w) y,r⟩
 ·refine (I.hok b u e).stay (λc v g q=>k c v ?_ q) (λ_ q=>q) λ_ _ q=>q
  rcases g with z|z
  ·rw [z];exact t b u e
  ·exact t c _ z
def Inv.tok (I:Inv X pins σ H s) (t:Nat):Inv X pins σ H {s with toks:=t}:=I.un (h':=s.heap) (t':=t) Un.refl I.hok
def Inv.kept {t':Nat} (I:Inv X pins σ H s) (k:∀b u,s.heap.get? b=some u->h'.get? b=some u):Inv X pins σ H {s with heap:=h',toks:=t'}:=I.un (Un.kept k) (I.hok.kept k)
def Inv.laid {a:Addr} {o:HO} {t':Nat} (I:Inv X pins σ H s) (k:∀b u,s.heap.get? b=some u->h'.get? b=some u) (hp:s.heap.objs.size<=a) (new:Yg X.prog X.w (upd H a o) h' a o):
 Inv X pins σ (upd H a o) {s with heap:=h',toks:=t'}:=I.un (Un.laid k hp (I.hok.fresh hp)) (I.hok.laid k hp new)
def Inv.write {x e:Addr} {o:HO} {t':Nat} (I:Inv X pins σ H s) (g:Mut (H x)) (he:e=x\/H e=some (.own x)) (k:∀b u,b≠e->s.heap.get? b=some u->h'.get? b=some u) (m:∃u,h'.get? e=some u)
 (new:Yg X.prog X.w (upd H x o) h' x o):Inv X pins σ (upd H x o) {s with heap:=h',toks:=t'}:=I.un (Un.write g he k m) (I.hok.write g he k m new)
def Inv.weak {σ':List (Option V)} (I:Inv X pins σ H s) (g:σ'.length=σ.length) (w:∀(i:Nat) v,σ'[i]? =some (some v)->σ[i]? =some (some v)):Inv X pins σ' H s:=
 ⟨I.ok,I.os,I.bare,I.base,let ⟨m,hn,t⟩:=I.loc;⟨m,hn,λi x v r q p=>t i x v r (w i v q) p⟩,I.cell,I.free,I.freeC,I.pin,I.hok,g.trans I.len⟩
def Inv.pins_of {g:List (Addr×Obj)} (I:Inv X pins σ H s) (h:∀p∈g,s.heap.get? p.1=some p.2/\H p.1=none/\p.1≠X.env.locals/\p.1∉X.fs/\∀v,p.2.data≠ .cell v):Inv X g σ H s:=
 ⟨I.ok,I.os,I.bare,I.base,I.loc,I.cell,I.free,I.freeC,λp hp=>(QW.mp hp).elim (λz=>I.pin p (jak _ z)) (h p),I.hok,I.len⟩
def uf {N:List Str} (g:N.Nodup) {i j:Nat} {x:Str} (a:N[i]? =some x) (b:N[j]? =some x):i=j:=by
 obtain ⟨r,p⟩:=Qf.mp a;obtain ⟨q,m⟩:=Qf.mp b;exact (List.getElem_inj g).mp (p.trans m.symm)
def nv {M:Model} {A:Around} {E:Value->Shared->Prop} {i:Nat} {x:Str} {v:V} {u:Value} {Q:Unit->Shared->Prop} (I:Inv X pins σ H s) (hN:X.N.Nodup) (K:X.N[i]? =some x) (D:Loc X.env.scope x) (r:Zw v u)
 (h:∀s',Inv X pins (σ.set i (some v)) H s'->(∃a,Heap.SameBut a s.heap s'.heap/\(a=X.env.locals\/X.env.cells.lookup x=some a))->Q () s') (hf:X.fn x=true\/X.env.scope.names.lookup x=some .local:=by walk_at "f"):wpAny M A (storeName X.env x u) Q E s:=by
 obtain ⟨m,hn,hl⟩:=id I.loc;have Y:(X.env.scope.kind== .class||(X.env.scope.kind== .module && X.env.locals !=X.env.globals))=false:=by rw [I.ok.kind];rfl
 have Kσ:i<σ.length:=by rw [I.len];exact (Qf.mp K).1
 have cne:=I.cne
 have tracked:∀{a:Addr} {h':Heap},(∃o,s.heap.get? a=some o/\H a=none)->Heap.SameBut a s.heap h'->HOk X.prog X.w H h':=λ{a h'} ha g b ob e=>by
  obtain ⟨_,_,PM⟩:=ha;refine (I.hok b ob e).stay (λc w' C q=>(g.2 c ?_).trans q) (λ_ q=>q) λ_ _ q=>q
  rintro rfl
  rcases C with rfl|C
  ·rw [PM] at e;cases e
  ·rw [PM] at C;cases C
 rcases D with J|J
 ·refine wpAny_storeName_local J hn (λh' hn' g=>?_) Y;obtain ⟨oL,_,_,hoL,_⟩:=id hn;refine h _ ⟨I.ok,I.os,I.bare,⟨λb o e n P D=>?_,λb o e n P D=>?_,I.base.free,λb o e D=>?_,I.base.tups,I.base.frzs,I.base.tbls⟩,⟨_,hn',λj y v' t G e3=>?_⟩,λy c e=>?_,I.free,I.freeC,λp hp=>?_,tracked ⟨oL,hoL,I.free⟩ g,by simpa using I.len⟩ ⟨_,g, .inl rfl⟩
  ·exact (g.2 b (QO (QX (Qt e) I.ok.above))).trans (I.base.keep b o e n P D)
  ·obtain ⟨sl,t⟩:=I.base.slot b o e n P D;exact ⟨sl,(g.2 b (QO (QX (Qt e) I.ok.above))).trans t⟩
  ·obtain ⟨o',t⟩:=I.base.there b o e D;exact ⟨o',(g.2 b (QO (QX (Qt e) I.ok.above))).trans t⟩
  ·by_cases L:j=i
   ·subst L;rw [K] at t;cases t;rw [List.getElem?_set_self Kσ] at G;cases G;exact ⟨u,r, .inl ⟨J,by simp⟩⟩
   ·rw [jaw (Ne.symm L)] at G;obtain ⟨u',r',q⟩:=hl j y v' t G e3;refine ⟨u',r',?_⟩
    rcases q with ⟨k,e⟩|⟨k,c,e,z⟩
    ·refine .inl ⟨k,?_⟩;have:y≠x:=λe=>L (uf hN t (e▸K));simp [this,e]
    ·exact .inr ⟨k,c,e,z.sameBut g (cne y c e)⟩
  ·obtain ⟨w',z⟩:=I.cell y c e;exact ⟨w',z.sameBut g (cne y c e)⟩
  ·obtain ⟨e,n,ne,nf,d⟩:=I.pin p hp;exact ⟨(g.2 p.1 ne).trans e,n,ne,nf,d⟩
 ·have O:X.fn x=true:=by
   rcases hf with z|z
   ·exact z
   ·rw [z] at J;cases J
  obtain ⟨c,C⟩:=I.ok.has x (.inl J);obtain ⟨w',z⟩:=I.cell x c C;refine wpAny_storeName_cell I.ok.kind J C z (λh' NF g=>?_);obtain ⟨oc,U,T⟩:=id z;refine h {s with heap:=h'} ⟨I.ok,I.os,I.bare,⟨λb o e n P D=>?_,λb o e n P D=>?_,I.base.free,λb o e D=>?_,I.base.tups,I.base.frzs,I.base.tbls⟩,⟨m,hn.sameBut g (Ne.symm (cne x c C)),λj y v' t G e3=>?_⟩,λy c' e=>?_,I.free,I.freeC,λp hp=>?_,tracked ⟨oc,U,I.freeC x c C⟩ g,by simpa using I.len⟩ ⟨c,g, .inr C⟩
  ·exact (g.2 b (QO (QX (Qt e) (I.ok.cab x c O C)))).trans (I.base.keep b o e n P D)
  ·obtain ⟨sl,t⟩:=I.base.slot b o e n P D;exact ⟨sl,(g.2 b (QO (QX (Qt e) (I.ok.cab x c O C)))).trans t⟩
  ·obtain ⟨o',t⟩:=I.base.there b o e D;exact ⟨o',(g.2 b (QO (QX (Qt e) (I.ok.cab x c O C)))).trans t⟩
  ·by_cases L:j=i
   ·subst L;rw [K] at t;cases t;rw [List.getElem?_set_self Kσ] at G;cases G;exact ⟨u,r, .inr ⟨.inl J,c,C,NF⟩⟩
   ·rw [jaw (Ne.symm L)] at G;obtain ⟨u',r',q⟩:=hl j y v' t G e3;refine ⟨u',r',?_⟩
    rcases q with q|⟨k,c',e,z'⟩
    ·exact .inl q
    ·refine .inr ⟨k,c',e,z'.sameBut g ?_⟩
     rintro rfl
     exact L (uf hN t (I.ok.inj _ _ _ e C▸K))
  ·by_cases Z:c'=c
   ·subst Z;exact ⟨_,NF⟩
   ·obtain ⟨w2,z2⟩:=I.cell y c' e;exact ⟨w2,z2.sameBut g Z⟩
  ·obtain ⟨e,n,ne,nf,d⟩:=I.pin p hp;refine ⟨(g.2 p.1 ?_).trans e,n,ne,nf,d⟩;intro q;rw [q,U] at e;have q':oc=p.2:=Qw e;exact d w' (by rw [<-q'];exact T)
def cQ {M:Model} {A:Around} {E:Value->Shared->Prop} {i:Nat} {x:Str} {v:V} {u:Value} {Q:Unit->Shared->Prop} (I:Inv X pins σ H s) (q:X.N.Nodup) (p:X.N[i]? =some x) (m:Loc X.env.scope x) (r:Zw v u)
 (h:∀g,Inv X pins (σ.set i (some v)) H g->Q () g) (hf:X.fn x=true\/X.env.scope.names.lookup x=some .local:=by walk_at "f"):wpAny M A (storeName X.env x u) Q E s:=
 nv I q p m r (λg t _=>h g t) hf
def Inv.call' {g:Shared} {ch:List Addr} (I:Inv X pins σ H s) (q:g.os=s.os) (u:Un (frs X.stack) ch H H' s.heap g.heap) (hok:HOk X.prog X.w H' g.heap) (r:AllBare g.gens)
 (t:∀b∈ch,(b∈X.ex\/X.s₀.heap.objs.size<=b)/\b≠X.env.locals/\(∀x c,X.env.cells.lookup x=some c->c≠b)/\∀p∈X.pn++pins,p.1≠b):Inv X pins σ H' g:=by
 obtain ⟨h',g',d',t',m⟩:=g;have e:m=s.os:=q;subst e;exact I.call (g':=g') (t':=t') (d':=d') u hok r t
end
abbrev XK:=Value->Option Addr->Hp->Prop
abbrev St:=List (Option V)
abbrev VK:=V->Hp->Prop
abbrev TE:=St->Hp->VK->Prop
abbrev TT:=St->Hp->(Bool->Hp->Prop)->Prop
abbrev TA:=St->Hp->(List V->Hp->Prop)->Prop
structure Ends where
 nx:St->Hp->Prop
 rt:VK
 bk:St->Hp->Prop:=λ_ _=>False
 ct:St->Hp->Prop:=λ_ _=>False
abbrev TS:=Ends->St->Hp->Prop
def EP (X:Cx) (pins:Pn) (σ:St) (Q:VK) (u:Value) (g:Shared):Prop:=∃v H',Inv X pins σ H' g/\Zw v u/\Q v H'
def TP (X:Cx) (pins:Pn) (σ:St) (Q:Bool->Hp->Prop) (b:Bool) (g:Shared):Prop:=∃H',Inv X pins σ H' g/\Q b H'
def AP (X:Cx) (pins:Pn) (σ:St) (Q:List V->Hp->Prop) (us:List Value) (g:Shared):Prop:=∃vs H',Inv X pins σ H' g/\xi vs us/\Q vs H'
def SP (X:Cx) (pins:Pn) (D:Ends) (f:Flow) (g:Shared):Prop:=
 match f with
 | .next=>∃σ' H',Inv X pins σ' H' g/\D.nx σ' H'
 | .brk=>∃σ' H',Inv X pins σ' H' g/\D.bk σ' H'
 | .cont=>∃σ' H',Inv X pins σ' H' g/\D.ct σ' H'
 | .ret u=>∃v σ' H',Inv X pins σ' H' g/\Zw v u/\D.rt v H'
def PE (X:Cx) (e:Expr) (t:TE):Prop:=
 ∀(pins:Pn) (s:Shared) (σ:St) (H:Hp) (Q:VK),Inv X pins σ H s->t σ H Q->wpAny (model X.prog X.w) X.A (eval e X.env) (EP X pins σ Q) X.xe s
def PT (X:Cx) (e:Expr) (t:TT):Prop:=
 ∀(pins:Pn) (s:Shared) (σ:St) (H:Hp) (Q:Bool->Hp->Prop),Inv X pins σ H s->t σ H Q->wpAny (model X.prog X.w) X.A (isTrue e X.env (eval e X.env)) (TP X pins σ Q) X.xe s
def PW (X:Cx) (e:Expr) (t:TT):Prop:=
 ∀(whole:Sem Value) (pins:Pn) (s:Shared) (σ:St) (H:Hp) (Q:Bool->Hp->Prop),Inv X pins σ H s->t σ H Q->wpAny (model X.prog X.w) X.A (isTrue e X.env whole) (TP X pins σ Q) X.xe s
def PW.pt {X:Cx} {e:Expr} {t:TT} (h:PW X e t):PT X e t:=h _
def PA (X:Cx) (es:List Expr) (t:TA):Prop:=
 ∀(pos:Pos) (pins:Pn) (s:Shared) (σ:St) (H:Hp) (Q:List V->Hp->Prop),Inv X pins σ H s->t σ H Q->wpAny (model X.prog X.w) X.A (spliced (backTo pos (starEach es X.env))) (AP X pins σ Q) X.xe s
def PS (X:Cx) (st:Stmt) (t:TS):Prop:=
 ∀(pins:Pn) (s:Shared) (σ:St) (H:Hp) (D:Ends),Inv X pins σ H s->t D σ H->wpAny (model X.prog X.w) X.A (exec st X.env) (SP X pins D) X.xe s
def PSs (X:Cx) (st:List Stmt) (t:TS):Prop:=
 ∀(pins:Pn) (s:Shared) (σ:St) (H:Hp) (D:Ends),Inv X pins σ H s->t D σ H->wpAny (model X.prog X.w) X.A (execs st X.env) (SP X pins D) X.xe s
def thn {α:Type} {t:Sem α} {Q g:α->Shared->Prop} {M:Model} {A:Around} {E:Value->Shared->Prop} {s:Shared} (h:wpAny M A t Q E s) (m:∀a s,Q a s->g a s):wpAny M A t g E s:=wpAny_mono h m λ_ _ x=>x
section
variable {X:Cx}
def tVar (i:Nat):TE:=λσ H Q=>∃v,σ[i]? =some (some v)/\Q v H
def tC (v:V):TE:=λ_ H Q=>Q v H
def pe_var {i:Nat} {x:Str} {pos:Pos} (y:X.N[i]? =some x) (t:Vis X.env.scope x) (hd:(x==("__debug__":Str))=false:=by decide) (z:(x==("__classdict__":Str))=false:=by decide):PE X (.Name x pos) (tVar i):=by
 intro pins s σ H Q I h;obtain ⟨v,e,h⟩:=h;obtain ⟨m,hn,w⟩:=I.loc;obtain ⟨u,r,l⟩:=w i x v y e t;have fin:EP X pins σ Q u s:=⟨v,H,I,r,h⟩
 rcases l with ⟨g,hm⟩|⟨g,c,p,q⟩
 ·exact wpAny_Name (wpAny_loadName_local I.ok.kind g hn hm fin) hd
 ·rcases g with g|g
  ·exact wpAny_Name (wpAny_loadName_cell I.ok.kind g p q fin) hd
  ·exact wpAny_Name (wpAny_loadName_free I.ok.kind g p q fin z) hd
def ue {i j pos}:PE X (.Constant (.int i) j pos) (tC (.int i)):=λ_ _ _ H _ I h=>wpAny_Constant_int ⟨.int i,H,I.tok _,⟨_,rfl⟩,h⟩
def pe_bl {b j pos}:PE X (.Constant (.bool b) j pos) (tC (.bl b)):=λ_ _ _ H _ I h=>Constant_bool ⟨.bl b,H,I,rfl,h⟩
def pe_non {j pos}:PE X (.Constant .none j pos) (tC .non):=λ_ _ _ H _ I h=>Constant_none ⟨.non,H,I,rfl,h⟩
def pe_str {x j pos}:PE X (.Constant (.str x) j pos) (tC (.str x)):=λ_ _ _ H _ I h=>Calls.Constant_str ⟨.str x,H,I.tok _,⟨_,rfl⟩,h⟩
def Gl (X:Cx) (x:Str):Prop:=X.env.kindOf x=some .globalImplicit
def fA {E:Value->Shared->Prop} {pins:Pn} {s:Shared} {σ:St} {H:Hp} {x:Str} {u:Value} {pos:Pos} {Q:Value->Shared->Prop} (I:Inv X pins σ H s) (g:Gl X x) (hm:X.mg x=some u) (h:Q u s)
 (hd:(x==("__debug__":Str))=false:=by decide):wpAny (model X.prog X.w) X.A (eval (.Name x pos) X.env) Q E s:=
 Calls.Name_function_global I.ok.kind g (Calls.loadGlobal_global (by rw [I.ok.glob];exact I.mod.glob.keeps I.bk) hm h) hd
def XU {E:Value->Shared->Prop} {pins:Pn} {s:Shared} {σ:St} {H:Hp} {x:Str} {u:Value} {pos:Pos} {Q:Value->Shared->Prop} (I:Inv X pins σ H s) (m:Gl X x) (hm:X.mg x=none) (g:bootBuiltins x=some u) (h:Q u s)
 (hn:x≠"__name__":=by decide) (hd:(x==("__debug__":Str))=false:=by decide):wpAny (model X.prog X.w) X.A (eval (.Name x pos) X.env) Q E s:=by
 obtain ⟨r,q,p⟩:=I.mod.blt;exact Calls.Name_function_global I.ok.kind m (Calls.loadGlobal_builtin (by rw [I.ok.glob];exact I.mod.glob.keeps I.bk) hm (by rw [I.ok.blt];exact q.keeps I.bk) ((p x hn).trans g) h) hd
def KC {x:Str} {v:V} {u:Value} {pos:Pos} (g:Gl X x) (hm:X.mg x=some u) (r:Zw v u) (hd:(x==("__debug__":Str))=false:=by decide):PE X (.Name x pos) (tC v):=
 λ_ _ _ H _ I h=>fA I g hm ⟨v,H,I,r,h⟩ hd
def pe_bltn {x:Str} {v:V} {u:Value} {pos:Pos} (m:Gl X x) (hm:X.mg x=none) (g:bootBuiltins x=some u) (r:Zw v u) (hn:x≠"__name__":=by decide) (hd:(x==("__debug__":Str))=false:=by decide):PE X (.Name x pos) (tC v):=
 λ_ _ _ H _ I h=>XU I m hm g ⟨v,H,I,r,h⟩ hn hd
variable {a b:Expr} {ta tb:TE} {pos:Pos}
def tB (t:TE):TT:=λσ H Q=>t σ H λx H1=>∃c,x= .bl c/\Q c H1
def pt_val {e:Expr} {t:TE} (h:PE X e t) (he:∀whole,isTrue e X.env whole=(do let v<-whole;standAt e.pos;holding [v] (truthy v)):=by intro _;rfl):PT X e (tB t):=by
 intro pins s σ H Q I hw;refine isTrue_plain (thn (h pins s σ H _ I hw) ?_) (he _);rintro v s1 ⟨x,H1,p,g,m⟩;obtain ⟨d,rfl,q⟩:=m;cases g;exact jbN ⟨H1,p,q⟩
variable {tA tB':TT} {rest:List Expr}
def tAnd (t u:TT):TT:=λσ H Q=>t σ H λc H1=>if c=true then u σ H1 Q else Q false H1
def tOr (t u:TT):TT:=λσ H Q=>t σ H λc H1=>if c=true then Q true H1 else u σ H1 Q
def tNot (t:TT):TT:=λσ H Q=>t σ H λc H1=>Q (!c) H1
def pw_and1 (ha:PT X a tA):PW X (.BoolOp .And [a] pos) tA:=by
 intro wh pins s σ H Q I h;refine isTrue_and (thn (ha pins s σ H Q I h) λc s1 e=>?_)
 cases c with
 |true=>exact isTrue_and_nil e
 |false=>exact e
def pw_or1 (ha:PT X a tA):PW X (.BoolOp .Or [a] pos) tA:=by
 intro wh pins s σ H Q I h;refine isTrue_or (thn (ha pins s σ H Q I h) λc s1 e=>?_)
 cases c with
 |false=>exact isTrue_or_nil e
 |true=>exact e
def pw_and (ha:PT X a tA) (q:PW X (.BoolOp .And (b::rest) pos) tB'):PW X (.BoolOp .And (a::b::rest) pos) (tAnd tA tB'):=by
 intro wh pins s σ H Q I h;refine isTrue_and (thn (ha pins s σ H _ I h) λc s1 p=>?_);obtain ⟨H1,m,g⟩:=p
 cases c with
 |true=>exact q wh pins s1 σ H1 Q m g
 |false=>exact ⟨H1,m,g⟩
def pw_or (ha:PT X a tA) (q:PW X (.BoolOp .Or (b::rest) pos) tB'):PW X (.BoolOp .Or (a::b::rest) pos) (tOr tA tB'):=by
 intro wh pins s σ H Q I h;refine isTrue_or (thn (ha pins s σ H _ I h) λc s1 p=>?_);obtain ⟨H1,m,g⟩:=p
 cases c with
 |true=>exact ⟨H1,m,g⟩
 |false=>exact q wh pins s1 σ H1 Q m g
def pt_not (ha:PT X a tA):PT X (.UnaryOp .Not a pos) (tNot tA):=by
 intro pins s σ H Q I h;exact isTrue_not (ha pins s σ H (λc H1=>Q (!c) H1) I h)
def tAndV (ta tb:TE):TE:=λσ H Q=>ta σ H λx H1=>∃c,x= .bl c/\if c=true then tb σ H1 Q else Q (.bl false) H1
def tNotV (ta:TE):TE:=λσ H Q=>ta σ H λx H1=>∃c,x= .bl c/\Q (.bl (!c)) H1
def pe_one {op} {t:TE} (h:PE X a t):PE X (.BoolOp op [a] pos) t:=λpins s σ H Q I hw=>BoolOp_one (h pins s σ H Q I hw)
def pe_and (ha:PE X a ta) (r:PE X (.BoolOp .And (b::rest) pos) tb):PE X (.BoolOp .And (a::b::rest) pos) (tAndV ta tb):=by
 intro pins s σ H Q I h;refine BoolOp_and (thn (ha pins s σ H _ I h) λv s1 q=>?_);obtain ⟨x,H1,m,p,g⟩:=q;obtain ⟨c,rfl,g⟩:=g;cases p;refine jbN ?_
 cases c with
 |true=>exact r pins s1 σ H1 Q m g
 |false=>exact ⟨.bl false,H1,m,rfl,g⟩
def pe_not (ha:PE X a ta):PE X (.UnaryOp .Not a pos) (tNotV ta):=by
 intro pins s σ H Q I h;refine UnaryOp_ (thn (ha pins s σ H _ I h) λv s1 p=>?_);obtain ⟨x,H1,q,m,g⟩:=p;obtain ⟨c,rfl,g⟩:=g;cases m;exact not_of (jbN ⟨.bl (!c),H1,q,rfl,g⟩)
end
def SqL (K:Frg) (H:Hp) (a:Addr) (xs:List V):Prop:=
 Rd H a (.lst xs)\/
  ∃(o:Obj) (its:Array Value) (n:Nat),K.lookup a=some o/\o.cls= .type "list"/\o.dict=none/\o.data= .seq its n/\its.size<=sizeLine/\xi xs its.toList
def SqT (K:Frg) (H:Hp) (a:Addr) (xs:List V):Prop:=
 Rd H a (.tup xs)\/
  ∃(o:Obj) (its:Array Value) (n:Nat),K.lookup a=some o/\o.cls= .type "tuple"/\o.data= .seq its n/\its.size<=sizeLine/\xi xs its.toList
def absV:Value->Option V
 | .none=>some .non
 | .bool b=>some (.bl b)
 | .int i _=>some (.int i)
 | .str x _=>some (.str x)
 | .ref a=>some (.ref a)
 | .type n=>some (.ty n)
 |_=>none
def Zw.abs {x:V} {u:Value} (r:Zw x u):absV u=some x:=by
 cases x with
 |non=>cases r;rfl
 |bl _=>cases r;rfl
 |int _=>obtain ⟨t,rfl⟩:=r;rfl
 |str _=>obtain ⟨t,rfl⟩:=r;rfl
 |ref _=>cases r;rfl
 |ty _=>cases r;rfl
def Zw.inj {x y:V} {u:Value} (r:Zw x u) (q:Zw y u):x=y:=Qw (r.abs.symm.trans q.abs)
def xi.inj {xs ys:List V} {us:List Value} (h:xi xs us) (g:xi ys us):xs=ys:=by
 induction h generalizing ys with
 |nil=>cases g;rfl
 |cons r t p=>
  cases g with
  |cons m t'=>rw [r.inj m,p t']
section
def SqL.of {K:Frg} (h:H a=some (.lst xs)):SqL K H a xs:= .inl (.inl h)
def SqT.of {K:Frg} (h:H a=some (.tup xs)):SqT K H a xs:= .inl (.inl h)
def Inv.list (I:Inv X pins σ H s) (h:SqL X.K H a xs):∃its:List Value,xi xs its/\PlainL s.heap a its.toArray/\xs.length<=sizeLine:=by
 rcases h with h|⟨o,its,n,m,p,hd,g,q,r⟩
 ·obtain ⟨z,its,n,r,e⟩:=h.ok I.hok;exact ⟨its,r,⟨_,n,e,rfl,rfl,rfl⟩,z⟩
 ·refine ⟨its.toList,r,⟨o,n,I.kIn a o m,p,hd,by simpa using g⟩,?_⟩;have e:=r.length;simp only [TY] at e;lia
def Inv.tuple (I:Inv X pins σ H s) (h:SqT X.K H a xs):∃its:List Value,xi xs its/\IsTup s.heap a its.toArray/\xs.length<=sizeLine:=by
 rcases h with h|⟨o,its,n,m,q,g,t,r⟩
 ·obtain ⟨z,its,r,p⟩:=h.ok I.hok;exact ⟨its,r,p,z⟩
 ·refine ⟨its.toList,r,⟨o,I.kIn a o m,q,n,by simpa using g⟩,?_⟩;have e:=r.length;simp only [TY] at e;lia
def Inv.list_inj (I:Inv X pins σ H s) (h:SqL X.K H a xs) (h':SqL X.K H a ys):xs=ys:=by
 obtain ⟨its,r,⟨o,n,e,_,_,d⟩,_⟩:=I.list h;obtain ⟨its',m,⟨q,t,g,_,_,d'⟩,_⟩:=I.list h';rw [e] at g;cases g;rw [d] at d'
 injection d' with p _
 have:its=its':=by simpa using congrArg Array.toList p
 subst this;exact r.inj m
def Inv.tuple_inj (I:Inv X pins σ H s) (h:SqT X.K H a xs) (h':SqT X.K H a ys):xs=ys:=by
 obtain ⟨its,r,⟨o,e,_,n,d⟩,_⟩:=I.tuple h;obtain ⟨its',m,⟨q,g,_,t,d'⟩,_⟩:=I.tuple h';rw [e] at g;cases g;rw [d] at d'
 injection d' with p _
 have:its=its':=by simpa using congrArg Array.toList p
 subst this;exact r.inj m
end
abbrev Cx.wish (X:Cx) (E:Value->Shared->Prop):Cx:={X with xe:=E}
abbrev Cx.nox (X:Cx):Cx:=X.wish λ_ _=>False
def Cx.Ok.wish {X:Cx} (ok:X.Ok) (E:Value->Shared->Prop):(X.wish E).Ok:=
 ⟨ok.mod,ok.kind,ok.glob,ok.blt,ok.above,ok.inj,ok.has,ok.cab,ok.hd,ok.frames,ok.stk,ok.exf,ok.bs,ok.bsz,ok.noex,ok.exfs,ok.funs,ok.frf⟩
def Cx.Ok.unwish {X:Cx} {E:Value->Shared->Prop} (ok:(X.wish E).Ok):X.Ok:=
 ⟨ok.mod,ok.kind,ok.glob,ok.blt,ok.above,ok.inj,ok.has,ok.cab,ok.hd,ok.frames,ok.stk,ok.exf,ok.bs,ok.bsz,ok.noex,ok.exfs,ok.funs,ok.frf⟩
section
def Inv.wish (I:Inv X pins σ H s) (E:Value->Shared->Prop):Inv (X.wish E) pins σ H s:=⟨I.ok.wish E,I.os,I.bare,I.base,I.loc,I.cell,I.free,I.freeC,I.pin,I.hok,I.len⟩
def Inv.unwish (I:Inv (X.wish E) pins σ H s):Inv X pins σ H s:=⟨I.ok.unwish,I.os,I.bare,I.base,I.loc,I.cell,I.free,I.freeC,I.pin,I.hok,I.len⟩
def SP.unwish {D:Ends} {f:Flow} {g:Shared} (h:SP (X.wish E) pins D f g):SP X pins D f g:=by
 cases f with
 |next=>obtain ⟨σ',H',I,q⟩:=h;exact ⟨σ',H',I.unwish,q⟩
 |brk=>obtain ⟨σ',H',I,q⟩:=h;exact ⟨σ',H',I.unwish,q⟩
 |cont=>obtain ⟨σ',H',I,q⟩:=h;exact ⟨σ',H',I.unwish,q⟩
 |ret u=>obtain ⟨v,σ',H',I,r,q⟩:=h;exact ⟨v,σ',H',I.unwish,r,q⟩
def PSs.nox {st:List Stmt} {t:TS} (h:PSs X.nox st t):PSs X st t:=λpins s σ H D I hw=>
 wpAny_mono (h pins s σ H D (I.wish _) hw) (λ_ _ q=>q.unwish) λ_ _ z=>False.elim z
end
section
variable {X:Cx} {st:Stmt} {rest:List Stmt} {t u:TS}
def tNext:TS:=λD σ H=>D.nx σ H
def tSeq (t u:TS):TS:=λD σ H=>t {D with nx:=u D} σ H
def Cy:PSs X [] tNext:=λ_ _ σ H _ I h=>wpAny_execs_nil ⟨σ,H,I,h⟩
def uc (m:PS X st t) (g:PSs X rest u):PSs X (st::rest) (tSeq t u):=by
 intro pins s σ H D I h;refine wpAny_execs_cons (thn (m pins s σ H {D with nx:=u D} I h) λf s1 q=>?_)
 cases f with
 |next=>
  obtain ⟨σ',H',p,q⟩:=q;exact g pins s1 σ' H' D p q
 |ret v=>exact q
 |brk=>exact q
 |cont=>exact q
def eU (g:PS X st t):PSs X [st] t:=by
 intro pins s σ H D I h;refine wpAny_execs_cons (thn (g pins s σ H D I h) λf s1 q=>?_)
 cases f with
 |next=>exact wpAny_execs_nil q
 |ret v=>exact q
 |brk=>exact q
 |cont=>exact q
def Inv.quiet {pins:Pn} {σ:St} {H:Hp} {s:Shared} (I:Inv X pins σ H s):interactive X.env=false:=by simp [interactive,I.ok.kind]
def tDrop (g:TE):TS:=λD σ H=>g σ H λ_ H1=>D.nx σ H1
def ps_expr (he:PE X e te) (m:swapsWith e none pos.line X.env=pure false:=by rfl):PS X (.Expr e pos) (tDrop te):=by
 intro pins s σ H D I h;refine wpAny_Expr_any (thn (he pins s σ H _ I h) ?_) I.quiet m;rintro v s1 ⟨x,H1,p,q,g⟩;exact ⟨σ,H1,p,g⟩
def tRet (g:TE):TS:=λD σ H=>g σ H D.rt
def ps_ret (he:PE X e te):PS X (.Return (some e) pos) (tRet te):=by
 intro pins s σ H D I h;refine wpAny_Return_some (thn (he pins s σ H _ I h) ?_);rintro v s1 ⟨x,H1,p,g,m⟩;exact ⟨x,σ,H1,p,g,m⟩
def tIfS (c:TT) (t u:TS):TS:=λD σ H=>c σ H λb H1=>if b=true then t D σ H1 else u D σ H1
def ps_if {c:Expr} {a b:List Stmt} {g:TT} (r:PT X c g) (ha:PSs X a t) (w:PSs X b u):PS X (.If c a b pos) (tIfS g t u):=by
 intro pins s σ H D I h;refine wpAny_If (thn (r pins s σ H _ I h) λd s1 q=>?_);obtain ⟨H1,p,m⟩:=q
 cases d with
 |true=>exact ha pins s1 σ H1 D p m
 |false=>exact w pins s1 σ H1 D p m
def tNever:TS:=λ_ _ _=>False
def ud:PS X st tNever:=λ_ _ _ _ _ _ h=>h.elim
end
abbrev TG:=V->St->Hp->(St->Hp->Prop)->Prop
abbrev TGs:=List V->St->Hp->(St->Hp->Prop)->Prop
def PG (X:Cx) (target:Expr) (t:TG):Prop:=
 ∀(pins:Pn) (s:Shared) (σ:St) (H:Hp) (v:V) (u:Value) (Q:St->Hp->Prop),Inv X pins σ H s->Zw v u->t v σ H Q->
  wpAny (model X.prog X.w) X.A (assign target X.env u) (λ_ g=>∃σ' H',Inv X pins σ' H' g/\Q σ' H') X.xe s
def PGs (X:Cx) (g:List Expr) (t:TGs):Prop:=
 ∀(pins:Pn) (s:Shared) (σ:St) (H:Hp) (vs:List V) (us:List Value) (Q:St->Hp->Prop),Inv X pins σ H s->xi vs us->t vs σ H Q->
  wpAny (model X.prog X.w) X.A (assignInOrder ((assignEach g X.env).map (·.2)) us) (λ_ m=>∃σ' H',Inv X pins σ' H' m/\Q σ' H') X.xe s
abbrev TSet:=V->V->V->Hp->(Hp->Prop)->Prop
def PSet (X:Cx) (t:TSet):Prop:=
 ∀(pins:Pn) (s:Shared) (σ:St) (H:Hp) (o i v:V) (g m u:Value) (Q:Hp->Prop),Inv X pins σ H s->Zw o g->Zw i m->Zw v u->t o i v H Q->
  wpAny (model X.prog X.w) X.A (setItem g m u) (λ_ p=>∃H',Inv X pins σ H' p/\Q H') X.xe s
section
def lX (i:Nat):TG:=λv σ H Q=>Q (σ.set i (some v)) H
def qX {i:Nat} {x:Str} (p:X.N.Nodup) (m:X.N[i]? =some x) (g:Loc X.env.scope x) (hf:X.fn x=true\/X.env.scope.names.lookup x=some .local:=by walk_at "f"):PG X (.Name x pos) (lX i):=by
 intro pins s σ H v u Q I r h;exact wpAny_assign_Name (cQ I p m g r (λt q=>⟨_,H,q,h⟩) hf)
def gNil:TGs:=λvs σ H Q=>vs=[]/\Q σ H
def gCons (t:TG) (u:TGs):TGs:=λvs σ H Q=>∃v r,vs=v::r/\t v σ H λσ' H'=>u r σ' H' Q
def pgs_nil:PGs X [] gNil:=by
 intro pins s σ H vs us Q I r h;obtain ⟨e,h⟩:=h;subst e;cases r;exact assignInOrder_nil ⟨σ,H,I,h⟩
def pgs_cons {e:Expr} {es:List Expr} {t:TG} {u:TGs} (y:PG X e t) (w:PGs X es u)
 (p:(assignEach (e::es) X.env).map (·.2)=assign e X.env::(assignEach es X.env).map (·.2):=by rfl):PGs X (e::es) (gCons t u):=by
 intro pins s σ H vs us Q I r h;obtain ⟨v,C,z,h⟩:=h;subst z
 cases r with
 |cons r g=>
  rw [p];refine assignInOrder_cons (thn (y pins s σ H _ _ _ I r h) λ_ s1 q=>?_);obtain ⟨σ1,H1,A,m⟩:=q;exact w pins s1 σ1 H1 _ _ Q A g m
def gTup (K:Frg) (n:Nat) (t:TGs):TG:=λv σ H Q=>∃a xs,v= .ref a/\SqT K H a xs/\xs.length=n/\t xs σ H Q
def pg_tup {es:List Expr} {k:Nat} {t:TGs} {n:Nat} (w:X.calm=true) (h:PGs X es t)
 (hn:(assignEach es X.env).length=n:=by rfl) (z:(assignEach es X.env).findIdx? (·.1)=none:=by rfl):PG X (.Tuple es k pos) (gTup X.K n t):=by
 intro pins s σ H v u Q I r hw;obtain ⟨a,xs,y,p,q,hw⟩:=hw;subst y;cases r;obtain ⟨its,g,ht,C⟩:=I.tuple p;refine assign_Tuple_tuple (I.ok.hd w) ht (by simp [hn,<-q,g.length]) z λh' m=>?_;have A:Inv X pins σ H {s with heap:=h'}:=I.kept (t':=s.toks) λb o e=>m b o (QO (Qt e)) e;exact h pins _ σ H xs _ Q A ‹g› hw
def gSub (to g:TE) (t:TSet):TG:=λv σ H Q=>to σ H λo H1=>g σ H1 λi p=>t o i v p λm=>Q σ m
def pg_sub {o i:Expr} {to q:TE} {t:TSet} (J:PE X o to) (K:PE X i q) (G:PSet X t)
 (ha:∀v,assign (.Subscript o i pos) X.env v=(do
  let g<-holding [v] (eval o X.env)
  let m<-holding [v,g] (eval i X.env)
  standAt pos
  holding [v,g,m] (setItem g m v)
  release [v,g,m] []):=by intro _;rfl):PG X (.Subscript o i pos) (gSub to q t):=by
 intro pins s σ H v u Q I r h;rw [ha];refine Qc (jar (thn (J pins s σ H _ I h) λg s1 p=>?_));obtain ⟨x,H1,N,z,D⟩:=p;refine Qc (jar (thn (K pins s1 σ H1 _ N D) λm s2 p=>?_));obtain ⟨y,P,M,w,C⟩:=p;refine Qc (wpAny_standAt (Qc (jar (thn (G pins s2 σ P x y v g m u _ M z w r C) λ_ s3 p=>?_))));obtain ⟨O,L,A⟩:=p;exact wpAny_release ⟨σ,O,L,A⟩
def Mj (m:TE) (g:TG):TS:=λD σ H=>m σ H λx H1=>g x σ H1 D.nx
def ps_asg {m e:Expr} {p:TE} {g:TG} (he:PE X e p) (w:PG X m g) (u:swapsWithSole [m] e pos.line X.env=pure false:=by rfl) (hw:swappedStores [m] e X.env=pure none:=by rfl)
 (y:(assignEach [m] X.env).map (·.2)=[assign m X.env]:=by rfl):PS X (.Assign [m] e pos) (Mj p g):=by
 intro pins s σ H D I h;refine wpAny_Assign_stores (thn (he pins s σ H _ I h) ?_) u hw;rintro v s1 ⟨x,H1,z,r,t⟩;rw [y];exact thn (w pins s1 σ H1 x v _ z r t) λ_ s2 q=>q
def ps_set {i:Nat} {x:Str} {e:Expr} {g:TE} {pos':Pos} (u:X.N.Nodup) (t:X.N[i]? =some x) (q:Loc X.env.scope x) (he:PE X e g) (r:swapsWith e (some (.Name x pos')) pos.line X.env=pure false:=by rfl) (hf:X.fn x=true\/X.env.scope.names.lookup x=some .local:=by walk_at "f"):
 PS X (.Assign [.Name x pos'] e pos) (Mj g (lX i)):=by
 intro pins s σ H D I h;refine wpAny_Assign_Name (thn (he pins s σ H _ I h) ?_) r;rintro v s1 ⟨y,H1,z,m,p⟩;exact cQ z u t q m (λs2 w=>⟨_,H1,w,p⟩) hf
def tPar (i j:Nat) (g:TA):TS:=λD σ H=>g σ H λvs H1=>∃v w,vs=[v,w]/\D.nx ((σ.set i (some v)).set j (some w)) H1
def ps_par {i j:Nat} {x y:Str} {a b:Expr} {u:TA} {t py pt:Pos} {kt k2 pt2} (Z:X.calm=true) (G:X.N.Nodup) (U:X.N[i]? =some x) (T:X.N[j]? =some y) (NK:i≠j)
 (C:X.env.scope.names.lookup x=some .local) (z:X.env.scope.names.lookup y=some .local) (ha:PA X [a,b] u)
 (hw:swappedStores [.Tuple [.Name x t, .Name y py] kt pt] (.Tuple [a,b] k2 pt2) X.env=pure (some [x,y]))
 (P:swapsWithSole [.Tuple [.Name x t, .Name y py] kt pt] (.Tuple [a,b] k2 pt2) pos.line X.env=pure false:=by rfl):
 PS X (.Assign [.Tuple [.Name x t, .Name y py] kt pt] (.Tuple [a,b] k2 pt2) pos) (tPar i j u):=by
 intro pins s σ H D I h;rw [exec_Assign_arm];refine Qc (wpAny_standAt ?_);rw [P];refine Qc (Ql ?_);rw [QI nofun];refine Qc (Tuple_ (thn (ha _ pins s σ H _ I h) λus s1 Y=>?_));obtain ⟨vs,H1,I1,L,r⟩:=Y;obtain ⟨v,w,e1,r⟩:=r;subst e1
 obtain ⟨m,g,rfl,K,RW⟩:∃m g,us=[m,g]/\Zw v m/\Zw w g:=by
  cases L with
  |cons p q=>
   cases q with
   |cons O M=>
    cases M;exact ⟨_,_,rfl,p,O⟩
 refine To ?_ (by show 2<=sizeLine;decide);have I2:Inv X pins σ H1 {s1 with heap:=s1.heap.push {cls:= .type "tuple",data:= .seq [m,g].toArray}}:=I1.kept (t':=s1.toks) λb o e=>Qi _ e;rw [hw];refine Qc (Ql ?_);show wpAny (model X.prog X.w) X.A (do rule "assign.swapped-stores";let items<-unpackItems (.ref s1.heap.objs.size) 2 none;assignInOrder [λv=>bindName X.env y v,λv=>bindName X.env x v] items.reverse;pure Flow.next) _ _ _;refine Qc (jbO (Qc (unpackItems_tuple (items:=#[m,g]) (I.ok.hd Z) (IsTup.new s1.heap _) λh' NJ=>?_)));have I3:=I2.kept (h':=h') (t':=s1.toks) λb o e=>NJ b o (QO (Qt e)) e;show wpAny _ _ (assignInOrder [λv=>bindName X.env y v,λv=>bindName X.env x v] [g,m]>>=λ_=>pure Flow.next) _ _ _;refine Qc (assignInOrder_cons (wpAny_bindName (cQ I3 G T (.inl z) RW (λs2 I4=>?_) (.inr z))));refine assignInOrder_cons (wpAny_bindName (cQ I4 G U (.inl C) K (λs3 J=>assignInOrder_nil (Ql ?_)) (.inr C)));rw [List.set_comm _ _ (Ne.symm NK)] at J;exact ⟨_,H1,J,r⟩
end
section
def Bb (c:TT) (p:TS):TS:=λD σ H=>∃W:Nat->St->Hp->Prop,(∃m,W m σ H)/\∀m σ H,W m σ H->
 c σ H λb H1=>if b=true then ∃N:St->Hp->Prop,(∀σ' H',N σ' H'->∃g,g<m/\W g σ' H')/\p {D with nx:=N,ct:=N,bk:=D.nx} σ H1 else D.nx σ H1
def ps_while {c:Expr} {body:List Stmt} {y:TT} {z:TS} (hp:PassesOwn (model X.prog X.w) X.A X.env X.xe) (O:PT X c y) (P:PSs X body z):PS X (.While c body [] pos) (Bb y z):=by
 intro pins s σ H D I h;obtain ⟨W,⟨m0,K⟩,turn⟩:=h;refine wpAny_While (codeAny_whileLoop (λn L=>∃σ' H',Inv X pins σ' H' L/\W n σ' H') ?_ m0 ⟨σ,H,I,K⟩)
 rintro n s1 ⟨σ1,H1,I1,w1⟩
 refine jbi hp (thn (O pins s1 σ1 H1 _ I1 (turn n σ1 H1 w1)) λb s2 M=>?_);obtain ⟨J,G,p⟩:=M
 cases b with
 |true=>
  obtain ⟨N,C,p⟩:=p;rw [QD rfl];refine jbi hp (thn (P pins s2 σ1 J _ G p) λf s3 m=>?_)
  cases f with
  |next=>
   obtain ⟨σ3,g,u,r⟩:=m;obtain ⟨t,hm,q⟩:=C σ3 g r;exact ⟨t,hm,σ3,g,u,q⟩
  |cont=>
   obtain ⟨σ3,g,u,r⟩:=m;obtain ⟨t,hm,q⟩:=C σ3 g r;exact ⟨t,hm,σ3,g,u,q⟩
  |brk=>exact m
  |ret v=>exact m
 |false=>
  rw [QI Qv];exact wpAny_execs_nil ⟨σ1,J,G,p⟩
end
structure It where
 go:Nat->Hp->Prop
 yld:Nat->Hp->V->Hp->Prop
 stop:Nat->Hp->Prop
def sU (X:Cx) (pins:Pn) (H:Hp) (b:Addr):Prop:=
 H b=none/\b≠X.env.locals/\b∉X.fs/\(b∈X.ex\/X.s₀.heap.objs.size<=b)/\(∀x c,X.env.cells.lookup x=some c->c≠b)/\∀p∈X.pn++pins,p.1≠b
def Inv.fpOk {X:Cx} {pins:Pn} {σ:St} {H H':Hp} {s:Shared} {b:Addr} (I:Inv X pins σ H s) (g:s.heap.objs.size<=b) (hn:H' b=none):sU X pins H' b:=by
 refine ⟨hn,jay (QX I.lt g),I.nofs g, .inr (QP I.sz g),λx c e z=>?_,λp hp z=>?_⟩
 ·obtain ⟨v,q⟩:=I.cell x c e;exact absurd (QX q.lt (by rw [z];exact g)) (jag _)
 ·exact absurd (QX (Qt (I.pin p hp).1) (by rw [z];exact g)) (jag _)
structure Turn (P:Program) (w:World) (K:Frg) (tg:Expr) (J:It) (fp:List Addr) (it:Addr) (tn:Nat->Heap->Prop):Prop where
 mem:it∈fp
 obj:∀i h,tn i h->∀b∈fp,∃o,h.get? b=some o/\∀v,o.data≠ .cell v
 keep:∀i h h',tn i h->(∀b∈fp,∀o,h.get? b=some o->h'.get? b=some o)->tn i h'
 item:∀(X:Cx),X.prog=P->X.w=w->X.K=K->X.calm=true->∀(i:Nat) (pins:Pn) (s:Shared) (σ:St) (H:Hp) (E:Value->Shared->Prop),Inv X pins σ H s->(∀b∈fp,sU X pins H b)->tn i s.heap->J.go i H->
  wpAny (model P w) X.A (pyNext (.ref it)) (λr s1=>∃u,r=some u/\
   wpAny (model P w) X.A (letOwnedTupleGo tg (.ref it) u) (λ_ s2=>∃x H',Inv X pins σ H' s2/\Zw x u/\J.yld i H x H'/\tn (i+1) s2.heap/\∀b∈fp,H' b=none) E s1) E s
 done:∀(X:Cx),X.prog=P->X.w=w->X.K=K->X.calm=true->∀(i:Nat) (pins:Pn) (s:Shared) (σ:St) (H:Hp) (E:Value->Shared->Prop),Inv X pins σ H s->(∀b∈fp,sU X pins H b)->tn i s.heap->J.stop i H->
  wpAny (model P w) X.A (pyNext (.ref it)) (λr s1=>r=none/\Inv X pins σ H s1) E s
 self:∀(A:Around) (i:Nat) (s:Shared) (Q:Value->Shared->Prop) (E:Value->Shared->Prop),tn i s.heap->Q (.ref it) s->wpAny (model P w) A (pyIter (.ref it)) Q E s
abbrev TI:=St->Hp->(It->Hp->Prop)->Prop
def PIE (X:Cx) (pins:Pn) (σ:St) (q:Expr) (R:It->Hp->Prop) (g:Value) (s2:Shared):Prop:=
 ∃(it:Addr) (p:List Addr) (m:Nat->Heap->Prop) (J:It) (H':Hp),g= .ref it/\Inv X pins σ H' s2/\Turn X.prog X.w X.K q J p it m/\m 0 s2.heap/\(∀b∈p,sU X pins H' b)/\R J H'
def PI (X:Cx) (m iter:Expr) (g:TI):Prop:=
 ∀(pins:Pn) (s:Shared) (σ:St) (H:Hp) (R:It->Hp->Prop),Inv X pins σ H s->g σ H R->
  wpAny (model X.prog X.w) X.A (eval iter X.env) (λv s1=>wpAny (model X.prog X.w) X.A (pyIter v) (PIE X pins σ m R) X.xe s1) X.xe s
def DM {M:Model} {A:Around} {E:Value->Shared->Prop} {s:Shared} {m:Expr} {it:Addr} {u:Value} {o:Obj} {n:String} {vs:Array Value} {Q:Unit->Shared->Prop} (p:s.heap.get? it=some o) (q:o.cls= .type n) (hd:o.data= .fields vs)
 (hn:["enumerate","zip","dict_itemiterator","dict_reverseitemiterator","odict_iterator","itertools.zip_longest","itertools.pairwise"].contains n=false) (g:Q () s):wpAny M A (letOwnedTupleGo m (.ref it) u) Q E s:=by
 unfold letOwnedTupleGo
 cases m<;>first
  |exact Ql g
  |(cases u<;>first
   |exact Ql g
   |(refine Qc (wpAny_load p ?_)
     rw [q,hd];show wpAny M A (if (["enumerate","zip","dict_itemiterator","dict_reverseitemiterator","odict_iterator","itertools.zip_longest","itertools.pairwise"].contains n && vs[0]? ==some (rawInt _))=true then _ else _) Q E s;rw [QI (by intro h;rw [hn,Bool.false_and] at h;cases h)]
     exact Ql g))
def Itl (K:Frg) (a:Addr):It:=
 ⟨λi H=>∃xs x,SqL K H a xs/\xs[i]? =some x,λi H x H'=>H'=H/\∀xs,SqL K H a xs->xs[i]? =some x,λi H=>∃xs,SqL K H a xs/\xs.length<=i⟩
def Itt (K:Frg) (a:Addr):It:=
 ⟨λi H=>∃xs x,SqT K H a xs/\xs[i]? =some x,λi H x H'=>H'=H/\∀xs,SqT K H a xs->xs[i]? =some x,λi H=>∃xs,SqT K H a xs/\xs.length<=i⟩
def Itr (lo:Int) (n:Nat):It:=⟨λi _=>i<n,λi H x H'=>H'=H/\x= .int (lo+i),λi _=>n<=i⟩
def AZ {P:Program} {w:World} {K:Frg} {C:Expr} (a it:Addr):Turn P w K C (Itl K a) [it] it (λi h=>h.IsListIter it a i) where
 mem:=by simp
 obj:=λi h st b g=>by
  have e:b=it:=by simpa using g
  subst e;obtain ⟨o,e,c,d⟩:=st;exact ⟨o,e,λv z=>by rw [d] at z;cases z⟩
 keep:=λi h h' st k=>st.at λo e=>k it (by simp) o e
 item:=by
  intro X hP hw hK hc i pins s σ H E I hf st hg;subst hP hw hK;obtain ⟨xs,x,m,r⟩:=hg;obtain ⟨its,q,p,D⟩:=I.list m;obtain ⟨u,J,ru⟩:=q.get r;obtain ⟨f0,f1,f2,y,f4,t⟩:=hf it (by simp);refine wpAny_pyNext_list_item st p.isList (x:=u) ‹J› λh' A sb=>?_;have M:Inv X pins σ H {s with heap:=h'}:=I.turned (t':=s.toks) (λb o g e=>(sb.2 b g).trans e) f0 f1 y f4 t;obtain ⟨o,e,c,d⟩:=id A;exact ⟨u,rfl,DM (s:={s with heap:=h'}) e c d nofun ⟨x,H,M,ru,⟨rfl,λys G=>by rw [I.list_inj G m];exact r⟩,A,λb g=>(hf b g).1⟩⟩
 done:=by
  intro X hP hw hK hc i pins s σ H E I hf st hg;subst hP hw hK;obtain ⟨xs,m,r⟩:=hg;obtain ⟨its,q,p,D⟩:=I.list m;obtain ⟨f0,f1,f2,y,f4,t⟩:=hf it (by simp);have N:=q.length;exact wpAny_pyNext_list_end (I.ok.hd hc) st p.isList (by simp;lia) λh' L=>⟨rfl,I.turned (t':=s.toks) (λb o g e=>L b o g e) f0 f1 y f4 t⟩
 self:=λ_ _ _ _ _ st h=>wpAny_pyIter_listiter st h
def vA {P:Program} {w:World} {K:Frg} {C:Expr} (a it:Addr):Turn P w K C (Itt K a) [it] it (λi h=>h.IsTupleIter it a i) where
 mem:=by simp
 obj:=λi h st b g=>by
  have e:b=it:=by simpa using g
  subst e;obtain ⟨o,e,c,d⟩:=st;exact ⟨o,e,λv z=>by rw [d] at z;cases z⟩
 keep:=λi h h' st k=>st.at λo e=>k it (by simp) o e
 item:=by
  intro X hP hw hK hc i pins s σ H E I hf st hg;subst hP hw hK;obtain ⟨xs,x,m,r⟩:=hg;obtain ⟨its,q,p,D⟩:=I.tuple m;obtain ⟨u,J,ru⟩:=q.get r;obtain ⟨f0,f1,f2,y,f4,t⟩:=hf it (by simp);refine wpAny_pyNext_tuple_item st (show s.heap.IsTuple a its.toArray from p) (x:=u) ‹J› λh' A sb=>?_;have M:Inv X pins σ H {s with heap:=h'}:=I.turned (t':=s.toks) (λb o g e=>(sb.2 b g).trans e) f0 f1 y f4 t;obtain ⟨o,e,c,d⟩:=id A;exact ⟨u,rfl,DM (s:={s with heap:=h'}) e c d nofun ⟨x,H,M,ru,⟨rfl,λys G=>by rw [I.tuple_inj G m];exact r⟩,A,λb g=>(hf b g).1⟩⟩
 done:=by
  intro X hP hw hK hc i pins s σ H E I hf st hg;subst hP hw hK;obtain ⟨xs,m,r⟩:=hg;obtain ⟨its,q,p,D⟩:=I.tuple m;obtain ⟨f0,f1,f2,y,f4,t⟩:=hf it (by simp);have N:=q.length;exact wpAny_pyNext_tuple_end (I.ok.hd hc) st (show s.heap.IsTuple a its.toArray from p) (by simp;lia) λh' L=>⟨rfl,I.turned (t':=s.toks) (λb o g e=>L b o g e) f0 f1 y f4 t⟩
 self:=λ_ _ _ _ _ st h=>wpAny_pyIter_tupleiter st h
def vB {P:Program} {w:World} {K:Frg} {u:Expr} (it:Addr) (lo:Int) (n:Nat):Turn P w K u (Itr lo n) [it] it (λi h=>IsRangeIter h it (lo+(i:Nat)*1) ((n:Int) - (i:Nat)) 1) where
 mem:=by simp
 obj:=λi h st b g=>by
  have e:b=it:=by simpa using g
  subst e
  exact ⟨_,st,λv z=>by
   have r:Data.fields _=Data.cell v:=z
   cases r⟩
 keep:=λi h h' st k=>k it (by simp) _ st
 item:=by
  intro X hP hw hK hc i pins s σ H E I hf st hg;subst hP hw hK;obtain ⟨f0,f1,f2,p,f4,m⟩:=hf it (by simp);have W:=Walks.range (prog:=X.prog) (w:=X.w) (I.ok.hd hc) it lo 1 n;refine W.item i s _ _ hg st λv h' tk A q y=>?_;obtain ⟨t,rfl⟩:=A;have D:Inv X pins σ H {s with heap:=h',toks:=tk}:=I.turned (λb o g e=>y b o ‹g› e) f0 f1 p f4 m;refine ⟨_,rfl,DM (s:={s with heap:=h',toks:=tk}) (n:="range_iterator") q rfl rfl nofun ⟨.int (lo+i),H,D,⟨t,?_⟩,⟨rfl,rfl⟩,q,λb g=>(hf b g).1⟩⟩;rw [jbG]
 done:=by
  intro X hP hw hK hc i pins s σ H E I hf st hg;subst hP hw hK;obtain ⟨f0,f1,f2,p,f4,m⟩:=hf it (by simp);exact wpAny_pyNext_range_end (I.ok.hd hc) st (by have:n<=i:=hg;lia) λh' C=>⟨rfl,I.turned (t':=s.toks) (λb o g e=>C b o g e) f0 f1 p f4 m⟩
 self:=λ_ _ _ _ _ st h=>wpAny_pyIter_rangeiter st h
section
def iList (K:Frg) (g:TE):TI:=λσ H R=>g σ H λx H1=>∃a,x= .ref a/\(∃xs,SqL K H1 a xs)/\R (Itl K a) H1
def iTup (K:Frg) (g:TE):TI:=λσ H R=>g σ H λx H1=>∃a,x= .ref a/\(∃xs,SqT K H1 a xs)/\R (Itt K a) H1
def lE {l:Expr} {m:TE} (w:PE X l m):PI X tg l (iList X.K m):=by
 intro pins s σ H R I h;refine thn (w pins s σ H _ I h) λv s1 y=>?_;obtain ⟨x,H1,g,r,t⟩:=y;obtain ⟨a,e,⟨xs,u⟩,q⟩:=t;subst e;cases r;obtain ⟨its,A,p,C⟩:=g.list u;refine jaT p.isList ?_;refine ⟨s1.heap.objs.size,[s1.heap.objs.size],_,_,H1,rfl,g.kept (t':=s1.toks) λb o e=>Qi _ e,AZ a _,⟨_,Qu _ rfl,rfl,rfl⟩,λb z=>?_,q⟩;have e:b=s1.heap.objs.size:=by simpa using z
 subst e;exact g.fpOk (Qs _) (g.hok.fresh (Qs _))
def pi_tup {l:Expr} {m:TE} (w:PE X l m):PI X tg l (iTup X.K m):=by
 intro pins s σ H R I h;refine thn (w pins s σ H _ I h) λv s1 y=>?_;obtain ⟨x,H1,g,r,t⟩:=y;obtain ⟨a,e,⟨xs,u⟩,q⟩:=t;subst e;cases r;obtain ⟨its,A,p,C⟩:=g.tuple u;refine jam (show s1.heap.IsTuple a its.toArray from p) ?_;refine ⟨s1.heap.objs.size,[s1.heap.objs.size],_,_,H1,rfl,g.kept (t':=s1.toks) λb o e=>Qi _ e,vA a _,⟨_,Qu _ rfl,rfl,rfl⟩,λb z=>?_,q⟩;have e:b=s1.heap.objs.size:=by simpa using z
 subst e;exact g.fpOk (Qs _) (g.hok.fresh (Qs _))
def ua {pins:Pn} {σ:St} {H:Hp} {s:Shared} {R:It->Hp->Prop} {E:Value->Shared->Prop} {lo g:Int} {t u v:Tok} {tk:Nat} (I:Inv X pins σ H s) (C: -(2 ^ 62)<=lo) (z:lo<2 ^ 62) (y: -(2 ^ 62)<=g) (r:g<2 ^ 62)
 (q:R (Itr lo (g - lo).toNat) H):wpAny (model X.prog X.w) X.A (pyIter (.ref s.heap.objs.size)) (PIE X pins σ tg R) E {s with heap:=s.heap.push {cls:= .type "range",data:= .fields #[.int lo t, .int g u, .int 1 v]},toks:=tk}:=by
 refine wpAny_pyIter_range (IsRange.new ..) (small_one C z y r) ?_;have m:Inv X pins σ H {s with heap:=s.heap.push {cls:= .type "range",data:= .fields #[.int lo t, .int g u, .int 1 v]},toks:=tk}:=I.kept λb o e=>Qi _ e
 refine ⟨(s.heap.push {cls:= .type "range",data:= .fields #[.int lo t, .int g u, .int 1 v]}).objs.size,[(s.heap.push {cls:= .type "range",data:= .fields #[.int lo t, .int g u, .int 1 v]}).objs.size],_,_,H,rfl,
  m.kept (t':=tk) λb o e=>Qi _ e,vB _ lo (g - lo).toNat,?_,λb p=>?_,q⟩
 ·have G:lo+((0:Nat):Int)*1=lo:=by simp
  have D:(((g - lo).toNat:Nat):Int) - ((0:Nat):Int)=Builtin.Range.rangeSize lo g 1:=by rw [rangeSize_one];split<;>lia
  show IsRangeIter _ _ (lo+((0:Nat):Int)*1) ((((g - lo).toNat:Nat):Int) - ((0:Nat):Int)) 1;rw [G,D];exact Qu _ rfl
 ·have e:b=(s.heap.push {cls:= .type "range",data:= .fields #[.int lo t, .int g u, .int 1 v]}).objs.size:=by simpa using p
  subst e;exact m.fpOk (Qs _) (m.hok.fresh (Qs _))
def iRng1 (g:TA):TI:=λσ H R=>g σ H λvs H1=>∃j:Int,vs=[.int j]/\ -(2 ^ 62)<=j/\j<2 ^ 62/\R (Itr 0 j.toNat) H1
def iRng2 (g:TA):TI:=λσ H R=>g σ H λvs H1=>∃i j:Int,vs=[.int i, .int j]/\(-(2 ^ 62)<=i/\i<2 ^ 62/\ -(2 ^ 62)<=j/\j<2 ^ 62)/\R (Itr i (j - i).toNat) H1
def pi_range1 {a:Expr} {m:TA} {p pos:Pos} (A:Gl X "range") (hm:X.mg "range"=none) (ha:PA X [a] m) (z:starEach [a] X.env=[(false,eval a X.env)]:=by rfl):PI X tg (.Call (.Name "range" p) [a] [] pos) (iRng1 m):=by
 intro pins s σ H R I h;refine Call_ (XU I A hm boot_range (Tn (thn (ha pos pins s σ H _ I h) ?_) z rfl));rintro us s1 ⟨vs,H1,C,w,g⟩;obtain ⟨j,e,g,y,q⟩:=g;subst e
 cases w with
 |cons r u=>
  cases u;obtain ⟨t,rfl⟩:=r;exact call_range_1 (ua C ⋯ ⋯ g y ‹q›)
def pi_range2 {a b:Expr} {u:TA} {p pos:Pos} (J:Gl X "range") (hm:X.mg "range"=none) (ha:PA X [a,b] u) (G:starEach [a,b] X.env=[(false,eval a X.env),(false,eval b X.env)]:=by rfl) (w:starEach [b] X.env=[(false,eval b X.env)]:=by rfl):
 PI X tg (.Call (.Name "range" p) [a,b] [] pos) (iRng2 u):=by
 intro pins s σ H R I h;refine Call_ (XU I J hm boot_range (Tn (thn (ha pos pins s σ H _ I h) ?_) (by rw [G,w]) (by rw [w];rfl)));rintro us s1 ⟨vs,H1,K,y,m⟩;obtain ⟨i,j,e,⟨m,D,C,A⟩,q⟩:=m;subst e
 cases y with
 |cons r g=>
  cases g with
  |cons z g=>
   cases g;obtain ⟨t,rfl⟩:=r;obtain ⟨t',rfl⟩:=z;exact call_range_2 (ua K m D C A q)
def tFor (q:TI) (g:TG) (r:TS):TS:=λD σ H=>q σ H λJ H1=>∃W:Nat->Nat->St->Hp->Prop,(∃m,W 0 m σ H1)/\∀i m σ H,W i m σ H->
 (J.stop i H/\D.nx σ H)\/(J.go i H/\∃N:St->Hp->Prop,(∀σ' H',N σ' H'->∃p,p<m/\W (i+1) p σ' H')/\∀x H',J.yld i H x H'->g x σ H' λσ2 H2=>r {D with nx:=N,ct:=N,bk:=D.nx} σ2 H2)
def jt (g:List Addr) (h:Heap):List (Addr×Obj):=g.filterMap λb=>(h.get? b).map λo=>(b,o)
def ZP {g:List Addr} {h:Heap} {b:Addr} {o:Obj} (m:b∈g) (e:h.get? b=some o):(b,o)∈jt g h:=List.mem_filterMap.mpr ⟨b,m,by rw [e];rfl⟩
def Df {g:List Addr} {h:Heap} {p:Addr×Obj} (hp:p∈jt g h):p.1∈g/\h.get? p.1=some p.2:=by
 obtain ⟨b,m,e⟩:=List.mem_filterMap.mp hp
 cases q:h.get? b with
 |none=>rw [q] at e;cases e
 |some o=>
  rw [q] at e;have r:(b,o)=p:=Qw e;subst r;exact ⟨m,q⟩
def Inv.pinned {pins:Pn} {σ:St} {H:Hp} {s:Shared} {g:List Addr} (I:Inv X pins σ H s) (hf:∀b∈g,sU X pins H b) (r:∀b∈g,∃o,s.heap.get? b=some o/\∀v,o.data≠ .cell v):Inv X (pins++jt g s.heap) σ H s:=
 I.pins_of λp hp=>(QW.mp hp).elim (λz=>I.pin p (QB _ z)) λz=>by
  obtain ⟨m,e⟩:=Df z;obtain ⟨f0,f1,f2,_⟩:=hf p.1 m;obtain ⟨o,q,d⟩:=r p.1 m;rw [e] at q;cases q;exact ⟨e,f0,f1,f2,d⟩
def Inv.unpinned {pins pl:List (Addr×Obj)} {σ:St} {H:Hp} {s:Shared} (I:Inv X (pins++pl) σ H s):Inv X pins σ H s:=I.pins_of λp hp=>I.pin p (QB _ (jak _ hp))
def ps_for {iter:Expr} {body:List Stmt} {P:TI} {g:TG} {Y:TS} {pos:Pos} (hp:PassesOwn (model X.prog X.w) X.A X.env X.xe) (hc:X.calm=true) (hi:PI X tg iter P) (hg:PG X tg g) (q:PSs X body Y)
 (hs:∀x,foldedSetIterable iter X.env x=pure x:=by intro _;rfl):PS X (.For tg iter body [] pos) (tFor P g Y):=by
 intro pins s σ H D I h;refine wpAny_For (thn (hi pins s σ H _ I h) λv s1 h1=>thn h1 λitv s2 h2=>?_) hs;obtain ⟨it,K,U,J,H2,e,I2,T,Ob,f2,W,⟨m0,w0⟩,turn⟩:=h2;subst e;have p:∀{H':Hp},(∀b∈K,H' b=none)->∀b∈K,sU X pins H' b:=λhn b q=>⟨hn b q,(f2 b q).2⟩;refine codeAny_forLoop_any (λn Z=>∃i σ' H',Inv X pins σ' H' Z/\U i Z.heap/\(∀b∈K,H' b=none)/\W i n σ' H') ?_ m0 ⟨0,σ,H2,I2,Ob,λb q=>(f2 b q).1,w0⟩
 rintro n s3 ⟨i,σ3,H3,I3,st3,fr3,w3⟩
 rcases turn i n σ3 H3 w3 with ⟨stop,qn⟩|⟨go,N,hN,step⟩
 ·refine jbi hp (thn (T.done X rfl rfl rfl hc i pins s3 σ3 H3 X.xe I3 (p fr3) st3 stop) λr s4 C=>?_);obtain ⟨hr,I4⟩:=C;subst hr;exact wpAny_execs_nil ⟨σ3,H3,I4,qn⟩
 ·refine jbi hp (thn (T.item X rfl rfl rfl hc i pins s3 σ3 H3 X.xe I3 (p fr3) st3 go) λr s4 C=>?_);obtain ⟨u,hr,h4⟩:=C;subst hr;refine jbi hp (thn h4 λ_ s5 C=>?_);obtain ⟨x,H5,I5,r5,y5,M,Rx⟩:=C;have O:=I5.pinned (p Rx) (T.obj _ _ M);refine jbi hp (thn (hg _ s5 σ3 H5 x u _ O r5 (step x H5 y5)) λ_ s6 C=>?_);obtain ⟨σ6,H6,I6,q6⟩:=C;refine jbi hp (thn (q _ s6 σ6 H6 _ I6 q6) λf L z=>?_)
  have again:∀{σ7:St} {y:Hp},Inv X (pins++jt K s5.heap) σ7 y L->N σ7 y->∃m,m<n/\∃i σ' H',Inv X pins σ' H' L/\U i L.heap/\(∀b∈K,H' b=none)/\W i m σ' H':=λ{σ7 y} t G=>by
   obtain ⟨m',hm,w7⟩:=hN σ7 y G;refine ⟨m',hm,i+1,σ7,y,t.unpinned,T.keep _ _ _ M λb q o e=>(t.pin (b,o) (QB _ (QB _ (ZP q e)))).1,λb q=>?_,w7⟩;obtain ⟨o,e,d⟩:=T.obj _ _ M b q;exact (t.pin (b,o) (QB _ (QB _ (ZP q e)))).2.1
  cases f with
  |next=>obtain ⟨σ7,y,t,G⟩:=z;exact again t G
  |cont=>obtain ⟨σ7,y,t,G⟩:=z;exact again t G
  |brk=>obtain ⟨σ7,y,t,z⟩:=z;exact ⟨σ7,y,t.unpinned,z⟩
  |ret v=>obtain ⟨x7,σ7,y,t,r7,z⟩:=z;exact ⟨x7,σ7,y,t.unpinned,r7,z⟩
end
abbrev R2:=V->V->Hp->VK->Prop
def OpR (X:Cx) (f:Value->Value->Sem Value) (r:R2):Prop:=
 ∀(pins:Pn) (s:Shared) (σ:St) (H:Hp) (x y:V) (v u:Value) (Q:VK),Inv X pins σ H s->Zw x v->Zw y u->r x y H Q->
  wpAny (model X.prog X.w) X.A (f v u) (EP X pins σ Q) X.xe s
def UnR (X:Cx) (f:Value->Sem Value) (r:V->Hp->VK->Prop):Prop:=
 ∀(pins:Pn) (s:Shared) (σ:St) (H:Hp) (x:V) (v:Value) (Q:VK),Inv X pins σ H s->Zw x v->r x H Q->
  wpAny (model X.prog X.w) X.A (f v) (EP X pins σ Q) X.xe s
def Wi (X:Cx) (f:Value) (r:List V->Hp->VK->Prop):Prop:=
 ∀(pins:Pn) (s:Shared) (σ:St) (H:Hp) (xs:List V) (us:List Value) (Q:VK),Inv X pins σ H s->xi xs us->r xs H Q->
  wpAny (model X.prog X.w) X.A (call f us) (EP X pins σ Q) X.xe s
def tOp (r:R2) (m g:TE):TE:=λσ H Q=>m σ H λx H1=>g σ H1 λy p=>r x y p Q
def tUn (r:V->Hp->VK->Prop) (g:TE):TE:=λσ H Q=>g σ H λx H1=>r x H1 Q
def rI (C:Int->Int->Prop) (g:Int->Int->V):R2:=λx y H Q=>∃i j,x= .int i/\y= .int j/\C i j/\Q (g i j) H
def rI0 (g:Int->Int->V):R2:=λx y H Q=>∃i j,x= .int i/\y= .int j/\Q (g i j) H
def rU (g:Int->V):V->Hp->VK->Prop:=λx H Q=>∃i,x= .int i/\Q (g i) H
section
def binT (ha:PE X a ta) (z:PE X b tb) {pins:Pn} {s:Shared} {σ:St} {H:Hp} {R:V->V->Hp->Prop} (I:Inv X pins σ H s)
 (h:ta σ H λx H1=>tb σ H1 λy g=>R x y g) {Q:Value->Shared->Prop} {f:Value->Value->Sem Value}
 (hf:∀v u s2 x y g,Inv X pins σ g s2->Zw x v->Zw y u->R x y g->wpAny (model X.prog X.w) X.A (f v u) Q X.xe s2):
 wpAny (model X.prog X.w) X.A (eval a X.env) (λv s₁=>wpAny (model X.prog X.w) X.A (eval b X.env) (λu s₂=>wpAny (model X.prog X.w) X.A (f v u) Q X.xe s₂) X.xe s₁) X.xe s:=by
 refine thn (ha pins s σ H _ I h) λv s1 m=>?_;obtain ⟨x,H1,D,q,t⟩:=m;refine thn (z pins s1 σ H1 _ D t) λu s2 m=>?_;obtain ⟨y,g,C,p,r⟩:=m;exact hf v u s2 x y g C q p r
def pe_op {op:Operator} {r:R2} (p:OpR X (binaryOp op) r) (ha:PE X a ta) (t:PE X b tb):PE X (.BinOp a op b pos) (tOp r ta tb):=by
 intro pins s σ H Q I h;exact wpAny_BinOp (binT ha t I h λv u s2 x y z w m g q=>p pins s2 σ z x y v u Q w m g q)
def pe_un {op:UnaryOp} {r:V->Hp->VK->Prop} (p:UnR X (unaryOp op) r) (ha:PE X a ta):PE X (.UnaryOp op a pos) (tUn r ta):=by
 intro pins s σ H Q I h;refine UnaryOp_ (thn (ha pins s σ H _ I h) ?_);rintro v s1 ⟨x,H1,q,g,m⟩;exact p pins s1 σ H1 x v Q q g m
def opI {f:Value->Value->Sem Value} {C:Int->Int->Prop} {g:Int->Int->Int}
 (rule:∀(i j:Int) (t u:Tok) (s:Shared) (Q:Value->Shared->Prop) (E:Value->Shared->Prop),C i j->Q (.int (g i j) s.toks) {s with toks:=s.toks+1}->wpAny (model X.prog X.w) X.A (f (.int i t) (.int j u)) Q E s):
 OpR X f (rI C λi j=> .int (g i j)):=by
 intro pins s σ H x y v u Q I rx ry h;obtain ⟨i,j,rfl,rfl,m,q⟩:=h;obtain ⟨t,rfl⟩:=rx;obtain ⟨t',rfl⟩:=ry;exact rule i j t t' s _ _ m ⟨.int (g i j),H,I.tok _,⟨_,rfl⟩,q⟩
def opI0 {f:Value->Value->Sem Value} {g:Int->Int->Int}
 (rule:∀(i j:Int) (t u:Tok) (s:Shared) (Q:Value->Shared->Prop) (E:Value->Shared->Prop),Q (.int (g i j) s.toks) {s with toks:=s.toks+1}->wpAny (model X.prog X.w) X.A (f (.int i t) (.int j u)) Q E s):
 OpR X f (rI0 λi j=> .int (g i j)):=by
 intro pins s σ H x y v u Q I rx ry h;obtain ⟨i,j,rfl,rfl,q⟩:=h;obtain ⟨t,rfl⟩:=rx;obtain ⟨t',rfl⟩:=ry;exact rule i j t t' s _ _ ⟨.int (g i j),H,I.tok _,⟨_,rfl⟩,q⟩
def opB0 {f:Value->Value->Sem Value} {g:Int->Int->Bool}
 (rule:∀(i j:Int) (t u:Tok) (s:Shared) (Q:Value->Shared->Prop) (E:Value->Shared->Prop),Q (.bool (g i j)) s->wpAny (model X.prog X.w) X.A (f (.int i t) (.int j u)) Q E s):
 OpR X f (rI0 λi j=> .bl (g i j)):=by
 intro pins s σ H x y v u Q I rx ry h;obtain ⟨i,j,rfl,rfl,q⟩:=h;obtain ⟨t,rfl⟩:=rx;obtain ⟨t',rfl⟩:=ry;exact rule i j t t' s _ _ ⟨.bl (g i j),H,I,rfl,q⟩
def CDiv (i j:Int):Prop:=0<j/\j<1073741824
def CPow (i j:Int):Prop:=0<=j/\j<=1000000/\i.natAbs<2 ^ 64
def CMul (i j:Int):Prop:=(-(2 ^ 64)<i/\i<2 ^ 64)\/(-(2 ^ 64)<j/\j<2 ^ 64)
def CMul.ok {i j:Int} (h:CMul i j):IntMulOk i j:=by
 rcases h with ⟨m,g⟩|⟨m,g⟩
 ·exact .of_left (intBits_le_64 m g)
 ·exact .of_right (intBits_le_64 m g)
def op_add:OpR X (binaryOp .Add) (rI0 λi j=> .int (i+j)):=opI0 λ_ _ _ _ _ _ _ q=>add_int q
def op_sub:OpR X (binaryOp .Sub) (rI0 λi j=> .int (i - j)):=opI0 λ_ _ _ _ _ _ _ q=>sub_int q
def op_fdiv:OpR X (binaryOp .FloorDiv) (rI CDiv λi j=> .int (i / j)):=opI λi j _ _ _ _ _ g q=>by
 have p:(0:Int)<j:=g.1;have m:j<1073741824:=g.2;exact floordiv_int ⋯ (by rw [Td i ⋯];exact q) (.inl (PyProof.noPylong_small ⋯))
def op_mod:OpR X (binaryOp .Mod) (rI (λ_ j=>0<j) λi j=> .int (i % j)):=opI λi j _ _ _ _ _ g q=>by
 have m:(0:Int)<j:=g;exact mod_int' ⋯ (by rw [QZ i ⋯];exact q)
def op_modN:OpR X (binaryOp .Mod) (rI (λ_ j=>j≠0) λi j=> .int (i.fmod j)):=opI λ_ _ _ _ _ _ _ g q=>mod_int' g q
def op_pow:OpR X (binaryOp .Pow) (rI CPow λi j=> .int (i ^ j.toNat)):=opI λ_ _ _ _ _ _ _ g q=>pow_int_small g.1 g.2.1 g.2.2 q
def unI {f:Value->Sem Value} {g:Int->Int}
 (rule:∀(i:Int) (t:Tok) (s:Shared) (Q:Value->Shared->Prop) (E:Value->Shared->Prop),Q (.int (g i) s.toks) {s with toks:=s.toks+1}->wpAny (model X.prog X.w) X.A (f (.int i t)) Q E s):
 UnR X f (rU λi=> .int (g i)):=by
 intro pins s σ H x v Q I rx h;obtain ⟨i,rfl,q⟩:=h;obtain ⟨t,rfl⟩:=rx;exact rule i t s _ _ ⟨.int (g i),H,I.tok _,⟨_,rfl⟩,q⟩
def un_neg:UnR X (unaryOp .USub) (rU λi=> .int (-i)):=unI λ_ _ _ _ _ q=>neg_int q
end
def scal:V->V->Bool
 | .non, .non=>true| .non, .int _=>true| .int _, .non=>true| .non, .bl _=>true| .bl _, .non=>true| .non, .str _=>true| .str _, .non=>true
 | .int _, .int _=>true| .bl _, .bl _=>true| .str _, .str _=>true
 | .int _, .str _=>true| .str _, .int _=>true| .bl _, .str _=>true| .str _, .bl _=>true
 |_,_=>false
def rEq:R2:=λx y H Q=>scal x y=true/\Q (.bl (decide (x=y))) H
def rNe:R2:=λx y H Q=>scal x y=true/\Q (.bl (!decide (x=y))) H
def Ep {i j:Int}:decide (V.int i=V.int j)=(i==j):=by
 rw [jbv]
 simp
def Jc {i j:Bool}:decide (V.bl i=V.bl j)=(i==j):=by
 rw [jbv]
 simp
def Eo {i j:Str}:decide (V.str i=V.str j)=(i==j):=by
 rw [jbv]
 simp
section
def yF {pins:Pn} {σ:St} {H:Hp} {s:Shared} {Q:VK} {k g:Bool} (I:Inv X pins σ H s) (q:Q (.bl k) H) (e:k=g):EP X pins σ Q (.bool g) s:=by
 subst e;exact ⟨.bl k,H,I,rfl,q⟩
def op_eq:OpR X (compareOp .Eq) rEq:=by
 intro pins s σ H x y v u Q I rx ry h;obtain ⟨g,q⟩:=h
 cases x with
 |non=>
  cases rx
  cases y with
  |non=>cases ry;exact PySem.EqNone.eq_none_none (yF I q (by simp))
  |bl j=>cases ry;exact PySem.EqNone.eq_none_bool (yF I q (by simp))
  |int j=>obtain ⟨t',rfl⟩:=ry;exact PySem.EqNone.eq_none_int (yF I q (by simp))
  |str j=>obtain ⟨t',rfl⟩:=ry;exact PySem.EqNone.eq_none_str (yF I q (by simp))
  |_=>exact absurd (show false=true from g) Qv
 |bl i=>
  cases rx
  cases y with
  |non=>cases ry;exact PySem.EqNone.eq_bool_none (yF I q (by simp))
  |bl j=>cases ry;exact eq_bool (yF I q Jc)
  |str j=>obtain ⟨t',rfl⟩:=ry;exact PySem.EqMixed.eq_bool_str (yF I q (by simp))
  |_=>exact absurd (show false=true from g) Qv
 |int i=>
  obtain ⟨t,rfl⟩:=rx
  cases y with
  |non=>cases ry;exact PySem.EqNone.eq_int_none (yF I q (by simp))
  |int j=>obtain ⟨t',rfl⟩:=ry;exact eq_int (yF I q Ep)
  |str j=>obtain ⟨t',rfl⟩:=ry;exact PySem.EqMixed.eq_int_str (yF I q (by simp))
  |_=>exact absurd (show false=true from g) Qv
 |str i=>
  obtain ⟨t,rfl⟩:=rx
  cases y with
  |non=>cases ry;exact PySem.EqNone.eq_str_none (yF I q (by simp))
  |bl j=>cases ry;exact PySem.EqMixed.eq_str_bool (yF I q (by simp))
  |int j=>obtain ⟨t',rfl⟩:=ry;exact PySem.EqMixed.eq_str_int (yF I q (by simp))
  |str j=>obtain ⟨t',rfl⟩:=ry;exact eq_str (yF I q Eo)
  |_=>exact absurd (show false=true from g) Qv
 |_=>cases y<;>exact absurd (show false=true from g) Qv
def op_ne:OpR X (compareOp .NotEq) rNe:=by
 intro pins s σ H x y v u Q I rx ry h;obtain ⟨g,q⟩:=h
 cases x with
 |non=>
  cases rx
  cases y with
  |non=>cases ry;exact PySem.EqNone.ne_none_none (yF I q (by simp))
  |bl j=>cases ry;exact PySem.EqNone.ne_none_bool (yF I q (by simp))
  |int j=>obtain ⟨t',rfl⟩:=ry;exact PySem.EqNone.ne_none_int (yF I q (by simp))
  |str j=>obtain ⟨t',rfl⟩:=ry;exact PySem.EqNone.ne_none_str (yF I q (by simp))
  |_=>exact absurd (show false=true from g) Qv
 |bl i=>
  cases rx
  cases y with
  |non=>cases ry;exact PySem.EqNone.ne_bool_none (yF I q (by simp))
  |bl j=>cases ry;exact ne_bool (yF I q (congrArg not Jc))
  |str j=>obtain ⟨t',rfl⟩:=ry;exact PySem.EqMixed.ne_bool_str (yF I q (by simp))
  |_=>exact absurd (show false=true from g) Qv
 |int i=>
  obtain ⟨t,rfl⟩:=rx
  cases y with
  |non=>cases ry;exact PySem.EqNone.ne_int_none (yF I q (by simp))
  |int j=>obtain ⟨t',rfl⟩:=ry;exact ne_int (yF I q (congrArg not Ep))
  |str j=>obtain ⟨t',rfl⟩:=ry;exact PySem.EqMixed.ne_int_str (yF I q (by simp))
  |_=>exact absurd (show false=true from g) Qv
 |str i=>
  obtain ⟨t,rfl⟩:=rx
  cases y with
  |non=>cases ry;exact PySem.EqNone.ne_str_none (yF I q (by simp))
  |bl j=>cases ry;exact PySem.EqMixed.ne_str_bool (yF I q (by simp))
  |int j=>obtain ⟨t',rfl⟩:=ry;exact PySem.EqMixed.ne_str_int (yF I q (by simp))
  |str j=>obtain ⟨t',rfl⟩:=ry;exact ne_str (yF I q (congrArg not Eo))
  |_=>exact absurd (show false=true from g) Qv
 |_=>cases y<;>exact absurd (show false=true from g) Qv
def op_lt:OpR X (compareOp .Lt) (rI0 λi j=> .bl (decide (i<j))):=opB0 λ_ _ _ _ _ _ _ q=>lt_int q
def op_le:OpR X (compareOp .LtE) (rI0 λi j=> .bl (decide (i<=j))):=opB0 λ_ _ _ _ _ _ _ q=>le_int q
def op_gt:OpR X (compareOp .Gt) (rI0 λi j=> .bl (decide (j<i))):=opB0 λ_ _ _ _ _ _ _ q=>gt_int q
def op_ge:OpR X (compareOp .GtE) (rI0 λi j=> .bl (decide (j<=i))):=opB0 λ_ _ _ _ _ _ _ q=>ge_int q
def op_isN:OpR X (compareOp .Is) (λx y H Q=>y= .non/\Q (.bl (decide (x= .non))) H):=by
 intro pins s σ H x y v u Q I rx ry h;obtain ⟨rfl,q⟩:=h;cases ry;refine is_none_gen (yF I q ?_)
 cases x<;>first
  |(cases rx;rfl)
  |(obtain ⟨t,rfl⟩:=rx;rfl)
def op_notN:OpR X (compareOp .IsNot) (λx y H Q=>y= .non/\Q (.bl (!decide (x= .non))) H):=by
 intro pins s σ H x y v u Q I rx ry h;obtain ⟨rfl,q⟩:=h;cases ry;refine isnot_none_gen (yF I q ?_)
 cases x<;>first
  |(cases rx;rfl)
  |(obtain ⟨t,rfl⟩:=rx;rfl)
def OpR.or {f:Value->Value->Sem Value} {r g:R2} (h:OpR X f r) (h':OpR X f g):OpR X f (λx y H Q=>r x y H Q\/g x y H Q):=by
 intro pins s σ H x y v u Q I rx ry q
 rcases q with q|q
 ·exact h pins s σ H x y v u Q I rx ry q
 ·exact h' pins s σ H x y v u Q I rx ry q
def Dg (b:Expr) {op:CmpOp} (h:op≠ .In:=by decide) (g:op≠ .NotIn:=by decide):behindInMarks op b=false:=by
 have p:(op==CmpOp.In)=false:=by cases op<;>first|rfl|exact absurd rfl h
 have m:(op==CmpOp.NotIn)=false:=by cases op<;>first|rfl|exact absurd rfl g
 cases b<;>simp [behindInMarks,p,m]
def pe_cmpR {op:CmpOp} {r:R2} (p:OpR X (compareOp op) r) (ha:PE X a ta) (t:PE X b tb) (hm:behindInMarks op b=false):PE X (.Compare a [op] [b] pos) (tOp r ta tb):=by
 intro pins s σ H Q I h;exact wpAny_Compare1 (binT ha t I h λv u s2 x y z w m g q=>p pins s2 σ z x y v u Q w m g q) hm
def tTest (t:TE):TT:=λσ H Q=>t σ H λx H'=>∃k,x= .bl k/\Q k H'
def qU {op:CmpOp} {r:R2} (A:OpR X (compareOp op) r) (ha:PE X a ta) (C:PE X b tb) (hm:behindInMarks op b=false):PT X (.Compare a [op] [b] pos) (tTest (tOp r ta tb)):=by
 intro pins s σ H Q I h
 refine wpAny_isTrue_Compare1 (thn (ha pins s σ H _ I h) λv s1 ⟨x,H1,J,p,w⟩=>thn (C pins s1 σ H1 _ J w) λu s2 ⟨y,L,G,m,t⟩=>
  thn (A pins s2 σ L x y v u _ G p m t) λc s3 ⟨z,K,D,g,k,e,q⟩=>?_) hm
 subst e;cases g;exact jbN ⟨K,D,q⟩
def oO:(sizeLine:Nat)<2 ^ 63:=by rw [sizeLine_eq];decide
def vX:OpR X (binaryOp .Add) (λx y H Q=>∃i j,x= .str i/\y= .str j/\i.length+j.length<=sizeLine/\Q (.str (i++j)) H):=by
 intro pins s σ H x y v u Q I rx ry h;obtain ⟨i,j,rfl,rfl,g,q⟩:=h;obtain ⟨t,rfl⟩:=rx;obtain ⟨t',rfl⟩:=ry;exact add_str (λt' tk=>⟨.str (i++j),H,I.tok _,⟨_,rfl⟩,q⟩) g
def ae {x:V} {us:List Value} (r:xi [x] us):∃u,us=[u]/\Zw x u:=by
 cases r with
 |cons m g=>cases g;exact ⟨_,rfl,m⟩
def Fx {x y:V} {us:List Value} (r:xi [x,y] us):∃u g,us=[u,g]/\Zw x u/\Zw y g:=by
 cases r with
 |cons s q=>
  cases q with
  |cons p m=>cases m;exact ⟨_,_,rfl,s,p⟩
def HM:Wi X (.builtin "abs") (λxs H Q=>∃i,xs=[.int i]/\Q (.int (if i<0 then -i else i)) H):=by
 intro pins s σ H xs us Q I r h;obtain ⟨i,rfl,q⟩:=h;obtain ⟨u,rfl,t,rfl⟩:=ae r;exact call_abs_int λu tk=>⟨.int (if i<0 then -i else i),H,I.tok _,⟨_,rfl⟩,q⟩
def Ey (m:X.calm=true):Wi X (.builtin "min") (λxs H Q=>∃i j,xs=[.int i, .int j]/\Q (.int (if j<i then j else i)) H):=by
 intro pins s σ H xs us Q I r h;obtain ⟨i,j,rfl,q⟩:=h;obtain ⟨u,p,rfl,⟨t,rfl⟩,⟨t',rfl⟩⟩:=Fx r;refine min_two_ints (I.ok.hd m) λh' tk k=>⟨_,H,I.kept k,?_,q⟩
 by_cases g:j<i
 ·rw [QD g,QD g];exact ⟨_,rfl⟩
 ·rw [QI g,QI g];exact ⟨_,rfl⟩
def ph:Wi X (.type "str") (λxs H Q=>∃i,xs=[.int i]/\i.natAbs.log2<1920/\Q (.str (toString i)) H):=by
 intro pins s σ H xs us Q I r h;obtain ⟨i,rfl,g,q⟩:=h;obtain ⟨u,rfl,t,rfl⟩:=ae r;exact PySem.P.str_of_int g ⟨.str _,H,I.tok _,⟨_,rfl⟩,q⟩
end
structure ObjM (h:Heap) (x dx C:Addr) (mA:Str->Option Value):Prop where
 obj:h.get? x=some (PySem.W.instObj C dx)
 ns:h.Ns1 dx mA
 ne:dx≠x
def Dq {h:Heap} {r:Addr} {p:Str->Option Value} (n:h.Ns1 r p):∃m,h.get? r=some m/\∀name,PySem.W.lookIn name m=some (p name):=by
 obtain ⟨o,es,ep,u,hd,w,_,hm⟩:=n;refine ⟨o,u,λname=>?_⟩;have e:=hm name;unfold nsFind findBy at e;rw [<-Array.find?_toList] at e;unfold PySem.W.lookIn;rw [hd];dsimp only
 split
 ·rename_i y q;rw [q] at e;exact congrArg some e
 ·rename_i q;rw [q] at e
  have a:es.toList.any (·.refKey)=false:=by
   rw [List.any_eq_false];intro y s;obtain ⟨z,t,g⟩:=w y (Array.mem_toList_iff.mp s);simp [DictEntry.refKey,g]
  have A:¬es.toList.any (·.refKey)=true:=by rw [a];exact Qv
  rw [QI A];exact congrArg some e
def ObjM.look {h:Heap} {x p C:Addr} {m:Str->Option Value} (I:ObjM h x p C m):∃g,PySem.W.InstAt h x (PySem.W.instObj C p) C (some g)/\∀name,PySem.W.lookIn name g=some (m name):=
 let ⟨g,q,r⟩:=Dq I.ns
 ⟨g,⟨I.obj,rfl,rfl,q⟩,r⟩
section
variable {prog:Program} {w:World} {A:Around} {E:Value->Shared->Prop} {s:Shared} {K:Frg} {x dx C f:Addr} {mA:Str->Option Value} {name:Str} {v:Value}
def Ly {expr:Bool} {Q:Value->Shared->Prop} (X:K.In s.heap) (I:ObjM s.heap x dx C mA) (q:PySem.W.plainGet K C name=true) (p:PySem.W.hasDictIn K C=true)
 (ha:PySem.W.findIn K (.ref C) name=some none) (g:mA name=some v) (r:PySem.W.handedIn v=true) (h:Q v {s with toks:=s.toks+1}):
 wpAny (model prog w) A (getAttr (.ref x) name expr) Q E s:=by
 obtain ⟨t,J,m⟩:=I.look;exact PySem.W.get_value X J (PySem.W.plainGet_of q).1 (PySem.W.findObj_own p ha rfl (by rw [m,g])) r h
def HA {pl:Sem Bool} {Q:Value×List Value->Shared->Prop} (X:K.In s.heap) (I:ObjM s.heap x dx C mA) (g:PySem.W.plainGet K C name=true)
 (hf:PySem.W.findIn K (.ref C) name=some (some (.ref f))) (ht:PySem.W.isFn K (.ref f)=true) (p:mA name=none) (h:Q (.ref f,[.ref x]) s):
 wpAny (model prog w) A (getMethod (.ref x) name pl) Q E s:=by
 obtain ⟨m,J,q⟩:=I.look;exact PySem.W.method_fn X J (PySem.W.plainGet_of g).1 (PySem.W.plainGet_of g).2 hf (beq_iff_eq.mp ht) (by show (PySem.W.lookIn name m).map (·.isSome)=some false;rw [q,p];rfl) h
def JN {ns:List Str} {Q:Unit->Shared->Prop} (X:K.In s.heap) (I:ObjM s.heap x dx C mA)
 (z:PySem.W.findIn K (.ref C) "__setattr__"=some (some (.builtin "object.__setattr__"))) (hp:PySem.W.plainOver K C=true) (ht:PySem.W.takerIn K C name=some none) (D:PySem.W.hasDictIn K C=true)
 (hw:PySem.Within mA ns) (hsz:ns.length<=sizeLine)
 (h:∀h',ObjM h' x dx C (λy=>if y=name then some v else mA y)->Heap.SameBut dx s.heap h'->Q () {s with heap:=h',toks:=s.toks+2}):
 wpAny (model prog w) A (setAttr (.ref x) name v) Q E s:=by
 obtain ⟨O,J,T⟩:=I.look;refine PySem.W.set_plain X J z (PySem.W.osa_open (s:={s with toks:=s.toks+1}) (r:=none) X J hp ht λb=>?_);obtain ⟨cd,G,N⟩:=PySem.W.any_some D;have u:s.heap.get? x=some ⟨.ref C,some dx, .plain,#[]⟩:=I.obj;refine Qc (Ql (Qc (Qc (wpAny_loadPart u (Qc (PySem.W.Looks.here (s:={s with toks:=s.toks+1}) (PySem.W.looks_clsIn X G) ?_))))));rw [N];refine Ql (a:=some dx) (Qc (Ql (Qc ?_)));refine wpAny_nsSet1 (s:={s with toks:=s.toks+1}) I.ns λh' q t=>?_;obtain ⟨P,L,M,g,m,p⟩:=q.count (PySem.Within.cons name v hw);refine Qc (wpAny_lookBehind g (by rw [m];exact pastItsLine_dict (QP p (by rw [QE];lia))) ?_);exact Ql (h _ ⟨(t.2 _ (Ne.symm I.ne)).trans I.obj,q,I.ne⟩ t)
def GP {R:Result->Shared->Prop} {vs:List Value} {kw:List (Str×Value)} (X:K.In s.heap) (hm:PySem.W.makesIn K C=true)
 (m:PySem.W.findIn K (.ref C) "__init__"=some (some (.ref f))) (hf:PySem.W.typeIn K (.ref f)=some (.type "function"))
 (h:codeAny (model prog w) (A.under (.builtin "type.__call__" ⟨.ref C::vs,kw⟩)) (.call (.ref f) ⟨.ref (s.heap.objs.size+1)::vs,kw⟩) (PySem.W.InitBack (s.heap.objs.size+1) R)
  {s with heap:=(s.heap.push PySem.W.emptyDict).push (PySem.W.instObj C s.heap.objs.size)}):
 codeAny (model prog w) A (.call (.ref C) ⟨vs,kw⟩) R s:=by
 obtain ⟨p,g,d,t,os⟩:=s;exact PySem.W.make_core (PySem.W.makes_of X hm) (PySem.W.looks_findIn X m) (λself=>PySem.W.bind_fn X self hf) (.inl rfl) h
end
def oi (f:Str) (v:V):List (Str×V)->List (Str×V)
 |[]=>[(f,v)]
 |(g,x)::r=>if g=f then (g,v)::r else (g,x)::oi f v r
theorem fo (f g:Str) (v:V):∀fs:List (Str×V),(oi f v fs).lookup g=if g=f then some v else fs.lookup g
 |[]=>by
  show List.lookup g [(f,v)]=_
  by_cases h:g=f
  ·have m:(g==f)=true:=beq_iff_eq.mpr h;simp only [List.lookup,m,QD h]
  ·have m:(g==f)=false:=jaV.mpr h;simp only [List.lookup,m,QI h]
 |(k,x)::r=>by
  have q:=fo f g v r;rw [show oi f v ((k,x)::r)=(if k=f then (k,v)::r else (k,x)::oi f v r) from rfl]
  by_cases p:k=f
  ·rw [QD p]
   by_cases h:g=k
   ·have m:(g==k)=true:=beq_iff_eq.mpr h;simp only [List.lookup,m,QD (h.trans p)]
   ·have m:(g==k)=false:=jaV.mpr h;simp only [List.lookup,m,QI (λe:g=f=>h (e.trans p.symm))]
  ·rw [QI p]
   by_cases h:g=k
   ·have m:(g==k)=true:=beq_iff_eq.mpr h;simp only [List.lookup,m,QI (λe:g=f=>p (h.symm.trans e))]
   ·have m:(g==k)=false:=jaV.mpr h;simp only [List.lookup,m];exact q
theorem fC (f:Str) (v:V):∀fs:List (Str×V),f∈(oi f v fs).map (·.1)/\∀g,g∈fs.map (·.1)->g∈(oi f v fs).map (·.1)
 |[]=>⟨by simp [oi],λg h=>by simp at h⟩
 |(k,x)::r=>by
  obtain ⟨q,p⟩:=fC f v r;rw [show oi f v ((k,x)::r)=(if k=f then (k,v)::r else (k,x)::oi f v r) from rfl]
  by_cases m:k=f
  ·rw [QD m];subst m;exact ⟨by simp,λg h=>by simpa using h⟩
  ·rw [QI m];refine ⟨?_,λg h=>?_⟩
   ·rw [Qj];exact Qe _ q
   ·rw [Qj] at h⊢
    rcases Qn.mp h with e|e
    ·exact Qn.mpr (.inl e)
    ·exact Qe _ (p g e)
theorem fq (f:Str) (v:V):∀fs:List (Str×V),(oi f v fs).length<=fs.length+1
 |[]=>by simp [oi]
 |(k,x)::r=>by
  have m:=fq f v r;rw [show oi f v ((k,x)::r)=(if k=f then (k,v)::r else (k,x)::oi f v r) from rfl]
  by_cases g:k=f
  ·rw [QD g,QE,QE];lia
  ·rw [QI g,QE,QE];lia
def Ii.some_of {v:V} {o:Option Value} (r:Ii (some v) o):∃u,o=some u/\Zw v u:=by
 cases o with
 |none=>exact (show False from r).elim
 |some u=>exact ⟨u,rfl,r⟩
def Ii.none_of {o:Option Value} (r:Ii none o):o=none:=by
 cases o with
 |none=>rfl
 |some u=>exact (show False from r).elim
def DL {v:V} {u:Value} (r:Zw v u):PySem.W.handedIn u=true:=by
 cases v with
 |non=>cases (show u=Value.none from r);rfl
 |bl b=>cases (show u=Value.bool b from r);rfl
 |int i=>obtain ⟨t,e⟩:=(show ∃t,u=Value.int i t from r);cases e;rfl
 |str x=>obtain ⟨t,e⟩:=(show ∃t,u=Value.str x t from r);cases e;rfl
 |ref a=>cases (show u=Value.ref a from r);rfl
 |ty n=>cases (show u=Value.type n from r);rfl
section
def lV (hok:HOk P w H h) (e:H a=some (.ins C dx fs)):∃g,ObjM h a dx C g/\(∀f,Ii (fs.lookup f) (g f))/\PySem.Within g (fs.map (·.1))/\fs.length<=1000/\H dx=some (.own a):=by
 obtain ⟨d,z,ne,m,g,n,r,q⟩:=(show Yg P w H h a (.ins C dx fs) from hok a _ e);exact ⟨g,⟨m,n,ne⟩,r,q,z,d⟩
end
structure Cls (K:Frg) (C:Addr):Prop where
 pg:PySem.W.plainGet K C Str.empty=true
 hd:PySem.W.hasDictIn K C=true
 po:PySem.W.plainOver K C=true
 sa:PySem.W.findIn K (.ref C) "__setattr__"=some (some (.builtin "object.__setattr__"))
def Cls.get {K:Frg} {C:Addr} (c:Cls K C) (f:Str):PySem.W.plainGet K C f=true:=c.pg
def WU (K:Frg) (C:Addr) (f:Str):Prop:=PySem.W.findIn K (.ref C) f=some none
def WU.taker {K:Frg} {C:Addr} {f:Str} (n:WU K C f):PySem.W.takerIn K C f=some none:=by
 unfold PySem.W.takerIn;rw [show PySem.W.findIn K (.ref C) f=some none from n];rfl
structure Meth (K:Frg) (C:Addr) (m:Str) (f:Addr):Prop where
 at_:PySem.W.findIn K (.ref C) m=some (some (.ref f))
 fn:PySem.W.isFn K (.ref f)=true
 kp:PySem.W.keepIn K (.ref f)=true
section
def jF {b:Bool} {Q:Value->Shared->Prop} (I:Inv X pins σ H s) (e:H a=some (.ins C dx fs)) (c:Cls X.K C) (n:WU X.K C f) (l:fs.lookup f=some v)
 (h:∀u g,Inv X pins σ H g->Zw v u->Q u g):wpAny (model X.prog X.w) A (getAttr (.ref a) f b) Q E s:=by
 obtain ⟨m,O,r,_,_,_⟩:=lV I.hok e;obtain ⟨u,p,ru⟩:=Ii.some_of (v:=v) (o:=m f) (by rw [<-l];exact r f);exact Ly I.kIn O (c.get f) c.hd n p (DL ru) (h u _ (I.tok _) ru)
def aT {m:Str} {g:Addr} {pl:Sem Bool} {Q:Value×List Value->Shared->Prop} (I:Inv X pins σ H s) (e:H a=some (.ins C dx fs)) (c:Cls X.K C) (k:Meth X.K C m g) (l:fs.lookup m=none)
 (h:Q (.ref g,[.ref a]) s):wpAny (model X.prog X.w) A (getMethod (.ref a) m pl) Q E s:=by
 obtain ⟨p,O,r,_,_,_⟩:=lV I.hok e;have hn:p m=none:=Ii.none_of (by rw [<-l];exact r m);exact HA I.kIn O (c.get m) k.at_ k.fn hn h
def jf {y:V} {u:Value} {Q:Unit->Shared->Prop} (I:Inv X pins σ H s) (e:H a=some (.ins C dx fs)) (c:Cls X.K C) (n:WU X.K C f) (T:fs.length<1000) (J:Zw y u)
 (h:∀t,Inv X pins σ (upd H a (.ins C dx (oi f y fs))) t->Q () t):wpAny (model X.prog X.w) A (setAttr (.ref a) f u) Q E s:=by
 obtain ⟨D,O,r,p,_,G⟩:=lV I.hok e;have L:(fs.map (·.1)).length<=sizeLine:=by rw [Qb,sizeLine_eq];lia
 refine JN I.kIn O c.sa c.po n.taker c.hd p L λh' m sb=>h _ ?_;have hd:∃o,h'.get? dx=some o:=let ⟨o,_,_,P,_⟩:=m.ns;⟨o,P⟩
 refine I.write (x:=a) (e:=dx) (by rw [e];exact True.intro) (.inr G) (λb q N z=>(sb.2 b N).trans z) hd ?_;refine ⟨by rw [zP O.ne];exact G,?_,O.ne,m.obj,_,m.ns,λg=>?_,λg M=>?_⟩
 ·have:=fq f y fs;lia
 ·show Ii ((oi f y fs).lookup g) (if g=f then some u else D g);rw [fo]
  by_cases q:g=f
  ·rw [QD q,QD q];exact J
  ·rw [QI q,QI q];exact r g
 ·by_cases q:g=f
  ·rw [q];exact (fC f y fs).1
  ·refine (fC f y fs).2 g (p g λz=>M ?_);show (if g=f then some u else D g)=none;rw [QI q];exact z
def Inv.made (I:Inv X pins σ H s):Inv X pins σ (upd (upd H s.heap.objs.size (.own (s.heap.objs.size+1))) (s.heap.objs.size+1) (.ins C s.heap.objs.size []))
 {s with heap:=(s.heap.push PySem.W.emptyDict).push (PySem.W.instObj C s.heap.objs.size)}:=by
 have g:(s.heap.push PySem.W.emptyDict).get? s.heap.objs.size=some PySem.W.emptyDict:=Qu s.heap rfl
 have r:((s.heap.push PySem.W.emptyDict).push (PySem.W.instObj C s.heap.objs.size)).get? (s.heap.objs.size+1)=some (PySem.W.instObj C s.heap.objs.size):=by
  have:=Qu (s.heap.push PySem.W.emptyDict) (o:=PySem.W.instObj C s.heap.objs.size) rfl;rwa [QS] at this
 have p:(s.heap.push PySem.W.emptyDict).Ns s.heap.objs.size (λ_=>none):=⟨PySem.W.emptyDict,#[],_,g,rfl,(λe he=>absurd he (by simp)),λ_=>rfl⟩;have t:=I.laid (a:=s.heap.objs.size) (o:= .own (s.heap.objs.size+1)) (h':=s.heap.push PySem.W.emptyDict) (t':=s.toks) (λb u q=>Qi _ q) (Qs _) ⟨_,g⟩;refine t.laid (a:=s.heap.objs.size+1) (o:= .ins C s.heap.objs.size []) (t':=s.toks) (λb u q=>Qi _ q) (Nat.le_of_eq (QS _ _)) ?_;have ne:s.heap.objs.size≠s.heap.objs.size+1:=QO (Te _);refine ⟨by rw [zP ne,ya],jab _,ne,r,λ_=>none,(Heap.Ns1.of_empty p).at λo q=>Qi _ q,λ_=>True.intro,λy m=>absurd rfl m⟩
def LS {prog:Program} {w:World} {env:Env} {e:Expr} {f:Str} {pos:Pos} {s:Shared} {Q:Value->Shared->Prop} (g:attributeBase e f env (eval e env)=eval e env)
 (h:wpAny (model prog w) A (eval e env) (λo s₁=>wpAny (model prog w) A (getAttr o f true) Q E s₁) E s):wpAny (model prog w) A (eval (.Attribute e f pos) env) Q E s:=
 Attribute_any_ h (by rw [arm_eval_Attribute,g])
end
def tFld (K:Frg) (g:TE) (f:Str):TE:=λσ H Q=>g σ H λx H1=>∃a C m fs v,x= .ref a/\H1 a=some (.ins C m fs)/\Cls K C/\WU K C f/\fs.lookup f=some v/\Q v H1
def sFld (K:Frg) (q p:TE) (f:Str):TS:=λD σ H=>p σ H λy H1=>q σ H1 λx m=>∃a C g fs,x= .ref a/\m a=some (.ins C g fs)/\Cls K C/\WU K C f/\fs.length<1000/\
 D.nx σ (upd m a (.ins C g (oi f y fs)))
def InOp (X:Cx) (op:Operator) (rd:V->V->Hp->VK->Prop):Prop:=
 ∀(pins:Pn) (s:Shared) (σ:St) (H:Hp) (x y:V) (u v:Value) (Q:VK),Inv X pins σ H s->Zw x u->Zw y v->rd x y H Q->wpAny (model X.prog X.w) X.A (inplaceOp op u v) (EP X pins σ Q) X.xe s
def BP (K:Frg) (r q:TE) (rd:V->V->Hp->VK->Prop) (f:Str):TS:=λD σ H=>r σ H λx H1=>∃a C s fs v,x= .ref a/\H1 a=some (.ins C s fs)/\Cls K C/\WU K C f/\fs.lookup f=some v/\
 q σ H1 λy t=>rd v y t λz p=>∃m g,p a=some (.ins C m g)/\g.length<1000/\D.nx σ (upd p a (.ins C m (oi f z g)))
section
def pe_fld (he:PE X e ta) (p:attributeBase e f X.env (eval e X.env)=eval e X.env):PE X (.Attribute e f pos) (tFld X.K ta f):=by
 intro pins s σ H Q I h;refine LS p (thn (he pins s σ H _ I h) λu s1 m=>?_);obtain ⟨x,H1,w,g,a,C,z,fs,v,ex,r,c,n,l,q⟩:=m;subst ex;obtain rfl:u=Value.ref a:=g;exact jF w r c n l λy s2 t ru=>⟨v,H1,t,ru,q⟩
def ps_fld (ha:PE X o ta) (t:PE X value tv) (w:swapsWith value (some (.Attribute o f pos')) pos.line X.env=pure false):PS X (.Assign [.Attribute o f pos'] value pos) (sFld X.K ta tv f):=by
 intro pins s σ H D I h;refine plainObj_wpAny_Assign_Attribute (thn (t pins s σ H _ I h) λu s1 ⟨y,H1,L,g,q⟩=>thn (ha pins s1 σ H1 _ L q) λr s2 z=>?_) w;obtain ⟨x,N,J,m,a,C,M,fs,ex,A,c,n,l,p⟩:=z;subst ex;obtain rfl:r=Value.ref a:=m;exact jf J A c n l g λs3 G=>⟨σ,_,G,p⟩
def ps_fldaug {op:Operator} {rd:V->V->Hp->VK->Prop} (ha:PE X o ta) (N:PE X value tv) (g:InOp X op rd):PS X (.AugAssign (.Attribute o f tpos) op value pos) (BP X.K ta tv rd f):=by
 intro pins s σ H D I h;refine wpAny_AugAssign_AttributeAny (thn (ha pins s σ H _ I h) λL s1 m=>?_);obtain ⟨x,H1,I1,A,a,C,dx,fs,v,ex,P,c,n,l,q⟩:=m;subst ex;obtain rfl:L=Value.ref a:=A;refine jF I1 P c n l λu s2 I2 ru=>thn (N pins s2 σ H1 _ I2 q) λr s3 ⟨y,H2,Z,w,J⟩=>thn (g pins s3 σ H2 v y u r _ Z ru w J) λw4 s4 m=>?_;obtain ⟨z,H3,Y,t,T,O,p,M,G⟩:=m;exact jf Y p c n M t λs5 U=>⟨σ,_,U,G⟩
def rAdd:V->V->Hp->VK->Prop:=λx y H Q=>∃i j,x= .int i/\y= .int j/\Q (.int (i+j)) H
def in_add:InOp X .Add rAdd:=by
 rintro pins s σ H x y u v Q I rx ry ⟨i,j,rfl,rfl,q⟩
 obtain ⟨t,rfl⟩:=(show ∃t,u=Value.int i t from rx);obtain ⟨t',rfl⟩:=(show ∃t',v=Value.int j t' from ry);exact PyProof.Rows.iadd_int ⟨.int (i+j),H,I.tok _,⟨_,rfl⟩,q⟩
end
section
inductive TyOf (K:Frg) (H:Hp):V->Value->Prop where
 |non:TyOf K H .non (.type "NoneType")
 |bl (x:Bool):TyOf K H (.bl x) (.type "bool")
 |int (i:Int):TyOf K H (.int i) (.type "int")
 |str (x:Str):TyOf K H (.str x) (.type "str")
 |lst {a:Addr} {xs:List V} (e:H a=some (.lst xs)):TyOf K H (.ref a) (.type "list")
 |frz {a:Addr} {o:Obj} {xs:List V} (e:H a=some (.frz o (.lst xs))):TyOf K H (.ref a) (.type "list")
 |tup {a:Addr} {xs:List V} (e:H a=some (.tup xs)):TyOf K H (.ref a) (.type "tuple")
 |ins {a C dx:Addr} {fs:List (Str×V)} (e:H a=some (.ins C dx fs)) (cl:Cls K C) (ha:PySem.W.findIn K (.ref C) "__class__"=some (some (.builtin "object.__class__")))
  (hn:PySem.W.specialIn K (.builtin "object.__class__") "__get__"=some (some (.builtin "getset_descriptor.__get__"))) (htk:PySem.W.takesIn K (.builtin "object.__class__")=some true)
  (hm:PySem.W.mroIn K C (.type "object")=some true):TyOf K H (.ref a) (.ref C)
def DF {x:V} {u t:Value} (I:Inv X pins σ H s) (g:Zw x u) (ty:TyOf X.K H x t) (e:PySem.W.kitOne X.K t c=some b) (h:∀tk,Q (.bool b) {s with toks:=tk}):
 wpAny (model X.prog X.w) A (call (.builtin "isinstance") [u,c]) Q E s:=by
 cases ty with
 |non=>cases (show u=Value.none from g);exact jaW PySem.W.kitx_none I.kIn True.intro e (λz=>nomatch z) h
 |bl y=>cases (show u=Value.bool y from g);exact jaW PySem.W.kitx_bool I.kIn True.intro e (λz=>nomatch z) h
 |int i=>obtain ⟨t,q⟩:=(show ∃t,u=Value.int i t from g);cases q;exact jaW PySem.W.kitx_int I.kIn True.intro e (λz=>nomatch z) h
 |str y=>obtain ⟨t,q⟩:=(show ∃t,u=Value.str y t from g);cases q;exact jaW PySem.W.kitx_str I.kIn True.intro e (λz=>nomatch z) h
 |@lst a xs ea=>
  cases (show u=Value.ref a from g);obtain ⟨_,_,n,_,m⟩:=(show Yg X.prog X.w H s.heap a (.lst xs) from I.hok a _ ea);exact jaW PySem.W.kitx_list I.kIn ⟨_,m,rfl⟩ e (λz=>nomatch z) h
 |@frz a ob xs ea=>
  cases (show u=Value.ref a from g);obtain ⟨_,_,_,n,_,m⟩:=(show Yg X.prog X.w H s.heap a (.frz ob (.lst xs)) from I.hok a _ ea);exact jaW PySem.W.kitx_list I.kIn ⟨_,m,rfl⟩ e (λz=>nomatch z) h
 |@tup a xs ea=>
  cases (show u=Value.ref a from g);obtain ⟨_,_,_,p⟩:=(show Yg X.prog X.w H s.heap a (.tup xs) from I.hok a _ ea);obtain ⟨o,m,r,_⟩:=p;exact jaW PySem.W.kitx_tuple I.kIn ⟨o,m,r⟩ e (λz=>nomatch z) h
 |@ins a C dx fs ea cl ha hn htk hm=>
  cases (show u=Value.ref a from g);obtain ⟨G,O,_⟩:=lV I.hok ea;obtain ⟨D,J,_⟩:=O.look;exact jaW (PySem.W.kitx_own (cl.get _) cl.hd ha hn htk hm) I.kIn J e (λz=>nomatch z) h
end
structure Room (k:Nat) (A:Around):Prop where
 hd:A.handled=none
 dp:A.depth+3*k+5<recursionLimit
 un:A.units+16*k+200<cLine
def Room.mono {j k:Nat} {A:Around} (r:Room k A) (h:j<=k):Room j A:=⟨r.hd,by have:=r.dp;lia,by have:=r.un;lia⟩
def Room.deeper {k:Nat} {A:Around} (r:Room (k+1) A) (env:Env):Room k (A.deeper env):=
 ⟨r.hd,by have:=r.dp;show A.depth+1+3*k+5<_;lia,by have:=r.un;show A.units+3+16*k+200<_;lia⟩
def wB {A:Around} {C:Addr} {us:List Value} {kw:List (Str×Value)}:(A.under (.builtin "type.__call__" ⟨.ref C::us,kw⟩)).depth=A.depth+1:=by
 first|rfl|simp [Around.under,Code.weight,Code.isCreation,Code.isGuard,Code.isCaller,Code.frames,Code.isFrame,guardIds]
def wA {A:Around} {C:Addr} {us:List Value} {kw:List (Str×Value)}:(A.under (.builtin "type.__call__" ⟨.ref C::us,kw⟩)).units=A.units+1:=by
 first|rfl|simp [Around.under,Code.cUnits,Code.frames,Code.isFrame]
def Room.make {k:Nat} {A:Around} (r:Room (k+1) A) (C:Addr) (us:List Value) (kw:List (Str×Value)):Room k (A.under (.builtin "type.__call__" ⟨.ref C::us,kw⟩)):=
 ⟨r.hd,by have:=r.dp;rw [wB];lia,by have:=r.un;rw [wA];lia⟩
def Room.depth {k:Nat} {A:Around} (r:Room k A):A.depth<recursionLimit:=by have:=r.dp;lia
def Room.units {k:Nat} {A:Around} (r:Room k A):A.units+64<cLine:=by have:=r.un;lia
def tNil:TA:=λ_ H Q=>Q [] H
def tCons (m:TE) (g:TA):TA:=λσ H Q=>m σ H λx H1=>g σ H1 λxs p=>Q (x::xs) p
section
def fc:PA X [] tNil:=λ_ _ _ _ H Q I h=>Calls.spliced_nil ⟨[],H,I, .nil,h⟩
def WG (ha:PE X e te) (hr:PA X es t) (r:starEach (e::es) X.env=(false,eval e X.env)::starEach es X.env:=by rfl):PA X (e::es) (tCons te t):=by
 intro pos pins s σ H Q I h;rw [r];show wpAny _ _ (spliced ((false,eval e X.env)::backTo pos (starEach es X.env))) _ _ s;refine Calls.spliced_cons (thn (ha pins s σ H _ I h) λu s1 w=>?_);obtain ⟨x,H1,z,m,q⟩:=w;refine thn (hr pos pins s1 σ H1 _ z q) ?_;rintro us s2 ⟨xs,A,y,g,p⟩;exact ⟨x::xs,A,y, .cons m g,p⟩
def tTup (t:TA):TE:=λσ H Q=>t σ H λxs H1=>xs.length<=sizeLine/\∀p,H1 p=none->Q (.ref p) (upd H1 p (.tup xs))
def tLst (t:TA):TE:=λσ H Q=>t σ H λxs H1=>xs.length<=sizeLine/\∀p,H1 p=none->Q (.ref p) (upd H1 p (.lst xs))
def pe_tup {x1} (h:PA X es t):PE X (.Tuple es x1 pos) (tTup t):=by
 intro pins s σ H Q I hq;refine wpAny_Tuple_spliced (thn (h pos pins s σ H _ I hq) λus s1 ⟨xs,H1,g,r,z,q⟩=>⟨by rw [<-r.length];exact z,?_⟩);have hf:H1 s1.heap.objs.size=none:=g.hok.fresh (Qs _);refine ⟨.ref s1.heap.objs.size,upd H1 s1.heap.objs.size (.tup xs),g.laid (t':=s1.toks) (λb u e=>Qi _ e) (Qs _) ?_,rfl,q _ hf⟩;exact ⟨z,us,r,⟨_,Qu _ rfl,rfl,_,rfl⟩⟩
def pe_lst (h:PA X es t):PE X (.List es pos) (tLst t):=by
 intro pins s σ H Q I hq;refine wpAny_List_spliced (thn (h pos pins s σ H _ I hq) λus s1 ⟨xs,H1,g,r,z,q⟩=>⟨by rw [<-r.length];exact z,?_⟩);have hf:H1 s1.heap.objs.size=none:=g.hok.fresh (Qs _);refine ⟨.ref s1.heap.objs.size,upd H1 s1.heap.objs.size (.lst xs),g.laid (t':=s1.toks) (λb u e=>Qi _ e) (Qs _) ?_,rfl,q _ hf⟩;exact ⟨z,us,0,r,Qu _ rfl⟩
end
abbrev Sp:=List V->Hp->VK->XK->Prop
abbrev CXT:=List Env->Hp->Shared->XK->Value->Shared->Prop
structure Env0 (P:Program) (w:World) (K:Frg) (mg:Str->Option Value) (base:Heap) (A:Around) (outer:List Env) (s:Shared) (H:Hp):Prop where
 frames:A.frames=some outer
 mod:Mod K mg base
 bs:∀b o,base.get? b=some o->s.heap.get? b=some o/\H b=none
 bsz:base.objs.size<=s.heap.objs.size
 funs:s.heap.FunFrames base outer
 frf:∀b∈frs outer,H b=none
 hok:HOk P w H s.heap
 bare:AllBare s.gens
def CE (outer:List Env) (P:Program) (w:World) (H:Hp) (s:Shared) (Q:VK) (u:Value) (g:Shared):Prop:=
 ∃v H',g.os=s.os/\AllBare g.gens/\Un (frs outer) [] H H' s.heap g.heap/\HOk P w H' g.heap/\Zw v u/\Q v H'
def CR (CX:CXT) (outer:List Env) (P:Program) (w:World) (H:Hp) (s:Shared) (Q:VK) (E:XK) (r:Result) (g:Shared):Prop:=
 match r with
 | .ok (.ret u)=>CE outer P w H s Q u g
 | .ok _=>False
 | .error e=>CX outer H s E e g
structure FnOk (P:Program) (w:World) (K:Frg) (mg:Str->Option Value) (base:Heap) (CX:CXT) (k:Nat) (f:Addr) (fd:FuncData) (ps:List Str) (sp:Sp):Prop where
 len:∀vs H Q E,sp vs H Q E->vs.length=ps.length
 run:∀(A:Around) (outer:List Env) (s:Shared) (H:Hp) (args:Args) (us:List Value) (vs:List V) (Q:VK) (E:XK),Room k A->Env0 P w K mg base A outer s H->BindsTo s fd args (ps.zip us)->xi vs us->sp vs H Q E->
  codeAny (model P w) A (.call (.ref f) args) (CR CX outer P w H s Q E) s
def FnOk.mono {P:Program} {w:World} {K:Frg} {mg:Str->Option Value} {base:Heap} {CX:CXT} {j k:Nat} {f:Addr} {fd:FuncData} {ps:List Str} {sp:Sp} (F:FnOk P w K mg base CX j f fd ps sp) (h:j<=k):
 FnOk P w K mg base CX k f fd ps sp:=⟨F.len,λA outer s H args us vs Q E hr=>F.run A outer s H args us vs Q E (hr.mono h)⟩
def Env0.make {P:Program} {w:World} {K:Frg} {mg:Str->Option Value} {base:Heap} {A:Around} {outer:List Env} {s:Shared} {H:Hp} (e:Env0 P w K mg base A outer s H) (C:Addr) (us:List Value) (kw:List (Str×Value)):
 Env0 P w K mg base (A.under (.builtin "type.__call__" ⟨.ref C::us,kw⟩)) outer s H:=⟨by first|exact e.frames|(simpa [Around.under,Code.envs,Code.isFrame,pushEnvs] using e.frames),e.mod,e.bs,e.bsz,e.funs,e.frf,e.hok,e.bare⟩
section
def Inv.env0 (I:Inv X pins σ H s):Env0 X.prog X.w X.K X.mg X.base X.A X.stack s H:=
 ⟨I.ok.frames,I.ok.mod,I.bs,QP I.ok.bsz I.sz,I.stack,I.stkFree,I.hok,I.bare⟩
def Inv.after {Q:VK} {u:Value} (I:Inv X pins σ H s) (h:CE X.stack X.prog X.w H s Q u s'):EP X pins σ Q u s':=by
 obtain ⟨v,H',os,bare,un,hok,r,q⟩:=h;obtain ⟨m,g,d,t,p⟩:=s';obtain rfl:p=s.os:=os;exact ⟨v,H',I.call (h':=m) (g':=g) (d':=d) (t':=t) (ch:=[]) un hok bare (λb z=>absurd z (by simp)),r,q⟩
end
def vD (sp:Sp) (g:List V) (E:XK) (t:TA):TE:=λσ H Q=>t σ H λvs H1=>sp (vs++g) H1 Q E
def tMeth (C:Addr) (m:Str) (sp:Sp) (g:List V) (E:XK) (p:TE) (t:TA):TE:=λσ H Q=>p σ H λx H1=>∃a q fs,x= .ref a/\H1 a=some (.ins C q fs)/\fs.lookup m=none/\
 t σ H1 λvs r=>sp (x::(vs++g)) r Q E
def JE (C:Addr) (sp:Sp) (m:List V) (E:XK) (t:TA):TE:=λσ H Q=>t σ H λvs H1=>∀x g,H1 x=none->H1 g=none->g≠x->
 sp (.ref x::(vs++m)) (upd (upd H1 g (.own x)) x (.ins C g [])) (λv p=>v= .non/\Q (.ref x) p) E
def yp (K:Frg) (fd:FuncData) (ps:List Str) (ds:List Value):Prop:=
 ∀(s:Shared) (us:List Value),K.In s.heap->(us++ds).length=ps.length->BindsTo s fd ⟨us,[]⟩ (ps.zip (us++ds))
def yp.all {K:Frg} {fd:FuncData} {ps:List Str} (h:∀us:List Value,us.length=ps.length->bindArgs fd ⟨us,[]⟩=pure (ps.zip us)):yp K fd ps []:=λs us _ g=>by
 rw [jaX] at g⊢;exact .of_eq (h us g)
def WT (CX:CXT) (X:Cx) (E:XK):Prop:=∀(pins:Pn) (σ:St) (H:Hp) (s:Shared) (e:Value) (g:Shared),Inv X pins σ H s->CX X.stack H s E e g->X.xe e g
section
def nO {pins:Pn} {σ:St} {H:Hp} {s:Shared} {Q:VK} {us:List Value} {vs:List V} (F:FnOk X.prog X.w X.K X.mg X.base CX k f fd ps sp) (hr:Room k X.A) (y:yp X.K fd ps ds) (hd:xi dvs ds) (q:WT CX X E)
 (I:Inv X pins σ H s) (r:xi vs us) (h:sp (vs++dvs) H Q E):wpAny (model X.prog X.w) X.A (call (.ref f) us) (EP X pins σ Q) X.xe s:=by
 have m:xi (vs++dvs) (us++ds):=r.append hd;have t:(us++ds).length=ps.length:=by rw [<-m.length];exact F.len _ _ _ _ h
 refine wpAny_call (jbS (F.run X.A X.stack s H ⟨us,[]⟩ (us++ds) (vs++dvs) Q E hr I.env0 (y s us I.kIn t) m h) λr p g=>?_)
 cases r with
 |error e=>exact q pins σ H s e p I g
 |ok fl=>
  cases fl with
  |ret u=>exact I.after g
  |next=>exact False.elim g
  |brk=>exact False.elim g
  |cont=>exact False.elim g
def KG (F:FnOk X.prog X.w X.K X.mg X.base CX k f fd ps sp) (hr:Room k X.A) (y:Gl X x) (hm:X.mg x=some (.ref f)) (u:PySem.W.keepIn X.K (.ref f)=true) (z:yp X.K fd ps ds) (hd:xi dvs ds) (m:WT CX X E)
 (ha:PA X (e::es) t) (C:(x==("__debug__":Str))=false:=by decide) (he:starEach (e::es) X.env=(false,eval e X.env)::starEach es X.env:=by rfl) (D:(backTo pos (starEach es X.env)).any (·.1)=false:=by rfl):
 PE X (.Call (.Name x p) (e::es) [] pos) (vD sp dvs E t):=by
 intro pins s σ H Q I h;refine jan (fA I y hm ?_ C);refine jbr (h₀:=X.base) I.ok.mod.kin u (thn (ha pos pins s σ H _ I h) ?_) he D;rintro us s1 ⟨vs,H1,g,r,q⟩;refine ⟨g.kIn,?_⟩;exact nO F hr z hd m g r q
def pe_meth {pl:Sem Bool} (he:PE X o ta) (c:Cls X.K C) (hm:Meth X.K C m f) (F:FnOk X.prog X.w X.K X.mg X.base CX k f fd ps sp) (hr:Room k X.A) (G:yp X.K fd ps ds) (hd:xi dvs ds) (D:WT CX X E) (ha:PA X (e::es) t)
 (M:starEach (e::es) X.env=(false,eval e X.env)::starEach es X.env:=by rfl) (L:(backTo pos (starEach es X.env)).any (·.1)=false:=by rfl)
 (ht:eval (.Call (.Attribute o m apos) (e::es) [] pos) X.env=(do
  let ov<-eval o X.env
  standAt apos.atName
  let (f,first)<-holding [ov] (getMethod ov m pl)
  callWith pos f first (backTo pos (starEach (e::es) X.env)) (backToKw pos (keywordEach [] X.env))):=by rfl):
 PE X (.Call (.Attribute o m apos) (e::es) [] pos) (tMeth C m sp dvs E ta t):=by
 intro pins s σ H Q I h;refine PySem.W.methodCall_KW (pl:=pl) (thn (he pins s σ H _ I h) ?_) ht;rintro u s1 ⟨x,H1,p,y,a,N,fs,ex,J,l,q⟩;subst ex;obtain rfl:u=Value.ref a:=y;refine aT p J c hm l ?_;refine jbr (first:=[.ref a]) (h₀:=X.base) I.ok.mod.kin hm.kp (thn (ha pos pins s1 σ H1 _ p q) ?_) M L;rintro us s2 ⟨vs,O,g,r,z⟩;refine ⟨g.kIn,?_⟩;exact nO (us:= .ref a::us) (vs:= .ref a::vs) F hr G hd D g (.cons rfl r) z
structure Mk (K:Frg) (C f:Addr):Prop where
 makes:PySem.W.makesIn K C=true
 init:PySem.W.findIn K (.ref C) "__init__"=some (some (.ref f))
 fn:PySem.W.isFn K (.ref f)=true
 kp:PySem.W.keepIn K (.ref C)=true
def tQ {pins:Pn} {σ:St} {H:Hp} {s:Shared} {Q:VK} {us:List Value} {vs:List V} (M:Mk X.K C f) (F:FnOk X.prog X.w X.K X.mg X.base CX k f fd ps sp) (hr:Room (k+1) X.A) (L:yp X.K fd ps ds) (hd:xi dvs ds)
 (G:WT CX X E) (I:Inv X pins σ H s) (r:xi vs us)
 (h:∀x m,H x=none->H m=none->m≠x->sp (.ref x::(vs++dvs)) (upd (upd H m (.own x)) x (.ins C m [])) (λv O=>v= .non/\Q (.ref x) O) E):
 wpAny (model X.prog X.w) X.A (call (.ref C) us) (EP X pins σ Q) X.xe s:=by
 have t:=h (s.heap.objs.size+1) s.heap.objs.size (I.hok.fresh (jal _)) (I.hok.fresh (Qs _)) (QO (Te _));have p:=Inv.made (C:=C) I;have q:xi (V.ref (s.heap.objs.size+1)::(vs++dvs)) (Value.ref (s.heap.objs.size+1)::(us++ds)):= .cons rfl (r.append hd)
 have J:(Value.ref (s.heap.objs.size+1)::us++ds).length=ps.length:=by
  have e:=q.length;rw [F.len _ _ _ _ t] at e;exact e.symm
 refine wpAny_call (GP (f:=f) I.kIn M.makes M.init (beq_iff_eq.mp M.fn) (jbS (F.run _ X.stack _ _ ⟨Value.ref (s.heap.objs.size+1)::us,[]⟩ (Value.ref (s.heap.objs.size+1)::(us++ds)) _ _ E (hr.make C us [])
  (p.env0.make C us []) (L _ (Value.ref (s.heap.objs.size+1)::us) p.kIn J) q t) λr y g=>?_))
 cases r with
 |error e=>exact G pins σ _ _ e y p g
 |ok fl=>
  cases fl with
  |ret u=>
   obtain ⟨v,H',N,z,ev,D⟩:=p.after g;subst ev;exact ⟨z,⟨V.ref (s.heap.objs.size+1),H',N,rfl,D⟩⟩
  |next=>exact False.elim g
  |brk=>exact False.elim g
  |cont=>exact False.elim g
def pe_make (M:Mk X.K C f) (F:FnOk X.prog X.w X.K X.mg X.base CX k f fd ps sp) (hr:Room (k+1) X.A) (u:Gl X x) (hm:X.mg x=some (.ref C)) (y:yp X.K fd ps ds) (hd:xi dvs ds) (m:WT CX X E)
 (ha:PA X (e::es) t) (z:(x==("__debug__":Str))=false:=by decide) (he:starEach (e::es) X.env=(false,eval e X.env)::starEach es X.env:=by rfl) (D:(backTo pos (starEach es X.env)).any (·.1)=false:=by rfl):
 PE X (.Call (.Name x p) (e::es) [] pos) (JE C sp dvs E t):=by
 intro pins s σ H Q I h;refine jan (fA I u hm ?_ z);refine jbr (h₀:=X.base) I.ok.mod.kin M.kp (thn (ha pos pins s σ H _ I h) ?_) he D;rintro us s1 ⟨vs,H1,g,r,q⟩;refine ⟨g.kIn,?_⟩;exact tQ M F hr y hd m g r q
def pe_make0 (M:Mk X.K C f) (F:FnOk X.prog X.w X.K X.mg X.base CX k f fd ps sp) (hr:Room (k+1) X.A) (m:Gl X x) (hm:X.mg x=some (.ref C)) (q:yp X.K fd ps ds) (hd:xi dvs ds) (g:WT CX X E)
 (r:(x==("__debug__":Str))=false:=by decide):PE X (.Call (.Name x p) [] [] pos) (JE C sp dvs E tNil):=by
 intro pins s σ H Q I h;refine jan (fA I m hm ?_ r);exact PySem.W.callWith_K0 I.kIn M.kp (tQ (us:=[]) M F hr q hd g I .nil h)
end
section
end
structure FnScope (N P:List Str) (sc:Scope):Prop where
 kind:sc.kind= .function
 co:sc.isCoroutine=false
 gen:sc.isGenerator=false
 nd:N.Nodup
 pre:N.take P.length=P
 par:∀x∈P,sc.names.lookup x=some .local\/sc.names.lookup x=some .cell
 nofree:∀y∈sc.names,y.2≠ .free
theorem pE {kindOf:Str->Option NameKind} {x:Str}:∀{binds:List (Str×Value)} {m:Str->Option Value},(∀v,(x,v)∉binds)->bindL kindOf binds m x=m x
 |[],_,_=>rfl
 |(n,v)::r,m,h=>by
  unfold bindL;rw [pE λw hw=>h w (Qe _ hw)]
  split
  ·have:x≠n:=by rintro rfl;exact h v Qg
   simp [this]
  ·rfl
theorem pG {kindOf:Str->Option NameKind} {x:Str}:∀{binds:List (Str×Value)} {m:Str->Option Value},(∀v,(x,v)∉binds)->bindC kindOf binds m x=m x
 |[],_,_=>rfl
 |(n,v)::r,m,h=>by
  unfold bindC;rw [pG λw hw=>h w (Qe _ hw)]
  split
  ·rfl
  ·have:x≠n:=by rintro rfl;exact h v Qg
   simp [this]
theorem pF {kindOf:Str->Option NameKind} {x:Str} {v:Value}:∀{P:List Str} {vs:List Value} {i:Nat} {m:Str->Option Value},P.Nodup->P[i]? =some x->vs[i]? =some v->kindOf x=some .local->
 bindL kindOf (P.zip vs) m x=some v
 |[],_,_,_,_,h,_,_=>by simp at h
 |_::_,[],_,_,_,_,h,_=>by simp at h
 |p::P,w::vs,0,m,nd,h1,h2,hk=>by
  simp at h1 h2;subst h1;subst h2;show bindL kindOf ((p,w)::P.zip vs) m p=_;unfold bindL;rw [pE λv g=>(TV.mp nd).1 (jbw g).1,QD hk]
  simp
 |p::P,w::vs,i+1,m,nd,h1,h2,hk=>by
  show bindL kindOf ((p,w)::P.zip vs) m x=_;unfold bindL;exact pF (i:=i) (TV.mp nd).2 ‹h1› ‹h2› hk
theorem pH {kindOf:Str->Option NameKind} {x:Str} {v:Value}:∀{P:List Str} {vs:List Value} {i:Nat} {m:Str->Option Value},P.Nodup->P[i]? =some x->vs[i]? =some v->kindOf x≠some .local->
 bindC kindOf (P.zip vs) m x=some v
 |[],_,_,_,_,h,_,_=>by simp at h
 |_::_,[],_,_,_,_,h,_=>by simp at h
 |p::P,w::vs,0,m,nd,h1,h2,hk=>by
  simp at h1 h2;subst h1;subst h2;show bindC kindOf ((p,w)::P.zip vs) m p=_;unfold bindC;rw [pG λv g=>(TV.mp nd).1 (jbw g).1,QI hk]
  simp
 |p::P,w::vs,i+1,m,nd,h1,h2,hk=>by
  show bindC kindOf ((p,w)::P.zip vs) m x=_;unfold bindC;exact pH (i:=i) (TV.mp nd).2 ‹h1› ‹h2› hk
def kh (N:List Str) (vs:List V):St:=vs.map some++List.replicate (N.length - vs.length) none
def Jd (CX:CXT) (P:Program) (w:World) (K:Frg) (mg:Str->Option Value) (base:Heap) (N:List Str) (qual:Str) (scope:Scope) (f:Addr) (cd:Value) (A:Around) (outer:List Env) (s:Shared) (H:Hp) (E:XK):Cx where
 prog:=P
 w:=w
 K:=K
 mg:=mg
 base:=base
 A:=A.deeper (envOfC qual scope s.heap.objs.size f cd)
 N:=N
 s₀:=s
 H₀:=H
 env:=envOfC qual scope s.heap.objs.size f cd
 outer:=outer
 stack:=envOfC qual scope s.heap.objs.size f cd::outer
 ex:=[]
 calm:=true
 fn:=λ_=>true
 pn:=[]
 xe:=λe m=>wpAny (model P w) (A.deeper (envOfC qual scope s.heap.objs.size f cd)) (leaving (envOfC qual scope s.heap.objs.size f cd) e) (λ_ g=>CX outer H s E e g) (λp g=>CX outer H s E p g) m
def uQ {sc:Scope} {n:Nat} {x:Str} (h:sc.names.lookup x=some .cell):∃c,(cellsFrom n sc.names []).lookup x=some c:=by
 have q:=PySem.W.cellsFrom_some sc.names n [] (.inl h);exact jaf.mp q
def DG {CX:CXT} {P:Program} {w:World} {K:Frg} {mg:Str->Option Value} {base:Heap} {N ps:List Str} {qual:Str} {scope:Scope} {f:Addr} {cd:Value} {A:Around} {outer:List Env} {s s1:Shared} {H:Hp} {E:XK} {us:List Value} {vs:List V}
 (S:FnScope N ps scope) (hd:A.handled=none) (e0:Env0 P w K mg base A outer s H) (M:vs.length=ps.length) (r:xi vs us)
 (x:InCallC s s.heap.objs.size (bindL (envOfC qual scope s.heap.objs.size f cd).kindOf (ps.zip us) λ_=>none) (cellsFrom (s.heap.objs.size+1) scope.names []) (bindC (envOfC qual scope s.heap.objs.size f cd).kindOf (ps.zip us) λ_=>none) s1):
 Inv (Jd CX P w K mg base N qual scope f cd A outer s H E) [] (kh N vs) H s1:=by
 have T:ps.length<=N.length:=by have:=congrArg List.length S.pre;rw [jbd] at this;lia
 obtain ⟨G,tk,rfl,J⟩:=x.done;have m:∀b:Addr,b∉(Jd CX P w K mg base N qual scope f cd A outer s H E).ex:=λb z=>absurd (show b∈([]:List Addr) from z) (by simp)
 refine ⟨⟨e0.mod,S.kind,rfl,rfl,Qs _,λy z c G g=>?_,λy t=>?_,λy c _ h=>?_,λ_=>hd,Around.frames_deeper e0.frames, .inr ⟨rfl,rfl⟩,λb z=>absurd z (m b),e0.bs,e0.bsz,λb _ _=>m b,λb z=>absurd z (m b),e0.funs,e0.frf⟩,
  rfl,e0.bare,Un.kept J,⟨_,x.toInCall.ns,λi y v G g O=>?_⟩,λy c h=>⟨_,x.cell y c h⟩,e0.hok.fresh (Qs _),λy c h=>?_,λp hp=>absurd (show p∈([]:List (Addr×Obj)) from hp) (by simp),e0.hok.kept J,?_⟩
 ·exact name_of_addr x.apart (jaB G) (jaB g)
 ·have t:scope.names.lookup y=some .cell\/scope.names.lookup y=some .free:=t
  rcases t with t|t
  ·exact uQ t
  ·exact absurd rfl (S.nofree _ (jaB t))
 ·exact jbu (x.above y c (jaB h))
 ·have D:i<vs.length:=by
   unfold kh at g
   by_cases D:i<vs.length
   ·exact D
   ·rw [TC ‹D›] at g;rw [Tt] at g
    split at g<;>cases g
  have ha:vs[i]? =some v:=by
   unfold kh at g;rw [jaa ‹D›,Qh] at g
   cases e:vs[i]? with
   |none=>rw [e] at g;cases g
   |some a=>rw [e] at g;cases g;rfl
  obtain ⟨u,I,L⟩:=r.get ha
  have hp:ps[i]? =some y:=by
   rw [<-S.pre,List.getElem?_take_of_lt ⋯];exact G
  have C:ps.Nodup:=by rw [<-S.pre];exact S.nd.sublist (List.take_sublist _ _)
  refine ⟨u,L,?_⟩
  rcases S.par y (Qd hp) with k|k
  ·exact .inl ⟨k,pF C hp I k⟩
  ·obtain ⟨c,e⟩:=uQ (n:=s.heap.objs.size+1) k;refine .inr ⟨.inl k,c,e,?_⟩;have q:=x.cell y c e;rw [pH C hp I (by show scope.names.lookup y≠_;rw [k];decide)] at q;exact q
 ·exact e0.hok.fresh (jbu (x.above y c (jaB h)))
 ·unfold kh;show _=N.length;rw [QM,Qb,QF];lia
def fn_of {CX:CXT} {P:Program} {w:World} {K:Frg} {mg:Str->Option Value} {base:Heap} {k:Nat} {f:Addr} {name qual:Str} {params:Arguments} {body:List Stmt} {scope:Scope} {D kV doc pm g ct O:Value} {an M:Option Addr}
 {C:Array (Option Value)} {N ps:List Str} {sp:Sp} (lk:K.lookup f=some ⟨O,M, .func (PySem.W.fnOf name qual params body scope D kV doc pm an g ct),C⟩) (NH:PySem.W.codeIn K g qual=true) (S:FnScope N ps scope)
 (len:∀vs H Q E,sp vs H Q E->vs.length=ps.length)
 (Om:∀(A:Around) (outer:List Env) (s:Shared) (H:Hp) (vs:List V) (Q:VK) (E:XK),Room k (A.deeper (envOfC qual scope s.heap.objs.size f g))->sp vs H Q E->
  ∃t,PSs (Jd CX P w K mg base N qual scope f g A outer s H E) body t/\t {nx:=λ_ H'=>Q .non H',rt:=Q} (kh N vs) H):
 FnOk P w K mg base CX (k+1) f (PySem.W.fnOf name qual params body scope D kV doc pm an g ct) ps sp:=by
 refine ⟨len,λA outer s H args us vs Q E hr e0 Y r G=>?_⟩;have X:=len _ _ _ _ G;have L:K.In s.heap:=e0.mod.kin.keeps λb o e=>(e0.bs b o e).1;have lim:s.heap.NoLimit:=e0.mod.nolimit.keeps λb o e=>(e0.bs b o e).1
 have Z:∀y∈ps.zip us,scope.names.lookup y.1=some .local\/(scope.names.lookup y.1=some .cell/\((cellsFrom (s.heap.objs.size+1) scope.names []).lookup y.1).isSome=true):=λ⟨n,v⟩ T=>by
  rcases S.par n (jbw T).1 with q|q
  ·exact .inl q
  ·exact .inr ⟨q,PySem.W.cellsFrom_some _ _ _ (.inl q)⟩
 refine codeAny_call_function hr.depth (L _ _ lk) rfl S.co S.gen rfl (PySem.W.codeRec_of L NH) (Y _ _ _ _ ?_);refine wpAny_newFunctionEnv_cells S.kind Z λenv he s1 x=>?_;subst he;refine ⟨lim.keeps x.toInCall.keep,codeAny_func ?_⟩;obtain ⟨t,ht,U⟩:=Om A outer s H vs Q E (hr.deeper _) G;have I:Inv (Jd CX P w K mg base N qual scope f g A outer s H E) [] (kh N vs) H s1:=DG S hr.hd e0 X r x;refine wpAny_mono (ht [] s1 (kh N vs) H _ I U) (λfl p m=>?_) λe p m=>m
 have fin:∀{σ':St} {H':Hp} {v:V} {u:Value},Inv (Jd CX P w K mg base N qual scope f g A outer s H E) [] σ' H' p->Zw v u->Q v H'->CE outer P w H s Q u p:=
  λ{σ' H' v u} J z q=>⟨v,H',J.os,J.bare,J.base,J.hok,z,q⟩
 cases fl with
 |ret u=>
  obtain ⟨v,σ',H',J,z,q⟩:=m;exact fin J z q
 |next=>
  obtain ⟨σ',H',J,q⟩:=m;exact fin (v:=V.non) (u:=Value.none) J rfl q
 |brk=>
  obtain ⟨_,_,_,q⟩:=m;exact False.elim q
 |cont=>
  obtain ⟨_,_,_,q⟩:=m;exact False.elim q
section
variable {X:Cx} {x:Str} {p pos:Pos} {e:Expr} {es:List Expr} {t:TA} {id T:String} {r:List V->Hp->VK->Prop}
def tCB (r:List V->Hp->VK->Prop) (t:TA):TE:=λσ H Q=>t σ H λvs H1=>r vs H1 Q
def dg (w:Wi X (.builtin id) r) (u:Gl X x) (hm:X.mg x=none) (q:bootBuiltins x=some (.builtin id)) (ha:PA X (e::es) t) (hn:x≠"__name__":=by decide) (y:(x==("__debug__":Str))=false:=by decide)
 (he:starEach (e::es) X.env=(false,eval e X.env)::starEach es X.env:=by rfl) (z:(backTo pos (starEach es X.env)).any (·.1)=false:=by rfl):PE X (.Call (.Name x p) (e::es) [] pos) (tCB r t):=by
 intro pins s σ H Q I h;refine jan (XU I u hm q ?_ hn y);refine PyProof.Rows.callWith_builtin1 (thn (ha pos pins s σ H _ I h) ?_) he z;rintro us s1 ⟨vs,H1,A,g,m⟩;exact w pins s1 σ H1 vs us Q A g m
def pe_callTy (w:Wi X (.type T) r) (u:Gl X x) (hm:X.mg x=none) (q:bootBuiltins x=some (.type T)) (ha:PA X (e::es) t) (hn:x≠"__name__":=by decide) (y:(x==("__debug__":Str))=false:=by decide)
 (he:starEach (e::es) X.env=(false,eval e X.env)::starEach es X.env:=by rfl) (z:(backTo pos (starEach es X.env)).any (·.1)=false:=by rfl):PE X (.Call (.Name x p) (e::es) [] pos) (tCB r t):=by
 intro pins s σ H Q I h;refine jan (XU I u hm q ?_ hn y);refine Tn (thn (ha pos pins s σ H _ I h) ?_) he z;rintro us s1 ⟨vs,H1,A,g,m⟩;exact w pins s1 σ H1 vs us Q A g m
end
end L2
namespace HT
open PySem PyProof.Rows
section
open PySem.SeqAt
open PySem.AutoSeq1 (wpAny_loadPart')
open PySem.MeetsSeq PySem.MeetsSeq2 PySem.MeetsSeq3
end
section
def sIx (n d:Nat):Option Int->Nat
 |none=>d
 |some v=>if v<0 then (v+(n:Int)).toNat else min v.toNat n
def sIx_none (n d:Nat):sIx n d none=d:=rfl
def sIx_nat (n d k:Nat):sIx n d (some (k:Int))=min k n:=by
 show (if (k:Int)<0 then ((k:Int)+(n:Int)).toNat else min (k:Int).toNat n)=min k n;rw [QI ⋯,Tp]
def sIx_le (n d:Nat) (hd:d<=n) (o:Option Int):sIx n d o<=n:=by
 cases o with
 |none=>exact hd
 |some v=>
  show (if v<0 then (v+(n:Int)).toNat else min v.toNat n)<=n
  by_cases g:v<0
  ·rw [QD g];lia
  ·rw [QI g];exact Nat.min_le_right _ _
def Eu (v:Int) (n d:Nat):(if v<0 then max (v+(n:Int)) 0 else min v (n:Int))=((sIx n d (some v):Nat):Int):=by
 show (if v<0 then max (v+(n:Int)) 0 else min v (n:Int))=(((if v<0 then (v+(n:Int)).toNat else min v.toNat n):Nat):Int)
 by_cases g:v<0
 ·simp only [QD g];lia
 ·simp only [QI g];lia
def AB (lo g:Option Int) (n:Nat):Builtin.Slice.sliceAdjust lo g 1 (n:Int)=(((sIx n 0 lo:Nat):Int),((sIx n n g:Nat):Int)):=by
 have m:¬((1:Int)<0):=⋯
 unfold Builtin.Slice.sliceAdjust;simp only [m,if_false];refine Prod.ext ?_ ?_
 ·cases lo with
  |none=>rfl
  |some v=>exact Eu v n 0
 ·cases g with
  |none=>rfl
  |some v=>exact Eu v n n
def vW (i j:Nat):Builtin.Slice.slicePlaces (i:Int) (j:Int) 1=j - i:=by
 unfold Builtin.Slice.slicePlaces;have g:(1:Int)>0:=⋯
 simp only [g,if_true,Int.ediv_one]
 split<;>lia
def jc {v:Value} {o:Option Int} {Q:Option Int->Shared->Prop} (p:IsPart v o) (h:Q o s):wpAny (model prog w) A (Builtin.Slice.slicePartIndex v) Q E s:=by
 cases p with
 |none=>exact slicePart_none h
 |int i t=>exact slicePart_int h
def cw {sl:Addr} {q p:Value} {lo g:Option Int} {n:Nat} {Q:Int×Int×Nat->Shared->Prop} (t:s.heap.IsSliceOf sl q p .none) (pl:IsPart q lo) (pu:IsPart p g)
 (h:Q (((sIx n 0 lo:Nat):Int),1,sIx n n g - sIx n 0 lo) s):wpAny (model prog w) A (Builtin.Slice.sliceApplied (.ref sl) (pure (n:Int))) Q E s:=by
 obtain ⟨os,r,u,m⟩:=id t;unfold Builtin.Slice.sliceApplied Builtin.Slice.sliceFields;refine Qc (Qc (TN r m (x:=q) rfl (Qc (TN r m (x:=p) rfl (Qc (TN r m (x:= .none) rfl (Ql ?_)))))));refine Qc (slicePart_none ?_);show wpAny _ _ (if ((1:Int)==0)=true then _ else _) _ _ s;rw [QI nofun];refine Qc (jc pl (Qc (jc pu (Qc (Ql ?_)))));show wpAny _ _ (match Builtin.Slice.sliceAdjust lo g 1 (n:Int) with|(lo,g)=>pure (lo,(1:Int),Builtin.Slice.slicePlaces lo g 1)) _ _ s;rw [AB lo g n];show wpAny _ _ (pure (((sIx n 0 lo:Nat):Int),(1:Int),Builtin.Slice.slicePlaces ((sIx n 0 lo:Nat):Int) ((sIx n n g:Nat):Int) 1)) _ _ s;rw [vW];exact Ql h
def Gh (xs:Array Value) (i k:Nat):((List.range k).filterMap λ(m:Nat)=>xs[((i:Int)+(m:Int)*1).toNat]?).toArray=((xs.toList.drop i).take k).toArray:=by
 have e:(λ(m:Nat)=>xs[((i:Int)+(m:Int)*1).toNat]?)=λm=>xs[i+m]? :=by
  funext m
  have:((i:Int)+(m:Int)*1).toNat=i+m:=⋯
  rw [this]
 rw [e];have:=pick_run xs i k;rw [List.filterMap_map] at this;have g:((λx=>xs[x]?)∘λx=>i+x)=λm=>xs[i+m]? :=rfl;rw [g] at this;rw [this]
def getItem_tuple_cut {t sl:Addr} {items:Array Value} {z y:Value} {lo g:Option Int} {Q:Value->Shared->Prop} (ht:IsTup s.heap t items) (C:s.heap.IsSliceOf sl z y .none) (pl:IsPart z lo) (pu:IsPart y g)
 (hw:¬(sIx items.size 0 lo=0/\sIx items.size items.size g=items.size))
 (h:Q (.ref s.heap.objs.size) {s with heap:=s.heap.push {cls:= .type "tuple",data:= .seq ((items.toList.drop (sIx items.size 0 lo)).take (sIx items.size items.size g - sIx items.size 0 lo)).toArray}})
 (hsz:items.size<=sizeLine):wpAny (model prog w) A (getItem (.ref t) (.ref sl)) Q E s:=by
 have p:sizeOk (.seq ((items.toList.drop (sIx items.size 0 lo)).take (sIx items.size items.size g - sIx items.size 0 lo)).toArray):=by
  show ((items.toList.drop (sIx items.size 0 lo)).take (sIx items.size items.size g - sIx items.size 0 lo)).toArray.size<=sizeLine;rw [QJ,jbd,jaJ,TY];lia
 have L:sIx items.size items.size g<=items.size:=sIx_le _ _ (Qs _) g;obtain ⟨os,I,r,D⟩:=id C;have u:s.TypeIs (.ref sl) "slice":=⟨os,I,r⟩;unfold getItem
 try with_reducible refine jar ?_
 first|refine Qc (Ql ?_)|skip
 refine Qc (wpAny_sequenceKey ht.typeIs nofun ?_)
 refine Qc (QY (name:=Str.ofString "__getitem__") ht.typeIs PyProof.Rows.slot_tuple_getitem
  (Th PyProof.Rows.slot_tuple_getitem ht.typeIs entry_tuple_getitem ?_ (args_tuple_getitem _ _)))
 show wpAny _ _ (Builtin.Tuple.tupleItemsOf (.ref t)>>=_) _ _ s;refine Qc (tupleItemsOf_ ht ?_);refine Qc (wpAny_typeOf u ?_);rw [QD nofun];refine Qc (cw C pl pu ?_)
 have G:¬((((sIx items.size 0 lo:Nat):Int)==0 && (1:Int)==1 && (sIx items.size items.size g - sIx items.size 0 lo)==items.size)=true):=by
  intro q;rw [TF,TF] at q;have K:((sIx items.size 0 lo:Nat):Int)=0:=eq_of_beq q.1.1;have J:sIx items.size items.size g - sIx items.size 0 lo=items.size:=eq_of_beq q.2;exact hw ⟨⋯,⋯⟩
 show wpAny _ _ (if (((sIx items.size 0 lo:Nat):Int)==0 && (1:Int)==1 && (sIx items.size items.size g - sIx items.size 0 lo)==items.size)=true then _ else _) _ _ s;rw [QI G,Gh]
 first
  |exact Qc (m:=Builtin.Tuple.tupleExact _) (To (Ql ⟨_,rfl,Ql h⟩) p)
  |exact Qc (m:=Builtin.Tuple.tupleExact _) (To (Qc (Ql (Ql ⟨_,rfl,Ql h⟩))) p)
  |exact Qc (Qc (m:=Builtin.Tuple.tupleExact _) (To (Ql (Ql ⟨_,rfl,Ql h⟩)) p))
  |exact Qc (Qc (m:=Builtin.Tuple.tupleExact _) (To (Ql ⟨_,rfl,Ql h⟩) p))
end
end HT
namespace L2
open PySem PySem.Spec PyProof.Rows
abbrev TO:=St->Hp->(Option Int->Hp->Prop)->Prop
def PO (X:Cx) (e:Option Expr) (t:TO):Prop:=
 ∀(pins:Pn) (s:Shared) (σ:St) (H:Hp) (Q:Option Int->Hp->Prop),Inv X pins σ H s->t σ H Q->
  wpAny (model X.prog X.w) X.A (evalPart e X.env) (λu g=>∃o H',Inv X pins σ H' g/\IsPart u o/\Q o H') X.xe s
def Bc:TO:=λ_ H Q=>Q none H
def tPart (t:TE):TO:=λσ H Q=>t σ H λx H1=>∃i,x= .int i/\Q (some i) H1
def Ve {ns:List Int}:∀{us:List Value},xi (ns.map V.int) us->IntsAre us ns:=by
 induction ns with
 |nil=>intro us r;rw [Tu] at r;cases r;exact .nil
 |cons n ns p=>
  intro us r;rw [Qj] at r
  cases r with
  |cons m g=>
   obtain ⟨t,e⟩:=m;subst e;exact .cons n t (p g)
section
variable {X:Cx} {e:Expr} {te:TE} {lo hi:Option Expr} {tl th:TO} {pos p2:Pos}
def po_none:PO X none Bc:=by
 intro pins s σ H Q I h;rw [evalPart_none];exact Ql ⟨none,H,I, .none,h⟩
def po_some (h:PE X e te):PO X (some e) (tPart te):=by
 intro pins s σ H Q I hw;rw [evalPart_some];refine thn (h pins s σ H _ I hw) λu s1 p=>?_;obtain ⟨x,H1,r,g,m⟩:=p;obtain ⟨i,rfl,q⟩:=m;obtain ⟨t,rfl⟩:=g;exact ⟨some i,H1,r, .int i t,q⟩
def SlR (X:Cx) (r:V->Option Int->Option Int->Hp->VK->Prop):Prop:=
 ∀(pins:Pn) (s:Shared) (σ:St) (H:Hp) (x:V) (v m g:Value) (lo hi:Option Int) (sl:Addr) (Q:VK),Inv X pins σ H s->Zw x v->s.heap.IsSliceOf sl m g .none->IsPart m lo->IsPart g hi->r x lo hi H Q->
  ∃T id,typeLookup (.type T) "__getitem__"=pure (some (.builtin id))/\s.TypeIs v T/\wpAny (model X.prog X.w) X.A (getItem v (.ref sl)) (EP X pins σ Q) X.xe s
def tSl (r:V->Option Int->Option Int->Hp->VK->Prop) (te:TE) (tl th:TO):TE:=λσ H Q=>te σ H λx H1=>tl σ H1 λl m=>th σ m λu g=>r x l u g Q
def pe_slice {r:V->Option Int->Option Int->Hp->VK->Prop} (hr:SlR X r) (he:PE X e te) (J:PO X lo tl) (G:PO X hi th):PE X (.Subscript e (.Slice lo hi none p2) pos) (tSl r te tl th):=by
 intro pins s σ H Q I h;refine Subscript_ (thn (he pins s σ H _ I h) λv s1 p=>?_);obtain ⟨x,H1,P,y,D⟩:=p;refine wpAny_Slice (thn (J pins s1 σ H1 _ P D) λm s2 ⟨l,U,O,pl,C⟩=>thn (G pins s2 σ U _ O C) λg s3 p=>?_);obtain ⟨u,t,N,pu,z⟩:=p;rw [evalPart_none];refine Ql ?_;have M:Inv X pins σ t {s3 with heap:=s3.heap.push {cls:= .type "slice",data:= .fields #[m,g, .none]}}:=N.kept (t':=s3.toks) λb Y q=>Qi _ q;obtain ⟨T,id,L,ht,K⟩:=hr pins {s3 with heap:=s3.heap.push {cls:= .type "slice",data:= .fields #[m,g, .none]}} σ t x v m g l u s3.heap.objs.size Q M y (Heap.IsSliceOf.new ..) pl pu z;show wpAny (model X.prog X.w) X.A (subscriptTail e (.Slice lo hi none p2) v (.ref s3.heap.objs.size)) (EP X pins σ Q) X.xe {s3 with heap:=s3.heap.push {cls:= .type "slice",data:= .fields #[m,g, .none]}};exact tail_any (ops:=[.ref s3.heap.objs.size,v]) ht L K (by with_unfolding_all rfl)
def AL (xs:List V) (lo hi:Option Int):List V:=(xs.drop (HT.sIx xs.length 0 lo)).take (HT.sIx xs.length xs.length hi - HT.sIx xs.length 0 lo)
def fU (xs:List V) (lo hi:Option Int):(AL xs lo hi).length<=xs.length:=by
 unfold AL;rw [jbd,jaJ];lia
def rSlT (K:Frg):V->Option Int->Option Int->Hp->VK->Prop:=λx lo hi H Q=>∃a xs,x= .ref a/\SqT K H a xs/\
 ¬(HT.sIx xs.length 0 lo=0/\HT.sIx xs.length xs.length hi=xs.length)/\∀p,H p=none->Q (.ref p) (upd H p (.tup (AL xs lo hi)))
def sl_tup:SlR X (rSlT X.K):=by
 intro pins s σ H x v vl vu lo hi sl Q I rx hs pl pu h;obtain ⟨a,xs,rfl,m,hw,q⟩:=h;cases rx;obtain ⟨its,r,ht,g⟩:=I.tuple m;have hlen:its.toArray.size=xs.length:=by rw [QJ];exact r.length.symm
 refine ⟨"tuple",_,PyProof.Rows.slot_tuple_getitem.lookup,ht.typeIs,?_⟩;refine HT.getItem_tuple_cut ht hs pl pu (by rw [hlen];exact hw) ?_ (by rw [hlen];exact g);rw [hlen];refine ⟨.ref s.heap.objs.size,_,I.laid (t':=s.toks) (o:= .tup (AL xs lo hi)) (λb p q=>Qi _ q) (Qs _) ?_,rfl,q _ (I.hok.fresh (Qs _))⟩;exact ⟨QP (fU xs lo hi) g,_,(r.drop (HT.sIx xs.length 0 lo)).take (HT.sIx xs.length xs.length hi - HT.sIx xs.length 0 lo),IsTup.new _ _⟩
end
def ixN (n:Nat) (i:Int):Option Nat:=if 0<=i then (if i<n then some i.toNat else none) else if -(n:Int)<=i then some (i+n).toNat else none
def atI {α:Type} (xs:List α) (i:Int):Option α:=(ixN xs.length i).bind λj=>xs[j]?
def DE {n:Nat} {i:Int} {j:Nat} (h:ixN n i=some j):seqIndex? i n=some j/\j<n/\ -(n:Int)<=i/\i<n:=by
 unfold ixN at h
 by_cases h0:0<=i
 ·rw [QD h0] at h
  by_cases g:i<n
  ·rw [QD g] at h;have e:i.toNat=j:=Qw h;exact ⟨by rw [seqIndex_of h0 g,e],⋯,⋯,g⟩
  ·rw [QI g] at h;cases h
 ·rw [QI h0] at h
  by_cases g: -(n:Int)<=i
  ·rw [QD g] at h;have e:(i+n).toNat=j:=Qw h;exact ⟨by rw [seqIndex_neg ⋯ g,e],⋯,g,⋯⟩
  ·rw [QI g] at h;cases h
def sL {α:Type} {xs:List α} {i:Int} {v:α} (h:atI xs i=some v):∃j,seqIndex? i xs.length=some j/\xs[j]? =some v/\j<xs.length/\ -(xs.length:Int)<=i/\i<xs.length:=by
 unfold atI at h
 cases e:ixN xs.length i with
 |none=>rw [e] at h;cases h
 |some j=>
  rw [e] at h;obtain ⟨q,p,m,g⟩:=DE e;exact ⟨j,q,h,p,m,g⟩
def zW {α:Type} {xs:List α} {j:Nat} {v:α} (h:xs[j]? =some v):atI xs (j:Int)=some v:=by
 have g:j<xs.length:=(Qf.mp h).1
 have e:ixN xs.length (j:Int)=some j:=by
  unfold ixN;rw [QD ⋯,QD ⋯];simp
 unfold atI;rw [e];exact h
def uU {α:Type} (xs:List α) (v:α):atI (xs++[v]) (-1)=some v:=by
 have g:(xs++[v]).length=xs.length+1:=by simp
 have e:ixN (xs++[v]).length (-1)=some xs.length:=by
  unfold ixN;rw [g,QI nofun,QD ⋯]
  congr 1
  lia
 unfold atI;rw [e];show (xs++[v])[xs.length]? =some v
 simp
def LZ (b:Expr):Prop:=∀o i,subscripted b false o i=operate [o,i] (getItem o i)
def IxR (X:Cx) (r:R2):Prop:=
 ∀(value slice:Expr) (pins:Pn) (s:Shared) (σ:St) (H:Hp) (x y:V) (v u:Value) (Q:VK),Inv X pins σ H s->Zw x v->Zw y u->r x y H Q->
  subscripted slice false v u=operate [v,u] (getItem v u)->wpAny (model X.prog X.w) X.A (subscriptTail value slice v u) (EP X pins σ Q) X.xe s
def MtR (X:Cx) (id:String) (r:V->List V->Hp->VK->Prop):Prop:=
 ∀(pins:Pn) (s:Shared) (σ:St) (H:Hp) (x:V) (xs:List V) (v:Value) (us:List Value) (Q:VK),Inv X pins σ H s->Zw x v->xi xs us->r x xs H Q->
  wpAny (model X.prog X.w) X.A (call (.builtin id) (v::us)) (EP X pins σ Q) X.xe s
section
variable {X:Cx}
def IxR.or {r g:R2} (h:IxR X r) (h':IxR X g):IxR X (λx y H Q=>r x y H Q\/g x y H Q):=by
 intro value slice pins s σ H x y v u Q I rx ry q hs
 rcases q with q|q
 ·exact h value slice pins s σ H x y v u Q I rx ry q hs
 ·exact h' value slice pins s σ H x y v u Q I rx ry q hs
def pe_ix {r:R2} (hr:IxR X r) (ha:PE X a ta) (t:PE X b tb) (p:LZ b):PE X (.Subscript a b pos) (tOp r ta tb):=by
 intro pins s σ H Q I h;exact Subscript_ (binT ha t I h λv u s2 x y z w m g q=>hr a b pins s2 σ z x y v u Q w m g q (p _ _))
def rIxL (K:Frg):R2:=λx y H Q=>∃p xs i v,x= .ref p/\y= .int i/\SqL K H p xs/\atI xs i=some v/\Q v H
def rIxT (K:Frg):R2:=λx y H Q=>∃p xs i v,x= .ref p/\y= .int i/\SqT K H p xs/\atI xs i=some v/\Q v H
def rIxS:R2:=λx y H Q=>∃z i c,x= .str z/\y= .int i/\z.length<=sizeLine/\atI z.cps.toList i=some c/\Q (.str ⟨#[c]⟩) H
def Lu:IxR X (rIxL X.K):=by
 intro value slice pins s σ H x y v u Q I rx ry h hs;obtain ⟨p,xs,i,z,rfl,rfl,D,he,q⟩:=h;cases rx;obtain ⟨t,rfl⟩:=ry;obtain ⟨its,r,pl,O⟩:=I.list D;obtain ⟨j,g,M,P,L,J⟩:=sL he;obtain ⟨w,A,N⟩:=r.get M;have G:=r.length;have hn:=oO;have fin:EP X pins σ Q w s:=⟨z,H,I,N,q⟩
 by_cases h0:0<=i
 ·have m:i.toNat=j:=by
   rw [seqIndex_of h0 J] at g;exact Qw g
  exact item_listR pl.isList h0 ⋯ (by rw [m];simpa using A) fin hs
 ·have m:(i+(its.toArray.size:Int)).toNat=j:=by
   rw [seqIndex_neg ⋯ L] at g;rw [QJ,<-G];exact Qw g
  exact subscriptTail_builtinR (x:=w) pl.isList.typeIs slot_list_getitem.lookup
   (wpAny_getItem_list_neg (Q:=λr C=>r=w/\EP X pins σ Q r C) pl.isList ⋯ (by rw [QJ]<;>lia) ⋯ (by rw [m];simpa using A) ⟨rfl,fin⟩) hs
def ix_tup:IxR X (rIxT X.K):=by
 intro value slice pins s σ H x y v u Q I rx ry h hs;obtain ⟨p,xs,i,z,rfl,rfl,m,he,q⟩:=h;cases rx;obtain ⟨t,rfl⟩:=ry;obtain ⟨its,r,pl,L⟩:=I.tuple m;obtain ⟨j,D,C,O,N,M⟩:=sL he;obtain ⟨w,G,J⟩:=r.get C;have A:=r.length;have hn:=oO;have fin:EP X pins σ Q w s:=⟨z,H,I,J,q⟩
 exact subscriptTail_builtinR (x:=w) pl.typeIs slot_tuple_getitem.lookup
  (getItem_tuple (j:=j) (Q:=λr g=>r=w/\EP X pins σ Q r g) pl ⋯ ⋯ (by rw [QJ,<-A];exact D) ‹G› ⟨rfl,fin⟩) hs
def ix_str:IxR X rIxS:=by
 intro value slice pins s σ H x y v u Q I rx ry h hs;obtain ⟨z,i,c,rfl,rfl,D,he,q⟩:=h;obtain ⟨t,rfl⟩:=rx;obtain ⟨t',rfl⟩:=ry;obtain ⟨j,g,w,G,r,p⟩:=sL he;have m:z.cps.toList.length=z.length:=by simp [Str.length]
 rw [m] at g r p;have hn:=oO
 exact tail_any (typeIs_str s z t) slot_str_getitem.lookup (getItem_str (c:=c) (by
  have C:decide (i< -(2 ^ 63:Int))=false:=Tf ⋯;have A:decide (i≥2 ^ 63)=false:=Tf ⋯
  rw [C,A,Bool.or_false]) (by rw [g];simpa using w) ⟨.str ⟨#[c]⟩,H,I.tok _,⟨_,rfl⟩,q⟩) hs
def rIx (K:Frg):R2:=λx y H Q=>rIxL K x y H Q\/rIxT K x y H Q\/rIxS x y H Q
def ix_seq:IxR X (rIx X.K):=Lu.or (ix_tup.or ix_str)
def wy (its:List Value) (n j:Nat) (u:Value):Obj.mapSeq (·.setIfInBounds j u) {cls:= .type "list",data:= .seq its.toArray n}={cls:= .type "list",data:= .seq (its.set j u).toArray n}:=by
 simp [Obj.mapSeq]
def Inv.lst {pins:Pn} {σ:St} {H:Hp} {s:Shared} {p:Addr} {xs:List V} (I:Inv X pins σ H s) (h:H p=some (.lst xs)):
 ∃(its:List Value) (n:Nat),xi xs its/\s.heap.get? p=some {cls:= .type "list",data:= .seq its.toArray n}/\xs.length<=sizeLine:=by
 obtain ⟨z,its,n,r,e⟩:=I.hok p _ h;exact ⟨its,n,r,e,z⟩
def Inv.lstUpd {pins:Pn} {σ:St} {H:Hp} {s:Shared} {p:Addr} {xs ys:List V} {its its':List Value} {n g:Nat} {f:Obj->Obj} (I:Inv X pins σ H s) (h:H p=some (.lst xs))
 (w:s.heap.get? p=some {cls:= .type "list",data:= .seq its.toArray n}) (hf:f {cls:= .type "list",data:= .seq its.toArray n}={cls:= .type "list",data:= .seq its'.toArray g}) (r:xi ys its') (m:ys.length<=sizeLine) (t:Nat):
 Inv X pins σ (upd H p (.lst ys)) {s with heap:=s.heap.update p f,toks:=t}:=by
 have e:(s.heap.update p f).get? p=some {cls:= .type "list",data:= .seq its'.toArray g}:=by
  rw [TL f w (by rw [hf]<;>rfl),hf]
 refine I.write (x:=p) (e:=p) (by rw [h];trivial) (.inl rfl) (λb u y q=>(Tq _ _ (Ne.symm y)).trans q) ⟨_,e⟩ ?_;exact ⟨m,its',g,r,e⟩
def rSetL:V->V->V->Hp->(Hp->Prop)->Prop:=λo i v H Q=>∃p xs k j,o= .ref p/\i= .int k/\H p=some (.lst xs)/\ixN xs.length k=some j/\Q (upd H p (.lst (xs.set j v)))
def set_list:PSet X rSetL:=by
 intro pins s σ H o i v ov iv u Q I ro ri rv h;obtain ⟨p,xs,k,j,rfl,rfl,hp,G,q⟩:=h;cases ro;obtain ⟨t,rfl⟩:=ri;obtain ⟨its,n,r,m,D⟩:=I.lst hp;obtain ⟨g,J,A,z⟩:=DE G;have w:=r.length;have hn:=oO
 have C:Inv X pins σ (upd H p (.lst (xs.set j v))) {s with heap:=s.heap.update p (Obj.mapSeq (·.setIfInBounds j u))}:=
  I.lstUpd hp m (wy its n j u) (r.set rv j) (by rw [jaF];exact D) s.toks
 by_cases h0:0<=k
 ·have y:k.toNat=j:=by
   rw [seqIndex_of h0 z] at g;exact Qw g
  exact PySem.W.ki_setAt m h0 ⋯ (by rw [QJ,<-w];exact z) (by rw [y];exact ⟨_,C,q⟩)
 ·have y:(k+(its.toArray.size:Int)).toNat=j:=by
   rw [seqIndex_neg ⋯ A] at g;rw [QJ,<-w];exact Qw g
  exact PySem.W.ki_setBack m ⋯ (by rw [QJ,<-w];exact A) ⋯ (by rw [y];exact ⟨_,C,q⟩)
def nA (lo g:Option Int) (n:Nat):(sliceBounds lo g none n).1=((HT.sIx n 0 lo:Nat):Int)/\(sliceBounds lo g none n).2.1=((HT.sIx n n g:Nat):Int)/\(sliceBounds lo g none n).2.2=1:=by
 refine ⟨?_,?_,rfl⟩
 ·cases lo with
  |none=>simp [sliceBounds,HT.sIx]
  |some i=>
   simp only [sliceBounds,HT.sIx,Option.getD_none,show (1:Int)>0 by decide,if_true]
   by_cases h:i<0
   ·simp only [h,if_true]<;>lia
   ·simp only [h,if_false]<;>lia
 ·cases g with
  |none=>simp [sliceBounds,HT.sIx]
  |some i=>
   simp only [sliceBounds,HT.sIx,Option.getD_none,show (1:Int)>0 by decide,if_true]
   by_cases h:i<0
   ·simp only [h,if_true]<;>lia
   ·simp only [h,if_false]<;>lia
def kD (its:List Value) (lo g:Option Int):slicePick its.toArray lo g none=((its.drop (HT.sIx its.length 0 lo)).take (HT.sIx its.length its.length g - HT.sIx its.length 0 lo)).toArray:=by
 obtain ⟨q,p,m⟩:=nA lo g its.toArray.size;unfold slicePick;rw [q,p,m];simp only [sliceRange_one,pick_run,QJ]<;>rfl
def rSlL (K:Frg):V->Option Int->Option Int->Hp->VK->Prop:=λx lo g H Q=>∃a xs,x= .ref a/\SqL K H a xs/\∀p,H p=none->Q (.ref p) (upd H p (.lst (AL xs lo g)))
def sl_list:SlR X (rSlL X.K):=by
 intro pins s σ H x v vl vu lo hi sl Q I rx hs pl pu h;obtain ⟨a,xs,rfl,m,q⟩:=h;cases rx;obtain ⟨its,r,ht,g⟩:=I.list m;have hlen:=r.length;refine ⟨"list",_,slot_list_getitem.lookup,ht.isList.typeIs,?_⟩;refine wpAny_getItem_list_slice ht.isList hs pl pu .none (by simp) ?_ (by rw [QJ]<;>lia);rw [kD,<-hlen];refine ⟨.ref s.heap.objs.size,_,I.laid (t':=s.toks) (o:= .lst (AL xs lo hi)) (λb p q=>Qi _ q) (Qs _) ?_,rfl,q _ (I.hok.fresh (Qs _))⟩;exact ⟨QP (fU xs lo hi) g,_,0,(r.drop (HT.sIx xs.length 0 lo)).take (HT.sIx xs.length xs.length hi - HT.sIx xs.length 0 lo),Qu _ rfl⟩
def oW:V->Bool
 | .non=>true
 | .bl _=>true
 | .int _=>true
 | .str _=>true
 |_=>false
def eqV:V->V->Bool
 | .non, .non=>true
 | .bl a, .bl b=>a==b
 | .bl a, .int b=>(if a then 1 else 0)==b
 | .int a, .bl b=>a==(if b then 1 else 0)
 | .int a, .int b=>a==b
 | .str a, .str b=>a==b
 |_,_=>false
def eqAt_V {A:Around} {s:Shared} {y x:V} {u v:Value} (m:Zw y u) (g:Zw x v) (q:oW y=true) (p:oW x=true):SeqAt.EqAt A s u v (eqV y x):=by
 cases y with
 |non=>
  cases m
  cases x with
  |non=>cases g;exact SeqAt.EqAt.same _
  |bl b=>cases g;exact SeqAt.EqAt.none_bool b
  |int b=>obtain ⟨t,rfl⟩:=g;exact SeqAt.EqAt.none_int b t
  |str b=>obtain ⟨t,rfl⟩:=g;exact SeqAt.EqAt.none_str b t
  |_=>exact absurd (show false=true from p) Qv
 |bl a=>
  cases m
  cases x with
  |non=>cases g;exact SeqAt.EqAt.bool_none a
  |bl b=>cases g;exact SeqAt.EqAt.bool_bool a b
  |int b=>obtain ⟨t,rfl⟩:=g;exact SeqAt.EqAt.bool_int a b t
  |str b=>obtain ⟨t,rfl⟩:=g;exact SeqAt.EqAt.bool_str a b t
  |_=>exact absurd (show false=true from p) Qv
 |int a=>
  obtain ⟨t',rfl⟩:=m
  cases x with
  |non=>cases g;exact SeqAt.EqAt.int_none a t'
  |bl b=>cases g;exact SeqAt.EqAt.int_bool a t' b
  |int b=>obtain ⟨t,rfl⟩:=g;exact SeqAt.EqAt.int_int a t' b t
  |str b=>obtain ⟨t,rfl⟩:=g;exact SeqAt.EqAt.int_str a t' b t
  |_=>exact absurd (show false=true from p) Qv
 |str a=>
  obtain ⟨t',rfl⟩:=m
  cases x with
  |non=>cases g;exact SeqAt.EqAt.str_none a t'
  |bl b=>cases g;exact SeqAt.EqAt.str_bool a t' b
  |int b=>obtain ⟨t,rfl⟩:=g;exact SeqAt.EqAt.str_int a t' b t
  |str b=>obtain ⟨t,rfl⟩:=g;exact SeqAt.EqAt.str_str a t' b t
  |_=>exact absurd (show false=true from p) Qv
 |_=>exact absurd (show false=true from q) Qv
def eqU (x:V) (u:Value):Bool:=match u with
 | .none=>eqV .non x
 | .bool b=>eqV (.bl b) x
 | .int i _=>eqV (.int i) x
 | .str z _=>eqV (.str z) x
 |_=>false
def Ja {x y:V} {u:Value} (r:Zw y u) (f:oW y=true):eqU x u=eqV y x:=by
 cases y with
 |non=>cases r;rfl
 |bl b=>cases r;rfl
 |int i=>obtain ⟨t,rfl⟩:=r;rfl
 |str z=>obtain ⟨t,rfl⟩:=r;rfl
 |_=>exact absurd (show false=true from f) Qv
theorem gu {x:V}:∀{xs:List V} {us:List Value},xi xs us->xs.all oW=true->us.any (eqU x)=xs.any λy=>eqV y x
 |_,_, .nil,_=>rfl
 |y::xs,u::us, .cons r t,f=>by
  rw [List.all_cons,TF] at f;rw [List.any_cons,List.any_cons,Ja r f.1,gu t f.2]
theorem UE {A:Around} {s:Shared} {x:V} {v:Value} (m:Zw x v) (p:oW x=true):∀{xs:List V} {us:List Value},xi xs us->xs.all oW=true->∀u∈us,SeqAt.EqAt A s u v (eqU x u)
 |_,_, .nil,_=>λu g=>by cases g
 |y::xs,u::us, .cons r t,f=>λq g=>by
  rw [List.all_cons,TF] at f
  rcases Qn.mp g with rfl|g
  ·rw [Ja r f.1];exact eqAt_V r m f.1 p
  ·exact UE m p t f.2 q g
def inV (x:V) (xs:List V):Bool:=xs.any λy=>eqV y x
def rIn (K:Frg) (neg:Bool):R2:=λx y H Q=>∃p xs,y= .ref p/\(SqL K H p xs\/SqT K H p xs)/\oW x=true/\xs.all oW=true/\Q (.bl (if neg then !inV x xs else inV x xs)) H
def op_in_seq:OpR X (compareOp .In) (rIn X.K false):=by
 intro pins s σ H x y v u Q I rx ry h;obtain ⟨p,xs,rfl,g,m,fs,q⟩:=h;cases ry
 rcases g with g|g
 ·obtain ⟨its,r,pl,t⟩:=I.list g;refine SeqAt.in_listAt (eqU x) pl.isList (λw hw=>UE rx m r fs w ‹hw›) ⟨.bl _,H,I,rfl,?_⟩;rw [show its.toArray.any (eqU x)=its.any (eqU x) by simp,gu r fs];exact q
 ·obtain ⟨its,r,pl,t⟩:=I.tuple g;refine SeqAt.in_tupleAt (eqU x) pl (λw hw=>UE rx m r fs w ‹hw›) ⟨.bl _,H,I,rfl,?_⟩;rw [show its.toArray.any (eqU x)=its.any (eqU x) by simp,gu r fs];exact q
def IL:OpR X (compareOp .NotIn) (rIn X.K true):=by
 intro pins s σ H x y v u Q I rx ry h;obtain ⟨p,xs,rfl,g,m,fs,q⟩:=h;cases ry
 rcases g with g|g
 ·obtain ⟨its,r,pl,t⟩:=I.list g;refine SeqAt.notIn_listAt (eqU x) pl.isList (λw hw=>UE rx m r fs w ‹hw›) ⟨.bl _,H,I,rfl,?_⟩;rw [show its.toArray.any (eqU x)=its.any (eqU x) by simp,gu r fs];exact q
 ·obtain ⟨its,r,pl,t⟩:=I.tuple g;refine SeqAt.notIn_tupleAt (eqU x) pl (λw hw=>UE rx m r fs w ‹hw›) ⟨.bl _,H,I,rfl,?_⟩;rw [show its.toArray.any (eqU x)=its.any (eqU x) by simp,gu r fs];exact q
def pA:Wi X (.builtin "len") (λxs H Q=>∃p ys,xs=[.ref p]/\(SqL X.K H p ys\/SqT X.K H p ys)/\Q (.int ys.length) H):=by
 intro pins s σ H xs us Q I r h;obtain ⟨p,ys,rfl,g,q⟩:=h;obtain ⟨u,rfl,t⟩:=ae r;cases t;have hn:=oO
 rcases g with g|g
 ·obtain ⟨its,m,pl,w⟩:=I.list g;have hlen:=m.length;exact Calls.call_len_list pl.isList (by simp only [QJ]<;>lia) ⟨.int ys.length,H,I.tok _,⟨s.toks+1,by rw [QJ,hlen]⟩,q⟩
 ·obtain ⟨its,m,pl,w⟩:=I.tuple g;have hlen:=m.length;exact len_tuple pl (by simp only [QJ]<;>lia) ⟨.int ys.length,H,I.tok _,⟨s.toks+1,by rw [QJ,hlen]⟩,q⟩
def pq:Wi X (.type "list") (λxs H Q=>∃p ys,xs=[.ref p]/\(SqL X.K H p ys\/SqT X.K H p ys)/\∀l,H l=none->Q (.ref l) (upd H l (.lst ys))):=by
 intro pins s σ H xs us Q I r h;obtain ⟨p,ys,rfl,y,q⟩:=h;obtain ⟨u,rfl,D⟩:=ae r;cases D
 have fin:∀(its:List Value),xi ys its->ys.length<=sizeLine->∀(h':Heap) (m:Nat),(∀b C,s.heap.get? b=some C->h'.get? b=some C)->
  h'.get? s.heap.objs.size=some {cls:= .type "list",dict:=none,data:= .seq its.toArray m,slots:=#[]}->EP X pins σ Q (.ref s.heap.objs.size) {s with heap:=h'}:=λits g t h' m kp e=>
  ⟨.ref s.heap.objs.size,_,I.laid (t':=s.toks) kp (Qs _) (show Yg X.prog X.w _ h' _ (.lst ys) from ⟨t,its,m,g,e⟩),rfl,q _ (I.hok.fresh (Qs _))⟩
 rcases y with y|y
 ·obtain ⟨its,g,pl,t⟩:=I.list y;have hlen:=g.length;obtain ⟨o,z,A,n,hd⟩:=pl.isList;exact call_list_seq p (.inl rfl) z A hd (λh' m kp e=>fin its g t h' m kp e) (by simp only [QJ]<;>lia)
 ·obtain ⟨its,g,pl,t⟩:=I.tuple y;have hlen:=g.length;obtain ⟨o,z,A,n,hd⟩:=pl;exact call_list_seq p (.inr rfl) z A hd (λh' m kp e=>fin its g t h' m kp e) (by simp only [QJ]<;>lia)
def mx:Wi X (.type "tuple") (λxs H Q=>∃p ys,xs=[.ref p]/\((SqL X.K H p ys/\∀l,H l=none->Q (.ref l) (upd H l (.tup ys)))\/(SqT X.K H p ys/\Q (.ref p) H))):=by
 intro pins s σ H xs us Q I r h;obtain ⟨p,ys,rfl,h⟩:=h;obtain ⟨u,rfl,z⟩:=ae r;cases z
 rcases h with ⟨m,q⟩|⟨m,q⟩
 ·obtain ⟨its,g,pl,t⟩:=I.list m;have hlen:=g.length;refine call_tuple_list pl.isList (λh' kp=>?_) (by simp only [QJ]<;>lia);have y:Inv X pins σ H {s with heap:=h'}:=I.kept (t':=s.toks) kp
  have A:Inv X pins σ (upd H h'.objs.size (.tup ys)) {s with heap:=h'.push {cls:= .type "tuple",data:= .seq its.toArray}}:=
   y.laid (t':=s.toks) (λb o e=>Qi _ e) (Qs _) (show Yg X.prog X.w _ _ _ (.tup ys) from ⟨t,its,g,IsTup.new _ _⟩)
  exact ⟨.ref h'.objs.size,_,A,rfl,q _ (y.hok.fresh (Qs _))⟩
 ·obtain ⟨its,g,pl,t⟩:=I.tuple m;exact call_tuple_same pl ⟨.ref p,H,I,rfl,q⟩
def tyV (K:Frg) (T:String) (x:V) (H:Hp):Prop:=match x with
 | .str _=>T="str"
 | .int _=>T="int"
 | .ref p=>(T="list"/\∃xs,SqL K H p xs)\/(T="tuple"/\∃o,K.lookup p=some o/\o.cls= .type "tuple"/\o.dict=none)
 |_=>False
def tyV_is {pins:Pn} {σ:St} {H:Hp} {s:Shared} {T:String} {x:V} {v:Value} (I:Inv X pins σ H s) (r:Zw x v) (ty:tyV X.K T x H):
 s.TypeIs v T/\∀a,v= .ref a->∃g,s.heap.get? a=some g/\g.dict=none:=by
 cases x with
 |str z=>
  obtain ⟨t,rfl⟩:=r;cases (show T="str" from ty);exact ⟨typeIs_str s z t,λ_ e=>nomatch e⟩
 |int i=>
  obtain ⟨t,rfl⟩:=r;cases (show T="int" from ty);exact ⟨typeIs_int s i t,λ_ e=>nomatch e⟩
 |ref p=>
  cases r
  rcases ty with ⟨rfl,xs,q⟩|⟨rfl,o,m,u,hd⟩
  ·obtain ⟨its,_,pl,_⟩:=I.list q;refine ⟨pl.isList.typeIs,λa e=>?_⟩;cases e;obtain ⟨o,n,e,c,hd,_⟩:=pl;exact ⟨o,e,hd⟩
  ·refine ⟨⟨o,I.kIn p o m,u⟩,λa e=>?_⟩;cases e;exact ⟨o,I.kIn _ o m,hd⟩
 |_=>exact False.elim ty
def tBM (K:Frg) (T:String) (r:V->List V->Hp->VK->Prop) (to:TE) (t:TA):TE:=λσ H Q=>to σ H λx H1=>tyV K T x H1/\t σ H1 λxs g=>r x xs g Q
variable {o e:Expr} {es:List Expr} {to:TE} {t:TA} {name:Str} {apos cpos:Pos} {T id:String} {r:V->List V->Hp->VK->Prop}
def pe_bm (pa:PlainAttrs T) (slot:Slot T name id) (m:typeOf (.builtin id)=pure (.type "method_descriptor")) (hm:MtR X id r) (C:PE X o to) (ha:PA X (e::es) t)
 (M:attributeBase o name X.env (eval o X.env)=eval o X.env:=by rfl)
 (g:((backTo cpos (starEach (e::es) X.env)).all (λx=>!x.1) && (backToKw cpos (keywordEach [] X.env)).all (λx=>x.1.isSome)
  && decide ((e::es).length+([]:List Keyword).length+(if ([]:List Keyword).isEmpty then 0 else 1)<30))=true:=by rfl)
 (L:(apos.endLine==cpos.line)=true:=by rfl) (A:starEach (e::es) X.env=(false,eval e X.env)::starEach es X.env:=by rfl) (N:(backTo cpos (starEach es X.env)).any (·.1)=false:=by rfl):
 PE X (.Call (.Attribute o name apos) (e::es) [] cpos) (tBM X.K T r to t):=by
 intro pins s σ H Q I h;refine wpAny_Call_method_late M g L rfl (thn (C pins s σ H _ I h) λv s1 D=>?_);obtain ⟨x,H1,u,p,ty,z⟩:=D;obtain ⟨J,G⟩:=tyV_is u p ty;refine ⟨T,id,pa,slot,m,J,G,?_⟩;have q:=ha cpos pins s1 σ H1 _ u z;rw [A] at q⊢;refine Calls.callWith_builtin (by show (false||(backTo cpos (starEach es X.env)).any (·.1))=false;rw [N]<;>rfl) (Calls.evalArgs_plain ?_);refine thn q ?_;rintro us s2 ⟨vs,P,O,w,y⟩;exact hm pins s2 σ P x vs v us Q O p w y
end
def MtM (X:Cx) (id:String) (r:V->List V->Hp->VK->Prop):Prop:=
 ∀(pins:Pn) (s:Shared) (σ:St) (H:Hp) (x:V) (xs:List V) (v:Value) (us:List Value) (Q:VK),Inv X pins σ H s->Zw x v->xi xs us->r x xs H Q->
  wpAny (model X.prog X.w) X.A (call (.builtin id) (v::us)) (EP X pins σ Q) X.xe s
def xi.one {x:V} {us:List Value} (h:xi [x] us):∃u,us=[u]/\Zw x u:=by
 cases h with
 |cons r t=>
  cases t;exact ⟨_,rfl,r⟩
theorem xi.zero:∀{us:List Value},xi [] us->us=[]
 |_, .nil=>rfl
theorem xi.rep {xs:List V} {us:List Value} (h:xi xs us):∀k:Nat,xi (List.replicate k xs).flatten (List.replicate k us).flatten
 |0=> .nil
 |k+1=>by
  rw [TQ,TQ,jbB,jbB];exact xi.append h (xi.rep h k)
theorem oV (its:List Value):∀(k:Nat) (acc:List Value),
 List.foldl (λm g=>m++g) acc.toArray (List.replicate k its.toArray)=(acc++(List.replicate k its).flatten).toArray
 |0,acc=>by simp
 |k+1,acc=>by
  have e:acc.toArray++its.toArray=(acc++its).toArray:=by simp
  have p:(acc++its)++(List.replicate k its).flatten=acc++(List.replicate (k+1) its).flatten:=by
   rw [TQ,jbB,jbk]
  rw [<-p,<-oV its k (acc++its),<-e,TQ,List.foldl_cons]
section
def Inv.lset {its its':List Value} {n:Nat} {f:Array Value->Array Value} {t':Nat} (I:Inv X pins σ H s) (t:H l=some (.lst xs))
 (e:s.heap.get? l=some {cls:= .type "list",data:= .seq its.toArray n}) (hf:f its.toArray=its'.toArray) (m:xi ys its') (g:ys.length<=sizeLine):
 Inv X pins σ (upd H l (.lst ys)) {s with heap:=s.heap.update l (Obj.mapSeq f),toks:=t'}:=by
 have q:=PySem.IsL.update e f;rw [hf] at q;refine I.write (x:=l) (e:=l) (by rw [t];exact trivial) (.inl rfl) (λw u r p=>(Tq s.heap (Obj.mapSeq f) (Ne.symm r)).trans p) ⟨_,q⟩ ?_;exact ⟨g,its',_,m,q⟩
def Inv.lnew {its:List Value} {t':Nat} (I:Inv X pins σ H s) (m:xi ys its) (g:ys.length<=sizeLine):
 Inv X pins σ (upd H s.heap.objs.size (.lst ys)) {s with heap:=s.heap.push {cls:= .type "list",data:= .seq its.toArray},toks:=t'}:=
 I.laid (λ_ _ q=>Qi _ q) (Qs _) ⟨g,its,0,m,Qu _ rfl⟩
def Inv.fresh (I:Inv X pins σ H s):H s.heap.objs.size=none:=I.hok.fresh (Qs _)
def Inv.lstM (I:Inv X pins σ H s) (g:H l=some (.lst xs)):xs.length<=sizeLine/\∃(its:List Value) (n:Nat),xi xs its/\xs.length=its.length/\s.heap.get? l=some {cls:= .type "list",data:= .seq its.toArray n}:=by
 obtain ⟨z,its,n,r,e⟩:=I.hok l _ g;exact ⟨z,its,n,r,r.length,e⟩
def GL {n:Nat} (h:n<=sizeLine):Builtin.List.listTooLong n=false:=by
 unfold Builtin.List.listTooLong;exact Tf ⋯
end
section
def Cw:V->List V->Hp->VK->Prop:=λx vs H Q=>∃l xs y,x= .ref l/\vs=[y]/\H l=some (.lst xs)/\xs.length<sizeLine/\Q .non (upd H l (.lst (xs++[y])))
def oG:MtM X "list.append" Cw:=by
 intro pins s σ H x vs v us Q I rx rv h;obtain ⟨l,xs,y,rfl,rfl,g,m,q⟩:=h;cases rx;obtain ⟨u,rfl,ru⟩:=rv.one;obtain ⟨z,its,n,r,p,e⟩:=I.lstM g;refine call_meets F.slot_list_append ⟨_,e,rfl⟩ F.entry_list_append (F.args_list_append_2 _ _) (PySem.list_append l its.toArray n u (by rw [QJ];lia)) ⟨e,?_⟩;refine ⟨.non,_,I.lset (its':=its++[u]) g e (by simp) (r.append (.cons ru .nil)) ?_,rfl,q⟩;rw [QM,jas];lia
def rCat:R2:=λx y H Q=>∃l b xs zs,x= .ref l/\y= .ref b/\H l=some (.lst xs)/\H b=some (.lst zs)/\xs.length+zs.length<=sizeLine/\∀p,H p=none->Q (.ref p) (upd H p (.lst (xs++zs)))
def op_cat:OpR X (binaryOp .Add) rCat:=by
 intro pins s σ H x y v u Q I rx ry h;obtain ⟨l,b,xs,zs,rfl,rfl,p,t,D,q⟩:=h;cases rx;cases ry;obtain ⟨z,its,n,r,G,e⟩:=I.lstM p;obtain ⟨z2,g,C,m,J,A⟩:=I.lstM t;refine PySem.P.add_list e A ?_ (by rw [QJ,QJ];lia);have w:its.toArray++g.toArray=(its++g).toArray:=by simp
 rw [w];exact ⟨.ref _,_,I.lnew (t':=s.toks) (r.append m) (by rw [QM];lia),rfl,q _ I.fresh⟩
def rRep:R2:=λx y H Q=>∃l k xs,x= .ref l/\y= .int k/\H l=some (.lst xs)/\ -(2 ^ 63)<=k/\k<2 ^ 63/\xs.length*k.toNat<=sizeLine/\
 ∀p,H p=none->Q (.ref p) (upd H p (.lst (List.replicate k.toNat xs).flatten))
def Ll {α:Type} (xs:List α) (k:Nat):(List.replicate k xs).flatten.length=k*xs.length:=by
 induction k with
 |zero=>simp
 |succ k g=>rw [TQ,jbB,QM,g,Nat.succ_mul,Nat.add_comm]
def op_rep:OpR X (binaryOp .Mult) rRep:=by
 intro pins s σ H x y v u Q I rx ry h;obtain ⟨l,k,xs,rfl,rfl,K,M,L,D,q⟩:=h;cases rx;obtain ⟨t,rfl⟩:=ry;obtain ⟨z,its,n,r,J,e⟩:=I.lstM K;have hlen:its.toArray.size*k.toNat<=sizeLine:=by rw [QJ,<-J];exact D
 have w:¬its.toArray.size*k.toNat>(2 ^ 63 - 1) / 8:=by
  have:(sizeLine:Nat)<=(2 ^ 63 - 1) / 8:=by decide
  lia
 have p:¬(!Builtin.List.listFitsIndex k)=true:=by
  rw [fitsIndex_both M L];exact Qv
 have N:¬Builtin.List.listTooLong (its.toArray.size*k.toNat)=true:=by
  rw [GL hlen];exact Qv
 have g:List.foldl (λC A=>C++A) #[] (List.replicate (if its.toArray.isEmpty=true then 0 else k.toNat) its.toArray)=(List.replicate k.toNat its).flatten.toArray:=by
  have f0:∀m:Nat,List.foldl (λC A=>C++A) #[] (List.replicate m its.toArray)=(List.replicate m its).flatten.toArray:=λm=>by
   have:=oV its m [];rw [jbx] at this;exact this
  rw [f0]
  cases its with
  |nil=>simp
  |cons a O=>rw [QI (by simp)]
 refine wpAny_binaryOp_repeat_ref (T:="list") (U:="int") nofun ⟨_,e,rfl⟩ (λG=>typeIs_int G k t) noFill_list_mul F.fills_int_mul F.slot_int_rmul repeat_list F.slot_int_index.lookup
  (call_meets F.slot_int_rmul (typeIs_int s k t) F.entry_int_rmul (F.args_int_rmul_2 _ _) (int___rmul___int_list k t l its.toArray n)
   ⟨e,rfl,⟨_,e,rfl⟩,call_meets F.slot_list_mul ⟨_,e,rfl⟩ F.entry_list_mul (F.args_list_mul_2 _ _) (AutoListH.list___mul___list_int_3 l its.toArray n k t p w N) ⟨e,?_⟩⟩)
 rw [g];exact ⟨.ref _,_,I.lnew (t':=s.toks) (r.rep k.toNat) (by rw [Ll,Nat.mul_comm];exact D),rfl,q _ I.fresh⟩
end
section
set_option maxRecDepth 100000 in
end
section
end
end L2
namespace Att
open PySem PySem.W PySem.Calls PyProof.Rows
def fF {P:Params} {h:Heap}:∀(ns:List Int) (vs:List Value),WellAll P h vs (ns.map WData.int)->IntsAre vs ns:=by
 intro ns
 induction ns with
 |nil=>
  intro vs w;rw [Tu] at w;cases w;exact .nil
 |cons n ns g=>
  intro vs w;rw [Qj] at w
  cases w with
  |cons a b=>
   cases a;exact .cons _ _ (g _ b)
def BC {l:OpenLaw} {n:Nat} (hn:l.most=some n) {P:Params} {h:Heap} {args:List WData} {vals:List Value}
 (u:l.row.toRowW.claim.pre args=true) (I:WellAll P h vals args):
 ∃a vs ns,vals=[Value.ref a]/\args=[WData.list (ns.map WData.int)]/\h.get? a=some {cls:= .type "list",data:= .seq vs.toArray}/\IntsAre vs ns/\ns.length<=n:=by
 have s:WShape.hasAll [] args [.list .int]=true:=(pre_splitW u).1;have t:l.pre.holds [] {args:=args}=true:=(pre_splitW u).2;obtain ⟨d,r,rfl,G,D⟩:=hasAllW_cons s;obtain rfl:=hasAllW_nil D;obtain ⟨xs,rfl,C⟩:=hasW_list G;obtain ⟨ns,rfl⟩:=items_int C
 have hlen:ns.length<=n:=by
  unfold OpenLaw.pre at t
  have p:(WTm.not (.lt (.lit (.int (n:Int))) (.len (.arg 0)))).holds [] {args:=[.list (ns.map .int)]}=true:=by
   have p:=(holds_andW t).1;rw [hn] at p;exact p
  have m:=condW_of p (w_not (w_lt w_lit (w_len_list (w_arg rfl))));rw [Qb] at m;refine Nat.le_of_not_lt λq=>?_;have z:(n:Int)<((ns.length:Nat):Int):=⋯
  first
   |(rw [QT z] at m;exact absurd m nofun)
   |(simp at m;lia)
 cases I with
 |cons y w=>
  cases w
  cases y with
  |list A g=>exact ⟨_,_,ns,rfl,rfl,A,fF ns _ g,hlen⟩
def Cz (l:OpenLaw) (args:List WData):l.row.toRowW.claim.post args (.bool true) args=true:=
 postW_of (r:=l.row.toRowW) (X:=(true==true))
  (show WShape.has [] (.bool true) .bool=true by first|rfl|decide|simp [WShape.has,WShape.arms,WShape.armsAll])
  (show (WTm.eq .res (.lit (.bool true))).value [] {args:=args,res:=some (.bool true),after:=args}=some (.bool (true==true)) from w_eq_bool (w_res rfl) w_lit) rfl
def attach_call {l:OpenLaw} {n:Nat} {q:Program} {loose:List Str} {u:(Str->Option Value)->Heap->Prop} {t:World->Heap->Prop} {d:DefRec}
 (hn:l.most=some n) (I:d.params.defaults=[])
 (call:∀(w:World) (s₀ s₁:Shared) (mg p:Str->Option Value) (g:Addr) (o:Obj) (pm cd doc:Value) (a:Addr) (vs:List Value) (ns:List Int),
  Ground q loose [] u w s₀ mg p s₁.heap->t w s₁.heap->
  s₁.heap.get? g=some o->o.data= .func (docDef d.name d.params d.body d.scope pm cd doc)->s₁.heap.CodeRec cd d.name->mg d.name=some (.ref g)->
  s₁.heap.get? a=some {cls:= .type "list",data:= .seq vs.toArray}->IntsAre vs ns->ns.length<=n->s₁.gens=#[]->
  codeAny (model l.prog w) callerA (.call (.ref g) ⟨[.ref a],[]⟩) (λr m=>r= .ok (.ret (.bool true))/\OldK s₁.heap m.heap/\m.os=s₁.os/\AllBare m.gens) s₁):
 WalkO q loose u t l.row.toRowW d [] (λf vs=>PySem.call f vs):=by
 intro w s₀ s₁ mg p G Y g o pm cd doc dV kV ho hd NH hD Sm hg args vals as Pp hlay hrd SY hlo;obtain rfl:dV= .none:=Dflts.none hD I;obtain rfl:kV= .none:=Dflts.noKw hD;obtain ⟨a,vs,ns,rfl,rfl,D,hints,hlen⟩:=BC hn Pp SY;refine enter_call (jbS (call w s₀ s₁ mg p g o pm cd doc a vs ns G Y ho (fd_plain hd) NH Sm D hints hlen hg) λr m y=>?_);obtain ⟨rfl,C,A,z⟩:=y;exact ⟨.inl ⟨.bool true, .bool true,[],rfl,λ_=>rfl, .bool true,Cz l _,λ_=>⟨List.Pairwise.nil,λ_ hm=>(nomatch hm)⟩⟩,C,A,z⟩
section
def ledger (h:Heap) (L d:Addr):List (Addr×Obj):=(List.range h.objs.size).filterMap λa=>if a=L\/a=d then none else (h.get? a).map λo=>(a,o)
end
end Att
namespace L2
open PySem PySem.Spec PyProof.Rows
theorem nh:∀{vs:List Value} {ns:List Int},IntsAre vs ns->xi (ns.map V.int) vs
 |_,_, .nil=> .nil
 |_,_, .cons n t h=> .cons ⟨t,rfl⟩ (nh h)
def Only (H:Hp):Prop:=∀b,H b=none\/∃o xs,H b=some (.frz o (.lst xs))
def Hk {P:Program} {w:World} {K:Frg} {mg I:Str->Option Value} {CX:CXT} {k:Nat} {M a:Addr} {fd:FuncData} {x:Str} {sp:Sp} {s₁:Shared} {vs:List Value} {ns:List Int}
 (KX:K.In s₁.heap) (OW:s₁.heap.Ns mainGlobals mg) (p:s₁.heap.Ns builtinsNs I) (J:∀x:Str,x≠"__name__"->I x=bootBuiltins x) (C:s₁.heap.NoLimit) (hg:s₁.gens=#[])
 (ha:s₁.heap.get? a=some {cls:= .type "list",data:= .seq vs.toArray}) (U:IntsAre vs ns) (T:ns.length<=sizeLine) (hr:Room k callerA)
 (F:∀base:Heap,K.In base->base.Ns mainGlobals mg->FnOk P w K mg base CX k M fd [x] sp) (SE:∀(s:Shared) (u:Value),BindsTo s fd ⟨[u],[]⟩ [(x,u)])
 (Pz:∀H:Hp,Only H->SqL K H a (ns.map V.int)->sp [.ref a] H (λv _=>v= .bl true) λ_ _ _=>False)
 (L:∀H e t,CX [] H s₁ (λ_ _ _=>False) e t->False):
 codeAny (model P w) callerA (.call (.ref M) ⟨[.ref a],[]⟩) (λr t=>r= .ok (.ret (.bool true))/\OldK s₁.heap t.heap/\t.os=s₁.os/\AllBare t.gens) s₁:=by
 have O:=nh U;have lenV:=U.length
 have core:∀H:Hp,Only H->SqL K H a (ns.map V.int)->HOk P w H s₁.heap->(∀b,H b≠none->b=a)->(H a≠none->K.lookup a=none)->
  codeAny (model P w) callerA (.call (.ref M) ⟨[.ref a],[]⟩) (λr t=>r= .ok (.ret (.bool true))/\OldK s₁.heap t.heap/\t.os=s₁.os/\AllBare t.gens) s₁:=by
  intro H X hS hok Y hK;have g:∀{b:Addr} {o:Obj},s₁.heap.get? b=some o->H b=none->(Hy s₁.heap H).get? b=some o:=λe n=>Hx e n
  have G:∀{b:Addr} {o:Obj} {es:Array DictEntry} {ep:Nat},s₁.heap.get? b=some o->o.data= .dict es ep->H b=none:=λ{b o es ep} e d=>by
   cases q:H b with
   |none=>rfl
   |some u=>
    have N:b=a:=Y b (by rw [q];simp);subst N;rw [ha] at e;cases e;have d':Data.seq vs.toArray _=Data.dict es ep:=d;cases d'
  have y:∀{b:Addr} {m:Str->Option Value},s₁.heap.Ns b m->(Hy s₁.heap H).Ns b m:=λ{b m} ⟨o,es,ep,e,d,r⟩=>⟨o,es,ep,g e (G e d),d,r⟩
  have D:K.In (Hy s₁.heap H):=λb o e=>g (KX b o e) (by
   cases q:H b with
   |none=>rfl
   |some u=>
    have N:b=a:=Y b (by rw [q];simp);subst N
    rw [hK (by rw [q];simp)] at e;cases e)
  have hM:Mod K mg (Hy s₁.heap H):=⟨D,y OW,⟨I,y p,J⟩,let ⟨mc,h1,h2⟩:=C;⟨mc,y h1,h2⟩⟩;have e0:Env0 P w K mg (Hy s₁.heap H) callerA [] s₁ H:=⟨rfl,hM,λb o e=>La e,Nat.le_of_eq (DK _ _),trivial,λb p=>absurd (show b∈([]:List Addr) from p) (by simp),hok, .of_eq hg⟩;refine jbS ((F _ D (y OW)).run callerA [] s₁ H ⟨[.ref a],[]⟩ [.ref a] [.ref a] _ _ hr e0 (SE s₁ (.ref a)) (.cons rfl .nil) (Pz H X hS)) λr t h=>?_
  cases r with
  |error e=>exact (L H e t h).elim
  |ok fl=>
   cases fl with
   |next=>exact False.elim h
   |brk=>exact False.elim h
   |cont=>exact False.elim h
   |ret u=>
    obtain ⟨v,H',os,bare,un,OV,r',q⟩:=h;have q':v= .bl true:=q;subst q';obtain rfl:u=Value.bool true:=r';refine ⟨rfl,OldK.of_keep λb o e=>?_,os,bare⟩
    cases q:H b with
    |none=>exact un.keep b o e q (by intro z;exact absurd (show b∈([]:List Addr) from z) (by simp)) (by simp)
    |some u=>
     rcases X b with z|⟨ob,xs,z⟩
     ·rw [q] at z;cases z
     ·have z2:=un.frzs b ob _ z;obtain ⟨Z,_⟩:=hok b _ z;obtain ⟨e2,_⟩:=OV b _ z2;rw [e] at Z;cases Z;exact e2
 cases hk:K.lookup a with
 |some o=>
  have e:=KX a o hk;rw [ha] at e;cases e;refine core (λ_=>none) (λ_=> .inl rfl) (.inr ⟨_,vs.toArray,_,hk,rfl,rfl,rfl,by rw [QJ,lenV];exact T,by simpa using O⟩) (λb u z=>by have A:(none:Option HO)=some u:=z;cases A) (λb z=>absurd rfl z) λz=>absurd rfl z
 |none=>
  refine core (λb=>if b=a then some (.frz {cls:= .type "list",data:= .seq vs.toArray} (.lst (ns.map V.int))) else none) (λb=>?_) (.inl (.inr ⟨{cls:= .type "list",data:= .seq vs.toArray},QD rfl⟩)) (λb u z=>?_) (λb z=>?_) λ_=>hk
  ·by_cases p:b=a
   ·exact .inr ⟨_,_,QD p⟩
   ·exact .inl (QI p)
  ·by_cases p:b=a
   ·have A:=(QD p).symm.trans z;cases A;subst p;exact ⟨ha,by rw [Qb];exact T,vs,_,O,ha⟩
   ·have A:=(QI p).symm.trans z;cases A
  ·by_cases p:b=a
   ·exact p
   ·exact absurd (QI p) z
def JD {l:PySem.W.OpenLaw} {n k:Nat} {q:Program} {loose:List Str} {J:(Str->Option Value)->Heap->Prop} {t:World->Heap->Prop} {d:DefRec} {K:Params->Frg} {CX:World->CXT} {sp:World->Sp} {x:Str}
 (hn:l.most=some n) (M:n<=sizeLine) (N:d.params.defaults=[]) (hr:Room k callerA)
 (A:∀(w:World) (h:Heap),t w h->(K w.params).In h)
 (F:∀(w:World) (mg:Str->Option Value) (m:Addr) (h:Heap),(K w.params).In h->h.Ns mainGlobals mg->mg d.name=some (.ref m)->
  ∃fd:FuncData,(∀(s:Shared) (u:Value),BindsTo s fd ⟨[u],[]⟩ [(x,u)])/\
   ∀base:Heap,(K w.params).In base->base.Ns mainGlobals mg->FnOk l.prog w (K w.params) mg base (CX w) k m fd [x] (sp w))
 (L:∀(w:World) (H:Hp) (a:Addr) (ns:List Int),ns.length<=n->Only H->SqL (K w.params) H a (ns.map V.int)->sp w [.ref a] H (λv _=>v= .bl true) λ_ _ _=>False)
 (r:∀(w:World) (H:Hp) (s:Shared) (e:Value) (p:Shared),CX w [] H s (λ_ _ _=>False) e p->False):
 PySem.W.WalkO q loose J t l.row.toRowW d [] (λf vs=>PySem.call f vs):=by
 refine Att.attach_call hn N λw s₀ s₁ mg mb m o pm cd doc a vs ns G Y ho hd NH Sm Ri hints hlen hg=>?_;have y:=A w _ Y;obtain ⟨fd,z,I⟩:=F w mg m _ y G.T.g Sm;exact Hk y G.T.g G.T.b G.T.builtins G.T.nolimit hg Ri hints (QP hlen M) hr I z (λH D C=>L w H a ns hlen D C) λH e p=>r w H s₁ e p
def xx (s:Stmt) (j:Nat):Stmt:=match s with
 | .ClassDef _ _ _ body _ _ _ _ _ _ _=>body.getD j (.Pass ⟨0,0,0,0⟩)
 |_=> .Pass ⟨0,0,0,0⟩
def ZD (s:Stmt):Arguments:=match s with
 | .FunctionDef _ a _ _ _ _ _ _ _ _=>a
 |_=>{posonlyargs:=[],args:=[],vararg:=none,kwonlyargs:=[],kw_defaults:=[],kwarg:=none,defaults:=[]}
def xY (s:Stmt):List Stmt:=match s with
 | .FunctionDef _ _ b _ _ _ _ _ _ _=>b
 |_=>[]
def zh (s:Stmt):Scope:=match s with
 | .FunctionDef _ _ _ _ _ _ sc _ _ _=>sc
 |_=>{kind:= .function,names:=[],isGenerator:=false,isCoroutine:=false}
abbrev CX0:CXT:=λ_ _ _ _ _ _=>False
abbrev E0:XK:=λ_ _ _=>False
def pass0 {X:Cx}:WT CX0 X E0:=λ_ _ _ _ _ _ _ h=>h.elim
structure Fun (K:Frg) (x qual:Str) (st:Stmt) (f:Addr) (fd:FuncData):Prop where
 ex:∃(oc:Value) (od:Option Addr) (kV doc pm:Value) (an:Option Addr) (NA ct:Value) (osl:Array (Option Value)),
  fd=PySem.W.fnOf x qual (ZD st) (xY st) (zh st) .none kV doc pm an NA ct/\K.lookup f=some ⟨oc,od, .func fd,osl⟩/\PySem.W.codeIn K NA qual=true
 kp:PySem.W.keepIn K (.ref f)=true
section
variable {P:Program} {w:World} {K:Frg} {mg:Str->Option Value} {base:Heap}
def Fun.ok {x qual:Str} {st:Stmt} {f:Addr} {fd:FuncData} {N ps:List Str} {k:Nat} {sp:Sp} (F:Fun K x qual st f fd) (S:FnScope N ps (zh st)) (len:∀vs H Q E,sp vs H Q E->vs.length=ps.length)
 (r:∀(g:Value) (A:Around) (outer:List Env) (s:Shared) (H:Hp) (vs:List V) (Q:VK) (E:XK),Room k (A.deeper (envOfC qual (zh st) s.heap.objs.size f g))->sp vs H Q E->
  ∃t,PSs (Jd CX0 P w K mg base N qual (zh st) f g A outer s H E).nox (xY st) t/\t {nx:=λ_ H'=>Q .non H',rt:=Q} (kh N vs) H):FnOk P w K mg base CX0 (k+1) f fd ps sp:=by
 obtain ⟨z,y,kV,doc,pm,an,g,ct,m,rfl,lk,u⟩:=F.ex;refine fn_of lk u S len λA outer s H vs Q E hr p=>?_;obtain ⟨t,h,q⟩:=r g A outer s H vs Q E hr p;exact ⟨t,h.nox,q⟩
def Fun.binds {x qual:Str} {st:Stmt} {f:Addr} {fd:FuncData} {ps:List Str} (F:Fun K x qual st f fd)
 (h:∀(kV doc pm:Value) (an:Option Addr) (g ct:Value) (us:List Value),us.length=ps.length->bindArgs (PySem.W.fnOf x qual (ZD st) (xY st) (zh st) .none kV doc pm an g ct) ⟨us,[]⟩=pure (ps.zip us)):yp K fd ps []:=by
 obtain ⟨q,p,kV,doc,pm,an,g,ct,m,rfl,lk,r⟩:=F.ex;exact .all (h kV doc pm an g ct)
def oU {x qual:Str} {st:Stmt} {f:Addr} {q:Value} {p an:Option Addr} {g:Array (Option Value)} {kV doc pm m ct:Value} (l:K.lookup f=some ⟨q,p, .func (PySem.W.fnOf x qual (ZD st) (xY st) (zh st) .none kV doc pm an m ct),g⟩)
 (c:PySem.W.codeIn K m qual=true) (k:PySem.W.keepIn K (.ref f)=true):Fun K x qual st f (PySem.W.fnOf x qual (ZD st) (xY st) (zh st) .none kV doc pm an m ct):=⟨⟨q,p,kV,doc,pm,an,m,ct,g,rfl,l,c⟩,k⟩
end
def YM {n:Nat} (h:n<=1000):n<sizeLine:=Nat.lt_of_le_of_lt h nofun
section
def pv (i:Nat) {x:Str} {pos:Pos} (m:X.N[i]? =some x:=by rfl) (g:Vis X.env.scope x:=by walk_at "v") (hd:(x==("__debug__":Str))=false:=by decide)
 (p:(x==("__classdict__":Str))=false:=by decide):PE X (.Name x pos) (tVar i):=pe_var m g hd p
end
def iteF {A B:Prop} (h:B):if false=true then A else B:=by
 rw [QI Qv];exact h
def iteT {A B:Prop} (h:A):if true=true then A else B:=by
 rw [QD rfl];exact h
def iG {c A B:Prop} [Decidable c] (g:c) (h:B):if (!decide c)=true then A else B:=by
 rw [QT g];exact iteF h
def zG (H H':Hp):Prop:=∀b o,H b=some o->H' b=some o
def zG.refl (H:Hp):zG H H:=λ_ _ h=>h
def zG.trans {H H1 g:Hp} (a:zG H H1) (b:zG H1 g):zG H g:=λc o h=>b c o (a c o h)
def zG.free {H H':Hp} (e:zG H H') {l:Addr} (h:H' l=Option.none):H l=Option.none:=by
 cases q:H l with
 |none=>rfl
 |some o=>
  rw [e l o q] at h;cases h
def zG.seq {K:Frg} {H H':Hp} {a:Addr} {xs:List V} (e:zG H H') (h:SqL K H a xs):SqL K H' a xs:=by
 rcases h with (h|⟨o,h⟩)|h
 ·exact .inl (.inl (e _ _ h))
 ·exact .inl (.inr ⟨o,e _ _ h⟩)
 ·exact .inr h
end L2
namespace L2
open PySem PySem.W PySem.Spec PySem.Calls PyProof.Rows
section
theorem qi:∀{ys:List Str} {us:List Value},xi (ys.map V.str) us->∃l,us=strValues l/\l.map (·.1)=ys
 |[],us,r=>by
  rw [Tu] at r;cases r;exact ⟨[],rfl,rfl⟩
 |y::ys,us,r=>by
  rw [Qj] at r
  cases r with
  |cons m g=>
   obtain ⟨t,rfl⟩:=m;obtain ⟨l,rfl,h⟩:=qi g;exact ⟨(y,t)::l,rfl,by rw [Qj,h]⟩
def rJoin (K:Frg):V->List V->Hp->VK->Prop:=λx xs H Q=>∃sep p ys,x= .str sep/\xs=[.ref p]/\SqL K H p (ys.map V.str)/\JoinOk sep ys=true/\Q (.str (Txt.join sep ys)) H
def mt_join:MtR X "str.join" (rJoin X.K):=by
 intro pins s σ H x xs v us Q I rx r h;obtain ⟨sep,p,ys,rfl,rfl,w,hok,q⟩:=h;obtain ⟨t,rfl⟩:=(show ∃t,v=Value.str sep t from rx);obtain ⟨u,rfl,m⟩:=ae r;cases (show u=Value.ref p from m);obtain ⟨its,g,pl,_⟩:=I.list w;obtain ⟨l,rfl,y⟩:=qi g;exact SC.join pl.isList y hok λt' k=>⟨.str (Txt.join sep ys),H,I.tok k,⟨_,rfl⟩,q⟩
def pe_ccall (G:Gl X c) (hm:X.mg c=some (.ref C))
 (z:specialIn X.K (.ref C) "__getattribute__"=some (some (.builtin "type.__getattribute__"))) (g:readsIn X.K C (.type "type")=true) (hf:findCls X.K (.ref C) (.type "type") m=some (.val (.ref f)))
 (F:FnOk X.prog X.w X.K X.mg X.base CX k f fd ps sp) (hr:Room k X.A) (D:PySem.W.keepIn X.K (.ref f)=true) (J:yp X.K fd ps []) (y:WT CX X E) (ha:PA X (e::es) t)
 (hd:(c==("__debug__":Str))=false:=by decide) (M:starEach (e::es) X.env=(false,eval e X.env)::starEach es X.env:=by rfl) (L:(backTo pos (starEach es X.env)).any (·.1)=false:=by rfl)
 (ht:eval (.Call (.Attribute (.Name c p) m apos) (e::es) [] pos) X.env=(do
  let ov<-eval (.Name c p) X.env
  standAt apos.atName
  let (f,first)<-holding [ov] (getMethod ov m pl)
  callWith pos f first (backTo pos (starEach (e::es) X.env)) (backToKw pos (keywordEach [] X.env))):=by rfl):
 PE X (.Call (.Attribute (.Name c p) m apos) (e::es) [] pos) (vD sp [] E t):=by
 intro pins s σ H Q I h;refine PySem.W.methodCall_KW (fA I G hm ?_ hd) ht;refine method_cls I.kIn z (cls_value I.kIn g hf rfl ?_);have N:=I.tok (s.toks+1);refine jbr I.ok.mod.kin D (thn (ha pos pins _ σ H _ N h) ?_) M L;rintro us s2 ⟨vs,O,q,r,u⟩;refine ⟨q.kIn,?_⟩;exact nO F hr J .nil y q r u
def Iw (K:Frg) (m:Str) (f:Addr) (sp:Sp) (E:XK) (g:TE):TE:=λσ H Q=>g σ H λx H1=>∃a C p fs,x= .ref a/\H1 a=some (.ins C p fs)/\Cls K C/\Meth K C m f/\fs.lookup m=none/\sp [x] H1 Q E
def pe_methA (he:PE X e te) (F:FnOk X.prog X.w X.K X.mg X.base CX k f fd ps sp) (hr:Room k X.A) (y:yp X.K fd ps []) (r:WT CX X E)
 (ht:eval (.Call (.Attribute e m apos) [] [] pos) X.env=(do
  let ov<-eval e X.env
  standAt apos.atName
  let (f,first)<-holding [ov] (getMethod ov m pl)
  callWith pos f first (backTo pos (starEach [] X.env)) (backToKw pos (keywordEach [] X.env))):=by rfl):
 PE X (.Call (.Attribute e m apos) [] [] pos) (Iw X.K m f sp E te):=by
 intro pins s σ H Q I h;refine PySem.W.methodCall_KW (thn (he pins s σ H _ I h) λu s1 t=>?_) ht;obtain ⟨x,H1,g,p,a,C,D,fs,ex,z,c,k,l,q⟩:=t;subst ex;cases (show u=Value.ref a from p);refine aT g z c k l ?_;exact PySem.W.callWith_K0 (first:=[.ref a]) g.kIn k.kp (nO (us:=[.ref a]) (vs:=[.ref a]) F hr y .nil r g (.cons rfl .nil) q)
end
end L2
namespace L2
open PySem PySem.W PySem.Spec PySem.Calls PyProof.Rows Builtin
section
def rSlS:V->Option Int->Option Int->Hp->VK->Prop:=λx lo g H Q=>∃z,x= .str z/\z.length<=sizeLine/\Q (.str (Txt.slice z lo g)) H
def sl_str:SlR X rSlS:=by
 intro pins s σ H x v vl vu lo hi sl Q I rx hs pl pu h;obtain ⟨z,rfl,m,q⟩:=h;obtain ⟨t,rfl⟩:=(show ∃t,v=Value.str z t from rx);refine ⟨"str",_,F.slot_str_getitem.lookup,typeIs_str _ _ _,?_⟩;have fin:∀t' k,EP X pins σ Q (.str (Txt.slice z lo hi) t') {s with toks:=k}:=λt' k=>⟨.str (Txt.slice z lo hi),H,I.tok k,⟨_,rfl⟩,q⟩;have g:=QP (Txt.slice_le z lo hi) m;cases pl<;>cases pu
 ·exact wpAny_getItem_str_slice (l:=none) (u:=none) (st:=none) hs rfl (post_val_or_str ⟨g,fin⟩)
 ·exact wpAny_getItem_str_slice (l:=none) (u:=some (_,_)) (st:=none) hs rfl (post_val_or_str ⟨g,fin⟩)
 ·exact wpAny_getItem_str_slice (l:=some (_,_)) (u:=none) (st:=none) hs rfl (post_val_or_str ⟨g,fin⟩)
 ·exact wpAny_getItem_str_slice (l:=some (_,_)) (u:=some (_,_)) (st:=none) hs rfl (post_val_or_str ⟨g,fin⟩)
def Its (z:Str):It:=⟨λi _=>i<z.cps.size,λi H x H'=>H'=H/\∃c,z.cps[i]? =some c/\x= .str ⟨#[c]⟩,λi _=>z.cps.size<=i⟩
def FA {P:Program} {w:World} {K:Frg} {y:Expr} (z:Str) (t:Tok) (it:Addr):Turn P w K y (Its z) [it] it (λi h=>h.IsStrIter it "str_ascii_iterator" z t i) where
 mem:=by simp
 obj:=λi h st b g=>by
  have e:b=it:=by simpa using g
  subst e;obtain ⟨o,e,c,d⟩:=st;exact ⟨o,e,λv z=>by rw [d] at z;cases z⟩
 keep:=λi h h' st k=>let ⟨o,A,r⟩:=st;⟨o,k it (by simp) o A,r⟩
 item:=by
  intro X hP hw hK hc i pins s σ H E I hf st hg;subst hP hw hK;have m:i<z.cps.size:=hg;obtain ⟨f0,f1,f2,q,f4,p⟩:=hf it (by simp);refine wpAny_pyNext_ascii_item st (c:=z.cps[i]) (by simp [m]) λh' u sb=>?_;have D:Inv X pins σ H {s with heap:=h',toks:=s.toks+1}:=I.turned (λb o g e=>(sb.2 b g).trans e) f0 f1 q f4 p;obtain ⟨o,e,c,d⟩:=id u;exact ⟨_,rfl,DM e c d nofun ⟨.str ⟨#[z.cps[i]]⟩,H,D,⟨_,rfl⟩,⟨rfl,z.cps[i],by simp [m],rfl⟩,u,λb g=>(hf b g).1⟩⟩
 done:=by
  intro X hP hw hK hc i pins s σ H E I hf st hg;subst hP hw hK;have m:z.cps.size<=i:=hg;obtain ⟨f0,f1,f2,q,f4,p⟩:=hf it (by simp);exact wpAny_pyNext_ascii_end (I.ok.hd hc) st (by simp [m]) λh' C=>⟨rfl,I.turned (λb o g e=>C b o g e) f0 f1 q f4 p⟩
 self:=λ_ _ _ _ _ st h=>wpAny_pyIter_striter_ascii st h
def iStr (g:TE):TI:=λσ H R=>g σ H λx H1=>∃z,x= .str z/\z.cps.all (·<128)=true/\R (Its z) H1
def pi_str (r:PE X e te):PI X tg e (iStr te):=by
 intro pins s σ H R I h;refine thn (r pins s σ H _ I h) λv s1 u=>?_;obtain ⟨x,H1,g,m,p⟩:=u;obtain ⟨z,ex,ha,q⟩:=p;subst ex;obtain ⟨t,rfl⟩:=(show ∃t,v=Value.str z t from m);refine wpAny_pyIter_ascii ha ?_;refine ⟨s1.heap.objs.size,[s1.heap.objs.size],_,_,H1,rfl,g.kept λb o e=>Qi _ e,FA z t _,⟨_,Qu _ rfl,rfl,rfl⟩,λb w=>?_,q⟩;have e:b=s1.heap.objs.size:=by simpa using w
 subst e;exact g.fpOk (Qs _) (g.hok.fresh (Qs _))
def Kw (K:Frg):V->List V->Hp->VK->Prop:=λx xs H Q=>∃(p:Addr) (ys:List Str) (z:Str) (j:Nat),x= .ref p/\xs=[.str z]/\SqT K H p (ys.map V.str)/\ys[j]? =some z/\(∀m,m<j->ys[m]? ≠some z)/\Q (.int (j:Nat)) H
def rM {prog:Program} {w:World} {A:Around} {E:Value->Shared->Prop} {z:Str} {t:Tok} {l:List (Str×Tok)} {j:Nat} {R:Option PySem.Fin×Unit->Shared->Prop} {f:Nat->Option PySem.Fin×Unit->Sem (ForInStep (Option PySem.Fin×Unit))} (p:(l.map (·.1))[j]? =some z) (D:∀m,m<j->(l.map (·.1))[m]? ≠some z)
 (hf:∀(i:Nat) (g:i<l.length) (st:Option PySem.Fin×Unit),f i st=(do
  let b<-eqBool (.str l[i].1 l[i].2) (.str z t)
  if b=true then do
   let r<-retInt (i:Nat)
   pure (ForInStep.done (some r,()))
   else pure (ForInStep.yield (none,())))):
 ∀(k i:Nat) (s:Shared),i+k=l.length->i<=j->(∀tk,R (some (.done (.ret (.int (j:Nat) s.toks))),()) {s with toks:=tk})->wpAny (model prog w) A (forIn (List.range' i k) ((none,()):Option PySem.Fin×Unit) f) R E s:=by
 intro k
 induction k with
 |zero=>
  intro i s C y _;have:=(Qf.mp p).1;rw [Qb] at this;lia
 |succ k u=>
  intro i s C y q;have g:i<l.length:=⋯
  rw [List.range'_succ,List.forIn_cons,hf i g];refine Qc (Qc (PyProof.Rows.eqBool_str ?_))
  by_cases I:i=j
  ·subst I
   have ez:l[i].1=z:=by
    rw [Qh,Qa g] at p;exact Qw p
   rw [QD (by rw [ez];exact beq_self_eq_true z)]
   wp_walk
   exact q _
  ·have G:(l[i].1==z)=false:=by
    refine jaV.mpr λez=>D i ⋯ ?_;rw [Qh,Qa g];exact congrArg some ez
   rw [QI (by rw [G];exact Qv)];refine Ql ?_;exact u (i+1) s ⋯ ⋯ q
def mt_indexT:MtR X "tuple.index" (Kw X.K):=by
 intro pins s σ H x xs v us Q I rx r h;obtain ⟨p,ys,z,j,rfl,rfl,A,C,N,q⟩:=h;cases (show v=Value.ref p from rx);obtain ⟨u,rfl,y⟩:=ae r;obtain ⟨t,rfl⟩:=(show ∃t,u=Value.str z t from y);obtain ⟨its,w,ht,O⟩:=I.tuple A;obtain ⟨l,rfl,g⟩:=qi w;have m:s.heap.IsTuple p (strValues l).toArray:=ht;refine wpAny_call (codeAny_call_builtin PySem.F.slot_tuple_index.plain PySem.F.entry_tuple_index (PySem.F.slot_tuple_index.check _ _ _ _ _ _ _ _ m.typeIs (PySem.F.args_tuple_index_2 _ _) ?_));unfold Builtin.«tuple.index»;obtain ⟨o,J,P,n,G⟩:=id m
 wp_walk using jbj J
 rw [G];refine Ql (Ql ?_);dsimp only;refine Qc (Ql (Qc (Ql ?_)));refine Qc ?_;rw [Std.Legacy.Range.forIn_eq_forIn_range',Tv];have M:(strValues l).toArray.size=l.length:=by simp [strValues]
 have L:List.range' 0 (Std.Legacy.Range.size [:(strValues l).toArray.size]) 1=List.range' 0 l.length:=by rw [M];simp [Std.Legacy.Range.size]
 show wpAny _ _ (forIn (List.range' 0 (Std.Legacy.Range.size [:(strValues l).toArray.size]) 1) _ _) _ _ _;rw [L]
 refine rM (by rw [g];exact C) (by rw [g];exact N) (λi D st=>by
  have e:(strValues l).toArray[i]? =some (.str l[i].1 l[i].2):=by simp [strValues,D]
  rw [e]) l.length 0 _ ⋯ (jab _) λtk=>?_
 exact Ql ⟨.int (j:Nat),H,I.tok tk,⟨_,rfl⟩,q⟩
end
end L2
namespace S
open PySem PySem.Spec PyProof.Rows L2
def Sz (n:Nat) (x:Int):Prop:=x.natAbs<2 ^ n
def Sz.mono (h:Sz m x) (l:m<=n):Sz n x:=QX h (Nat.pow_le_pow_right nofun l)
def Sz.bits (h:Sz n x):Builtin.Int.intBits x<=n:=intBits_le_iff.mpr h
def Sz.of (h:Builtin.Int.intBits x<=n):Sz n x:=intBits_le_iff.mp h
def Sz.mulOk (h:Sz m x) (g:Sz n y) (l:m+n<=134217728):IntMulOk x y:=IntMulOk.of_le h.bits g.bits l
def Sz.mul (h:Sz m x) (g:Sz n y):Sz (m+n) (x*y):=Sz.of (intBits_mul_le h.bits g.bits)
def Sz.add (h:Sz n x) (g:Sz n y):Sz (n+1) (x+y):=Sz.of (QP (intBits_add_le h.bits g.bits) ⋯)
def Sz.sub (h:Sz n x) (g:Sz n y):Sz (n+1) (x - y):=Sz.of (QP (intBits_sub_le h.bits g.bits) ⋯)
def Sz.le (h:Sz n x) (l:y.natAbs<=x.natAbs):Sz n y:=Nat.lt_of_le_of_lt l h
def Sz.log (h:Sz n x) (l:n<=8999):x.natAbs.log2<9000:=by
 by_cases h0:x.natAbs=0
 ·rw [h0];decide+kernel
 ·have:=(Nat.log2_lt h0).mpr (Sz.mono h l);lia
section
def op_mulB:OpR X (binaryOp .Mult) (rI IntMulOk λi j=> .int (i*j)):=opI λ_ _ _ _ _ _ _ g q=>mul_int q g
def CDv (_ j:Int):Prop:=j≠0/\Sz 8999 j
def op_fdivB:OpR X (binaryOp .FloorDiv) (rI CDv λi j=> .int (i.fdiv j)):=opI λi j _ _ _ _ _ g q=>
 floordiv_int g.1 q (.inl (PyProof.noPylong_of_log2 (g.2.log (Qs _))))
end
mutual
def Is (H:Hp):PyData->V->Prop
 | .none,v=>v= .non
 | .bool b,v=>v= .bl b
 | .int i,v=>v= .int i
 | .str x,v=>v= .str x
 | .list xs,v=>∃p vs,v= .ref p/\H p=some (.lst vs)/\zC H xs vs
 | .tuple xs,v=>∃p vs,v= .ref p/\H p=some (.tup vs)/\zC H xs vs
 | .dict g,v=>Fb H g v
def zC (H:Hp):List PyData->List V->Prop
 |[],vs=>vs=[]
 |x::xs,vs=>∃v r,vs=v::r/\Is H x v/\zC H xs r
def Fb (H:Hp):List (PyData×PyData)->V->Prop
 |[(c,x)],v=>∃(p C g:Addr) (w:V),c= .int ((C:Nat):Int)/\v= .ref p/\H p=some (.ins C g [("form",w)])/\Is H x w
 |_,_=>False
end
mutual
theorem Is.mono (e:zG H H'):∀(d:PyData) (v:V),Is H d v->Is H' d v
 | .none,v,h=>by simpa only [Is] using h
 | .bool b,v,h=>by simpa only [Is] using h
 | .int i,v,h=>by simpa only [Is] using h
 | .str x,v,h=>by simpa only [Is] using h
 | .list xs,v,h=>by
   rw [Is] at h⊢;obtain ⟨p,vs,r,q,m⟩:=h;exact ⟨p,vs,r,e _ _ q,zC.mono e xs vs m⟩
 | .tuple xs,v,h=>by
   rw [Is] at h⊢;obtain ⟨p,vs,r,q,m⟩:=h;exact ⟨p,vs,r,e _ _ q,zC.mono e xs vs m⟩
 | .dict g,v,h=>by
   rw [Is] at h⊢;exact Fb.mono e g v h
theorem Fb.mono (e:zG H H'):∀(d:List (PyData×PyData)) (v:V),Fb H d v->Fb H' d v
 |[],v,h=>by rw [Fb] at h;exact h.elim;simp
 |[(c,x)],v,h=>by
  rw [Fb] at h⊢;obtain ⟨p,C,s,w,r,q,m,g⟩:=h;exact ⟨p,C,s,w,r,q,e _ _ m,Is.mono e x w g⟩
 |_::_::_,v,h=>by rw [Fb] at h;exact h.elim;simp
theorem zC.mono (e:zG H H'):∀(d:List PyData) (v:List V),zC H d v->zC H' d v
 |[],v,h=>by rw [zC] at h⊢;exact h
 |x::xs,v,h=>by
  rw [zC] at h⊢;obtain ⟨v,r,p,m,g⟩:=h;exact ⟨v,r,p,Is.mono e x v m,zC.mono e xs r g⟩
end
def zG.new (h:H p=none) (o:HO):zG H (upd H p o):=λb u q=>by rw [zP (zU q h)];exact q
section
mutual
theorem Is.reads (I:Inv X pins σ H s):∀(d:PyData) (v:V) (u:Value),d.canLay0=true->Is H d v->Zw v u->∃as,Reads s.heap u d as
 | .none,v,u,lay,h,r=>by rw [Is] at h;subst h;cases (show u=Value.none from r);exact ⟨_, .none⟩
 | .bool b,v,u,lay,h,r=>by rw [Is] at h;subst h;cases (show u=Value.bool b from r);exact ⟨_, .bool b⟩
 | .int i,v,u,lay,h,r=>by rw [Is] at h;subst h;obtain ⟨t,rfl⟩:=(show ∃t,u=Value.int i t from r);exact ⟨_, .int i t⟩
 | .str x,v,u,lay,h,r=>by rw [Is] at h;subst h;obtain ⟨t,rfl⟩:=(show ∃t,u=Value.str x t from r);exact ⟨_, .str x t⟩
 | .list xs,v,u,lay,h,r=>by
   rw [Is] at h;obtain ⟨p,vs,z,y,m⟩:=h;subst z;cases (show u=Value.ref p from r);obtain ⟨_,its,n,g,hp⟩:=(show Yg X.prog X.w H s.heap p (.lst vs) from I.hok p _ y);obtain ⟨as,q⟩:=zC.reads I xs vs its (by rw [PyData.canLay0] at lay;exact lay) m g;exact ⟨_, .list hp rfl rfl ‹q›⟩
 | .tuple xs,v,u,lay,h,r=>by
   rw [Is] at h;obtain ⟨p,vs,z,y,m⟩:=h;subst z;cases (show u=Value.ref p from r);obtain ⟨_,its,g,hp⟩:=(show Yg X.prog X.w H s.heap p (.tup vs) from I.hok p _ y);obtain ⟨o,D,C,n,A⟩:=hp;obtain ⟨as,q⟩:=zC.reads I xs vs its (by rw [PyData.canLay0] at lay;exact lay) m g;exact ⟨_, .tuple D C A ‹q›⟩
 | .dict _,v,u,lay,h,r=>by rw [PyData.canLay0] at lay;cases lay
theorem zC.reads (I:Inv X pins σ H s):∀(d:List PyData) (v:List V) (u:List Value),PyData.canLayAll0 d=true->zC H d v->xi v u->∃as,ReadsAll s.heap u d as
 |[],v,u,lay,h,r=>by rw [zC] at h;subst h;cases xi.zero r;exact ⟨_, .nil⟩
 |x::xs,v,u,lay,h,r=>by
  rw [PyData.canLayAll0,TF] at lay;rw [zC] at h;obtain ⟨v,w,z,y,t⟩:=h;subst z
  cases r with
  |cons m g=>
   obtain ⟨as,q⟩:=Is.reads I x v _ lay.1 y m;obtain ⟨bs,p⟩:=zC.reads I xs w _ lay.2 t g;exact ⟨_, .cons q p⟩
end
end
def rEqD:R2:=λx y H Q=>∃d e,Is H d x/\Is H e y/\SeqAt.shaped d=true/\SeqAt.shaped e=true/\Q (.bl (PyData.eqv d e)) H
def rNeD:R2:=λx y H Q=>∃d e,Is H d x/\Is H e y/\SeqAt.shaped d=true/\SeqAt.shaped e=true/\Q (.bl (!PyData.eqv d e)) H
section
def op_eqD (t:X.A.units+64<cLine):OpR X (compareOp .Eq) rEqD:=by
 intro pins s σ H x y v u Q I rx ry h;obtain ⟨d,e,z,w,m,g,q⟩:=h;obtain ⟨as,r⟩:=Is.reads I d x v (jbq m) z rx;obtain ⟨bs,p⟩:=Is.reads I e y u (jbq g) w ry;exact eq_dataH r p m g t ⟨.bl _,H,I,rfl,q⟩
def op_neD (t:X.A.units+64<cLine):OpR X (compareOp .NotEq) rNeD:=by
 intro pins s σ H x y v u Q I rx ry h;obtain ⟨d,e,z,w,m,g,q⟩:=h;obtain ⟨as,r⟩:=Is.reads I d x v (jbq m) z rx;obtain ⟨bs,p⟩:=Is.reads I e y u (jbq g) w ry;exact ne_dataH r p m g t ⟨.bl _,H,I,rfl,q⟩
end
def rIsi (K:Frg):List V->Hp->VK->Prop:=λxs H Q=>∃(x:V) (T:String) (t:Value) (b:Bool),xs=[x, .ty T]/\TyOf K H x t/\PySem.W.kitOne K t (.type T)=some b/\Q (.bl b) H
section
def call_isi:Wi X (.builtin "isinstance") (rIsi X.K):=by
 intro pins s σ H xs us Q I r h;obtain ⟨x,T,t,b,rfl,ty,e,q⟩:=h;obtain ⟨u,g,rfl,p,m⟩:=Fx r;cases (show g=Value.type T from m);exact DF I p ty e λtk=>⟨.bl b,H,I.tok tk,rfl,q⟩
end
structure Cal (P:Program) (w:World) (K:Frg) (mg:Str->Option Value) (base:Heap) (CX:CXT) (k:Nat) (x:Str) (ps:List Str) (sp:Sp):Prop where
 ex:∃(f:Addr) (fd:FuncData),FnOk P w K mg base CX k f fd ps sp/\mg x=some (.ref f)/\PySem.W.keepIn K (.ref f)=true/\yp K fd ps []
section
def pe_cal (C:Cal X.prog X.w X.K X.mg X.base CX k x ps sp) (hr:Room j X.A) (q:k<=j) (m:WT CX X E) (r:Gl X x)
 (ha:PA X (e::es) t) (u:(x==("__debug__":Str))=false:=by decide) (he:starEach (e::es) X.env=(false,eval e X.env)::starEach es X.env:=by rfl) (y:(backTo pos (starEach es X.env)).any (·.1)=false:=by rfl):
 PE X (.Call (.Name x p) (e::es) [] pos) (vD sp [] E t):=by
 obtain ⟨f,fd,F,hm,g,s⟩:=C.ex;exact KG F (hr.mono q) r hm g s .nil m ha u he y
end
def Fy (hr:Room k A):A.units+64<cLine:=hr.units
def frD (q:Rat):PyData:= .tuple [.int q.num, .int (q.den:Int)]
def SzQ (n:Nat) (q:Rat):Prop:=Sz n q.num/\Sz n (q.den:Int)
def SzQ.mono (h:SzQ m q) (l:m<=n):SzQ n q:=⟨h.1.mono l,h.2.mono l⟩
def den_pos (q:Rat):(0:Int)<(q.den:Int):=Int.natCast_pos.mpr q.den_pos
def SzQ.divInt (ha:Sz n a) (g:Sz n b) (h0:b≠0):SzQ n (Rat.divInt a b):=by
 constructor
 ·refine ha.le ?_;rw [Rat.num_divInt,Int.natAbs_ediv_of_dvd ?_]
  ·rw [Int.natAbs_mul];have e:b.sign.natAbs=1:=Int.natAbs_sign_of_ne_zero h0;rw [e,Nat.one_mul];exact Nat.div_le_self _ _
  ·exact Int.dvd_trans (Int.gcd_dvd_right b a) (Int.dvd_mul_left _ _)
 ·refine g.le ?_;rw [Rat.den_divInt,QI h0];show b.natAbs / b.gcd a<=b.natAbs;exact Nat.div_le_self _ _
def Jh:bootBuiltins "len"=some (.builtin "len"):=by decide+kernel
def bt_abs:bootBuiltins "abs"=some (.builtin "abs"):=by decide+kernel
def Jg:bootBuiltins "min"=some (.builtin "min"):=by decide+kernel
def bt_max:bootBuiltins "max"=some (.builtin "max"):=by decide+kernel
def HP:bootBuiltins "isinstance"=some (.builtin "isinstance"):=by decide+kernel
def bt_int:bootBuiltins "int"=some (.type "int"):=by decide+kernel
def bt_bool:bootBuiltins "bool"=some (.type "bool"):=by decide+kernel
def bt_tuple:bootBuiltins "tuple"=some (.type "tuple"):=by decide+kernel
def bt_list:bootBuiltins "list"=some (.type "list"):=by decide+kernel
def pC:bootBuiltins "enumerate"=some (.type "enumerate"):=by decide+kernel
def Jf:bootBuiltins "zip"=some (.type "zip"):=by decide+kernel
def sj:bootBuiltins "reversed"=some (.type "reversed"):=by decide+kernel
def bt_str:bootBuiltins "str"=some (.type "str"):=by decide+kernel
def bt_sum:bootBuiltins "sum"=some (.builtin "sum"):=by decide+kernel
structure Bl (mg:Str->Option Value):Prop where
 len:mg "len"=none
 abs:mg "abs"=none
 min:mg "min"=none
 max:mg "max"=none
 isinstance:mg "isinstance"=none
 range:mg "range"=none
 int:mg "int"=none
 bool:mg "bool"=none
 tuple:mg "tuple"=none
 list:mg "list"=none
 enumerate:mg "enumerate"=none
 zip:mg "zip"=none
 reversed:mg "reversed"=none
 ValueError:mg "ValueError"=none
 sum:mg "sum"=none
 str:mg "str"=none
def uv {c A B:Prop} [Decidable c] (p:¬c->A) (m:c->B):if (!decide c)=true then A else B:=by
 by_cases g:c
 ·rw [QT g];exact m g
 ·rw [Tf g];exact p g
def yH {c A B:Prop} [Decidable c] (p:c->A) (m:¬c->B):if decide c=true then A else B:=by
 by_cases g:c
 ·rw [QT g];exact p g
 ·rw [Tf g];exact m g
def Ig {ms:List Int} {k:Int} (h0:0<=k) (h:k<(ms.length:Int)):atI (ms.map V.int) k=some (.int (ms.getD k.toNat 0)):=by
 have g:k.toNat<ms.length:=⋯
 have m:k=((k.toNat:Nat):Int):=⋯
 have q:atI (ms.map V.int) ((k.toNat:Nat):Int)=some (.int (ms.getD k.toNat 0)):=zW (by rw [Qh,Qa g,Qq,Qa g];rfl);rwa [<-m] at q
def Ug (m:0<b):(a.fdiv (Int.gcd a b:Nat)=(Rat.divInt a b).num)/\b.fdiv (Int.gcd a b:Nat)=((Rat.divInt a b).den:Int):=by
 have g:(0:Int)<=((Int.gcd a b:Nat):Int):=Int.natCast_nonneg _;rw [Td _ g,Td _ g,Rat.num_divInt,Rat.den_divInt,QI ⋯,Int.gcd_comm b a,Int.sign_eq_one_of_pos m,Int.one_mul];refine ⟨rfl,?_⟩;have e:b=(b.natAbs:Int):=⋯
 rw [Int.natCast_ediv,<-e]
def Dp (g:b<0):(a.fdiv (-((Int.gcd a b:Nat):Int))=(Rat.divInt a b).num)/\b.fdiv (-((Int.gcd a b:Nat):Int))=((Rat.divInt a b).den:Int):=by
 have h:=Ug (a:= -a) (b:= -b) ⋯;rw [Rat.neg_divInt_neg,Int.neg_gcd,Int.gcd_neg] at h;rw [<-h.1,<-h.2]
 constructor
 ·rw [<-Int.neg_fdiv_neg,Int.neg_neg]
 ·rw [<-Int.neg_fdiv_neg,Int.neg_neg]
def tu (h:1<=n) (m: -2<x) (g:x<2):Sz n x:=Sz.mono (show Sz 1 x by unfold Sz;lia) h
def uz (a b:Int):Int.gcd b (a % b)=Int.gcd a b:=by
 have e:a % b=a - b*(a / b):=by have:=Int.mul_ediv_add_emod a b;lia
 rw [e,Int.gcd_sub_mul_left_right,Int.gcd_comm]
def yK (cells:List (Str×Addr)):List (Str×NameKind)->List (Str×Addr)->List (Str×Addr)
 |[],acc=>acc
 |(n,k)::r,acc=>yK cells r (if k== .free then (n,(cells.lookup n).getD 0)::acc else acc)
def XG (h:∀y∈scope.names,y.2= .free->∃c,env.cells.lookup y.1=some c):closureFor scope env=pure (yK env.cells scope.names []):=by
 have key:∀(names:List (Str×NameKind)) (acc:List (Str×Addr)),(∀y∈names,y.2= .free->∃c,env.cells.lookup y.1=some c)->
  (forIn names acc λx r=>match x with
   |(name,kind)=>if (kind==NameKind.free)=true then do
    let a<-cellOf env name
    pure (ForInStep.yield ((name,a)::r))
    else pure (ForInStep.yield r):Sem (List (Str×Addr)))=pure (yK env.cells names acc):=by
  intro names
  induction names with
  |nil=>intro acc _;rfl
  |cons y r g=>
   intro acc m;obtain ⟨n,k⟩:=y;rw [List.forIn_cons,yK];have hr:=λz q=>m z (Qe _ q)
   cases hk:k==NameKind.free with
   |false=>
    simp only [hk,jav,if_false,pure_bind];exact g acc hr
   |true=>
    obtain ⟨c,p⟩:=m (n,k) (Qg ..) ‹hk›;have s:cellOf env n=pure c:=by unfold cellOf;rw [p]
    simp only [hk,if_true,s,pure_bind,p,Option.getD_some];exact g _ hr
 simp only [closureFor];rw [key _ _ h];rfl
theorem XH:∀{names:List (Str×NameKind)} {acc:List (Str×Addr)},(∀y∈names,y.2= .free->∃c,cells.lookup y.1=some c)->(∀c,acc.lookup x=some c->cells.lookup x=some c)->
 (yK cells names acc).lookup x=some c->cells.lookup x=some c
 |[],acc,_,ha,h=>ha c h
 |(n,k)::r,acc,hn,ha,h=>by
  rw [yK] at h;refine XH (λz p=>hn z (Qe _ p)) (λm g=>?_) h
  cases hk:k==NameKind.free with
  |false=>rw [hk] at g;simp only [jav,if_false] at g;exact ha m g
  |true=>
   rw [hk] at g;simp only [if_true] at g;obtain ⟨d,hd⟩:=hn (n,k) (Qg ..) ‹hk›;rw [jaK] at g
   cases hx:x==n with
   |true=>
    rw [hx] at g;have e:x=n:=by simpa using hx
    subst e;have q:cells.lookup x=some d:=hd;rw [q] at g⊢;exact g
   |false=>rw [hx] at g;exact ha m g
theorem Xf:∀{names:List (Str×NameKind)} {acc:List (Str×Addr)},((x,NameKind.free)∈names\/(acc.lookup x).isSome=true)->((yK cells names acc).lookup x).isSome=true
 |[],acc,h=>by
  rcases h with h|h
  ·exact absurd h (Qm)
  ·exact h
 |(n,k)::r,acc,h=>by
  rw [yK];refine Xf ?_
  have keep:(acc.lookup x).isSome=true->((if (k==NameKind.free)=true then (n,(cells.lookup n).getD 0)::acc else acc).lookup x).isSome=true:=λz=>by
   split
   ·rw [jaK];split<;>simp [z]
   ·exact z
  rcases h with h|h
  ·rcases Qn.mp h with e|e
   ·cases e;refine .inr ?_
    simp
   ·exact .inl e
  ·exact .inr (keep h)
def xf (X:Cx) (N:List Str) (scope:Scope) (C:Addr) (ex:List Addr) (s:Shared) (H:Hp):Cx where
 prog:=X.prog
 w:=X.w
 K:=X.K
 mg:=X.mg
 base:=X.base
 A:=X.A
 N:=N
 s₀:=s
 H₀:=H
 env:=compEnvC scope (yK X.env.cells scope.names []) C X.env
 outer:=X.stack
 stack:=X.stack
 ex:=ex
 fn:=λ_=>false
 calm:=X.calm
 pn:=[]
 xe:=λ_ _=>False
def frσ (σ:L2.St) (fr:List Nat):L2.St:=fr.map λj=>(σ[j]?).getD none
structure CompOk (X:Cx) (N:List Str) (n:Nat) (fr:List Nat) (scope:Scope):Prop where
 kind:scope.kind= .function
 nd:N.Nodup
 names:(N.drop n)=fr.map (λj=>(X.N[j]?).getD ("":Str))
 own:n<=N.length
 inx:(fr.all λj=>decide (j<X.N.length))=true
 free:((N.drop n).all λx=>decide (scope.names.lookup x=some .free))=true
 nocell:(scope.names.all λy=>decide (y.2≠ .cell))=true
 loc:(scope.names.all λy=>decide (y.2= .local->scope.names.lookup y.1=some .local))=true
 seen:(scope.names.all λy=>decide (y.2= .free->(X.env.kindOf y.1=some .cell\/X.env.kindOf y.1=some .free)))=true
def Uy (h:(relabel scope env).names.lookup x=some k) (p:k= .cell\/k= .free) (s:(scope.names.all λy=>decide (y.2≠ .cell))=true):(x,NameKind.free)∈scope.names:=by
 unfold relabel at h;dsimp only at h
 have key:∀names:List (Str×NameKind),(names.all λy=>decide (y.2≠ .cell))=true->
  (names.map λ(n,k)=>if (k==NameKind.free && env.scope.kind== .function && env.kindOf n==some .cell)=true then (n,NameKind.cell) else (n,k)).lookup x=some k->(x,NameKind.free)∈names:=by
  intro names
  induction names with
  |nil=>intro _ h;simp at h
  |cons y r m=>
   intro ha h;obtain ⟨n,j⟩:=y;rw [List.all_cons,TF] at ha;rw [Qj] at h;have t:∀(b:Bool) (g:NameKind),((if b=true then (n,NameKind.cell) else (n,g)):Str×NameKind)=(n,if b=true then NameKind.cell else g):=by intro b g;cases b<;>rfl
   dsimp only at h;rw [t,jaK] at h
   cases hx:x==n with
   |false=>rw [hx] at h;exact Qe _ (m ha.2 h)
   |true=>
    rw [hx] at h;have e:x=n:=by simpa using hx
    subst e;have h':=Qw h;have q:j≠ .cell:=by simpa using ha.1
    have:j= .free:=by
     cases hb:(j==NameKind.free && env.scope.kind== .function && env.kindOf x==some .cell) with
     |true=>
      rw [TF,TF] at hb
      simpa using hb.1.1
     |false=>
      rw [hb] at h';simp only [jav,if_false] at h';subst h'
      rcases p with z|z
      ·exact absurd z q
      ·exact z
    subst this;exact Qg ..
 exact key _ s h
def cc (h:scope.names.lookup x=some .free):(relabel scope env).names.lookup x=some .cell\/(relabel scope env).names.lookup x=some .free:=by
 unfold relabel;dsimp only
 have key:∀names:List (Str×NameKind),names.lookup x=some .free->
  (names.map λ(n,k)=>if (k==NameKind.free && env.scope.kind== .function && env.kindOf n==some .cell)=true then (n,NameKind.cell) else (n,k)).lookup x=some .cell\/(names.map λ(n,k)=>if (k==NameKind.free && env.scope.kind== .function && env.kindOf n==some .cell)=true then (n,NameKind.cell) else (n,k)).lookup x=some .free:=by
  intro names
  induction names with
  |nil=>intro h;simp at h
  |cons y r m=>
   intro h;obtain ⟨n,j⟩:=y;have p:∀(b:Bool) (g:NameKind),((if b=true then (n,NameKind.cell) else (n,g)):Str×NameKind)=(n,if b=true then NameKind.cell else g):=by intro b g;cases b<;>rfl
   rw [Qj];dsimp only;rw [p,jaK];rw [jaK] at h
   cases hx:x==n with
   |false=>rw [hx] at h;exact m h
   |true=>
    rw [hx] at h;cases Qw h;dsimp only
    split
    ·exact .inl rfl
    ·exact .inr rfl
 exact key _ h
section
def CompOk.cells (O:CompOk X N n fr scope) (I:Inv X pins σ H s):∀y∈scope.names,y.2= .free->∃c,X.env.cells.lookup y.1=some c:=λy g hf=>I.ok.has y.1 (Qz (TH.mp O.seen y g) hf)
def Ai (O:CompOk X N n fr scope) (I:Inv X pins σ H s) (hf:∀b∈fp,sU X pins H b) (J:∀b∈fp,b<s.heap.objs.size)
 (OW:h'.Ns s.heap.objs.size m) (keep:∀b o,s.heap.get? b=some o->h'.get? b=some o):
 Inv (xf X N scope s.heap.objs.size fp s H) [] (List.replicate n none++frσ σ fr) H {s with heap:=h',toks:=tk}:=by
 have OG:=O.cells I;have lk:∀x c,(yK X.env.cells scope.names []).lookup x=some c->X.env.cells.lookup x=some c:=λx c h=>XH OG (λc h=>by simp at h) h;have cne:∀x c,(yK X.env.cells scope.names []).lookup x=some c->∃v,s.heap.IsCell c v:=λx c h=>I.cell x c (lk x c h)
 have clt:∀x c,(yK X.env.cells scope.names []).lookup x=some c->c<s.heap.objs.size:=λx c h=>by
  obtain ⟨v,o,w,_⟩:=cne x c h;exact Qt w
 refine ⟨⟨I.mod,O.kind,I.ok.glob,I.ok.blt,Qs _,λx y c A g=>I.ok.inj x y c (lk x c A) (lk y c g),λx r=>?_,λx c h=>(by cases h),I.ok.hd,I.ok.frames, .inl rfl,λb t=>⟨QO (J b t),λx c h=>(hf b t).2.2.2.2.1 x c (lk x c h)⟩,I.bs,QP I.ok.bsz I.sz,λb o e t=>?_,λb t z=>?_,I.stack,I.stkFree⟩,
  rfl,I.bare,Un.kept keep,⟨m,OW,λi x v A g h3=>?_⟩,λx c h=>?_,I.hok.fresh (Qs _),λx c h=>I.freeC x c (lk x c h),λp hp=>absurd hp (by simp [xf]),I.hok.kept keep,?_⟩
 ·have NJ:(x,NameKind.free)∈scope.names:=by
   rcases r with r|r
   ·exact Uy r (.inl rfl) O.nocell
   ·exact Uy r (.inr rfl) O.nocell
  exact jaf.mp (Xf (.inl NJ))
 ·rcases (hf b t).2.2.2.1 with z|z
  ·exact I.ok.noex b o e z
  ·exact absurd (QX (Qt (I.ok.bs b o e).1) z) (jag _)
 ·rcases Qn.mp (I.stkSub b z) with q|q
  ·exact (hf b t).2.1 q
  ·exact (hf b t).2.2.1 q
 ·by_cases G:i<n
  ·rw [jaa ‹G›,Tt,QD G] at g;cases g
  ·have K:(N.drop n)[i - n]? =some x:=by rw [jao,show n+(i - n)=i by lia];exact A
   rw [TC ‹G›,QF] at g;unfold frσ at g;rw [Qh] at g;rw [O.names,Qh] at K
   cases ej:fr[i - n]? with
   |none=>rw [ej] at g;cases g
   |some j=>
    rw [ej] at g K;have D:j<X.N.length:=Qz (TH.mp O.inx j (Qd ej))
    have r:X.N[j]? =some x:=by
     have e:=Qw K;dsimp only at e;rw [Qa D] at e⊢;exact congrArg some e
    have Y:σ[j]? =some (some v):=by
     have e:=Qw g;dsimp only at e
     cases es:σ[j]? with
     |none=>rw [es] at e;cases e
     |some o=>rw [es] at e;rw [show o=some v from e]
    have T:scope.names.lookup x=some .free:=by
     refine Qz (TH.mp O.free x ?_);exact Qd (by rw [jao,show n+(i - n)=i by lia];exact A)
    have P:(x,NameKind.free)∈scope.names:=jaB T;have M:=Qz (TH.mp O.seen _ P) rfl;obtain ⟨mX,Z,C⟩:=I.loc;obtain ⟨u,ru,U⟩:=C j x v r Y (M.elim (λz=> .inr (.inl z)) λz=> .inr (.inr z));refine ⟨u,ru, .inr ⟨?_,?_⟩⟩
    ·exact cc T
    ·obtain ⟨c,L⟩:=jaf.mp (Xf (.inl P));refine ⟨c,L,?_⟩
     rcases U with ⟨k,_⟩|⟨_,c',NF,z⟩
     ·rcases M with q|q
      ·rw [show X.env.kindOf x=_ from k] at q;cases q
      ·rw [show X.env.kindOf x=_ from k] at q;cases q
     ·have:=lk x c L;rw [NF] at this;cases this;obtain ⟨o,w,hd⟩:=z;exact ⟨o,keep _ _ w,hd⟩
 ·obtain ⟨v,o,w,hd⟩:=cne x c h;exact ⟨v,o,keep _ _ w,hd⟩
 ·rw [QM,QF];unfold frσ;have e:=congrArg List.length O.names;rw [jaJ,Qb] at e;have:=O.own;show _=N.length;rw [Qb];lia
end
def PIf (Y:Cx) (ifs:List Expr) (tt:TT):Prop:=
 ∀(pins:Pn) (s:Shared) (σ:L2.St) (H:Hp) (Q:Bool->Hp->Prop),Inv Y pins σ H s->tt σ H Q->
  wpAny (model Y.prog Y.w) Y.A (forIn ifs true λc r=>if r=true then do let ok<-isTrue c Y.env (eval c Y.env);pure (ForInStep.yield ok) else pure (ForInStep.yield r)) (TP Y pins σ Q) Y.xe s
def tTrue:TT:=λ_ H Q=>Q true H
def qV:PIf Y [] tTrue:=λpins s σ H Q I h=>wpAny_tests_nil ⟨H,I,h⟩
def pif_one {Y:Cx} {c:Expr} {tt:TT} (h:PT Y c tt):PIf Y [c] tt:=λpins s σ H Q I q=>wpAny_tests_one (h pins s σ H Q I q)
abbrev Blk (α:Type):=Addr->List Addr->Shared->Hp->α
def vC (n:Nat) (fr:List Nat) (w:TI) (g:Blk TG) (tt:Blk TT) (z:Blk TE):TE:=λσ H Q=>w σ H λJ H1=>∀D,H1 D=none->∀C ex s0 r,
 ∃W:Nat->Nat->List V->Hp->Prop,(∃m,W 0 m [] (upd H1 D (.lst [])))/\∀i m ys p,W i m ys p->p D=some (.lst ys)/\
  ((J.stop i p/\Q (.ref D) p)\/(J.go i p/\∀x u,J.yld i p x u->g C ex s0 r x (List.replicate n none++frσ σ fr) u λσ4 H4=>σ4.drop n=frσ σ fr/\tt C ex s0 r σ4 H4 λb t=>
    if b=true then z C ex s0 r σ4 t λy s=>s D=some (.lst ys)/\ys.length<sizeLine/\∃q,q<m/\W (i+1) q (ys++[y]) (upd s D (.lst (ys++[y])))
    else ∃q,q<m/\W (i+1) q ys t))
structure Side (X:Cx) (pins:Pn) (H:Hp) (C:Addr):Prop where
 nt:H C=none
 nl:C≠X.env.locals
 ab:X.s₀.heap.objs.size<=C
 nc:∀x c,X.env.cells.lookup x=some c->c≠C
 np:∀p∈X.pn++pins,p.1≠C
section
def yJ {α:Type} {M:Model} {A:Around} {m:Sem α} {Q:α->Shared->Prop} {E:Value->Shared->Prop} {s:Shared} (h:wpAny M A m Q (λ_ _=>False) s):wpAny M A m Q E s:=wpAny_mono h (λ_ _ q=>q) λ_ _ z=>z.elim
def uP {tg iter elt:Expr} {ifs:List Expr} {pos:Pos} {g:Blk TG} {tt:Blk TT} {te:Blk TE} {pins:Pn} {σ:L2.St} {z:Hp} {s2:Shared} {it:Addr} {I:List Addr} {tn:Nat->Heap->Prop} {J:It} {Q:VK}
 {RR:Value->Addr->Result->Shared->Prop} {E:Value->Shared->Prop}
 (hc:X.calm=true) (O:CompOk X N n fr scope)
 (hg:∀C ex s H,PG (xf X N scope C ex s H) tg (g C ex s H)) (ht:∀C ex s H,PIf (xf X N scope C ex s H) ifs (tt C ex s H)) (he:∀C ex s H,PE (xf X N scope C ex s H) elt (te C ex s H))
 (I2:Inv X pins σ z s2) (T:Turn X.prog X.w X.K tg J I it tn) (Ob:tn 0 s2.heap) (f2:∀b∈I,sU X pins z b)
 (hW:∀D,z D=none->∀C ex s0 H0,∃W:Nat->Nat->List V->Hp->Prop,(∃m,W 0 m [] (upd z D (.lst [])))/\∀i m ys z,W i m ys z->z D=some (.lst ys)/\
  ((J.stop i z/\Q (.ref D) z)\/(J.go i z/\∀x H3,J.yld i z x H3->g C ex s0 H0 x (List.replicate n none++frσ σ fr) H3 λσ4 H4=>σ4.drop n=frσ σ fr/\tt C ex s0 H0 σ4 H4 λb Z=>
    if b=true then te C ex s0 H0 σ4 Z λy H6=>H6 D=some (.lst ys)/\ys.length<sizeLine/\∃M,M<m/\W (i+1) M (ys++[y]) (upd H6 D (.lst (ys++[y])))
    else ∃M,M<m/\W (i+1) M ys Z)))
 (hR:∀(D C:Addr) (H':Hp) (P:Shared),Q (.ref D) H'->(∃m,P.heap.Ns C m)->Side X pins H' C->Inv X pins σ H' P->RR (.ref D) C (.ok .next) P):
 wpAny (model X.prog X.w) X.A (newList []) (λacc s₃=>wpAny (model X.prog X.w) X.A (newFunctionEnv scope X.env.globals (yK X.env.cells scope.names []) [] X.env.qual none .none (some X.env)) (λcenv s₄=>
  codeAny (model X.prog X.w) X.A (.compStart (.ListComp elt [⟨tg,iter,ifs,0⟩] scope pos) 0 (.ref it) acc {cenv with scope:=relabel scope X.env}) (RR acc cenv.locals) s₄) E s₃) E s2:=by
 have nocell:∀y∈scope.names,y.2≠ .cell:=λy hy=>Qz (TH.mp O.nocell y hy);refine To (wpAny_newFunctionEnv nocell (by intro y hy;simp at hy) (λh₁ OW₁ hsb₁=>?_) O.kind);have hDn:z s2.heap.objs.size=none:=I2.fresh;have I3:Inv X pins σ (upd z s2.heap.objs.size (.lst [])) {s2 with heap:=s2.heap.push {cls:= .type "list",data:= .seq ([]:List Value).toArray},toks:=s2.toks}:=I2.lnew (its:=[]) .nil (jab _);generalize hD:s2.heap.objs.size=D at*;dsimp only at OW₁ hsb₁⊢;generalize Si:s2.heap.push {cls:= .type "list",dict:=none,data:= .seq ([]:List Value).toArray}=t at*;have k23:∀b o,s2.heap.get? b=some o->t.get? b=some o:=λb o e=>by rw [<-Si];exact Qi _ e
 have sz3:t.objs.size=D+1:=by rw [<-Si,QS,hD]
 have keep:∀b o,t.get? b=some o->h₁.get? b=some o:=λb o e=>hsb₁.extBut b o (QO (Qt e)) (Qi _ e)
 have flt:∀b∈I,b<D:=λb q=>by
  obtain ⟨o,ho,_⟩:=T.obj _ _ Ob b q;rw [<-hD];exact Qt ho
 have f3:∀b∈I,sU X pins (upd z D (.lst [])) b:=λb q=>⟨by rw [zP (QO (flt b q))];exact (f2 b q).1,(f2 b q).2⟩;have IY:=Ai (tk:=s2.toks+([]:List (Str×Value)).length) O I3 f3 (λb q=>by show b<t.objs.size;rw [sz3];exact TK (flt b q)) OW₁ keep;obtain ⟨W,⟨m0,w0⟩,turn⟩:=hW _ hDn t.objs.size I {s2 with heap:=t,toks:=s2.toks} (upd z D (.lst []));have RS:tn 0 h₁:=T.keep _ _ _ Ob λb q o e=>keep b o (k23 b o e);generalize G:xf X N scope t.objs.size I {s2 with heap:=t,toks:=s2.toks} (upd z D (.lst []))=Y at*;have U:Y.env=compEnvC scope (yK X.env.cells scope.names []) t.objs.size X.env:=by rw [<-G];rfl
 have Su:=hg t.objs.size I {s2 with heap:=t,toks:=s2.toks} (upd z D (.lst []));have Sh:=ht t.objs.size I {s2 with heap:=t,toks:=s2.toks} (upd z D (.lst []));have Sx:=he t.objs.size I {s2 with heap:=t,toks:=s2.toks} (upd z D (.lst []));rw [G] at Su Sh Sx;have eP:Y.prog=X.prog:=by rw [<-G];rfl
 have eW:Y.w=X.w:=by rw [<-G];rfl
 have eK:Y.K=X.K:=by rw [<-G];rfl
 have eA:Y.A=X.A:=by rw [<-G];rfl
 have eC:Y.calm=true:=by rw [<-G];exact hc
 have eX:Y.xe=λ_ _=>False:=by rw [<-G];rfl
 have fY:∀{H':Hp},(∀b∈I,H' b=none)->∀b∈I,sU Y [] H' b:=λ{H'} hn b q=>by
  have h1:=IY.ok.exf b (by rw [<-G];exact q);refine ⟨hn b q,h1.1,IY.ok.exfs b (by rw [<-G];exact q), .inl (by rw [<-G];exact q),h1.2,λp hp=>absurd hp (by rw [<-G];simp [xf])⟩
 have loop:codeAny (model X.prog X.w) X.A (.compLoop (.ListComp elt [⟨tg,iter,ifs,0⟩] scope pos) 0 (.ref it) (.ref D) (compEnvC scope (yK X.env.cells scope.names []) t.objs.size X.env))
  (RR (.ref D) t.objs.size) {s2 with heap:=h₁,toks:=s2.toks+([]:List (Str×Value)).length}:=by
  refine codeAny_loop rfl (λk P=>∃i ys H',Inv Y [] (List.replicate n none++frσ σ fr) H' P/\tn i P.heap/\(∀b∈I,H' b=none)/\W i k ys H') (λk s5 hI=>?_) m0 ⟨0,[],_,IY,RS,λb q=>(f3 b q).1,w0⟩;obtain ⟨i,ys,Z,I5,Pl,Rx,w5⟩:=hI;show wpAny _ X.A ((compTurn (.ListComp elt [⟨tg,iter,ifs,0⟩] scope pos) 0 (.ref it) (.ref D) _).onRaise (λx=>do noteFrame x _;theTreesLotGoes x)) _ _ s5;refine wpAny_noted ?_;rw [compTurn_list,<-U];refine Qc (wpAny_standAt (Qc ?_));obtain ⟨hDl,step⟩:=turn i k ys Z w5
  rcases step with ⟨stop,qn⟩|⟨go,step⟩
  ·have d:=T.done Y eP eW eK eC i [] s5 _ Z (λ_ _=>False) I5 (fY Rx) Pl stop;rw [eA] at d;refine yJ (thn d λr s6 L=>?_);obtain ⟨hr,I6⟩:=L;subst hr;refine Ql ?_;have hC:Z t.objs.size=none:=by have:=I6.free;rw [U] at this;exact this
   have Rm:∃m,s6.heap.Ns t.objs.size m:=by
    have:=I6.loc;rw [U] at this;obtain ⟨m,hm,_⟩:=this;exact ⟨m,hm⟩
   have sd:Side X pins Z t.objs.size:=⟨hC,jay I3.lt,I3.sz,λx c e=>QO (let ⟨v,o,ho,_⟩:=I3.cell x c e;Qt ho),λp hp=>QO (Qt (I3.pin p hp).1)⟩;refine hR D t.objs.size Z s6 qn Rm sd ?_;have un:=I6.base;have e0:Y.s₀.heap=t:=by rw [<-G];rfl
   have eH0:Y.H₀=upd z D (.lst []):=by rw [<-G];rfl
   have eF:Y.fs=frs X.stack:=by rw [<-G];rfl
   have eEx:Y.ex=I:=by rw [<-G];rfl
   rw [e0,eH0,eF,eEx] at un;have OV:HOk X.prog X.w Z s6.heap:=by have:=I6.hok;rw [eP,eW] at this;exact this
   have os6:s6.os=s2.os:=I6.os.trans (by rw [<-G];rfl);exact I3.call' os6 un OV I6.bare λb q=>⟨(f2 b q).2.2.2.1,(f2 b q).2.1,(f2 b q).2.2.2.2.1,(f2 b q).2.2.2.2.2⟩
  ·have d:=T.item Y eP eW eK eC i [] s5 _ Z (λ_ _=>False) I5 (fY Rx) Pl go;rw [eA] at d;refine yJ (thn d λr s6 L=>?_);obtain ⟨u,hr,h6⟩:=L;subst hr;refine Qc (yJ (thn h6 λ_ s7 L=>?_));obtain ⟨x,H7,I7,r7,y7,PY,fr7⟩:=L;have I7':=I7.pinned (fY fr7) (T.obj _ _ PY);have g7:=Su _ s7 _ H7 x u _ I7' r7 (step x H7 y7);rw [eA,eP,eW,eX] at g7;refine Qc (yJ (thn g7 λ_ s8 L=>?_));obtain ⟨σ8,H8,I8,ed,q8⟩:=L;have t8:=Sh _ s8 σ8 H8 _ I8 q8;rw [eA,eP,eW,eX] at t8;refine Qc (yJ (thn t8 λb s9 L=>?_));obtain ⟨H9,I9,q9⟩:=L
   have back:∀{P:Shared} {H':Hp} {PX:List V} {M:Nat},Inv Y ([]++jt I s7.heap) σ8 H' P->M<k->W (i+1) M PX H'->∃m,m<k/\∃i ys H',Inv Y [] (List.replicate n none++frσ σ fr) H' P/\tn i P.heap/\(∀b∈I,H' b=none)/\W i m ys H':=λ{P H' PX M} I' hm w'=>by
    refine ⟨M,hm,i+1,PX,H',?_,T.keep _ _ _ PY λb q o e=>(I'.pin (b,o) (QB _ (QB _ (ZP q e)))).1,λb q=>?_,w'⟩
    ·refine (Inv.unpinned I').weak ?_ λj v hj=>?_
     ·exact IY.len.trans I'.len.symm
     ·by_cases Rp:j<n
      ·rw [jaa ‹Rp›,Tt,QD Rp] at hj;cases hj
      ·rw [TC ‹Rp›,QF,<-ed,jao,show n+(j - n)=j by lia] at hj;exact hj
    ·obtain ⟨o,e,d⟩:=T.obj _ _ PY b q;exact (I'.pin (b,o) (QB _ (QB _ (ZP q e)))).2.1
   cases b with
   |false=>
    obtain ⟨M,hm,w9⟩:=q9;exact Ql ⟨rfl,back I9 hm w9⟩
   |true=>
    have e9:=Sx _ s9 σ8 H9 _ I9 q9;rw [eA,eP,eW,eX] at e9;refine Qc (Qc (yJ (thn e9 λv s10 L=>?_)));obtain ⟨y,Pe,I10,r10,Rw,hz,M,hm,OP⟩:=L;have SN:=oG _ s10 σ8 Pe (.ref D) [y] (.ref D) [v] (λ_ H'=>H'=upd Pe D (.lst (ys++[y]))) I10 rfl (.cons r10 .nil) ⟨D,ys,y,rfl,rfl,Rw,hz,rfl⟩;rw [eA,eP,eW,eX] at SN;refine Qc (yJ (thn SN λ_ s11 L=>?_));obtain ⟨_,PV,I11,_,Ry⟩:=L;subst Ry;exact Ql (Ql ⟨rfl,back I11 hm OP⟩)
 exact codeAny_compStart_list loop (T.self _ _ _ _ _ RS loop)
def KD {r iter elt:Expr} {ifs:List Expr} {pos:Pos} {t:TI} {g:Blk TG} {tt:Blk TT} {u:Blk TE}
 (L:X.calm=true) (O:CompOk X N n fr scope) (G:PI X r iter t)
 (K:∀C ex s H,PG (xf X N scope C ex s H) r (g C ex s H)) (ht:∀C ex s H,PIf (xf X N scope C ex s H) ifs (tt C ex s H)) (he:∀C ex s H,PE (xf X N scope C ex s H) elt (u C ex s H))
 (A:∀x,foldedSetIterable iter X.env x=pure x:=by intro _;rfl):
 PE X (.ListComp elt [⟨r,iter,ifs,0⟩] scope pos) (vC n fr t g tt u):=by
 intro pins s σ H Q I h;rw [eval_ListComp];refine jbH rfl A (XG (O.cells I)) O.kind (λy z=>Qz (TH.mp O.loc y z)) (thn (G pins s σ H _ I h) λv s1 Y=>thn Y λw s2 U=>?_);obtain ⟨it,fp,tn,J,H2,e,I2,T,Ob,f2,P⟩:=U;subst e;refine uP L O K ht he I2 T Ob f2 P ?_;intro D C H' s' q ⟨m,hm⟩ p inv;exact ⟨m,hm,λh' Z=>⟨.ref D,H',inv.turned (λb o M e=>Z.extBut b o M e) p.nt p.nl (.inr p.ab) p.nc p.np,rfl,q⟩⟩
def vT {i:Nat} {x:Str} {t:Pos} {u iter elt:Expr} {ifs:List Expr} {pos p:Pos} {P:TI} {g:Blk TG} {tt:Blk TT} {U:Blk TE}
 (hN:X.N.Nodup) (hx:X.N[i]? =some x) (Y:X.env.scope.names.lookup x=some .local)
 (hc:X.calm=true) (O:CompOk X N n fr scope) (hi:PI X u iter P)
 (hg:∀C ex s H,PG (xf X N scope C ex s H) u (g C ex s H)) (ht:∀C ex s H,PIf (xf X N scope C ex s H) ifs (tt C ex s H)) (he:∀C ex s H,PE (xf X N scope C ex s H) elt (U C ex s H))
 (K:swapsWith (.ListComp elt [⟨u,iter,ifs,0⟩] scope pos) (some (.Name x t)) p.line X.env=pure true:=by rfl)
 (hs:∀x,foldedSetIterable iter X.env x=pure x:=by intro _;rfl):
 PS X (.Assign [.Name x t] (.ListComp elt [⟨u,iter,ifs,0⟩] scope pos) p) (Mj (vC n fr P g tt U) (lX i)):=by
 intro pins s σ H D I h;rw [exec_Assign_Name_used _ _ _ _ K];refine Qc (wpAny_standAt (Qc ?_));show wpAny _ X.A (do let _<-comprehension (.ListComp elt [⟨u,iter,ifs,0⟩] scope pos) scope X.env _ (newList []) false (eval iter X.env) (some (assign (.Name x t) X.env))) _ _ s
 refine Qc (wpAny_mono (jbH (use:=some (assign (.Name x t) X.env)) rfl hs (XG (O.cells I)) O.kind (λy hy=>Qz (TH.mp O.loc y hy))
  (thn (hi pins s σ H _ I h) λv s1 h1=>thn h1 λitv s2 h2=>?_)) (λ_ G hq=>Ql (Ql hq)) λ_ _ e=>e)
 obtain ⟨it,fp,tn,J,H2,e,I2,T,Ob,f2,hW⟩:=h2;subst e;refine uP (Q:=λx H1=>lX i x σ H1 D.nx) (RR:=λacc C=>compPost (model X.prog X.w) X.A X.xe (some (assign (.Name x t) X.env)) (λ_ G=>SP X pins D .next G) acc C) hc O hg ht he I2 T Ob f2 hW ?_;intro Z C H' G q ⟨m,hm⟩ r inv;show wpAny _ X.A (assign (.Name x t) X.env (.ref Z)) _ _ _;refine wpAny_assign_Name (nv (i:=i) (v:= .ref Z) inv hN hx (.inl Y) rfl (?_) (.inr Y));rintro s6 I6 ⟨a,L,ha⟩
 have M:C≠a:=by
  rcases ha with z|z
  ·rw [z];exact r.nl
  ·exact λe=>r.nc x a z e.symm
 refine ⟨m,hm.sameBut L M,λh' PB=>?_⟩;refine ⟨_,H',I6.turned (λb o hb e=>PB.extBut b o hb e) r.nt r.nl (.inr r.ab) r.nc r.np,q⟩
end
open PySem.AutoSeq1 (wpAny_loadPart')
def ItB (b:Bool) (h:Heap) (it a:Addr) (i:Nat):Prop:=match b with|true=>h.IsListIter it a i|false=>h.IsTupleIter it a i
def SeB (b:Bool) (h:Heap) (a:Addr) (items:Array Value):Prop:=match b with|true=>h.IsList a items|false=>h.IsTuple a items
def SqB (b:Bool) (K:Frg) (H:Hp) (a:Addr) (xs:List V):Prop:=match b with|true=>SqL K H a xs|false=>SqT K H a xs
def ItB.at (x:ItB b h it a i) (k:∀o,h.get? it=some o->h'.get? it=some o):ItB b h' it a i:=by
 cases b with
 |true=>obtain ⟨o,g,r⟩:=x;exact ⟨o,k o g,r⟩
 |false=>obtain ⟨o,g,r⟩:=x;exact ⟨o,k o g,r⟩
def ItB.obj (x:ItB b h it a i):∃o,h.get? it=some o/\∀v,o.data≠ .cell v:=by
 cases b with
 |true=>obtain ⟨o,g,c,d⟩:=x;exact ⟨o,g,λv z=>by rw [d] at z;cases z⟩
 |false=>obtain ⟨o,g,c,d⟩:=x;exact ⟨o,g,λv z=>by rw [d] at z;cases z⟩
def SeB.at (x:SeB b h a items) (k:∀o,h.get? a=some o->h'.get? a=some o):SeB b h' a items:=by
 cases b with
 |true=>obtain ⟨o,g,r⟩:=x;exact ⟨o,k o g,r⟩
 |false=>obtain ⟨o,g,r⟩:=x;exact ⟨o,k o g,r⟩
def SeB.obj (x:SeB b h a items):∃o,h.get? a=some o:=by
 cases b with
 |true=>obtain ⟨o,g,r⟩:=x;exact ⟨o,g⟩
 |false=>obtain ⟨o,g,r⟩:=x;exact ⟨o,g⟩
section
def seB (I:Inv X pins σ H s) (h:SqB b X.K H a xs):∃its:List Value,xi xs its/\SeB b s.heap a its.toArray/\xs.length<=sizeLine:=by
 cases b with
 |true=>obtain ⟨its,r,p,z⟩:=I.list h;exact ⟨its,r,p.isList,z⟩
 |false=>obtain ⟨its,r,p,z⟩:=I.tuple h;exact ⟨its,r,p,z⟩
def qC (I:Inv X pins σ H s) (h:SqB b X.K H a xs) (h':SqB b X.K H a ys):xs=ys:=by
 cases b with
 |true=>exact I.list_inj h h'
 |false=>exact I.tuple_inj h h'
end
section
def aO {items}  (hit:s.heap.IsTupleIter it t i)
 (ht:s.heap.IsTuple t items) (q:items[i]? =some x)
 (u:∀h',h'.IsTupleIter it t (i+1)->Heap.SameBut it s.heap h'->Q x {s with heap:=h'}):
 wpAny (model prog w) A (Builtin.SmallTypes.nextOf (.ref it)) Q E s:=by
 obtain ⟨o,g,r,hd⟩:=id hit;obtain ⟨ol,m,_,nl,p⟩:=ht;unfold Builtin.SmallTypes.nextOf
 refine Qc (QY (name:=Str.ofString "__next__") hit.typeIs jbc
  (Th jbc hit.typeIs F.entry_tuple_iterator_next ?_ (F.args_tuple_iterator_next_1 _)))
 show wpAny _ _ (field (.ref it) 0>>=_) _ _ s;refine Qc (TN g hd (x:= .ref t) rfl ?_);show wpAny _ _ (if (Value.ref t==Value.none)=true then _ else _) _ _ s;rw [QI (show ¬((Value.ref t==Value.none)=true) from Qv)];show wpAny _ _ (field (.ref it) 1>>=_) _ _ s;refine Qc (TN g hd (x:= .int i 0) rfl ?_);show wpAny _ _ (seqItems? (.ref t)>>=_) _ _ s;refine Qc (jau m p ?_);simp only [Tp,q];refine Qc (jbh g hd (by simp) (Ql ⟨x,rfl,Ql (u _ ?_ (Ti ..))⟩))
 exact ⟨_,TL _ g (Obj.isFreed_of_fields (jbK hd _)),(Obj.cls_mapFields ..).trans r,by
  rw [jbK hd];simp [rawInt]⟩
def cB {items} (r:A.handled=none)
 (hit:s.heap.IsTupleIter it t i) (ht:s.heap.IsTuple t items) (u:items[i]? =none)
 (y:∀h' e,Heap.ExtBut it s.heap h'->(∃o,h'.get? e=some o/\o.cls= .type "StopIteration")->E (.ref e) {s with heap:=h'}):
 wpAny (model prog w) A (Builtin.SmallTypes.nextOf (.ref it)) Q E s:=by
 obtain ⟨o,p,z,hd⟩:=id hit;obtain ⟨ol,g,_,nl,q⟩:=ht;unfold Builtin.SmallTypes.nextOf
 refine Qc (QY (name:=Str.ofString "__next__") hit.typeIs jbc
  (Th jbc hit.typeIs F.entry_tuple_iterator_next ?_ (F.args_tuple_iterator_next_1 _)))
 show wpAny _ _ (field (.ref it) 0>>=_) _ _ s;refine Qc (TN p hd (x:= .ref t) rfl ?_);show wpAny _ _ (if (Value.ref t==Value.none)=true then _ else _) _ _ s;rw [QI (show ¬((Value.ref t==Value.none)=true) from Qv)];show wpAny _ _ (field (.ref it) 1>>=_) _ _ s;refine Qc (TN p hd (x:= .int i 0) rfl ?_);show wpAny _ _ (seqItems? (.ref t)>>=_) _ _ s;refine Qc (jau g q ?_);simp only [Tp,u];refine Qc (jbO (Qc (jbh p hd (by simp) ?_)));show wpAny _ _ (newExc (.type "StopIteration") []>>=_) _ _ _;refine Qc ?_;simp only [newExc,newTuple];refine Qc (To ?_ (by size_fits));refine Qc (m:=firstArgMember _ _) (wpAny_of_eq (a:=Value.none) (by first|rfl|(simp only [firstArgMember];rfl)) ?_);refine To ?_ (by size_fits);simp only [raiseNew];refine Qc (wpAny_handled ?_)
 first|rw [show A.in1.handled=none from r]|rw [r]
 refine Qc (Ql (wpAny_throw ?_));exact y _ _ (((Ti ..).extBut.push _).push _) ⟨_,Qu _ rfl,rfl⟩
def ZO {items}  (hit:ItB b s.heap it a i) (m:SeB b s.heap a items) (g:items[i]? =some x)
 (p:∀h',ItB b h' it a (i+1)->Heap.SameBut it s.heap h'->Q x {s with heap:=h'}):wpAny (model prog w) A (Builtin.SmallTypes.nextOf (.ref it)) Q E s:=by
 cases b with
 |true=>exact wpAny_nextOf_list_item hit m g p
 |false=>exact aO hit m g p
def WH {items} (p:A.handled=none) (hit:ItB b s.heap it a i) (m:SeB b s.heap a items) (g:items[i]? =none)
 (q:∀h' e,Heap.ExtBut it s.heap h'->(∃o,h'.get? e=some o/\o.cls= .type "StopIteration")->E (.ref e) {s with heap:=h'}):
 wpAny (model prog w) A (Builtin.SmallTypes.nextOf (.ref it)) Q E s:=by
 cases b with
 |true=>exact wpAny_nextOf_list_end p hit m g q
 |false=>exact cB p hit m g q
end
def drawsB (u:A.handled=none) (b:Bool) (it a:Addr) (C:a≠it) (items:Array Value):
 Draws prog w A it [it,a] items.size (λi x=>items[i]? =some x) (λi h=>ItB b h it a i/\SeB b h a items) where
 live:=λi h g=>by obtain ⟨o,t,_⟩:=g.1.obj;exact ⟨o,t⟩
 frame:=λi h h' g p=>⟨g.1.at λo e=>p _ (by simp) o e,g.2.at λo e=>p _ (by simp) o e⟩
 item:=λi s Q E q g y=>ZO g.1 g.2 (Array.getElem?_eq_getElem q) λh' m r=>y _ h' s.toks (Array.getElem?_eq_getElem q) ⟨m,g.2.at λo e=>(r.2 _ C).trans e⟩ r
 done:=λs Q E g z=>WH u g.1 g.2 (by simp) z
def UQ {X:Cx} {pins:Pn} {σ:L2.St} {H:Hp} {s:Shared} {h':Heap} {t':Nat} {ch:List Addr} {a:Addr} {o:HO} (I:Inv X pins σ H s) (hf:∀b∈ch,sU X pins H b)
 (k:∀b o,b∉ch->s.heap.get? b=some o->h'.get? b=some o) (C:∀b∈ch,∃o,h'.get? b=some o) (ha:s.heap.objs.size<=a) (new:Yg X.prog X.w (upd H a o) h' a o):
 Inv X pins σ (upd H a o) {s with heap:=h',toks:=t'}:=by
 have t:H a=none:=I.hok.fresh ha;have same:zG H (upd H a o):=zG.new t o
 refine I.step (g':=s.gens) (d':=s.drawn) (ch:=ch) (λb p=>⟨(hf b p).2.2.2.1,(hf b p).2.1,(hf b p).2.2.2.2.1,(hf b p).2.2.2.2.2⟩) (λb u _ _ g e _=>k b u g e) (λb u _ _ g e _=>⟨u.slots,k b u g e⟩)
  (λb u g e n=>by rw [zP (QO (QX (Qt e) ha))];exact n) (λb u g e=>⟨u,k b u g e⟩) (λb xs e=>same _ _ e) (λb u v e=>same _ _ e) (λb ps e=>⟨#[],by rw [same _ _ e];simp⟩) (λm hm=>?_) (λb u e=>?_) I.bare
 ·obtain ⟨y,es,ep,A,r⟩:=hm;exact ⟨y,es,ep,k _ y (λz=>(hf _ z).2.1 rfl) A,r⟩
 ·by_cases p:b=a
  ·subst p;rw [ya] at e;cases e;exact new
  ·rw [zP p] at e;refine (I.hok b u e).stay (λc v g q=>k c v ?_ q) (λ_ q=>same _ _ q) λ_ _ q=>same _ _ q;intro z
   rcases g with q|q
   ·rw [q] at z;rw [(hf b z).1] at e;cases e
   ·rw [(hf c z).1] at q;cases q
def ItE (b:Bool) (K:Frg) (a:Addr):It:=
 ⟨λi H=>∃xs x,SqB b K H a xs/\xs[i]? =some x,λi H v H'=>∃p x,(∀xs,SqB b K H a xs->xs[i]? =some x)/\H p=none/\v= .ref p/\H'=upd H p (.tup [.int i,x]),λi H=>∃xs,SqB b K H a xs/\xs.length<=i⟩
def dI:(2:Nat)<=sizeLine:=by decide
def Ba {P:Program} {w:World} {K:Frg} {elts:List Expr} {k:Nat} {pos:Pos} (b:Bool) (a e it:Addr) (hae:a≠it) (m:e≠it) (Y:e≠a):
 Turn P w K (.Tuple elts k pos) (ItE b K a) [e,it] e (λi h=>(∃old,IsEnum h e it i old)/\ItB b h it a i) where
 mem:=by simp
 obj:=λi h st c g=>by
  rcases Qn.mp g with rfl|g
  ·obtain ⟨old,z⟩:=st.1;exact ⟨_,z,λv q=>by cases q⟩
  ·obtain rfl:c=it:=by simpa using g
   exact st.2.obj
 keep:=λi h h' st kk=>by
  obtain ⟨⟨old,z⟩,y⟩:=st;exact ⟨⟨old,kk e (by simp) _ z⟩,y.at λo q=>kk it (by simp) o q⟩
 item:=by
  intro X D hw hK g i pins s σ H E I hf st hg;subst D hw hK;obtain ⟨⟨old,he⟩,hit⟩:=st;obtain ⟨xs,x,G,N⟩:=hg;obtain ⟨its,M,p,hz⟩:=seB I G;obtain ⟨u,hu,ru⟩:=M.get N;have U:=I.ok.hd g;have hi:i<its.toArray.size:=by have:=(Qf.mp hu).1;simpa using this
  refine wpAny_pyNext_enum_itemD (drawsB (A:=X.A.in1) U b it a hae its.toArray) he ⟨hit,p⟩ hi m (by simp only [Qn,Qm,or_false,not_or];exact ⟨m,Y⟩) λr h' tk D O NM J hsz hk=>?_
  have ex:r=u:=by
   have C:its[i]? =some r:=by simpa using D
   rw [hu] at C;exact (Qw C).symm
  subst ex;refine ⟨_,rfl,wpAny_letOwnedTupleGo_enum O λPt Sy L=>?_⟩;have Sv:e<s.heap.objs.size:=Qt he;have t:it<s.heap.objs.size:=by obtain ⟨o,z,_⟩:=hit.obj;exact Qt z
  have Pa:Pt.get? s.heap.objs.size=some {cls:= .type "tuple",data:= .seq #[.int i tk,r]}:=(L.2 _ (jay Sv)).trans J;refine ⟨.ref s.heap.objs.size,upd H s.heap.objs.size (.tup [.int i,x]),?_,rfl,⟨_,x,λys hy=>by rw [qC I hy G];exact N,I.fresh,rfl,rfl⟩,⟨⟨r,by simpa using Sy⟩,NM.1.at λo q=>(L.2 _ m.symm).trans q⟩,λc g=>?_⟩
  ·refine UQ (s:=s) (t':=tk+1) (ch:=[e,it]) I hf (λc o NZ q=>(L.2 c (λz=>NZ (by simp [z]))).trans (hk c o (λz=>NZ (by simp [z])) (λz=>NZ (by simp [z])) q)) (λc g=>?_) (Qs _) ⟨dI,[.int i tk,r], .cons ⟨tk,rfl⟩ (.cons ru .nil),⟨_,Pa,rfl,_,rfl⟩⟩
   rcases Qn.mp g with rfl|g
   ·exact ⟨_,Sy⟩
   ·obtain rfl:c=it:=by simpa using g
    obtain ⟨o,z,_⟩:=NM.1.obj;exact ⟨o,(L.2 _ m.symm).trans z⟩
  ·have Ny:c<s.heap.objs.size:=by
    rcases Qn.mp g with rfl|g
    ·exact Sv
    ·obtain rfl:c=it:=by simpa using g
     exact t
   rw [zP (QO Ny)];exact (hf c g).1
 done:=by
  intro X D hw hK g i pins s σ H E I hf st hg;subst D hw hK;obtain ⟨⟨old,he⟩,hit⟩:=st;obtain ⟨xs,G,N⟩:=hg;obtain ⟨its,M,p,hz⟩:=seB I G;have U:=I.ok.hd g;have hl:=M.length;obtain ⟨f0,f1,f2,f3,f4,f5⟩:=hf it (by simp);have J:s.TypeIs (.ref e) "enumerate":=⟨_,he,rfl⟩;unfold pyNext;refine Qc (jaD (QY (name:=Str.ofString "__next__") J F.slot_enumerate_next (Th F.slot_enumerate_next J F.entry_enumerate_next ?_ (F.args_enumerate_next_1 _))));show wpAny _ _ (field (.ref e) 2>>=_) _ _ _;refine Qc (TN he rfl (x:= .ref it) rfl ?_);refine Qc (WH (A:=X.A.in1) U hit p (by simp;lia) λh' y Z NJ=>?_);obtain ⟨o,O,OG⟩:=NJ;refine Qc (wpAny_isInstance (T:="StopIteration") (b:=true) ⟨o,O,OG⟩ isSubtype_stop ?_);exact Ql ⟨rfl,I.turned (t':=s.toks) (λc o hb e=>Z c o hb e) f0 f1 f3 f4 f5⟩
 self:=λ_ _ _ _ _ st h=>by
  obtain ⟨⟨old,he⟩,_⟩:=st;exact wpAny_pyIter_enum he h
def oI (l:Addr) (items:Array Value) (n:Nat) (q:Option Addr) (sl:Array (Option Value)):
 Meets (Builtin.«enumerate.__new__» ⟨[.type "enumerate", .ref l],[]⟩) (λ_ R s=>s.heap.get? l=some {cls:= .type "tuple",dict:=q,data:= .seq items n,slots:=sl}/\
  R (.ok (.ret (.ref (s.heap.push {cls:= .type "tuple_iterator",data:= .fields #[.ref l, .int 0 0]}).objs.size)))
    {s with heap:=(s.heap.push {cls:= .type "tuple_iterator",data:= .fields #[.ref l, .int 0 0]}).push {cls:= .type "enumerate",data:= .fields #[.none, .bool false, .ref s.heap.objs.size,rawInt 0, .none, .none]}}):=
 .of_wp λprog w A R s h=>by
  obtain ⟨hp,g,d,tk,os⟩:=s;obtain ⟨m,h⟩:=h;have r:=sub_enumerate;have p:Heap.IsTuple (Shared.heap ⟨hp,g,d,tk,os⟩) l items:=⟨_,m,rfl,n,rfl⟩
  wp_walk using jbj m
  refine wpAny_stack_any λst=>Ql ?_
  split
  ·rename_i c _ _ _ _ _;cases (c==Value.type "enumerate")
   ·wp_walk using jbj m,jam p
    exact ⟨_,rfl,h⟩
   ·wp_walk using jbj m,jam p
    exact ⟨_,rfl,h⟩
  ·wp_walk using jbj m,jam p
   exact ⟨_,rfl,h⟩
def An (q:SeB b s.heap l items)
 (h:∀h',IsEnum h' (s.heap.objs.size+1) s.heap.objs.size 0 .none->ItB b h' s.heap.objs.size l 0->h'.objs.size=s.heap.objs.size+2->
  (∀b o,s.heap.get? b=some o->h'.get? b=some o)->Q (.ref (s.heap.objs.size+1)) {s with heap:=h'}):
 wpAny (model prog w) A (call (.type "enumerate") [.ref l]) Q E s:=by
 cases b with
 |true=>exact call_enumerate_list q h
 |false=>
  obtain ⟨⟨c,p,t,sl⟩,r,m,n,hd⟩:=q
  replace m:c= .type "tuple":=m
  replace hd:t= .seq items n:=hd
  subst m hd
  refine callType_new F.called_enumerate nofun (F.typeCall_enumerate_1 _) (F.newCall_enumerate_1 _) (λobj=>F.args_object_init_2 obj _) F.entry_enumerate_new
   (oI l items n p sl) ⟨r,?_⟩
  have g:(s.heap.push {cls:= .type "tuple_iterator",data:= .fields #[.ref l, .int 0 0]}).objs.size=s.heap.objs.size+1:=QS ..;show _/\_;rw [g]
  have he:IsEnum ((s.heap.push {cls:= .type "tuple_iterator",data:= .fields #[.ref l, .int 0 0]}).push
   {cls:= .type "enumerate",data:= .fields #[.none, .bool false, .ref s.heap.objs.size,rawInt 0, .none, .none]}) (s.heap.objs.size+1) s.heap.objs.size 0 .none:=by
   have:=Qu (s.heap.push {cls:= .type "tuple_iterator",data:= .fields #[.ref l, .int 0 0]})
    (o:={cls:= .type "enumerate",data:= .fields #[.none, .bool false, .ref s.heap.objs.size,rawInt 0, .none, .none]}) rfl
   rw [g] at this;exact this
  refine ⟨⟨_,he,rfl⟩,h _ he ⟨_,Qi _ (Qu _ rfl),rfl,rfl⟩ (by rw [QS,g]) λb o x=>Qi _ (Qi _ x)⟩
section
def iEnum (b:Bool) (K:Frg) (g:TA):TI:=λσ H R=>g σ H λvs H1=>∃a,vs=[.ref a]/\(∃xs,SqB b K H1 a xs)/\R (ItE b K a) H1
def pi_enum (b:Bool) {elts:List Expr} {k:Nat} {m:Pos} {a:Expr} {t:TA} {p pos:Pos} (L:Gl X "enumerate") (hm:X.mg "enumerate"=none) (ha:PA X [a] t) (D:starEach [a] X.env=[(false,eval a X.env)]:=by rfl):
 PI X (.Tuple elts k m) (.Call (.Name "enumerate" p) [a] [] pos) (iEnum b X.K t):=by
 intro pins s σ H R I h;refine Call_ (XU I L hm pC (Tn (thn (ha pos pins s σ H _ I h) ?_) D rfl));rintro us s1 ⟨vs,H1,g,A,C⟩;obtain ⟨l,e,⟨xs,G⟩,q⟩:=C;subst e;obtain ⟨u,rfl,ru⟩:=ae A;cases (show u=Value.ref l from ru);obtain ⟨its,N,w,O⟩:=seB g G;refine An w λh' he hit hsz J=>wpAny_pyIter_enum he ?_;have M:Inv X pins σ H1 {s1 with heap:=h'}:=g.kept (t':=s1.toks) J;have y:l<s1.heap.objs.size:=by obtain ⟨o,z⟩:=w.obj;exact Qt z
 refine ⟨s1.heap.objs.size+1,[s1.heap.objs.size+1,s1.heap.objs.size],_,_,H1,rfl,M,Ba b l _ _ (QO y) (Nat.succ_ne_self _) (jay (TK y)),⟨⟨_,he⟩,hit⟩,λc r=>?_,q⟩
 rcases Qn.mp r with rfl|r
 ·exact g.fpOk (jal _) (g.hok.fresh (jal _))
 ·obtain rfl:c=s1.heap.objs.size:=by simpa using r
  exact g.fpOk (Qs _) (g.hok.fresh (Qs _))
end
def ItB.extBut (x:ItB b h it a i) (g:Heap.ExtBut c h h') (m:it≠c):ItB b h' it a i:=x.at λo e=>g _ o m e
def SeB.extBut (x:SeB b h a items) (g:Heap.ExtBut c h h') (m:a≠c):SeB b h' a items:=x.at λo e=>g _ o m e
section
open PySem
def mW {p t:Bool} {z TI TO r q I G:Addr} {L K:Nat} {xs ys:Array Value} {x y a b:Value} {Q:Value->Shared->Prop} (D:ZipApart z TI TO r q I G)
 (g:IsZip s.heap z TI TO .none) (Of:IsPair s.heap TI (.ref r) (.ref q)) (m:IsPair s.heap TO a b)
 (C:ItB p s.heap r I L) (u:ItB t s.heap q G K) (ON:SeB p s.heap I xs) (Ov:SeB t s.heap G ys) (Z:xs[L]? =some x) (Y:ys[K]? =some y)
 (hQ:∀h',IsZip h' z TI TO (rawInt s.heap.objs.size)->IsPair h' TO x y->ItB p h' r I (L+1)->ItB t h' q G (K+1)->IsPair h' s.heap.objs.size x y->h'.objs.size=s.heap.objs.size+1->
  (∀c o,c≠z->c≠TO->c≠r->c≠q->s.heap.get? c=some o->h'.get? c=some o)->Q (.ref s.heap.objs.size) {s with heap:=h'}):
 wpAny (model prog w) A (Builtin.«zip.__next__» ⟨[.ref z],[]⟩) (λfin X=>∃v,fin= .done (.ret v)/\Q v X) E s:=by
 show wpAny _ _ (field (.ref z) 2>>=_) _ _ _;refine Qc (TN g rfl (x:= .bool false) rfl ?_);show wpAny _ _ (field (.ref z) 3>>=_) _ _ _;refine Qc (TN g rfl (x:= .ref TI) rfl ?_);refine Qc (jau Of rfl ?_);show wpAny _ _ (Builtin.SmallTypes.ownedTupleIsFree (.ref z)>>=_) _ _ _;refine Qc ?_;unfold Builtin.SmallTypes.ownedTupleIsFree;refine Qc (TN g rfl (x:= .none) rfl (Ql ?_));simp only [if_true];refine Qc (jbO ?_);refine Qc (TN g rfl (x:= .ref TO) rfl ?_);refine Qc (jaI g (by simp) λh₁ g₁ hs₁=>?_)
 replace g₁:IsZip h₁ z TI TO .ellipsis:=g₁
 refine Qc ?_;simp only [List.zipIdx_cons,List.zipIdx_nil,List.forIn_cons,List.forIn_nil];refine Qc (Qc (wpAny_onRaise ?_));show wpAny _ _ (Builtin.SmallTypes.nextOf (.ref r)>>=_) _ _ _;refine Qc (ZO (C.extBut hs₁.extBut D.i1z) (ON.extBut hs₁.extBut D.l1z) Z λh₂ C₂ hs₂=>Ql ?_);have m₂:IsPair h₂ TO a b:=hs₂.extBut _ _ D.TOi1 (hs₁.extBut _ _ D.TOz m);refine Qc (jau m₂ rfl ?_);refine Qc (wpAny_updateSeq_pair m₂ λh₃ m₃ hs₃=>?_)
 replace m₃:IsPair h₃ TO x b:=m₃
 refine Qc (wpAny_letGo (Ql ?_));refine Qc (Qc (wpAny_onRaise ?_));show wpAny _ _ (Builtin.SmallTypes.nextOf (.ref q)>>=_) _ _ _
 refine Qc (ZO (((u.extBut hs₁.extBut D.i2z).extBut hs₂.extBut D.i12.symm).extBut hs₃.extBut D.TOi2.symm)
  (((Ov.extBut hs₁.extBut D.l2z).extBut hs₂.extBut D.l2i1).extBut hs₃.extBut D.l2TO) Y λh₄ u₄ hs₄=>Ql ?_)
 have m₄:IsPair h₄ TO x b:=hs₄.extBut _ _ D.TOi2 m₃;refine Qc (jau m₄ rfl ?_);refine Qc (wpAny_updateSeq_pair m₄ λh₅ m₅ hs₅=>?_)
 replace m₅:IsPair h₅ TO x y:=m₅
 refine Qc (wpAny_letGo (Ql (Ql ?_)));refine Qc (jau m₅ rfl ?_);refine Qc (wpAny_newTuple ?_);have hsz:h₅.objs.size=s.heap.objs.size:=by rw [hs₅.1,hs₄.1,hs₃.1,hs₂.1,hs₁.1]
 have g₅:IsZip h₅ z TI TO .ellipsis:=hs₅.extBut _ _ D.TOz.symm (hs₄.extBut _ _ D.i2z.symm (hs₃.extBut _ _ D.TOz.symm (hs₂.extBut _ _ D.i1z.symm g₁)))
 have hk₅:∀c o,c≠z->c≠TO->c≠r->c≠q->s.heap.get? c=some o->h₅.get? c=some o:=λc o p t T P e=>
  hs₅.extBut _ _ t (hs₄.extBut _ _ P (hs₃.extBut _ _ t (hs₂.extBut _ _ T (hs₁.extBut _ _ p e))))
 have C₅:ItB p h₅ r I (L+1):=((C₂.extBut hs₃.extBut D.TOi1.symm).extBut hs₄.extBut D.i12).extBut hs₅.extBut D.TOi1.symm;have u₅:ItB t h₅ q G (K+1):=u₄.extBut hs₅.extBut D.TOi2.symm;have U:z<h₅.objs.size:=Qt g₅;have O:TO<h₅.objs.size:=Qt m₅;have N:r<h₅.objs.size:=by obtain ⟨_,e,_⟩:=C₅.obj;exact Qt e
 have M:q<h₅.objs.size:=by obtain ⟨_,e,_⟩:=u₅.obj;exact Qt e
 show wpAny _ _ (Builtin.SmallTypes.ownedTupleHandOut (.ref z) (.ref h₅.objs.size)>>=_) _ _ _;refine Qc ?_;unfold Builtin.SmallTypes.ownedTupleHandOut;have g₆:IsZip (h₅.push {cls:= .type "tuple",data:= .seq #[x,y]}) z TI TO .ellipsis:=Qi _ g₅;refine Qc (jaI g₆ (by simp) λh₇ g₇ hs₇=>?_)
 replace g₇:IsZip h₇ z TI TO (rawInt h₅.objs.size):=g₇
 refine jaI g₇ (by simp) λh₈ g₈ hs₈=>?_
 replace g₈:IsZip h₈ z TI TO (rawInt h₅.objs.size):=g₈
 have up:∀c o,c≠z->h₅.get? c=some o->h₈.get? c=some o:=λc o p e=>hs₈.extBut _ _ p (hs₇.extBut _ _ p (Qi _ e));have hT₈:IsPair h₈ h₅.objs.size x y:=hs₈.extBut _ _ (jay U) (hs₇.extBut _ _ (jay U) (Qu _ rfl));have J:h₈.objs.size=h₅.objs.size+1:=by rw [hs₈.1,hs₇.1,QS]
 rw [hsz] at g₈ hT₈ J;refine Ql ⟨_,rfl,?_⟩;show Q (.ref h₅.objs.size) _;rw [hsz];exact hQ h₈ g₈ (up _ _ D.TOz m₅) (C₅.at λo e=>up _ o D.i1z e) (u₅.at λo e=>up _ o D.i2z e) hT₈ J λc o p t T P e=>up c o p (hk₅ c o p t T P e)
def td {m C:Bool} {z TI TO t r J I:Addr} {L K:Nat} {xs ys:Array Value} {a b:Value} {Q:Fin->Shared->Prop} (O:A.handled=none) (D:ZipApart z TI TO t r J I)
 (g:IsZip s.heap z TI TO .none) (Of:IsPair s.heap TI (.ref t) (.ref r)) (y:IsPair s.heap TO a b)
 (M:ItB m s.heap t J L) (X:ItB C s.heap r I K) (T:SeB m s.heap J xs) (Ov:SeB C s.heap I ys) (Z:xs[L]? =none\/ys[K]? =none)
 (P:∀h' e,(∀c o,c≠z->c≠TO->c≠t->c≠r->s.heap.get? c=some o->h'.get? c=some o)->(∃o,h'.get? e=some o/\o.cls= .type "StopIteration")->E (.ref e) {s with heap:=h'}):
 wpAny (model prog w) A (Builtin.«zip.__next__» ⟨[.ref z],[]⟩) Q E s:=by
 show wpAny _ _ (field (.ref z) 2>>=_) _ _ _;refine Qc (TN g rfl (x:= .bool false) rfl ?_);show wpAny _ _ (field (.ref z) 3>>=_) _ _ _;refine Qc (TN g rfl (x:= .ref TI) rfl ?_);refine Qc (jau Of rfl ?_);show wpAny _ _ (Builtin.SmallTypes.ownedTupleIsFree (.ref z)>>=_) _ _ _;refine Qc ?_;unfold Builtin.SmallTypes.ownedTupleIsFree;refine Qc (TN g rfl (x:= .none) rfl (Ql ?_));simp only [if_true];refine Qc (jbO ?_);refine Qc (TN g rfl (x:= .ref TO) rfl ?_);refine Qc (jaI g (by simp) λh₁ g₁ hs₁=>?_)
 replace g₁:IsZip h₁ z TI TO .ellipsis:=g₁
 refine Qc ?_;simp only [List.zipIdx_cons,List.zipIdx_nil,List.forIn_cons,List.forIn_nil];refine Qc (Qc (wpAny_onRaise ?_));show wpAny _ _ (Builtin.SmallTypes.nextOf (.ref t)>>=_) _ _ _
 cases hx:xs[L]? with
 |none=>
  refine Qc (WH O (M.extBut hs₁.extBut D.i1z) (T.extBut hs₁.extBut D.l1z) hx λh₂ e hs₂ he=>?_);obtain ⟨G,q,u⟩:=he;have g₂:IsZip h₂ z TI TO .ellipsis:=hs₂ _ _ D.i1z.symm g₁;have p:e≠z:=λx=>by subst x;rw [g₂] at q;cases q;simp at u
  refine jaI g₂ (by simp) λh₃ _ hs₃=>P h₃ e (λc o m _ N _ x=>hs₃.extBut _ _ m (hs₂ _ _ N (hs₁.extBut _ _ m x))) ⟨G,hs₃.extBut _ _ p q,u⟩
 |some x=>
  have U:ys[K]? =none:=by rcases Z with h|h;rw [hx] at h;cases h;exact h
  refine Qc (ZO (M.extBut hs₁.extBut D.i1z) (T.extBut hs₁.extBut D.l1z) hx λh₂ M₂ hs₂=>Ql ?_);have y₂:IsPair h₂ TO a b:=hs₂.extBut _ _ D.TOi1 (hs₁.extBut _ _ D.TOz y);refine Qc (jau y₂ rfl ?_);refine Qc (wpAny_updateSeq_pair y₂ λh₃ y₃ hs₃=>?_);refine Qc (wpAny_letGo (Ql ?_));refine Qc (Qc (wpAny_onRaise ?_));show wpAny _ _ (Builtin.SmallTypes.nextOf (.ref r)>>=_) _ _ _
  refine Qc (WH O (((X.extBut hs₁.extBut D.i2z).extBut hs₂.extBut D.i12.symm).extBut hs₃.extBut D.TOi2.symm)
   (((Ov.extBut hs₁.extBut D.l2z).extBut hs₂.extBut D.l2i1).extBut hs₃.extBut D.l2TO) U λh₄ e hs₄ he=>?_)
  obtain ⟨G,q,u⟩:=he;have g₄:IsZip h₄ z TI TO .ellipsis:=hs₄ _ _ D.i2z.symm (hs₃.extBut _ _ D.TOz.symm (hs₂.extBut _ _ D.i1z.symm g₁));have p:e≠z:=λx=>by subst x;rw [g₄] at q;cases q;simp at u
  refine jaI g₄ (by simp) λh₅ _ hs₅=>P h₅ e (λc o m C N Y x=>hs₅.extBut _ _ m (hs₄ _ _ Y (hs₃.extBut _ _ C (hs₂.extBut _ _ N (hs₁.extBut _ _ m x))))) ⟨G,hs₅.extBut _ _ p q,u⟩
end
def ItZ (m g:Bool) (K:Frg) (a1 a2:Addr):It:=
 ⟨λi H=>∃xs ys x y,SqB m K H a1 xs/\SqB g K H a2 ys/\xs[i]? =some x/\ys[i]? =some y,
  λi H v H'=>∃p x y,(∀xs,SqB m K H a1 xs->xs[i]? =some x)/\(∀ys,SqB g K H a2 ys->ys[i]? =some y)/\H p=none/\v= .ref p/\H'=upd H p (.tup [x,y]),
  λi H=>∃xs ys,SqB m K H a1 xs/\SqB g K H a2 ys/\(xs.length<=i\/ys.length<=i)⟩
def Fz {P:Program} {w:World} {K:Frg} {elts:List Expr} {k:Nat} {pos:Pos} (c1 c2:Bool) (z TI TO t p l1 l2:Addr) (D:ZipApart z TI TO t p l1 l2):
 Turn P w K (.Tuple elts k pos) (ItZ c1 c2 K l1 l2) [z,TI,TO,t,p] z (λi h=>IsZip h z TI TO .none/\IsPair h TI (.ref t) (.ref p)/\(∃a b,IsPair h TO a b)/\ItB c1 h t l1 i/\ItB c2 h p l2 i) where
 mem:=by simp
 obj:=λi h st c C=>by
  obtain ⟨G,J,⟨a,b,O⟩,N,M⟩:=st;simp only [Qn,Qm,or_false] at C
  rcases C with rfl|rfl|rfl|rfl|rfl
  ·exact ⟨_,G,λv q=>by cases q⟩
  ·exact ⟨_,J,λv q=>by cases q⟩
  ·exact ⟨_,O,λv q=>by cases q⟩
  ·exact N.obj
  ·exact M.obj
 keep:=λi h h' st Y=>by
  obtain ⟨G,J,⟨a,b,O⟩,N,M⟩:=st;exact ⟨Y z (by simp) _ G,Y TI (by simp) _ J,⟨a,b,Y TO (by simp) _ O⟩,N.at λo e=>Y t (by simp) o e,M.at λo e=>Y p (by simp) o e⟩
 item:=by
  intro X hP hw hK C i pins s σ H E I hf st hg;subst hP hw hK;obtain ⟨G,J,⟨a,b,O⟩,N,M⟩:=st;obtain ⟨xs,ys,x,y,Po,PF,hx,hy⟩:=hg;obtain ⟨Pm,Ra,p1,_⟩:=seB I Po;obtain ⟨OK,PZ,p2,_⟩:=seB I PF;obtain ⟨u1,hu1,RY⟩:=Ra.get hx;obtain ⟨u2,hu2,RX⟩:=PZ.get hy;have hT:s.TypeIs (.ref z) "zip":=⟨_,G,rfl⟩;unfold pyNext
  refine Qc (jaD (QY (name:=Str.ofString "__next__") hT F.slot_zip_next (Th F.slot_zip_next hT F.entry_zip_next
   (mW D G J O N M p1 p2 (x:=u1) (y:=u2) ‹hu1› ‹hu2› λh' a1 a2 a3 a4 a5 a6 L=>Ql ?_) (F.args_zip_next_1 _))))
  refine ⟨_,rfl,wpAny_letOwnedTupleGo_zip a1 λU hz'' OM=>?_⟩;have lt:∀{c o},s.heap.get? c=some o->c<s.heap.objs.size:=λe=>Qt e;have i1lt:t<s.heap.objs.size:=by obtain ⟨_,e,_⟩:=N.obj;exact lt e
  have Z:p<s.heap.objs.size:=by obtain ⟨_,e,_⟩:=M.obj;exact lt e
  have hTI':IsPair h' TI (.ref t) (.ref p):=L _ _ D.TIz D.TITO D.TIi1 D.TIi2 J;have up:∀c o,c≠z->h'.get? c=some o->U.get? c=some o:=λc o C e=>(OM.2 c C).trans e;have Pa:U.get? s.heap.objs.size=some {cls:= .type "tuple",data:= .seq #[u1,u2]}:=up _ _ (jay (lt G)) a5
  have RU:IsZip U z TI TO .none/\IsPair U TI (.ref t) (.ref p)/\(∃a b,IsPair U TO a b)/\ItB c1 U t l1 (i+1)/\ItB c2 U p l2 (i+1):=
   ⟨hz'',up _ _ D.TIz hTI',⟨u1,u2,up _ _ D.TOz a2⟩,a3.at λo e=>up _ o D.i1z e,a4.at λo e=>up _ o D.i2z e⟩
  refine ⟨.ref s.heap.objs.size,upd H s.heap.objs.size (.tup [x,y]),?_,rfl,⟨_,x,y,λzs hy=>by rw [qC I hy Po];exact hx,λzs NX=>by rw [qC I NX PF];exact hy,I.fresh,rfl,rfl⟩,RU,λc C=>?_⟩
  ·refine UQ (s:=s) (t':=s.toks) (ch:=[z,TI,TO,t,p]) I hf (λc o g q=>?_) (λc C=>?_) (Qs _) ⟨dI,[u1,u2], .cons RY (.cons RX .nil),⟨_,Pa,rfl,_,rfl⟩⟩
   ·have n1:c≠z:=λe=>g (by simp [e]);exact up c o n1 (L c o n1 (λe=>g (by simp [e])) (λe=>g (by simp [e])) (λe=>g (by simp [e])) q)
   ·obtain ⟨z1,z2,⟨_,_,z3⟩,z4,z5⟩:=RU;simp only [Qn,Qm,or_false] at C
    rcases C with rfl|rfl|rfl|rfl|rfl
    ·exact ⟨_,z1⟩
    ·exact ⟨_,z2⟩
    ·exact ⟨_,z3⟩
    ·obtain ⟨o,e,_⟩:=z4.obj;exact ⟨o,e⟩
    ·obtain ⟨o,e,_⟩:=z5.obj;exact ⟨o,e⟩
  ·have Ny:c<s.heap.objs.size:=by
    simp only [Qn,Qm,or_false] at C
    rcases C with rfl|rfl|rfl|rfl|rfl
    ·exact lt G
    ·exact lt J
    ·exact lt O
    ·exact i1lt
    ·exact Z
   rw [zP (QO Ny)];exact (hf c C).1
 done:=by
  intro X hP hw hK C i pins s σ H E I hf st hg;subst hP hw hK;obtain ⟨G,J,⟨a,b,O⟩,N,M⟩:=st;obtain ⟨xs,ys,Po,PF,Rq⟩:=hg;obtain ⟨Pm,Ra,p1,_⟩:=seB I Po;obtain ⟨OK,PZ,p2,_⟩:=seB I PF;have e1:=Ra.length;have e2:=PZ.length;have hh:=I.ok.hd C;have hT:s.TypeIs (.ref z) "zip":=⟨_,G,rfl⟩;unfold pyNext
  refine Qc (jaD (QY (name:=Str.ofString "__next__") hT F.slot_zip_next (Th F.slot_zip_next hT F.entry_zip_next
   (td (A:=X.A.in1) hh D G J O N M p1 p2 (by simp only [List.getElem?_toArray];rcases Rq with q|q;exact .inl (QC ⋯);exact .inr (QC ⋯)) λh' e L he=>?_) (F.args_zip_next_1 _))))
  obtain ⟨o,ho,OG⟩:=he;refine Qc (wpAny_isInstance (T:="StopIteration") (b:=true) ⟨o,ho,OG⟩ isSubtype_stop ?_);refine Ql ⟨rfl,?_⟩
  refine I.step (g':=s.gens) (d':=s.drawn) (t':=s.toks) (H':=H) (ch:=[z,TO,t,p]) (λb hb=>?_) (λb u _ _ g e _=>L b u (λq=>g (by simp [q])) (λq=>g (by simp [q])) (λq=>g (by simp [q])) (λq=>g (by simp [q])) e)
   (λb u _ _ g e _=>⟨u.slots,L b u (λq=>g (by simp [q])) (λq=>g (by simp [q])) (λq=>g (by simp [q])) (λq=>g (by simp [q])) e⟩) (λ_ _ _ _ n=>n)
   (λb u g e=>⟨u,L b u (λq=>g (by simp [q])) (λq=>g (by simp [q])) (λq=>g (by simp [q])) (λq=>g (by simp [q])) e⟩) (λ_ _ e=>e) (λ_ _ _ e=>e) (λb ps e=>⟨#[],by rw [e];simp⟩) (λm hm=>?_) (λb u e=>?_) I.bare
  ·have OA:b∈[z,TI,TO,t,p]:=by
    simp only [Qn,Qm,or_false] at hb⊢
    rcases hb with q|q|q|q<;>simp [q]
   exact ⟨(hf b OA).2.2.2.1,(hf b OA).2.1,(hf b OA).2.2.2.2.1,(hf b OA).2.2.2.2.2⟩
  ·obtain ⟨ob,es,ep,ho,r⟩:=hm;exact ⟨ob,es,ep,L _ ob (λq=>(hf z (by simp)).2.1 q.symm) (λq=>(hf TO (by simp)).2.1 q.symm) (λq=>(hf t (by simp)).2.1 q.symm) (λq=>(hf p (by simp)).2.1 q.symm) ho,r⟩
  ·refine (I.hok b u e).stay (λc v hcc q=>?_) (λ_ q=>q) λ_ _ q=>q
   have nf:∀d∈[z,TI,TO,t,p],c≠d:=λd hd z=>by
    subst z
    rcases hcc with q|q
    ·rw [<-q,(hf _ hd).1] at e;cases e
    ·rw [(hf _ hd).1] at q;cases q
   exact L c v (nf z (by simp)) (nf TO (by simp)) (nf t (by simp)) (nf p (by simp)) q
 self:=λ_ _ _ _ _ st h=>wpAny_pyIter_zip st.1 h
def Ho (b:Bool) (l:Addr):Obj:={cls:= .type (match b with|true=>"list_iterator"|false=>"tuple_iterator"),data:= .fields #[.ref l, .int 0 0]}
abbrev zB1 (m:Bool) (h:Heap) (g:Addr):Heap:=h.push (Ho m g)
abbrev zB2 (q p:Bool) (h:Heap) (m g:Addr):Heap:=(zB1 q h m).push (Ho p g)
abbrev zB3 (m q:Bool) (h:Heap) (g p:Addr):Heap:=(zB2 m q h g p).push {cls:= .type "tuple",data:= .seq #[.ref h.objs.size, .ref (zB1 m h g).objs.size]}
abbrev zB4 (q p:Bool) (h:Heap) (m g:Addr):Heap:=(zB3 q p h m g).push {cls:= .type "tuple",data:= .seq #[.none, .none]}
abbrev zB5 (q p:Bool) (h:Heap) (m g:Addr):Heap:=(zB4 q p h m g).push {cls:= .type "zip",data:= .fields #[.none, .bool false, .bool false, .ref (zB2 q p h m g).objs.size, .ref (zB3 q p h m g).objs.size]}
def SeB.push (x:SeB b h a items) (o:Obj):SeB b (h.push o) a items:=x.at λ_ e=>Qi _ e
def wx (u r:Bool) (m p:Addr) (xs ys:Array Value):
 Meets (Builtin.«zip.__new__» ⟨[.type "zip", .ref m, .ref p],[]⟩) (λ_ R s=>SeB u s.heap m xs/\SeB r s.heap p ys/\
  R (.ok (.ret (.ref (zB4 u r s.heap m p).objs.size))) {s with heap:=zB5 u r s.heap m p}):=
 .of_wp λprog w A R s h=>by
  obtain ⟨hp,g,d,tk,os⟩:=s;obtain ⟨C,y,h⟩:=h;have z:=sub_zip
  cases u with
  |true=>
   have t:Heap.IsList (Shared.heap ⟨hp,g,d,tk,os⟩) m xs:=C
   cases r with
   |true=>
    have q:Heap.IsList (Shared.heap ⟨hp.push {cls:= .type "list_iterator",data:= .fields #[.ref m, .int 0 0]},g,d,tk,os⟩) p ys:=SeB.push (b:=true) y _
    wp_walk using jaT t,jaT q
    exact ⟨_,rfl,h⟩
   |false=>
    have q:Heap.IsTuple (Shared.heap ⟨hp.push {cls:= .type "list_iterator",data:= .fields #[.ref m, .int 0 0]},g,d,tk,os⟩) p ys:=SeB.push (b:=false) y _
    wp_walk using jaT t,jam q
    exact ⟨_,rfl,h⟩
  |false=>
   have t:Heap.IsTuple (Shared.heap ⟨hp,g,d,tk,os⟩) m xs:=C
   cases r with
   |true=>
    have q:Heap.IsList (Shared.heap ⟨hp.push {cls:= .type "tuple_iterator",data:= .fields #[.ref m, .int 0 0]},g,d,tk,os⟩) p ys:=SeB.push (b:=true) y _
    wp_walk using jam t,jaT q
    exact ⟨_,rfl,h⟩
   |false=>
    have q:Heap.IsTuple (Shared.heap ⟨hp.push {cls:= .type "tuple_iterator",data:= .fields #[.ref m, .int 0 0]},g,d,tk,os⟩) p ys:=SeB.push (b:=false) y _
    wp_walk using jam t,jam q
    exact ⟨_,rfl,h⟩
def uw (e:h.get? it=some (Ho b l)):ItB b h it l 0:=by
 cases b with
 |true=>exact ⟨_,e,rfl,rfl⟩
 |false=>exact ⟨_,e,rfl,rfl⟩
def jD (b:Bool) (l:Addr):(Ho b l).isFreed=false:=by cases b<;>rfl
def pf (t:SeB c1 s.heap l1 xs) (r:SeB c2 s.heap l2 ys)
 (h:∀h',IsZip h' (s.heap.objs.size+4) (s.heap.objs.size+2) (s.heap.objs.size+3) .none->IsPair h' (s.heap.objs.size+2) (.ref s.heap.objs.size) (.ref (s.heap.objs.size+1))->
  IsPair h' (s.heap.objs.size+3) .none .none->ItB c1 h' s.heap.objs.size l1 0->ItB c2 h' (s.heap.objs.size+1) l2 0->
  (∀c o,s.heap.get? c=some o->h'.get? c=some o)->Q (.ref (s.heap.objs.size+4)) {s with heap:=h'}):
 wpAny (model prog w) A (call (.type "zip") [.ref l1, .ref l2]) Q E s:=by
 refine callType_new F.called_zip nofun (F.typeCall_zip_2 _ _) (F.newCall_zip_2 _ _) (λobj=>F.args_object_init_3 obj _ _) F.entry_zip_new
  (wx c1 c2 l1 l2 xs ys) ⟨t,r,?_⟩
 have z1:(zB1 c1 s.heap l1).objs.size=s.heap.objs.size+1:=QS ..;have z2:(zB2 c1 c2 s.heap l1 l2).objs.size=s.heap.objs.size+2:=by rw [QS,z1]
 have g:(zB3 c1 c2 s.heap l1 l2).objs.size=s.heap.objs.size+3:=by rw [QS,z2]
 have p:(zB4 c1 c2 s.heap l1 l2).objs.size=s.heap.objs.size+4:=by rw [QS,g]
 have m:(zB5 c1 c2 s.heap l1 l2).get? (zB4 c1 c2 s.heap l1 l2).objs.size=some _:=Qu _ rfl;have q:(zB5 c1 c2 s.heap l1 l2).get? (zB3 c1 c2 s.heap l1 l2).objs.size=some _:=Qi _ (Qu _ rfl);have g3:(zB5 c1 c2 s.heap l1 l2).get? (zB2 c1 c2 s.heap l1 l2).objs.size=some _:=Qi _ (Qi _ (Qu _ rfl));have g2:(zB5 c1 c2 s.heap l1 l2).get? (zB1 c1 s.heap l1).objs.size=some _:=Qi _ (Qi _ (Qi _ (Qu _ (jD c2 l2))));have g1:(zB5 c1 c2 s.heap l1 l2).get? s.heap.objs.size=some _:=Qi _ (Qi _ (Qi _ (Qi _ (Qu _ (jD c1 l1)))));show _/\_;rw [z2,g,p] at m;rw [z1,z2] at g3;rw [g] at q;rw [z1] at g2;rw [p];exact ⟨⟨_,m,rfl⟩,h _ m g3 q (uw g1) (uw g2) λc o x=>Qi _ (Qi _ (Qi _ (Qi _ (Qi _ x))))⟩
section
def iZip (m g:Bool) (K:Frg) (p:TA):TI:=λσ H R=>p σ H λvs H1=>∃a1 a2,vs=[.ref a1, .ref a2]/\(∃xs,SqB m K H1 a1 xs)/\(∃ys,SqB g K H1 a2 ys)/\R (ItZ m g K a1 a2) H1
def pi_zip (D C:Bool) {elts:List Expr} {k:Nat} {g:Pos} {a b:Expr} {u:TA} {p pos:Pos} (T:Gl X "zip") (hm:X.mg "zip"=none) (ha:PA X [a,b] u) (O:starEach [a,b] X.env=[(false,eval a X.env),(false,eval b X.env)]:=by rfl) (G:starEach [b] X.env=[(false,eval b X.env)]:=by rfl):
 PI X (.Tuple elts k g) (.Call (.Name "zip" p) [a,b] [] pos) (iZip D C X.K u):=by
 intro pins s σ H R I h;refine Call_ (XU I T hm Jf (Tn (thn (ha pos pins s σ H _ I h) ?_) (by rw [O,G]) (by rw [G];rfl)));rintro us s1 ⟨vs,H1,m,M,N⟩;obtain ⟨t,r,e,⟨xs,Po⟩,⟨ys,PF⟩,q⟩:=N;subst e;obtain ⟨L,J,rfl,Z,RX⟩:=Fx M;cases (show L=Value.ref t from Z);cases (show J=Value.ref r from RX);obtain ⟨Pm,Ra,y,_⟩:=seB m Po;obtain ⟨OK,PZ,w,_⟩:=seB m PF;have U:t<s1.heap.objs.size:=by obtain ⟨o,z⟩:=y.obj;exact Qt z
 have Y:r<s1.heap.objs.size:=by obtain ⟨o,z⟩:=w.obj;exact Qt z
 refine pf y w λh' a1 a2 a3 a4 a5 P=>wpAny_pyIter_zip a1 ?_;have I2:Inv X pins σ H1 {s1 with heap:=h'}:=m.kept (t':=s1.toks) P;refine ⟨s1.heap.objs.size+4,[s1.heap.objs.size+4,s1.heap.objs.size+2,s1.heap.objs.size+3,s1.heap.objs.size,s1.heap.objs.size+1],_,_,H1,rfl,I2,Fz D C _ _ _ _ _ t r (zipApart_new U Y),⟨a1,a2,⟨_,_,a3⟩,a4,a5⟩,λc A=>?_,q⟩
 have hle:s1.heap.objs.size<=c:=by
  simp only [Qn,Qm,or_false] at A
  rcases A with z|z|z|z|z<;>rw [z]<;>first|exact Nat.le_add_right _ _|exact Qs _
 exact m.fpOk hle (m.hok.fresh hle)
end
end S
namespace S
open PySem PySem.Spec PyProof.Rows L2
def Jk (h0:0<=k) (h:xs[k.toNat]? =some v):atI xs k=some v:=by
 have g:k=((k.toNat:Nat):Int):=⋯
 rw [g];exact zW h
def eqv_fr (p q:Rat):PyData.eqv (frD p) (frD q)=decide (p=q):=by
 unfold frD;simp only [PyData.eqv,PyData.eqvAll,Bool.and_true]
 by_cases h:p=q
 ·subst h;simp
 ·rw [Tf h]
  by_cases m:p.num=q.num
  ·have r:p.den≠q.den:=λz=>h (Rat.ext m z);have g:((p.den:Int)==(q.den:Int))=false:=jaV.mpr (λz=>r (Int.ofNat.inj z));rw [g,Bool.and_false]
  ·have g:(p.num==q.num)=false:=jaV.mpr m;rw [g,Bool.false_and]
abbrev zi:=Rat×List Rat
section
end
def zS (qs:List Rat):PyData:= .tuple (qs.map frD)
def zY (c:zi):PyData:= .tuple [frD c.1,zS c.2]
def YF (cs:List zi):PyData:= .list (cs.map zY)
theorem ux {H:Hp} {α:Type} {R:α->V->Prop} {f:α->PyData} (g:∀a v,R a v->Is H (f a) v):∀{xs:List α} {vs:List V},xs.length=vs.length->(∀(i:Nat) (x:α) (v:V),xs[i]? =some x->vs[i]? =some v->R x v)->zC H (xs.map f) vs
 |[],[],_,_=>by rw [Tu,zC]
 |[],_::_,h,_=>by simp at h
 |_::_,[],h,_=>by simp at h
 |x::xs,v::vs,hl,h=>by
  rw [Qj,zC];exact ⟨v,vs,rfl,g x v (h 0 x v rfl rfl),ux g ‹hl› λi a b ha m=>h (i+1) a b ‹ha› ‹m›⟩
theorem fB {α:Type} {f:α->PyData} (h:∀a,(f a).canLay0=true):∀xs:List α,PyData.canLayAll0 (xs.map f)=true
 |[]=>rfl
 |x::xs=>by rw [Qj,PyData.canLayAll0,h x,fB h xs];rfl
theorem fM {α:Type} {f:α->PyData} {n:Nat} (h:∀a,(f a).depth<=n):∀xs:List α,PyData.depthAll (xs.map f)<=n
 |[]=>by rw [Tu,PyData.depthAll];exact jab _
 |x::xs=>by rw [Qj,PyData.depthAll];exact Nat.max_le.mpr ⟨h x,fM h xs⟩
def uo (q:Rat):(frD q).canLay0=true:=by unfold frD;simp [PyData.canLay0,PyData.canLayAll0]
def uL (q:Rat):(frD q).depth<=2:=by unfold frD;simp [PyData.depth,PyData.depthAll]
def Du (qs:List Rat):(zS qs).canLay0=true:=by unfold zS;rw [PyData.canLay0];exact fB uo qs
def En (qs:List Rat):(zS qs).depth<=3:=by unfold zS;rw [PyData.depth];exact Nat.succ_le_succ (fM uL qs)
def zL (g p m:zi):Prop:=∀(i:Nat) (a b c:Rat),g.2[i]? =some a->p.2[i]? =some b->m.2[i]? =some c->(b - a)*(m.1 - g.1)=(c - a)*(p.1 - g.1)
def lW (p q:Rat):Rat.divInt (q.num*p.den - p.num*q.den) (p.den*q.den)=q - p:=by
 rw [Rat.sub_def',Int.mul_comm (p.den:Int),<-Int.natCast_mul,Rat.divInt_ofNat]
def Er (q:rd≠0) (p:nd≠0) (m:wd≠0) (g:fd≠0):
 Rat.divInt rn rd*Rat.divInt fn fd=Rat.divInt wn wd*Rat.divInt nn nd↔rn*nd*wd*fn=wn*fd*rd*nn:=by
 rw [jaG,jaG,jbI (Int.mul_ne_zero q g) (Int.mul_ne_zero m p)];have s:rn*fn*(wd*nd)=rn*nd*wd*fn:=by grind
 have r:wn*nn*(rd*fd)=wn*fd*rd*nn:=by grind
 rw [s,r]
abbrev yN:=List (Addr×List PyData)
abbrev Dat:=List (PyData×V)
def ZE (G:Hp) (ds:Dat):Prop:=∀p∈ds,Is G p.1 p.2
def Has (ds:Dat) (x:PyData) (v:V):Prop:=∀G,ZE G ds->Is G x v
def zV (ds:Dat) (xs:List PyData) (vs:List V):Prop:=∀G,ZE G ds->zC G xs vs
def Jo (B g H:Hp) (cs:yN) (ds:Dat) (G:Hp):Prop:=
 zG g G/\zG G H/\zG B H/\(∀p,B p≠none->G p=g p)/\(∀c∈cs,B c.1=none/\G c.1=none/\∃vs,H c.1=some (.lst vs)/\zC G c.2 vs)/\(cs.map (·.1)).Nodup/\ZE G ds
def Sta (B g H:Hp) (cs:yN) (ds:Dat):Prop:=∃G,Jo B g H cs ds G
structure Grow (G H G' H':Hp):Prop where
 h:zG H H'
 g:zG G G'
 sub:zG G' H'
 old:∀p,H p≠none->G' p=G p
def ZE.mono (h:ZE G ds) (e:zG G G'):ZE G' ds:=λp hp=>Is.mono e _ _ (h p hp)
def ZE.cons (h:ZE G ds) (g:Is G x v):ZE G ((x,v)::ds):=λp hp=>by
 rcases Qn.mp hp with rfl|hp
 ·exact g
 ·exact h p hp
def Has.int:Has ds (.int i) (.int i):=λ_ _=>by rw [Is]
def Has.str:Has ds (.str i) (.str i):=λ_ _=>by rw [Is]
def Has.mem (h:(x,v)∈ds):Has ds x v:=λ_ a=>a _ h
def Has.weak (h:Has ds x v) (k:∀p∈ds,Has ds' p.1 p.2):Has ds' x v:=λG a=>h G λp hp=>k p hp G a
def Has.tail (h:Has ds x v):Has (p::ds) x v:=h.weak λq g=> .mem (Qe _ g)
def zV.nil:zV ds [] []:=λ_ _=>by rw [zC]
def zV.cons (h:Has ds x v) (g:zV ds xs vs):zV ds (x::xs) (v::vs):=λG a=>by
 rw [zC];exact ⟨v,vs,rfl,h G a,g G a⟩
theorem zC.len:∀{xs:List PyData} {vs:List V},zC H xs vs->xs.length=vs.length
 |[],vs,h=>by rw [zC] at h;subst h;rfl
 |x::xs,vs,h=>by
  rw [zC] at h;obtain ⟨v,r,rfl,_,g⟩:=h;rw [QE,QE,zC.len g]
theorem zC.at:∀{xs:List PyData} {vs:List V} {i:Nat} {x:PyData},zC H xs vs->xs[i]? =some x->∃v,vs[i]? =some v/\Is H x v
 |[],_,_,_,_,e=>by simp at e
 |y::xs,vs,i,x,h,e=>by
  rw [zC] at h;obtain ⟨v,r,rfl,m,g⟩:=h
  cases i with
  |zero=>simp at e;subst e;exact ⟨v,rfl,m⟩
  |succ i=>simpa using zC.at g ‹e›
theorem zC.app:∀{xs ys:List PyData} {vs ws:List V},zC H xs vs->zC H ys ws->zC H (xs++ys) (vs++ws)
 |[],ys,vs,ws,h,g=>by rw [zC] at h;subst h;exact g
 |x::xs,ys,vs,ws,h,g=>by
  rw [zC] at h;obtain ⟨v,r,rfl,p,m⟩:=h;rw [jaL,jaL,zC];exact ⟨v,_,rfl,p,zC.app m g⟩
def xW:zC H xs vs↔xs.length=vs.length/\∀(i:Nat) (x:PyData) (v:V),xs[i]? =some x->vs[i]? =some v->Is H x v:=by
 constructor
 ·intro h;refine ⟨h.len,λi x v m p=>?_⟩;obtain ⟨w,hw,g⟩:=h.at m;rw [p] at hw;cases hw;exact g
 ·rintro ⟨r,q⟩
  have:=ux (λ_ _ z=>z) r q
  simpa using this
def zC.take (h:zC H xs vs) (n:Nat):zC H (xs.take n) (vs.take n):=by
 rw [xW] at h⊢;refine ⟨by rw [jbd,jbd,h.1],λi x v g m=>?_⟩;rw [List.getElem?_take] at g m
 split at g
 ·rename_i c;rw [QD c] at m;exact h.2 i x v g m
 ·cases g
def zC.drop (h:zC H xs vs) (n:Nat):zC H (xs.drop n) (vs.drop n):=by
 rw [xW] at h⊢;refine ⟨by rw [jaJ,jaJ,h.1],λi x v g m=>?_⟩;rw [jao] at g m;exact h.2 _ x v g m
def zC.set (h:zC H xs vs) (g:Is H x v) (n:Nat):zC H (xs.set n x) (vs.set n v):=by
 rw [xW] at h⊢;refine ⟨by rw [jaF,jaF,h.1],λi y w p m=>?_⟩;rw [List.getElem?_set] at p m;rw [<-h.1] at m
 split at p
 ·rename_i c;rw [QD c] at m
  split at p
  ·rename_i q;rw [QD q] at m;cases p;cases m;exact g
  ·cases p
 ·rename_i c;rw [QI c] at m;exact h.2 i y w p m
section
def Sta.enter (e:zG G H) (h:ZE G ds):Sta H G H [] ds:=
 ⟨G,zG.refl _,e,zG.refl _,λ_ _=>rfl,λc g=>absurd g (Qm),List.nodup_nil,h⟩
def Sta.base (S:Sta B G0 H cs ds):zG B H:=by
 obtain ⟨_,_,_,b,_⟩:=S;exact b
def Sta.push (S:Sta B G0 H cs ds) (h:Has ds x v):Sta B G0 H cs ((x,v)::ds):=by
 obtain ⟨G,a,b,c,d,e,f,g⟩:=S;exact ⟨G,a,b,c,d,e,f,g.cons (h G g)⟩
def Sta.weak (S:Sta B G0 H cs ds) (m:cs'.Sublist cs) (hd:∀p∈ds',Has ds p.1 p.2):Sta B G0 H cs' ds':=by
 obtain ⟨G,a,b,c,d,e,f,g⟩:=S;exact ⟨G,a,b,c,d,λq r=>e q (m.subset r),f.sublist (m.map _),λp hp=>hd p hp G g⟩
def Sta.dat (S:Sta B G0 H cs ds) (hd:∀p∈ds',Has ds p.1 p.2):Sta B G0 H cs ds':=S.weak (jbP _) hd
def Sta.drop1 (S:Sta B G0 H cs (q::ds)):Sta B G0 H cs ds:=S.dat λp hp=> .mem (Qe _ hp)
def Sta.dropC (S:Sta B G0 H (q::cs) ds):Sta B G0 H cs ds:=S.weak (List.sublist_cons_self _ _) λp hp=> .mem hp
def Sta.same (S:Sta B G0 H cs ds) (h:zG H H'):Sta B G0 H' cs ds:=
 let ⟨G,a,b,c,d,e,f,g⟩:=S;⟨G,a,b.trans h,c.trans h,d,λq m=>let ⟨x,y,vs,z,u⟩:=e q m;⟨x,y,vs,h _ _ z,u⟩,f,g⟩
def Jo.grow (S:Jo B G0 H cs ds G) (h:Grow G H G' H'):Jo B G0 H' cs ds G':=by
 obtain ⟨a,b,c,d,e,f,g⟩:=S;refine ⟨a.trans h.g,h.sub,c.trans h.h,λp hp=>?_,λq m=>?_,f,g.mono h.g⟩
 ·rw [h.old p λz=>?_,d p hp]
  cases hb:B p with
  |none=>exact hp hb
  |some o=>rw [c _ _ hb] at z;cases z
 ·obtain ⟨x,y,vs,z,u⟩:=e q m;exact ⟨x,by rw [h.old q.1 (by rw [z];simp)];exact y,vs,h.h _ _ z,zC.mono h.g _ _ u⟩
def Sta.leave (S:Sta H G H' cs ds):∃m,Grow G H m H'/\ZE m ds:=by
 obtain ⟨m,a,b,c,d,_,_,g⟩:=S;exact ⟨m,⟨c,a,b,d⟩,g⟩
def Sta.newT (S:Sta B G0 H cs ds) (hp:H p=none) (h:zV ds xs vs):Sta B G0 (upd H p (.tup vs)) cs ((.tuple xs, .ref p)::ds):=by
 obtain ⟨G,a,b,c,d,e,f,g⟩:=S;have t:G p=none:=b.free hp;have s:=zG.new t (.tup vs);refine ⟨upd G p (.tup vs),a.trans s,λq o m=>?_,c.trans (zG.new hp _),λq m=>?_,λq m=>?_,f,(g.mono s).cons ?_⟩
 ·by_cases r:q=p
  ·subst r;rw [ya] at m⊢;exact m
  ·rw [zP r] at m⊢;exact b _ _ m
 ·have r:q≠p:=λz=>by subst z;exact m (c.free hp)
  rw [zP r];exact d q m
 ·obtain ⟨x,y,ws,z,u⟩:=e q m;have r:q.1≠p:=zU z hp;exact ⟨x,by rw [zP r];exact y,ws,by rw [zP r];exact z,zC.mono s _ _ u⟩
 ·rw [Is];exact ⟨p,vs,rfl,ya,zC.mono s _ _ (h G g)⟩
def Sta.newL (S:Sta B G0 H cs ds) (hp:H p=none) (h:zV ds xs vs):Sta B G0 (upd H p (.lst vs)) ((p,xs)::cs) ds:=by
 obtain ⟨G,a,b,c,d,e,f,g⟩:=S;have s:G p=none:=b.free hp;refine ⟨G,a,b.trans (zG.new hp _),c.trans (zG.new hp _),d,λq m=>?_,?_,g⟩
 ·rcases Qn.mp m with rfl|m
  ·exact ⟨c.free hp,s,vs,ya,h G g⟩
  ·obtain ⟨x,y,ws,z,u⟩:=e q m;have r:q.1≠p:=zU z hp;exact ⟨x,y,ws,by rw [zP r];exact z,u⟩
 ·rw [Qj,TV];refine ⟨λz=>?_,f⟩;obtain ⟨q,m,r⟩:=Qk.mp z;obtain ⟨_,_,ws,z,_⟩:=e q m;rw [r,hp] at z;cases z
def Sta.freeze (S:Sta B G0 H ((D,xs)::cs) ds):Sta B G0 H cs ((.list xs, .ref D)::ds):=by
 obtain ⟨G,a,b,c,d,e,f,g⟩:=S;obtain ⟨x,y,vs,z,u⟩:=e _ (Qg ..);have r:=zG.new y (.lst vs);rw [Qj,TV] at f;refine ⟨upd G D (.lst vs),a.trans r,λq o m=>?_,c,λq m=>?_,λq m=>?_,f.2,(g.mono r).cons ?_⟩
 ·by_cases p:q=D
  ·subst p;rw [ya] at m;rw [<-m];exact z
  ·rw [zP p] at m;exact b _ _ m
 ·have p:q≠D:=λz=>by subst z;exact m x
  rw [zP p];exact d q m
 ·obtain ⟨w,t,ws,s,A⟩:=e q (Qe _ m);have p:q.1≠D:=λz=>f.1 (Qk.mpr ⟨q,m,z⟩);exact ⟨w,by rw [zP p];exact t,ws,s,zC.mono r _ _ A⟩
 ·rw [Is];exact ⟨D,vs,rfl,ya,zC.mono r _ _ u⟩
def Sta.cell (S:Sta B G0 H cs ds) (h:(D,xs)∈cs):∃vs,H D=some (.lst vs)/\xs.length=vs.length/\∀(i:Nat) (x:PyData),xs[i]? =some x->∃v,vs[i]? =some v/\Sta B G0 H cs ((x,v)::ds):=by
 obtain ⟨G,a,b,c,d,e,f,g⟩:=S;obtain ⟨_,_,vs,z,u⟩:=e _ h;refine ⟨vs,z,u.len,λi x m=>?_⟩;obtain ⟨v,p,k⟩:=u.at m;exact ⟨v,p,G,a,b,c,d,e,f,g.cons k⟩
def Sta.put (S:Sta B G0 H ((D,xs)::cs) ds):∃vs,H D=some (.lst vs)/\xs.length=vs.length/\∀ys ws,(∀G,ZE G ds->zC G xs vs->zC G ys ws)->Sta B G0 (upd H D (.lst ws)) ((D,ys)::cs) ds:=by
 obtain ⟨G,a,b,c,d,e,f,g⟩:=S;obtain ⟨x,y,vs,z,u⟩:=e _ (Qg ..);refine ⟨vs,z,u.len,λys ws h=>?_⟩
 have key:∀{A:Hp},zG A H->A D=none->zG A (upd H D (.lst ws)):=λ{A} s n q o m=>by
  rw [zP (zU m n)];exact s _ _ m
 have r:=f;rw [Qj,TV] at r;refine ⟨G,a,key b y,key c x,d,λq m=>?_,f,g⟩
 rcases Qn.mp m with rfl|m
 ·exact ⟨x,y,ws,ya,h G g u⟩
 ·obtain ⟨C,w,p,t,I⟩:=e q (Qe _ m);have J:q.1≠D:=λz=>r.1 (Qk.mpr ⟨q,m,z⟩);exact ⟨C,w,p,by rw [zP J];exact t,I⟩
def Sta.tup (S:Sta B G0 H cs ds) (h:Has ds (.tuple xs) v):∃p vs,v= .ref p/\H p=some (.tup vs)/\xs.length=vs.length/\∀(i:Nat) (x:PyData),xs[i]? =some x->∃w,vs[i]? =some w/\Sta B G0 H cs ((x,w)::ds):=by
 obtain ⟨G,a,b,c,d,e,f,g⟩:=S;have q:=h G g;rw [Is] at q;obtain ⟨p,vs,m,hp,u⟩:=q;refine ⟨p,vs,m,b _ _ hp,u.len,λi x r=>?_⟩;obtain ⟨v,m,k⟩:=u.at r;exact ⟨v,m,G,a,b,c,d,e,f,g.cons k⟩
def Sta.lst (S:Sta B G0 H cs ds) (h:Has ds (.list xs) v):∃p vs,v= .ref p/\H p=some (.lst vs)/\xs.length=vs.length/\∀(i:Nat) (x:PyData),xs[i]? =some x->∃w,vs[i]? =some w/\Sta B G0 H cs ((x,w)::ds):=by
 obtain ⟨G,a,b,c,d,e,f,g⟩:=S;have q:=h G g;rw [Is] at q;obtain ⟨p,vs,m,hp,u⟩:=q;refine ⟨p,vs,m,b _ _ hp,u.len,λi x r=>?_⟩;obtain ⟨v,m,k⟩:=u.at r;exact ⟨v,m,G,a,b,c,d,e,f,g.cons k⟩
def Sta.tupAll (S:Sta B G0 H cs ds) (h:Has ds (.tuple xs) v):∃p vs,v= .ref p/\H p=some (.tup vs)/\xs.length=vs.length/\Sta B G0 H cs (xs.zip vs++ds)/\∀G,ZE G (xs.zip vs++ds)->zC G xs vs:=by
 obtain ⟨G,a,b,c,d,e,f,g⟩:=S;have q:=h G g;rw [Is] at q;obtain ⟨p,vs,r,hp,u⟩:=q;refine ⟨p,vs,r,b _ _ hp,u.len,⟨G,a,b,c,d,e,f,λq m=>?_⟩,λy w=>?_⟩
 ·rcases QW.mp m with m|m
  ·obtain ⟨i,s⟩:=QG.mp m;rw [Tj] at s;exact (xW.mp u).2 i _ _ s.1 s.2
  ·exact g q m
 ·refine xW.mpr ⟨u.len,λi x v t r=>?_⟩;exact w (x,v) (jak _ (QG.mpr ⟨i,Tj.mpr ⟨t,r⟩⟩))
def Sta.lstAll (S:Sta B G0 H cs ds) (h:Has ds (.list xs) v):∃p vs,v= .ref p/\H p=some (.lst vs)/\xs.length=vs.length/\Sta B G0 H cs (xs.zip vs++ds)/\∀G,ZE G (xs.zip vs++ds)->zC G xs vs:=by
 obtain ⟨G,a,b,c,d,e,f,g⟩:=S;have q:=h G g;rw [Is] at q;obtain ⟨p,vs,r,hp,u⟩:=q;refine ⟨p,vs,r,b _ _ hp,u.len,⟨G,a,b,c,d,e,f,λq m=>?_⟩,λy w=>?_⟩
 ·rcases QW.mp m with m|m
  ·obtain ⟨i,s⟩:=QG.mp m;rw [Tj] at s;exact (xW.mp u).2 i _ _ s.1 s.2
  ·exact g q m
 ·refine xW.mpr ⟨u.len,λi x v t r=>?_⟩;exact w (x,v) (jak _ (QG.mpr ⟨i,Tj.mpr ⟨t,r⟩⟩))
def Sta.cellAll (S:Sta B G0 H cs ds) (h:(D,xs)∈cs):∃vs,H D=some (.lst vs)/\xs.length=vs.length/\Sta B G0 H cs (xs.zip vs++ds)/\∀G,ZE G (xs.zip vs++ds)->zC G xs vs:=by
 obtain ⟨G,a,b,c,d,e,f,g⟩:=S;obtain ⟨_,_,vs,z,u⟩:=e _ h;refine ⟨vs,z,u.len,⟨G,a,b,c,d,e,f,λq m=>?_⟩,λw t=>?_⟩
 ·rcases QW.mp m with m|m
  ·obtain ⟨i,p⟩:=QG.mp m;rw [Tj] at p;exact (xW.mp u).2 i _ _ p.1 p.2
  ·exact g q m
 ·refine xW.mpr ⟨u.len,λi x v r s=>?_⟩;exact t (x,v) (jak _ (QG.mpr ⟨i,Tj.mpr ⟨r,s⟩⟩))
def Sta.hp (S:Sta B G0 H cs ds) (h:Has ds x v):Is H x v:=by
 obtain ⟨G,a,b,c,d,e,f,g⟩:=S;exact Is.mono b _ _ (h G g)
def Sta.hpC (S:Sta B G0 H cs ds) (h:(D,xs)∈cs):Is H (.list xs) (.ref D):=by
 obtain ⟨G,a,b,c,d,e,f,g⟩:=S;obtain ⟨_,_,vs,z,u⟩:=e _ h;rw [Is];exact ⟨D,vs,rfl,z,zC.mono b _ _ u⟩
end
def mkD (D:Ends) (u:L2.St->Hp->Prop):Ends:={D with nx:=u}
def mkL (D:Ends) (u:L2.St->Hp->Prop):Ends:={D with nx:=u,ct:=u,bk:=D.nx}
def endD (Q:VK):Ends:={nx:=λ_ H'=>Q .non H',rt:=Q}
section
variable {B G0 H:Hp} {cs:yN} {ds:Dat} {σ:L2.St} {Q:VK} {x y:PyData} {v w:V} {xs:List PyData} {vs:List V} {K:Frg}
def rd_seq (h:t (mkD D (u D)) σ H):tSeq t u D σ H:=h
def rd_asg (h:te σ H λx H1=>g x σ H1 D.nx):Mj te g D σ H:=h
def zF (h:N (σ.set i (some v)) H):lX i v σ H N:=h
def lr {t:TS} (h:t (endD Q) σ H):t {nx:=λ_ H'=>Q .non H',rt:=Q} σ H:=h
def FW (h:u σ H):Ends.nx (mkD D u) σ H:=h
def rd_rt (h:Ends.rt D v H):Ends.rt (mkD D u) v H:=h
def rd_nx0 (h:Q .non H):Ends.nx (endD Q) σ H:=h
def rd_rt0 (h:Q v H):Ends.rt (endD Q) v H:=h
def rd_nxL (h:u σ H):Ends.nx (mkL D u) σ H:=h
def rd_rtL (h:Ends.rt D v H):Ends.rt (mkL D u) v H:=h
def Kg (h:D.nx σ H):tNext D σ H:=h
def rd_ret (h:te σ H D.rt):tRet te D σ H:=h
def rd_drop (h:te σ H λ_ H1=>D.nx σ H1):tDrop te D σ H:=h
def rd_if (h:c σ H λb H1=>if b=true then t D σ H1 else u D σ H1):tIfS c t u D σ H:=h
def rd_var (e:σ[i]? =some (some v)) (h:Q v H):tVar i σ H Q:=⟨v,e,h⟩
def rd_c (h:Q v H):tC v σ H Q:=h
def rd_op (h:ta σ H λx H1=>tb σ H1 λy g=>r x y g Q):tOp r ta tb σ H Q:=h
def rd_un (h:ta σ H λx H1=>r x H1 Q):tUn r ta σ H Q:=h
def rd_rI0 (h:Q (g i j) H):rI0 g (.int i) (.int j) H Q:=⟨i,j,rfl,rfl,h⟩
def rd_mulB (c:IntMulOk i j) (h:Q (.int (i*j)) H):rI IntMulOk (λi j=> .int (i*j)) (.int i) (.int j) H Q:=⟨i,j,rfl,rfl,c,h⟩
def rd_modL (c:0<j) (h:Q (.int (i % j)) H):rI (λ_ j=>0<j) (λi j=> .int (i % j)) (.int i) (.int j) H Q:=⟨i,j,rfl,rfl,c,h⟩
def rd_modN (c:j≠0) (h:Q (.int (i.fmod j)) H):rI (λ_ j=>j≠0) (λi j=> .int (i.fmod j)) (.int i) (.int j) H Q:=⟨i,j,rfl,rfl,c,h⟩
def rd_fdivL (c:CDiv i j) (h:Q (.int (i / j)) H):rI CDiv (λi j=> .int (i / j)) (.int i) (.int j) H Q:=⟨i,j,rfl,rfl,c,h⟩
def rd_fdivB (c:CDv i j) (h:Q (.int (i.fdiv j)) H):rI CDv (λi j=> .int (i.fdiv j)) (.int i) (.int j) H Q:=⟨i,j,rfl,rfl,c,h⟩
def rd_pow (c:CPow i j) (h:Q (.int (i ^ j.toNat)) H):rI CPow (λi j=> .int (i ^ j.toNat)) (.int i) (.int j) H Q:=⟨i,j,rfl,rfl,c,h⟩
def rd_rU (h:Q (g i) H):rU g (.int i) H Q:=⟨i,rfl,h⟩
def rd_test (h:t σ H λx H'=>∃k,x= .bl k/\R k H'):tTest t σ H R:=h
def rd_tB (h:t σ H λx H'=>∃k,x= .bl k/\R k H'):tB t σ H R:=h
def rd_isbl {k:Bool} {R:Bool->Prop} (h:R k):∃g,V.bl k= .bl g/\R g:=⟨k,rfl,h⟩
def rd_not (h:t σ H λc H1=>R (!c) H1):tNot t σ H R:=h
def rd_and (h:t σ H λc H1=>if c=true then u σ H1 R else R false H1):tAnd t u σ H R:=h
def rd_or (h:t σ H λc H1=>if c=true then R true H1 else u σ H1 R):tOr t u σ H R:=h
def rd_andV (h:ta σ H λx H1=>∃c,x= .bl c/\if c=true then tb σ H1 Q else Q (.bl false) H1):tAndV ta tb σ H Q:=h
def rd_notV (h:ta σ H λx H1=>∃c,x= .bl c/\Q (.bl (!c)) H1):tNotV ta σ H Q:=h
def rd_nil (h:R [] H):tNil σ H R:=h
def rd_cons (h:ta σ H λx H1=>tr σ H1 λxs g=>R (x::xs) g):tCons ta tr σ H R:=h
def rd_call (h:t σ H λvs H1=>sp vs H1 Q E):vD sp [] E t σ H Q:=by
 unfold vD
 simpa only [jaX] using h
def rd_cb (h:t σ H λvs H1=>r vs H1 Q):tCB r t σ H Q:=h
def rd_par (h:ta σ H λvs H1=>∃v w,vs=[v,w]/\D.nx ((σ.set i (some v)).set j (some w)) H1):tPar i j ta D σ H:=h
def rd_is2 {R:V->V->Prop} (h:R v w):∃m g,[v,w]=[m,g]/\R m g:=⟨v,w,rfl,h⟩
def rEqA:R2:=λx y H Q=>rEq x y H Q\/rEqD x y H Q
def rNeA:R2:=λx y H Q=>rNe x y H Q\/rNeD x y H Q
def op_eqA (g:X.A.units+64<cLine):OpR X (compareOp .Eq) rEqA:=op_eq.or (op_eqD g)
def op_neA (g:X.A.units+64<cLine):OpR X (compareOp .NotEq) rNeA:=op_ne.or (op_neD g)
def Xe {a b:Prop} [Decidable a] [Decidable b] (h:a↔b):decide a=decide b:=by
 by_cases ha:a
 ·rw [QT ha,QT (h.mp ha)]
 ·rw [Tf ha,Tf (λz=>ha (h.mpr z))]
def rd_eqI (h:Q (.bl (decide (i=j))) H):rEqA (.int i) (.int j) H Q:= .inl ⟨rfl,by
 rw [Xe (show V.int i=V.int j↔i=j from ⟨V.int.inj,congrArg _⟩)];exact h⟩
def rd_neI (h:Q (.bl (!decide (i=j))) H):rNeA (.int i) (.int j) H Q:= .inl ⟨rfl,by
 rw [Xe (show V.int i=V.int j↔i=j from ⟨V.int.inj,congrArg _⟩)];exact h⟩
def IH (h:Q (.bl (!decide (i=j))) H):rNeA (.bl i) (.bl j) H Q:= .inl ⟨rfl,by
 rw [Xe (show V.bl i=V.bl j↔i=j from ⟨V.bl.inj,congrArg _⟩)];exact h⟩
def tY (m:Is H x v) (g:Is H y w) (s1:SeqAt.shaped x=true) (s2:SeqAt.shaped y=true) (h:Q (.bl (PyData.eqv x y)) H):rEqA v w H Q:= .inr ⟨x,y,m,g,s1,s2,h⟩
def tV (m:Is H x v) (g:Is H y w) (s1:SeqAt.shaped x=true) (s2:SeqAt.shaped y=true) (h:Q (.bl (!PyData.eqv x y)) H):rNeA v w H Q:= .inr ⟨x,y,m,g,s1,s2,h⟩
def kTup (Q:VK) (xs:List V) (H:Hp):Prop:=xs.length<=sizeLine/\∀p,H p=none->Q (.ref p) (upd H p (.tup xs))
def kLst (Q:VK) (xs:List V) (H:Hp):Prop:=xs.length<=sizeLine/\∀p,H p=none->Q (.ref p) (upd H p (.lst xs))
def rd_tup (h:t σ H (kTup Q)):tTup t σ H Q:=h
def rd_lst (h:t σ H (kLst Q)):tLst t σ H Q:=h
def rd_kTup (S:Sta B G0 H cs ds) (h:zV ds xs vs) (g:vs.length<=1000) (k:∀p H',zG H H'->Sta B G0 H' cs ((.tuple xs, .ref p)::ds)->Q (.ref p) H'):kTup Q vs H:=
 ⟨jbu (YM g),λp hp=>k p _ (zG.new hp _) (S.newT hp h)⟩
def rd_kLst (S:Sta B G0 H cs ds) (h:zV ds xs vs) (g:vs.length<=1000) (k:∀p H',zG H H'->Sta B G0 H' ((p,xs)::cs) ds->Q (.ref p) H'):kLst Q vs H:=
 ⟨jbu (YM g),λp hp=>k p _ (zG.new hp _) (S.newL hp h)⟩
def ED {α β:Type} {xs:List α} {ys:List β} {i:Int} {x:α} (m:xs.length=ys.length) (h:atI xs i=some x):∃j:Nat,xs[j]? =some x/\∀y,ys[j]? =some y->atI ys i=some y:=by
 unfold atI at h⊢;rw [<-m]
 cases e:ixN xs.length i with
 |none=>rw [e] at h;cases h
 |some j=>rw [e] at h;exact ⟨j,h,λy g=>g⟩
def js {i:Int} (S:Sta B G0 H cs ds) (m:Has ds (.tuple xs) v) (s:atI xs i=some x) (k:∀w,Sta B G0 H cs ((x,w)::ds)->Q w H):rIx K v (.int i) H Q:=by
 obtain ⟨p,vs,rfl,hp,q,z⟩:=S.tup m;obtain ⟨j,r,g⟩:=ED q s;obtain ⟨w,hw,t⟩:=z j x r;exact .inr (.inl ⟨p,vs,i,w,rfl,rfl,SqT.of hp,g _ hw,k w t⟩)
def Sta.top {n:PyData} (S:Sta B G0 H cs ((n,v)::ds)):Is H n v:=S.hp (.mem (Qg ..))
def rd_ixTI {i n:Int} (S:Sta B G0 H cs ds) (g:Has ds (.tuple xs) v) (m:atI xs i=some (.int n)) (k:Q (.int n) H):rIx K v (.int i) H Q:=
 js S g m λw p=>by have:=p.top;rw [Is] at this;subst this;exact k
def zX {i:Int} (S:Sta B G0 H cs ds) (m:Has ds (.list xs) v) (s:atI xs i=some x) (k:∀w,Sta B G0 H cs ((x,w)::ds)->Q w H):rIx K v (.int i) H Q:=by
 obtain ⟨p,vs,rfl,hp,q,z⟩:=S.lst m;obtain ⟨j,r,g⟩:=ED q s;obtain ⟨w,hw,t⟩:=z j x r;exact .inl ⟨p,vs,i,w,rfl,rfl,SqL.of hp,g _ hw,k w t⟩
def Xy {i n:Int} (S:Sta B G0 H cs ds) (g:Has ds (.list xs) v) (m:atI xs i=some (.int n)) (k:Q (.int n) H):rIx K v (.int i) H Q:=
 zX S g m λw p=>by have:=p.top;rw [Is] at this;subst this;exact k
def Wz {i:Int} {L:Addr} (S:Sta B G0 H cs ds) (m:(L,xs)∈cs) (r:atI xs i=some x) (k:∀w,Sta B G0 H cs ((x,w)::ds)->Q w H):rIx K (.ref L) (.int i) H Q:=by
 obtain ⟨vs,hp,p,z⟩:=S.cell m;obtain ⟨j,q,g⟩:=ED p r;obtain ⟨w,hw,s⟩:=z j x q;exact .inl ⟨L,vs,i,w,rfl,rfl,SqL.of hp,g _ hw,k w s⟩
def Ks {i n:Int} {L:Addr} (S:Sta B G0 H cs ds) (g:(L,xs)∈cs) (m:atI xs i=some (.int n)) (k:Q (.int n) H):rIx K (.ref L) (.int i) H Q:=
 Wz S g m λw p=>by have:=p.top;rw [Is] at this;subst this;exact k
def rd_ixS {i:Int} {a:Addr} {ns:List Int} (g:SqL K H a (ns.map V.int)) (h0:0<=i) (m:i<(ns.length:Int)) (k:Q (.int (ns.getD i.toNat 0)) H):rIx K (.ref a) (.int i) H Q:=
 .inl ⟨a,_,i,_,rfl,rfl,g,Ig h0 m,k⟩
def rLen (K:Frg):List V->Hp->VK->Prop:=λxs H Q=>∃p ys,xs=[.ref p]/\(SqL K H p ys\/SqT K H p ys)/\Q (.int ys.length) H
def pB:Wi X (.builtin "len") (rLen X.K):=pA
def rd_lenT (S:Sta B G0 H cs ds) (g:Has ds (.tuple xs) v) (k:Q (.int xs.length) H):rLen K [v] H Q:=by
 obtain ⟨p,vs,rfl,hp,m,_⟩:=S.tup g;exact ⟨p,vs,rfl, .inr (SqT.of hp),by rw [<-m];exact k⟩
def rd_lenL (S:Sta B G0 H cs ds) (g:Has ds (.list xs) v) (k:Q (.int xs.length) H):rLen K [v] H Q:=by
 obtain ⟨p,vs,rfl,hp,m,_⟩:=S.lst g;exact ⟨p,vs,rfl, .inl (SqL.of hp),by rw [<-m];exact k⟩
def rd_lenC (S:Sta B G0 H cs ds) (g:(L,xs)∈cs) (k:Q (.int xs.length) H):rLen K [.ref L] H Q:=by
 obtain ⟨vs,hp,m,_⟩:=S.cell g;exact ⟨L,vs,rfl, .inl (SqL.of hp),by rw [<-m];exact k⟩
def Kl {a:Addr} {ns:List Int} (g:SqL K H a (ns.map V.int)) (k:Q (.int ns.length) H):rLen K [.ref a] H Q:=
 ⟨a,_,rfl, .inl g,by rw [Qb];exact k⟩
def rAbs:List V->Hp->VK->Prop:=λxs H Q=>∃i,xs=[.int i]/\Q (.int (if i<0 then -i else i)) H
def call_absA:Wi X (.builtin "abs") rAbs:=HM
def rd_abs (k:Q (.int (i.natAbs:Int)) H):rAbs [.int i] H Q:=⟨i,rfl,by
 rw [show (if i<0 then -i else i)=(i.natAbs:Int) by split<;>lia];exact k⟩
def rMin:List V->Hp->VK->Prop:=λxs H Q=>∃i j,xs=[.int i, .int j]/\Q (.int (if j<i then j else i)) H
def Ex (g:X.calm=true):Wi X (.builtin "min") rMin:=Ey g
def rd_min (k:Q (.int (min i j)) H):rMin [.int i, .int j] H Q:=⟨i,j,rfl,by
 rw [show (if j<i then j else i)=min i j by split<;>lia];exact k⟩
def qS (K:Frg):List V->Hp->VK->Prop:=λxs H Q=>∃p ys,xs=[.ref p]/\(SqL K H p ys\/SqT K H p ys)/\∀l,H l=none->Q (.ref l) (upd H l (.lst ys))
def Mm:Wi X (.type "list") (qS X.K):=pq
def ub (K:Frg):List V->Hp->VK->Prop:=λxs H Q=>∃p ys,xs=[.ref p]/\((SqL K H p ys/\∀l,H l=none->Q (.ref l) (upd H l (.tup ys)))\/(SqT K H p ys/\Q (.ref p) H))
def LM:Wi X (.type "tuple") (ub X.K):=mx
def rd_listL (S:Sta B G0 H cs ds) (m:Has ds (.list xs) v) (k:∀l H',zG H H'->Sta B G0 H' ((l,xs)::cs) ds->Q (.ref l) H'):qS K [v] H Q:=by
 obtain ⟨p,vs,rfl,hp,g,t,s⟩:=S.lstAll m;exact ⟨p,vs,rfl, .inl (SqL.of hp),λl g=>k l _ (zG.new g _) ((t.newL g s).dat λq r=> .mem (QB _ r))⟩
def rd_listT (S:Sta B G0 H cs ds) (m:Has ds (.tuple xs) v) (k:∀l H',zG H H'->Sta B G0 H' ((l,xs)::cs) ds->Q (.ref l) H'):qS K [v] H Q:=by
 obtain ⟨p,vs,rfl,hp,g,t,s⟩:=S.tupAll m;exact ⟨p,vs,rfl, .inr (SqT.of hp),λl g=>k l _ (zG.new g _) ((t.newL g s).dat λq r=> .mem (QB _ r))⟩
def rd_tupleC (S:Sta B G0 H cs ds) (p:(L,xs)∈cs) (k:∀l H',zG H H'->Sta B G0 H' cs ((.tuple xs, .ref l)::ds)->Q (.ref l) H'):ub K [.ref L] H Q:=by
 obtain ⟨vs,hp,m,s,r⟩:=S.cellAll p
 exact ⟨L,vs,rfl, .inl ⟨SqL.of hp,λl m=>k l _ (zG.new m _) ((s.newT m r).dat λq g=> .mem (by
  rcases Qn.mp g with rfl|g
  ·exact Qg ..
  ·exact Qe _ (QB _ g)))⟩⟩
def kBM (K:Frg) (T:String) (r:V->List V->Hp->VK->Prop) (t:TA) (σ:L2.St) (Q:VK):VK:=λx H1=>tyV K T x H1/\t σ H1 λxs g=>r x xs g Q
def rd_bm (h:to σ H (kBM K T r t σ Q)):tBM K T r to t σ H Q:=h
def rd_kBM (S:Sta B G0 H cs ds) (g:(L,xs)∈cs) (h:t σ H λys m=>r (.ref L) ys m Q):kBM K "list" r t σ Q (.ref L) H:=by
 obtain ⟨vs,hp,p,_⟩:=S.cell g;exact ⟨.inl ⟨rfl,_,SqL.of hp⟩,h⟩
def YU (S:Sta B G0 H ((L,xs)::cs) ds) (g:Has ds y w) (m:xs.length<=1000) (k:∀H',Sta B G0 H' ((L,xs++[y])::cs) ds->Q .non H'):Cw (.ref L) [w] H Q:=by
 obtain ⟨vs,hp,p,put⟩:=S.put;exact ⟨L,vs,w,rfl,rfl,hp,YM ⋯,k _ (put _ _ λG a u=>u.app (by rw [zC];exact ⟨w,[],rfl,g G a,by rw [zC]⟩))⟩
def qR (S:Sta B G0 H ((L,xs)::cs) ds) (g:Has ds y w) (p:ixN xs.length i=some j) (k:∀H',Sta B G0 H' ((L,xs.set j y)::cs) ds->R H'):rSetL (.ref L) (.int i) w H R:=by
 obtain ⟨vs,hp,m,put⟩:=S.put;exact ⟨L,vs,i,j,rfl,rfl,hp,by rw [<-m];exact p,k _ (put _ _ λG a u=>u.set (g G a) j)⟩
def pZ (xs:List PyData) (lo g:Option Int):List PyData:=(xs.drop (HT.sIx xs.length 0 lo)).take (HT.sIx xs.length xs.length g - HT.sIx xs.length 0 lo)
def rd_slL {lo g:Option Int} (S:Sta B G0 H cs ds) (m:Has ds (.list xs) v) (k:∀l H',zG H H'->Sta B G0 H' ((l,pZ xs lo g)::cs) ds->Q (.ref l) H'):rSlL K v lo g H Q:=by
 obtain ⟨p,vs,rfl,hp,s,u,t⟩:=S.lstAll m;refine ⟨p,vs,rfl,SqL.of hp,λl hn=>k l _ (zG.new hn _) ((u.newL hn λG a=>?_).dat λq r=> .mem (QB _ r))⟩;unfold pZ AL;rw [s];exact ((t G a).drop _).take _
def tT {lo g:Option Int} {L:Addr} (S:Sta B G0 H cs ds) (m:(L,xs)∈cs) (k:∀l H',zG H H'->Sta B G0 H' ((l,pZ xs lo g)::cs) ds->Q (.ref l) H'):rSlL K (.ref L) lo g H Q:=by
 obtain ⟨vs,hp,r,t,s⟩:=S.cellAll m;refine ⟨L,vs,rfl,SqL.of hp,λl hn=>k l _ (zG.new hn _) ((t.newL hn λG a=>?_).dat λq p=> .mem (QB _ p))⟩;unfold pZ AL;rw [r];exact ((s G a).drop _).take _
end
def mulModOk (h:(0<m/\m<2 ^ 64)/\(0<n/\n<2 ^ 64)):IntMulOk (a % m) (b % n):=by
 have s:=TZ a (show m≠0 by lia);have r:=TM a h.1.1;have q:=TZ b (show n≠0 by lia);have p:=TM b h.2.1;have e:(2:Nat) ^ 64=18446744073709551616:=by decide
 have g:(2:Int) ^ 64=18446744073709551616:=by decide
 rw [g] at h;exact Sz.mulOk (by unfold Sz;rw [e];lia) (by unfold Sz;rw [e];lia) nofun
def iteNF {A B:Prop} (h:A):if (!false)=true then A else B:=h
def iteNT {A B:Prop} (h:B):if (!true)=true then A else B:=h
section
variable {B G0 H:Hp} {cs:yN} {ds:Dat} {Q:VK} {v:V} {K:Frg} {L M:Addr}
def Ge:R2:=λx y H Q=>rI0 (λi j=> .int (i+j)) x y H Q\/rCat x y H Q
def CD:OpR X (binaryOp .Add) Ge:=op_add.or op_cat
def rd_addI (h:Q (.int (i+j)) H):Ge (.int i) (.int j) H Q:= .inl ⟨i,j,rfl,rfl,h⟩
def Vw (B G0 H:Hp) (cs:yN) (ds:Dat) (L:Addr) (xs:List PyData):Prop:=∃vs,H L=some (.lst vs)/\∀G,Jo B G0 H cs ds G->zC G xs vs
def Sta.vwL (S:Sta B G0 H cs ds) (h:Has ds (.list xs) (.ref L)):Vw B G0 H cs ds L xs:=by
 obtain ⟨G,S⟩:=S;have q:=h G S.2.2.2.2.2.2;rw [Is] at q;obtain ⟨p,vs,e,hp,u⟩:=q;cases e;have r:=S.2.1 _ _ hp;refine ⟨vs,r,λw m=>?_⟩;have q:=h w m.2.2.2.2.2.2;rw [Is] at q;obtain ⟨p,s,e,g,t⟩:=q;cases e;have:=m.2.1 _ _ g;rw [r] at this;cases this;exact t
def Sta.vwC (S:Sta B G0 H cs ds) (h:(L,xs)∈cs):Vw B G0 H cs ds L xs:=by
 obtain ⟨G,S⟩:=S;obtain ⟨_,_,vs,z,u⟩:=S.2.2.2.2.1 _ h;refine ⟨vs,z,λr q=>?_⟩;obtain ⟨_,_,m,g,p⟩:=q.2.2.2.2.1 _ h;rw [z] at g;cases g;exact p
def WB (S:Sta B G0 H cs ds) (v1:Vw B G0 H cs ds L xs) (v2:Vw B G0 H cs ds M zs) (A:xs.length+zs.length<=1000)
 (k:∀p H',zG H H'->Sta B G0 H' ((p,xs++zs)::cs) ds->Q (.ref p) H'):Ge (.ref L) (.ref M) H Q:=by
 obtain ⟨us,I,w⟩:=v1;obtain ⟨ws,D,t⟩:=v2;obtain ⟨G,r⟩:=id S;refine .inr ⟨L,M,us,ws,rfl,rfl,I,D,jbu (YM (by rw [<-(w G r).len,<-(t G r).len];exact A)),λp hp=>k p _ (zG.new hp _) ?_⟩;obtain ⟨a,b,c,d,e,f,g⟩:=id r;have C:G p=none:=b.free hp;refine ⟨G,a,b.trans (zG.new hp _),c.trans (zG.new hp _),d,λq m=>?_,?_,g⟩
 ·rcases Qn.mp m with rfl|m
  ·exact ⟨c.free hp,C,_,ya,(w G r).app (t G r)⟩
  ·obtain ⟨x,y,ws,z,u⟩:=e q m;have s:q.1≠p:=zU z hp;exact ⟨x,y,ws,by rw [zP s];exact z,u⟩
 ·rw [Qj,TV];refine ⟨λz=>?_,f⟩;obtain ⟨q,m,s⟩:=Qk.mp z;obtain ⟨_,_,ws,z,_⟩:=e q m;rw [s,hp] at z;cases z
def rSum (K:Frg):List V->Hp->VK->Prop:=λxs H Q=>∃(p:Addr) (ns:List Int),xs=[.ref p]/\SqL K H p (ns.map V.int)/\Q (.int ns.sum) H
def call_sumA (C:X.calm=true):Wi X (.builtin "sum") (rSum X.K):=by
 intro pins s σ H xs us Q I r h;obtain ⟨p,ns,rfl,y,q⟩:=h;obtain ⟨u,rfl,t⟩:=ae r;cases t;obtain ⟨its,w,pl,_⟩:=I.list y;have g:=Ve w;obtain ⟨ys,e⟩:=g.allInts.items;have z:s.heap.IsList p (intItems ys):=e▸pl.isList;have m:ys.toList.map (·.1)=ns:=by rw [<-nums_intItems,<-e];exact g.numsOf
 refine sum_intListG (I.ok.hd C) z λh' tk t' A=>?_;refine ⟨.int ns.sum,H,I.kept A,⟨t',?_⟩,q⟩;rw [preSum_eq,m,jap (by rw [<-m];simp)]
theorem yv:∀{ns:List Int} {vs:List V},zC G (ns.map PyData.int) vs->vs=ns.map V.int
 |[],vs,h=>by rw [Tu,zC] at h;exact h
 |n::ns,vs,h=>by
  rw [Qj,zC] at h;obtain ⟨v,r,rfl,g,m⟩:=h;rw [Is] at g;subst g;rw [yv m,Qj]
def rd_sumC {ns:List Int} (S:Sta B G0 H cs ds) (h:(L,ns.map PyData.int)∈cs) (k:Q (.int ns.sum) H):rSum K [.ref L] H Q:=by
 obtain ⟨vs,hp,u⟩:=S.vwC h;obtain ⟨G,g⟩:=id S;rw [yv (u G g)] at hp;exact ⟨L,ns,rfl,SqL.of hp,k⟩
def rd_sumL {ns:List Int} (S:Sta B G0 H cs ds) (h:Has ds (.list (ns.map PyData.int)) v) (k:Q (.int ns.sum) H):rSum K [v] H Q:=by
 obtain ⟨p,vs,rfl,_⟩:=S.lst h;obtain ⟨vs,hp,u⟩:=S.vwL h;obtain ⟨G,g⟩:=id S;rw [yv (u G g)] at hp;exact ⟨_,ns,rfl,SqL.of hp,k⟩
end
def Ro (B g:Hp) (L:Addr) (xs:List PyData):Prop:=g L=none/\∃vs,B L=some (.lst vs)/\zC g xs vs
def Src (B g:Hp) (b:Bool) (K:Frg) (a:Addr) (xs:List PyData) (P:yN->Dat->Prop):Prop:=∀{H:Hp} {cs:yN} {ds:Dat},Sta B g H cs ds->P cs ds->
 ∃vs,SqB b K H a vs/\xs.length=vs.length/\∀(i:Nat) (x:PyData),xs[i]? =some x->∃v,vs[i]? =some v/\Sta B g H cs ((x,v)::ds)
structure Wk (B G0:Hp) (J:It) (xs:List PyData) (P:yN->Dat->Prop):Prop where
 go:∀{H:Hp} {cs:yN} {ds:Dat} {i:Nat},Sta B G0 H cs ds->P cs ds->i<xs.length->J.go i H
 stop:∀{H:Hp} {cs:yN} {ds:Dat} {i:Nat},Sta B G0 H cs ds->P cs ds->xs.length<=i->J.stop i H
 yld:∀{H H':Hp} {cs:yN} {ds:Dat} {i:Nat} {x:PyData} {v:V},Sta B G0 H cs ds->P cs ds->xs[i]? =some x->J.yld i H v H'->zG H H'/\Sta B G0 H' cs ((x,v)::ds)
section
variable {B G0 H:Hp} {cs:yN} {ds:Dat} {K:Frg} {a:Addr} {xs ys:List PyData} {P P':yN->Dat->Prop} {b c:Bool} {v:V}
def WY:Src B G0 true K a xs (λ_ ds=>Has ds (.list xs) (.ref a)):=λS h=>by
 obtain ⟨p,vs,e,hp,g,z⟩:=S.lst h;cases e;exact ⟨vs,SqL.of hp,g,z⟩
def dH:Src B G0 false K a xs (λ_ ds=>Has ds (.tuple xs) (.ref a)):=λS h=>by
 obtain ⟨p,vs,e,hp,g,z⟩:=S.tup h;cases e;exact ⟨vs,SqT.of hp,g,z⟩
def FE:Src B G0 true K a xs (λcs _=>(a,xs)∈cs):=λS h=>by
 obtain ⟨vs,hp,g,z⟩:=S.cell h;exact ⟨vs,SqL.of hp,g,z⟩
def AR (s:Src B G0 true K a xs P):Wk B G0 (Itl K a) xs P where
 go:=λ{H cs ds i} S h hi=>by
  obtain ⟨vs,q,g,_⟩:=s S h;exact ⟨vs,vs[i]'⋯,q,Qa _⟩
 stop:=λ{H cs ds i} S h hi=>by
  obtain ⟨vs,q,g,_⟩:=s S h;exact ⟨vs,q,⋯⟩
 yld:=λ{H H' cs ds i x v} S h hx y=>by
  obtain ⟨e,y⟩:=y;subst e;obtain ⟨vs,q,g,z⟩:=s S h;obtain ⟨w,hw,m⟩:=z i x hx;have:=y vs q;rw [hw] at this;cases this;exact ⟨zG.refl _,m⟩
def wk_tup (s:Src B G0 false K a xs P):Wk B G0 (Itt K a) xs P where
 go:=λ{H cs ds i} S h hi=>by
  obtain ⟨vs,q,g,_⟩:=s S h;exact ⟨vs,vs[i]'⋯,q,Qa _⟩
 stop:=λ{H cs ds i} S h hi=>by
  obtain ⟨vs,q,g,_⟩:=s S h;exact ⟨vs,q,⋯⟩
 yld:=λ{H H' cs ds i x v} S h hx y=>by
  obtain ⟨e,y⟩:=y;subst e;obtain ⟨vs,q,g,z⟩:=s S h;obtain ⟨w,hw,m⟩:=z i x hx;have:=y vs q;rw [hw] at this;cases this;exact ⟨zG.refl _,m⟩
def eR (lo:Int) (n:Nat):List PyData:=(List.range n).map λi=> .int (lo+(i:Nat))
def yu (lo:Int) (n:Nat):(eR lo n).length=n:=by unfold eR;rw [Qb,jah]
def xU {lo:Int} {n i:Nat} {x:PyData} (h:(eR lo n)[i]? =some x):i<n/\x= .int (lo+(i:Nat)):=by
 have g:i<n:=by have:=(Qf.mp h).1;rwa [yu] at this
 unfold eR at h;rw [Qh,List.getElem?_range g] at h;exact ⟨g,(Qw h).symm⟩
def tf {lo:Int} {n:Nat}:Wk B G0 (Itr lo n) (eR lo n) (λ_ _=>True) where
 go:=λ{H cs ds i} S h hi=>by rw [yu] at hi;exact hi
 stop:=λ{H cs ds i} S h hi=>by rw [yu] at hi;exact hi
 yld:=λ{H H' cs ds i x v} S h hx y=>by
  obtain ⟨e,y⟩:=y;obtain ⟨_,rfl⟩:=xU hx;subst e y;exact ⟨zG.refl _,S.push Has.int⟩
def rW (xs:List PyData):List PyData:=xs.mapIdx λi x=> .tuple [.int (i:Nat),x]
def Yf (xs:List PyData):(rW xs).length=xs.length:=by unfold rW;rw [List.length_mapIdx]
def dj {xs:List PyData} {i:Nat} {y:PyData} (h:(rW xs)[i]? =some y):∃x,xs[i]? =some x/\y= .tuple [.int (i:Nat),x]:=by
 unfold rW at h;rw [List.getElem?_mapIdx] at h
 cases e:xs[i]? with
 |none=>rw [e] at h;cases h
 |some x=>rw [e] at h;exact ⟨x,rfl,(Qw h).symm⟩
def AS (s:Src B G0 b K a xs P):Wk B G0 (ItE b K a) (rW xs) P where
 go:=λ{H cs ds i} S h hi=>by
  rw [Yf] at hi;obtain ⟨vs,q,g,_⟩:=s S h;exact ⟨vs,vs[i]'⋯,q,Qa _⟩
 stop:=λ{H cs ds i} S h hi=>by
  rw [Yf] at hi;obtain ⟨vs,q,g,_⟩:=s S h;exact ⟨vs,q,⋯⟩
 yld:=λ{H H' cs ds i x v} S h hx y=>by
  obtain ⟨x0,A,rfl⟩:=dj hx;obtain ⟨p,u,m,hp,rfl,rfl⟩:=y;obtain ⟨vs,q,g,z⟩:=s S h;obtain ⟨w,hw,t⟩:=z i x0 A;have:=m vs q;rw [hw] at this;cases this;refine ⟨zG.new hp _,(t.newT hp (.cons Has.int (.cons (.mem (Qg ..)) .nil))).dat λr hr=> .mem ?_⟩
  rcases Qn.mp hr with rfl|hr
  ·exact Qg ..
  ·exact Qe _ (Qe _ hr)
def qc (xs ys:List PyData):List PyData:=List.zipWith (λx y=> .tuple [x,y]) xs ys
def yI (xs ys:List PyData):(qc xs ys).length=min xs.length ys.length:=by unfold qc;rw [Qy]
def ZR {xs ys:List PyData} {i:Nat} {z:PyData} (h:(qc xs ys)[i]? =some z):∃x y,xs[i]? =some x/\ys[i]? =some y/\z= .tuple [x,y]:=by
 unfold qc at h;rw [Qx] at h
 cases e:xs[i]? with
 |none=>rw [e] at h;cases h
 |some x=>
  cases e2:ys[i]? with
  |none=>rw [e,e2] at h;cases h
  |some y=>rw [e,e2] at h;exact ⟨x,y,rfl,rfl,(Qw h).symm⟩
def AQ {a2:Addr} (s:Src B G0 b K a xs P) (s2:Src B G0 c K a2 ys P'):Wk B G0 (ItZ b c K a a2) (qc xs ys) (λcs ds=>P cs ds/\(∀x v,P' cs ds->P' cs ((x,v)::ds))/\P' cs ds) where
 go:=λ{H cs ds i} S h hi=>by
  rw [yI] at hi;obtain ⟨vs,q,D,_⟩:=s S h.1;obtain ⟨ws,g,G,_⟩:=s2 S h.2.2;exact ⟨vs,ws,vs[i]'⋯,ws[i]'⋯,q,g,Qa _,Qa _⟩
 stop:=λ{H cs ds i} S h hi=>by
  rw [yI] at hi;obtain ⟨vs,q,D,_⟩:=s S h.1;obtain ⟨ws,g,G,_⟩:=s2 S h.2.2;exact ⟨vs,ws,q,g,⋯⟩
 yld:=λ{H H' cs ds i x v} S h hx y=>by
  obtain ⟨x0,I,M,m,rfl⟩:=ZR hx;obtain ⟨p,u,O,J,A,hp,rfl,rfl⟩:=y;obtain ⟨vs,q,D,z⟩:=s S h.1;obtain ⟨w,hw,L⟩:=z i x0 M;obtain ⟨ws,g,G,z2⟩:=s2 L (h.2.1 _ _ h.2.2);obtain ⟨N,t,C⟩:=z2 i I m;have:=J vs q;rw [hw] at this;cases this;have:=A ws g;rw [t] at this;cases this;refine ⟨zG.new hp _,(C.newT hp (.cons (.mem (Qe _ (Qg ..))) (.cons (.mem (Qg ..)) .nil))).dat λr hr=> .mem ?_⟩
  rcases Qn.mp hr with rfl|hr
  ·exact Qg ..
  ·exact Qe _ (Qe _ (Qe _ hr))
def kIL (K:Frg) (R:It->Hp->Prop):VK:=λx H1=>∃a,x= .ref a/\(∃xs,SqL K H1 a xs)/\R (Itl K a) H1
def kIT (K:Frg) (R:It->Hp->Prop):VK:=λx H1=>∃a,x= .ref a/\(∃xs,SqT K H1 a xs)/\R (Itt K a) H1
def kR1 (R:It->Hp->Prop):List V->Hp->Prop:=λvs H1=>∃j:Int,vs=[.int j]/\ -(2 ^ 62)<=j/\j<2 ^ 62/\R (Itr 0 j.toNat) H1
def kR2 (R:It->Hp->Prop):List V->Hp->Prop:=λvs H1=>∃i j:Int,vs=[.int i, .int j]/\(-(2 ^ 62)<=i/\i<2 ^ 62/\ -(2 ^ 62)<=j/\j<2 ^ 62)/\R (Itr i (j - i).toNat) H1
def kEn (b:Bool) (K:Frg) (R:It->Hp->Prop):List V->Hp->Prop:=λvs H1=>∃a,vs=[.ref a]/\(∃xs,SqB b K H1 a xs)/\R (ItE b K a) H1
def kZi (b c:Bool) (K:Frg) (R:It->Hp->Prop):List V->Hp->Prop:=λvs H1=>∃a1 a2,vs=[.ref a1, .ref a2]/\(∃xs,SqB b K H1 a1 xs)/\(∃ys,SqB c K H1 a2 ys)/\R (ItZ b c K a1 a2) H1
section
variable {σ:L2.St} {R:It->Hp->Prop} {tl:TE} {ta:TA}
def rd_iList (h:tl σ H (kIL K R)):iList K tl σ H R:=h
def rd_iTup (h:tl σ H (kIT K R)):iTup K tl σ H R:=h
def rd_iR1 (h:ta σ H (kR1 R)):iRng1 ta σ H R:=h
def rd_iR2 (h:ta σ H (kR2 R)):iRng2 ta σ H R:=h
def rd_iEn (h:ta σ H (kEn b K R)):iEnum b K ta σ H R:=h
def rd_iZi (h:ta σ H (kZi b c K R)):iZip b c K ta σ H R:=h
def jq (B G0:Hp) (m: -1000<=j) (g:j<=1000000) (k:∀J,Wk B G0 J (eR 0 j.toNat) (λ_ _=>True)->R J H):kR1 R [.int j] H:=⟨j,rfl,⋯,⋯,k _ tf⟩
def II (B G0:Hp) (m: -1000<=i/\i<=1000000) (g: -1000<=j/\j<=1000000) (k:∀J,Wk B G0 J (eR i (j - i).toNat) (λ_ _=>True)->R J H):kR2 R [.int i, .int j] H:=⟨i,j,rfl,⟨⋯,⋯,⋯,⋯⟩,k _ tf⟩
end
def kGT (K:Frg) (n:Nat) (t:TGs) (σ:L2.St) (N:L2.St->Hp->Prop):VK:=λv H=>∃a xs,v= .ref a/\SqT K H a xs/\xs.length=n/\t xs σ H N
def xR (h:kGT K n t σ N v H):gTup K n t v σ H N:=h
def IJ (S:Sta B G0 H cs ds) (h:Has ds (.tuple xs) v) (hn:xs.length=n) (k:∀vs,xs.length=vs.length->Sta B G0 H cs (xs.zip vs++ds)->t vs σ H N):kGT K n t σ N v H:=by
 obtain ⟨p,vs,rfl,hp,g,m,_⟩:=S.tupAll h;exact ⟨p,vs,rfl,SqT.of hp,⋯,k vs g m⟩
def xQ (S:Sta B G0 H cs ds) (h:Has ds (.tuple [x,y]) v) (k:∀m g,Sta B G0 H cs ((x,m)::(y,g)::ds)->t [m,g] σ H N):kGT K 2 t σ N v H:=by
 refine IJ S h rfl λvs p q=>?_
 rcases vs with _|⟨m,_|⟨g,_|⟨r,vs⟩⟩⟩<;>try cases p
 exact k m g q
def yO (h:t v σ H λσ' H'=>u vs σ' H' N):gCons t u (v::vs) σ H N:=⟨v,vs,rfl,h⟩
def WA (h:N σ H):gNil [] σ H N:=⟨rfl,h⟩
def kFor (g:TG) (q:TS) (D:Ends) (σ:L2.St):It->Hp->Prop:=λJ H1=>∃W:Nat->Nat->L2.St->Hp->Prop,(∃m,W 0 m σ H1)/\∀i m σ H,W i m σ H->
 (J.stop i H/\D.nx σ H)\/(J.go i H/\∃N:L2.St->Hp->Prop,(∀σ' H',N σ' H'->∃p,p<m/\W (i+1) p σ' H')/\∀x H',J.yld i H x H'->g x σ H' λσ2 H2=>q {D with nx:=N,ct:=N,bk:=D.nx} σ2 H2)
def rd_for (h:wi σ H (kFor g tb D σ)):tFor wi g tb D σ H:=h
def AtP (B G0:Hp) (Pv:L2.St->yN->Dat->Prop):L2.St->Hp->Prop:=λσ H=>∃cs ds,Sta B G0 H cs ds/\Pv σ cs ds
def YE (S:Sta B G0 H cs ds) (h:Pv σ cs ds):AtP B G0 Pv σ H:=⟨cs,ds,S,h⟩
def Zu (w:Wk B G0 J xs P) (Pv:Nat->L2.St->yN->Dat->Prop) (S:Sta B G0 H cs ds) (h0:Pv 0 σ cs ds) (r:∀i σ cs ds,Pv i σ cs ds->P cs ds)
 (s:∀(i:Nat) (x:PyData) (v:V) (σ:L2.St) (H:Hp) (cs:yN) (ds:Dat),xs[i]? =some x->Pv i σ cs ds->Sta B G0 H cs ((x,v)::ds)->g v σ H λσ2 H2=>tb (mkL D (AtP B G0 (Pv (i+1)))) σ2 H2)
 (hd:∀(σ:L2.St) (H:Hp) (cs:yN) (ds:Dat),Pv xs.length σ cs ds->Sta B G0 H cs ds->D.nx σ H):kFor g tb D σ J H:=by
 refine ⟨λi m σ H=>m=xs.length - i/\i<=xs.length/\AtP B G0 (Pv i) σ H,⟨xs.length,by simp,jab _,cs,ds,S,h0⟩,?_⟩
 rintro i m σ H ⟨rfl,hi,cs,ds,S,p⟩
 by_cases q:i<xs.length
 ·refine .inr ⟨w.go S (r _ _ _ _ p) q,AtP B G0 (Pv (i+1)),λσ' H' p'=>⟨xs.length - (i+1),⋯,rfl,q,p'⟩,λx H' y=>?_⟩;exact s i _ x σ H' cs ds (Qa q) p (w.yld S (r _ _ _ _ p) (Qa q) y).2
 ·have e:i=xs.length:=⋯
  subst e;exact .inl ⟨w.stop S (r _ _ _ _ p) (Qs _),hd σ H cs ds p S⟩
def WP (B G0:Hp) (Pv:Nat->L2.St->yN->Dat->Prop):Nat->L2.St->Hp->Prop:=λm σ H=>AtP B G0 (Pv m) σ H
def kWh (W:Nat->L2.St->Hp->Prop) (p:TS) (D:Ends) (m:Nat) (σ:L2.St):Bool->Hp->Prop:=λb H1=>if b=true then ∃N:L2.St->Hp->Prop,(∀σ' H',N σ' H'->∃g,g<m/\W g σ' H')/\p {D with nx:=N,ct:=N,bk:=D.nx} σ H1 else D.nx σ H1
def BY (r:b=true->tb (mkL D (λσ' H'=>∃g,g<m/\W g σ' H')) σ H)
 (p:b=false->D.nx σ H):kWh W tb D m σ b H:=by
 cases b with
 |true=>exact ⟨_,λσ' H' q=>q,r rfl⟩
 |false=>exact p rfl
def jX {c:TT} {g:TS} {D:Ends} {σ:L2.St} (W:Nat->L2.St->Hp->Prop) (m:Nat) (h0:W m σ H) (p:∀(m:Nat) (σ:L2.St) (H:Hp),W m σ H->c σ H (kWh W g D m σ)):Bb c g D σ H:=⟨W,⟨m,h0⟩,p⟩
def AU {c:TT} {g:TS} {D:Ends} {σ:L2.St} (Pv:Nat->L2.St->yN->Dat->Prop) (m:Nat) (S:Sta B G0 H cs ds) (h0:Pv m σ cs ds)
 (q:∀(m:Nat) (σ:L2.St) (H:Hp) (cs:yN) (ds:Dat),Pv m σ cs ds->Sta B G0 H cs ds->c σ H (kWh (WP B G0 Pv) g D m σ)):Bb c g D σ H:=
 ⟨WP B G0 Pv,⟨m,cs,ds,S,h0⟩,λm σ H ⟨cs,ds,S,p⟩=>q m σ H cs ds p S⟩
def Hl (n:Nat) (fr:List Nat) (g:Blk TG) (tt:Blk TT) (w:Blk TE) (σ:L2.St) (Q:VK):It->Hp->Prop:=λJ H1=>∀D,H1 D=none->∀C ex s0 r,
 ∃W:Nat->Nat->List V->Hp->Prop,(∃m,W 0 m [] (upd H1 D (.lst [])))/\∀i m ys p,W i m ys p->p D=some (.lst ys)/\
  ((J.stop i p/\Q (.ref D) p)\/(J.go i p/\∀x u,J.yld i p x u->g C ex s0 r x (List.replicate n none++frσ σ fr) u λσ4 H4=>σ4.drop n=frσ σ fr/\tt C ex s0 r σ4 H4 λb t=>
    if b=true then w C ex s0 r σ4 t λy s=>s D=some (.lst ys)/\ys.length<sizeLine/\∃q,q<m/\W (i+1) q (ys++[y]) (upd s D (.lst (ys++[y])))
    else ∃q,q<m/\W (i+1) q ys t))
def rd_comp (h:wi σ H (Hl n fr g tt te σ Q)):vC n fr wi g tt te σ H Q:=h
structure Turn1 (B G0:Hp) (cs:yN) (B' G':Hp):Prop where
 b:zG B B'
 ro:∀c∈cs,Ro B' G' c.1 c.2
 old:∀{L:Addr} {xs:List PyData},Ro B G0 L xs->Ro B' G' L xs
def bq (w:Wk B G0 J xs P) (f:Nat->Option PyData) (S:Sta B G0 H cs ds) (Rv:∀D ys,P ((D,ys)::cs) ds) (hn:xs.length<=1000)
 (hs:∀(i:Nat) (x:PyData) (v:V) (t G':Hp) (Kd:VK) (Kn:Hp->Prop),xs[i]? =some x->Turn1 B G0 cs t G'->Sta t G' t [] ((x,v)::ds)->
  (∀{z:PyData} {y:V} {r:Hp} {cs':yN} {ds':Dat},f i=some z->Sta t G' r cs' ds'->Has ds' z y->Kd y r)->(∀{s:Hp} {cs':yN} {ds':Dat},f i=none->Sta t G' s cs' ds'->Kn s)->
  ∀C ex s0 T,g C ex s0 T v (List.replicate n none++frσ σ fr) t λσ4 H4=>σ4.drop n=frσ σ fr/\tt C ex s0 T σ4 H4 λb s=>if b=true then te C ex s0 T σ4 s Kd else Kn s)
 (k:∀D H',zG H H'->Sta B G0 H' ((D,(List.range xs.length).filterMap f)::cs) ds->Q (.ref D) H'):Hl n fr g tt te σ Q J H:=by
 intro D hD C ex s0 T;have len:∀i,((List.range i).filterMap f).length<=i:=λi=>QP (List.length_filterMap_le _ _) (by rw [jah];exact Qs _);refine ⟨λi m ys O=>m=xs.length - i/\i<=xs.length/\O D=some (.lst ys)/\zG H O/\Sta B G0 O ((D,(List.range i).filterMap f)::cs) ds,⟨xs.length,by simp,jab _,ya,zG.new hD _,S.newL hD .nil⟩,?_⟩
 rintro i m ys O ⟨rfl,hi,A,X,Z⟩
 refine ⟨A,?_⟩
 by_cases N:i<xs.length
 ·refine .inr ⟨w.go Z (Rv _ _) N,λv H3 y=>?_⟩;obtain ⟨Y,G3,S3⟩:=w.yld Z (Rv _ _) (Qa N) y;obtain ⟨a,b,c,d,e,f',g'⟩:=id S3;have M:H3 D=some (.lst ys):=Y _ _ A
  have t1:Turn1 B G0 cs H3 G3:=by
   refine ⟨c,λq U=>?_,λ{L zs} ⟨r1,vs,r2,r3⟩=>?_⟩
   ·obtain ⟨_,y',vs,z',u'⟩:=e q (Qe _ U);exact ⟨y',vs,z',u'⟩
   ·exact ⟨by rw [d L (by rw [r2];simp)];exact r1,vs,c _ _ r2,zC.mono a _ _ r3⟩
  have up:∀{r:Hp} {cs':yN} {ds':Dat} {o:HO},zG H H3->H D=none->zG H r->zG H (upd r D o):=λ{r cs' ds' o} _ hn h q u U=>by
   rw [zP (zU U hn)];exact h _ _ U
  refine hs i _ v H3 G3 _ _ (Qa N) t1 (Sta.enter b g') ?_ ?_ C ex s0 T
  ·intro z y6 r cs' ds' fz S6 hz;obtain ⟨G6,gr,al⟩:=S6.leave;have I:r D=some (.lst ys):=gr.h _ _ M;have S6':Jo B G0 r ((D,(List.range i).filterMap f)::cs) ((xs[i],v)::ds) G6:=S3.grow gr
   have S7:Sta B G0 r ((D,(List.range i).filterMap f)::cs) ((z,y6)::ds):=by
    obtain ⟨a',b',c',d',e',f'',g''⟩:=S6';exact ⟨G6,a',b',c',d',e',f'',ZE.cons (λp hp=>g'' p (Qe _ hp)) (hz G6 al)⟩
   obtain ⟨vs,hv,hl,put⟩:=S7.put;rw [I] at hv;cases hv;refine ⟨I,YM (by have:=len i;lia),xs.length - (i+1),⋯,rfl,N,ya,up (cs':=cs') (ds':=ds') (X.trans Y) hD ((X.trans Y).trans gr.h),?_⟩
   have er:(List.range (i+1)).filterMap f=(List.range i).filterMap f++[z]:=by
    rw [List.range_succ,List.filterMap_append];simp [fz]
   rw [er];exact (put _ _ λG a u=>u.app (by rw [zC];exact ⟨y6,[],rfl,a _ (Qg ..),by rw [zC]⟩)).drop1
  ·intro s cs' ds' fz S5;obtain ⟨G5,gr,al⟩:=S5.leave;have S5':Sta B G0 s ((D,(List.range i).filterMap f)::cs) ((xs[i],v)::ds):=⟨G5,S3.grow gr⟩
   have er:(List.range (i+1)).filterMap f=(List.range i).filterMap f:=by
    rw [List.range_succ,List.filterMap_append];simp [fz]
   exact ⟨xs.length - (i+1),⋯,rfl,N,gr.h _ _ M,(X.trans Y).trans gr.h,by rw [er];exact S5'.drop1⟩
 ·have e:i=xs.length:=⋯
  subst e;exact .inl ⟨w.stop Z (Rv _ _) (Qs _),k D O X Z⟩
def LA {α β:Type} (g:α->β) (l:List α):l.filterMap (λi=>some (g i))=l.map g:=by
 induction l with
 |nil=>rfl
 |cons a l m=>simp [m]
def yg (w:Wk B G0 J xs P) (f:Nat->PyData) (A:(List.range xs.length).map f=ys) (S:Sta B G0 H cs ds) (L:∀D ys,P ((D,ys)::cs) ds) (hn:xs.length<=1000)
 (I:∀(i:Nat) (x:PyData) (v:V) (m p:Hp) (r:VK) (s:Hp->Prop),xs[i]? =some x->Turn1 B G0 cs m p->Sta m p m [] ((x,v)::ds)->
  (∀{y:V} {t:Hp} {cs':yN} {ds':Dat},Sta m p t cs' ds'->Has ds' (f i) y->r y t)->
  ∀C ex s0 u,g C ex s0 u v (List.replicate n none++frσ σ fr) m λσ4 H4=>σ4.drop n=frσ σ fr/\tt C ex s0 u σ4 H4 λb z=>if b=true then te C ex s0 u σ4 z r else s z)
 (k:∀D H',zG H H'->Sta B G0 H' ((D,ys)::cs) ds->Q (.ref D) H'):Hl n fr g tt te σ Q J H:=by
 refine bq w (λi=>some (f i)) S L hn (λi x v m p r s G t1 q hd _=>I i x v m p r s G t1 q λ{y t cs' ds'} a b=>hd rfl a b) λD H' e q=>k D H' e ?_;rw [LA,A] at q;exact q
def zZ (S:Sta B G0 H cs ds) (h:Has ds (.list xs) v) (k:∀J,Wk B G0 J xs (λ_ ds=>Has ds (.list xs) v)->R J H):kIL K R v H:=by
 obtain ⟨p,vs,rfl,hp,_⟩:=S.lst h;exact ⟨p,rfl,⟨_,SqL.of hp⟩,k _ (AR WY)⟩
def aL (S:Sta B G0 H cs ds) (h:Has ds (.tuple xs) v) (k:∀J,Wk B G0 J xs (λ_ ds=>Has ds (.tuple xs) v)->R J H):kIT K R v H:=by
 obtain ⟨p,vs,rfl,hp,_⟩:=S.tup h;exact ⟨p,rfl,⟨_,SqT.of hp⟩,k _ (wk_tup dH)⟩
def Cm (S:Sta B G0 H cs ds) (h:(L,xs)∈cs) (k:∀J,Wk B G0 J xs (λcs _=>(L,xs)∈cs)->R J H):kIL K R (.ref L) H:=by
 obtain ⟨vs,hp,_⟩:=S.cell h;exact ⟨L,rfl,⟨_,SqL.of hp⟩,k _ (AR FE)⟩
def Kr (S:Sta B G0 H cs ds) (h:Has ds (.tuple xs) v) (k:∀J,Wk B G0 J (rW xs) (λ_ ds=>Has ds (.tuple xs) v)->R J H):kEn false K R [v] H:=by
 obtain ⟨p,vs,rfl,hp,_⟩:=S.tup h;exact ⟨p,rfl,⟨_,SqT.of hp⟩,k _ (AS dH)⟩
def Co (S:Sta B G0 H cs ds) (h:Has ds (.list xs) v) (k:∀J,Wk B G0 J (rW xs) (λ_ ds=>Has ds (.list xs) v)->R J H):kEn true K R [v] H:=by
 obtain ⟨p,vs,rfl,hp,_⟩:=S.lst h;exact ⟨p,rfl,⟨_,SqL.of hp⟩,k _ (AS WY)⟩
def lB (S:Sta B G0 H cs ds) (h:Has ds (.tuple xs) v) (m:Has ds (.tuple ys) w) (k:∀J,Wk B G0 J (qc xs ys) (λcs ds=>Has ds (.tuple xs) v/\(∀x u,Has ds (.tuple ys) w->Has ((x,u)::ds) (.tuple ys) w)/\Has ds (.tuple ys) w)->R J H):kZi false false K R [v,w] H:=by
 obtain ⟨p,vs,rfl,hp,_⟩:=S.tup h;obtain ⟨q,ws,rfl,g,_⟩:=S.tup m;exact ⟨p,q,rfl,⟨_,SqT.of hp⟩,⟨_,SqT.of g⟩,k _ (AQ dH dH)⟩
def Sta.refL (S:Sta B G0 H cs ds) (h:Has ds (.list xs) v):∃a,v= .ref a:=by
 obtain ⟨p,_,e,_⟩:=S.lst h;exact ⟨p,e⟩
section
variable {α:Type}
def spT (enc:α->List PyData) (dom:α->Prop) (res:α->PyData):Sp:=λvs H Q _=>∃(G:Hp) (a:α),zG G H/\zC G (enc a) vs/\dom a/\∀v H' g,Grow G H g H'->Is g (res a) v->Q v H'
def spL (enc:α->List PyData) (dom:α->Prop) (res:α->List PyData):Sp:=λvs H Q _=>∃(G:Hp) (a:α),zG G H/\zC G (enc a) vs/\dom a/\∀p H' g us,Grow G H g H'->H p=none->g p=none->H' p=some (.lst us)->zC g (res a) us->Q (.ref p) H'
def spB (enc:α->List PyData) (dom:α->Prop) (res:α->V):Sp:=λvs H Q _=>∃(a:α),zC H (enc a) vs/\dom a/\∀H',zG H H'->Q (res a) H'
variable {enc:α->List PyData} {dom:α->Prop} {resB:α->V} {Q:VK} {E:XK} {vs:List V}
def Zq (a:α) (S:Sta B G0 H cs ds) (g:zV ds (enc a) vs) (hd:dom a) (k:∀v H',zG H H'->Sta B G0 H' cs ((res a,v)::ds)->Q v H'):spT enc dom res vs H Q E:=by
 obtain ⟨G,S⟩:=S;refine ⟨G,a,S.2.1,g G S.2.2.2.2.2.2,hd,λv H' u gr m=>k v H' gr.h ?_⟩;obtain ⟨t,s,r,d',q,p,g'⟩:=S.grow gr;exact ⟨u,t,s,r,d',q,p,g'.cons m⟩
def Yp (a:α) (S:Sta B G0 H cs ds) (m:zV ds (enc a) vs) (hd:dom a) (k:∀p H',zG H H'->Sta B G0 H' ((p,resL a)::cs) ds->Q (.ref p) H'):spL enc dom resL vs H Q E:=by
 obtain ⟨G,S⟩:=S;refine ⟨G,a,S.2.1,m G S.2.2.2.2.2.2,hd,λp H' J us gr hp t s r=>k p H' gr.h ?_⟩;have u:=S.2.2.1.free hp;obtain ⟨_,_,_,_,e0,_,_⟩:=id S;obtain ⟨D,C,A,d',y,w,g'⟩:=S.grow gr;refine ⟨J,D,C,A,d',λq g=>?_,?_,g'⟩
 ·rcases Qn.mp g with rfl|g
  ·exact ⟨u,t,us,s,r⟩
  ·exact y q g
 ·rw [Qj,TV];refine ⟨λz=>?_,w⟩;obtain ⟨q,g,I⟩:=Qk.mp z;obtain ⟨_,_,ws,z,_⟩:=e0 q g;rw [I,hp] at z;cases z
def Wx (a:α) (g:zC H (enc a) vs) (hd:dom a) (k:∀H',zG H H'->Q (resB a) H'):spB enc dom resB vs H Q E:=⟨a,g,hd,k⟩
def Sta.hpAll (S:Sta B G0 H cs ds) (h:zV ds xs vs):zC H xs vs:=by
 obtain ⟨G,a,b,c,d,e,f,g⟩:=S;exact zC.mono b _ _ (h G g)
def Zo (S:Sta H G H' cs ds) (k:∀v H' g,Grow G H g H'->Is g r v->Q v H') (h:Has ds r v):Q v H':=by
 obtain ⟨g,gr,al⟩:=S.leave;exact k v H' g gr (h g al)
def Zp (S:Sta H G H' ((p,r)::cs) ds) (k:∀p H' m us,Grow G H m H'->H p=none->m p=none->H' p=some (.lst us)->zC m r us->Q (.ref p) H'):Q (.ref p) H':=by
 obtain ⟨m,a,b,c,d,e,f,g⟩:=S;obtain ⟨x,y,us,z,u⟩:=e _ (Qg ..);exact k p H' m us ⟨c,a,b,d⟩ x y z u
def vK (S:Sta H G H' cs ds) (k:∀H',zG H H'->Q r H'):Q r H':=k H' S.base
def Yd (h:zC G [x] vs):∃v,vs=[v]/\ZE G [(x,v)]:=by
 simp only [zC] at h;obtain ⟨v,_,rfl,g,rfl⟩:=h;exact ⟨v,rfl,λp hp=>by simp at hp;subst hp;exact g⟩
def xB (h:zC G [x,y] vs):∃v w,vs=[v,w]/\ZE G [(x,v),(y,w)]:=by
 simp only [zC] at h;obtain ⟨v,_,rfl,m,w,_,rfl,g,rfl⟩:=h;exact ⟨v,w,rfl,λp hp=>by simp at hp;rcases hp with rfl|rfl<;>assumption⟩
def Yc (h:zC G [x,y,z] vs):∃v w u,vs=[v,w,u]/\ZE G [(x,v),(y,w),(z,u)]:=by
 simp only [zC] at h;obtain ⟨v,_,rfl,q,w,_,rfl,m,u,_,rfl,g,rfl⟩:=h;exact ⟨v,w,u,rfl,λp hp=>by simp at hp;rcases hp with rfl|rfl|rfl<;>assumption⟩
def Is.int_of (h:Is G (.int i) v):v= .int i:=by rw [Is] at h;exact h
end
end
def wt {M:Model} {A:Around} {E:Value->Shared->Prop} {s:Shared} {scope:Scope} {globals:Addr} {closure:List (Str×Addr)} {qual y:Str} {func:Option Addr} {code:Value} {env:Env} {builtins:Addr} {Q:Env->Shared->Prop}
 (one:∀n acc,cellsFrom n scope.names acc=(y,n)::acc) (push:∀h,pushCells h scope.names=h.push {cls:= .type "cell",data:= .cell none})
 (g:Q (newEnv scope s.heap.objs.size globals ((y,s.heap.objs.size+1)::closure) qual func code (some env) builtins) {s with heap:=(s.heap.push {cls:= .type "dict",data:= .dict #[]}).push {cls:= .type "cell",data:= .cell none}}):
 wpAny M A (newFunctionEnv scope globals closure [] qual func code (some env) builtins) Q E s:=by
 simp only [newFunctionEnv,Option.isSome_some,if_true];refine Qc (wpAny_alloc ?_);refine Qc (wpAny_layCells _ (λname kind cells=>by cases hkc:kind==NameKind.cell<;>simp [hkc]) _ _ _ _ ?_);rw [one,push,show ({s with heap:=s.heap.push {cls:= .type "dict",data:= .dict #[]}}:Shared).heap.objs.size=s.heap.objs.size+1 from QS ..];refine Qc ?_;rw [List.forIn_nil];exact Ql (Ql g)
def YG (X:Cx) (N:List Str) (scope:Scope) (y:Str) (C:Addr) (ex:List Addr) (s:Shared) (H:Hp):Cx where
 prog:=X.prog
 w:=X.w
 K:=X.K
 mg:=X.mg
 base:=X.base
 A:=X.A
 N:=N
 s₀:=s
 H₀:=H
 env:=compEnvC scope ((y,C+1)::yK X.env.cells scope.names []) C X.env
 outer:=X.stack
 stack:=X.stack
 ex:=ex
 fn:=λx=>x==y
 calm:=X.calm
 pn:=[]
 xe:=λ_ _=>False
structure CompOk1 (X:Cx) (N:List Str) (n:Nat) (fr:List Nat) (scope:Scope) (y:Str):Prop where
 kind:scope.kind= .function
 nd:N.Nodup
 names:(N.drop n)=fr.map (λj=>(X.N[j]?).getD ("":Str))
 own:n<=N.length
 inx:(fr.all λj=>decide (j<X.N.length))=true
 free:((N.drop n).all λx=>decide (scope.names.lookup x=some .free))=true
 one:∀n acc,cellsFrom n scope.names acc=(y,n)::acc
 push:∀h,pushCells h scope.names=h.push {cls:= .type "cell",data:= .cell none}
 oth:(scope.names.all λz=>decide (z.2= .cell->z.1=y))=true
 yfree:(scope.names.all λz=>decide (z.2= .free->z.1≠y))=true
 loc:(scope.names.all λy=>decide (y.2= .local->scope.names.lookup y.1=some .local))=true
 seen:(scope.names.all λy=>decide (y.2= .free->(X.env.kindOf y.1=some .cell\/X.env.kindOf y.1=some .free)))=true
def Vs (h:(relabel scope env).names.lookup x=some k) (p:k= .cell\/k= .free) (s:(scope.names.all λz=>decide (z.2= .cell->z.1=y))=true):x=y\/(x,NameKind.free)∈scope.names:=by
 unfold relabel at h;dsimp only at h
 have key:∀names:List (Str×NameKind),(names.all λz=>decide (z.2= .cell->z.1=y))=true->
  (names.map λ(n,k)=>if (k==NameKind.free && env.scope.kind== .function && env.kindOf n==some .cell)=true then (n,NameKind.cell) else (n,k)).lookup x=some k->x=y\/(x,NameKind.free)∈names:=by
  intro names
  induction names with
  |nil=>intro _ h;simp at h
  |cons z r m=>
   intro ha h;obtain ⟨n,j⟩:=z;rw [List.all_cons,TF] at ha;rw [Qj] at h;have t:∀(b:Bool) (g:NameKind),((if b=true then (n,NameKind.cell) else (n,g)):Str×NameKind)=(n,if b=true then NameKind.cell else g):=by intro b g;cases b<;>rfl
   dsimp only at h;rw [t,jaK] at h
   cases hx:x==n with
   |false=>
    rw [hx] at h;exact (m ha.2 h).imp id (Qe _)
   |true=>
    rw [hx] at h;have e:x=n:=by simpa using hx
    subst e;have h':=Qw h;have q:j= .cell->x=y:=Qz ha.1
    cases hb:(j==NameKind.free && env.scope.kind== .function && env.kindOf x==some .cell) with
    |true=>
     rw [TF,TF] at hb;have:j= .free:=by simpa using hb.1.1
     subst this;exact .inr (Qg ..)
    |false=>
     rw [hb] at h';simp only [jav,if_false] at h';subst h'
     rcases p with z|z
     ·exact .inl (q z)
     ·subst z;exact .inr (Qg ..)
 exact key _ s h
section
variable {X:Cx} {N:List Str} {n:Nat} {fr:List Nat} {scope:Scope} {pins:Pn} {σ:L2.St} {H:Hp} {s:Shared} {y:Str}
def CompOk1.cells (O:CompOk1 X N n fr scope y) (I:Inv X pins σ H s):∀y∈scope.names,y.2= .free->∃c,X.env.cells.lookup y.1=some c:=λy g hf=>I.ok.has y.1 (Qz (TH.mp O.seen y g) hf)
def dh:((y,a)::l).lookup x=if x=y then some a else l.lookup x:=by
 rw [jaK]
 cases h:x==y with
 |true=>rw [QD ‹h›]
 |false=>rw [QI ‹h›]
def sg (O:CompOk1 X N n fr scope y) (I:Inv X pins σ H s) (hf:∀b∈fp,sU X pins H b) (G:∀b∈fp,b<s.heap.objs.size)
 (OW:h'.Ns s.heap.objs.size m) (J:h'.IsCell (s.heap.objs.size+1) none) (keep:∀b o,s.heap.get? b=some o->h'.get? b=some o):
 Inv (YG X N scope y s.heap.objs.size fp s H) [] (List.replicate n none++frσ σ fr) H {s with heap:=h',toks:=tk}:=by
 have OG:=O.cells I;have lk:∀x c,(yK X.env.cells scope.names []).lookup x=some c->X.env.cells.lookup x=some c:=λx c h=>XH OG (λc h=>by simp at h) h;have cne:∀x c,(yK X.env.cells scope.names []).lookup x=some c->∃v,s.heap.IsCell c v:=λx c h=>I.cell x c (lk x c h)
 have K:∀x c,(yK X.env.cells scope.names []).lookup x=some c->c<s.heap.objs.size:=λx c h=>by
  obtain ⟨v,o,D,_⟩:=cne x c h;exact Qt D
 have g:∀x c,((y,s.heap.objs.size+1)::yK X.env.cells scope.names []).lookup x=some c->(x=y/\c=s.heap.objs.size+1)\/(yK X.env.cells scope.names []).lookup x=some c:=λx c h=>by
  rw [dh] at h
  by_cases e:x=y
  ·rw [QD e] at h;exact .inl ⟨e,(Qw h).symm⟩
  ·rw [QI e] at h;exact .inr h
 have C:∀x w c,((y,s.heap.objs.size+1)::yK X.env.cells scope.names []).lookup x=some c->((y,s.heap.objs.size+1)::yK X.env.cells scope.names []).lookup w=some c->x=w:=λx w c P r=>by
  rcases g x c P with ⟨a,b⟩|a
  ·rcases g w c r with ⟨M,_⟩|M
   ·rw [a,M]
   ·have:=K w c M;rw [b] at this;exact absurd (Nat.lt_trans (Te _) this) (jag _)
  ·rcases g w c r with ⟨_,b⟩|M
   ·have:=K x c a;rw [b] at this;exact absurd (Nat.lt_trans (Te _) this) (jag _)
   ·exact I.ok.inj x w c (lk x c a) (lk w c M)
 have L:∀x c,(x==y)=true->((y,s.heap.objs.size+1)::yK X.env.cells scope.names []).lookup x=some c->s.heap.objs.size<=c:=λx c t h=>by
  rcases g x c h with ⟨_,b⟩|a
  ·rw [b];exact jal _
  ·rw [dh,QD ‹t›] at h;cases h;exact jal _
 refine ⟨⟨I.mod,O.kind,I.ok.glob,I.ok.blt,Qs _,C,λx t=>?_,L,I.ok.hd,I.ok.frames, .inl rfl,λb A=>⟨QO (G b A),λx c h=>by
  rcases g x c h with ⟨_,z⟩|z
  ·rw [z];exact λe=>absurd (G b A) (by rw [<-e];exact Nat.not_lt.mpr (jal _))
  ·exact (hf b A).2.2.2.2.1 x c (lk x c z)⟩,I.bs,QP I.ok.bsz I.sz,λb o e A=>?_,λb A z=>?_,I.stack,I.stkFree⟩,
  rfl,I.bare,Un.kept keep,⟨m,OW,λi x v P r h3=>?_⟩,λx c h=>?_,I.hok.fresh (Qs _),λx c h=>by
   rcases g x c h with ⟨_,z⟩|z
   ·rw [z];exact I.hok.fresh (jal _)
   ·exact I.freeC x c (lk x c z),λp hp=>absurd hp (by simp [YG]),I.hok.kept keep,?_⟩
 ·have NJ:x=y\/(x,NameKind.free)∈scope.names:=by
   rcases t with t|t
   ·exact Vs t (.inl rfl) O.oth
   ·exact Vs t (.inr rfl) O.oth
  show ∃c,((y,s.heap.objs.size+1)::yK X.env.cells scope.names []).lookup x=some c;rw [dh]
  by_cases e:x=y
  ·exact ⟨_,QD e⟩
  ·rw [QI e];exact jaf.mp (Xf (.inl (NJ.resolve_left e)))
 ·rcases (hf b A).2.2.2.1 with z|z
  ·exact I.ok.noex b o e z
  ·exact absurd (QX (Qt (I.ok.bs b o e).1) z) (jag _)
 ·rcases Qn.mp (I.stkSub b z) with q|q
  ·exact (hf b A).2.1 q
  ·exact (hf b A).2.2.1 q
 ·by_cases Y:i<n
  ·rw [jaa ‹Y›,Tt,QD Y] at r;cases r
  ·have Pb:(N.drop n)[i - n]? =some x:=by rw [jao,show n+(i - n)=i by lia];exact P
   rw [TC ‹Y›,QF] at r;unfold frσ at r;rw [Qh] at r;rw [O.names,Qh] at Pb
   cases ej:fr[i - n]? with
   |none=>rw [ej] at r;cases r
   |some j=>
    rw [ej] at r Pb;have U:j<X.N.length:=Qz (TH.mp O.inx j (Qd ej))
    have t:X.N[j]? =some x:=by
     have e:=Qw Pb;dsimp only at e;rw [Qa U] at e⊢;exact congrArg some e
    have hv:σ[j]? =some (some v):=by
     have e:=Qw r;dsimp only at e
     cases es:σ[j]? with
     |none=>rw [es] at e;cases e
     |some o=>rw [es] at e;rw [show o=some v from e]
    have OY:scope.names.lookup x=some .free:=by
     refine Qz (TH.mp O.free x ?_);exact Qd (by rw [jao,show n+(i - n)=i by lia];exact P)
    have Z:(x,NameKind.free)∈scope.names:=jaB OY;have Sr:=Qz (TH.mp O.seen _ Z) rfl;obtain ⟨mX,hnX,T⟩:=I.loc;obtain ⟨u,ru,lu⟩:=T j x v t hv (Sr.elim (λz=> .inr (.inl z)) λz=> .inr (.inr z));refine ⟨u,ru, .inr ⟨?_,?_⟩⟩
    ·exact cc OY
    ·obtain ⟨c,hc⟩:=jaf.mp (Xf (.inl Z))
     refine ⟨c,(by
      show ((y,s.heap.objs.size+1)::yK X.env.cells scope.names []).lookup x=some c;rw [dh,QI (Qz (TH.mp O.yfree _ Z) rfl)]
      exact hc),?_⟩
     rcases lu with ⟨k,_⟩|⟨_,c',NF,z⟩
     ·rcases Sr with q|q
      ·rw [show X.env.kindOf x=_ from k] at q;cases q
      ·rw [show X.env.kindOf x=_ from k] at q;cases q
     ·have:=lk x c hc;rw [NF] at this;cases this;obtain ⟨o,D,hd⟩:=z;exact ⟨o,keep _ _ D,hd⟩
 ·rcases g x c h with ⟨_,z⟩|z
  ·rw [z];exact ⟨_,J⟩
  ·obtain ⟨v,o,D,hd⟩:=cne x c z;exact ⟨v,o,keep _ _ D,hd⟩
 ·rw [QM,QF];unfold frσ;have e:=congrArg List.length O.names;rw [jaJ,Qb] at e;have:=O.own;show _=N.length;rw [Qb];lia
end
section
def Es {tg iter elt:Expr} {ifs:List Expr} {pos:Pos} {g:Blk TG} {tt:Blk TT} {te:Blk TE} {pins:Pn} {σ:L2.St} {z:Hp} {s2:Shared} {it:Addr} {I:List Addr} {tn:Nat->Heap->Prop} {J:It} {Q:VK}
 {RR:Value->Addr->Result->Shared->Prop} {E:Value->Shared->Prop}
 (hc:X.calm=true) (O:CompOk1 X N n fr scope y)
 (hg:∀C ex s H,PG (YG X N scope y C ex s H) tg (g C ex s H)) (ht:∀C ex s H,PIf (YG X N scope y C ex s H) ifs (tt C ex s H)) (he:∀C ex s H,PE (YG X N scope y C ex s H) elt (te C ex s H))
 (I2:Inv X pins σ z s2) (T:Turn X.prog X.w X.K tg J I it tn) (Ob:tn 0 s2.heap) (f2:∀b∈I,sU X pins z b)
 (hW:∀D,z D=none->∀C ex s0 H0,∃W:Nat->Nat->List V->Hp->Prop,(∃m,W 0 m [] (upd z D (.lst [])))/\∀i m ys z,W i m ys z->z D=some (.lst ys)/\
  ((J.stop i z/\Q (.ref D) z)\/(J.go i z/\∀x H3,J.yld i z x H3->g C ex s0 H0 x (List.replicate n none++frσ σ fr) H3 λσ4 H4=>σ4.drop n=frσ σ fr/\tt C ex s0 H0 σ4 H4 λb Z=>
    if b=true then te C ex s0 H0 σ4 Z λy H6=>H6 D=some (.lst ys)/\ys.length<sizeLine/\∃M,M<m/\W (i+1) M (ys++[y]) (upd H6 D (.lst (ys++[y])))
    else ∃M,M<m/\W (i+1) M ys Z)))
 (hR:∀(D C:Addr) (H':Hp) (P:Shared),Q (.ref D) H'->(∃m,P.heap.Ns C m)->Side X pins H' C->Inv X pins σ H' P->RR (.ref D) C (.ok .next) P):
 wpAny (model X.prog X.w) X.A (newList []) (λacc s₃=>wpAny (model X.prog X.w) X.A (newFunctionEnv scope X.env.globals (yK X.env.cells scope.names []) [] X.env.qual none .none (some X.env)) (λcenv s₄=>
  codeAny (model X.prog X.w) X.A (.compStart (.ListComp elt [⟨tg,iter,ifs,0⟩] scope pos) 0 (.ref it) acc {cenv with scope:=relabel scope X.env}) (RR acc cenv.locals) s₄) E s₃) E s2:=by
 refine To (wt O.one O.push ?_);have hDn:z s2.heap.objs.size=none:=I2.fresh;have I3:Inv X pins σ (upd z s2.heap.objs.size (.lst [])) {s2 with heap:=s2.heap.push {cls:= .type "list",data:= .seq ([]:List Value).toArray},toks:=s2.toks}:=I2.lnew (its:=[]) .nil (jab _);generalize hD:s2.heap.objs.size=D at*;dsimp only;generalize Si:s2.heap.push {cls:= .type "list",dict:=none,data:= .seq ([]:List Value).toArray}=q at*;have k23:∀b o,s2.heap.get? b=some o->q.get? b=some o:=λb o e=>by rw [<-Si];exact Qi _ e
 have sz3:q.objs.size=D+1:=by rw [<-Si,QS,hD]
 have OW₁:((q.push {cls:= .type "dict",dict:=none,data:= .dict #[],slots:=#[]}).push {cls:= .type "cell",dict:=none,data:= .cell none,slots:=#[]}).Ns q.objs.size (λ_=>none):=(Heap.Ns.new q (.type "dict")).keeps λb o e=>Qi _ e
 have OG₁:((q.push {cls:= .type "dict",dict:=none,data:= .dict #[],slots:=#[]}).push {cls:= .type "cell",dict:=none,data:= .cell none,slots:=#[]}).IsCell (q.objs.size+1) none:=⟨_,by
  have:=Qu (q.push {cls:= .type "dict",dict:=none,data:= .dict #[],slots:=#[]}) (o:={cls:= .type "cell",dict:=none,data:= .cell none,slots:=#[]}) rfl;rw [QS] at this
  exact this,rfl⟩
 have keep:∀b o,q.get? b=some o->((q.push {cls:= .type "dict",dict:=none,data:= .dict #[],slots:=#[]}).push {cls:= .type "cell",dict:=none,data:= .cell none,slots:=#[]}).get? b=some o:=λb o e=>Qi _ (Qi _ e);generalize (q.push {cls:= .type "dict",dict:=none,data:= .dict #[],slots:=#[]}).push {cls:= .type "cell",dict:=none,data:= .cell none,slots:=#[]}=h₁ at*
 have flt:∀b∈I,b<D:=λb t=>by
  obtain ⟨o,ho,_⟩:=T.obj _ _ Ob b t;rw [<-hD];exact Qt ho
 have f3:∀b∈I,sU X pins (upd z D (.lst [])) b:=λb t=>⟨by rw [zP (QO (flt b t))];exact (f2 b t).1,(f2 b t).2⟩;have IY:=sg (tk:=s2.toks) O I3 f3 (λb t=>by show b<q.objs.size;rw [sz3];exact TK (flt b t)) OW₁ OG₁ keep;obtain ⟨W,⟨m0,w0⟩,turn⟩:=hW _ hDn q.objs.size I {s2 with heap:=q,toks:=s2.toks} (upd z D (.lst []));have RS:tn 0 h₁:=T.keep _ _ _ Ob λb t o e=>keep b o (k23 b o e);generalize G:YG X N scope y q.objs.size I {s2 with heap:=q,toks:=s2.toks} (upd z D (.lst []))=Y at*;have U:Y.env=compEnvC scope ((y,q.objs.size+1)::yK X.env.cells scope.names []) q.objs.size X.env:=by rw [<-G];rfl
 have Su:=hg q.objs.size I {s2 with heap:=q,toks:=s2.toks} (upd z D (.lst []));have Sh:=ht q.objs.size I {s2 with heap:=q,toks:=s2.toks} (upd z D (.lst []));have Sx:=he q.objs.size I {s2 with heap:=q,toks:=s2.toks} (upd z D (.lst []));rw [G] at Su Sh Sx;have eP:Y.prog=X.prog:=by rw [<-G];rfl
 have eW:Y.w=X.w:=by rw [<-G];rfl
 have eK:Y.K=X.K:=by rw [<-G];rfl
 have eA:Y.A=X.A:=by rw [<-G];rfl
 have eC:Y.calm=true:=by rw [<-G];exact hc
 have eX:Y.xe=λ_ _=>False:=by rw [<-G];rfl
 have fY:∀{H':Hp},(∀b∈I,H' b=none)->∀b∈I,sU Y [] H' b:=λ{H'} hn b t=>by
  have h1:=IY.ok.exf b (by rw [<-G];exact t);refine ⟨hn b t,h1.1,IY.ok.exfs b (by rw [<-G];exact t), .inl (by rw [<-G];exact t),h1.2,λp hp=>absurd hp (by rw [<-G];simp [YG])⟩
 have loop:codeAny (model X.prog X.w) X.A (.compLoop (.ListComp elt [⟨tg,iter,ifs,0⟩] scope pos) 0 (.ref it) (.ref D) (compEnvC scope ((y,q.objs.size+1)::yK X.env.cells scope.names []) q.objs.size X.env))
  (RR (.ref D) q.objs.size) {s2 with heap:=h₁,toks:=s2.toks}:=by
  refine codeAny_loop rfl (λk P=>∃i ys H',Inv Y [] (List.replicate n none++frσ σ fr) H' P/\tn i P.heap/\(∀b∈I,H' b=none)/\W i k ys H') (λk s5 hI=>?_) m0 ⟨0,[],_,IY,RS,λb t=>(f3 b t).1,w0⟩;obtain ⟨i,ys,Z,I5,Pl,Rx,w5⟩:=hI;show wpAny _ X.A ((compTurn (.ListComp elt [⟨tg,iter,ifs,0⟩] scope pos) 0 (.ref it) (.ref D) _).onRaise (λx=>do noteFrame x _;theTreesLotGoes x)) _ _ s5;refine wpAny_noted ?_;rw [compTurn_list,<-U];refine Qc (wpAny_standAt (Qc ?_));obtain ⟨hDl,step⟩:=turn i k ys Z w5
  rcases step with ⟨stop,qn⟩|⟨go,step⟩
  ·have d:=T.done Y eP eW eK eC i [] s5 _ Z (λ_ _=>False) I5 (fY Rx) Pl stop;rw [eA] at d;refine yJ (thn d λr s6 L=>?_);obtain ⟨hr,I6⟩:=L;subst hr;refine Ql ?_;have hC:Z q.objs.size=none:=by have:=I6.free;rw [U] at this;exact this
   have Rm:∃m,s6.heap.Ns q.objs.size m:=by
    have:=I6.loc;rw [U] at this;obtain ⟨m,hm,_⟩:=this;exact ⟨m,hm⟩
   have sd:Side X pins Z q.objs.size:=⟨hC,jay I3.lt,I3.sz,λx c e=>QO (let ⟨v,o,ho,_⟩:=I3.cell x c e;Qt ho),λp hp=>QO (Qt (I3.pin p hp).1)⟩;refine hR D q.objs.size Z s6 qn Rm sd ?_;have un:=I6.base;have e0:Y.s₀.heap=q:=by rw [<-G];rfl
   have eH0:Y.H₀=upd z D (.lst []):=by rw [<-G];rfl
   have eF:Y.fs=frs X.stack:=by rw [<-G];rfl
   have eEx:Y.ex=I:=by rw [<-G];rfl
   rw [e0,eH0,eF,eEx] at un;have OV:HOk X.prog X.w Z s6.heap:=by have:=I6.hok;rw [eP,eW] at this;exact this
   have os6:s6.os=s2.os:=I6.os.trans (by rw [<-G];rfl);exact I3.call' os6 un OV I6.bare λb t=>⟨(f2 b t).2.2.2.1,(f2 b t).2.1,(f2 b t).2.2.2.2.1,(f2 b t).2.2.2.2.2⟩
  ·have d:=T.item Y eP eW eK eC i [] s5 _ Z (λ_ _=>False) I5 (fY Rx) Pl go;rw [eA] at d;refine yJ (thn d λr s6 L=>?_);obtain ⟨u,hr,h6⟩:=L;subst hr;refine Qc (yJ (thn h6 λ_ s7 L=>?_));obtain ⟨x,H7,I7,r7,y7,PY,fr7⟩:=L;have I7':=I7.pinned (fY fr7) (T.obj _ _ PY);have g7:=Su _ s7 _ H7 x u _ I7' r7 (step x H7 y7);rw [eA,eP,eW,eX] at g7;refine Qc (yJ (thn g7 λ_ s8 L=>?_));obtain ⟨σ8,H8,I8,ed,q8⟩:=L;have t8:=Sh _ s8 σ8 H8 _ I8 q8;rw [eA,eP,eW,eX] at t8;refine Qc (yJ (thn t8 λb s9 L=>?_));obtain ⟨H9,I9,q9⟩:=L
   have back:∀{P:Shared} {H':Hp} {PX:List V} {M:Nat},Inv Y ([]++jt I s7.heap) σ8 H' P->M<k->W (i+1) M PX H'->∃m,m<k/\∃i ys H',Inv Y [] (List.replicate n none++frσ σ fr) H' P/\tn i P.heap/\(∀b∈I,H' b=none)/\W i m ys H':=λ{P H' PX M} I' hm w'=>by
    refine ⟨M,hm,i+1,PX,H',?_,T.keep _ _ _ PY λb t o e=>(I'.pin (b,o) (QB _ (QB _ (ZP t e)))).1,λb t=>?_,w'⟩
    ·refine (Inv.unpinned I').weak ?_ λj v hj=>?_
     ·exact IY.len.trans I'.len.symm
     ·by_cases Rp:j<n
      ·rw [jaa ‹Rp›,Tt,QD Rp] at hj;cases hj
      ·rw [TC ‹Rp›,QF,<-ed,jao,show n+(j - n)=j by lia] at hj;exact hj
    ·obtain ⟨o,e,d⟩:=T.obj _ _ PY b t;exact (I'.pin (b,o) (QB _ (QB _ (ZP t e)))).2.1
   cases b with
   |false=>
    obtain ⟨M,hm,w9⟩:=q9;exact Ql ⟨rfl,back I9 hm w9⟩
   |true=>
    have e9:=Sx _ s9 σ8 H9 _ I9 q9;rw [eA,eP,eW,eX] at e9;refine Qc (Qc (yJ (thn e9 λv s10 L=>?_)));obtain ⟨y,Pe,I10,r10,Rw,hz,M,hm,OP⟩:=L;have SN:=oG _ s10 σ8 Pe (.ref D) [y] (.ref D) [v] (λ_ H'=>H'=upd Pe D (.lst (ys++[y]))) I10 rfl (.cons r10 .nil) ⟨D,ys,y,rfl,rfl,Rw,hz,rfl⟩;rw [eA,eP,eW,eX] at SN;refine Qc (yJ (thn SN λ_ s11 L=>?_));obtain ⟨_,PV,I11,_,Ry⟩:=L;subst Ry;exact Ql (Ql ⟨rfl,back I11 hm OP⟩)
 exact codeAny_compStart_list loop (T.self _ _ _ _ _ RS loop)
def Gj {r iter elt:Expr} {ifs:List Expr} {pos:Pos} {t:TI} {g:Blk TG} {tt:Blk TT} {u:Blk TE}
 (L:X.calm=true) (O:CompOk1 X N n fr scope y) (G:PI X r iter t)
 (K:∀C ex s H,PG (YG X N scope y C ex s H) r (g C ex s H)) (ht:∀C ex s H,PIf (YG X N scope y C ex s H) ifs (tt C ex s H)) (he:∀C ex s H,PE (YG X N scope y C ex s H) elt (u C ex s H))
 (A:∀x,foldedSetIterable iter X.env x=pure x:=by intro _;rfl):
 PE X (.ListComp elt [⟨r,iter,ifs,0⟩] scope pos) (vC n fr t g tt u):=by
 intro pins s σ H Q I h;rw [eval_ListComp];refine jbH rfl A (XG (O.cells I)) O.kind (λy z=>Qz (TH.mp O.loc y z)) (thn (G pins s σ H _ I h) λv s1 Y=>thn Y λw s2 U=>?_);obtain ⟨it,fp,tn,J,H2,e,I2,T,Ob,f2,P⟩:=U;subst e;refine Es L O K ht he I2 T Ob f2 P ?_;intro D C H' s' q ⟨m,hm⟩ p inv;exact ⟨m,hm,λh' Z=>⟨.ref D,H',inv.turned (λb o M e=>Z.extBut b o M e) p.nt p.nl (.inr p.ab) p.nc p.np,rfl,q⟩⟩
end
end S
namespace S
def par (c t:List Int):Prop:=c.map (·*t.sum)=t.map (·*c.sum)
instance (c t:List Int):Decidable (par c t):=inferInstanceAs (Decidable (_=_))
open Classical in
noncomputable def yc (a:Rat×List Rat):List (Rat×List Rat)->List (Rat×List Rat)
 |[]=>[]
 |[b]=>[b]
 |b::c::r=>if zL a b c then yc b (c::r) else b::yc b (c::r)
open Classical in
noncomputable def Yb (cs:List zi) (i:Nat):Bool:=decide (i=0\/i+1=cs.length\/¬∀(a b c:zi),cs[i - 1]? =some a->cs[i]? =some b->cs[i+1]? =some c->zL a b c)
open Classical in
def YX (h:i=0\/i+1=cs.length\/¬∀(a b c:zi),cs[i - 1]? =some a->cs[i]? =some b->cs[i+1]? =some c->zL a b c):Yb cs i=true:=by
 unfold Yb;exact QT h
open Classical in
def jC (h:¬(i=0\/i+1=cs.length\/¬∀(a b c:zi),cs[i - 1]? =some a->cs[i]? =some b->cs[i+1]? =some c->zL a b c)):Yb cs i=false:=by
 unfold Yb;exact Tf h
noncomputable def yi:List zi->List zi
 |[]=>[]
 |c::r=>c::yc c r
theorem uu:∀(r pre:List zi) (a:zi),(List.range' (pre.length+1) r.length).filterMap (λj=>if Yb (pre++a::r) j then (pre++a::r)[j]? else none)=yc a r
 |[],pre,a=>by simp [yc]
 |[b],pre,a=>by
  have g:Yb (pre++[a,b]) (pre.length+1)=true:=YX (.inr (.inl (by simp)));simp [yc,g]
 |b::c::r,pre,a=>by
  have p:=uu (c::r) (pre++[a]) b;rw [QM,jas,jbk,List.singleton_append] at p;rw [QE,List.range'_succ,jaU,yc]
  have w:(pre++a::b::c::r)[pre.length+1 - 1]? =some a:=by
   rw [Nat.add_sub_cancel,TC (Qs _),Nat.sub_self];rfl
  have g1:(pre++a::b::c::r)[pre.length+1]? =some b:=by
   rw [TC ⋯,show pre.length+1 - pre.length=1 by lia];rfl
  have g2:(pre++a::b::c::r)[pre.length+1+1]? =some c:=by
   rw [TC ⋯,show pre.length+1+1 - pre.length=2 by lia];rfl
  by_cases m:zL a b c
  ·have g:Yb (pre++a::b::c::r) (pre.length+1)=false:=by
    refine jC ?_
    rintro (q|q|q)
    ·lia
    ·simp at q;lia
    ·refine q λx y z u t s=>?_;rw [w] at u;rw [g1] at t;rw [g2] at s;cases u;cases t;cases s;exact m
   rw [g,QD m]
   simpa using p
  ·have g:Yb (pre++a::b::c::r) (pre.length+1)=true:=YX (.inr (.inr λq=>m (q a b c w g1 g2)));rw [g,QI m,QD rfl,g1];dsimp only;rw [p]
def wL {β:Type} (cs:List zi) (g:zi->β):(List.range cs.length).filterMap (λj=>if Yb cs j then (cs[j]?).map g else none)=(yi cs).map g:=by
 have e:(List.range cs.length).filterMap (λj=>if Yb cs j then (cs[j]?).map g else none)=((List.range cs.length).filterMap (λj=>if Yb cs j then cs[j]? else none)).map g:=by
  rw [List.map_filterMap]
  congr 1
  funext j
  split<;>rfl
 rw [e]
 congr 1
 cases cs with
 |nil=>rfl
 |cons c r=>
  rw [QE,List.range_eq_range',List.range'_succ,jaU];have m:Yb (c::r) 0=true:=YX (.inl rfl);rw [m,QD rfl];have:=uu r [] c;simp only [List.length_nil,jbx,Nat.zero_add] at this;simp only [List.getElem?_cons_zero,Nat.zero_add];rw [this,yi]
end S
namespace S
open PySem PySem.Spec PyProof.Rows L2
section
variable {α:Type} {B G0 H:Hp} {cs:yN} {ds:Dat} {Q:VK}
def spP (enc:α->List PyData) (dom:α->Prop) (res:α->V):Sp:=λvs H Q _=>∃(a:α),zC H (enc a) vs/\dom a/\Q (res a) H
def rd_spP (a:α) (S:Sta B G0 H cs ds) (g:zV ds (enc a) vs) (hd:dom a) (k:Q (res a) H):spP enc dom res vs H Q E:=⟨a,S.hpAll g,hd,k⟩
def SzQ.of_div (e:q=Rat.divInt a b) (ha:Sz n a) (g:Sz n b) (h0:b≠0):SzQ n q:=by rw [e];exact SzQ.divInt ha g h0
def xh (p q:Rat):(p.den:Int)*(q.den:Int)≠0:=Int.ne_of_gt (Int.mul_pos (den_pos p) (den_pos q))
def mH (p q:Rat):Rat.divInt (p.num*(q.den:Int)+q.num*(p.den:Int)) ((p.den:Int)*(q.den:Int))=p+q:=by
 rw [Rat.add_def',<-Int.natCast_mul,Rat.divInt_ofNat]
def jZ (p q:Rat):Rat.divInt (p.num*(q.den:Int) - q.num*(p.den:Int)) ((p.den:Int)*(q.den:Int))=p - q:=by
 rw [Rat.sub_def',<-Int.natCast_mul,Rat.divInt_ofNat]
def Dh (p q:Rat):Rat.divInt (p.num*q.num) ((p.den:Int)*(q.den:Int))=p*q:=by
 rw [Rat.mul_def',<-Int.natCast_mul,Rat.divInt_ofNat]
def IM {q:Rat} (h:q≠0):q.num≠0:=λz=>h (Rat.num_eq_zero.mp z)
def Em (p q:Rat) (h:q≠0):Rat.divInt (p.num*(q.den:Int)) ((p.den:Int)*q.num)=p / q:=by
 rw [<-jaG,jbs,jac,Rat.inv_def]
section
def SzQ.add (hp:SzQ m p) (g:SzQ n q):SzQ (m+n+1) (p+q):=
 SzQ.of_div (mH p q).symm (((hp.1.mul g.2).add ((g.1.mul hp.2).mono (Nat.le_of_eq (Nat.add_comm n m))))) ((hp.2.mul g.2).mono (jal _)) (xh p q)
def SzQ.sub (hp:SzQ m p) (g:SzQ n q):SzQ (m+n+1) (p - q):=
 SzQ.of_div (jZ p q).symm (((hp.1.mul g.2).sub ((g.1.mul hp.2).mono (Nat.le_of_eq (Nat.add_comm n m))))) ((hp.2.mul g.2).mono (jal _)) (xh p q)
def SzQ.mul (hp:SzQ m p) (g:SzQ n q):SzQ (m+n) (p*q):=
 SzQ.of_div (Dh p q).symm (hp.1.mul g.1) (hp.2.mul g.2) (xh p q)
def SzQ.div (hp:SzQ m p) (g:SzQ n q):SzQ (m+n) (p / q):=by
 by_cases h:q=0
 ·subst h;rw [jac,Rat.inv_zero,Rat.mul_zero]
  have hm:1<=m:=by
   cases m with
   |zero=>
    have r:(p.den:Int).natAbs<2 ^ 0:=hp.2;have s:=den_pos p;simp at r;lia
   |succ m=>lia
  exact ⟨tu ⋯ (show (-2:Int)<0 by decide) (show (0:Int)<2 by decide),tu ⋯ (show (-2:Int)<1 by decide) (show (1:Int)<2 by decide)⟩
 ·exact SzQ.of_div (Em p q h).symm (hp.1.mul g.2) (hp.2.mul g.1) (Int.mul_ne_zero (Int.ne_of_gt (den_pos p)) (IM h))
end
def fJ (p q:Rat):Int.gcd (p.num*(q.den:Int)+q.num*(p.den:Int)) ((p.den:Int)*(q.den:Int))∣q.den*q.den:=by
 have s:=Int.gcd_dvd_left (a:=p.num*(q.den:Int)+q.num*(p.den:Int)) (b:=(p.den:Int)*(q.den:Int));have m:=Int.gcd_dvd_right (a:=p.num*(q.den:Int)+q.num*(p.den:Int)) (b:=(p.den:Int)*(q.den:Int));generalize Int.gcd (p.num*(q.den:Int)+q.num*(p.den:Int)) ((p.den:Int)*(q.den:Int))=g at s m⊢
 have y:(g:Int)∣p.num*((q.den:Int)*q.den):=by
  have a:=Int.dvd_sub (Int.dvd_mul_of_dvd_left (c:=(q.den:Int)) s) (Int.dvd_mul_of_dvd_right (b:=q.num) m)
  have e:(p.num*(q.den:Int)+q.num*(p.den:Int))*(q.den:Int) - q.num*((p.den:Int)*(q.den:Int))=p.num*((q.den:Int)*q.den):=by
   rw [Int.add_mul,Int.mul_assoc,Int.mul_assoc];lia
  rw [e] at a;exact a
 have w:(g:Int)∣(p.den:Int)*((q.den:Int)*q.den):=by
  have a:=Int.dvd_mul_of_dvd_left (c:=(q.den:Int)) m;rw [Int.mul_assoc] at a;exact a
 have u:g∣p.num.natAbs*(q.den*q.den):=by
  have:=Int.natAbs_dvd_natAbs.mpr y;rw [Int.natAbs_mul] at this
  simpa [Int.natAbs_mul] using this
 have t:g∣p.den*(q.den*q.den):=by
  have:=Int.natAbs_dvd_natAbs.mpr w
  simpa [Int.natAbs_mul] using this
 have r:=Nat.dvd_gcd u t;rw [Nat.gcd_mul_right,p.reduced,Nat.one_mul] at r;exact r
def wZ {p q:Rat} (g:Nat) (h:(g:Int)∣(p.den:Int)*(q.den:Int)):g<=p.den*q.den:=by
 have:=Int.natAbs_dvd_natAbs.mpr h;exact Nat.le_of_dvd (Nat.mul_pos p.den_pos q.den_pos) (by simpa [Int.natAbs_mul] using this)
abbrev L1 (m n:Nat):Prop:=m+n<=8999\/(m<=100000/\2*n<=8999)\/(n<=100000/\2*m<=8999)
abbrev L2' (m n:Nat):Prop:=m+n<=8999\/(m<=8999/\2*n<=8999)\/(n<=8999/\2*m<=8999)
def aU {p q:Rat} {m n:Nat} (hp:SzQ m p) (r:SzQ n q) (h:L1 m n):Sz 8999 ((Int.gcd (p.num*(q.den:Int)+q.num*(p.den:Int)) ((p.den:Int)*(q.den:Int)):Nat):Int):=by
 have u:=Nat.le_of_dvd (Nat.mul_pos q.den_pos q.den_pos) (fJ p q);have s:=Nat.le_of_dvd (Nat.mul_pos p.den_pos p.den_pos) (fJ q p);rw [Int.add_comm,Int.mul_comm (q.den:Int)] at s;have t:=wZ (p:=p) (q:=q) _ (Int.gcd_dvd_right (a:=p.num*(q.den:Int)+q.num*(p.den:Int)) (b:=(p.den:Int)*(q.den:Int)));generalize Int.gcd (p.num*(q.den:Int)+q.num*(p.den:Int)) ((p.den:Int)*(q.den:Int))=g at*
 rcases h with h|⟨_,h⟩|⟨_,h⟩
 ·refine Sz.le ((hp.2.mul r.2).mono h) ?_;rw [<-Int.natCast_mul];lia
 ·refine Sz.le ((r.2.mul r.2).mono (show n+n<=8999 by lia)) ?_;rw [<-Int.natCast_mul];lia
 ·refine Sz.le ((hp.2.mul hp.2).mono (show m+m<=8999 by lia)) ?_;rw [<-Int.natCast_mul];lia
def SzQ.neg (h:SzQ n q):SzQ n (-q):=by
 refine ⟨?_,h.2⟩;have:(-q).num= -q.num:=rfl;rw [this];unfold Sz at*;rw [Int.natAbs_neg];exact h.1
def wX (hp:SzQ m p) (g:SzQ n q) (h:L1 m n):Sz 8999 ((Int.gcd (p.num*(q.den:Int) - q.num*(p.den:Int)) ((p.den:Int)*(q.den:Int)):Nat):Int):=by
 have z:=aU hp g.neg h;have s:(-q).num= -q.num:=rfl;have r:(-q).den=q.den:=rfl;rw [s,r,Int.neg_mul,<-Int.sub_eq_add_neg] at z;exact z
def oR (h:Int.gcd a c=1):Int.gcd (a*b) (c*d)∣b.natAbs*d.natAbs:=by
 have q:=Int.natAbs_dvd_natAbs.mpr (Int.gcd_dvd_left (a:=a*b) (b:=c*d));have p:=Int.natAbs_dvd_natAbs.mpr (Int.gcd_dvd_right (a:=a*b) (b:=c*d));generalize Int.gcd (a*b) (c*d)=g at*;rw [Int.natAbs_mul] at q p
 have n1:g∣a.natAbs*(b.natAbs*d.natAbs):=by
  rw [<-Nat.mul_assoc];exact Nat.dvd_mul_right_of_dvd q _
 have r:g∣c.natAbs*(b.natAbs*d.natAbs):=by
  rw [Nat.mul_comm b.natAbs,<-Nat.mul_assoc];exact Nat.dvd_mul_right_of_dvd p _
 have m:=Nat.dvd_gcd n1 r;rw [Nat.gcd_mul_right,show Nat.gcd a.natAbs c.natAbs=1 from h,Nat.one_mul] at m;exact m
def uO {a c b d:Int} {m n k:Nat} (h:Int.gcd a c=1) (h':Int.gcd b d=1) (A:Sz m a) (q:Sz m c) (z:Sz n b) (p:Sz n d) (w:c≠0) (u:d≠0) (l:L2' m n):Sz 8999 ((Int.gcd (a*b) (c*d):Nat):Int):=by
 have G:=oR (b:=b) (d:=d) h;have t:=oR (a:=b) (c:=d) (b:=a) (d:=c) h';rw [Int.mul_comm b,Int.mul_comm d] at t;have s:=Int.natAbs_dvd_natAbs.mpr (Int.gcd_dvd_right (a:=a*b) (b:=c*d));rw [Int.natAbs_mul] at s;have g:=Nat.le_of_dvd (Nat.mul_pos (Int.natAbs_pos.mpr w) (Int.natAbs_pos.mpr u)) s;have z2:b=0->Int.gcd (a*b) (c*d)<=c.natAbs*d.natAbs:=λ_=>g
 rcases l with l|⟨r,l⟩|⟨r,l⟩
 ·exact Sz.le ((q.mul p).mono l) (by rw [Int.natAbs_mul];exact g)
 ·by_cases y:b=0
  ·subst y;have e:d.natAbs=1:=by simpa using h'
   rw [e,Nat.mul_one] at g;exact Sz.le (q.mono r) g
  ·have D:=Nat.le_of_dvd (Nat.mul_pos (Int.natAbs_pos.mpr y) (Int.natAbs_pos.mpr u)) G;exact Sz.le ((z.mul p).mono (show n+n<=8999 by lia)) (by rw [Int.natAbs_mul];exact D)
 ·by_cases a0:a=0
  ·subst a0;have e:c.natAbs=1:=by simpa using h
   rw [e,Nat.one_mul] at g;exact Sz.le (p.mono r) g
  ·have C:=Nat.le_of_dvd (Nat.mul_pos (Int.natAbs_pos.mpr a0) (Int.natAbs_pos.mpr w)) t;exact Sz.le ((A.mul q).mono (show m+m<=8999 by lia)) (by rw [Int.natAbs_mul];exact C)
def lC (p:Rat):Int.gcd p.num (p.den:Int)=1:=p.reduced
def wY {p q:Rat} {m n:Nat} (hp:SzQ m p) (g:SzQ n q) (h:L2' m n):Sz 8999 ((Int.gcd (p.num*q.num) ((p.den:Int)*(q.den:Int)):Nat):Int):=
 uO (k:=0) (lC p) (lC q) hp.1 hp.2 g.1 g.2 (Int.ne_of_gt (den_pos p)) (Int.ne_of_gt (den_pos q)) h
def Aa {p q:Rat} {m n:Nat} (hp:SzQ m p) (g:SzQ n q) (r:q.num≠0) (h:L2' m n):Sz 8999 ((Int.gcd (p.num*(q.den:Int)) ((p.den:Int)*q.num):Nat):Int):=
 uO (k:=0) (lC p) (by rw [Int.gcd_comm];exact lC q) hp.1 hp.2 g.2 g.1 (Int.ne_of_gt (den_pos p)) r h
def Xn:Sp:=spT (α:=Int×Int) (λa=>[.int a.1, .int a.2]) (λa=>a.2≠0/\Sz 8999 ((Int.gcd a.1 a.2:Nat):Int)) (λa=>frD (Rat.divInt a.1 a.2))
def Wy {i j:Int} (S:Sta B G0 H cs ds) (h0:j≠0) (g:Sz 8999 ((Int.gcd i j:Nat):Int)) (k:∀r H',zG H H'->Sta B G0 H' cs ((frD (Rat.divInt i j),r)::ds)->Q r H'):Xn [.int i, .int j] H Q E:=
 Zq (i,j) S (.cons Has.int (.cons Has.int .nil)) ⟨h0,g⟩ k
def spQ2 (lim:Nat->Nat->Prop) (dom:Rat->Rat->Prop) (g:Rat->Rat->Rat):Sp:=spT (α:=Rat×Rat) (λa=>[frD a.1,frD a.2]) (λa=>(∃m n,SzQ m a.1/\SzQ n a.2/\lim m n)/\dom a.1 a.2) (λa=>frD (g a.1 a.2))
def nV (S:Sta B G0 H cs ds) (t:Has ds (frD p) v) (s:Has ds (frD q) w) (s1:SzQ m p) (s2:SzQ n q) (u:lm m n) (hd:dm p q)
 (k:∀r H',zG H H'->Sta B G0 H' cs ((frD (g p q),r)::ds)->Q r H'):spQ2 lm dm g [v,w] H Q E:=
 Zq (p,q) S (.cons t (.cons s .nil)) ⟨⟨m,n,s1,s2,u⟩,hd⟩ k
abbrev domT:Rat->Rat->Prop:=λ_ _=>True
abbrev ja:Sp:=spQ2 L1 domT λp q=>p+q
abbrev ak:Sp:=spQ2 L1 domT λp q=>p - q
abbrev qq:Sp:=spQ2 L2' domT λp q=>p*q
abbrev IC:Sp:=spQ2 L2' (λ_ q=>q≠0) λp q=>p / q
def cZ:Sp:=spP (α:=Rat×Rat) (λa=>[frD a.1,frD a.2]) (λa=>∃m n,SzQ m a.1/\SzQ n a.2/\m+n<=100000000) (λa=> .bl (decide (a.1<a.2)))
def og (S:Sta B G0 H cs ds) (r:Has ds (frD p) v) (g:Has ds (frD q) w) (s1:SzQ m p) (s2:SzQ n q) (s:m+n<=100000000) (k:Q (.bl (decide (p<q))) H):cZ [v,w] H Q E:=
 rd_spP (p,q) S (.cons r (.cons g .nil)) ⟨m,n,s1,s2,s⟩ k
def fV (ns:List Int) (k:Int):Int:=if k<(ns.length:Int) then ns.getD k.toNat 0 else 0
def tN (K:Frg):Sp:=λvs H Q _=>∃(a:Addr) (ns:List Int) (k:Int),vs=[.ref a, .int k]/\SqL K H a (ns.map V.int)/\0<=k/\Q (.int (fV ns k)) H
def rd_cell {K:Frg} {a:Addr} {ns:List Int} {k:Int} (g:SqL K H a (ns.map V.int)) (h0:0<=k) (h:Q (.int (fV ns k)) H):tN K [.ref a, .int k] H Q E:=⟨a,ns,k,rfl,g,h0,h⟩
def jb:Sp:=λvs H Q _=>∃a b:Int,vs=[.int a, .int b]/\0<=b/\Q (.int (Int.gcd a b:Nat)) H
def rd_div2 (h0:0<=b) (h:Q (.int (Int.gcd a b:Nat)) H):jb [.int a, .int b] H Q E:=⟨a,b,rfl,h0,h⟩
def WZ:Sp:=spT (α:=Int×Int) (λa=>[.int a.1, .int a.2]) (λa=>0<a.2/\Sz 8999 ((Int.gcd a.1 a.2:Nat):Int)) (λa=>frD (Rat.divInt a.1 a.2))
def DN (g:j≠0) (h:Sz n j):Sz n ((Int.gcd i j:Nat):Int):=Sz.le h (Nat.le_of_dvd (Int.natAbs_pos.mpr g) (Int.natAbs_dvd_natAbs.mpr (Int.gcd_dvd_right (a:=i) (b:=j))))
def vQ (S:Sta B G0 H cs ds) (h0:0<j) (g:Sz 8999 ((Int.gcd i j:Nat):Int)) (k:∀r H',zG H H'->Sta B G0 H' cs ((frD (Rat.divInt i j),r)::ds)->Q r H'):WZ [.int i, .int j] H Q E:=
 Zq (i,j) S (.cons Has.int (.cons Has.int .nil)) ⟨h0,g⟩ k
def Zr (S:Sta B G0 H cs ds) (h0:0<j) (g:Sz 8999 j) (k:∀r H',zG H H'->Sta B G0 H' cs ((frD (Rat.divInt i j),r)::ds)->Q r H'):WZ [.int i, .int j] H Q E:=
 Zq (i,j) S (.cons Has.int (.cons Has.int .nil)) ⟨h0,DN (Int.ne_of_gt h0) g⟩ k
def mixV (c p:Int):Int:=(((c % 2147483629*16807+69621*p+11) % 2147483629)*((c % 2147483629*16807+69621*p+11) % 2147483629)+48271*p+7) % 2147483629*69621 % 2147483587
def JJ:Sp:=λvs H Q _=>∃c p:Int,vs=[.int c, .int p]/\Q (.int (mixV c p)) H
def rd_mix (h:Q (.int (mixV c p)) H):JJ [.int c, .int p] H Q E:=⟨c,p,rfl,h⟩
def xu (r:List Int):PyData:= .list (r.map PyData.int)
def Sta.put_call (S:Jo B G0 H cs ds G) (gr:Grow G H G' H') (hp:H p=none) (s:G' p=none) (r:H' p=some (.lst us)) (m:zC G' xs us):Sta B G0 H' ((p,xs)::cs) ds:=by
 have t:=S.2.2.1.free hp;obtain ⟨_,_,_,_,e0,_,_⟩:=id S;obtain ⟨C,A,y,d',w,u,g'⟩:=S.grow gr;refine ⟨G',C,A,y,d',λq g=>?_,?_,g'⟩
 ·rcases Qn.mp g with rfl|g
  ·exact ⟨t,s,us,r,m⟩
  ·exact w q g
 ·rw [Qj,TV];refine ⟨λz=>?_,u⟩;obtain ⟨q,g,D⟩:=Qk.mp z;obtain ⟨_,_,ws,z,_⟩:=e0 q g;rw [D,hp] at z;cases z
def rd_true (h:R true H):tTrue σ H R:=h
def ZS (m:Nat):List Int:=List.replicate m 0
def Ul (m:Nat):(ZS m).length=m:=QF
theorem Vh {β:Type} [DecidableEq β] {f:β->PyData} (hf:∀a b,PyData.eqv (f a) (f b)=decide (a=b)):∀xs ys:List β,PyData.eqvAll (xs.map f) (ys.map f)=decide (xs=ys)
 |[],[]=>by rw [Tu,PyData.eqvAll];rfl
 |[],_::_=>by rw [Tu,Qj,PyData.eqvAll,Tf (by simp)]
 |_::_,[]=>by rw [Tu,Qj,PyData.eqvAll,Tf (by simp)]
 |x::xs,y::ys=>by
  rw [Qj,Qj,PyData.eqvAll,hf,Vh hf xs ys,<-Bool.decide_and];exact Xe (by simp)
def LI (a b:Int):PyData.eqv (.int a) (.int b)=decide (a=b):=by rw [PyData.eqv];rfl
def Ej (a b:List Int):PyData.eqv (xu a) (xu b)=decide (a=b):=by unfold xu;rw [PyData.eqv];exact Vh LI a b
def rV (p q:Rat):PyData.eqv (frD p) (frD q)=decide (p=q):=eqv_fr p q
def Ae (p q:List Rat):PyData.eqv (zS p) (zS q)=decide (p=q):=by unfold zS;rw [PyData.eqv];exact Vh rV p q
def Lq (a:Int):(PyData.int a).canLay0=true:=by rw [PyData.canLay0]
def LK (a:Int):(PyData.int a).depth<=1:=by rw [PyData.depth];exact jab _
def Lp (a:List Int):(xu a).canLay0=true:=by unfold xu;rw [PyData.canLay0];exact fB Lq a
def LJ (a:List Int):(xu a).depth<=2:=by unfold xu;rw [PyData.depth];exact Nat.succ_le_succ (fM LK a)
def YN (h:d.canLay0=true) (g:d.depth<=n) (l:n<=64):SeqAt.shaped d=true:=by
 unfold SeqAt.shaped;rw [h,QT (QP g l)];rfl
def Va (a:List Int):SeqAt.shaped (xu a)=true:=YN (Lp a) (LJ a) nofun
def jd (a:Rat):SeqAt.shaped (frD a)=true:=YN (uo a) (uL a) nofun
def Ut (a:List Rat):SeqAt.shaped (zS a)=true:=YN (Du a) (En a) nofun
def tyD:PyData->String
 | .none=>"NoneType"
 | .bool _=>"bool"
 | .int _=>"int"
 | .str _=>"str"
 | .list _=>"list"
 | .tuple _=>"tuple"
 | .dict _=>"dict"
def noIns:PyData->Bool
 | .dict _=>false
 |_=>true
def Is.ty {K:Frg} {d:PyData} (h:Is H d v) (nd:noIns d=true):TyOf K H v (.type (tyD d)):=by
 cases d with
 |none=>rw [Is] at h;subst h;exact .non
 |bool b=>rw [Is] at h;subst h;exact .bl b
 |int b=>rw [Is] at h;subst h;exact .int b
 |str b=>rw [Is] at h;subst h;exact .str b
 |list xs=>rw [Is] at h;obtain ⟨p,vs,rfl,e,_⟩:=h;exact .lst e
 |tuple xs=>rw [Is] at h;obtain ⟨p,vs,rfl,e,_⟩:=h;exact .tup e
 |dict _=>cases nd
def rd_isi {K:Frg} {d:PyData} {T:String} {b:Bool} (h:Is H d v) (e:PySem.W.kitOne K (.type (tyD d)) (.type T)=some b) (k:Q (.bl b) H) (nd:noIns d=true):rIsi K [v, .ty T] H Q:=⟨v,T,_,b,rfl,h.ty nd,e,k⟩
section
variable {K:Frg}
def kit_tt:PySem.W.kitOne K (.type "tuple") (.type "tuple")=some true:=by rfl
def kit_ib:PySem.W.kitOne K (.type "int") (.type "bool")=some false:=by rfl
def kit_ii:PySem.W.kitOne K (.type "int") (.type "int")=some true:=by rfl
end
def zM {α β:Type} {f:α->β} {l:List α} {i:Nat} {x:β} (h:(l.map f)[i]? =some x):∃n,l[i]? =some n/\x=f n:=by
 rw [Qh] at h
 cases e:l[i]? with
 |none=>rw [e] at h;cases h
 |some n=>rw [e] at h;exact ⟨n,rfl,(Qw h).symm⟩
def zv {α β:Type} (g:α->β) (d:α):∀l:List α,(List.range l.length).map (λi=>g (l.getD i d))=l.map g:=by
 intro l
 apply jat
 intro i;rw [Qh,Qh]
 by_cases h:i<l.length
 ·rw [List.getElem?_range h,Qa h];simp [h]
 ·rw [QC (by simpa using Nat.le_of_not_lt h),QC ⋯];rfl
def zA {α:Type} {l:List α} {i:Nat} {n d:α} (h:l[i]? =some n):l.getD i d=n:=by rw [Qq,h];rfl
def Sta.int1 (S:Sta B G0 H cs ((.int n,v)::ds)):v= .int n:=S.top.int_of
def rd_gsub (h:to σ H λo H1=>ti σ H1 λi m=>t o i v m λg=>N σ g):gSub to ti t v σ H N:=h
def uT (h:xs.getLast? =some x):atI xs (-1)=some x:=by
 obtain ⟨ys,rfl⟩:∃ys,xs=ys++[x]:=by
  have g:xs≠[]:=by intro e;subst e;simp at h
  refine ⟨xs.dropLast,?_⟩;rw [Tr g] at h;rw [<-Qw h,jad]
 exact uU ys x
def Dats.nil:∀p∈([]:Dat),Has ds p.1 p.2:=λp hp=>absurd hp Qm
def Dats.cons (h:Has ds x v) (g:∀p∈r,Has ds p.1 p.2):∀p∈(x,v)::r,Has ds p.1 p.2:=λp hp=>by
 rcases Qn.mp hp with rfl|hp
 ·exact h
 ·exact g p hp
def Ga {A X Y:Prop} (m:(if q=true then X else Y)->A) (r:(p && q)=true->X) (g:(p && q)=false->Y):if p=true then A else (if false=true then X else Y):=by
 cases p with
 |false=>exact g rfl
 |true=>
  refine m ?_
  cases q with
  |false=>exact g rfl
  |true=>exact r rfl
def FL (M:L2.St->Hp->Prop) (g:∀σ' H',M σ' H'->u D σ' H') (m:(∀σ' H',M σ' H'->u D σ' H')->t (mkD D (u D)) σ H):tSeq t u D σ H:=m g
def Ml (p q:Rat):PyData:= .tuple [.int (q.num*(p.den:Int) - p.num*(q.den:Int)), .int ((p.den:Int)*(q.den:Int))]
def JK:Sp:=spT (α:=Rat×Rat) (λa=>[frD a.1,frD a.2]) (λa=>SzQ 2000 a.1/\SzQ 2000 a.2) (λa=>Ml a.1 a.2)
def rd_gap (S:Sta B G0 H cs ds) (m:Has ds (frD p) v) (g:Has ds (frD q) w) (s1:SzQ 2000 p) (s2:SzQ 2000 q) (k:∀r H',zG H H'->Sta B G0 H' cs ((Ml p q,r)::ds)->Q r H'):JK [v,w] H Q E:=
 Zq (p,q) S (.cons m (.cons g .nil)) ⟨s1,s2⟩ k
def SzC (n:Nat) (c:zi):Prop:=SzQ n c.1/\∀q∈c.2,SzQ n q
def uA (hp:SzQ 2000 p) (g:SzQ 2000 q):Sz 4001 (q.num*(p.den:Int) - p.num*(q.den:Int))/\Sz 4001 ((p.den:Int)*(q.den:Int)):=
 ⟨(g.1.mul hp.2).sub (hp.1.mul g.2),(hp.2.mul g.2).mono nofun⟩
open Classical in
noncomputable def JG:Sp:=spB (α:=zi×zi×zi) (λa=>[zY a.1,zY a.2.1,zY a.2.2]) (λa=>SzC 2000 a.1/\SzC 2000 a.2.1/\SzC 2000 a.2.2/\a.2.1.2.length=a.1.2.length/\a.2.2.2.length=a.1.2.length/\a.1.2.length<=1000) (λa=> .bl (decide (zL a.1 a.2.1 a.2.2)))
open Classical in
def rd_str (S:Sta B G0 H cs ds) (s:Has ds (zY a) v) (r:Has ds (zY b) w) (q:Has ds (zY c) u) (sa:SzC 2000 a) (sb:SzC 2000 b) (sc:SzC 2000 c) (p:b.2.length=a.2.length) (m:c.2.length=a.2.length) (g:a.2.length<=1000)
 (k:∀H',Sta B G0 H' cs ds->Q (.bl (decide (zL a b c))) H'):JG [v,w,u] H Q E:=
 Wx (a,b,c) (S.hpAll (.cons s (.cons r (.cons q .nil)))) ⟨sa,sb,sc,p,m,g⟩ λH' e=>k H' (S.same e)
structure PathOk (m:Nat) (cs:List zi):Prop where
 sz:∀c∈cs,SzC 2000 c
 len:∀c∈cs,c.2.length=m
 m:m<=1000
 few:cs.length<=900
noncomputable def dM:Sp:=spL (α:=List zi) (λa=>[YF a]) (λa=>∃m,PathOk m a) (λa=>(yi a).map zY)
def vM (S:Sta B G0 H cs ds) (h:Has ds (YF a) v) (ok:PathOk m a) (k:∀p H',zG H H'->Sta B G0 H' ((p,(yi a).map zY)::cs) ds->Q (.ref p) H'):dM [v] H Q E:=
 Yp a S (.cons h .nil) ⟨m,ok⟩ k
def kPart (R:Option Int->Hp->Prop):VK:=λx H1=>∃i,x= .int i/\R (some i) H1
section
variable {K:Frg}
def rd_sl (h:te σ H λx H1=>tl σ H1 λl m=>th σ m λu g=>r x l u g Q):tSl r te tl th σ H Q:=h
def rd_noPart (h:R none H):Bc σ H R:=h
def rd_part (h:t σ H (kPart R)):tPart t σ H R:=h
def rd_kPart (h:R (some i) H):kPart R (.int i) H:=⟨i,rfl,h⟩
def Je (ns:List Int) (lo g:Option Int):List Int:=(ns.drop (HT.sIx ns.length 0 lo)).take (HT.sIx ns.length ns.length g - HT.sIx ns.length 0 lo)
theorem ZI:∀ns:List Int,zC G (ns.map PyData.int) (ns.map V.int)
 |[]=>by rw [Tu,Tu,zC]
 |n::ns=>by rw [Qj,Qj,zC];exact ⟨_,_,rfl,by rw [Is],ZI ns⟩
def IF {a:Addr} {ns:List Int} {lo g:Option Int} (S:Sta B G0 H cs ds) (p:SqL K H a (ns.map V.int)) (k:∀l H',zG H H'->Sta B G0 H' ((l,(Je ns lo g).map PyData.int)::cs) ds->Q (.ref l) H'):rSlL K (.ref a) lo g H Q:=by
 refine ⟨a,_,rfl,p,λl m=>k l _ (zG.new m _) ?_⟩
 have e:AL (ns.map V.int) lo g=(Je ns lo g).map V.int:=by
  unfold AL Je;rw [Qb,<-List.map_drop,<-List.map_take]
 rw [e];exact S.newL m λG _=>ZI _
end
end
inductive Rl where
 |shares|evenly|losses|halves
 |other (r:Rl)|ranks (r:Rl)|groups (a b:Rl)|upto (t b:Int) (x y:Rl)
def itS (i:Int):Str:=Str.ofString (toString i)
def Rl.shape:Rl->PyData
 | .shares=> .tuple [.str "shares"]
 | .evenly=> .tuple [.str "evenly"]
 | .losses=> .tuple [.str "losses"]
 | .halves=> .tuple [.str "halves"]
 | .other r=> .tuple [.str "other",r.shape]
 | .ranks r=> .tuple [.str "ranks",r.shape]
 | .groups a b=> .tuple [.str "groups",a.shape,b.shape]
 | .upto t b x y=> .tuple [.str "upto", .tuple [.int t, .int b],x.shape,y.shape]
def Rl.text:Rl->Str
 | .shares=>"shares"
 | .evenly=>"evenly"
 | .losses=>"losses"
 | .halves=>"halves"
 | .other r=>("other(":Str)++r.text++(")":Str)
 | .ranks r=>("ranks(":Str)++r.text++(")":Str)
 | .groups a b=>("groups(":Str)++a.text++(", ":Str)++b.text++(")":Str)
 | .upto t b x y=>("upto(":Str)++itS t++("/":Str)++itS b++(", ":Str)++x.text++(", ":Str)++y.text++(")":Str)
def Rl.size:Rl->Nat
 | .other r=>r.size+1
 | .ranks r=>r.size+1
 | .groups a b=>a.size+b.size+1
 | .upto _ _ x y=>x.size+y.size+1
 |_=>1
def Rl.deep:Rl->Nat
 | .other r=>r.deep+1
 | .ranks r=>r.deep+1
 | .groups a b=>max a.deep b.deep+1
 | .upto _ _ x y=>max x.deep y.deep+1
 |_=>1
def Xi (t b:Int):Prop:=(Sz 210 t/\Sz 210 b)/\0<t/\t<b/\Int.gcd t b=1
def Rl.Ok:Rl->Prop
 | .other r=>r.Ok
 | .ranks r=>r.Ok
 | .groups a b=>a.Ok/\b.Ok
 | .upto t b x y=>Xi t b/\x.Ok/\y.Ok
 |_=>True
def xy (a b c:Str):a++b++c=a++(b++c):=by
 show Str.append (Str.append a b) c=Str.append a (Str.append b c);unfold Str.append;rw [Array.append_assoc]
def xC (a b:Str):(a++b).length=a.length+b.length:=by
 show (Str.append a b).length=_;unfold Str.append Str.length;rw [Array.size_append]
def glued1 (g x:Str):Builtin.Str.glued g [x]=x:=rfl
def glued2 (g x y:Str):Builtin.Str.glued g [x,y]=x++g++y:=rfl
def Be (h:Sz n x) (l:n<=1919):x.natAbs.log2<1920:=by
 by_cases h0:x.natAbs=0
 ·rw [h0];decide+kernel
 ·have:=(Nat.log2_lt h0).mpr (Sz.mono h l);lia
def lU (h:Sz 210 i):(itS i).length<=1921:=int_text_len_1921 (Be h nofun)
theorem Rl.text_len:∀r:Rl,r.Ok->r.text.length<=4000*r.size
 | .shares,_=>by decide
 | .evenly,_=>by decide
 | .losses,_=>by decide
 | .halves,_=>by decide
 | .other r,h=>by
   have p:=r.text_len h;simp only [Rl.text,Rl.size,xC];have m:("other(":Str).length=6:=by decide+kernel
   have g:(")":Str).length=1:=by decide+kernel
   lia
 | .ranks r,h=>by
   have p:=r.text_len h;simp only [Rl.text,Rl.size,xC];have m:("ranks(":Str).length=6:=by decide+kernel
   have g:(")":Str).length=1:=by decide+kernel
   lia
 | .groups a b,h=>by
   have p:=a.text_len h.1;have s:=b.text_len h.2;simp only [Rl.text,Rl.size,xC];have m:("groups(":Str).length=7:=by decide+kernel
   have g:(")":Str).length=1:=by decide+kernel
   have q:(", ":Str).length=2:=by decide+kernel
   lia
 | .upto t b x y,h=>by
   have p:=x.text_len h.2.1;have s:=y.text_len h.2.2;have z:=lU h.1.1.1;have w:=lU h.1.1.2;simp only [Rl.text,Rl.size,xC];have m:("upto(":Str).length=5:=by decide+kernel
   have g:(")":Str).length=1:=by decide+kernel
   have q:(", ":Str).length=2:=by decide+kernel
   have u:("/":Str).length=1:=by decide+kernel
   lia
structure RAd where
 (sh ev lo ha ot ra gr up:Addr)
def RAd.cls (A:RAd):Rl->Addr
 | .shares=>A.sh
 | .evenly=>A.ev
 | .losses=>A.lo
 | .halves=>A.ha
 | .other _=>A.ot
 | .ranks _=>A.ra
 | .groups _ _=>A.gr
 | .upto _ _ _ _=>A.up
def Hr (C:Addr) (form:PyData):PyData:= .dict [(.int ((C:Nat):Int),form)]
def Rl.ins (A:RAd) (r:Rl):PyData:=Hr (A.cls r) r.shape
structure ROk (K:Frg) (fS fT Ru C:Addr):Prop where
 cl:Cls K C
 na:WU K C "form"
 ms:Meth K C "shape" fS
 mt:Meth K C "text" fT
 ha:PySem.W.findIn K (.ref C) "__class__"=some (some (.builtin "object.__class__"))
 hn:PySem.W.specialIn K (.builtin "object.__class__") "__get__"=some (some (.builtin "getset_descriptor.__get__"))
 htk:PySem.W.takesIn K (.builtin "object.__class__")=some true
 hm:PySem.W.mroIn K C (.type "object")=some true
 kit:PySem.W.kitOne K (.ref C) (.ref Ru)=some true
section
variable {B G0 H:Hp} {cs:yN} {ds:Dat} {Q:VK} {E:XK} {v w u:V} {K:Frg} {α:Type} {C:Addr} {x:PyData} {vs:List V}
def is_ins (h:Is G (Hr C x) v):∃p g w,v= .ref p/\G p=some (.ins C g [("form",w)])/\Is G x w:=by
 unfold Hr at h;rw [Is,Fb] at h;obtain ⟨p,s,g,w,e,r,q,m⟩:=h;have:C=s:=Int.ofNat.inj (PyData.int.inj e);subst this;exact ⟨p,g,w,r,q,m⟩
def Sta.ins (S:Sta B G0 H cs ds) (h:Has ds (Hr C x) v):∃p m w,v= .ref p/\H p=some (.ins C m [("form",w)])/\Sta B G0 H cs ((x,w)::ds):=by
 obtain ⟨G,a,b,c,d,e,f,g⟩:=S;obtain ⟨p,m,w,s,r,q⟩:=is_ins (h G g);exact ⟨p,m,w,s,b _ _ r,G,a,b,c,d,e,f,g.cons q⟩
def kFld (K:Frg) (f:Str) (Q:VK):VK:=λx H1=>∃a C g fs v,x= .ref a/\H1 a=some (.ins C g fs)/\Cls K C/\WU K C f/\fs.lookup f=some v/\Q v H1
def rd_fld (h:ta σ H (kFld K f Q)):tFld K ta f σ H Q:=h
def Cn (S:Sta B G0 H cs ds) (h:Has ds (Hr C x) v) (ok:ROk K fS fT Ru C) (k:∀w,Sta B G0 H cs ((x,w)::ds)->Q w H):kFld K "form" Q v H:=by
 obtain ⟨p,g,w,rfl,hp,m⟩:=S.ins h;exact ⟨p,C,g,_,w,rfl,hp,ok.cl,ok.na,rfl,k w m⟩
def kMA (K:Frg) (m:Str) (f:Addr) (sp:Sp) (E:XK) (Q:VK):VK:=λx H1=>∃a C g fs,x= .ref a/\H1 a=some (.ins C g fs)/\Cls K C/\Meth K C m f/\fs.lookup m=none/\sp [x] H1 Q E
def rd_methA (h:ta σ H (kMA K m f sp E Q)):Iw K m f sp E ta σ H Q:=h
def jr (S:Sta B G0 H cs ds) (h:Has ds (Hr C x) v) (ok:ROk K fS fT Ru C) (k:sp [v] H Q E):kMA K "shape" fS sp E Q v H:=by
 obtain ⟨p,g,w,rfl,hp,m⟩:=S.ins h;exact ⟨p,C,g,_,rfl,hp,ok.cl,ok.ms,rfl,k⟩
def yr (C:Addr) (enc:α->List PyData) (form:α->PyData):Sp:=λvs H Q _=>∃(G:Hp) (a:α) (x m:Addr) (us:List V),vs= .ref x::us/\zG G H/\G x=none/\H x=some (.ins C m [])/\zC G (enc a) us/\
 ∀H' g w,(∀p o,p≠x->H p=some o->H' p=some o)->zG G g->zG g H'->(∀p,H p≠none->g p=G p)->H' x=some (.ins C m [("form",w)])->Is g (form a) w->Q .non H'
def kMake (C:Addr) (sp:Sp) (E:XK) (Q:VK) (vs:List V) (H1:Hp):Prop:=∀x g,H1 x=none->H1 g=none->g≠x->sp (.ref x::(vs++[])) (upd (upd H1 g (.own x)) x (.ins C g [])) (λv m=>v= .non/\Q (.ref x) m) E
def rd_make (h:t σ H (kMake C sp E Q)):JE C sp [] E t σ H Q:=h
def Yx (K:Frg) (fS fT Ru:Addr):Sp:=λvs H Q E=>∃C,ROk K fS fT Ru C/\yr C (α:=PyData) (λd=>[d]) (λd=>d) vs H Q E
def Yq (S:Sta H G H1 [] ds) (M:G y=none) (q:H y=some (.ins C dx [])) (ok:ROk K fS fT Ru C) (hd:Has ds d v)
 (k:∀H' g w,(∀p o,p≠y->H p=some o->H' p=some o)->zG G g->zG g H'->(∀p,H p≠none->g p=G p)->H' y=some (.ins C dx [("form",w)])->Is g d w->Q .non H'):Yx K fS fT Ru [.ref y,v] H1 Q E:=by
 obtain ⟨s,a1,N,m,r,_,_,g1⟩:=S;refine ⟨C,ok,s,d,y,dx,[v],rfl,N,by rw [r y (by rw [q];simp)];exact M,m _ _ q,(zV.cons hd zV.nil) s g1,λH' g w L J I D A z=>k H' g w (λp o hp t=>L p o hp (m p o t)) (a1.trans J) I (λp hp=>?_) A z⟩;rw [D p ?_,r p hp]
 cases hb:H p with
 |none=>exact absurd hb hp
 |some o=>rw [m p o hb];simp
def rAddS:R2:=λx y H Q=>Ge x y H Q\/∃i j,x= .str i/\y= .str j/\i.length+j.length<=sizeLine/\Q (.str (i++j)) H
def op_addS:OpR X (binaryOp .Add) rAddS:=CD.or vX
def rd_addS (g:i.length+j.length<=1000000) (h:Q (.str (i++j)) H):rAddS (.str i) (.str j) H Q:= .inr ⟨i,j,rfl,rfl,QP g nofun,h⟩
def rd_eqS (h:Q (.bl (decide (i=j))) H):rEqA (.str i) (.str j) H Q:= .inl ⟨rfl,by
 rw [Xe (show V.str i=V.str j↔i=j from ⟨V.str.inj,congrArg _⟩)];exact h⟩
def rd_neS (h:Q (.bl (!decide (i=j))) H):rNeA (.str i) (.str j) H Q:= .inl ⟨rfl,by
 rw [Xe (show V.str i=V.str j↔i=j from ⟨V.str.inj,congrArg _⟩)];exact h⟩
def rStrI:List V->Hp->VK->Prop:=λxs H Q=>∃i:Int,xs=[.int i]/\i.natAbs.log2<1920/\Q (.str (toString i)) H
def call_strI:Wi X (.type "str") rStrI:=ph
def rd_strI (g:Sz 210 i) (h:Q (.str (itS i)) H):rStrI [.int i] H Q:=⟨i,rfl,Be g nofun,h⟩
def Is.str_of {x:Str} (h:Is H (.str x) v):v= .str x:=by rw [Is] at h;exact h
def IE {lo m:Option Int} {xs:List PyData} (S:Sta B G0 H cs ds) (s:Has ds (.tuple xs) v) (hw:¬(HT.sIx xs.length 0 lo=0/\HT.sIx xs.length xs.length m=xs.length)) (k:∀l H',zG H H'->Sta B G0 H' cs ((.tuple (pZ xs lo m), .ref l)::ds)->Q (.ref l) H'):rSlT K v lo m H Q:=by
 obtain ⟨p,vs,rfl,hp,r,y,t⟩:=S.tupAll s
 refine ⟨p,vs,rfl,SqT.of hp,by rw [<-r];exact hw,λl hn=>k l _ (zG.new hn _) ((y.newT hn λG a=>?_).dat λq g=> .mem (by
  rcases Qn.mp g with rfl|g
  ·exact Qg ..
  ·exact Qe _ (QB _ g)))⟩
 unfold pZ AL;rw [r];exact ((t G a).drop _).take _
def rd_kBMs (h:t σ H λys g=>r (.str sep) ys g Q):kBM K "str" r t σ Q (.str sep) H:=⟨rfl,h⟩
theorem jE:∀{ns:List Str} {vs:List V},zC G (ns.map PyData.str) vs->vs=ns.map V.str
 |[],vs,h=>by rw [Tu,zC] at h;exact h
 |n::ns,vs,h=>by
  rw [Qj,zC] at h;obtain ⟨v,r,rfl,g,m⟩:=h;rw [Is] at g;subst g;rw [jE m,Qj]
def Cp (S:Sta B G0 H cs ds) (h:(L,ys.map PyData.str)∈cs) (hok:JoinOk sep ys=true) (k:Q (.str (Builtin.Str.glued sep ys)) H):rJoin K (.str sep) [.ref L] H Q:=by
 obtain ⟨vs,hp,u⟩:=S.vwC h;obtain ⟨G,g⟩:=id S;rw [jE (u G g)] at hp;exact ⟨sep,L,ys,rfl,rfl,SqL.of hp,hok,k⟩
def rd_ixTS (S:Sta B G0 H cs ds) (g:Has ds (.tuple xs) v) (m:atI xs i=some (.str n)) (k:Q (.str n) H):rIx K v (.int i) H Q:=
 js S g m λw p=>by have:=p.top;rw [Is] at this;subst this;exact k
def Hn (h:a.length<=100000):JoinOk ", " [a]=true:=by
 have l:(", ":Str).length=2:=by decide+kernel
 have z:sizeLine=16777216:=by decide
 unfold JoinOk;rw [Bool.not_eq_true',Builtin.Str.tooLong,decide_eq_false_iff_not,<-Array.foldl_toList];show ¬(0+a.length+(", ":Str).length>sizeLine);lia
def Hm (h:a.length<=100000) (g:b.length<=100000):JoinOk ", " [a,b]=true:=by
 have l:(", ":Str).length=2:=by decide+kernel
 have z:sizeLine=16777216:=by decide
 unfold JoinOk;rw [Bool.not_eq_true',Builtin.Str.tooLong,decide_eq_false_iff_not,<-Array.foldl_toList];show ¬(0+a.length+(", ":Str).length+b.length+(", ":Str).length>sizeLine);lia
def aj (A:RAd):Sp:=spT (α:=Rl) (λr=>[r.ins A]) (λ_=>True) (λr=>r.shape)
def Vc {A:RAd} {r:Rl} (S:Sta B G0 H cs ds) (h:Has ds (r.ins A) v) (k:∀w H',zG H H'->Sta B G0 H' cs ((r.shape,w)::ds)->Q w H'):aj A [v] H Q E:=Zq r S (zV.cons h zV.nil) trivial k
def Lv (h:zC G [x,y,z,t] vs):∃v w u r,vs=[v,w,u,r]/\ZE G [(x,v),(y,w),(z,u),(t,r)]:=by
 simp only [zC] at h;obtain ⟨v,_,rfl,s,w,_,rfl,q,u,_,rfl,m,r,_,rfl,g,rfl⟩:=h;exact ⟨v,w,u,r,rfl,λp hp=>by simp at hp;rcases hp with rfl|rfl|rfl|rfl<;>assumption⟩
end
def ZN (P:Program) (w:World) (K:Frg) (mg:Str->Option Value) (base:Heap) (x:Str) (C:Addr) (ps:List Str) (sp:Sp):Prop:=∃f fd,Mk K C f/\FnOk P w K mg base CX0 2 f fd ps sp/\yp K fd ps []/\mg x=some (.ref C)
def Ij (K:Frg) (a:Addr) (n:Nat):It:=
 ⟨λi H=>i<n/\∃xs x,SqL K H a xs/\xs[n - 1 - i]? =some x,λi H x H'=>H'=H/\∀xs,SqL K H a xs->xs[n - 1 - i]? =some x,λi _=>n<=i⟩
def FC {P:Program} {w:World} {K:Frg} {C:Expr} (a it:Addr) (n:Nat):Turn P w K C (Ij K a n) [it] it (λi h=>i<=n/\h.IsRevIter it a ((n:Int) - 1 - (i:Nat))) where
 mem:=by simp
 obj:=λi h st b g=>by
  have e:b=it:=by simpa using g
  subst e;obtain ⟨_,o,e,c,d⟩:=st;exact ⟨o,e,λv z=>by rw [d] at z;cases z⟩
 keep:=λi h h' st k=>⟨st.1,st.2.at λo e=>k it (by simp) o e⟩
 item:=by
  intro X hP hw hK hc i pins s σ H E I hf st hg;subst hP hw hK;obtain ⟨U,xs,x,y,t⟩:=hg;obtain ⟨its,D,p,T⟩:=I.list y;obtain ⟨u,J,ru⟩:=D.get t;obtain ⟨f0,f1,f2,r,f4,q⟩:=hf it (by simp);have M:(n:Int) - 1 - (i:Nat)=((n - 1 - i:Nat):Int):=⋯
  have m:=st.2;rw [M] at m;refine wpAny_pyNext_rev_item m p.isList ‹J› λh' A sb=>?_;have O:Inv X pins σ H {s with heap:=h'}:=I.turned (λb o g e=>(sb.2 b g).trans e) f0 f1 r f4 q;obtain ⟨o,e,c,d⟩:=id A
  exact ⟨u,rfl,DM e c d nofun ⟨x,H,O,ru,⟨rfl,λys G=>by rw [I.list_inj G y];exact t⟩,⟨⋯,by
   rw [show (n:Int) - 1 - ((i+1:Nat):Int)=((n - 1 - i:Nat):Int) - 1 by lia];exact A⟩,λb g=>(hf b g).1⟩⟩
 done:=by
  intro X hP hw hK hc i pins s σ H E I hf st hg;subst hP hw hK;obtain ⟨f0,f1,f2,r,f4,q⟩:=hf it (by simp);have L:n<=i:=hg;have m:=st.2;rw [show (n:Int) - 1 - (i:Nat)= -1 by have:=st.1;lia] at m;exact wpAny_pyNext_rev_end (I.ok.hd hc) m λh' N=>⟨rfl,I.turned (λb o g e=>N b o g e) f0 f1 r f4 q⟩
 self:=λ_ _ _ _ _ st h=>wpAny_pyIter_revIter st.2 h
def iRev (K:Frg) (g:TA):TI:=λσ H R=>g σ H λvs H1=>∃a xs,vs=[.ref a]/\SqL K H1 a xs/\R (Ij K a xs.length) H1
section
def pi_rev {r a:Expr} {m:TA} {p pos:Pos} (G:Gl X "reversed") (hm:X.mg "reversed"=none) (ha:PA X [a] m) (A:starEach [a] X.env=[(false,eval a X.env)]:=by rfl):
 PI X r (.Call (.Name "reversed" p) [a] [] pos) (iRev X.K m):=by
 intro pins s σ H R I h;refine Call_ (XU I G hm sj (Tn (thn (ha pos pins s σ H _ I h) ?_) A rfl));rintro us s1 ⟨vs,H1,g,w,y⟩;obtain ⟨l,xs,e,C,q⟩:=y;subst e;obtain ⟨u,rfl,ru⟩:=ae w;cases (show u=Value.ref l from ru);obtain ⟨its,t,z,M⟩:=g.list C;have D:=t.length;refine call_reversed_list z.isList ?_
 have hit:Heap.IsRevIter (s1.heap.push (revObj l ((its.toArray.size:Int) - 1))) s1.heap.objs.size l ((xs.length:Int) - 1 - ((0:Nat):Int)):=⟨_,Qu _ rfl,rfl,by
  show Data.fields #[.ref l,rawInt ((its.toArray.size:Int) - 1)]=_
  rw [QJ,<-D];simp⟩
 refine wpAny_pyIter_revIter hit ?_;have L:Inv X pins σ H1 {s1 with heap:=s1.heap.push (revObj l ((its.toArray.size:Int) - 1))}:=g.kept λb o e=>Qi _ e;refine ⟨s1.heap.objs.size,[s1.heap.objs.size],_,_,H1,rfl,L,FC l _ xs.length,⟨jab _,hit⟩,λb J=>?_,q⟩;have e:b=s1.heap.objs.size:=by simpa using J
 subst e;exact g.fpOk (Qs _) (g.hok.fresh (Qs _))
end
def kRv (K:Frg) (R:It->Hp->Prop):List V->Hp->Prop:=λvs H1=>∃a xs,vs=[.ref a]/\SqL K H1 a xs/\R (Ij K a xs.length) H1
section
variable {B G0 H:Hp} {cs:yN} {ds:Dat} {K:Frg} {a:Addr} {xs ys:List PyData} {P:yN->Dat->Prop} {v:V} {σ:L2.St} {R:It->Hp->Prop} {ta:TA}
def rd_iRv (h:ta σ H (kRv K R)):iRev K ta σ H R:=h
def wk_rev (s:Src B G0 true K a xs P):Wk B G0 (Ij K a xs.length) xs.reverse P where
 go:=λ{H cs ds i} S h g=>by
  rw [Tz] at g;obtain ⟨vs,q,m,_⟩:=s S h;exact ⟨g,vs,vs[xs.length - 1 - i]'⋯,q,Qa _⟩
 stop:=λ{H cs ds i} S h g=>by rw [Tz] at g;exact g
 yld:=λ{H H' cs ds i x v} S h hx y=>by
  obtain ⟨e,y⟩:=y;subst e;obtain ⟨vs,q,m,z⟩:=s S h;have g:i<xs.length:=by have:=(Qf.mp hx).1;rwa [Tz] at this
  rw [List.getElem?_reverse g] at hx;obtain ⟨w,hw,p⟩:=z _ x hx;have:=y vs q;rw [hw] at this;cases this;exact ⟨zG.refl _,p⟩
def Ko (S:Sta B G0 H cs ds) (h:Has ds (.list xs) v) (k:∀J,Wk B G0 J xs.reverse (λ_ ds=>Has ds (.list xs) v)->R J H):kRv K R [v] H:=by
 obtain ⟨p,vs,rfl,hp,g,_⟩:=S.lst h;refine ⟨p,vs,rfl,SqL.of hp,?_⟩;rw [<-g];exact k _ (wk_rev WY)
end
def VF (l c:zi):zi:=(l.1 - c.1,List.zipWith (· - ·) l.2 c.2)
def Vq (l c:zi):zi:=(l.1+c.1,List.zipWith (·+·) l.2 c.2)
def lastC (a:List zi):zi:=a.getLast?.getD (0,[])
def yk (a:List zi):List zi:=a.reverse.map (VF (lastC a))
def zO (p:Rat) (a:List zi):List zi:=a.map λc=>(c.1*p,c.2.map (·*p))
def yx (a b:List zi):List zi:=b.tail.map (Vq (lastC a))
section
def ny (g:Rat->Rat->Rat):Sp:=spT (α:=List Rat×List Rat) (λa=>[zS a.1,zS a.2]) (λa=>(∀q∈a.1,SzQ 4000 q)/\(∀q∈a.2,SzQ 4000 q)/\a.1.length<=1000) (λa=>zS (List.zipWith g a.1 a.2))
def Cq (S:Sta B G0 H cs ds) (t:Has ds (zS p) v) (s:Has ds (zS q) w) (s1:∀x∈p,SzQ 4000 x) (s2:∀x∈q,SzQ 4000 x) (m:p.length<=1000)
 (k:∀r H',zG H H'->Sta B G0 H' cs ((zS (List.zipWith g p q),r)::ds)->Q r H'):ny g [v,w] H Q E:=
 Zq (p,q) S (.cons t (.cons s .nil)) ⟨s1,s2,m⟩ k
structure PathIn (a:List zi):Prop where
 ne:a≠[]
 sz:∀c∈a,SzC 4000 c
 len:∀c∈a,c.2.length<=1000
 few:a.length<=450
def PathIn.last (h:PathIn a):a.getLast? =some (lastC a)/\lastC a∈a:=by
 obtain ⟨l,g⟩:∃l,a.getLast? =some l:=⟨_,Tr h.ne⟩;have e:lastC a=l:=by unfold lastC;rw [g];rfl
 rw [e];exact ⟨g,jaO g⟩
def SzC.mono (h:SzC m c) (l:m<=n):SzC n c:=⟨h.1.mono l,λq g=>(h.2 q g).mono l⟩
def cR:Sp:=spL (α:=List zi) (λa=>[YF a]) PathIn (λa=>(yk a).map zY)
def nR (S:Sta B G0 H cs ds) (h:Has ds (YF a) v) (ok:PathIn a) (k:∀p H',zG H H'->Sta B G0 H' ((p,(yk a).map zY)::cs) ds->Q (.ref p) H'):cR [v] H Q E:=
 Yp a S (.cons h .nil) ok k
def km:Sp:=spL (α:=List zi×Rat) (λa=>[YF a.1,frD a.2]) (λa=>PathIn a.1/\SzQ 4000 a.2) (λa=>(zO a.2 a.1).map zY)
def nS (S:Sta B G0 H cs ds) (h:Has ds (YF a) v) (g:Has ds (frD p) w) (ok:PathIn a) (sp:SzQ 4000 p) (k:∀q H',zG H H'->Sta B G0 H' ((q,(zO p a).map zY)::cs) ds->Q (.ref q) H'):km [v,w] H Q E:=
 Yp (a,p) S (.cons h (.cons g .nil)) ⟨ok,sp⟩ k
noncomputable def Uq:Sp:=spL (α:=List zi×List zi) (λa=>[YF a.1,YF a.2]) (λa=>PathIn a.1/\PathIn a.2/\∃m,PathOk m (a.1++yx a.1 a.2)) (λa=>(yi (a.1++yx a.1 a.2)).map zY)
def nZ (S:Sta B G0 H cs ds) (h:Has ds (YF a) v) (g:Has ds (YF b) w) (ok:PathIn a) (r:PathIn b) (q:PathOk m (a++yx a b))
 (k:∀p H',zG H H'->Sta B G0 H' ((p,(yi (a++yx a b)).map zY)::cs) ds->Q (.ref p) H'):Uq [v,w] H Q E:=
 Yp (a,b) S (.cons h (.cons g .nil)) ⟨ok,r,m,q⟩ k
end
def Ya (t x y:Rat):Rat:=x+t*(y - x)
def Wj (c d:zi) (E:Rat):List Rat:=List.zipWith (Ya ((E - c.1) / (d.1 - c.1))) c.2 d.2
def zg:List zi->Rat->List Rat
 |[],_=>[]
 |[c],_=>c.2
 |c::d::r,E=>if E<d.1 then Wj c d E else zg (d::r) E
def yG (a:List zi):Prop:=a.Pairwise λc d=>c.1<d.1
theorem Zt:∀{a:List zi} {i:Nat} {c:zi},yG a->a[i]? =some c->c.1<=E->(i+1=a.length\/∃d,a[i+1]? =some d/\E<d.1)->zg a E=match a[i+1]? with|none=>c.2|some d=>Wj c d E
 |[],i,c,_,h,_,_=>by simp at h
 |[b],i,c,_,h,_,_=>by
  cases i with
  |zero=>cases h;rfl
  |succ i=>simp at h
 |b::d::r,i,c,hr,h,hc,g=>by
  cases i with
  |zero=>
   cases h
   rcases g with g|⟨d',m,g⟩
   ·simp at g
   ·cases m;rw [zg,QD g];rfl
  |succ i=>
   have p:yG (d::r):=(Qr.mp hr).2;have h':(d::r)[i]? =some c:=by simpa using h
   have hd:d.1<=c.1:=by
    cases i with
    |zero=>cases h';exact Tg
    |succ i=>exact QQ ((Qr.mp p).1 c (Qd ‹h'›))
   have q:¬E<d.1:=TX.mpr (jbT hd hc);rw [zg,QI q]
   have:=Zt p h' hc (by
    rcases g with g|⟨d',m,g⟩
    ·left;simpa using g
    ·right;exact ⟨d',by simpa using m,g⟩)
   rw [this]
   simp
def Dj (x y:Rat):Ya 0 x y=x:=by unfold Ya;grind
def uh (x y:Rat):Ya 1 x y=y:=by unfold Ya;grind
theorem mU (hf:∀x y,f x y=x):∀{l r:List Rat},l.length=r.length->List.zipWith f l r=l
 |[],[],_=>rfl
 |x::l,y::r,h=>by rw [jaq,hf,mU hf ‹h›]
 |[],_::_,h=>by simp at h
 |_::_,[],h=>by simp at h
theorem iU (hf:∀x y,f x y=y):∀{l r:List Rat},l.length=r.length->List.zipWith f l r=r
 |[],[],_=>rfl
 |x::l,y::r,h=>by rw [jaq,hf,iU hf ‹h›]
 |[],_::_,h=>by simp at h
 |_::_,[],h=>by simp at h
def Xh (h:c.2.length=d.2.length):Wj c d c.1=c.2:=by
 unfold Wj;have:(c.1 - c.1) / (d.1 - c.1)=0:=by rw [Rat.sub_self,jac,jbJ]
 rw [this];exact mU Dj h
def HQ (h:c.2.length=d.2.length) (g:c.1<d.1):Wj c d d.1=d.2:=by
 unfold Wj
 have m:d.1 - c.1≠0:=λz=>by
  have:d.1=c.1:=by grind
  rw [this] at g;exact jaP g
 have:(d.1 - c.1) / (d.1 - c.1)=1:=by rw [jac];exact Tw _ m
 rw [this];exact iU uh h
section
def Bv:Sp:=λvs H Q _=>∃(qs:List Rat) (e:Rat) (n:Nat),zC H [.list (qs.map frD),frD e] vs/\(0<qs.length/\qs.length<=1000000/\(∀q∈qs,SzQ n q)/\SzQ n e/\n<=40000000/\∀q,qs[0]? =some q->q<=e)/\
 ∀(i:Nat) (q:Rat),qs[i]? =some q->q<=e->(i+1=qs.length\/∃r,qs[i+1]? =some r/\e<r)->Q (.int (i:Nat)) H
def Km {qs:List Rat} {e:Rat} {n:Nat} (S:Sta B G0 H cs ds) (m:Is H (.list (qs.map frD)) v) (g:Is H (frD e) w) (hd:0<qs.length/\qs.length<=1000000/\(∀q∈qs,SzQ n q)/\SzQ n e/\n<=40000000/\∀q,qs[0]? =some q->q<=e)
 (k:∀(i:Nat) (q:Rat),qs[i]? =some q->q<=e->(i+1=qs.length\/∃r,qs[i+1]? =some r/\e<r)->Q (.int (i:Nat)) H):Bv [v,w] H Q E:=
 ⟨qs,e,n,by simp only [zC];exact ⟨_,_,rfl,m,_,_,rfl,g,rfl⟩,hd,k⟩
def dO:Sp:=spT (α:=Rat×Rat×Rat) (λa=>[frD a.1,frD a.2.1,frD a.2.2]) (λa=>(∃m n,SzQ n a.1/\SzQ n a.2.1/\SzQ m a.2.2/\(m+n+1<=8999/\4*n+2<=8999))/\a.2.1≠a.1) (λa=>frD ((a.2.2 - a.1) / (a.2.1 - a.1)))
def vO (S:Sta B G0 H cs ds) (y:Has ds (frD s) v) (t:Has ds (frD e) w) (q:Has ds (frD x) u) (z1:SzQ n s) (z2:SzQ n e) (g:SzQ m x) (p:(m+n+1<=8999/\4*n+2<=8999)) (z:e≠s)
 (k:∀r H',zG H H'->Sta B G0 H' cs ((frD ((x - s) / (e - s)),r)::ds)->Q r H'):dO [v,w,u] H Q E:=
 Zq (s,e,x) S (.cons y (.cons t (.cons q .nil))) ⟨⟨m,n,z1,z2,g,p⟩,z⟩ k
def kC:Sp:=spT (α:=Rat×Rat×Rat) (λa=>[frD a.1,frD a.2.1,frD a.2.2]) (λa=>∃m n,SzQ n a.1/\SzQ n a.2.1/\SzQ m a.2.2/\(m<=8999/\4*n+2<=8999)) (λa=>frD (Ya a.2.2 a.1 a.2.1))
def Cs (S:Sta B G0 H cs ds) (z:Has ds (frD s) v) (y:Has ds (frD e) w) (q:Has ds (frD t) u) (z1:SzQ n s) (z2:SzQ n e) (g:SzQ m t) (p:(m<=8999/\4*n+2<=8999))
 (k:∀r H',zG H H'->Sta B G0 H' cs ((frD (Ya t s e),r)::ds)->Q r H'):kC [v,w,u] H Q E:=
 Zq (s,e,t) S (.cons z (.cons y (.cons q .nil))) ⟨m,n,z1,z2,g,p⟩ k
def dR:Sp:=spT (α:=zi×zi×Rat) (λa=>[zY a.1,zY a.2.1,frD a.2.2]) (λa=>(∃m n,SzC n a.1/\SzC n a.2.1/\SzQ m a.2.2/\(m+3*n+2<=8999/\4*n+2<=8999))/\a.1.1<a.2.1.1/\a.1.2.length<=1000) (λa=>zS (Wj a.1 a.2.1 a.2.2))
def vS (S:Sta B G0 H cs ds) (y:Has ds (zY c) v) (t:Has ds (zY d) w) (s:Has ds (frD e) u) (z1:SzC n c) (z2:SzC n d) (g:SzQ m e) (p:(m+3*n+2<=8999/\4*n+2<=8999)) (z:c.1<d.1) (q:c.2.length<=1000)
 (k:∀r H',zG H H'->Sta B G0 H' cs ((zS (Wj c d e),r)::ds)->Q r H'):dR [v,w,u] H Q E:=
 Zq (c,d,e) S (.cons y (.cons t (.cons s .nil))) ⟨⟨m,n,z1,z2,g,p⟩,z,q⟩ k
structure PathR (n:Nat) (a:List zi):Prop where
 ne:a≠[]
 sz:∀c∈a,SzC n c
 len:∀c∈a,c.2.length<=1000
 few:a.length<=900
 rise:yG a
 zero:∀c,a[0]? =some c->c.1=0
def dP:Sp:=spT (α:=List zi×Rat) (λa=>[YF a.1,frD a.2]) (λa=>∃m n,PathR n a.1/\SzQ m a.2/\(m+3*n+2<=8999/\4*n+2<=8999)/\0<=a.2) (λa=>zS (zg a.1 a.2))
def vP (S:Sta B G0 H cs ds) (q:Has ds (YF a) v) (p:Has ds (frD e) w) (ok:PathR n a) (z:SzQ m e) (g:(m+3*n+2<=8999/\4*n+2<=8999)) (h0:0<=e)
 (k:∀r H',zG H H'->Sta B G0 H' cs ((zS (zg a e),r)::ds)->Q r H'):dP [v,w] H Q E:=
 Zq (a,e) S (.cons q (.cons p .nil)) ⟨m,n,ok,z,g,h0⟩ k
end
def yy {a b:Rat} (h:a*b=0) (g:b≠0):a=0:=by
 have m:=Tw b g;have:a=a*b*b⁻¹:=by rw [Rat.mul_assoc,m,Rat.mul_one]
 rw [this,h,jbJ]
def XO {a b:Rat} (h:a<b):b - a≠0:=λz=>by
 have:b=a:=by grind
 rw [this] at h;exact jaP h
def ZZ {s e x y E:Rat} (h:s<e):(Ya ((E - s) / (e - s)) x y - x)*(e - s)=(E - s)*(y - x):=by
 have g:=Tw _ (XO h);unfold Ya;rw [jac];generalize (e - s)⁻¹=i at*
 grind
def UN {c d:zi} {E:Rat} {i:Nat} {z:Rat} (h:(Wj c d E)[i]? =some z):∃x y,c.2[i]? =some x/\d.2[i]? =some y/\z=Ya ((E - c.1) / (d.1 - c.1)) x y:=by
 unfold Wj at h;rw [Qx] at h
 cases hx:c.2[i]? with
 |none=>rw [hx] at h;cases h
 |some x=>
  cases hy:d.2[i]? with
  |none=>rw [hx,hy] at h;cases h
  |some y=>rw [hx,hy] at h;exact ⟨x,y,rfl,rfl,(Qw h).symm⟩
structure PathT (m:Nat) (a:List zi):Prop where
 rise:yG a
 len:∀c∈a,c.2.length=m
 thin:∀(i:Nat) (x y z:zi),a[i]? =some x->a[i+1]? =some y->a[i+2]? =some z->¬zL x y z
def PathT.tail (h:PathT m (c::a)):PathT m a:=
 ⟨(Qr.mp h.rise).2,λx g=>h.len x (Qe _ g),λi x y z g q p=>h.thin (i+1) x y z ‹g› ‹q› ‹p›⟩
def yB (h:d.1<=E):zg (c::d::r) E=zg (d::r) E:=by
 rw [zg,QI (TX.mpr h)]
def qY (h:PathT m (c::r)):zg (c::r) c.1=c.2:=by
 cases r with
 |nil=>rfl
 |cons d r=>
  rw [zg,QD ((Qr.mp h.rise).1 d (Qg ..)),Xh];rw [h.len c (Qg ..),h.len d (Qe _ (Qg ..))]
def aR (c d:zi) (r:List zi):lastC (c::d::r)=lastC (d::r):=by unfold lastC;rw [jaQ]
theorem jv:∀{c:zi} {r:List zi},(∀x∈c::r,x.2.length=m)->(zg (c::r) E).length=m
 |c,[],h=>h c (Qg ..)
 |c,d::r,h=>by
  rw [zg]
  split
  ·unfold Wj;rw [Qy,h c (Qg ..),h d (Qe _ (Qg ..)),Tv]
  ·exact jv λx g=>h x (Qe _ g)
def Yr {a b c:Rat} (h:a<b) (g:b<c):a<c:=by grind
def LY (l:List Rat):Prop:=l.Pairwise (·<·)
section
def VZ (a:List zi):List Rat:=a.map λc=>c.1
end
def mY (m:Nat):(ZS m).sum=0:=by
 unfold ZS
 induction m with
 |zero=>rfl
 |succ m g=>rw [TQ,QU,g];rfl
def qT (h:yG a):LY (VZ a):=by
 unfold LY VZ;rw [Tb];exact h
section
def isAll4 (h:zC G [x,y,z,t] vs):∃v w u r,vs=[v,w,u,r]/\ZE G [(x,v),(y,w),(z,u),(t,r)]:=by
 simp only [zC] at h;obtain ⟨v,_,rfl,s,w,_,rfl,q,u,_,rfl,m,r,_,rfl,g,rfl⟩:=h;exact ⟨v,w,u,r,rfl,λp hp=>by simp at hp;rcases hp with rfl|rfl|rfl|rfl<;>assumption⟩
def VG:Sp:=λvs H Q _=>∃n:Int,vs=[.int n]/\Q (.bl true) H
def lj (k:Q (.bl true) H):VG [.int n] H Q E:=⟨n,rfl,k⟩
def Bx:Sp:=spB (α:=Rat) (λa=>[frD a]) (λ_=>True) (λ_=> .bl true)
def Ku (S:Sta B G0 H cs ds) (h:Has ds (frD q) v) (k:∀H',Sta B G0 H' cs ds->Q (.bl true) H'):Bx [v] H Q E:=
 Wx q (S.hpAll (.cons h .nil)) trivial λH' e=>k H' (S.same e)
end
def At (m:Addr) (H:Hp) (a:Addr) (T:Str) (i:Nat):Prop:=∃g,H a=some (.ins m g [("signs", .str T),("at", .int ((i:Nat):Int))])
def Ch (a:Addr) (H H':Hp):Prop:=∀p,p≠a->H' p=H p
def Ch.refl:Ch a H H:=λ_ _=>rfl
def Ch.trans (h:Ch a H H') (g:Ch a H' H''):Ch a H H'':=λp hp=>(g p hp).trans (h p hp)
def Ch.upd:Ch a H (L2.upd H a o):=λp hp=>zP hp
def sgn (T:Str) (i:Nat):Str:=Txt.slice T (some ((i:Nat):Int)) (some (((i:Nat):Int)+1))
structure WOk (K:Frg) (fS fE CW:Addr):Prop where
 cl:Cls K CW
 na:WU K CW "signs"
 nb:WU K CW "at"
 ms:Meth K CW "sign" fS
 me:Meth K CW "expect" fE
section
variable {B G0 H:Hp} {ds:Dat} {Q:VK} {E:XK} {v w u:V} {K:Frg} {CW a:Addr} {T:Str} {i:Nat}
def iZ (CW:Addr):Sp:=λvs H Q _=>∃(a:Addr) (T:Str) (i:Nat),vs=[.ref a]/\At CW H a T i/\T.length<=100000/\Q (.str (sgn T i)) H
def aJ (h:At CW H a T i) (g:T.length<=100000) (k:Q (.str (sgn T i)) H):iZ CW [.ref a] H Q E:=⟨a,T,i,rfl,h,g,k⟩
def mS (T wd:Str) (i:Nat):Prop:=∀k c,wd.cps[k]? =some c->sgn T (i+k)=⟨#[c]⟩
def Xo (CW:Addr):Sp:=λvs H Q _=>∃(a:Addr) (T wd:Str) (i:Nat),vs=[.ref a, .str wd]/\At CW H a T i/\T.length<=100000/\wd.cps.all (·<128)=true/\mS T wd i/\∀H',Ch a H H'->At CW H' a T (i+wd.length)->Q .non H'
def xS (h:At CW H a T i) (m:T.length<=100000) (hw:wd.cps.all (·<128)=true) (g:mS T wd i) (k:∀H',Ch a H H'->At CW H' a T (i+wd.length)->Q .non H'):Xo CW [.ref a, .str wd] H Q E:=⟨a,T,wd,i,rfl,h,m,hw,g,k⟩
def jo (h:At CW H a T i) (ok:WOk K fS fE CW) (k:sp [.ref a] H Q E):kMA K "sign" fS sp E Q (.ref a) H:=by
 obtain ⟨g,h⟩:=h;exact ⟨a,CW,g,_,rfl,h,ok.cl,ok.ms,rfl,k⟩
def kMe (C:Addr) (m:Str) (sp:Sp) (E:XK) (t:TA) (σ:L2.St) (Q:VK):VK:=λx H1=>∃a g fs,x= .ref a/\H1 a=some (.ins C g fs)/\fs.lookup m=none/\t σ H1 λvs p=>sp (x::(vs++[])) p Q E
def Xx (h:ta σ H (kMe C m sp E t σ Q)):tMeth C m sp [] E ta t σ H Q:=h
def UB (h:At CW H a T i) (hm:([("signs",V.str T),("at", .int ((i:Nat):Int))]:List (Str×V)).lookup m=none) (k:t σ H λvs p=>sp (.ref a::vs) p Q E):kMe CW m sp E t σ Q (.ref a) H:=by
 obtain ⟨g,h⟩:=h;refine ⟨a,g,_,rfl,h,hm,?_⟩
 simpa only [jaX] using k
def Ck (h:At CW H a T i) (ok:WOk K fS fE CW) (k:Q (.str T) H):kFld K "signs" Q (.ref a) H:=by
 obtain ⟨g,h⟩:=h;exact ⟨a,CW,g,_,_,rfl,h,ok.cl,ok.na,rfl,k⟩
def IK (h:At CW H a T i) (ok:WOk K fS fE CW) (k:Q (.int ((i:Nat):Int)) H):kFld K "at" Q (.ref a) H:=by
 obtain ⟨g,h⟩:=h;exact ⟨a,CW,g,_,_,rfl,h,ok.cl,ok.nb,rfl,k⟩
def Cr (e:σ[k]? =some (some (.ref a))) (h:At CW H a T i) (ok:WOk K fS fE CW) (p:∀m,Ch a H m->At CW m a T (i+1)->D.nx σ m):BP K (tVar k) (tC (.int 1)) rAdd "at" D σ H:=by
 obtain ⟨g,h⟩:=h;refine ⟨.ref a,e,a,CW,g,_,_,rfl,h,ok.cl,ok.nb,rfl,_,_,rfl,rfl,g,_,h,by show 2<1000;decide,p _ Ch.upd ⟨g,?_⟩⟩;rw [ya];rfl
def kIS (R:It->Hp->Prop):VK:=λx H1=>∃z,x= .str z/\z.cps.all (·<128)=true/\R (Its z) H1
def Kt (h:te σ H (kIS R)):iStr te σ H R:=h
def rd_kIS (g:z.cps.all (·<128)=true) (h:R (Its z) H):kIS R (.str z) H:=⟨z,rfl,g,h⟩
def Lz (W:Nat->L2.St->Hp->Prop) (h0:W 0 σ H)
 (q:∀(n:Nat) (c:Nat) (σ:L2.St) (H:Hp),z.cps[n]? =some c->W n σ H->g (.str ⟨#[c]⟩) σ H λσ2 H2=>tb (mkL D (W (n+1))) σ2 H2)
 (hd:∀(σ:L2.St) (H:Hp),W z.length σ H->D.nx σ H):kFor g tb D σ (Its z) H:=by
 refine ⟨λn m σ H=>m=z.cps.size - n/\n<=z.cps.size/\W n σ H,⟨z.cps.size,by simp,jab _,h0⟩,?_⟩
 rintro n m σ H ⟨rfl,hn,hw⟩
 by_cases p:n<z.cps.size
 ·refine .inr ⟨p,W (n+1),λσ' H' p'=>⟨z.cps.size - (n+1),⋯,rfl,p,p'⟩,λx H' y=>?_⟩;obtain ⟨rfl,c,r,rfl⟩:=y;exact q n c σ H' r hw
 ·exact .inl ⟨Nat.not_lt.mp p,hd σ H (by rw [show z.length=n from Nat.le_antisymm (Nat.not_lt.mp p) hn];exact hw)⟩
def Kp (a:Addr) (H H':Hp):Prop:=∀p o,p≠a->H p=some o->H' p=some o
def Ch.kp (h:Ch a H H'):Kp a H H':=λp o hp e=>by rw [h p hp];exact e
def Kp.refl:Kp a H H:=λ_ _ _ e=>e
def Kp.trans (h:Kp a H H') (g:Kp a H' H''):Kp a H H'':=λp o hp e=>g p o hp (h p o hp e)
def zG.kp (h:zG H H'):Kp a H H':=λp o _ e=>h p o e
def At.same (h:At CW H a T i) (e:zG H H'):At CW H' a T i:=by
 obtain ⟨g,h⟩:=h;exact ⟨g,e _ _ h⟩
def fg (d:Nat):Str:=⟨#[48+d]⟩
def oX:List Str:=["0","1","2","3","4","5","6","7","8","9"]
def md:oX=(List.range 10).map fg:=by decide+kernel
def fg_inj (h:fg c=fg d):c=d:=by
 have:=congrArg (λz:Str=>z.cps[0]?) h;simp [fg] at this
 lia
structure Fg (K:Frg) (cF:Addr):Prop where
 lk:∃its n sl,K.lookup cF=some ⟨.type "tuple",none, .seq its n,sl⟩/\its.size<=sizeLine/\xi (oX.map V.str) its.toList
def Fg.sq (f:Fg K cF):SqT K H cF (oX.map V.str):=by
 obtain ⟨its,n,sl,p,m,g⟩:=f.lk;exact .inr ⟨_,its,n,p,rfl,rfl,m,g⟩
def Fg.ty (f:Fg K cF):tyV K "tuple" (.ref cF) H:=by
 obtain ⟨its,n,sl,g,p,m⟩:=f.lk;exact .inr ⟨rfl,_,g,rfl,rfl⟩
def DI (z:Str) (ys:List Str):inV (.str z) (ys.map V.str)=decide (z∈ys):=by
 unfold inV;rw [List.any_map]
 by_cases h:z∈ys
 ·rw [QT h,List.any_eq_true];exact ⟨z,h,by simp [eqV]⟩
 ·rw [Tf h,List.any_eq_false];intro y g;simp [eqV]
  intro e;subst e;exact h g
def AG (ds:List Nat):Int:=ds.foldl (λ(n:Int) (d:Nat)=>n*10+(d:Int)) 0
def ni (ds:List Nat) (d:Nat):AG (ds++[d])=AG ds*10+(d:Int):=by unfold AG;rw [List.foldl_append];rfl
structure Figs (T:Str) (i:Nat) (ds:List Nat):Prop where
 pos:0<ds.length
 at_:∀k d,ds[k]? =some d->d<10/\sgn T (i+k)=fg d
 first:∀d,ds[0]? =some d->d≠0
 stop:sgn T (i+ds.length)∉oX
def Bu (CW:Addr):Sp:=λvs H Q _=>∃(a:Addr) (T:Str) (i:Nat) (ds:List Nat),vs=[.ref a]/\At CW H a T i/\T.length<=100000/\Figs T i ds/\∀H',Kp a H H'->At CW H' a T (i+ds.length)->Q (.int (AG ds)) H'
def Ci {ds:List Nat} (h:At CW H a T i) (g:T.length<=100000) (hf:Figs T i ds) (k:∀H',Kp a H H'->At CW H' a T (i+ds.length)->Q (.int (AG ds)) H'):Bu CW [.ref a] H Q E:=⟨a,T,i,ds,rfl,h,g,hf,k⟩
structure Mv (a:Addr) (G H G' H':Hp):Prop where
 k:Kp a H H'
 g:zG G G'
 s:zG G' H'
 o:∀p,H p≠none->G' p=G p
def Sw (a:Addr) (B G0 H:Hp) (ds:Dat):Prop:=∃G,Mv a G0 B G H/\G a=none/\H a≠none/\B a≠none/\ZE G ds
def Sw.enter (e:zG G H) (ga:G a=none) (h:At CW H a T i) (al:ZE G ds):Sw a H G H ds:=by
 obtain ⟨g,h⟩:=h;exact ⟨G,⟨Kp.refl,zG.refl _,e,λ_ _=>rfl⟩,ga,by rw [h];simp,by rw [h];simp,al⟩
def Mv.trans (h:Mv a G0 B G' H') (g:Mv a G' H' G'' H'') (ha:H' a≠none):Mv a G0 B G'' H'':=
 ⟨h.k.trans g.k,h.g.trans g.g,g.s,λp hp=>by
  rw [g.o p ?_,h.o p hp]
  by_cases m:p=a
  ·rw [m];exact ha
  ·cases hb:B p with
   |none=>exact absurd hb hp
   |some o=>rw [h.k p o m hb];simp⟩
def Sw.ch (S:Sw a B G0 H ds) (c:Ch a H H') (h:At CW H' a T i):Sw a B G0 H' ds:=by
 obtain ⟨G,m,ga,ha,q,al⟩:=S;obtain ⟨r,h⟩:=h;refine ⟨G,⟨m.k.trans c.kp,m.g,λp o hp=>?_,m.o⟩,ga,by rw [h];simp,q,al⟩;rw [c p (λz=>by rw [z,ga] at hp;cases hp)];exact m.s p o hp
def Sw.kp (S:Sw a B G0 H ds) (c:Kp a H H') (h:At CW H' a T i):Sw a B G0 H' ds:=by
 obtain ⟨G,m,ga,ha,q,al⟩:=S;obtain ⟨r,h⟩:=h;exact ⟨G,⟨m.k.trans c,m.g,λp o hp=>c p o (λz=>by rw [z,ga] at hp;cases hp) (m.s p o hp),m.o⟩,ga,by rw [h];simp,q,al⟩
def Sw.hp (S:Sw a B G0 H ds) (h:Has ds x v):Is H x v:=by
 obtain ⟨G,m,ga,ha,g,al⟩:=S;exact Is.mono m.s _ _ (h G al)
def Sw.leave (S:Sw a B G0 H ds):∃G,Mv a G0 B G H/\ZE G ds:=by
 obtain ⟨G,m,ga,ha,g,al⟩:=S;exact ⟨G,m,al⟩
def Sw.tup (S:Sw a B G0 H ds) (hp:H p=none) (h:zV ds xs vs):Sw a B G0 (upd H p (.tup vs)) ((.tuple xs, .ref p)::ds):=by
 obtain ⟨G,m,ga,ha,C,al⟩:=S;have D:G p=none:=m.s.free hp;have y:=zG.new D (.tup vs);have A:a≠p:=λz=>ha (by rw [z];exact hp);refine ⟨upd G p (.tup vs),⟨λq o r e=>(zG.new hp _) _ _ (m.k q o r e),m.g.trans y,λq o r=>?_,λq r=>?_⟩,by rw [zP A];exact ga,by rw [zP A];exact ha,C,(al.mono y).cons ?_⟩
 ·by_cases t:q=p
  ·subst t;rw [ya] at r⊢;exact r
  ·rw [zP t] at r⊢;exact m.s _ _ r
 ·have t:q≠p:=λz=>by
   subst z
   cases hbq:B q with
   |none=>exact r hbq
   |some o=>
    have:=m.k q o (λz=>A z.symm) hbq;rw [hp] at this;cases this
  rw [zP t];exact m.o q r
 ·rw [Is];exact ⟨p,vs,rfl,ya,zC.mono y _ _ (h G al)⟩
def tW (S:Sw a B G0 H ds) (h:zV ds xs vs) (g:vs.length<=1000) (k:∀p H',zG H H'->Sw a B G0 H' ((.tuple xs, .ref p)::ds)->Q (.ref p) H'):kTup Q vs H:=
 ⟨jbu (YM g),λp hp=>k p _ (zG.new hp _) (S.tup hp h)⟩
def Ka {α:Type} {enc:α->List PyData} {dom:α->Prop} {res:α->PyData} {vs:List V} (x:α) (S:Sw a B G0 H ds) (p:zV ds (enc x) vs) (hd:dom x) (k:∀v H',zG H H'->Sw a B G0 H' ((res x,v)::ds)->Q v H'):spT enc dom res vs H Q E:=by
 obtain ⟨G,m,ga,ha,r,al⟩:=S;refine ⟨G,x,m.s,p G al,hd,λv H' t gr q=>k v H' gr.h ⟨t,m.trans ⟨zG.kp gr.h,gr.g,gr.sub,gr.old⟩ ha,by rw [gr.old a ha];exact ga,?_,r,(al.mono gr.g).cons q⟩⟩
 cases e:H a with
 |none=>exact absurd e ha
 |some o=>rw [gr.h _ _ e];simp
def spW {α:Type} (CW:Addr) (ex:α->List V) (cond:α->Str->Nat->Prop) (len:α->Nat) (res:α->PyData):Sp:=λvs H Q _=>∃(G:Hp) (a:Addr) (T:Str) (i:Nat) (x:α),vs= .ref a::ex x/\zG G H/\G a=none/\At CW H a T i/\T.length<=100000/\cond x T i/\∀v H' g,Mv a G H g H'->At CW H' a T (i+len x)->Is g (res x) v->Q v H'
def XS {α:Type} {ex:α->List V} {cond:α->Str->Nat->Prop} {len:α->Nat} {res:α->PyData} (x:α) (S:Sw a B G0 H ds) (h:At CW H a T i) (y:T.length<=100000) (r:cond x T i) (k:∀v H',At CW H' a T (i+len x)->Sw a B G0 H' ((res x,v)::ds)->Q v H'):spW CW ex cond len res (.ref a::ex x) H Q E:=by
 obtain ⟨G,m,ga,ha,t,al⟩:=S;refine ⟨G,a,T,i,x,rfl,m.s,ga,h,y,r,λv H' z p h' q=>k v H' h' ⟨z,m.trans p ha,by rw [p.o a ha];exact ga,?_,t,(al.mono p.g).cons q⟩⟩;obtain ⟨A,h'⟩:=h';rw [h'];simp
def aH (S:Sw a H G H' ds) (k:∀v H' g,Mv a G H g H'->At CW H' a T i->Is g r v->Q v H') (h':At CW H' a T i) (h:Has ds r v):Q v H':=by
 obtain ⟨g,m,al⟩:=S.leave;exact k v H' g m h' (h g al)
def Zs {α:Type} {C:Addr} {enc:α->List PyData} {form:α->PyData} {vs:List V} (y:α) (S:Sw a B G0 H ds) (O:zV ds (enc y) vs) (k:∀x H',zG H H'->Sw a B G0 H' ((Hr C (form y), .ref x)::ds)->Q (.ref x) H'):kMake C (yr C enc form) E Q vs H:=by
 intro x r t SA NR;obtain ⟨G,m,ga,ha,P,al⟩:=S;have M:G x=none:=m.s.free t;have A:a≠x:=λz=>ha (by rw [z];exact t)
 have old:∀p o,H p=some o->upd (upd H r (.own x)) x (.ins C r []) p=some o:=λp o hp=>by
  rw [zP (zU hp t),zP (zU hp SA)];exact hp
 refine ⟨G,y,x,r,vs,by rw [jaX],λp o hp=>old p o (m.s p o hp),M,ya,O G al,λH' N w Z L Y D X U=>⟨rfl,?_⟩⟩;have keep:∀p o,H p=some o->H' p=some o:=λp o hp=>Z p o (zU hp t) (old p o hp)
 have g:∀p,H p≠none->upd (upd H r (.own x)) x (.ins C r []) p≠none:=λp hp=>by
  cases e:H p with
  |none=>exact absurd e hp
  |some o=>rw [old p o e];simp
 have I:N x=none:=by rw [D x (by rw [ya];simp)];exact M
 have J:=zG.new I (.ins C r [("form",w)]);refine k x H' keep ⟨upd N x (.ins C r [("form",w)]),m.trans ⟨zG.kp keep,L.trans J,λp o hp=>?_,λp hp=>?_⟩ ha,?_,?_,P,(al.mono (L.trans J)).cons ?_⟩
 ·by_cases q:p=x
  ·subst q;rw [ya] at hp;rw [<-hp];exact X
  ·rw [zP q] at hp;exact Y p o hp
 ·have q:p≠x:=λz=>hp (by rw [z];exact t);rw [zP q,D p (g p hp)]
 ·rw [zP A,D a (g a ha)];exact ga
 ·cases e:H a with
  |none=>exact absurd e ha
  |some o=>rw [keep a o e];simp
 ·unfold Hr;rw [Is,Fb];exact ⟨x,C,r,w,rfl,rfl,ya,Is.mono J _ _ U⟩
structure PortAt (T:Str) (i:Nat) (t b:Int) (ds es:List Nat):Prop where
 f1:Figs T i ds
 v1:AG ds=t
 sl:mS T "/" (i+ds.length)
 f2:Figs T (i+ds.length+1) es
 v2:AG es=b
 lt:0<t/\t<b
 co:Int.gcd t b=1
 sz:Sz 210 t/\Sz 210 b
def qt (CW:Addr):Sp:=spW CW (α:=(Int×Int)×List Nat×List Nat) (λ_=>[]) (λx T i=>PortAt T i x.1.1 x.1.2 x.2.1 x.2.2) (λx=>x.2.1.length+1+x.2.2.length) (λx=> .tuple [.int x.1.1, .int x.1.2])
def Bw:Sp:=spT (α:=Int×Int) (λa=>[.int a.1, .int a.2]) (λa=>a.2≠0/\Sz 8999 a.2) (λa=>frD (Rat.divInt a.1 a.2))
def Wl:List Str:=["shares","evenly","losses","halves","other(","ranks(","groups(","upto("]
structure Wd (K:Frg) (cW:Addr):Prop where
 lk:∃its n sl,K.lookup cW=some ⟨.type "tuple",none, .seq its n,sl⟩/\its.size<=sizeLine/\xi (Wl.map V.str) its.toList
def Wd.sq (f:Wd K cW):SqT K H cW (Wl.map V.str):=by
 obtain ⟨its,n,sl,p,m,g⟩:=f.lk;exact .inr ⟨_,its,n,p,rfl,rfl,m,g⟩
def DT {b:Addr} {ys:List Str} {g:TG} {r:TS} {D:Ends} {σ:L2.St} (q:∀H,SqT K H b (ys.map V.str)) (W:Nat->L2.St->Hp->Prop) (h0:W 0 σ H)
 (t:∀(n:Nat) (z:Str) (σ:L2.St) (H:Hp),ys[n]? =some z->W n σ H->g (.str z) σ H λσ2 H2=>r (mkL D (W (n+1))) σ2 H2)
 (hd:∀(σ:L2.St) (H:Hp),W ys.length σ H->D.nx σ H):kFor g r D σ (Itt K b) H:=by
 refine ⟨λn m σ H=>m=ys.length - n/\n<=ys.length/\W n σ H,⟨ys.length,by simp,jab _,h0⟩,?_⟩
 rintro n m σ H ⟨rfl,hn,hw⟩
 by_cases p:n<ys.length
 ·refine .inr ⟨⟨_, .str ys[n],q H,by rw [Qh,Qa p];rfl⟩,W (n+1),λσ' H' p'=>⟨ys.length - (n+1),⋯,rfl,p,p'⟩,λx H' y=>?_⟩;obtain ⟨rfl,s⟩:=y;have:=s _ (q H');rw [Qh,Qa p] at this;cases this;exact t n ys[n] σ H' (Qa p) hw
 ·exact .inl ⟨⟨_,q H,by rw [Qb];lia⟩,hd σ H (by rw [show ys.length=n by lia];exact hw)⟩
def tI (CW:Addr):Sp:=λvs H Q _=>∃(a:Addr) (T:Str) (i n:Nat) (wd:Str),vs=[.ref a]/\At CW H a T i/\T.length<=100000/\Wl[n]? =some wd/\mS T wd i/\∀H',Ch a H H'->At CW H' a T (i+wd.length)->Q (.str wd) H'
def JW {n:Nat} {wd:Str} (h:At CW H a T i) (m:T.length<=100000) (hn:Wl[n]? =some wd) (g:mS T wd i) (k:∀H',Ch a H H'->At CW H' a T (i+wd.length)->Q (.str wd) H'):tI CW [.ref a] H Q E:=⟨a,T,i,n,wd,rfl,h,m,hn,g,k⟩
def FZ (g:z.length<=1000) (m:z.cps.toList[0]? =some c) (k:Q (.str ⟨#[c]⟩) H):rIx K (.str z) (.int 0) H Q:= .inr (.inr ⟨z,0,c,rfl,rfl,QP g nofun,zW m,k⟩)
def qe:∀(m n:Nat) (x y:Str),Wl[m]? =some x->Wl[n]? =some y->∃c d,x.cps.toList[0]? =some c/\y.cps.toList[0]? =some d/\(c=d->m=n)/\x.length<=1000/\x.cps.all (·<128)=true:=by
 have key:∀m:Fin 8,∀n:Fin 8,((Wl[m.1]?).bind λx=>x.cps.toList[0]?)=((Wl[n.1]?).bind λx=>x.cps.toList[0]?)->m=n:=by decide+kernel
 have one:∀m:Fin 8,(((Wl[m.1]?).bind λx=>x.cps.toList[0]?).isSome && ((Wl[m.1]?).elim false λx=>decide (x.length<=1000) && x.cps.all (·<128)))=true:=by decide+kernel
 intro m n x y r q;have hm:m<8:=(Qf.mp r).1;have hn:n<8:=(Qf.mp q).1;have g:=one ⟨m,hm⟩;have p:=one ⟨n,hn⟩;have k:=key ⟨m,hm⟩ ⟨n,hn⟩;dsimp only at g p k;rw [r] at g;rw [q] at p;rw [r,q] at k;simp only [Option.bind_some,Option.elim_some,TF,decide_eq_true_eq] at g p k;obtain ⟨c,s⟩:=jaf.mp g.1;obtain ⟨d,hd⟩:=jaf.mp p.1;refine ⟨c,d,s,hd,λe=>?_,g.2.1,g.2.2⟩;have:=k (by rw [s,hd,e]);exact congrArg Fin.val this
end
def Af (g:0<b) (h:Int.gcd t b=1):(Rat.divInt t b).num=t/\((Rat.divInt t b).den:Int)=b:=by
 have:=Ug (a:=t) g;rw [h] at this;refine ⟨?_,?_⟩
 ·rw [<-this.1];simp
 ·rw [<-this.2];simp
def Ag:∀m:Nat,∃ds:List Nat,(Nat.toDigits 10 m).map Char.toNat=ds.map (48+·)/\(∀d∈ds,d<10)/\AG ds=(m:Int)/\0<ds.length/\(0<m->∀d,ds[0]? =some d->d≠0):=by
 intro m
 induction m using Nat.strongRecOn with
 |ind m p=>
  have g:∀d,d<10->(Nat.digitChar d).toNat=48+d:=by decide
  by_cases h:m<10
  ·refine ⟨[m],?_,λd hd=>by cases Qp.mp hd;exact h,by simp [AG],by simp,λh0 d hd=>by simp at hd;lia⟩;rw [Nat.toDigits_of_lt_base h];simp [g m h]
  ·obtain ⟨ds,u,t,s,r,q⟩:=p (m / 10) ⋯;refine ⟨ds++[m % 10],?_,λd hd=>?_,?_,by simp,λ_ d hd=>?_⟩
   ·rw [Nat.toDigits_of_base_le nofun ⋯,Ts,Ts,u];simp [g (m % 10) ⋯]
   ·rcases QW.mp hd with h|h
    ·exact t d h
    ·cases Qp.mp h;lia
   ·rw [ni,s];lia
   ·rw [jaa r] at hd;exact q ⋯ d hd
def Ah (h:0<t):∃ds:List Nat,(itS t).cps.toList=ds.map (48+·)/\(∀d∈ds,d<10)/\AG ds=t/\0<ds.length/\∀d,ds[0]? =some d->d≠0:=by
 obtain ⟨m,rfl⟩:=Int.eq_ofNat_of_zero_le (jbe h);obtain ⟨ds,s,r,q,p,g⟩:=Ag m;refine ⟨ds,?_,r,q,p,g ⋯⟩;unfold itS;rw [Str.ofString_eq_toList,<-s];show ((toString ((m:Nat):Int)).toList.map Char.toNat)=_
 rw [show (toString ((m:Nat):Int)).toList=Nat.toDigits 10 m from by
  show (Nat.repr m).toList=_
  simp [Nat.repr]]
def xv (h:mS T (u++v) i):mS T u i/\mS T v (i+u.length):=by
 constructor
 ·intro k c g;refine h k c ?_;show (u.cps++v.cps)[k]? =some c;rw [Array.getElem?_append_left (jaj.mp g).1];exact g
 ·intro k c g;rw [Nat.add_assoc];refine h (u.length+k) c ?_;show (u.cps++v.cps)[u.cps.size+k]? =some c;rw [Array.getElem?_append_right ⋯,Nat.add_sub_cancel_left];exact g
def Hz (T:Str):mS T T 0:=by
 intro k c g;have m:=(jaj.mp g).1;have:=slice_one_closes (x:=T) (n:=(k:Nat)) ⋯ (by show (k:Int)<(T.cps.size:Int);lia);have e:=eq_of_beq this;unfold sgn;rw [Nat.zero_add,e,Tp,Array.getD_eq_getD_getElem?,g];rfl
def JM (T:Str):sgn T T.length=Str.empty:=by
 have e:Builtin.Str.strSliceIndices (some ((T.length:Nat):Int)) (some (((T.length:Nat):Int)+1)) 1 T.length=[]:=by
  unfold Builtin.Str.strSliceIndices sliceRange;simp only [show (1:Int)>0 by decide,if_true];rw [QI (by lia:¬((T.length:Nat):Int)<0),QI (by lia:¬((T.length:Nat):Int)+1<0),QI ⋯];rfl
 unfold sgn Txt.slice;rw [e]
 split
 ·rename_i h
  have h0:T.cps.size=0:=by
   have:(0==T.length)=true:=by simpa using h
   exact (eq_of_beq this).symm
  show T=⟨#[]⟩;obtain ⟨c⟩:=T;exact congrArg Str.mk (Array.eq_empty_of_size_eq_zero h0)
 ·rfl
def DY {T rest:Str} {t:Int} {i c:Nat} (h0:0<t) (h:mS T (itS t++rest) i) (q:rest.cps[0]? =some c) (hn:(⟨#[c]⟩:Str)∉oX):∃ds,Figs T i ds/\AG ds=t/\ds.length=(itS t).length:=by
 obtain ⟨ds,m,w,u,s,r⟩:=Ah h0;obtain ⟨p,hr⟩:=xv h
 have g:ds.length=(itS t).length:=by
  have:=congrArg List.length m;rw [Qb] at this;rw [<-this];rfl
 refine ⟨ds,⟨s,λk d hd=>⟨w d (Qd hd),?_⟩,r,?_⟩,u,g⟩
 ·refine p k (48+d) ?_;rw [<-Array.getElem?_toList,m,Qh,hd];rfl
 ·rw [g];have:=hr 0 c q;rw [Nat.add_zero] at this;rw [this];exact hn
def Rl.word:Rl->Str
 | .shares=>"shares"
 | .evenly=>"evenly"
 | .losses=>"losses"
 | .halves=>"halves"
 | .other _=>"other("
 | .ranks _=>"ranks("
 | .groups _ _=>"groups("
 | .upto _ _ _ _=>"upto("
def Rl.inner:Rl->Str
 | .other r=>r.text
 | .ranks r=>r.text
 | .groups a b=>a.text++(", ":Str)++b.text
 | .upto t b x y=>itS t++("/":Str)++itS b++(", ":Str)++x.text++(", ":Str)++y.text
 |_=>Str.empty
def Rl.leaf:Rl->Bool
 | .shares=>true
 | .evenly=>true
 | .losses=>true
 | .halves=>true
 |_=>false
theorem Rl.text_in:∀r:Rl,r.leaf=false->r.text=r.word++r.inner++(")":Str)
 | .other r,_=>rfl
 | .ranks r,_=>rfl
 | .groups a b,_=>by simp only [Rl.text,Rl.word,Rl.inner,xy]
 | .upto t b x y,_=>by simp only [Rl.text,Rl.word,Rl.inner,xy]
theorem Rl.word_at:∀r:Rl,∃n:Nat,Wl[n]? =some r.word
 | .shares=>⟨0,rfl⟩
 | .evenly=>⟨1,rfl⟩
 | .losses=>⟨2,rfl⟩
 | .halves=>⟨3,rfl⟩
 | .other _=>⟨4,rfl⟩
 | .ranks _=>⟨5,rfl⟩
 | .groups _ _=>⟨6,rfl⟩
 | .upto _ _ _ _=>⟨7,rfl⟩
def tL (g:Addr) (A:RAd) (n:Nat):Sp:=spW g (α:=Rl) (λ_=>[]) (λr T i=>mS T r.text i/\r.Ok/\r.deep<=n) (λr=>r.text.length) (λr=>r.ins A)
def IB (g:Addr) (A:RAd) (n:Nat):Sp:=spW g (α:=Rl) (λr=>[.str r.word]) (λr T i=>mS T r.inner i/\r.leaf=false/\r.Ok/\r.deep<=n+1) (λr=>r.inner.length) (λr=>r.ins A)
def FH:(⟨#[47]⟩:Str)∉oX:=by decide+kernel
def HK:(⟨#[44]⟩:Str)∉oX:=by decide+kernel
def KA {T rest:Str} {t b:Int} {i:Nat} (hp:Xi t b) (h:mS T (itS t++("/":Str)++itS b++rest) i) (s:rest.cps[0]? =some 44):∃ds es,PortAt T i t b ds es/\ds.length+1+es.length=(itS t++("/":Str)++itS b).length:=by
 rw [xy,xy] at h;have g:("/":Str).length=1:=by decide+kernel
 have p:(("/":Str)++(itS b++rest)).cps[0]? =some 47:=by
  show (("/":Str).cps++(itS b++rest).cps)[0]? =some 47;rw [Array.getElem?_append_left (by decide+kernel)];decide+kernel
 obtain ⟨ds,f1,v1,m⟩:=DY hp.2.1 h p FH;have q:=(xv h).2;have u:=(xv q).2;obtain ⟨es,f2,v2,r⟩:=DY (by have:=hp.2;lia) u s HK;rw [g] at f2;refine ⟨ds,es,⟨f1,v1,by rw [m];exact (xv q).1,by rw [m];exact f2,v2,⟨hp.2.1,hp.2.2.1⟩,hp.2.2.2,hp.1⟩,?_⟩;rw [xC,xC,g,m,r]
section
def Bo (g:Addr):Sp:=λvs H Q _=>∃(x m:Addr) (T:Str),vs=[.ref x, .str T]/\H x=some (.ins g m [])/\∀H',Ch x H H'->At g H' x T 0->Q .non H'
def Bt (A:RAd) (n:Nat):Sp:=spT (α:=Rl) (λr=>[.str r.text]) (λr=>r.Ok/\r.size<=16/\r.deep<=n) (λr=>r.ins A)
def Kf {A:RAd} {n:Nat} {r:Rl} (S:Sta B G0 H cs ds) (ok:r.Ok) (g:r.size<=16) (hd:r.deep<=n) (k:∀w H',zG H H'->Sta B G0 H' cs ((r.ins A,w)::ds)->Q w H'):Bt A n [.str r.text] H Q E:=Zq r S (zV.cons Has.str zV.nil) ⟨ok,g,hd⟩ k
end
def zu:List Rat->Rat
 |[]=>0
 |x::r=>x+zu r
def YL (m:Nat):zu (List.replicate m 0)=0:=by
 induction m with
 |zero=>rfl
 |succ m g=>rw [TQ,zu,g];grind
theorem tG (t:Rat):∀x y:List Rat,x.length=y.length->zu (List.zipWith (Ya t) x y)=Ya t (zu x) (zu y)
 |[],[],_=>by rw [List.zipWith_nil_left,zu];unfold Ya;grind
 |a::x,b::y,h=>by
  rw [jaq,zu,zu,zu,tG t x y ‹h›];unfold Ya;grind
 |[],_::_,h=>by simp at h
 |_::_,[],h=>by simp at h
def LeV (x y:List Rat):Prop:=∀(i:Nat) (a b:Rat),x[i]? =some a->y[i]? =some b->a<=b
structure PathM (m:Nat) (a:List zi):Prop where
 t:PathT m a
 sums:∀c∈a,zu c.2=c.1
 mono:a.Pairwise λc d=>LeV c.2 d.2
def PathM.tail (h:PathM m (c::a)):PathM m a:=
 ⟨h.t.tail,λx g=>h.sums x (Qe _ g),(Qr.mp h.mono).2⟩
def ug (h:s<e) (m:u<=v) (g:x<=y):Ya ((u - s) / (e - s)) x y<=Ya ((v - s) / (e - s)) x y:=by
 have q:=ZZ (x:=x) (y:=y) (E:=u) h;have p:=ZZ (x:=x) (y:=y) (E:=v) h;have hp:0<e - s:=by grind
 have h0:0<=(v - u)*(y - x):=QN (by grind) (by grind);refine Rat.le_of_mul_le_mul_left ?_ hp
 grind
theorem Uc (p:u<=v):∀{c:zi} {r:List zi},PathM m (c::r)->c.1<=u->LeV (zg (c::r) u) (zg (c::r) v)
 |c,[],_,_=>λi a b ha g=>by
  have A:c.2[i]? =some a:=ha;have J:c.2[i]? =some b:=g;rw [A] at J;cases J;exact Tg
 |c,d::r,h,hc=>λi a b ha g=>by
  have C:=(Qr.mp h.t.rise).1 d (Qg ..);have hm:=(Qr.mp h.mono).1 d (Qg ..)
  by_cases hd:d.1<=u
  ·rw [yB hd] at ha;rw [yB (jbT hd p)] at g;exact Uc p h.tail hd i a b ha g
  ·have s:u<d.1:=jbp.mp hd;rw [zg,QD s] at ha;obtain ⟨x,y,D,w,I⟩:=UN ha;have q:=hm i x y D w
   by_cases G:v<d.1
   ·rw [zg,QD G] at g;obtain ⟨T,P,M,L,O⟩:=UN g;rw [D] at M;cases M;rw [w] at L;cases L;rw [I,O];exact ug C p q
   ·have K:d.1<=v:=TX.mp G;rw [yB K] at g;have N:=Uc K h.tail Tg i y b (by rw [qY h.t.tail];exact w) g;have z:=ug C (QQ s) q;rw [<-I] at z
    have A:Ya ((d.1 - c.1) / (d.1 - c.1)) x y=y:=by
     rw [jac,Tw _ (XO C),uh]
    rw [A] at z;exact jbT z N
def linV (x y z:List Rat) (a b:Rat):Prop:=∀(i:Nat) (p q r:Rat),x[i]? =some p->y[i]? =some q->z[i]? =some r->(r - p)*b=(q - p)*a
section
def JV (q:LY M)  (p:M[j]? =some u) (m:M[j+1]? =some v):u<v:=by
 obtain ⟨g,r⟩:=Qf.mp p;obtain ⟨lv,ev⟩:=Qf.mp m;have:=QR.mp q j (j+1) g lv ⋯;rw [r,ev] at this;exact this
end
end S
namespace S
open PySem PySem.Spec PyProof.Rows PyProof L2
section
end
section
end
end S
namespace S
open PySem PySem.Spec PyProof.Rows L2
theorem rS:∀{M:List Rat} {z:Rat},M[0]? =some z->z<=E->∃(i:Nat) (q:Rat),M[i]? =some q/\q<=E/\(i+1=M.length\/∃r,M[i+1]? =some r/\E<r)
 |[],z,h,_=>by simp at h
 |[a],z,h,hz=>by
  cases h;exact ⟨0,a,rfl,hz, .inl rfl⟩
 |a::b::M,z,h,hz=>by
  cases h
  by_cases m:b<=E
  ·obtain ⟨i,q,t,s,g⟩:=rS (M:=b::M) (z:=b) rfl m;refine ⟨i+1,q,by simpa using t,s,?_⟩
   rcases g with g|⟨r,g,p⟩
   ·left;simp only [QE] at g⊢;lia
   ·right;exact ⟨r,by simpa using g,p⟩
  ·exact ⟨0,a,rfl,hz, .inr ⟨b,rfl,jbp.mp m⟩⟩
def fW (q:c.1<d.1) (t:c.2.length=d.2.length) (s:c.2.length=w.length) (h:linV c.2 d.2 w (E - c.1) (d.1 - c.1)):Wj c d E=w:=by
 apply jat
 intro i
 by_cases r:i<c.2.length
 ·have p:=Qa r;have m:=Qa (l:=d.2) (i:=i) ⋯;have g:=Qa (l:=w) (i:=i) ⋯;have:=h i _ _ _ p m g;unfold Wj;rw [Qx,p,m,g];show some (Ya _ _ _)=_;have l:=ZZ (x:=c.2[i]) (y:=d.2[i]) (E:=E) q;have k:=yy (a:=Ya ((E - c.1) / (d.1 - c.1)) c.2[i] d.2[i] - w[i]) (b:=d.1 - c.1) (by grind) (XO q);have:Ya ((E - c.1) / (d.1 - c.1)) c.2[i] d.2[i]=w[i]:=by grind
  rw [this]
 ·unfold Wj;rw [QC (by rw [Qy];lia),QC ⋯]
section
end
def kd (G:b.1<c.1) (r:b.2.length=m) (lc:c.2.length=m) (w:zL b p c) (u:zL a b c):zL a b p:=λi A B P t g s=>by
 have I:i<m:=by rw [<-r];exact (Qf.mp g).1
 have q:=Qa (l:=c.2) (i:=i) ⋯;have D:=w i B P _ g s q;have J:=u i A B _ t g q;generalize c.2[i]=C at*;have z:(B - A)*(c.1 - b.1)=(C - B)*(b.1 - a.1):=by grind
 have y:((B - A)*(p.1 - a.1) - (P - A)*(b.1 - a.1))*(c.1 - b.1)=0:=by
  have:((B - A)*(p.1 - a.1) - (P - A)*(b.1 - a.1))*(c.1 - b.1)=((B - A)*(c.1 - b.1))*(p.1 - b.1) - ((P - B)*(c.1 - b.1))*(b.1 - a.1):=by grind
  rw [this,z,D];grind
 have:=yy y (XO G)
 grind
def Thn (F:List zi):Prop:=∀(i:Nat) (x y z:zi),F[i]? =some x->F[i+1]? =some y->F[i+2]? =some z->¬zL x y z
section
end
end S
namespace S
open PySem
def Ris (xs:Array Nat):Prop:=xs.toList.Pairwise (·<·)
def Ris.lt {xs:Array Nat} (h:Ris xs) {i k a b:Nat} (g:i<k) (ha:xs[i]? =some a) (q:xs[k]? =some b):a<b:=by
 have t:xs.toList[i]? =some a:=by simpa using ha
 have u:xs.toList[k]? =some b:=by simpa using q
 obtain ⟨p,s⟩:=Qf.mp t;obtain ⟨m,r⟩:=Qf.mp u;have:=QR.mp h i k p m g;rw [s,r] at this;exact this
theorem mz {xs:Array Nat} {j:Nat} (h:Ris xs):∀(fuel lo g:Nat),g - lo<=fuel->lo<=g->g<=xs.size->(∀k a,k<lo->xs[k]? =some a->a<j)->(∀k a,g<=k->xs[k]? =some a->j<=a)->
 SetTable.below.go xs j fuel lo g<=xs.size/\(∀k a,k<SetTable.below.go xs j fuel lo g->xs[k]? =some a->a<j)/\(∀k a,SetTable.below.go xs j fuel lo g<=k->xs[k]? =some a->j<=a)
 |0,lo,g,hf,t,m,q,p=>by
  rw [SetTable.below.go];have e:lo=g:=⋯
  subst e;exact ⟨m,q,p⟩
 |fuel+1,lo,g,hf,t,m,q,p=>by
  rw [SetTable.below.go]
  by_cases c:lo<g
  ·rw [QD c];dsimp only;have hm:(lo+g) / 2<xs.size:=⋯
   have em:xs[(lo+g) / 2]? =some xs[(lo+g) / 2]:=by simp [hm]
   have w:xs.getD ((lo+g) / 2) j=xs[(lo+g) / 2]:=by simp [Array.getD,hm]
   rw [w]
   by_cases s:xs[(lo+g) / 2]<j
   ·rw [QD s];refine mz h fuel _ g ⋯ ⋯ m (λk a u ha=>?_) p
    by_cases r:k=(lo+g) / 2
    ·subst r;rw [em] at ha;cases ha;exact s
    ·have:=h.lt (show k<(lo+g) / 2 by lia) ha em;lia
   ·rw [QI s];refine mz h fuel lo _ ⋯ ⋯ ⋯ q λk a u ha=>?_
    by_cases r:k=(lo+g) / 2
    ·subst r;rw [em] at ha;cases ha;lia
    ·have:=h.lt (show (lo+g) / 2<k by lia) em ha;lia
  ·rw [QI c];have e:lo=g:=⋯
   subst e;exact ⟨m,q,p⟩
def Vn (h:Ris xs) (j:Nat):SetTable.below xs j<=xs.size/\(∀k a,k<SetTable.below xs j->xs[k]? =some a->a<j)/\(∀k a,SetTable.below xs j<=k->xs[k]? =some a->j<=a):=
 mz h _ 0 xs.size ⋯ (jab _) (Qs _) (λk a g=>absurd g (Nat.not_lt_zero _)) λk a g ha=>by
  have:k<xs.size:=by
   have:=jaj.mp ha;exact this.1
  lia
def wU (h:Ris xs) (u:∀a∈xs.toList,a≠j):Ris (SetTable.insertAt xs (SetTable.below xs j) j):=by
 obtain ⟨A,y,w⟩:=Vn h j;unfold Ris;rw [SetTable.toList_insertAt]
 have m:∀a∈xs.toList.take (SetTable.below xs j),a<j:=λa ha=>by
  obtain ⟨i,g⟩:=QG.mp ha;rw [List.getElem?_take] at g
  split at g
  ·rename_i z;exact y i a z ‹g›
  ·cases g
 have p:∀a∈xs.toList.drop (SetTable.below xs j),j<a:=λa ha=>by
  obtain ⟨i,g⟩:=QG.mp ha;rw [jao] at g;have:=w _ a (Nat.le_add_right _ i) ‹g›;have ne:=u a (List.mem_of_mem_drop ha);lia
 have h':=h;unfold Ris at h';rw [<-List.take_append_drop (SetTable.below xs j) xs.toList] at h';obtain ⟨t,s,r⟩:=TR.mp h';refine TR.mpr ⟨t,Qr.mpr ⟨p,s⟩,λa ha b q=>?_⟩
 rcases Qn.mp q with rfl|q
 ·exact m a ha
 ·exact r a ha b q
def By {t:SetTable} (h:Ris t.place) {j:Nat} (p:∀i,t.slot j≠ .live i):∀a∈t.place.toList,a≠j:=λa ha e=>by
 subst e;obtain ⟨i,q⟩:=QG.mp ha;have g:t.place[i]? =some a:=by simpa using q
 obtain ⟨y,s,r⟩:=Vn h a
 have e:SetTable.below t.place a=i:=by
  rcases Nat.lt_trichotomy (SetTable.below t.place a) i with c|c|c
  ·have m:t.place[SetTable.below t.place a]? =some (t.place[SetTable.below t.place a]'(by have:=(jaj.mp g).1;lia)):=by simp
   have w:=h.lt c m g;have u:=r _ _ (Qs _) m;lia
  ·exact c
  ·have:=s i a c g;lia
 refine p i ?_;unfold SetTable.slot;dsimp only;rw [e,g]
 simp
theorem aN:∀{fuel:Nat} {p:SetTable.Probe} {j:Nat} {d:Option Nat},(∀x,p.dummy=some x->∀i,t.slot x≠ .live i)->SetTable.probe.go t hashAt h fuel p=some (.empty j d)->(∀i,t.slot j≠ .live i)/\∀x,d=some x->∀i,t.slot x≠ .live i
 |0,p,j,d,_,e=>by rw [SetTable.probe.go] at e;cases e
 |fuel+1,p,j,d,hd,e=>by
  rw [SetTable.probe.go] at e
  cases hs:t.slot p.j with
  |empty=>
   rw [hs] at e;cases e;exact ⟨λi z=>(by rw [hs] at z;cases z),hd⟩
  |dummy=>
   rw [hs] at e;refine aN (fuel:=fuel) (λx g=>?_) e
   have:x=p.j:=by
    unfold SetTable.advance at g;dsimp only at g
    split at g<;>(cases g;rfl)
   subst this;intro i z;rw [hs] at z;cases z
  |live i=>
   rw [hs] at e;dsimp only at e
   split at e
   ·cases e
   ·refine aN (fuel:=fuel) (λx g=>hd x ?_) e;unfold SetTable.advance at g;dsimp only at g
    split at g<;>exact g
def DS {t:SetTable} {h:Int} {j:Nat} {b:Bool} (e:t.freeSlot h=some (j,b)):∀i,t.slot j≠ .live i:=by
 unfold SetTable.freeSlot SetTable.probe at e
 split at e
 ·rename_i p m hp;have:=aN (λx g=>by unfold SetTable.probeStart at g;cases g) hp
  cases m with
  |none=>cases e;exact this.1
  |some d=>cases e;exact this.2 d rfl
 ·cases e
def sM (b:Bool) (t:SetTable):Prop:=Ris t.place/\t.led=b
def Ct (n:Nat):Ris (Array.range n):=by
 unfold Ris;rw [Array.toList_range];exact List.pairwise_lt_range
def Yj {b:Bool} {t:SetTable} (h:t.led=b) (n:Nat):sM b (t.standIn n):=⟨Ct n,h⟩
def rH {b:Bool} {t:SetTable} (g:sM b t) (es:Array (Int×Value)) (h:Int) (x:Value):sM b (layNew t es h x).2.1:=by
 unfold layNew
 split
 ·rename_i slot wd hf;dsimp only;unfold SetTable.orStandIn
  split
  ·exact ⟨wU g.1 (By g.1 (DS hf)),g.2⟩
  ·exact Yj g.2 _
 ·exact Yj g.2 _
def Hh {mask:Nat} {owner:Array (Option Nat)}:(((List.range (mask+1)).filterMap λj=>(owner.getD j none).map (j,·)).map (·.1)).Pairwise (·<·):=by
 rw [Tb,List.pairwise_filterMap];refine List.pairwise_lt_range.imp λ{i k} hik a ha b hb=>?_;obtain ⟨_,_,rfl⟩:=Option.map_eq_some_iff.mp ha;obtain ⟨_,_,rfl⟩:=Option.map_eq_some_iff.mp hb;exact hik
def lh (g:sM b t) (es:Array (Int×Value)) (wanted:Nat):sM b (relayAll t es wanted).2.1:=by
 unfold relayAll
 split
 ·rename_i t' order hr;dsimp only
  split
  ·unfold SetTable.relaid SetTable.laid at hr;obtain ⟨owner,_,hr⟩:=Option.bind_eq_some_iff.mp hr;cases hr;refine ⟨?_,g.2⟩;show (List.toArray _).toList.Pairwise _;exact Hh
  ·exact Yj g.2 _
 ·exact Yj g.2 _
def UZ:Value->Int
 | .int n _=>n
 |_=>0
def iQ (prog:Program) (w:World) (h:Heap) (a:Addr) (b:Bool) (ns:List Int):Prop:=
 ∃(o:Obj) (es:Array (Int×Value)) (ep:Nat) (t:SetTable),(h.get? a=some o/\o.ExactSet/\o.data= .set es ep t)/\ElemsOf (intKind prog w) es.toList/\(t.fits es.size=true/\sM b t)/\ns=es.toList.map (λe=>UZ e.2)/\ns.Nodup
section
def Ir (h:(intKind prog w).is k v=true):UZ v=k:=by
 obtain ⟨t,ht⟩:=Value.isInt_shape h;rw [ht];rfl
def iQ.kept (T:iQ prog w h a b ns) (k:∀o,h.get? a=some o->h'.get? a=some o):iQ prog w h' a b ns:=by
 obtain ⟨o,es,ep,t,⟨g,ex,data⟩,rest⟩:=T;exact ⟨o,es,ep,t,⟨k o g,ex,data⟩,rest⟩
def Iz {h:Heap} {a:Addr} {o:Obj} {es es1:Array (Int×Value)} {ep:Nat} {t t1:SetTable} (g:h.get? a=some o) (data:o.data= .set es ep t):(h.update a (Obj.putSet es1 t1)).get? a=some {o with data:= .set es1 (ep+1) t1}:=by
 have z:=TL (Obj.putSet es1 t1) g (by rw [putSet_of es1 t1 data];rfl);rwa [putSet_of es1 t1 data] at z
def add_T {a:Addr} {b:Bool} {ns:List Int} {k:Int} {tk:Tok} {Q:Bool->Shared->Prop} (T:iQ prog w s.heap a b ns) (few:ns.length<1000)
 (h:∀(r:Bool) (h':Heap) (m:List Int),Heap.SameBut a s.heap h'->iQ prog w h' a b m->(∀x,x∈m↔x∈ns\/x=k)->m.length<=ns.length+1->Q r {s with heap:=h'}):
 wpAny (model prog w) A (setAddHashed a (.int k tk) ((intKind prog w).hash k)) Q E s:=by
 obtain ⟨o,es,ep,t,⟨N,ex,data⟩,elems,⟨fit,good⟩,rfl,nd⟩:=T;have sz:es.size=(es.toList.map λe=>UZ e.2).length:=by simp
 have e4:scanBound=4096:=rfl;have bound:es.size<scanBound:=⋯
 have K:=intKind_is prog w k tk;unfold setAddHashed setAddHashedIn;refine jar (Qc (jbC N data fit ?_));dsimp only;rw [byScan_of (knd:=intKind prog w) (x:= .int k tk) rfl bound elems,QD rfl];unfold setAddByScan;refine Qc (Qc (jbO (Qc (wpAny_setScan_of K N data fit elems ?_))))
 cases found:List.findIdx? (λe=>(intKind prog w).is k e.2) es.toList with
 |some j=>
  dsimp only;obtain ⟨hj,pj,_⟩:=List.findIdx?_eq_some_iff_getElem.mp found;have mem:k∈es.toList.map λe=>UZ e.2:=Qk.mpr ⟨es.toList[j],Ta hj,Ir pj⟩;refine Ql (Ql ?_);exact h false s.heap _ (Heap.SameBut.refl a s.heap) ⟨o,es,ep,t,⟨N,ex,data⟩,elems,⟨fit,good⟩,rfl,nd⟩ (λx=>⟨.inl,λz=>z.elim id λe=>e▸mem⟩) (jal _)
 |none=>
  dsimp only
  have new:k∉es.toList.map λe=>UZ e.2:=λz=>by
   obtain ⟨e,he,hv⟩:=Qk.mp z;obtain ⟨⟨k',Oz,_⟩,_⟩:=elems e he;have ek:k'=k:=(Ir Oz).symm.trans hv;subst ek;have:=List.findIdx?_eq_none_iff.mp found e he;rw [Oz] at this;cases this
  have perm:=layNew_perm t es ((intKind prog w).hash k) (.int k tk);have fits:=layNew_fits t es ((intKind prog w).hash k) (.int k tk);have O:=rH good es ((intKind prog w).hash k) (.int k tk);generalize layNew t es ((intKind prog w).hash k) (.int k tk)=L at perm fits O⊢;obtain ⟨es1,t1,wasDummy,gave⟩:=L;dsimp only at perm fits O⊢;rw [Array.toList_push] at perm;have p:ElemsOf (intKind prog w) es1.toList:=(elems.push K rfl).perm perm
  have pm:(es1.toList.map λe=>UZ e.2).Perm ((es.toList.map λe=>UZ e.2)++[k]):=by
   have:=perm.map λe=>UZ e.2;rwa [Ts] at this
  have J:(es1.toList.map λe=>UZ e.2).Nodup:=by
   refine (pm.nodup_iff).mpr (List.nodup_append.mpr ⟨nd,by simp,λx hx y hy=>?_⟩);rw [Qp.mp hy];exact λe=>new (e▸hx)
  have Rc:=pm.length_eq;rw [QM,jas] at Rc;have OQ:es1.size=(es1.toList.map λe=>UZ e.2).length:=by simp
  have G:es1.size<scanBound:=⋯
  have iu:∀x,x∈(es1.toList.map λe=>UZ e.2)↔x∈(es.toList.map λe=>UZ e.2)\/x=k:=λx=>by
   rw [pm.mem_iff,QW,Qp]
  have g1:=Iz (es1:=es1) (t1:=t1) N data;have I:=Ti s.heap a (Obj.putSet es1 t1);have M:=relayAll_perm t1 es1 (SetTable.grown es1.size);have Pd:=relayAll_fits t1 es1 (SetTable.grown es1.size);have good2:=lh O es1 (SetTable.grown es1.size)
  have tail:∀{g:Bool->Sem Unit} {R:Option Bool->Shared->Prop},(∀(b:Bool) (s₁:Shared) (u:Unit->Shared->Prop),u () s₁->wpAny (model prog w) A (g b) u E s₁)->
   (∀(h':Heap) (m:List Int),Heap.SameBut a s.heap h'->iQ prog w h' a b m->(∀x,x∈m↔x∈(es.toList.map λe=>UZ e.2)\/x=k)->m.length<=(es.toList.map λe=>UZ e.2).length+1->R (some true) {s with heap:=h'})->
   wpAny (model prog w) A (do
    storeSet a es1 t1
    if (!wasDummy && t1.tooFull)=true then do
        g (relayAll t1 es1 (SetTable.grown es1.size)).2.2
        storeSet a (relayAll t1 es1 (SetTable.grown es1.size)).1 (relayAll t1 es1 (SetTable.grown es1.size)).2.1
        pure (some true)
     else pure (some true)) R E s:=λ{g R} hg hR=>by
   refine Qc (wpAny_storeSet_of N data ?_ (fits_of_scanBound G))
   split
   ·generalize relayAll t1 es1 (SetTable.grown es1.size)=L2 at M Pd good2⊢;obtain ⟨C,t2,gave2⟩:=L2;dsimp only at M Pd good2⊢;have Z:(C.toList.map λe=>UZ e.2).Perm (es1.toList.map λe=>UZ e.2):=M.map _;have sz2:C.size=es1.size:=by rw [<-TY,M.length_eq,TY]
    have D:C.size<scanBound:=⋯
    refine Qc (hg _ _ _ (Qc (wpAny_storeSet_of g1 rfl (Ql ?_) (fits_of_scanBound D))));refine hR _ _ (I.trans (Ti _ a _)) ⟨_,C,_,t2,⟨Iz g1 rfl,ex,rfl⟩,p.perm M,⟨Pd,good2⟩,rfl,Z.nodup_iff.mpr J⟩ (λx=>by rw [Z.mem_iff];exact iu x) (by rw [Z.length_eq,Rc];exact Qs _)
   ·exact Ql (hR _ _ I ⟨_,es1,_,t1,⟨g1,ex,rfl⟩,p,⟨fits,O⟩,rfl,J⟩ iu (by rw [Rc];exact Qs _))
  have fin:∀(h':Heap) (m:List Int),Heap.SameBut a s.heap h'->iQ prog w h' a b m->(∀x,x∈m↔x∈(es.toList.map λe=>UZ e.2)\/x=k)->m.length<=(es.toList.map λe=>UZ e.2).length+1->Q true {s with heap:=h'}:=h true
  have pass:∀(c:Bool) (s₁:Shared) (u:Unit->Shared->Prop),u () s₁->wpAny (model prog w) A (match c with|true=>rule "set.scan.the-table-gave-way"|false=>pure ()) u E s₁:=λc s₁ u q=>by
   cases c
   ·exact Ql q
   ·exact jbO q
  refine Qc (pass _ _ _ ?_);have hv:hashByValue 8 (.int k tk)=pure true:=rfl
  split
  ·refine Qc ?_;rw [hv];refine Ql ?_;exact tail (λc s₁ u q=>pass c s₁ u q) λh' m Y X U P=>Ql (fin h' m Y X U P)
  ·refine Qc (Ql ?_);exact tail (λc s₁ u q=>pass c s₁ u q) λh' m Y X U P=>Ql (fin h' m Y X U P)
def AI (w:World):Bool:=!(w.params.followText "set-order")
def XW (w:World):Obj:={cls:= .type "set",dict:=none,data:= .set #[] 0 (.fresh 0 0 (AI w))}
def Lb (x:Value) (k:R (.ref s.heap.objs.size) {s with heap:=s.heap.push (XW w)}):
 codeAny (model prog w) A (.call (.builtin "set.__new__") ⟨[.type "set",x],[]⟩) (wants R E) s:=by
 refine codeAny_of_tree (show wpAny _ A.in1 (do checkBuiltinCall "set.__new__" ⟨[.type "set",x],[]⟩;again (.builtin "set.__new__" ⟨[.type "set",x],[]⟩)) _ _ s from ?_)
 refine Qc (wpAny_of_eq (F.newCall_set_1 x) (Ql ⟨plainId_quiet F.plain_set_new _,jaY F.entry_set_new (by
  rw [jax F.plain_set_new _];unfold Builtin.«set.__new__» Builtin.Frozenset.newClass;have sub:=sub_set_self;obtain ⟨hp,g,d,tk,os⟩:=s;dsimp only
  wp_walk
  refine wpAny_askSetting (Ql ?_);dsimp only;simp only [newObj]
  exact Qc (wpAny_alloc (Ql (Ql k))))⟩))
def iQ.fresh (g:h.get? a=some (XW w)):iQ prog w h a (AI w) []:=
 ⟨_,#[],0,_,⟨g,⟨rfl,rfl,rfl⟩,rfl⟩,λe he=>by simp at he,⟨rfl,by unfold Ris SetTable.fresh;exact List.Pairwise.nil,rfl⟩,rfl,List.nodup_nil⟩
def upd_T
 (W:WalksS prog w A.in1 I fp wr G n P St) (a:Addr) (out:a∉fp) (ns:List Int) (val:∀i v,P i v->∃k t,ns[i]? =some k/\v= .int k t) (few:n<900):
 ∀(m i:Nat) (s:Shared) (T:List Int),n - i=m->i<=n->St i s->iQ prog w s.heap a b T->(∀x,x∈T↔x∈ns.take i)->T.length<=i->
  (∀g J,Moved (a::wr) G s g->iQ prog w g.heap a b J->(∀x,x∈J↔x∈ns.take n)->J.length<=n->R (.ok (.ret .none)) g)->
  codeAny (model prog w) A (.builtin "set.update.loop" ⟨[.ref a, .ref I],[]⟩) R s:=by
 have p:a∉wr:=λz=>out (W.sub _ z);have more:∀c∈wr,c∈a::wr:=λc D=>Qe _ D;intro m
 induction m with
 |zero=>
  intro i s T hm Z st M K U N;have e:i=n:=⋯
  subst e;refine jaY PyProof.Rows.F.entry_set_update_loop ?_;rw [jax jaS _];show wpAny _ A.in1 (pyNext (.ref I)>>=_) _ _ s;exact Qc (W.done s _ _ st λg u=>Ql (N g T (u.mono more) (M.kept λo=>u.heap a o p) K U))
 |succ m X=>
  intro i s T hm Z st M K U N;have lt:i<n:=⋯
  refine jaY PyProof.Rows.F.entry_set_update_loop ?_;rw [jax jaS _];show wpAny _ A.in1 (pyNext (.ref I)>>=_) _ _ s;refine Qc (W.item i s _ _ lt st λv g hP NP u=>?_);obtain ⟨k,tk,Y,rfl⟩:=val i v hP;show wpAny _ A.in1 (holding [Value.int k tk] (setAdd a (.int k tk))>>=_) _ _ g;refine Qc (jar ?_);unfold setAdd;refine jar (Qc ((intKind prog w).pyHash (k:=k) (intKind_is _ _ _ _) ?_));refine add_T (b:=b) (ns:=T) (s:={g with toks:=g.toks+1}) (M.kept λo=>u.heap a o p) ⋯ λr h' J sb L NJ Oe=>?_;refine Ql ⟨plainId_quiet jaS _,X (i+1) _ J ⋯ lt (W.frame _ g _ _ NP (jal _) λc D o e=>?_) L (λx=>?_) ⋯ λRV O q Pa y C=>?_⟩
  ·rw [sb.2 c (λz:c=a=>out (by rw [<-z];exact D))];exact e
  ·rw [NJ x,K x,jbl,Y]
   simp
  ·refine N RV O (Moved.trans W.gtrans ((u.mono more).then_heap (jal _) λc o D e=>?_) q) Pa y C;rw [sb.2 c (λz:c=a=>D (by rw [z];exact Qg))];exact e
set_option maxHeartbeats 8000000 in
def Am (quiet:A.handled=none) (hl:s.heap.IsList l items) (hi:PyProof.Rows.IntsAre items.toList ns) (few:items.size<900)
 (k:∀(h':Heap) (tk:Nat) (T:List Int),iQ prog w h' s.heap.objs.size (AI w) T->(∀x,x∈T↔x∈ns)->T.length<=ns.length->(∀b o,b<s.heap.objs.size->s.heap.get? b=some o->h'.get? b=some o)->Q (.ref s.heap.objs.size) {s with heap:=h',toks:=tk}):
 wpAny (model prog w) A (call (.type "set") [.ref l]) Q E s:=by
 have lenN:items.size=ns.length:=by have:=hi.length;simpa using this
 obtain ⟨c1,tl1,mro1⟩:=jby.mro;have L:=jby.made;have Y:=jby.sub;refine wpAny_call (codeAny_of_tree (show wpAny _ _ (callAny (.type "set") _) _ _ _ from ?_));refine Ql ⟨Code.quiet_builtin _ (by decide+kernel),jaY F.entry_type_call ?_⟩;rw [Around.under_plain (weight_type_call_type "set" [.ref l] []) rfl];have nt1:=jby.notType;have cc1:=jby.canCreate;have ct1:=F.typeCall_set_1 (.ref l)
 repeat any_goals (first|wp_step|assumption)
 refine jbS (Lb (.ref l) (E:=E) (R:=λobj s₁=>obj= .ref s.heap.objs.size/\s₁={s with heap:=s.heap.push (XW w)}) ⟨rfl,rfl⟩) λr s₁ hr=>?_
 cases r with
 |error e=>exact hr
 |ok fl=>
  cases fl with
  |ret obj=>
   obtain ⟨rfl,rfl⟩:=hr;have X:(s.heap.push (XW w)).get? s.heap.objs.size=some (XW w):=Qu _ rfl;have ty:Shared.TypeIs {s with heap:=s.heap.push (XW w)} (.ref s.heap.objs.size) "set":=⟨_,X,rfl⟩;have lk1:=jby.init.lookup;have bd1:=jby.init.bind (.ref s.heap.objs.size)
   repeat any_goals (first|wp_step|assumption)
   refine jbS (codeAny_call_builtin (R:=wants (λr s₂=>r= .none/\∃h' tk T,s₂={s with heap:=h',toks:=tk}/\iQ prog w h' s.heap.objs.size (AI w) T/\(∀x,x∈T↔x∈ns)/\T.length<=ns.length/\
    (∀b o,b<s.heap.objs.size->s.heap.get? b=some o->h'.get? b=some o)) E) jby.init.plain F.entry_set_init (check_set_init_1 ty ?_)) λr₂ s₂ hr₂=>?_
   ·obtain ⟨ol,D,p,nl,m⟩:=hl;obtain ⟨Z,u,J,g⟩:=ol;simp only at p m;subst p;subst m;have SI:(s.heap.push (XW w)).get? l=some {cls:= .type "list",dict:=u,data:= .seq items nl,slots:=g}:=Qi _ D;have sls:=F.sub_list_set;have slf:=F.sub_list_frozenset;have nd1:(Value.type "list"==Value.type "dict")=false:=by decide
    have C:(s.heap.push (XW w)).IsList l items:=⟨_,SI,rfl,nl,rfl⟩;have U:=X;unfold XW at U SI;unfold Builtin.«set.__init__» noKeywords Builtin.Frozenset.updateFrom;generalize P:pyIter=PI
    wp_walk
    subst P;refine jaT C (Qc (wpAny_runValue ?_));have y:l<s.heap.objs.size:=Qt D;have q3:A.in1.in1.in1.handled=none:=by simp [quiet]
    have q:(s.heap.push (XW w)).objs.size=s.heap.objs.size+1:=QS ..;have K:l≠(s.heap.push (XW w)).objs.size:=by rw [q];exact QO (TK y)
    have out:s.heap.objs.size∉[(s.heap.push (XW w)).objs.size,l]:=by
     rw [q];intro z
     rcases Qn.mp z with z|z
     ·exact absurd z (QO (Te _))
     ·exact absurd (Qp.mp z) (jay y)
    refine upd_T (b:=AI w) ((Walks.list q3 _ l K items).toS) s.heap.objs.size out ns (λi v hv=>?_) few (items.size - 0) 0 _ [] ⋯ (jab _) ⟨⟨_,Qu _ rfl,rfl,rfl⟩,C.push _⟩ (iQ.fresh (Qi _ X)) (λx=>by simp) (jab _) λs' T' G O NJ Oe=>?_
    ·have Rf:items.toList[i]? =some v:=by rw [Array.getElem?_toList];exact hv
     obtain ⟨t,ht⟩:=PyProof.Rows.IntsAre.int_at hi i v Rf
     have lt:i<ns.length:=by
      have:=(Qf.mp Rf).1;rw [TY] at this;lia
     refine ⟨ns.getD i 0,t,?_,ht⟩;rw [Qq,Qa lt];rfl
    ·obtain ⟨h',g',d',I,Rb⟩:=s';have eg:g'=s.gens:=G.gens;have ed:d'=s.drawn:=G.drawn;have eo:Rb=s.os:=G.os;subst eg;subst ed;subst eo;show wpAny _ _ _ _ _ _;refine Ql (show wpAny _ _ (ret Value.none) _ _ _ from Ql ⟨rfl,h',I,T',rfl,O,λx=>?_,⋯,λb o N e=>?_⟩)
     ·rw [NJ x,jap ⋯]
     ·refine G.heap b o (λz=>?_) (Qi _ (Qi _ e))
      rcases Qn.mp z with z|z
      ·exact absurd z (QO N)
      ·rw [Qp.mp z,q] at N;exact absurd N (Nat.not_lt.mpr (jal _))
   ·cases r₂ with
    |error e=>exact hr₂
    |ok fl₂=>
     cases fl₂ with
     |ret r=>
      obtain ⟨rfl,h',tk,T,rfl,hT,hx,M,keep⟩:=hr₂
      repeat any_goals (first|wp_step|assumption)
      exact k _ _ T hT hx M keep
     |_=>exact hr₂.elim
  |_=>exact hr.elim
end
def CC:Manifest.owners.lookup (String.ofList ['r','o','t','a','r','e','t','i','_','t','e','s'].reverse)=some Manifest.sig_set_iterator:=by kernel_rfl
def ZK (x:Value):argsOk "set_iterator.__next__" ⟨[x],[]⟩:=by
 unfold argsOk;rw [signature?_of (id:="set_iterator.__next__") (n:=['_','_','t','x','e','n','_','_']) (by kernel_rfl) CC]
 kernel_rfl
def ye:Slot "set_iterator" "__next__" "set_iterator.__next__":= .of (owner:="set_iterator") (n:="__next__") (by rw [typeLookup_type,builtinLookup_eq_fast];kernel_rfl) (by decide+kernel) (by decide+kernel) (by decide+kernel) (by first|exact .inl (by decide+kernel)|exact .inr (by decide+kernel)) (by rw [isSubtype_type];kernel_rfl)
def Zl:entryFor table "set_iterator.__next__"=some Builtin.«set_iterator.__next__»:=entryFor_of_tree (by kernel_rfl)
def Us:Slot "set_iterator" "__iter__" "set_iterator.__iter__":= .of (owner:="set_iterator") (n:="__iter__") (by rw [typeLookup_type,builtinLookup_eq_fast];kernel_rfl) (by decide+kernel) (by decide+kernel) (by decide+kernel) (by first|exact .inl (by decide+kernel)|exact .inr (by decide+kernel)) (by rw [isSubtype_type];kernel_rfl)
def mG (x:Value):argsOk "set_iterator.__iter__" ⟨[x],[]⟩:=by
 unfold argsOk;rw [signature?_of (id:="set_iterator.__iter__") (n:=['_','_','r','e','t','i','_','_']) (by kernel_rfl) CC]
 kernel_rfl
def iH:entryFor table "set_iterator.__iter__"=some Builtin.«dict_keyiterator.__iter__»:=entryFor_alias (id':="dict_keyiterator.__iter__") (by kernel_rfl) rfl (by decide+kernel) (by kernel_rfl)
def iI:entryFor table "set.__iter__"=some Builtin.«frozenset.__iter__»:=entryFor_alias (id':="frozenset.__iter__") (by kernel_rfl) rfl (by decide+kernel) (by kernel_rfl)
theorem aZ {α:Type}:∀{xs:List α} {i:Nat} (h:i<xs.length),(xs[i]::xs.eraseIdx i).Perm xs
 |[],i,h=>by simp at h
 |x::xs,0,h=>List.Perm.refl _
 |x::xs,i+1,h=>by
  have g:=aZ ‹h›;exact (List.Perm.swap _ _ _).trans (g.cons x)
section
def Aj (hn:n≠0) (k:∀i d,i<n->Q i {s with drawn:=d}):wpAny (model prog w) A (choose src n) Q E s:=λΓ p hΓ=>by
 show Sem.wp _ _ (Sem.choose src n _) _ _ _ _;rw [Sem.wp_choose];exact ⟨hn,k _ _ (Nat.mod_lt _ ⋯)⟩
theorem Jb {α:Type}:∀(n:Nat) (xs:List α) (s:Shared) (Q:List α->Shared->Prop),xs.length=n->(∀d ys,ys.Perm xs->Q ys {s with drawn:=d})->wpAny (model prog w) A (drawOrder n xs) Q E s
 |0,[],s,Q,_,k=>by rw [drawOrder];exact Ql (k s.drawn [] (List.Perm.refl _))
 |n+1,x::xs,s,Q,hl,k=>by
  rw [drawOrder]
  ·refine Qc (Aj (by simp) λi d g=>?_);have e:(x::xs)[i]? =some (x::xs)[i]:=Qa g;rw [e];dsimp only;refine Qc (Jb n _ _ _ (by rw [List.length_eraseIdx,QD g,hl];rfl) λp ys hp=>Ql (k p _ ?_));have m:=List.Perm.cons (x::xs)[i] hp;refine m.trans ?_;exact aZ g
  ·intro z;cases z
 |0,_::_,s,Q,h,_=>by simp at h
 |_+1,[],s,Q,h,_=>by simp at h
structure SetD (prog:Program) (w:World) (oS:Obj) (es:Array (Int×Value)) (ep:Nat) (t:SetTable):Prop where
 ex:oS.ExactSet
 data:oS.data= .set es ep t
 elems:ElemsOf (intKind prog w) es.toList
 fit:t.fits es.size=true
 good:sM (AI w) t
def Ap (h:Ris xs):SetTable.below xs 0=0:=by
 obtain ⟨p,g,m⟩:=Vn h 0
 rcases Nat.eq_zero_or_pos (SetTable.below xs 0) with z|z
 ·exact z
 ·have:xs[0]? =some (xs[0]'⋯):=by simp
  exact absurd (g 0 _ z this) (Nat.not_lt_zero _)
def Aq (h:Ris xs) (g:xs[i]? =some j):SetTable.below xs (j+1)=i+1:=by
 obtain ⟨s,r,q⟩:=Vn h (j+1);have li:i<xs.size:=(jaj.mp g).1
 rcases Nat.lt_trichotomy (SetTable.below xs (j+1)) (i+1) with z|z|z
 ·have:=q i j ⋯ g;lia
 ·exact z
 ·have p:i+1<xs.size:=⋯
  have m:xs[i+1]? =some xs[i+1]:=by simp [p]
  have:=r (i+1) _ z m;have:=h.lt (Te i) g m;lia
def byT (w:World):Bool:=w.params.followText "set-order"
def mR (w:World) (a:Addr) (ep:Nat) (es:Array (Int×Value)):Array (Int×Value):=if byT w=true then pickOrder (w.params.setOrder a ep) es else es
def stT (w:World) (t:SetTable) (i slot:Nat):Prop:=byT w=true\/SetTable.below t.place slot=i
theorem oq {α:Type} (f:Nat->Nat):∀(n k:Nat) (left:List α) (out:Array α),left.length=n->(pickOrder.go f n k left out).toList.Perm (out.toList++left)
 |0,k,[],out,_=>by rw [pickOrder.go];simp
 |0,k,_::_,out,h=>by simp at h
 |n+1,k,[],out,h=>by simp at h
 |n+1,k,x::left,out,h=>by
  rw [pickOrder.go];have g:f k % (x::left).length<(x::left).length:=Nat.mod_lt _ (by simp);rw [Qa g];dsimp only;have m:=oq f n (k+1) ((x::left).eraseIdx (f k % (x::left).length)) (out.push (x::left)[f k % (x::left).length]) (by rw [List.length_eraseIdx,QD g,h];rfl);refine m.trans ?_;rw [Array.toList_push,jbk];exact (aZ g).append_left _
def UD (w:World) (a:Addr) (ep:Nat) (es:Array (Int×Value)):(mR w a ep es).toList.Perm es.toList:=by
 unfold mR
 split
 ·unfold pickOrder;have:=oq (w.params.setOrder a ep) es.size 0 es.toList #[] (by simp)
  simpa using this
 ·exact List.Perm.refl _
section
def si (k:Q (byT w) s):wpAny (model prog w) A setsByText Q E s:=by
 unfold setsByText;exact Qc (wpAny_askSetting (Ql k))
def AW (m:s.heap.get? a=some oS) (D:SetD prog w oS es ep t) (g:byT w=true) (k:Q (pickOrder (w.params.setOrder a ep) es) s):wpAny (model prog w) A (setWalk a) Q E s:=by
 unfold setWalk;refine Qc (jbC m D.data D.fit ?_);dsimp only;refine Qc (si ?_);rw [g,QD rfl];exact Qc (wpAny_askSetting (Ql k))
def IP (C:s.heap.get? a=some oS) (D:SetD prog w oS es ep t) (pl:byT w=true\/(t.plain=true\/es.size<=1)) (st:stT w t i slot)
 (u:∀e G,(mR w a ep es)[i]? =some e->stT w t (i+1) G->Q (some (e.2,G)) s) (r:es.size<=i->Q none s):wpAny (model prog w) A (setNext a slot i ep) Q E s:=by
 have J:(mR w a ep es).size=es.size:=by
  have:=(UD w a ep es).length_eq
  simpa using this
 unfold setNext;refine Qc (jbC C D.data D.fit ?_);dsimp only;refine Qc (si ?_)
 cases hb:byT w with
 |true=>
  rw [QD rfl,QI (by simp)];refine Qc (AW C D hb (Ql ?_));have q:mR w a ep es=pickOrder (w.params.setOrder a ep) es:=by unfold mR;rw [QD hb]
  rw [<-q]
  by_cases c:i<(mR w a ep es).size
  ·have e:(mR w a ep es)[i]? =some (mR w a ep es)[i]:=by simp [c]
   rw [e];exact u _ slot e (.inl hb)
  ·rw [Array.getElem?_eq_none ⋯];exact r ⋯
 |false=>
  have K:SetTable.below t.place slot=i:=st.resolve_left (by rw [hb];exact Qv);have m:=pl.resolve_left (by rw [hb];exact Qv);rw [QI Qv]
  split
  ·rename_i z
   exfalso
   have g:(!t.plain && decide (es.size>1))=true:=z;rw [TF,decide_eq_true_eq] at g
   rcases m with p|p
   ·rw [p] at g;exact Qv g.1
   ·lia
  have led:t.led=true:=by
   have:=D.good.2;unfold AI at this;rw [this,show w.params.followText "set-order"=false from hb];rfl
  refine Qc (show wpAny _ _ (if (!t.led && !es.isEmpty)=true then unsupported "set:maker-not-led" else pure ()) _ _ s from ?_);rw [led,QI (by simp)];refine Ql (Ql ?_);rw [K];have q:mR w a ep es=es:=by unfold mR;rw [QI (by rw [hb];exact Qv)]
  have I:t.place.size=es.size:=by
   have:=D.fit;unfold SetTable.fits at this;rw [TF] at this
   simpa using this.1
  by_cases c:i<es.size
  ·have e:es[i]? =some es[i]:=by simp [c]
   have y:t.place[i]? =some (t.place[i]'⋯):=by simp
   rw [e,y];exact u es[i] _ (by rw [q];exact e) (.inr (Aq D.good.1 y))
  ·rw [Array.getElem?_eq_none (show es.size<=i by lia)];exact r ⋯
end
end
section
variable {prog:Program} {w:World} {A:Around} {E:Value->Shared->Prop} {s:Shared} {a I:Addr} {oS:Obj} {es:Array (Int×Value)} {ep:Nat} {t:SetTable} {slot i:Nat}
def ItF (h:Heap) (I:Addr) (vs:Array Value):Prop:=∃o,h.get? I=some o/\o.cls= .type "set_iterator"/\o.data= .fields vs
def ItF.ty (x:ItF s.heap I vs):s.TypeIs (.ref I) "set_iterator":=by
 obtain ⟨_,e,c,_⟩:=x;exact ⟨_,e,c⟩
def ItF.set (x:ItF h I vs) (j:Nat) (v:Value):ItF (h.update I (Obj.mapFields (·.setIfInBounds j v))) I (vs.setIfInBounds j v):=by
 obtain ⟨o,e,c,d⟩:=x;exact ⟨_,TL _ e (Obj.isFreed_of_fields (jbK d _)),(Obj.cls_mapFields ..).trans c,jbK d _⟩
def FI {Q:Option Value->Shared->Prop} (x:ItF s.heap I #[.int slot 0, .int i 0, .ref a, .int es.size 0, .int ep 0]) (ne:a≠I) (u:s.heap.get? a=some oS) (D:SetD prog w oS es ep t) (pl:byT w=true\/(t.plain=true\/es.size<=1)) (st:stT w t i slot) (J:i<es.size)
 (G:∀e g h',(mR w a ep es)[i]? =some e->stT w t (i+1) g->ItF h' I #[.int g 0, .int (i+1:Nat) 0, .ref a, .int es.size 0, .int ep 0]->Heap.SameBut I s.heap h'->Q (some e.2) {s with heap:=h'}):wpAny (model prog w) A (pyNext (.ref I)) Q E s:=by
 have C:=x;obtain ⟨o,go,N,r⟩:=C;unfold pyNext;refine Qc (jaD (QY x.ty ye (Th ye x.ty Zl ?_ (ZK _))));unfold Builtin.«set_iterator.__next__»;refine Qc (Ql ?_);refine Qc (wpAny_fieldsOf go r ?_);dsimp only;refine Qc (jbn u D.data D.fit ?_);rw [QI (by simp)];refine Qc (IP u D pl st (λe g he L=>?_) (λz=>absurd J ⋯));dsimp only;refine Qc (jbh go r (by simp) ?_);have q:=x.set 0 (rawInt (g:Nat));have y:=q.set 1 (rawInt ((i:Int)+1));obtain ⟨M,m,K,p⟩:=q;refine Qc (jbh m p (by simp) ?_);refine Ql ⟨_,rfl,Ql (G e g _ he L ?_ ((Ti ..).trans (Ti ..)))⟩
 simpa [rawInt] using y
def IA {j:Nat} {x:Value} {m:Heap} {Q:Option Value->Shared->Prop} (quiet:A.handled=none) (k:∀h',(∀b o,m.get? b=some o->h'.get? b=some o)->Q none {s with heap:=h'}):
 wpAny (model prog w) A.in1 (newExc (.type "StopIteration") []>>=λe=>(raiseNew e:Sem Fin)) (λfin g=>∃v,fin=Fin.done (Flow.ret v)/\wpAny (model prog w) A (pure (some v)) Q E g)
  (λe g=>wpAny (model prog w) A (isInstance e (Value.type "StopIteration")>>=λb=>if b=true then pure none else throw e) Q E g) {s with heap:=m}:=by
 refine Qc ?_;simp only [newExc,newTuple];refine Qc (To (Qc (wpAny_of_eq (by first|rfl|(simp only [firstArgMember];rfl)) (To ?_ (by size_fits)))) (by size_fits));simp only [raiseNew];refine Qc (wpAny_handled ?_);rw [show A.in1.handled=none from quiet];refine' Qc (Ql (wpAny_throw ?told))
 case told=>
  refine' Qc (wpAny_isInstance ⟨_,Qu _ rfl,rfl⟩ isSubtype_stop ?yes)
  case yes=>exact Ql (k _ λb o e=>Qi _ (Qi _ e))
def FJ {Q:Option Value->Shared->Prop} (quiet:A.handled=none) (x:ItF s.heap I #[.int slot 0, .int i 0, .ref a, .int es.size 0, .int ep 0]) (p:s.heap.get? a=some oS) (D:SetD prog w oS es ep t) (pl:byT w=true\/(t.plain=true\/es.size<=1)) (st:stT w t i slot) (u:es.size<=i)
 (k:∀h',(∀b o,b≠I->s.heap.get? b=some o->h'.get? b=some o)->Q none {s with heap:=h'}):wpAny (model prog w) A (pyNext (.ref I)) Q E s:=by
 have g:(mR w a ep es).size=es.size:=by
  have:=(UD w a ep es).length_eq
  simpa using this
 have q:=x;obtain ⟨o,go,y,m⟩:=q;unfold pyNext;refine Qc (jaD (QY (name:=Str.ofString "__next__") x.ty ye (Th ye x.ty Zl ?_ (ZK _))));unfold Builtin.«set_iterator.__next__»;refine Qc (Ql (Qc (wpAny_fieldsOf go m ?_)));dsimp only;refine Qc (jbn p D.data D.fit ?_);rw [QI (by simp)];refine Qc (IP p D pl st (λe G he C=>?_) (λ_=>?_))
 ·have:=(jaj.mp he).1
  exact absurd this (by have z:(mR w a ep es).size=es.size:=g
                        show ¬i<(mR w a ep es).size
                        lia)
 dsimp only;refine Qc (jbh go m (by simp) ?_);exact IA (j:=0) (x:= .none) quiet λh' keep=>k h' λb o r e=>keep b o ((Ti s.heap I _).extBut b o r e)
def tP {vs:Array Value} {Q:Value->Shared->Prop} (x:ItF s.heap I vs) (k:Q (.ref I) s):wpAny (model prog w) A (pyIter (.ref I)) Q E s:=by
 refine wpAny_pyIter_slot x.ty Us (Th Us x.ty iH (show wpAny _ _ (ret (.ref I)) _ _ s from ?_) (mG _));exact Ql ⟨_,rfl,"set_iterator",_,x.ty,ye.lookup,k⟩
def Bz {g:Addr} {pls:List Nat} {q:Obj} {C p:Nat} {e:Int×Value} {Q:Option Value->Shared->Prop} (x:ItF s.heap I #[.ref g, .int i 0, .ref a, .int es.size 0, .int ep 0]) (gt:s.heap.get? g=some q) (m:q.data= .seq (pls.map λ(p:Nat)=>rawInt p).toArray C)
 (u:s.heap.get? a=some oS) (D:SetD prog w oS es ep t) (hp:pls[i]? =some p) (he:es[p]? =some e)
 (G:∀h',ItF h' I #[.ref g, .int (i+1:Nat) 0, .ref a, .int es.size 0, .int ep 0]->Heap.SameBut I s.heap h'->Q (some e.2) {s with heap:=h'}):wpAny (model prog w) A (pyNext (.ref I)) Q E s:=by
 have z:=x;obtain ⟨o,go,K,r⟩:=z;unfold pyNext;refine Qc (jaD (QY x.ty ye (Th ye x.ty Zl ?_ (ZK _))));unfold Builtin.«set_iterator.__next__»;refine Qc (Ql (Qc (wpAny_fieldsOf go r ?_)));dsimp only;refine Qc (jbn u D.data D.fit ?_);rw [QI (by simp)];refine Qc (show wpAny _ _ (load g>>=_) _ _ s from Qc (wpAny_load gt ?_));rw [m];refine Ql ?_;dsimp only
 have J:(pls.map λ(p:Nat)=>rawInt p).toArray[(i:Int).toNat]? =some (rawInt p):=by
  rw [Tp,List.getElem?_toArray,Qh,hp];rfl
 rw [J];show wpAny _ _ (setNextDrawn a (p:Int).toNat (ep:Int).toNat>>=_) _ _ s;refine Qc ?_;unfold setNextDrawn;refine Qc (jbC u D.data D.fit ?_);dsimp only;rw [Tp,Tp,QI (by simp),he];refine Qc (Ql (Ql ?_));refine Qc (jbh go r (by simp) ?_);have y:=x.set 1 (rawInt ((i:Int)+1));refine Ql ⟨_,rfl,Ql (G _ ?_ (Ti ..))⟩
 simpa [rawInt] using y
def BA {g:Addr} {pls:List Nat} {u:Obj} {G:Nat} {Q:Option Value->Shared->Prop} (quiet:A.handled=none) (x:ItF s.heap I #[.ref g, .int i 0, .ref a, .int es.size 0, .int ep 0]) (gt:s.heap.get? g=some u) (m:u.data= .seq (pls.map λ(p:Nat)=>rawInt p).toArray G)
 (M:s.heap.get? a=some oS) (D:SetD prog w oS es ep t) (hp:pls.length<=i)
 (k:∀h',(∀b o,b≠I->s.heap.get? b=some o->h'.get? b=some o)->Q none {s with heap:=h'}):wpAny (model prog w) A (pyNext (.ref I)) Q E s:=by
 have C:=x;obtain ⟨o,go,O,y⟩:=C;unfold pyNext;refine Qc (jaD (QY (name:=Str.ofString "__next__") x.ty ye (Th ye x.ty Zl ?_ (ZK _))));unfold Builtin.«set_iterator.__next__»;refine Qc (Ql (Qc (wpAny_fieldsOf go y ?_)));dsimp only;refine Qc (jbn M D.data D.fit ?_);rw [QI (by simp)];refine Qc (show wpAny _ _ (load g>>=_) _ _ s from Qc (wpAny_load gt ?_));rw [m];refine Ql ?_;dsimp only
 have L:(pls.map λ(p:Nat)=>rawInt p).toArray[(i:Int).toNat]? =none:=by
  rw [Tp,List.getElem?_toArray,Qh,QC hp];rfl
 rw [L];dsimp only;refine Qc (jbh go y (by simp) ?_);have z:=x.set 0 (rawInt 0);obtain ⟨N,q,K,r⟩:=z;refine Qc (jbh q r (by simp) ?_);exact IA (j:=0) (x:= .none) quiet λh' keep=>k h' λb o J e=>keep b o (((Ti s.heap I _).trans (Ti _ I _)).extBut b o J e)
end
section
def ItF.at (x:ItF h I vs) (k:∀o,h.get? I=some o->h'.get? I=some o):ItF h' I vs:=by
 obtain ⟨o,e,r⟩:=x;exact ⟨o,k o e,r⟩
def AV (quiet:A.handled=none) (ne:a≠I) (D:SetD prog w oS es ep t) (pl:byT w=true\/(t.plain=true\/es.size<=1)):
 Walks prog w A I [I,a] [I] es.size (λi v=>∃e,(mR w a ep es)[i]? =some e/\v=e.2) (λi h=>(∃slot,stT w t i slot/\ItF h I #[.int (slot:Nat) 0, .int (i:Nat) 0, .ref a, .int es.size 0, .int ep 0])/\h.get? a=some oS) where
 sub:=λb p=>by rw [Qp.mp p];exact Qg
 frame:=λi h h' st keep=>⟨let ⟨sl,m,g⟩:=st.1;⟨sl,m,g.at λo e=>keep I Qg o e⟩,keep a (by simp) _ st.2⟩
 item:=λi s Q E r st k=>by
  obtain ⟨⟨sl,m,g⟩,q⟩:=st;refine FI g ne q D pl m r λe y h' he u x sb=>?_;exact k e.2 h' s.toks ⟨e,he,rfl⟩ ⟨⟨y,u,x⟩,sb.extBut a _ ne q⟩ λb o p e=>sb.extBut b o (λz=>p (by rw [z];exact Qp.mpr rfl)) e
 done:=λs Q E st k=>by
  obtain ⟨⟨sl,m,g⟩,q⟩:=st;exact FJ quiet g q D pl m (Qs _) λh' keep=>k h' s.toks λb o p e=>keep b o (λz=>p (by rw [z];exact Qp.mpr rfl)) e
 self:=λi s Q E st k=>let ⟨sl,m,g⟩:=st.1;tP g k
def qf {g:Addr} {pls:List Nat} {r:Obj} {G:Nat} (quiet:A.handled=none) (ne:a≠I) (ne2:g≠I) (D:SetD prog w oS es ep t) (q:r.data= .seq (pls.map λ(p:Nat)=>rawInt p).toArray G) (hp:∀p∈pls,p<es.size):
 Walks prog w A I [I,a,g] [I] pls.length (λi v=>∃p e,pls[i]? =some p/\es[p]? =some e/\v=e.2) (λi h=>ItF h I #[.ref g, .int (i:Nat) 0, .ref a, .int es.size 0, .int ep 0]/\h.get? a=some oS/\h.get? g=some r) where
 sub:=λb m=>by rw [Qp.mp m];exact Qg
 frame:=λi h h' st keep=>⟨st.1.at λo e=>keep I Qg o e,keep a (by simp) _ st.2.1,keep g (by simp) _ st.2.2⟩
 item:=λi s Q E u st k=>by
  have C:=Qa u;have lt:=hp _ (Ta u);have y:es[pls[i]]? =some es[pls[i]]:=by simp [lt]
  refine Bz st.1 st.2.2 q st.2.1 D C y λh' x sb=>?_;exact k _ h' s.toks ⟨_,_,C,y,rfl⟩ ⟨x,sb.extBut a _ ne st.2.1,sb.extBut g _ ne2 st.2.2⟩ λb o m e=>sb.extBut b o (λz=>m (by rw [z];exact Qp.mpr rfl)) e
 done:=λs Q E st k=>BA quiet st.1 st.2.2 q st.2.1 D (Qs _) λh' keep=>k h' s.toks λb o m e=>keep b o (λz=>m (by rw [z];exact Qp.mpr rfl)) e
 self:=λi s Q E st k=>tP st.1 k
def WalkOk (prog:Program) (w:World) (h:Heap) (I a:Addr) (lo:Nat) (ns:List Int):Prop:=
 ∃(g:List Addr) (n:Nat) (P:Nat->Value->Prop) (St:Nat->Heap->Prop) (os:List Int),St 0 h/\I∈g/\(∀b∈g,b<h.objs.size/\(b=a\/lo<=b))/\n=os.length/\os.Perm ns/\(∀i v,P i v->∃tk k,os[i]? =some k/\v= .int k tk)/\∀m:Around,m.handled=none->Walks prog w m I g [I] n P St
def uJ (D:SetD prog w oS es ep t) (he:e∈es.toList):∃tk,e.2= .int (UZ e.2) tk:=by
 obtain ⟨⟨k,g,_⟩,_⟩:=D.elems e he;obtain ⟨tk,h⟩:=Value.isInt_shape g;exact ⟨tk,by rw [h];rfl⟩
def Cu {α β:Type} (g:α->β) (d:α) (l:List α):(List.range l.length).map (λi=>g (l.getD i d))=l.map g:=by
 apply Tx
 ·simp
 ·intro i m p;simp at m;simp [m]
def iter_T {ns:List Int} {Q:Value->Shared->Prop} (T:iQ prog w s.heap a (AI w) ns) (few:ns.length<1000)
 (k:∀(h':Heap) (d) (I:Addr),(∀b o,s.heap.get? b=some o->h'.get? b=some o)->s.heap.objs.size<=I->I<h'.objs.size->h'.objs.size<=s.heap.objs.size+2->WalkOk prog w h' I a s.heap.objs.size ns->Q (.ref I) {s with heap:=h',drawn:=d}):
 wpAny (model prog w) A (pyIter (.ref a)) Q E s:=by
 obtain ⟨o,es,ep,t,⟨u,ex,data⟩,elems,⟨fit,good⟩,rfl,nd⟩:=T;have D:SetD prog w o es ep t:=⟨ex,data,elems,fit,good⟩;have ty:s.TypeIs (.ref a) "set":=⟨_,u,ex.1⟩;have C:a<s.heap.objs.size:=Qt u;refine wpAny_pyIter_slot ty F.slot_set_iter (Th F.slot_set_iter ty iI ?_ (F.args_set_iter_1 _));unfold Builtin.«frozenset.__iter__» Builtin.Frozenset.slot0 Builtin.Frozenset.sizeOf;refine Qc (Qc (Ql (show wpAny _ _ (pure a) _ _ s from Ql ?_)));refine Qc (Qc (jbn u data fit (Ql ?_)));unfold setDrawn;refine Qc (Qc (jbC u data fit ?_));dsimp only;refine Qc (si (Ql ?_));have vals:∀l:List (Int×Value),l.Perm es.toList->(l.map λe=>UZ e.2).Perm (es.toList.map λe=>UZ e.2):=λl p=>p.map _;have O:es.size<1000:=by simpa using few
 split
 ·refine Qc (Jb es.size (List.range es.size) _ _ jah λd ys hp=>?_);have ly:ys.length=es.size:=by rw [hp.length_eq,jah]
  simp only [newTuple]
  refine Qc (To ?_ (by
   show (List.map _ ys).toArray.size<=sizeLine
   rw [sizeLine_eq,QJ,Qb];lia))
  dsimp only;have g1:(s.heap.push {cls:= .type "tuple",data:= .seq (ys.map λ(p:Nat)=>rawInt p).toArray}).get? a=some o:=Qi _ u;have gt:(s.heap.push {cls:= .type "tuple",data:= .seq (ys.map λ(p:Nat)=>rawInt p).toArray}).get? s.heap.objs.size=some {cls:= .type "tuple",data:= .seq (ys.map λ(p:Nat)=>rawInt p).toArray}:=Qu _ rfl;have m:(s.heap.push {cls:= .type "tuple",data:= .seq (ys.map λ(p:Nat)=>rawInt p).toArray}).objs.size=s.heap.objs.size+1:=QS ..;generalize X:s.heap.push {cls:= .type "tuple",data:= .seq (ys.map λ(p:Nat)=>rawInt p).toArray}=r at g1 gt m⊢;have P:∀b o,s.heap.get? b=some o->r.get? b=some o:=λb o e=>by rw [<-X];exact Qi _ e
  refine Qc (wpAny_setEpoch_of g1 data fit ?_);simp only [newFields];refine Qc (To (Ql ⟨_,rfl,"set_iterator",_,⟨_,Qu _ rfl,rfl⟩,ye.lookup,?_⟩));refine k _ d _ (λb o e=>Qi _ (P b o e)) (by show _<=r.objs.size;rw [m];exact jal _) (by rw [QS];exact Te _) (by rw [QS,m];exact Qs _) ?_;have L:a≠r.objs.size:=by rw [m];exact QO (TK C)
  have K:s.heap.objs.size≠r.objs.size:=by rw [m];exact QO (Te _)
  have Z:∀p∈ys,p<es.size:=λp NQ=>by
   have:=hp.mem_iff.mp NQ;exact jbg.mp this
  refine ⟨[r.objs.size,a,s.heap.objs.size],ys.length,_,_,ys.map λp=>UZ (es.toList.getD p (0, .none)).2,⟨⟨_,Qu _ rfl,rfl,rfl⟩,Qi _ g1,Qi _ gt⟩,Qg,λb g=>?_,(Qb ..).symm,?_,λi v M=>?_,λA' q=>qf q L K D rfl Z⟩
  ·rw [QS]
   rcases Qn.mp g with z|g
   ·rw [z];exact ⟨Te _, .inr (by rw [m];exact jal _)⟩
   rcases Qn.mp g with z|g
   ·rw [z,m];exact ⟨TK (TK C), .inl rfl⟩
   ·rw [Qp.mp g,m];exact ⟨TK (Te _), .inr (Qs _)⟩
  ·have N:=hp.map λp=>UZ (es.toList.getD p (0, .none)).2;have e:=Cu (λe:Int×Value=>UZ e.2) (0, .none) es.toList;rw [TY] at e;rw [e] at N;exact N
  ·obtain ⟨p,e,Y,y,rfl⟩:=M;have me:e∈es.toList:=Qd ‹y›;obtain ⟨tk,ht⟩:=uJ D me;refine ⟨tk,UZ e.2,?_,ht⟩;have U:es.toList.getD p (0, .none)=e:=by rw [Qq,Array.getElem?_toList,y];rfl
   rw [Qh,Y];show some (UZ (es.toList.getD p (0, .none)).2)=_;rw [U]
 ·rename_i z
  have pl:byT w=true\/(t.plain=true\/es.size<=1):=by
   have G:¬(!byT w && (!t.plain && decide (es.size>1)))=true:=z
   cases r:byT w with
   |true=>exact .inl rfl
   |false=>
    cases h2:t.plain with
    |true=>exact .inr (.inl rfl)
    |false=>
     right;right
     rw [r,h2] at G;simp at G;exact G
  refine Qc (Ql (Qc (wpAny_setEpoch_of u data fit ?_)));simp only [newFields];refine Qc (To (Ql ⟨_,rfl,"set_iterator",_,⟨_,Qu _ rfl,rfl⟩,ye.lookup,?_⟩));refine k _ s.drawn _ (λb o e=>Qi _ e) (Qs _) (by rw [QS];exact Te _) (by rw [QS];exact jal _) ?_
  have J:(mR w a ep es).size=es.size:=by
   have:=(UD w a ep es).length_eq
   simpa using this
  refine ⟨[s.heap.objs.size,a],es.size,_,_,(mR w a ep es).toList.map λe=>UZ e.2,⟨⟨0,Or.inr (Ap good.1),_,Qu _ rfl,rfl,rfl⟩,Qi _ u⟩,Qg,λb g=>?_,by rw [Qb,TY,J],vals _ (UD w a ep es),λi v M=>?_,λA' q=>AV q (QO C) D pl⟩
  ·rw [QS]
   rcases Qn.mp g with z|g
   ·rw [z];exact ⟨Te _, .inr (Qs _)⟩
   ·rw [Qp.mp g];exact ⟨TK C, .inl rfl⟩
  ·obtain ⟨e,he,rfl⟩:=M;have me:e∈es.toList:=(UD w a ep es).mem_iff.mp (Qd ‹he›);obtain ⟨tk,ht⟩:=uJ D me;refine ⟨tk,UZ e.2,?_,ht⟩;rw [Qh,Array.getElem?_toList,he];rfl
end
section
def hint_T {ns:List Int} {Q:Bool->Shared->Prop} (ty:s.TypeIs (.ref a) "set") (k:Q false s):wpAny (model prog w) A (Builtin.List.listLengthHint (.ref a)) Q E s:=by
 unfold Builtin.List.listLengthHint;refine Qc (wpAny_specialOf ty F.slot_set_len.lookup ?_);dsimp only;rw [show splitId "set.__len__"=some ("set","__len__") by decide+kernel];dsimp only;refine Qc (wpAny_isInstance ty sub_set_self ?_);rw [QI (by simp),QD (by decide+kernel)];exact Qc (wpAny_typeOf ty (Ql k))
theorem DH:∀{vs:List Value} {os:List Int},vs.length=os.length->(∀(j:Nat) (v:Value),vs[j]? =some v->∃tk k,os[j]? =some k/\v=Value.int k tk)->PyProof.Rows.IntsAre vs os
 |[],[],_,_=> .nil
 |v::vs,k::os,hl,h=>by
  obtain ⟨tk,q,g,rfl⟩:=h 0 v rfl;cases g
  exact .cons k tk (DH ‹hl› λj v m=>by
   obtain ⟨tk,k,g,p⟩:=h (j+1) v ‹m›
   exact ⟨tk,k,by simpa using g,p⟩)
 |[],_::_,h,_=>by simp at h
 |_::_,[],h,_=>by simp at h
def Et {ns:List Int} {Q:List Value->Shared->Prop} (quiet:A.handled=none) (T:iQ prog w s.heap a (AI w) ns) (few:ns.length<1000)
 (k:∀(h':Heap) (d) (tk:Nat) (vs:List Value) (os:List Int),(∀b o,s.heap.get? b=some o->h'.get? b=some o)->s.heap.objs.size<h'.objs.size->PyProof.Rows.IntsAre vs os->os.Perm ns->Q vs {s with heap:=h',drawn:=d,toks:=tk}):wpAny (model prog w) A (collect (.ref a)) Q E s:=by
 have la:a<s.heap.objs.size:=let ⟨_,_,_,_,⟨g,_⟩,_⟩:=T;Qt g
 unfold collect;refine Qc (wpAny_runValue (jaY PySem.F.entry_proto_collect ?_));rw [jax PySem.F.plain_proto_collect _];show wpAny _ A.in1 (newList []>>=λl=>again (.builtin "list.__iadd__" ⟨[l, .ref a],[]⟩)) _ _ s;refine Qc (To (Ql ⟨plainId_quiet PySem.F.plain_list_iadd _,jaY PySem.F.entry_list_iadd ?_⟩));rw [jax PySem.F.plain_list_iadd _];show wpAny _ A.in1 (Builtin.List.listExtendWith (.ref s.heap.objs.size) (.ref a) (.ref s.heap.objs.size)) _ _ _;unfold Builtin.List.listExtendWith;generalize O:s.heap.push {cls:= .type "list",data:= .seq ([]:List Value).toArray}=p;have g1:p.get? s.heap.objs.size=some {cls:= .type "list",data:= .seq ([]:List Value).toArray}:=by rw [<-O];exact Qu _ rfl
 have Z:p.objs.size=s.heap.objs.size+1:=by rw [<-O];exact QS ..
 have X:∀b o,s.heap.get? b=some o->p.get? b=some o:=λb o e=>by rw [<-O];exact Qi _ e
 have N:iQ prog w p a (AI w) ns:=T.kept λo e=>X a o e;have y:Shared.TypeIs {s with heap:=p} (.ref a) "set":=let ⟨_,_,_,_,⟨g,x,_⟩,_⟩:=N;⟨_,g,x.1⟩
 have ne:s.heap.objs.size≠a:=jay la;refine Qc (wpAny_typeOf (s:={s with heap:=p}) y ?_);have c1:Builtin.List.listSameRef (.ref s.heap.objs.size) (.ref a)=false:=by unfold Builtin.List.listSameRef;simpa using ne
 rw [c1,show (Value.type "set"==Value.type "list")=false by decide,show (Value.type "set"==Value.type "tuple")=false by decide,QI (by simp)];refine Qc (iter_T (s:={s with heap:=p}) N few λq d I t K hI D W=>?_);dsimp only at t K D;have T2:iQ prog w q a (AI w) ns:=N.kept λo e=>t a o e;have u:Shared.TypeIs {s with heap:=q,drawn:=d} (.ref a) "set":=let ⟨_,_,_,_,⟨g,x,_⟩,_⟩:=T2;⟨_,g,x.1⟩
 refine Qc (jar (hint_T (ns:=ns) (s:={s with heap:=q,drawn:=d}) u ?_));rw [QD (by decide+kernel)];refine Qc (jbO ?_);have g2:=t _ _ g1;have g3:=TL (Obj.mapSeq (·.push Value.none)) g2 rfl;have g4:=TL (Obj.mapSeq (·.pop)) g3 rfl;refine Qc (show wpAny _ A.in1 (updateSeq s.heap.objs.size (·.push .none)>>=λ_=>updateSeq s.heap.objs.size (·.pop)) _ _ _ from Qc (wpAny_updateSeq g2 rfl (wpAny_updateSeq g3 rfl ?_)));obtain ⟨fp,n,P,St,os,G,mI,M,hn,perm,val,Wk⟩:=W
 have out:s.heap.objs.size∉fp:=λz=>by
  rcases (M _ z).2 with e|e
  ·exact ne e
  ·dsimp only at e;rw [Z] at e;exact absurd e (Nat.not_le.mpr (Te _))
 have J:n<=sizeLine:=by
  have:=perm.length_eq;rw [sizeLine_eq];lia
 have oth:∀b o,b≠s.heap.objs.size->q.get? b=some o->((q.update s.heap.objs.size (Obj.mapSeq (·.push Value.none))).update s.heap.objs.size (Obj.mapSeq (·.pop))).get? b=some o:=
  λb o m e=>(Tq _ _ (Ne.symm m)).trans ((Tq _ _ (Ne.symm m)).trans e)
 have WS:=(Wk A.in1 (by simp [quiet])).toS;refine Ql ⟨plainId_quiet PySem.F.plain_extend_loop _,codeAny_extend_loopS WS J _ out _ n 0 _ _ _ rfl (jab _) ((Wk A.in1 (by simp [quiet])).frame 0 q _ G λb m o e=>oth b o (λz=>out (z▸m)) e) g4 (ItemsOf.nil P) λU acc c r Y items=>?_⟩;refine (show wpAny _ A (load s.heap.objs.size>>=_) _ _ U from Qc (wpAny_load Y (Ql ?_)));obtain ⟨h',g',d',C,Rb⟩:=U;have eg:g'=s.gens:=r.gens;have ed:d'=d:=r.drawn;have eo:Rb=s.os:=r.os;subst eg;subst ed;subst eo;refine k h' d' C acc.toList os (λb o e=>?_) (Qt Y) (DH ?_ λj v hv=>?_) perm
 ·have m:b<s.heap.objs.size:=Qt e;refine r.heap b o (λz=>?_) (oth b o (QO m) (t b o (X b o e)))
  rcases Qn.mp z with z|z
  ·exact absurd m (by rw [z];exact jag _)
  ·rw [Qp.mp z] at m;rw [Z] at K;exact absurd m (Nat.not_lt.mpr (QP (jal _) K))
 ·rw [TY,items.1,hn]
 ·obtain ⟨tk,kk,Pb,L⟩:=val j v (items.2 j v ‹hv›);exact ⟨tk,kk,Pb,L⟩
def FG {ns:List Int} {Q:Value->Shared->Prop} (quiet:A.handled=none) (T:iQ prog w s.heap a (AI w) ns) (few:ns.length<64)
 (k:∀(h':Heap) (d) (tk:Nat) (L:Addr) (out:Array Value) (os:List Int) (e:Nat),(∀b o,s.heap.get? b=some o->h'.get? b=some o)->s.heap.objs.size<=L->h'.get? L=some (PyProof.Rows.seqObj "list" out e)->PyProof.Rows.IntsAre out.toList os->os.Perm ns->os.Pairwise (·<=·)->Q (.ref L) {s with heap:=h',drawn:=d,toks:=tk}):
 wpAny (model prog w) A (call (.builtin "sorted") [.ref a]) Q E s:=by
 refine Calls.call_function_entry PyProof.Rows.kind_sorted PyProof.Rows.plain_sorted PyProof.Rows.entry_sorted (PyProof.Rows.args_sorted1 _) ?_;unfold Builtin.«sorted»;refine Qc (m:=checkCount "sorted" 1 1 _) (Ql (Qc (Et (by simp [quiet]) T ⋯ λq d tk vs os keep lt p perm=>Qc (wpAny_newList ?_ (by rw [sizeLine_eq,p.length,perm.length_eq];lia)))));have r:(q.push (PyProof.Rows.seqObj "list" vs.toArray 0)).get? q.objs.size=some (PyProof.Rows.seqObj "list" vs.toArray 0):=Qu _ rfl
 have lv:vs.length<64:=by
  have z:=p.length;have y:=perm.length_eq;lia
 show wpAny _ _ _ _ _ {s with heap:=q.push (PyProof.Rows.seqObj "list" vs.toArray 0),drawn:=d,toks:=tk};refine Qc (jar (Th PyProof.Rows.slot_list_sort ⟨_,r,rfl⟩ PyProof.Rows.entry_list_sort (PyProof.Rows.list_sort_tree (s:={s with heap:=q.push (PyProof.Rows.seqObj "list" vs.toArray 0),drawn:=d,toks:=tk}) r p lv λout u a1 a2 a3=>⟨_,rfl,?_⟩) (PyProof.Rows.args_list_sort _)));obtain ⟨e,he⟩:=PyProof.Rows.sortedHeap_at (out:=out) r;refine Ql ⟨_,rfl,k _ d tk _ out u e (λb o g=>?_) (jbu lt) he a1 (a2.trans perm) a3⟩;have t:b<q.objs.size:=Qt (keep b o g);rw [PyProof.Rows.sortedHeap_old (QO t) (by rw [QS];exact TK t)];exact Qi _ (keep b o g)
end
end S
namespace S
open PySem PySem.Spec PyProof.Rows L2
def iQ.nodup (T:iQ prog w h a b ns):ns.Nodup:=by
 obtain ⟨_,_,_,_,_,_,_,_,nd⟩:=T;exact nd
def bt_set:bootBuiltins "set"=some (.type "set"):=by decide+kernel
def Ao:bootBuiltins "sorted"=some (.builtin "sorted"):=by decide+kernel
theorem le_lt:∀{l:List Int},l.Pairwise (·<=·)->l.Nodup->l.Pairwise (·<·)
 |[],_,_=>List.Pairwise.nil
 |x::l,h,nd=>by
  obtain ⟨q,p⟩:=Qr.mp h;obtain ⟨n1,m⟩:=TV.mp nd;refine Qr.mpr ⟨λy g=>?_,le_lt p m⟩;have:=q y g;have:x≠y:=λe=>n1 (e▸g);lia
section
def Inv.redrawn (I:Inv X pins σ H s):Inv X pins σ H {s with drawn:=d}:=⟨I.ok,I.os,I.bare,I.base,I.loc,I.cell,I.free,I.freeC,I.pin,I.hok,I.len⟩
def Cv (K:Frg):V->Hp->VK->Prop:=λx H1 Q=>∃(p:Addr) (ns:List Int),x= .ref p/\SqL K H1 p (ns.map V.int)/\ns.length<60/\∀(os:List Int) (l:Addr),os.Pairwise (·<·)->(∀k,k∈os↔k∈ns)->H1 l=none->Q (.ref l) (upd H1 l (.lst (os.map V.int)))
def Iu (K:Frg) (g:TE):TE:=λσ H Q=>g σ H λx H1=>Cv K x H1 Q
theorem bU:∀{ns:List Int} {us:List Value},IntsAre us ns->xi (ns.map V.int) us
 |[],_, .nil=> .nil
 |n::ns,_, .cons _ t r=> .cons ⟨t,rfl⟩ (bU r)
def Gi (Y:X.calm=true) (g1:Gl X "sorted") (m1:X.mg "sorted"=none) (g2:Gl X "set") (m2:X.mg "set"=none) (he:PE X e te)
 (D:starEach [.Call (.Name "set" p2) [e] [] q2] X.env=[(false,eval (.Call (.Name "set" p2) [e] [] q2) X.env)]:=by rfl) (G:starEach [e] X.env=[(false,eval e X.env)]:=by rfl):
 PE X (.Call (.Name "sorted" p1) [.Call (.Name "set" p2) [e] [] q2] [] q1) (Iu X.K te):=by
 intro pins s σ H Q I h;refine jan (XU I g1 m1 Ao ?_ nofun nofun);refine PyProof.Rows.callWith_builtin1 ?_ D (by rfl);rw [D];show wpAny _ _ (spliced ((false,eval (.Call (.Name "set" p2) [e] [] q2) X.env)::backTo q1 (starEach [] X.env))) _ _ s;refine Calls.spliced_cons ?_;refine jan (XU I g2 m2 bt_set ?_ nofun nofun);refine Tn (thn ((WG he fc G) q2 pins s σ H (λvs H1=>match vs with|[x]=>Cv X.K x H1 Q|_=>False) I h) ?_) G (by rfl);rintro us s1 ⟨vs,H1,y,t,r⟩
 match vs,t,r with
 |[x],t,r=>
  obtain ⟨p,ns,rfl,P,few,k⟩:=r;obtain ⟨u,rfl,M⟩:=ae t;cases M;obtain ⟨its,N,pl,_⟩:=y.list P;have z:=Ve N;have hl:=z.length;have quiet:=y.ok.hd Y;refine Am quiet pl.isList ‹z› (by simpa using (by lia:its.length<900)) λC q T A O U Sb=>?_;refine Calls.spliced_nil ?_;have RG:∀b o,s1.heap.get? b=some o->C.get? b=some o:=λb o e=>Sb b o (Qt e) e;have J:Inv X pins σ H1 {s1 with heap:=C,toks:=q}:=y.kept RG;refine FG quiet A ⋯ λZ d m L out os e RZ le gL g perm sorted=>?_;have I3:=Inv.redrawn (d:=d) J;have nd:os.Nodup:=perm.nodup_iff.mpr A.nodup;have lo:=g.length;have po:=perm.length_eq;have I4:Inv X pins σ (upd H1 L (.lst (os.map V.int))) {s1 with heap:=Z,drawn:=d,toks:=m}:=I3.laid RZ le (show Yg X.prog X.w _ _ _ (.lst (os.map V.int)) from ⟨?_,out.toList,e,bU g,?_⟩)
  ·exact ⟨.ref L,_,I4,rfl,k os L (le_lt sorted nd) (λx=>by rw [perm.mem_iff];exact O x) (J.hok.fresh le)⟩
  ·rw [Qb,sizeLine_eq];lia
  ·simpa using gL
end
section
def rMinT (K:Frg):List V->Hp->VK->Prop:=λxs H Q=>∃(p:Addr) (ns:List Int),xs=[.ref p]/\SqT K H p (ns.map V.int)/\0<ns.length/\∀m,m∈ns->(∀x∈ns,m<=x)->Q (.int m) H
def Kv (K:Frg):List V->Hp->VK->Prop:=λxs H Q=>∃(p:Addr) (ns:List Int),xs=[.ref p]/\SqL K H p (ns.map V.int)/\0<ns.length/\∀m,m∈ns->(∀x∈ns,x<=m)->Q (.int m) H
def di (m:IntsAre its ns):∀(i:Nat) (v:Value),its.toArray[i]? =some v->∃t,v= .int ((λi=>ns.getD i 0) i) t:=λi v g=>PyProof.Rows.IntsAre.int_at m i v ‹g›
def Ew (N:X.calm=true):Wi X (.builtin "min") (rMinT X.K):=by
 intro pins s σ H xs us Q I r h;obtain ⟨p,ns,rfl,G,Y,q⟩:=h;obtain ⟨u,rfl,y⟩:=ae r;cases y;obtain ⟨its,C,ht,U⟩:=I.tuple G;have m:=Ve C;have J:=m.length;have below:p≠s.heap.objs.size:=let ⟨_,e,_⟩:=ht;QO (Qt e)
 refine call_min_walk (jam ht ⟨_,_,_,_,_,_,_,rfl,Walks.tuple (A:=X.A.in1) (I.ok.hd N) _ p below its.toArray,⟨⟨_,Qu _ rfl,rfl,rfl⟩,ht.push _⟩,λb O=>?_,by simpa using (by lia:0<its.length),CmpOf.ints_lt (λi=>ns.getD i 0) (di m),λv h' tk P L=>?_⟩)
 ·rw [QS]
  rcases Qn.mp O with z|z
  ·rw [z];exact Te _
  ·rw [Qp.mp z];obtain ⟨_,e,_⟩:=ht;exact TK (Qt e)
 ·obtain ⟨t,rfl⟩:=di m _ v P;obtain ⟨T,w⟩:=argBest_lt (λi=>ns.getD i 0) (its.toArray.size - 1);have g:its.toArray.size=ns.length:=by simpa using J
  rw [g] at T w;rw [g];refine ⟨.int _,H,I.kept λb o e=>L b o (λz=>?_) (Qi _ e),⟨t,rfl⟩,q _ ?_ λx D=>?_⟩
  ·rw [Qp.mp z] at e;exact absurd (Qt e) (jag _)
  ·dsimp only;rw [Qq,Qa ⋯];exact Ta _
  ·obtain ⟨j,M,rfl⟩:=QK D;have:=w j ⋯;rwa [show ns.getD j 0=ns[j] by rw [Qq,Qa M];rfl] at this
def call_maxL (N:X.calm=true):Wi X (.builtin "max") (Kv X.K):=by
 intro pins s σ H xs us Q I r h;obtain ⟨p,ns,rfl,G,Y,q⟩:=h;obtain ⟨u,rfl,y⟩:=ae r;cases y;obtain ⟨its,C,pl,U⟩:=I.list G;have ht:=pl.isList;have m:=Ve C;have J:=m.length;have below:p≠s.heap.objs.size:=let ⟨_,e,_⟩:=ht;QO (Qt e)
 refine call_max_walk (jaT ht ⟨_,_,_,_,_,_,_,rfl,Walks.list (A:=X.A.in1) (I.ok.hd N) _ p below its.toArray,⟨⟨_,Qu _ rfl,rfl,rfl⟩,ht.push _⟩,λb O=>?_,by simpa using (by lia:0<its.length),CmpOf.ints_gt (λi=>ns.getD i 0) (di m),λv h' tk P L=>?_⟩)
 ·rw [QS]
  rcases Qn.mp O with z|z
  ·rw [z];exact Te _
  ·rw [Qp.mp z];obtain ⟨_,e,_⟩:=ht;exact TK (Qt e)
 ·obtain ⟨t,rfl⟩:=di m _ v P;obtain ⟨T,w⟩:=argBest_gt (λi=>ns.getD i 0) (its.toArray.size - 1);have g:its.toArray.size=ns.length:=by simpa using J
  rw [g] at T w;rw [g];refine ⟨.int _,H,I.kept λb o e=>L b o (λz=>?_) (Qi _ e),⟨t,rfl⟩,q _ ?_ λx D=>?_⟩
  ·rw [Qp.mp z] at e;exact absurd (Qt e) (jag _)
  ·dsimp only;rw [Qq,Qa ⋯];exact Ta _
  ·obtain ⟨j,M,rfl⟩:=QK D;have:=w j ⋯;rwa [show ns.getD j 0=ns[j] by rw [Qq,Qa M];rfl] at this
end
def bW (z:a.1<b.1) (lk:k.2.length=m) (D:a.2.length=m) (t:zL k a b) (s:zL a b c):zL k b c:=λi K B C g p r=>by
 have G:i<m:=by rw [<-lk];exact (Qf.mp g).1
 have q:=Qa (l:=a.2) (i:=i) ⋯;have J:=t i K _ B g q p;have I:=s i _ B C q p r;generalize a.2[i]=A at*;have y:(B - K)*(b.1 - a.1)=(B - A)*(b.1 - k.1):=by grind
 have w:(C - K)*(b.1 - a.1)=(B - A)*(c.1 - k.1):=by grind
 have u:((B - K)*(c.1 - k.1) - (C - K)*(b.1 - k.1))*(b.1 - a.1)=0:=by
  have:((B - K)*(c.1 - k.1) - (C - K)*(b.1 - k.1))*(b.1 - a.1)=((B - K)*(b.1 - a.1))*(c.1 - k.1) - ((C - K)*(b.1 - a.1))*(b.1 - k.1):=by grind
  rw [this,y,w];grind
 have:=yy u (XO z)
 grind
def dk (lc:c.2.length=m) (ld:d.2.length=m):(Wj c d e).length=m:=by
 unfold Wj;rw [Qy,lc,ld];exact Tv _
def qZ (J:a.1<b.1) (D:b.1<c.1) (t:a.2.length=m) (L:b.2.length=m) (lc:c.2.length=m) (st:zL a b c) (T:a.1<=e):zg (a::b::c::r) e=zg (a::c::r) e:=by
 have u:=Yr J D
 by_cases I:e<b.1
 ·rw [zg,QD I,zg,QD (Yr I D)];refine (fW u (by rw [t,lc]) (by rw [t,dk t L]) λi p q z hp A G=>?_).symm;obtain ⟨X,g,N,K,ez⟩:=UN G;rw [hp] at N;cases N;have w:=ZZ (x:=p) (y:=g) (E:=e) J;rw [<-ez] at w;have s:=st i p g q hp K A
  have:((z - p)*(c.1 - a.1) - (q - p)*(e - a.1))*(b.1 - a.1)=0:=by
   have:((z - p)*(c.1 - a.1) - (q - p)*(e - a.1))*(b.1 - a.1)=((z - p)*(b.1 - a.1))*(c.1 - a.1) - ((q - p)*(b.1 - a.1))*(e - a.1):=by grind
   rw [this,w,<-s];grind
  have:=yy this (XO J)
  grind
 ·rw [yB (TX.mp I)]
  by_cases C:e<c.1
  ·rw [zg,QD C,zg,QD C];refine (fW u (by rw [t,lc]) (by rw [t,dk L lc]) λi p q z hp A G=>?_).symm;obtain ⟨g,U,K,M,ez⟩:=UN G;rw [A] at M;cases M;have w:=ZZ (x:=g) (y:=q) (E:=e) D;rw [<-ez] at w;have s:=st i p g q hp K A;have s1:(g - p)*(c.1 - b.1)=(q - g)*(b.1 - a.1):=by grind
   have:((z - p)*(c.1 - a.1) - (q - p)*(e - a.1))*(c.1 - b.1)=0:=by
    have P:(z - p)*(c.1 - b.1)=(e - b.1)*(q - g)+(g - p)*(c.1 - b.1):=by grind
    have O:((z - p)*(c.1 - a.1) - (q - p)*(e - a.1))*(c.1 - b.1)=((z - p)*(c.1 - b.1))*(c.1 - a.1) - (q - p)*(e - a.1)*(c.1 - b.1):=by grind
    rw [O,P,s1]
    grind
   have:=yy this (XO D)
   grind
  ·rw [yB (TX.mp C),yB (TX.mp C)]
theorem aS:∀(r:List zi) (k a b:zi),yG (k::b::r)->(∀x∈k::b::r,x.2.length=m)->k.1<=e->(a=k\/(k.1<a.1/\a.1<b.1/\a.2.length=m/\zL k a b))->
 zg (k::yc a (b::r)) e=zg (k::b::r) e
 |[],k,a,b,_,_,_,_=>by rw [yc]
 |c::r,k,a,b,hr,hl,hk,ha=>by
  obtain ⟨t,s⟩:=Qr.mp hr;obtain ⟨C,A⟩:=Qr.mp s;have u:=t b (Qg ..);have w:=C c (Qg ..);have lk:=hl k (Qg ..);have q:=hl b (Qe _ (Qg ..));have lc:=hl c (Qe _ (Qe _ (Qg ..)));rw [yc]
  split
  ·rename_i st
   have y:zL k b c:=by
    rcases ha with rfl|⟨_,D,z,s0⟩
    ·exact st
    ·exact bW D lk z s0 st
   have rk:yG (k::c::r):=Qr.mpr ⟨λx g=>t x (Qe _ g),A⟩
   rw [aS r k b c rk (λx g=>hl x (by
    rcases Qn.mp g with rfl|g
    ·exact Qg ..
    ·exact Qe _ (Qe _ g))) hk (.inr ⟨u,w,q,y⟩),qZ u w lk q lc y hk]
  ·by_cases p:e<b.1
   ·rw [zg,QD p,zg,QD p]
   ·rw [yB (TX.mp p),yB (TX.mp p)];exact aS r b b c s (λx g=>hl x (Qe _ g)) (TX.mp p) (.inl rfl)
def lS (hr:yG (c::r)) (g:∀x∈c::r,x.2.length=m) (p:c.1<=e):zg (yi (c::r)) e=zg (c::r) e:=by
 rw [yi]
 cases r with
 |nil=>rw [yc]
 |cons b r=>exact aS r c c b hr g p (.inl rfl)
theorem WE:∀{c:zi} {r:List zi},c.1<=e->e<(lastC (c::r)).1->zg (c::r++M) e=zg (c::r) e
 |c,[],hc,he=>absurd he (TX.mpr hc)
 |c,d::r,hc,he=>by
  rw [jaL,jaL,zg,zg]
  by_cases h:e<d.1
  ·rw [QD h,QD h]
  ·rw [QI h,QI h];rw [aR] at he;exact WE (TX.mp h) he
theorem ZC:∀{c:zi} {r:List zi},yG (c::r)->(lastC (c::r)).1<=e->zg (c::r++M) e=zg (lastC (c::r)::M) e
 |c,[],_,_=>rfl
 |c,d::r,hr,he=>by
  have g:=(Qr.mp hr).2;rw [aR] at he⊢
  have hd:d.1<=e:=by
   refine jbT ?_ he
   have m:lastC (d::r)∈d::r:=by
    unfold lastC;rw [Tr (by simp)];exact List.getLast_mem _
   rcases Qn.mp m with z|z
   ·rw [z];exact Tg
   ·exact QQ ((Qr.mp g).1 _ z)
  rw [jaL,jaL,yB hd];exact ZC g he
def Ez (lc:c.2.length=m) (g:q.2.length=m) (ld:d.2.length=m):Wj (Vq c q) (Vq c d) e=List.zipWith (·+·) c.2 (Wj q d (e - c.1)):=by
 have et:(e - (Vq c q).1) / ((Vq c d).1 - (Vq c q).1)=(e - c.1 - q.1) / (d.1 - q.1):=by
  show (e - (c.1+q.1)) / ((c.1+d.1) - (c.1+q.1))=_;rw [show e - (c.1+q.1)=e - c.1 - q.1 by grind,show c.1+d.1 - (c.1+q.1)=d.1 - q.1 by grind]
 unfold Wj;rw [et];generalize (e - c.1 - q.1) / (d.1 - q.1)=t;show List.zipWith (Ya t) (List.zipWith (·+·) c.2 q.2) (List.zipWith (·+·) c.2 d.2)=_
 apply Tx
 ·simp only [Qy];lia
 ·intro i r p;simp only [QV];unfold Ya
  grind
theorem eY (lc:c.2.length=m):∀{q:zi} {r:List zi},(∀x∈q::r,x.2.length=m)->zg ((q::r).map (Vq c)) e=List.zipWith (·+·) c.2 (zg (q::r) (e - c.1))
 |q,[],_=>rfl
 |q,d::r,h=>by
  rw [Qj,Qj,zg,zg]
  have hd:e<(Vq c d).1↔e - c.1<d.1:=by
   show e<c.1+d.1↔_
   constructor<;>intro h<;>grind
  by_cases g:e - c.1<d.1
  ·rw [QD g,QD (hd.mpr g)];exact Ez lc (h q (Qg ..)) (h d (Qe _ (Qg ..)))
  ·rw [QI g,QI λz=>g (hd.mp z)];have:=eY (e:=e) lc (q:=d) (r:=r) λx p=>h x (Qe _ p);rw [Qj] at this;exact this
def El {a b p:Rat} (hp:0<p):a<b*p↔a / p<b:=by
 have m:p≠0:=λz=>by rw [z] at hp;exact jaP hp
 have g:a=a / p*p:=by rw [jac,Rat.mul_assoc,Rat.inv_mul_cancel _ m,Rat.mul_one]
 constructor
 ·intro h;refine jbp.mp λhle=>?_;have:=Rat.mul_le_mul_of_nonneg_right hle (QQ hp);rw [<-g] at this;exact TX.mpr this h
 ·intro h;have:=Rat.mul_lt_mul_of_pos_right h hp;rwa [<-g] at this
theorem WD {p e:Rat} (hp:0<p):∀{a:List zi},zg (zO p a) e=(zg a (e / p)).map (·*p)
 |[]=>rfl
 |[c]=>rfl
 |c::d::r=>by
  have g:=WD (e:=e) hp (a:=d::r);unfold zO at*;rw [Qj,Qj,zg,zg]
  by_cases h:e / p<d.1
  ·rw [QD h,QD ((El hp).mpr h)];have m:p≠0:=λz=>by rw [z] at hp;exact jaP hp
   have et:(e - c.1*p) / (d.1*p - c.1*p)=(e / p - c.1) / (d.1 - c.1):=by
    have A:=Tw p m
    have s:e - c.1*p=(e / p - c.1)*p:=by
     rw [jac];generalize p⁻¹=j at*;grind
    have q:d.1*p - c.1*p=(d.1 - c.1)*p:=by grind
    rw [s,q]
    by_cases z:d.1 - c.1=0
    ·rw [z,jbJ,jac,Rat.inv_zero,Rat.mul_zero,jac,Rat.inv_zero,Rat.mul_zero]
    ·have z2:(d.1 - c.1)*p≠0:=λh=>z (yy h m);have y:=Tw _ z;have w:=Tw _ z2;rw [jac,jac ((e / p - c.1))];generalize (d.1 - c.1)⁻¹=j at*;generalize ((d.1 - c.1)*p)⁻¹=l at*;generalize e / p - c.1=u at*;generalize d.1 - c.1=v at*;have:u*p*l=u*p*l*(v*j):=by rw [y,Rat.mul_one]
     rw [this];have:u*p*l*(v*j)=u*j*(v*p*l):=by grind
     rw [this,w,Rat.mul_one]
   unfold Wj;dsimp only;rw [et];generalize (e / p - c.1) / (d.1 - c.1)=t
   apply Tx
   ·simp
   ·intro i D C;simp only [QV,jaz];unfold Ya
    grind
  ·rw [QI h,QI λz=>h ((El hp).mp z)];rw [Qj] at g;exact g
def mn (a l:Rat):Rat:=if a<=l then a else l
def IQ (a l:Int):((min a l:Int):Rat)=mn (a:Rat) (l:Rat):=by
 unfold mn
 by_cases h:a<=l
 ·rw [QD (QH.mpr h),Int.min_eq_left h]
 ·rw [QI λz=>h (QH.mp z),Int.min_eq_right ⋯]
def mn_mix (t0:0<=t) (t1:t<=1) (h:(a<=x/\a<=y)\/(x<=a/\y<=a)):Ya t (mn a x) (mn a y)=mn a (Ya t x y):=by
 rcases h with ⟨p,g⟩|⟨p,g⟩
 ·have w:mn a x=a:=by unfold mn;rw [QD p]
  have u:mn a y=a:=by unfold mn;rw [QD g]
  have r:a<=Ya t x y:=by
   have a1:=QN t0 (show 0<=y - a by grind);have a2:=QN (show 0<=1 - t by grind) (show 0<=x - a by grind);unfold Ya;grind
  have s:mn a (Ya t x y)=a:=by unfold mn;rw [QD r]
  rw [w,u,s];unfold Ya;grind
 ·have m:∀z,z<=a->mn a z=z:=λz q=>by
   unfold mn
   split
   ·exact jbz (by assumption) q
   ·rfl
  have r:Ya t x y<=a:=by
   have a1:=QN t0 (show 0<=a - y by grind);have a2:=QN (show 0<=1 - t by grind) (show 0<=a - x by grind);unfold Ya;grind
  rw [m x p,m y g,m _ r]
def vU {s d e:Rat} (h:s<d) (q:s<=e) (p:e<d):0<=(e - s) / (d - s)/\(e - s) / (d - s)<=1:=by
 have hp:0<d - s:=by grind
 have m:=Tw _ (XO h);have g:0<(d - s)⁻¹:=Rat.inv_pos.mpr hp;rw [jac];have a1:=QN (show 0<=e - s by grind) (QQ g);have a2:=QN (show 0<=d - e by grind) (QQ g);generalize (d - s)⁻¹=j at*
 constructor
 ·exact a1
 ·grind
def BB {as ls:List Int} {G:Rat->Rat->Rat} {C:Int->zi} (w:∀l,(C l).2=as.map λ(a:Int)=>G (a:Rat) (l:Rat)) (rise:yG (ls.map C)) (nn:∀l∈ls,0<=l)
 (mix:∀(i:Nat) (l g:Int),ls[i]? =some l->ls[i+1]? =some g->∀a∈as,∀t:Rat,0<=t->t<=1->Ya t (G (a:Rat) (l:Rat)) (G (a:Rat) (g:Rat))=G (a:Rat) (Ya t (l:Rat) (g:Rat)))
 {e:Rat} {s:Int} (h0:ls[0]? =some s) (he:(C s).1<=e):∃z:Rat,0<=z/\zg (ls.map C) e=as.map λ(a:Int)=>G (a:Rat) z:=by
 obtain ⟨i,q,y,I,nx⟩:=rS (M:=VZ (ls.map C)) (z:=(C s).1) (by unfold VZ;rw [Qo,Qh,h0];rfl) he;unfold VZ at y nx;obtain ⟨c,u,rfl⟩:=zM y;obtain ⟨l,A,rfl⟩:=zM u;have m:(0:Rat)<=(l:Rat):=by exact_mod_cast Rat.intCast_nonneg.mpr (nn l (Qd A))
 have key:=Zt rise u I (by
  rcases nx with h|⟨r,hr,h⟩
  ·left;simpa using h
  ·obtain ⟨d,hd,rfl⟩:=zM hr
   exact .inr ⟨d,hd,h⟩)
 rcases nx with h|⟨r,hr,h⟩
 ·rw [QC (by simp only [Qb] at h⊢;lia)] at key;refine ⟨l,m,?_⟩;rw [key];exact w l
 ·obtain ⟨d,hd,rfl⟩:=zM hr;obtain ⟨g,D,rfl⟩:=zM hd;rw [hd] at key;have p:(0:Rat)<=(g:Rat):=by exact_mod_cast Rat.intCast_nonneg.mpr (nn g (Qd D))
  have J:(C l).1<(C g).1:=by
   have:=JV (qT rise) (by unfold VZ;rw [Qh,u];rfl) (by unfold VZ;rw [Qh,hd];rfl);exact this
  obtain ⟨t0,t1⟩:=vU J I h;refine ⟨Ya ((e - (C l).1) / ((C g).1 - (C l).1)) l g,?_,?_⟩
  ·have a1:=QN t0 p;have a2:=QN (show 0<=1 - (e - (C l).1) / ((C g).1 - (C l).1) by grind) m;unfold Ya;grind
  ·rw [key];show Wj (C l) (C g) e=_;unfold Wj;generalize (e - (C l).1) / ((C g).1 - (C l).1)=t at*;rw [w,w]
   apply Tx
   ·simp
   ·intro j L K;simp only [QV,jaz];exact mix i l g A D _ (Ta _) t t0 t1
theorem eV:∀{c:zi} {r:List zi},yG (c::r)->(∀x∈c::r,x.2.length=m/\zu x.2=x.1)->c.1<=e->e<=(lastC (c::r)).1->zu (zg (c::r) e)=e
 |c,[],_,h,hc,hl=>by
  have u:e=c.1:=jbz hl hc;rw [u];exact (h c (Qg ..)).2
 |c,d::r,hr,h,hc,hl=>by
  have q:=(Qr.mp hr).1 d (Qg ..);have s:=h c (Qg ..);have p:=h d (Qe _ (Qg ..))
  by_cases hd:d.1<=e
  ·rw [yB hd];exact eV (Qr.mp hr).2 (λx t=>h x (Qe _ t)) hd (by rw [<-aR c];exact hl)
  ·have g:e<d.1:=jbp.mp hd;rw [zg,QD g];unfold Wj;rw [tG _ _ _ (by rw [s.1,p.1]),s.2,p.2];have w:=ZZ (x:=c.1) (y:=d.1) (E:=e) q;have:=yy (a:=Ya ((e - c.1) / (d.1 - c.1)) c.1 d.1 - e) (b:=d.1 - c.1) (by grind) (XO q)
   grind
def eZ (hr:yG (c::r)) (he:(lastC (c::r)).1<=e):zg (c::r) e=(lastC (c::r)).2:=by
 have:=ZC (M:=[]) hr he;rw [jaX] at this;rw [this];rfl
def zR (h:List Int):zi:=((h.sum:Int),h.map λ(x:Int)=>(x:Rat))
theorem Um:∀h:List Int,zu (h.map λ(x:Int)=>(x:Rat))=((h.sum:Int):Rat)
 |[]=>rfl
 |x::h=>by rw [Qj,zu,Um h,QU,Rat.intCast_add]
theorem ag {f g:Int->Int}:∀{as:List Int},(∀a∈as,f a<=g a)->(as.map f).sum<=(as.map g).sum
 |[],_=>jbQ _
 |a::as,h=>by
  have p:=ag λx m=>h x (Qe _ m);have:=h a (Qg ..);rw [Qj,Qj,QU,QU];lia
theorem af {f g:Int->Int}:∀{as:List Int} {b:Int},(∀a∈as,f a<=g a)->b∈as->f b<g b->(as.map f).sum<(as.map g).sum
 |[],b,_,m,_=>by simp at m
 |a::as,b,h,m,Ny=>by
  rw [Qj,Qj,QU,QU];have ha:=h a (Qg ..)
  rcases Qn.mp m with rfl|m
  ·have:=ag λx p=>h x (Qe _ p);lia
  ·have:=af (λx p=>h x (Qe _ p)) m Ny;lia
structure LvOk (as ls:List Int):Prop where
 rise:ls.Pairwise (·<·)
 mem:∀k,k∈ls↔k=0\/k∈as
 nn:∀a∈as,0<=a
def WI (as:List Int) (l:Int):List Int:=as.map λa=>min a l
def UI (as:List Int) (l:Int):List Int:=as.map λa=>a - min a l
def evP (as ls:List Int):List zi:=ls.map λl=>zR (WI as l)
def loP (as ls:List Int):List zi:=ls.reverse.map λl=>zR (UI as l)
section
def LvOk.nnL (h:LvOk as ls):∀l∈ls,0<=l:=λl g=>by
 rcases (h.mem l).mp g with rfl|z
 ·exact jbQ _
 ·exact h.nn l z
def LvOk.zero (h:LvOk as ls):ls[0]? =some 0:=by
 have m0:(0:Int)∈ls:=(h.mem 0).mpr (.inl rfl)
 cases ls with
 |nil=>simp at m0
 |cons a l=>
  have ha:=h.nnL a (Qg ..)
  rcases Qn.mp m0 with e|e
  ·rw [e];rfl
  ·have:=(Qr.mp h.rise).1 0 e;lia
def LvOk.gap (h:LvOk as ls)  (t:ls[i]? =some l) (u:ls[i+1]? =some l') (ha:a∈as):a<=l\/l'<=a:=by
 have m:=(h.mem a).mpr (.inr ha);obtain ⟨j,r,p⟩:=QK m;obtain ⟨li,s⟩:=Qf.mp t;obtain ⟨q,g⟩:=Qf.mp u;have P:=QR.mp h.rise
 rcases Nat.lt_or_ge j (i+1) with c|c
 ·left
  by_cases e:j=i
  ·subst e;rw [<-p,<-s];exact jbQ _
  ·have:=P j i r li ⋯;rw [p,s] at this;lia
 ·right
  by_cases e:j=i+1
  ·subst e;rw [<-p,<-g];exact jbQ _
  ·have:=P (i+1) j q r ⋯;rw [p,g] at this;lia
def LvOk.sumlt (h:LvOk as ls) {l g:Int} (p:l∈ls) (q:g∈ls) (lt:l<g):(WI as l).sum<(WI as g).sum:=by
 have m:g∈as:=((h.mem g).mp q).resolve_left (by have:=h.nnL l p;lia);exact af (λa _=>by lia) m ⋯
theorem uq:∀(as:List Int) (l:Int),(UI as l).sum=as.sum - (WI as l).sum
 |[],_=>rfl
 |a::as,l=>by
  have:=uq as l;unfold UI WI at*;rw [Qj,Qj,QU,QU,QU,this];lia
def LvOk.riseE (h:LvOk as ls):yG (evP as ls):=by
 unfold yG evP;rw [Tb];exact h.rise.imp_of_mem λ{a b} ha hb lt=>jaA.mpr (h.sumlt ha hb lt)
def LvOk.top (h:LvOk as ls):∃t,ls.getLast? =some t/\∀a∈as,a<=t:=by
 have ne:ls≠[]:=λe=>by have:=h.zero;rw [e] at this;simp at this
 refine ⟨_,Tr ne,λa ha=>?_⟩;have m:=(h.mem a).mpr (.inr ha);rw [<-jad ne] at m;have R:=h.rise;rw [<-jad ne] at R
 rcases QW.mp m with z|z
 ·exact jbe ((TR.mp R).2.2 a z _ (by simp))
 ·rw [Qp.mp z];exact jbQ _
def Ld (h:∀a∈as,a<=t):WI as t=as:=by
 unfold WI
 conv=>rhs;rw [<-List.map_id as]
 exact QA λa ha=>by show min a t=a;have:=h a ha;lia
def ui (h:∀a∈as,0<=a):WI as 0=ZS as.length:=by
 unfold WI ZS;rw [<-jaZ];exact QA λa ha=>by have:=h a ha;lia
def LvOk.evenly (h:LvOk as ls) {e:Rat} (h0:0<=e):∃z:Rat,0<=z/\zg (evP as ls) e=as.map λ(a:Int)=>mn (a:Rat) z:=by
 refine BB (λl=>?_) h.riseE h.nnL (λi l s p q a ha t t0 t1=>mn_mix t0 t1 ?_) h.zero ?_
 ·unfold zR WI;rw [Qo];exact QA λa _=>IQ a l
 ·obtain ⟨li,r⟩:=Qf.mp p;obtain ⟨g,m⟩:=Qf.mp q;have lt:=QR.mp h.rise i (i+1) li g ⋯;rw [r,m] at lt
  rcases h.gap p q ha with z|z
  ·exact .inl ⟨QH.mpr z,QH.mpr ⋯⟩
  ·exact .inr ⟨QH.mpr ⋯,QH.mpr z⟩
 ·show ((WI as 0).sum:Rat)<=e;rw [ui h.nn,mY];exact h0
end
section
variable {as ls:List Int}
def Ei (h:LvOk as ls):∃r,evP as ls=zR (ZS as.length)::r:=by
 have z:=h.zero
 cases ls with
 |nil=>simp at z
 |cons a l=>
  have:a=0:=by simpa using z
  subst this;exact ⟨_,by unfold evP;rw [Qj,ui h.nn]⟩
def uI (h:LvOk as ls):lastC (evP as ls)=zR as:=by
 obtain ⟨t,ht,top⟩:=h.top;unfold lastC evP;rw [jaC,ht];show zR (WI as t)=_;rw [Ld top]
def vz:∀(as:List Int) (l:Int),VF (zR as) (zR (WI as l))=zR (UI as l):=λas l=>by
 unfold VF zR;refine Prod.ext ?_ ?_
 ·show ((as.sum:Int):Rat) - ((WI as l).sum:Int)=((UI as l).sum:Int);rw [uq,jba]
 ·show List.zipWith (· - ·) (as.map λ(x:Int)=>(x:Rat)) ((WI as l).map λ(x:Int)=>(x:Rat))=(UI as l).map λ(x:Int)=>(x:Rat);unfold WI UI
  apply Tx
  ·simp
  ·intro i m g;simp only [QV,jaz];rw [jba]
def dD (h:LvOk as ls):yk (evP as ls)=loP as ls:=by
 unfold yk;rw [uI h];unfold evP loP;rw [<-List.map_reverse,Qo];exact QA λl _=>vz as l
def loP_ne (h:LvOk as ls):∃r,loP as ls=zR (ZS as.length)::r:=by
 obtain ⟨t,ht,top⟩:=h.top;have ne:ls≠[]:=λe=>by rw [e] at ht;simp at ht
 obtain ⟨g,m⟩:=List.getLast?_eq_some_iff.mp ht;refine ⟨g.reverse.map λl=>zR (UI as l),?_⟩;unfold loP;rw [m,List.reverse_append,List.reverse_singleton,List.singleton_append,Qj]
 congr 2
 unfold UI ZS;rw [<-jaZ];exact QA λa ha=>by have:=top a ha;lia
def Xm (h:List Int):(zR h).2.length=h.length/\zu (zR h).2=(zR h).1:=⟨Qb _,Um h⟩
def uH (as ls:List Int):∀c∈evP as ls,c.2.length=as.length/\zu c.2=c.1:=λc g=>by
 obtain ⟨l,_,rfl⟩:=Qk.mp g;have:=Xm (WI as l);rwa [show (WI as l).length=as.length by unfold WI;rw [Qb]] at this
def Ds (as ls:List Int):∀c∈loP as ls,c.2.length=as.length/\zu c.2=c.1:=λc g=>by
 obtain ⟨l,_,rfl⟩:=Qk.mp g;have:=Xm (UI as l);rwa [show (UI as l).length=as.length by unfold UI;rw [Qb]] at this
def XM (m:Nat):zR (ZS m)=(0,List.replicate m 0):=by
 unfold zR;rw [mY];unfold ZS;rw [jbt];rfl
def tD (r:List zi) (p:P=(0,List.replicate m 0)::r) (rise:yG P) (ok:∀c∈P,c.2.length=m/\zu c.2=c.1) (h0:0<=e):zu (zg P e)=mn e (lastC P).1:=by
 subst p;unfold mn
 split
 ·exact eV rise ok h0 (by assumption)
 ·rename_i z;have g:=jbp.mp z;rw [eZ rise (QQ g)]
  have m:lastC ((0,List.replicate m 0)::r)∈((0:Rat),List.replicate m (0:Rat))::r:=by
   unfold lastC;rw [Tr (by simp)];exact List.getLast_mem _
  exact (ok _ m).2
def hfA (as ls:List Int):List zi:=zO (1 / 2) (evP as ls)
def hfB (as ls:List Int):List zi:=zO (1 / 2) (loP as ls)
def uy:(0:Rat)<1 / 2:=by decide+kernel
def qD (hp:0<p) (h:yG a):yG (zO p a):=by
 unfold yG zO;rw [Tb];exact h.imp λ{x y} lt=>Rat.mul_lt_mul_of_pos_right lt hp
def hf_len (as ls:List Int):∀x∈hfA as ls++yx (hfA as ls) (hfB as ls),lastC (hfA as ls)∈hfA as ls->x.2.length=as.length:=λx g hm=>by
 have p:∀x∈hfA as ls,x.2.length=as.length:=λx g=>by
  obtain ⟨c,m,rfl⟩:=Qk.mp g;rw [Qb];exact (uH as ls c m).1
 rcases QW.mp g with z|z
 ·exact p x z
 ·obtain ⟨d,hd,rfl⟩:=Qk.mp z
  have ld:d.2.length=as.length:=by
   have:=TU hd;obtain ⟨c,m,rfl⟩:=Qk.mp this;rw [Qb];exact (Ds as ls c m).1
  show (List.zipWith _ _ _).length=_;rw [Qy,p _ hm,ld];exact Tv _
def rO (h:LvOk as ls):lastC (hfA as ls)∈hfA as ls:=by
 obtain ⟨r,g⟩:=Ei h;have ne:hfA as ls≠[]:=by unfold hfA zO;rw [g];simp
 unfold lastC;rw [Tr ne];exact List.getLast_mem _
def hvP (as ls:List Int):List zi:=hfA as ls++yx (hfA as ls) (hfB as ls)
theorem yR (p:Rat):∀l:List Rat,zu (l.map (·*p))=zu l*p
 |[]=>by rw [Tu,zu,jbJ]
 |x::l=>by rw [Qj,zu,zu,yR p l];grind
theorem cP:∀{x y:List Rat},x.length=y.length->zu (List.zipWith (·+·) x y)=zu x+zu y
 |[],[],_=>by rw [List.zipWith_nil_left,zu];grind
 |a::x,b::y,h=>by rw [jaq,zu,zu,zu,cP ‹h›];grind
 |[],_::_,h=>by simp at h
 |_::_,[],h=>by simp at h
def IW (as ls:List Int):∀c∈hfA as ls,c.2.length=as.length/\zu c.2=c.1:=λc g=>by
 obtain ⟨d,hd,rfl⟩:=Qk.mp g;have:=uH as ls d hd;exact ⟨by rw [Qb];exact this.1,by rw [yR,this.2]⟩
def hfB_ok (as ls:List Int):∀c∈hfB as ls,c.2.length=as.length/\zu c.2=c.1:=λc g=>by
 obtain ⟨d,hd,rfl⟩:=Qk.mp g;have:=Ds as ls d hd;exact ⟨by rw [Qb];exact this.1,by rw [yR,this.2]⟩
def hv_ok (h:LvOk as ls):∀c∈hvP as ls,c.2.length=as.length/\zu c.2=c.1:=λc g=>by
 refine ⟨hf_len as ls c g (rO h),?_⟩
 rcases QW.mp g with z|z
 ·exact (IW as ls c z).2
 ·obtain ⟨d,hd,rfl⟩:=Qk.mp z;have a:=IW as ls _ (rO h);have b:=hfB_ok as ls d (TU hd);show zu (List.zipWith (·+·) _ _)=_+_;rw [cP (by rw [a.1,b.1]),a.2,b.2]
def shP (as:List Int):List zi:=if as.sum=0 then [zR (ZS as.length)] else [zR (ZS as.length),zR as]
theorem jY:∀n:Nat,(List.replicate n (0:Int)).sum=0
 |0=>rfl
 |n+1=>by rw [TQ,QU,jY n];rfl
def bV (h:∀a∈as,0<=a):0<=as.sum:=by
 have:=ag (g:=id) (as:=as) λa ha=>h a ha;rw [List.map_id,jaZ,jY] at this
 simpa using this
def tx (h:∀a∈as,0<=a) (z:as.sum=0):∀a∈as,a=0:=λa ha=>by
 rcases Int.lt_or_eq_of_le (h a ha) with lt|e
 ·have:=af (g:=id) (as:=as) (λa ha=>h a ha) ha lt;rw [List.map_id,jaZ,jY,z] at this;simp at this
 ·exact e.symm
def FK (nn:∀a∈as,0<=a) (h0:0<=e):∃z:Rat,(0<=z/\z<=1)/\zg (shP as) e=(as.map λ(a:Int)=>(a:Rat)*z)/\zu (zg (shP as) e)=mn e ((as.sum:Int):Rat):=by
 have s0:=bV nn;unfold shP
 by_cases c:as.sum=0
 ·have w:=tx nn c;rw [QD c,c]
  have k:zg [zR (ZS as.length)] e=as.map λ(a:Int)=>(a:Rat)*0:=by
   rw [XM];show List.replicate as.length (0:Rat)=_;rw [<-jaZ];exact QA λa ha=>by rw [Rat.mul_zero]
  refine ⟨0,⟨Tg,by decide+kernel⟩,k,?_⟩;rw [XM];show zu (List.replicate as.length 0)=_;rw [YL];unfold mn
  split
  ·exact jbz h0 (by assumption)
  ·rfl
 ·rw [QI c];have sp:(0:Rat)<((as.sum:Int):Rat):=by exact_mod_cast jaA.mpr (show 0<as.sum by lia)
  have rise:yG [zR (ZS as.length),zR as]:=by
   refine Qr.mpr ⟨λd hd=>?_,jai _ _⟩;rw [Qp.mp hd,XM];exact sp
  have ok:∀x∈[zR (ZS as.length),zR as],x.2.length=as.length/\zu x.2=x.1:=λx m=>by
   rcases Qn.mp m with rfl|m
   ·have:=Xm (ZS as.length);rwa [Ul] at this
   ·rw [Qp.mp m];exact Xm as
  have g:=tD [zR as] (by rw [XM]) rise ok h0;have r:(lastC [zR (ZS as.length),zR as]).1=((as.sum:Int):Rat):=rfl;rw [r] at g
  by_cases q:e<((as.sum:Int):Rat)
  ·have s:=Tw _ (show ((as.sum:Int):Rat)≠0 from λz=>by rw [z] at sp;exact jaP sp);have p:0<(((as.sum:Int):Rat))⁻¹:=Rat.inv_pos.mpr sp;refine ⟨e*(((as.sum:Int):Rat))⁻¹,⟨QN h0 (QQ p),?_⟩,?_,g⟩
   ·have:=QN (show 0<=((as.sum:Int):Rat) - e by grind) (QQ p);generalize (((as.sum:Int):Rat))⁻¹=j at*
    grind
   ·rw [zg,QD (show e<(zR as).1 from q),XM];unfold Wj
    have et:(e - (0:Rat)) / ((zR as).1 - (0:Rat))=e*(((as.sum:Int):Rat))⁻¹:=by
     show (e - 0) / (((as.sum:Int):Rat) - 0)=_;rw [show e - 0=e by grind,show ((as.sum:Int):Rat) - 0=((as.sum:Int):Rat) by grind,jac]
    dsimp only;rw [et];unfold zR
    apply Tx
    ·simp
    ·intro i u t;simp only [QV,jaz,TB];unfold Ya
     grind
  ·refine ⟨1,⟨by decide+kernel,Tg⟩,?_,g⟩;rw [yB (show (zR as).1<=e from TX.mp q)];show (as.map λ(x:Int)=>(x:Rat))=_;exact QA λa _=>by rw [Rat.mul_one]
end
def InB (am tk:List Int):Prop:=tk.length=am.length/\∀(i:Nat) (a p:Int),am[i]? =some a->tk[i]? =some p->0<=p/\p<=a
def WX (am tk:List Int):Prop:=tk.length=am.length/\∀(i:Nat) (a p:Int),am[i]? =some a->tk[i]? =some p->0<=p/\p<=a/\(p<a->∀q∈tk,q<=p)
def xc (am tk:List Int):List Int:=List.zipWith (· - ·) am tk
section
def WQ {a b:Int} (h:(a:Rat)<=(b:Rat)):a<=b:=QH.mp h
def mw {a b:Int} (h:a<b):(a:Rat)<(b:Rat):=jaA.mpr h
def bt {a:Int} (h:0<=a):(0:Rat)<=(a:Rat):=by have:=QH.mpr h;exact this
def Zm {a:Int} (h:0<a):(0:Rat)<(a:Rat):=by have:=jaA.mpr h;exact this
def xV {x y b:Rat} (h:x<=y) (g:0<=b):x*b<=y*b:=by
 have:=QN (show 0<=y - x by grind) g
 grind
def YW (h:tk.length=am.length):(xc am tk).length=am.length:=by
 unfold xc;rw [Qy,h,Tv]
def mn_nn (a0:0<=a) (g:0<=z):0<=mn a z/\mn a z<=a:=by
 unfold mn
 split<;>grind
noncomputable def LC (as ls:List Int):Nat->List zi
 |0=>shP as
 |1=>evP as ls
 |2=>loP as ls
 |_=>yi (hvP as ls)
def GO {e t b:Rat} (g:0<b):mn e t*b=mn (e*b) (t*b):=by
 unfold mn
 by_cases c:e<=t
 ·rw [QD c,QD (xV c (QQ g))]
 ·rw [QI c,QI];intro h;have lt:=jbp.mp c;have:=jbR (show 0<e - t by grind) g
  grind
end
structure Bl3 (mg:Str->Option Value):Prop where
 sorted:mg "sorted"=none
 set:mg "set"=none
section
def Iv (K:Frg) (m:Str) (f:Addr) (sp:Sp) (E:XK) (g:TE) (t:TA):TE:=λσ H Q=>g σ H λx H1=>∃a C p fs,x= .ref a/\H1 a=some (.ins C p fs)/\Cls K C/\Meth K C m f/\fs.lookup m=none/\t σ H1 λvs q=>sp (x::vs) q Q E
def pe_methB (he:PE X o ta) (F:FnOk X.prog X.w X.K X.mg X.base CX k f fd ps sp) (hr:Room k X.A) (J:yp X.K fd ps []) (D:WT CX X E) (ha:PA X (e::es) t)
 (N:starEach (e::es) X.env=(false,eval e X.env)::starEach es X.env:=by rfl) (M:(backTo pos (starEach es X.env)).any (·.1)=false:=by rfl)
 (ht:eval (.Call (.Attribute o m apos) (e::es) [] pos) X.env=(do
  let ov<-eval o X.env
  standAt apos.atName
  let (f,first)<-holding [ov] (getMethod ov m pl)
  callWith pos f first (backTo pos (starEach (e::es) X.env)) (backToKw pos (keywordEach [] X.env))):=by rfl):
 PE X (.Call (.Attribute o m apos) (e::es) [] pos) (Iv X.K m f sp E ta t):=by
 intro pins s σ H Q I h;refine PySem.W.methodCall_KW (thn (he pins s σ H _ I h) λu s1 G=>?_) ht;obtain ⟨x,H1,p,y,a,C,O,fs,ex,L,c,hm,l,q⟩:=G;subst ex;obtain rfl:u=Value.ref a:=y;refine aT p L c hm l ?_;refine jbr I.ok.mod.kin hm.kp (thn (ha pos pins s1 σ H1 _ p q) ?_) N M;rintro us s2 ⟨vs,P,g,r,z⟩;refine ⟨g.kIn,?_⟩;exact nO (us:= .ref a::us) (vs:= .ref a::vs) F hr J .nil D g (.cons rfl r) (by rw [jaX];exact z)
end
section
variable {B G0 H:Hp} {cs:yN} {ds:Dat} {Q:VK} {E:XK} {v w u:V} {K:Frg} {C L:Addr} {x:PyData} {σ:L2.St}
def kMB (K:Frg) (m:Str) (f:Addr) (sp:Sp) (E:XK) (t:TA) (σ:L2.St) (Q:VK):VK:=λx H1=>∃a C g fs,x= .ref a/\H1 a=some (.ins C g fs)/\Cls K C/\Meth K C m f/\fs.lookup m=none/\t σ H1 λvs p=>sp (x::vs) p Q E
def rd_methB (h:ta σ H (kMB K m f sp E t σ Q)):Iv K m f sp E ta t σ H Q:=h
def nX (S:Sta B G0 H cs ds) (h:Has ds (Hr C x) v) (cl:Cls K C) (me:Meth K C m f) (hm:(m==("form":Str))=false) (k:t σ H λvs q=>sp (v::vs) q Q E):kMB K m f sp E t σ Q v H:=by
 obtain ⟨p,g,w,rfl,hp,r⟩:=S.ins h;exact ⟨p,C,g,_,rfl,hp,cl,me,by rw [jaK,hm];rfl,k⟩
def IU (K:Frg) (Q:VK):VK:=λx H1=>Cv K x H1 Q
def rd_sortS (h:te σ H (IU K Q)):Iu K te σ H Q:=h
def eO {ns:List Int} (S:Sta B G0 H cs ds) (h:(L,ns.map PyData.int)∈cs) (few:ns.length<60) (k:∀(os:List Int) (l:Addr) (H':Hp),os.Pairwise (·<·)->(∀z,z∈os↔z∈ns)->zG H H'->Sta B G0 H' ((l,os.map PyData.int)::cs) ds->Q (.ref l) H'):IU K Q (.ref L) H:=by
 obtain ⟨vs,hp,u⟩:=S.vwC h;obtain ⟨G,q⟩:=id S;rw [yv (u G q)] at hp;exact ⟨L,ns,rfl,SqL.of hp,few,λos l p m g=>k os l _ p m (zG.new g _) (S.newL g λG _=>ZI os)⟩
def Kh {ns:List Int} (S:Sta B G0 H cs ds) (h:Has ds (.tuple (ns.map PyData.int)) v) (hn:0<ns.length) (k:∀m,m∈ns->(∀x∈ns,m<=x)->Q (.int m) H):rMinT K [v] H Q:=by
 obtain ⟨p,vs,rfl,hp,r,q,al⟩:=S.tupAll h;obtain ⟨G,g⟩:=id q;rw [yv (al G g.2.2.2.2.2.2)] at hp;exact ⟨p,ns,rfl,SqT.of hp,hn,k⟩
def Kj {ns:List Int} (S:Sta B G0 H cs ds) (h:(L,ns.map PyData.int)∈cs) (hn:0<ns.length) (k:∀m,m∈ns->(∀x∈ns,x<=m)->Q (.int m) H):Kv K [.ref L] H Q:=by
 obtain ⟨vs,hp,u⟩:=S.vwC h;obtain ⟨G,g⟩:=id S;rw [yv (u G g)] at hp;exact ⟨L,ns,rfl,SqL.of hp,hn,k⟩
theorem qQ {α:Type} (a:α):∀n:Nat,(List.replicate n [a]).flatten=List.replicate n a
 |0=>rfl
 |n+1=>by rw [TQ,jbB,qQ a n];rfl
def Ke (S:Sta B G0 H cs ds) (h:(L,[PyData.int i])∈cs) (hn:n<=1000) (k:∀l H',zG H H'->Sta B G0 H' ((l,(List.replicate n i).map PyData.int)::cs) ds->Q (.ref l) H'):rRep (.ref L) (.int (n:Int)) H Q:=by
 obtain ⟨vs,hp,u⟩:=S.vwC h;obtain ⟨G,m⟩:=id S;have e:=yv (ns:=[i]) (u G m);subst e;refine ⟨L,(n:Int),_,rfl,rfl,hp,⋯,⋯,?_,λp g=>?_⟩
 ·show 1*n<=sizeLine;have:1000<=sizeLine:=by decide
  lia
 ·rw [Tp];show Q (.ref p) (upd H p (.lst (List.replicate n [V.int i]).flatten));rw [qQ];refine k p _ (zG.new g _) ?_;have:=S.newL g λG _=>ZI (List.replicate n i);rw [jbt] at this;rw [jbt] at this⊢;exact this
end
abbrev Cl:=Int×Int×Int
def zH (c:Cl):PyData:= .tuple [.int c.1, .int c.2.1, .int c.2.2]
def zj (l:List Cl):PyData:= .list (l.map zH)
def amV (l:List Cl):List Int:=l.map λc=>c.1
structure ClOk (n:Nat) (l:List Cl):Prop where
 pos:0<l.length
 few:l.length<=8
 nn:∀c∈l,0<=c.1/\0<=c.2.1/\0<=c.2.2
 sz:∀c∈l,Sz n c.1
def zQ (l:List Cl):(amV l).length=l.length:=Qb _
theorem oN:∀as:List Int,∃ls:List Int,ls.Pairwise (·<·)/\∀k,k∈ls↔k∈as
 |[]=>⟨[],List.Pairwise.nil,λ_=>Iff.rfl⟩
 |a::as=>by
  obtain ⟨ls,p,r⟩:=oN as;refine ⟨ls.filter (·<a)++a::ls.filter (a<·),?_,λk=>?_⟩
  ·refine TR.mpr ⟨p.filter _,Qr.mpr ⟨λy g=>?_,p.filter _⟩,λx q y g=>?_⟩
   ·simpa using (Tc.mp g).2
   ·have m:x<a:=by simpa using (Tc.mp q).2
    rcases Qn.mp g with rfl|g
    ·exact m
    ·have:a<y:=by simpa using (Tc.mp g).2
     lia
  ·rw [QW,Qn,Tc,Tc,Qn,r];simp only [decide_eq_true_eq]
   constructor
   ·rintro (⟨h,_⟩|h|⟨h,_⟩)
    ·exact .inr h
    ·exact .inl h
    ·exact .inr h
   ·rintro (h|h)
    ·exact .inr (.inl h)
    ·rcases Int.lt_trichotomy k a with c|c|c
     ·exact .inl ⟨h,c⟩
     ·exact .inr (.inl c)
     ·exact .inr (.inr ⟨h,c⟩)
theorem Ur:∀{x y:List Int},x.Pairwise (·<·)->y.Pairwise (·<·)->(∀k,k∈x↔k∈y)->x=y
 |[],[],_,_,_=>rfl
 |[],b::y,_,_,h=>absurd ((h b).mpr (Qg ..)) Qm
 |a::x,[],_,_,h=>absurd ((h a).mp (Qg ..)) Qm
 |a::x,b::y,h1,h2,h=>by
  obtain ⟨a1,a2⟩:=Qr.mp h1;obtain ⟨q,r⟩:=Qr.mp h2
  have e:a=b:=by
   rcases Qn.mp ((h a).mp (Qg ..)) with e|e
   ·exact e
   ·rcases Qn.mp ((h b).mpr (Qg ..)) with p|p
    ·exact p.symm
    ·have:=q a e;have:=a1 b p;lia
  subst e;rw [Ur a2 r λk=>?_];have g:=h k;rw [Qn,Qn] at g
  constructor
  ·intro m
   rcases g.mp (.inr m) with e|e
   ·subst e;exact absurd (a1 k m) (Int.lt_irrefl _)
   ·exact e
  ·intro m
   rcases g.mpr (.inr m) with e|e
   ·subst e;exact absurd (q k m) (Int.lt_irrefl _)
   ·exact e
noncomputable def lvV (as:List Int):List Int:=(oN (0::as)).choose
def WJ (nn:∀a∈as,0<=a):LvOk as (lvV as):=
 ⟨(oN (0::as)).choose_spec.1,λk=>by rw [lvV,(oN (0::as)).choose_spec.2 k,Qn],nn⟩
def lvV_eq {as os:List Int} (m:os.Pairwise (·<·)) (g:∀z,z∈os↔z∈0::as):os=lvV as:=
 Ur m (oN (0::as)).choose_spec.1 λk=>by rw [g,lvV,(oN (0::as)).choose_spec.2 k]
theorem IS:∀{ls as:List Int},ls.Nodup->(∀k∈ls,k∈as)->ls.length<=as.length
 |[],_,_,_=>jab _
 |a::ls,as,nd,h=>by
  obtain ⟨n1,m⟩:=TV.mp nd;have:=IS m λk g=>(List.mem_erase_of_ne (λ(e:k=a)=>n1 (e▸g))).mpr (h k (Qe _ g));have p:=List.length_erase_of_mem (h a (Qg ..));have:=List.length_pos_of_mem (h a (Qg ..));rw [QE];lia
def LvOk.few (h:LvOk as ls):ls.length<=as.length+1:=by
 have:=IS (h.rise.imp λ{a b} (m:a<b)=>by lia) λk g=>by rw [Qn];exact (h.mem k).mp g
 simpa using this
def cv (h0:0<=x) (h:x<=y) (z:Sz n y):Sz n x:=by unfold Sz at*;lia
theorem dG (m:0<=b):∀{l:List Int},(∀x∈l,0<=x/\x<=b)->0<=l.sum/\l.sum<=l.length*b
 |[],_=>by simp
 |x::l,h=>by
  have q:=h x (Qg ..);have p:=dG m λy g=>h y (Qe _ g);rw [QU,QE];have e:(((l.length+1:Nat):Int))*b=l.length*b+b:=by rw [Int.natCast_add,Int.add_mul];lia
  lia
def UR (l:List Int):Prop:=l.length<=8/\∀x∈l,0<=x/\Sz 160 x
def UR.sum (h:UR l):0<=l.sum/\Sz 170 l.sum:=by
 have m:=dG (b:=2 ^ 160) nofun (l:=l) λx g=>⟨(h.2 x g).1,by
  have:=(h.2 x g).2;unfold Sz at this;have:=(h.2 x g).1
  lia⟩
 refine ⟨m.1,?_⟩;have p:=h.1;have:(l.length:Int)*2 ^ 160<=8*2 ^ 160:=jbm ⋯ nofun;unfold Sz;have e:(8:Int)*2 ^ 160<2 ^ 170:=by decide+kernel
 lia
def tj (h:UR l):SzC 170 (zR l):=by
 refine ⟨⟨h.sum.2,by show Sz 170 1;unfold Sz;decide⟩,λq m=>?_⟩;obtain ⟨x,g,rfl⟩:=Qk.mp m;exact ⟨Sz.mono (h.2 x g).2 nofun,by show Sz 170 1;unfold Sz;decide⟩
def ClOk.am (h:ClOk 160 l):UR (amV l):=by
 refine ⟨by rw [zQ];exact h.few,λx m=>?_⟩;obtain ⟨c,g,rfl⟩:=Qk.mp m;exact ⟨(h.nn c g).1,h.sz c g⟩
def UR.min (h:UR as) (m:0<=l):UR (WI as l)/\UR (UI as l):=by
 refine ⟨⟨by unfold WI;rw [Qb];exact h.1,λx g=>?_⟩,⟨by unfold UI;rw [Qb];exact h.1,λx g=>?_⟩⟩
 ·obtain ⟨a,ha,rfl⟩:=Qk.mp g;have:=h.2 a ha;exact ⟨⋯,cv ⋯ ⋯ this.2⟩
 ·obtain ⟨a,ha,rfl⟩:=Qk.mp g;have:=h.2 a ha;exact ⟨⋯,cv ⋯ ⋯ this.2⟩
section
def LvOk.szE (h:LvOk as ls) (i:UR as):∀c∈evP as ls,SzC 170 c:=λc m=>by
 obtain ⟨l,g,rfl⟩:=Qk.mp m;exact tj (i.min (h.nnL l g)).1
def LvOk.szL (h:LvOk as ls) (i:UR as):∀c∈loP as ls,SzC 170 c:=λc m=>by
 obtain ⟨l,g,rfl⟩:=Qk.mp m;exact tj (i.min (h.nnL l (jbF.mp g))).2
def LvOk.inE (h:LvOk as ls) (i:UR as):PathIn (evP as ls):=by
 obtain ⟨r,m⟩:=Ei h;have f:=h.few;have p:=i.1;exact ⟨by rw [m];simp,λc g=>(h.szE i c g).mono nofun,λc g=>by rw [(uH as ls c g).1];lia,by unfold evP;rw [Qb];lia⟩
def LvOk.inL (h:LvOk as ls) (i:UR as):PathIn (loP as ls):=by
 obtain ⟨r,m⟩:=loP_ne h;have f:=h.few;have p:=i.1;exact ⟨by rw [m];simp,λc g=>(h.szL i c g).mono nofun,λc g=>by rw [(Ds as ls c g).1];lia,by unfold loP;rw [Qb,Tz];lia⟩
def rP:SzQ 2 ((1:Rat) / 2):=by unfold SzQ Sz;decide+kernel
def dU (h:∀c∈a,SzC 170 c):∀c∈zO (1 / 2) a,SzC 172 c:=λc p=>by
 obtain ⟨d,hd,rfl⟩:=Qk.mp p;have:=h d hd;refine ⟨(this.1.mul rP).mono nofun,λq m=>?_⟩;obtain ⟨x,g,rfl⟩:=Qk.mp m;exact ((this.2 x g).mul rP).mono nofun
def nB (ok:PathIn a) (h:∀c∈a,SzC 170 c):PathIn (zO (1 / 2) a):=by
 refine ⟨λe=>ok.ne (List.map_eq_nil_iff.mp e),λc g=>(dU h c g).mono nofun,λc g=>?_,by unfold zO;rw [Qb];exact ok.few⟩;obtain ⟨d,hd,rfl⟩:=Qk.mp g;rw [Qb];exact ok.len d hd
def LvOk.szH (h:LvOk as ls) (i:UR as):∀c∈hvP as ls,SzC 400 c:=λc r=>by
 have g:=dU (h.szE i);have sB:=dU (h.szL i)
 rcases QW.mp r with z|z
 ·exact (g c z).mono nofun
 ·obtain ⟨d,hd,rfl⟩:=Qk.mp z;have x:=g _ (rO h);have y:=sB d (TU hd);refine ⟨(x.1.add y.1).mono nofun,λq m=>?_⟩;obtain ⟨j,p,e⟩:=QK m;have t:=p;simp only [Vq,Qy] at t
  have s:q=(lastC (hfA as ls)).2[j]'⋯+d.2[j]'⋯:=by
   rw [<-e];simp only [Vq,QV]
  rw [s];exact ((x.2 _ (Ta _)).add (y.2 _ (Ta _))).mono nofun
def LvOk.okH (h:LvOk as ls) (i:UR as):PathOk as.length (hvP as ls):=by
 have f:=h.few;have m:=i.1;refine ⟨λc g=>(h.szH i c g).mono nofun,λc g=>(hv_ok h c g).1,⋯,?_⟩;unfold hvP hfA hfB yx zO evP loP;simp only [QM,Qb,jaM,Tz];lia
end
theorem WK:∀(a:zi) (r:List zi),(yc a r).Sublist r
 |a,[]=>by rw [yc];exact jbP _
 |a,[b]=>by rw [yc];exact jbP _
 |a,b::c::r=>by
  rw [yc]
  split
  ·exact List.Sublist.cons _ (WK b (c::r))
  ·exact List.Sublist.cons₂ _ (WK b (c::r))
theorem Zi:∀r:List zi,(yi r).Sublist r
 |[]=>jbP _
 |c::r=>List.Sublist.cons₂ _ (WK c r)
section
end
def iteSY {a b:Str} {X Y:Prop} (g:a=b) (h:X):if decide (a=b)=true then X else Y:=yH (λ_=>h) λn=>absurd g n
def iteSN {a b:Str} {X Y:Prop} (g:¬a=b) (h:Y):if decide (a=b)=true then X else Y:=yH (λy=>absurd y g) λ_=>h
section
def ma:Nat->Rl
 |0=> .shares
 |1=> .evenly
 |2=> .losses
 |_=> .halves
def kB:Sp:=spB (α:=List Cl) (λl=>[zj l]) (ClOk 160) (λ_=> .non)
def tZ (S:Sta B G0 H cs ds) (h:Has ds (zj l) v) (ok:ClOk 160 l) (k:∀H',zG H H'->Sta B G0 H' cs ds->Q .non H'):kB [v] H Q E:=Wx l (S.hpAll (.cons h .nil)) ok λH' e=>k H' e (S.same e)
def spWC:Sp:=spT (α:=List Int) (λl=>[.list (l.map PyData.int)]) (λl=>l.length<=8) (λl=>zY (zR l))
def JX (S:Sta B G0 H cs ds) (h:Has ds (.list (l.map PyData.int)) v) (ok:l.length<=8) (k:∀w H',zG H H'->Sta B G0 H' cs ((zY (zR l),w)::ds)->Q w H'):spWC [v] H Q E:=Zq l S (.cons h .nil) ok k
def Wn:Sp:=spL (α:=Nat) (λn=>[.int (n:Int)]) (λn=>n<=8) (λn=>[zR (ZS n)].map zY)
def aK (S:Sta B G0 H cs ds) (ok:n<=8) (k:∀p H',zG H H'->Sta B G0 H' ((p,[zR (ZS n)].map zY)::cs) ds->Q (.ref p) H'):Wn [.int (n:Int)] H Q E:=Yp n S (.cons Has.int .nil) ok k
noncomputable def flV (k:Nat) (l:List Cl):List zi:=LC (amV l) (lvV (amV l)) k
noncomputable def bY (k:Nat):Sp:=spL (α:=List Cl) (λl=>[zj l]) (ClOk 160) (λl=>(flV k l).map zY)
def aM (S:Sta B G0 H cs ds) (h:Has ds (zj l) v) (ok:ClOk 160 l) (k:∀p H',zG H H'->Sta B G0 H' ((p,(flV n l).map zY)::cs) ds->Q (.ref p) H'):bY n [v] H Q E:=Yp l S (.cons h .nil) ok k
def ClOk.lv (h:ClOk 160 l):LvOk (amV l) (lvV (amV l)):=WJ λa ha=>(h.am.2 a ha).1
noncomputable def We (p:Rat) (a b:List zi):List zi:=yi (zO p a++yx (zO p a) (zO (1 - p) b))
structure UpOk (p:Rat) (a b:List zi):Prop where
 sz:SzQ 1000 p
 pa:PathIn a
 pb:PathIn b
 sa:PathIn (zO p a)
 sb:PathIn (zO (1 - p) b)
 m:∃m,PathOk m (zO p a++yx (zO p a) (zO (1 - p) b))
noncomputable def Bp:Sp:=spL (α:=Rat×List zi×List zi) (λa=>[frD a.1,YF a.2.1,YF a.2.2]) (λa=>UpOk a.1 a.2.1 a.2.2) (λa=>(We a.1 a.2.1 a.2.2).map zY)
def BZ (S:Sta B G0 H cs ds) (r:Has ds (frD p) u) (m:Has ds (YF a) v) (g:Has ds (YF b) w) (ok:UpOk p a b) (k:∀q H',zG H H'->Sta B G0 H' ((q,(We p a b).map zY)::cs) ds->Q (.ref q) H'):Bp [u,v,w] H Q E:=Yp (p,a,b) S (.cons r (.cons m (.cons g .nil))) ok k
def up_ok (h:ClOk 160 l):UpOk (1 / 2) (flV 1 l) (flV 2 l):=by
 have L:=h.lv;have e:(1:Rat) - 1 / 2=1 / 2:=by decide+kernel
 refine ⟨rP.mono nofun,L.inE h.am,L.inL h.am,nB (L.inE h.am) (L.szE h.am),?_,(amV l).length,?_⟩
 ·rw [e];exact nB (L.inL h.am) (L.szL h.am)
 ·rw [e];exact L.okH h.am
def AX (l:List Cl):We (1 / 2) (flV 1 l) (flV 2 l)=flV 3 l:=by
 have e:(1:Rat) - 1 / 2=1 / 2:=by decide+kernel
 unfold We;rw [e];rfl
end
def InS (n:Nat) (l:List Int):Prop:=l.length<=8/\∀x∈l,0<=x/\Sz n x
def InS.sum (h:InS n l):0<=l.sum/\Sz (n+4) l.sum:=by
 have p:(0:Int)<2 ^ n:=Int.pow_pos nofun
 have m:=dG (jbe p) λx g=>⟨(h.2 x g).1,by
  have z:=(h.2 x g).2;have q:=(h.2 x g).1;unfold Sz at z;have:(x.natAbs:Int)<((2 ^ n:Nat):Int):=Int.ofNat_lt.mpr z;rw [jbL] at this;have e:((2:Nat):Int)=2:=rfl;rw [e] at this
  lia⟩
 refine ⟨m.1,?_⟩;have r:=h.1;have le:(l.length:Int)*2 ^ n<=8*2 ^ n:=jbm ⋯ (jbe p);unfold Sz;have e:(2:Nat) ^ (n+4)=2 ^ n*16:=by rw [Nat.pow_add]
 rw [e];have s:((2 ^ n:Nat):Int)=2 ^ n:=by rw [jbL];rfl
 lia
def InB.inS (h:InB am tk) (l:am.length<=8) (z:∀x∈am,Sz n x):InS n tk/\InS n am:=by
 refine ⟨⟨by rw [h.1];exact l,λx m=>?_⟩,⟨l,λx m=>?_⟩⟩
 ·obtain ⟨i,g,rfl⟩:=QK m;have p:i<am.length:=by rw [<-h.1];exact g
  have b:=h.2 i _ _ (Qa p) (Qa g);exact ⟨b.1,cv b.1 b.2 (z _ (Ta _))⟩
 ·obtain ⟨i,g,rfl⟩:=QK m;have p:i<tk.length:=by rw [h.1];exact g
  have b:=h.2 i _ _ (Qa g) (Qa p);exact ⟨⋯,z _ (Ta _)⟩
def Dz (n:Int):List Int:=if n % 5=0 then [7,10,2] else if n % 5=1 then [10 ^ 40+5,9,30] else if n % 5=2 then [2024,10 ^ 20,100] else [0,1,2]
def Dw (n i:Int):∃x,0<=x/\atI ((Dz n).map PyData.int) (i % 3)=some (.int x):=by
 have g:i % 3=0\/i % 3=1\/i % 3=2:=⋯
 unfold Dz
 split
 ·rcases g with h|h|h<;>rw [h]<;>exact ⟨_,nofun,rfl⟩
 ·split
  ·rcases g with h|h|h<;>rw [h]<;>exact ⟨_,nofun,rfl⟩
  ·split
   ·rcases g with h|h|h<;>rw [h]<;>exact ⟨_,nofun,rfl⟩
   ·rcases g with h|h|h<;>rw [h]<;>exact ⟨_,nofun,rfl⟩
section
variable {B G0 H:Hp} {cs:yN} {ds:Dat} {v w u:V} {K:Frg} {xs ys:List PyData} {R:It->Hp->Prop}
def Vd (S:Sta B G0 H cs ds) (h:Has ds (.list xs) v) (m:Has ds (.list ys) w) (k:∀J,Wk B G0 J (qc xs ys) (λcs ds=>Has ds (.list xs) v/\(∀x u,Has ds (.list ys) w->Has ((x,u)::ds) (.list ys) w)/\Has ds (.list ys) w)->R J H):kZi true true K R [v,w] H:=by
 obtain ⟨p,vs,rfl,hp,_⟩:=S.lst h;obtain ⟨q,ws,rfl,g,_⟩:=S.lst m;exact ⟨p,q,rfl,⟨_,SqL.of hp⟩,⟨_,SqL.of g⟩,k _ (AQ WY WY)⟩
def kv:Sp:=spL (α:=Int) (λn=>[.int n]) (λ_=>True) (λn=>(Dz n).map PyData.int)
def nW (S:Sta B G0 H cs ds) (k:∀p H',zG H H'->Sta B G0 H' ((p,(Dz n).map PyData.int)::cs) ds->Q (.ref p) H'):kv [.int n] H Q E:=Yp n S (.cons Has.int .nil) trivial k
end
def um {b d:Int} (q:0<b) (hd:0<d):0<b.fdiv (Int.gcd b d:Nat)*d/\b∣b.fdiv (Int.gcd b d:Nat)*d/\d∣b.fdiv (Int.gcd b d:Nat)*d:=by
 have r:0<Int.gcd b d:=Int.gcd_pos_of_ne_zero_left d ⋯;have m:(0:Int)<((Int.gcd b d:Nat):Int):=⋯
 rw [Td _ (jbe m)];obtain ⟨x,g⟩:=Int.gcd_dvd_left b d;obtain ⟨y,p⟩:=Int.gcd_dvd_right b d
 have ex:b / ((Int.gcd b d:Nat):Int)=x:=by
  conv=>lhs;arg 1;rw [g]
  exact Int.mul_ediv_cancel_left x ⋯
 rw [ex]
 have x0:0<x:=by
  rcases Int.lt_or_le 0 x with h|h
  ·exact h
  ·have:=Int.mul_nonpos_of_nonneg_of_nonpos (jbe m) h;lia
 refine ⟨Int.mul_pos x0 hd,⟨y,?_⟩,⟨x,Int.mul_comm ..⟩⟩
 conv=>rhs;rw [g,Int.mul_comm ((Int.gcd b d:Nat):Int) x,Int.mul_assoc,<-p]
def dE (s:0<B) (hd:(p.den:Int)∣B):((p.num*B.fdiv (p.den:Int):Int):Rat)=p*(B:Rat):=by
 rw [Td _ (Int.natCast_nonneg _)];obtain ⟨x,rfl⟩:=hd;have m:(p.den:Int)≠0:=by have:=p.den_pos;lia
 rw [Int.mul_ediv_cancel_left _ m,QL,QL,<-Rat.mul_assoc]
 congr 1
 have r:p=Rat.divInt p.num (p.den:Int):=(jbs p).symm;have g:∀z:Int,(z:Rat)=Rat.divInt z 1:=λz=>by rw [<-jbs (z:Rat)];rfl
 have q:=g (p.den:Int)
 conv=>rhs;arg 1;rw [r]
 rw [q,jaG,g,jbG];exact ((jbI m nofun).mpr (by rw [jbG])).symm
noncomputable def tkV (B:Int) (v:List Rat):List Int:=v.map λp=>p.num*B.fdiv (p.den:Int)
def ow (hr:yG P) (p:∀x∈P,x.2.length=m) (g:P[j]? =some c) (hd:P[j+1]? =some d) (r:c.1<=e) (q:e<=d.1):zg P e=Wj c d e:=by
 by_cases lt:e<d.1
 ·have:=Zt hr g r (.inr ⟨d,hd,lt⟩);rw [hd] at this;exact this
 ·have s:e=d.1:=jbz q (TX.mp lt);subst s;have lc:=p c (Qd g);have ld:=p d (Qd hd)
  have u:c.1<d.1:=by
   have:=QR.mp hr j (j+1) (Qf.mp g).1 (Qf.mp hd).1 ⋯;rw [(Qf.mp g).2,(Qf.mp hd).2] at this;exact this
  rw [HQ (by rw [lc,ld]) u]
  cases hn:P[j+1+1]? with
  |none=>
   have:=Zt hr hd Tg (.inl (by
    have r:=(Qf.mp hd).1;have q:=jaE.mp hn
    lia))
   rw [hn] at this;exact this
  |some f=>
   have t:d.1<f.1:=by
    have:=QR.mp hr (j+1) (j+1+1) (Qf.mp hd).1 (Qf.mp hn).1 ⋯;rw [(Qf.mp hd).2,(Qf.mp hn).2] at this;exact this
   have:=Zt hr hd Tg (.inr ⟨f,hn,t⟩);rw [hn] at this;rw [this];exact Xh (by rw [ld,p f (Qd hn)])
def qh (x y:List Rat):List Rat:=List.zipWith (· - ·) x y
def Vu (p:Rat) (x:List Rat):List Rat:=x.map (·*p)
def tH (h:y.length=x.length):(qh x y).length=x.length:=by unfold qh;rw [Qy,h,Tv]
def Bk {x y:List Rat} {i:Nat} {z:Rat} (h:(qh x y)[i]? =some z):∃a b,x[i]? =some a/\y[i]? =some b/\z=a - b:=by
 unfold qh at h;rw [Qx] at h
 cases e:x[i]? with
 |none=>rw [e] at h;cases h
 |some a=>
  cases e2:y[i]? with
  |none=>rw [e,e2] at h;cases h
  |some b=>rw [e,e2] at h;exact ⟨a,b,rfl,rfl,(Qw h).symm⟩
def Uo {x y:List Rat} {i:Nat} {a b:Rat} (m:x[i]? =some a) (g:y[i]? =some b):(qh x y)[i]? =some (a - b):=by
 unfold qh;rw [Qx,m,g]
def Bj {x y:List Rat} (h:y.length=x.length):qh x (qh x y)=y:=by
 apply jat
 intro i
 by_cases p:i<x.length
 ·have m:=Qa p;have g:=Qa (l:=y) (i:=i) ⋯;rw [Uo m (Uo m g),g]
  congr 1
  grind
 ·rw [QC (by rw [tH (by rw [tH h])];lia),QC ⋯]
structure Std (m:Nat) (T:Rat) (as:List Rat) (P:List zi):Prop where
 rise:yG P
 ok:∀c∈P,c.2.length=m/\zu c.2=c.1
 head:P[0]? =some (0,List.replicate m 0)
 last:P.getLast? =some (T,as)
section
def Std.lastC (h:Std m T as P):lastC P=(T,as):=by unfold S.lastC;rw [h.last];rfl
def Std.ne (h:Std m T as P):P≠[]:=λz=>by have:=h.head;rw [z] at this;cases this
def Std.cons (h:Std m T as P):∃r,P=(0,List.replicate m 0)::r:=by
 cases P with
 |nil=>exact absurd rfl h.ne
 |cons c r=>have:=h.head;cases this;exact ⟨r,rfl⟩
def Std.lenA (h:Std m T as P):as.length=m:=(h.ok _ (jaO h.last)).1
def Std.T0 (h:Std m T as P):0<=T:=by
 obtain ⟨r,rfl⟩:=h.cons;have g:=h.last
 cases r with
 |nil=>cases g;exact Tg
 |cons d r=>
  have:(T,as)∈d::r:=by
   rw [jaQ] at g;exact jaO g
  exact QQ ((Qr.mp h.rise).1 _ this)
def Std.sum (h:Std m T as P) (h0:0<=e):zu (zg P e)=mn e T:=by
 obtain ⟨r,g⟩:=h.cons;have:=tD r g h.rise h.ok h0;rw [h.lastC] at this;exact this
def Std.len (h:Std m T as P):(zg P e).length=m:=by
 obtain ⟨r,p⟩:=h.cons;have:=h.ok;rw [p] at this⊢;exact jv λx g=>(this x g).1
def Std.past (h:Std m T as P) (he:T<=e):zg P e=as:=by
 obtain ⟨r,p⟩:=h.cons;have l:=h.lastC;have g:=h.rise;rw [p] at l g⊢;rw [eZ g (by rw [l];exact he),l]
def Std.zero (h:Std m T as P):zg P 0=List.replicate m 0:=by
 obtain ⟨r,p⟩:=h.cons
 cases r with
 |nil=>rw [p];rfl
 |cons d r=>
  have g:=h.rise;have ok:=h.ok;rw [p] at g ok⊢;have lt:=(Qr.mp g).1 d (Qg ..);rw [zg,QD lt];have:=Xh (c:=((0:Rat),List.replicate m (0:Rat))) (d:=d) (by rw [QF,(ok d (Qe _ (Qg ..))).1]);exact this
def Std.turned (h:Std m T as P) (h0:0<=e) (h1:e<=T):zg (yk P) e=qh as (zg P (T - e)):=by
 have K:=h.lastC;have y:∀x∈P,x.2.length=m:=λx u=>(h.ok x u).1
 have rise:yG (yk P):=by
  unfold yk yG;rw [Tb,List.pairwise_reverse]
  exact h.rise.imp λ{c d} N=>by
   show (S.lastC P).1 - d.1<(S.lastC P).1 - c.1
   grind
 have g:∀x∈yk P,x.2.length=m:=λx u=>by
  obtain ⟨c,s,rfl⟩:=Qk.mp u;show (List.zipWith _ (S.lastC P).2 c.2).length=m;rw [Qy,K,y c (jbF.mp s),h.lenA,Tv]
 have lp:0<P.length:=jbb.mpr h.ne;obtain ⟨j,q,X,G,w⟩:=rS (E:=T - e) (M:=P.map λc=>c.1) (z:=0) (by rw [Qh,h.head];rfl) (by grind);rw [Qb] at w;obtain ⟨c,s,rfl⟩:=zM X;have jl:j<P.length:=(Qf.mp s).1
 have p:∀(k:Nat) (x:zi),P[k]? =some x->(yk P)[P.length - 1 - k]? =some (VF (T,as) x):=λk x u=>by
  have kl:k<P.length:=(Qf.mp u).1;unfold yk;rw [Qh,List.getElem?_reverse ⋯,show P.length - 1 - (P.length - 1 - k)=k by lia,u,K];rfl
 by_cases t:j+1=P.length
 ·
  have L:c=(T,as):=by
   have:=h.last;rw [jbE,show P.length - 1=j by lia,s] at this;exact Qw this
  have e0:e=0:=by
   rw [L] at G;have:T<=T - e:=G;exact jbz (by grind) h0
  subst e0;rw [show T - (0:Rat)=T by grind,h.past Tg];have ht:=p j c s;rw [show P.length - 1 - j=0 by lia,L] at ht
  have J:VF (T,as) (T,as)=(0,List.replicate m 0):=by
   unfold VF;rw [show T - T=(0:Rat) by grind]
   congr 1
   apply Tx
   ·rw [Qy,h.lenA,QF,Tv]
   ·intro i _ _;rw [QV,TB]
    grind
  have e2:qh as as=List.replicate m 0:=(congrArg Prod.snd J);rw [e2];rw [J] at ht
  cases hT:yk P with
  |nil=>rw [hT] at ht;cases ht
  |cons x r=>
   rw [hT] at ht rise g;cases ht
   cases r with
   |nil=>rfl
   |cons d r=>
    have lt:=(Qr.mp rise).1 d (Qg ..);rw [zg,QD lt];have:=Xh (c:=((0:Rat),List.replicate m (0:Rat))) (d:=d) (by rw [QF,g d (Qe _ (Qg ..))]);exact this
 ·rcases w with z|⟨r,hr,Ny⟩
  ·exact absurd z t
  obtain ⟨d,hd,rfl⟩:=zM hr;have lc:=y c (Qd s);have ld:=y d (Qd hd);have N:c.1<d.1:=by grind
  rw [ow h.rise y s hd G (QQ Ny)];have t1:=p (j+1) d hd;have I:=p j c s;have dl:j+1<P.length:=(Qf.mp hd).1;rw [show P.length - 1 - j=P.length - 1 - (j+1)+1 by lia] at I;rw [ow rise g t1 I (by show T - d.1<=e;grind) (by show e<=T - c.1;grind)];unfold Wj qh
  apply jat
  intro i
  by_cases Z:i<m
  ·have U:i<as.length:=by rw [h.lenA];exact Z
   have O:i<c.2.length:=⋯
   have id':i<d.2.length:=⋯
   have a1:=Qa U;have c1:=Qa O;have d1:=Qa id';unfold VF;dsimp only;rw [Qx,Qx,Qx,Qx,Qx,a1,c1,d1]
   congr 1
   generalize as[i]=A;generalize c.2[i]=C;generalize d.2[i]=D;unfold Ya;have Y:=Tw _ (XO N);rw [jac,jac,show T - c.1 - (T - d.1)=d.1 - c.1 by grind];generalize (d.1 - c.1)⁻¹=v at*
   grind
  ·rw [QC,QC]
   ·simp only [Qy,h.lenA,lc,ld];lia
   ·simp only [VF,Qy,h.lenA,lc,ld];lia
end
structure Row where
 am:Rat
 rank:Int
 group:Int
 part:Rat
def Yi (L:List Row):Rat:=zu (L.map (·.am))
def XN (L:List Row):Rat:=zu (L.map (·.part))
def Row.flip (x:Row):Row:={x with part:=x.am - x.part}
def Row.first (p:Rat) (x:Row):Row:={x with am:=x.am*p}
def Row.rest (p:Rat) (x:Row):Row:={x with am:=x.am*(1 - p),part:=x.part - x.am*p}
def Row.scale (c:Rat) (x:Row):Row:={x with am:=x.am*c,part:=x.part*c}
def InQ (L:List Row):Prop:=∀x∈L,0<=x.part/\x.part<=x.am
def XI (L:List Row):Prop:=∀x∈L,x.part*Yi L=x.am*XN L
def yT (L:List Row):Prop:=InQ L/\∀x∈L,x.part<x.am->∀y∈L,y.part<=x.part
def xM (p:Rat) (X Y:List Row->Prop) (L:List Row):Prop:=if XN L<=Yi L*p then X (L.map (Row.first p)) else Y (L.map (Row.rest p))
noncomputable def yE:Rl->List Row->Prop
 | .shares,L=>InQ L/\XI L
 | .evenly,L=>InQ L/\yT L
 | .losses,L=>InQ L/\yT (L.map Row.flip)
 | .halves,L=>InQ L/\xM (1 / 2) (λL=>InQ L/\yT L) (λL=>InQ L/\yT (L.map Row.flip)) L
 | .other r,L=>InQ L/\yE r (L.map Row.flip)
 | .ranks r,L=>InQ L/\(∀k,yE r (L.filter (·.rank=k)))/\∀x∈L,∀y∈L,x.rank<y.rank->0<y.part->x.part=x.am
 | .groups _ _,L=>L=[]
 | .upto t b x y,L=>InQ L/\xM (Rat.divInt t b) (yE x) (yE y) L
theorem yE.inQ:∀{r:Rl} {L:List Row},yE r L->InQ L
 | .shares,_,h=>h.1
 | .evenly,_,h=>h.1
 | .losses,_,h=>h.1
 | .halves,_,h=>h.1
 | .other _,_,h=>h.1
 | .ranks _,_,h=>h.1
 | .groups _ _,L,h=>λx g=>by rw [show L=[] from h] at g;cases g
 | .upto _ _ _ _,_,h=>h.1
section
variable {c:Rat} {L:List Row}
def iW:Yi (L.map (Row.scale c))=Yi L*c:=by
 unfold Yi;rw [<-yR,Qo,Qo];rfl
def iV:XN (L.map (Row.scale c))=XN L*c:=by
 unfold XN;rw [<-yR,Qo,Qo];rfl
def fv (g:0<c):x*c<=y*c↔x<=y:=by
 constructor
 ·intro h
  by_cases z:x<=y
  ·exact z
  ·have:=jbR (show 0<x - y by grind) g
   grind
 ·intro h;exact xV h (QQ g)
def InQ.scale (g:0<c) (h:InQ L):InQ (L.map (Row.scale c)):=λx p=>by
 obtain ⟨y,m,rfl⟩:=Qk.mp p;have:=h y m;exact ⟨QN this.1 (QQ g),xV this.2 (QQ g)⟩
def yT.scale (m:0<c) (h:yT L):yT (L.map (Row.scale c)):=by
 refine ⟨h.1.scale m,λx r lt y q=>?_⟩;obtain ⟨g,t,rfl⟩:=Qk.mp r;obtain ⟨p,s,rfl⟩:=Qk.mp q
 have lt':g.part<g.am:=by
  rcases jbp.mp (λz=>absurd ((fv m).mpr z) (jbp.mpr lt)) with z
  exact z
 exact xV (h.2 g t lt' p s) (QQ m)
def aV:(L.map (Row.scale c)).map Row.flip=(L.map Row.flip).map (Row.scale c):=by
 rw [Qo,Qo];refine QA λx _=>?_;simp only [Function.comp,Row.flip,Row.scale]
 congr 1
 grind
def rR:(L.map (Row.scale c)).map (Row.first p)=(L.map (Row.first p)).map (Row.scale c):=by
 rw [Qo,Qo];refine QA λx _=>?_;simp only [Function.comp,Row.first,Row.scale]
 congr 1
 grind
def vL:(L.map (Row.scale c)).map (Row.rest p)=(L.map (Row.rest p)).map (Row.scale c):=by
 rw [Qo,Qo];refine QA λx _=>?_;simp only [Function.comp,Row.rest,Row.scale]
 congr 1<;>grind
def xM.scale (g:0<c) (q:∀L,X L->X (L.map (Row.scale c))) (m:∀L,Y L->Y (L.map (Row.scale c))) (h:xM p X Y L):xM p X Y (L.map (Row.scale c)):=by
 unfold xM at h⊢;rw [iV,iW,show Yi L*c*p=Yi L*p*c by grind]
 by_cases z:XN L<=Yi L*p
 ·rw [QD z] at h;rw [QD ((fv g).mpr z),rR];exact q _ h
 ·rw [QI z] at h;rw [QI (λw=>z ((fv g).mp w)),vL];exact m _ h
def rT:(L.map (Row.scale c)).filter (·.rank=k)=(L.filter (·.rank=k)).map (Row.scale c):=by
 rw [List.filter_map];rfl
theorem yE.scale (g:0<c):∀{r:Rl} {L:List Row},yE r L->yE r (L.map (Row.scale c))
 | .shares,L,h=>⟨h.1.scale g,λx s=>by
  obtain ⟨y,q,rfl⟩:=Qk.mp s;have:=h.2 y q;rw [iW,iV];show y.part*c*(Yi L*c)=y.am*c*(XN L*c)
  grind⟩
 | .evenly,L,h=>⟨h.1.scale g,h.2.scale g⟩
 | .losses,L,h=>⟨h.1.scale g,by rw [aV];exact h.2.scale g⟩
 | .halves,L,h=>⟨h.1.scale g,xM.scale g (λL z=>⟨z.1.scale g,z.2.scale g⟩) (λL z=>⟨z.1.scale g,by rw [aV];exact z.2.scale g⟩) h.2⟩
 | .other r,L,h=>⟨h.1.scale g,by rw [aV];exact yE.scale g h.2⟩
 | .ranks r,L,h=>⟨h.1.scale g,λk=>by rw [rT];exact yE.scale g (h.2.1 k),λx s y q lt pos=>by
  obtain ⟨p,w,rfl⟩:=Qk.mp s;obtain ⟨m,u,rfl⟩:=Qk.mp q
  have py:0<m.part:=by
   rcases jbp.mp (λz:m.part<=0=>absurd (by have:=(fv g).mpr z;rwa [jbJ] at this) (jbp.mpr pos)) with z
   exact z
  show p.part*c=p.am*c
  rw [h.2.2 p w m u lt py]⟩
 | .groups _ _,L,h=>by rw [show L=[] from h];rfl
 | .upto t b x y,L,h=>⟨h.1.scale g,xM.scale g (λL z=>yE.scale g z) (λL z=>yE.scale g z) h.2⟩
end
def xk (c:Cl) (p:Rat):Row:=⟨(c.1:Rat),c.2.1,c.2.2,p⟩
def zo (l:List Cl) (v:List Rat):List Row:=List.zipWith xk l v
def amQ (l:List Cl):List Rat:=l.map λc=>(c.1:Rat)
section
def yZ (h:x∈zo l v):∃(i:Nat) (c:Cl) (p:Rat),l[i]? =some c/\v[i]? =some p/\x=xk c p:=by
 obtain ⟨i,m,e⟩:=QK h;have g:=m;unfold zo at g;rw [Qy] at g;refine ⟨i,l[i]'⋯,v[i]'⋯,Qa _,Qa _,?_⟩;rw [<-e];exact QV
def ZY {i:Nat} {c:Cl} {p:Rat} (g:l[i]? =some c) (hp:v[i]? =some p):xk c p∈zo l v:=by
 apply Qd
 unfold zo;rw [Qx,g,hp]
theorem YS:∀{l:List Cl} {v:List Rat},v.length=l.length->Yi (zo l v)=zu (amQ l)
 |[],[],_=>rfl
 |[],_::_,h=>by simp at h
 |_::_,[],h=>by simp at h
 |c::l,p::v,h=>by
  have:=YS ‹h›;unfold Yi at this⊢;show zu ((c.1:Rat)::(zo l v).map (·.am))=zu ((c.1:Rat)::amQ l);rw [zu,zu,this]
theorem YR:∀{l:List Cl} {v:List Rat},v.length=l.length->XN (zo l v)=zu v
 |[],[],_=>rfl
 |[],_::_,h=>by simp at h
 |_::_,[],h=>by simp at h
 |c::l,p::v,h=>by
  have:=YR ‹h›;unfold XN at this⊢;show zu (p::(zo l v).map (·.part))=zu (p::v);rw [zu,zu,this]
theorem Ux:∀{l:List Cl} {v:List Rat},(zo l v).map Row.flip=zo l (qh (amQ l) v)
 |[],_=>rfl
 |_::_,[]=>rfl
 |c::l,p::v=>by
  show _::(zo l v).map Row.flip=_::zo l (qh (amQ l) v);rw [Ux];rfl
theorem jm (p:Rat):∀{l:List Cl} {v:List Rat},(zo l (Vu p v)).map (Row.first p)=(zo l v).map (Row.scale p)
 |[],_=>rfl
 |_::_,[]=>rfl
 |c::l,q::v=>by
  show _::(zo l (Vu p v)).map (Row.first p)=_::(zo l v).map (Row.scale p);rw [jm];rfl
def aI (p:Rat) (as v:List Rat):List Rat:=List.zipWith (λa x=>a*p+x*(1 - p)) as v
theorem nP (p:Rat):∀{l:List Cl} {v:List Rat},(zo l (aI p (amQ l) v)).map (Row.rest p)=(zo l v).map (Row.scale (1 - p))
 |[],_=>rfl
 |_::_,[]=>rfl
 |c::l,q::v=>by
  show Row.rest p (xk c ((c.1:Rat)*p+q*(1 - p)))::(zo l (aI p (amQ l) v)).map (Row.rest p)=Row.scale (1 - p) (xk c q)::(zo l v).map (Row.scale (1 - p));rw [nP]
  congr 1
  simp only [Row.rest,Row.scale,xk]
  congr 1
  grind
def bH (l:List Cl):(amQ l).length=l.length:=Qb _
end
structure Good (r:Rl) (l:List Cl) (P:List zi):Prop where
 std:Std l.length (zu (amQ l)) (amQ l) P
 fit:∀e:Rat,0<=e->yE r (zo l (zg P e))
section
def Std.clip (h:Std m T as P):zg P e=zg P (mn e T):=by
 unfold mn
 split
 ·rfl
 ·rename_i c;rw [h.past (QQ (jbp.mp c)),h.past Tg]
def lZ (h:Std m T as P):Std m T as (yk P):=by
 have p:=h.lastC;have g:=h.lenA;obtain ⟨r,u⟩:=h.cons
 have tz:VF (T,as) (T,as)=(0,List.replicate m 0):=by
  unfold VF;rw [show T - T=(0:Rat) by grind]
  congr 1
  apply Tx
  ·rw [Qy,g,QF,Tv]
  ·intro i _ _;rw [QV,TB]
   grind
 have t0:VF (T,as) (0,List.replicate m 0)=(T,as):=by
  unfold VF;dsimp only;rw [show T - (0:Rat)=T by grind]
  congr 1
  apply Tx
  ·rw [Qy,g,QF,Tv]
  ·intro i _ _;rw [QV,TB]
   grind
 have sub:∀{x y:List Rat},x.length=y.length->zu (List.zipWith (· - ·) x y)=zu x - zu y:=by
  intro x
  induction x with
  |nil=>intro y h;cases y with
   |nil=>rw [List.zipWith_nil_left,zu];grind
   |cons _ _=>simp at h
  |cons a x s=>intro y h;cases y with
   |nil=>simp at h
   |cons b y=>rw [jaq,zu,zu,zu,s ‹h›];grind
 have q:zu as=T:=(h.ok _ (jaO h.last)).2;refine ⟨?_,λc t=>?_,?_,?_⟩
 ·unfold yk yG;rw [Tb,List.pairwise_reverse]
  exact h.rise.imp λ{c d} NH=>by
   show (S.lastC P).1 - d.1<(S.lastC P).1 - c.1
   grind
 ·obtain ⟨d,hd,rfl⟩:=Qk.mp t;have ok:=h.ok d (jbF.mp hd);rw [p];refine ⟨?_,?_⟩
  ·show (List.zipWith _ as d.2).length=m;rw [Qy,g,ok.1,Tv]
  ·show zu (List.zipWith _ as d.2)=T - d.1;rw [sub (by rw [g,ok.1]),q,ok.2]
 ·unfold yk;rw [Qh,<-List.head?_eq_getElem?,List.head?_reverse,h.last,p,<-tz];rfl
 ·unfold yk;rw [jaC,List.getLast?_reverse,p,List.head?_eq_getElem?,h.head];show some (VF (T,as) (0,List.replicate m 0))=_;rw [t0]
def Good.other (h:Good r l P):Good (.other r) l (yk P):=by
 have st:=h.std;refine ⟨lZ st,λe h0=>?_⟩;have p:=lZ st;rw [p.clip]
 have m0:0<=mn e (zu (amQ l)):=by
  have:=st.T0;unfold mn
  split<;>grind
 have m1:mn e (zu (amQ l))<=zu (amQ l):=by unfold mn;split<;>grind
 rw [st.turned m0 m1];have f:=h.fit (zu (amQ l) - mn e (zu (amQ l))) (by grind);have ln:=st.len (e:=zu (amQ l) - mn e (zu (amQ l)));generalize zg P (zu (amQ l) - mn e (zu (amQ l)))=w at*;refine ⟨?_,by rw [Ux,Bj (by rw [bH];exact ln)];exact f⟩;intro x g;rw [<-Ux] at g;obtain ⟨z,m,rfl⟩:=Qk.mp g;have:=f.inQ z m;show 0<=z.am - z.part/\z.am - z.part<=z.am
 grind
def Wq (hp:0<p) (h:Std m T as P):Std m (T*p) (Vu p as) (zO p P):=by
 refine ⟨qD hp h.rise,λc g=>?_,?_,?_⟩
 ·obtain ⟨d,hd,rfl⟩:=Qk.mp g;have:=h.ok d hd;exact ⟨by rw [Qb];exact this.1,by rw [yR,this.2]⟩
 ·unfold zO;rw [Qh,h.head];show some ((0:Rat)*p,(List.replicate m (0:Rat)).map (·*p))=_;rw [jbJ,jbt,jbJ]
 ·unfold zO;rw [jaC,h.last];rfl
def gn (h:Std m T as P) (h':Std m T' SM P'):Std m (T+T') (List.zipWith (·+·) as SM) (P++yx P P'):=by
 have r:=h.lastC;obtain ⟨G,g⟩:=h'.cons;have q:=h.lenA;have mem:(T,as)∈P:=jaO h.last;have D:=(h.ok _ mem).2;refine ⟨?_,λc u=>?_,?_,?_⟩
 ·refine TR.mpr ⟨h.rise,?_,λc u d hd=>?_⟩
  ·unfold yx;rw [Tb];refine jbD (λ{a b} Ot=>?_) (jbf (List.tail_sublist P') h'.rise);show (S.lastC P).1+a.1<(S.lastC P).1+b.1
   grind
  ·obtain ⟨d',A,rfl⟩:=Qk.mp hd
   have L:c.1<=T:=by
    obtain ⟨i,J,rfl⟩:=QK u;have C:=h.last;rw [jbE] at C;obtain ⟨s,y⟩:=Qf.mp C
    by_cases z:i=P.length - 1
    ·subst z;rw [y];exact Tg
    ·have:=QR.mp h.rise i (P.length - 1) J s ⋯;rw [y] at this;exact QQ this
   have K:0<d'.1:=by
    have w:=h'.rise;rw [g] at w A;exact (Qr.mp w).1 d' A
   show c.1<(S.lastC P).1+d'.1;rw [r];show c.1<T+d'.1
   grind
 ·rcases QW.mp u with z|z
  ·exact h.ok c z
  ·obtain ⟨d,hd,rfl⟩:=Qk.mp z;have ok:=h'.ok d (TU hd);rw [r];refine ⟨?_,?_⟩
   ·show (List.zipWith _ as d.2).length=m;rw [Qy,q,ok.1,Tv]
   ·show zu (List.zipWith (·+·) as d.2)=T+d.1;rw [cP (by rw [q,ok.1]),ok.2];rw [show zu as=T from D]
 ·rw [jaa (jbb.mpr h.ne),h.head]
 ·unfold yx
  have I:List.zipWith (·+·) as (List.replicate m (0:Rat))=as:=by
   apply Tx
   ·rw [Qy,q,QF,Tv]
   ·intro i _ _;rw [QV,TB]
    grind
  cases G with
  |nil=>
   have p:=h'.last;rw [g] at p⊢;cases p;rw [List.tail_cons,Tu,jaX,h.last,I,Rat.add_zero]
  |cons d t=>
   have p:=h'.last;rw [g,jaQ] at p;rw [g,List.tail_cons,List.getLast?_append,jaC,p,r];rfl
def lR (h:Std m T as P):Std m T as (yi P)/\∀e:Rat,0<=e->zg (yi P) e=zg P e:=by
 obtain ⟨r,g⟩:=h.cons;have sub:=Zi P
 have s:(yi P).getLast? =P.getLast? :=by
  rw [g];show ((0,List.replicate m 0)::yc (0,List.replicate m 0) r).getLast? =((0,List.replicate m 0)::r).getLast?
  have:∀(r:List zi) (a:zi),(yc a r).getLast? =r.getLast? :=by
   intro r
   induction r with
   |nil=>intro a;rw [yc]
   |cons b r q=>
    intro a
    cases r with
    |nil=>rw [yc]
    |cons c r=>
     rw [yc]
     split
     ·rw [q b,jaQ]
     ·rw [jbM,q b,jaQ,jbM];rfl
  rw [jbM,this,<-jbM]
 refine ⟨⟨jbf sub h.rise,λc u=>h.ok c (sub.subset u),by rw [g];rfl,by rw [s];exact h.last⟩,λe h0=>?_⟩;have p:=h.rise;have ok:=h.ok;rw [g] at p ok⊢;exact lS p (λx t=>(ok x t).1) h0
def cg (h:Std m T as P) (h':Std m T' SM P') (h0:0<=e):zg (yi (P++yx P P')) e=if e<T then zg P e else List.zipWith (·+·) as (zg P' (e - T)):=by
 have s:=gn h h';obtain ⟨_,y⟩:=lR s;rw [y e h0];obtain ⟨D,p⟩:=h.cons;obtain ⟨w,g⟩:=h'.cons;have t:=h.lastC
 split
 ·rename_i c;have lt:e<(S.lastC P).1:=by rw [t];exact c
  generalize C:yx P P'=M;rw [p] at lt⊢;exact WE h0 lt
 ·rename_i c;have ge:T<=e:=TX.mp c;have le:(S.lastC P).1<=e:=by rw [t];exact ge
  have u:=h.rise
  have ev:zg (P++yx P P') e=zg (S.lastC P::yx P P') e:=by
   generalize C:yx P P'=M;rw [p] at le u⊢;exact ZC u le
  rw [ev,t]
  have em:((T,as):zi)::yx P P'=P'.map (Vq (T,as)):=by
   unfold yx;rw [t]
   conv=>rhs;rw [g]
   rw [Qj]
   congr 1
   ·unfold Vq;dsimp only;rw [Rat.add_zero]
    congr 1
    apply Tx
    ·rw [Qy,QF,h.lenA,Tv]
    ·intro i _ _;rw [QV,TB]
     grind
   ·rw [g];rfl
  rw [em];have pp:=eY (m:=m) (c:=(T,as)) (e:=e) h.lenA (q:=(0,List.replicate m 0)) (r:=w) (by rw [<-g];exact λz A=>(h'.ok z A).1);rw [<-g] at pp;exact pp
def Good.upto {p:Rat} {t b:Int} (ep:p=Rat.divInt t b) (p0:0<p) (p1:p<1) (nn:∀c∈l,0<=c.1) (u:Good x l P) (J:Good y l P'):Good (.upto t b x y) l (We p P P'):=by
 have s:0<1 - p:=by grind
 have s1:=Wq p0 u.std;have s2:=Wq s J.std;have s3:=gn s1 s2;have eT:zu (amQ l)*p+zu (amQ l)*(1 - p)=zu (amQ l):=by grind
 have eA:List.zipWith (·+·) (Vu p (amQ l)) (Vu (1 - p) (amQ l))=amQ l:=by
  unfold Vu
  apply Tx
  ·simp
  ·intro i _ _;simp only [QV,jaz]
   grind
 rw [eT,eA] at s3;obtain ⟨Y,_⟩:=lR s3;refine ⟨Y,λe h0=>?_⟩;unfold We;rw [cg s1 s2 h0];have G:∀e:Rat,(zg P e).length=l.length:=λe=>u.std.len;have D:∀e:Rat,(zg P' e).length=l.length:=λe=>J.std.len;have T0:=u.std.T0;have I:∀(i:Nat) (c:Cl),l[i]? =some c->(0:Rat)<=(c.1:Rat):=λi c A=>bt (nn c (Qd A));have N:∀v:List Rat,v.length=l.length->Yi (zo l v)=zu (amQ l):=λv hv=>YS hv
 have low:∀w:List Rat,w.length=l.length->yE x (zo l w)->zu w<=zu (amQ l)->yE (.upto t b x y) (zo l (Vu p w)):=λw hw C K=>by
  have lw:(Vu p w).length=l.length:=by unfold Vu;rw [Qb];exact hw
  refine ⟨λz M=>?_,?_⟩
  ·obtain ⟨i,c,q,A,g,rfl⟩:=yZ M;unfold Vu at g;rw [Qh] at g
   cases r:w[i]? with
   |none=>rw [r] at g;cases g
   |some m=>
    rw [r] at g;cases g;have:=C.inQ _ (ZY A r);have a0:=I i c A;have t1:0<=m/\m<=(c.1:Rat):=this;show 0<=m*p/\m*p<=(c.1:Rat);refine ⟨QN t1.1 (QQ p0),?_⟩;have X:=xV t1.2 (QQ p0);have U:=QN a0 (QQ s)
    grind
  ·rw [<-ep];unfold xM;rw [N _ lw,YR lw];have:zu (Vu p w)=zu w*p:=yR p w;rw [this,QD ((fv p0).mpr K),jm];exact yE.scale p0 C
 have high:∀w:List Rat,w.length=l.length->yE y (zo l w)->0<zu w->yE (.upto t b x y) (zo l (aI p (amQ l) w)):=λw hw C K=>by
  have lw:(aI p (amQ l) w).length=l.length:=by unfold aI;rw [Qy,bH,hw,Tv]
  have es:zu (aI p (amQ l) w)=zu (amQ l)*p+zu w*(1 - p):=by
   have r:aI p (amQ l) w=List.zipWith (·+·) (Vu p (amQ l)) (Vu (1 - p) w):=by
    unfold aI Vu;rw [jbV]
   rw [r,cP (by unfold Vu;rw [Qb,Qb,bH,hw])];show zu ((amQ l).map (·*p))+zu (w.map (·*(1 - p)))=_;rw [yR,yR]
  refine ⟨λz M=>?_,?_⟩
  ·obtain ⟨i,c,q,A,g,rfl⟩:=yZ M;unfold aI at g;rw [Qx] at g;have ea:(amQ l)[i]? =some (c.1:Rat):=by unfold amQ;rw [Qh,A];rfl
   rw [ea] at g
   cases r:w[i]? with
   |none=>rw [r] at g;cases g
   |some m=>
    rw [r] at g;cases g;have:=C.inQ _ (ZY A r);have a0:=I i c A;have t1:0<=m/\m<=(c.1:Rat):=this;show 0<=(c.1:Rat)*p+m*(1 - p)/\(c.1:Rat)*p+m*(1 - p)<=(c.1:Rat);have u0:=QN a0 (QQ p0);have X:=xV t1.2 (QQ s);have U:=QN t1.1 (QQ s)
    grind
  ·rw [<-ep];unfold xM;rw [N _ lw,YR lw,es];have pos:=jbR K s;rw [QI (by grind),nP];exact yE.scale s C
 split
 ·rw [WD p0];have e0:0<=e / p:=by rw [jac];exact QN h0 (QQ (Rat.inv_pos.mpr p0))
  refine low _ (G _) (u.fit _ e0) ?_;rw [u.std.sum e0];unfold mn
  split<;>grind
 ·rename_i c;have ge:zu (amQ l)*p<=e:=TX.mp c
  have k:List.zipWith (·+·) (Vu p (amQ l)) (zg (zO (1 - p) P') (e - zu (amQ l)*p))=aI p (amQ l) (zg P' ((e - zu (amQ l)*p) / (1 - p))):=by
   rw [WD s];unfold aI Vu;rw [jbV]
  rw [k];have O:0<=(e - zu (amQ l)*p) / (1 - p):=by rw [jac];exact QN (by grind) (QQ (Rat.inv_pos.mpr s))
  have C:=J.fit _ O;have sw:=J.std.sum O;have lw:=D ((e - zu (amQ l)*p) / (1 - p));generalize zg P' ((e - zu (amQ l)*p) / (1 - p))=w at*
  by_cases pos:0<zu w
  ·exact high w lw C pos
  ·
   have T:∀q∈w,q=0:=by
    have L:∀q∈w,0<=q:=λq g=>by
     obtain ⟨i,hi,rfl⟩:=QK g;have:=C.inQ _ (ZY (Qa ⋯) (Qa hi));exact this.1
    have:∀{w:List Rat},(∀q∈w,0<=q)->0<=zu w/\(zu w<=0->∀q∈w,q=0):=by
     intro w
     induction w with
     |nil=>intro _;exact ⟨by rw [zu];exact Tg,λ_ q g=>absurd g Qm⟩
     |cons a w Z=>
      intro h;have ha:=h a (Qg ..);obtain ⟨i1,i2⟩:=Z λq g=>h q (Qe _ g);rw [zu];refine ⟨by grind,λK q g=>?_⟩
      rcases Qn.mp g with rfl|g
      ·exact jbz (by grind) ha
      ·exact i2 (by grind) q g
    exact (this L).2 (TX.mp pos)
   have ew:aI p (amQ l) w=Vu p (amQ l):=by
    unfold aI Vu
    apply Tx
    ·rw [Qy,Qb,bH,lw,Tv]
    ·intro i h1 h2;rw [QV,jaz,T _ (Ta _)]
     grind
   rw [ew];have full:=u.fit _ u.std.T0;rw [u.std.past Tg] at full;exact low _ (bH l) full Tg
end
def UP (l:List Cl):amQ l=(amV l).map λ(a:Int)=>(a:Rat):=by unfold amQ amV;rw [Qo];rfl
def Zj (l:List Cl):zu (amQ l)=(((amV l).sum:Int):Rat):=by rw [UP,Um]
def dC (l:List Cl):zR (amV l)=(zu (amQ l),amQ l):=by rw [Zj,UP];rfl
def Ls (ne:P≠[]) (h:lastC P=c):P.getLast? =some c:=by
 rw [<-h];unfold lastC;rw [Tr ne];rfl
section
def XD (h:LvOk (amV l) ls):Good .evenly l (evP (amV l) ls):=by
 obtain ⟨r,s⟩:=Ei h;refine ⟨⟨h.riseE,λc q=>by rw [<-zQ];exact uH _ _ c q,by rw [s,XM,zQ];rfl,Ls (by rw [s];simp) (by rw [uI h,dC])⟩,λe h0=>?_⟩;obtain ⟨z,t,u⟩:=h.evenly h0;rw [u]
 have row:∀x∈zo l ((amV l).map λ(a:Int)=>mn (a:Rat) z),0<=x.am/\x.part=mn x.am z:=λx m=>by
  obtain ⟨i,c,p,q,hp,rfl⟩:=yZ m;unfold amV at hp;rw [Qo,Qh,q] at hp;cases hp;exact ⟨bt (h.nn _ (Qk.mpr ⟨c,Qd q,rfl⟩)),rfl⟩
 have g:InQ (zo l ((amV l).map λ(a:Int)=>mn (a:Rat) z)):=λx m=>by
  obtain ⟨a0,e⟩:=row x m;rw [e];exact mn_nn a0 t
 refine ⟨g,g,λx m lt y w=>?_⟩;obtain ⟨a0,ex⟩:=row x m;obtain ⟨C,A⟩:=row y w;rw [ex] at lt⊢;rw [A];unfold mn at lt⊢
 split at lt
 ·exact absurd lt jaP
 ·rename_i c;rw [QI c]
  split<;>grind
def fH (h:LvOk (amV l) ls):Good .losses l (loP (amV l) ls):=by
 have g:=(XD h).other;rw [dD h] at g;exact ⟨g.std,λe h0=>⟨(g.fit e h0).1,(g.fit e h0).2.2⟩⟩
def fG (nn:∀a∈amV l,0<=a):Good .shares l (shP (amV l)):=by
 have s0:=bV nn
 have std:Std l.length (zu (amQ l)) (amQ l) (shP (amV l)):=by
  have u:(amV l).sum=0->amQ l=List.replicate l.length 0:=λc=>by
   have:=tx nn c;rw [UP,<-zQ,<-jaZ];exact QA λa ha=>by rw [this a ha];rfl
  unfold shP
  by_cases c:(amV l).sum=0
  ·rw [QD c];refine ⟨jai _ _,λx g=>?_,by rw [XM,zQ];rfl,?_⟩
   ·rw [Qp.mp g];have:=Xm (ZS (amV l).length);rw [Ul,zQ] at this;rw [zQ];exact this
   ·show some _=some _;rw [XM,zQ,u c,YL];rfl
  ·rw [QI c];refine ⟨?_,λx g=>?_,by rw [XM,zQ];rfl,?_⟩
   ·refine Qr.mpr ⟨λd hd=>?_,jai _ _⟩;rw [Qp.mp hd,XM];exact Zm (show 0<(amV l).sum by lia)
   ·rcases Qn.mp g with rfl|g
    ·have:=Xm (ZS (amV l).length);rw [Ul,zQ] at this;rw [zQ];exact this
    ·rw [Qp.mp g,<-zQ];exact Xm _
   ·show some _=some _;rw [dC];rfl
 refine ⟨std,λe h0=>?_⟩;have ln:=std.len (e:=e);obtain ⟨z,⟨t,z1⟩,r,_⟩:=FK nn h0;have m:=YR ln;have q:=YS ln
 have es:zu (zg (shP (amV l)) e)=zu (amQ l)*z:=by
  rw [r,UP,<-yR,Qo];rfl
 rw [es] at m;rw [r] at m q⊢
 have row:∀x∈zo l ((amV l).map λ(a:Int)=>(a:Rat)*z),0<=x.am/\x.part=x.am*z:=λx g=>by
  obtain ⟨i,c,p,s,hp,rfl⟩:=yZ g;unfold amV at hp;rw [Qo,Qh,s] at hp;cases hp;exact ⟨bt (nn _ (Qk.mpr ⟨c,Qd s,rfl⟩)),rfl⟩
 refine ⟨λx g=>?_,λx g=>?_⟩
 ·obtain ⟨a0,e⟩:=row x g;rw [e];refine ⟨QN a0 t,?_⟩;have:=QN a0 (show 0<=1 - z by grind)
  grind
 ·rw [q,m,(row x g).2]
  grind
def rQ (h:LvOk (amV l) ls):Good .halves l (yi (hvP (amV l) ls)):=by
 have m:Rat.divInt 1 2=(1:Rat) / 2:=by decide+kernel
 have g:=Good.upto (p:=1 / 2) m.symm uy (by decide+kernel) (λc q=>h.nn _ (Qk.mpr ⟨c,q,rfl⟩)) (XD h) (fH h)
 have r:We (1 / 2) (evP (amV l) ls) (loP (amV l) ls)=yi (hvP (amV l) ls):=by
  unfold We;rw [show (1:Rat) - 1 / 2=1 / 2 by decide+kernel];rfl
 rw [r] at g;refine ⟨g.std,λe h0=>?_⟩;have f:=g.fit e h0;refine ⟨f.1,?_⟩;have f2:=f.2;rw [m] at f2;exact f2
end
def yf (m:b≠0):Rat.divInt t b*(b:Rat)=(t:Rat):=by
 have g:∀z:Int,(z:Rat)=Rat.divInt z 1:=λz=>by rw [<-jbs (z:Rat)];rfl
 rw [g b,g t,jaG,jbG];exact (jbI m nofun).mpr (by rw [jbG])
def Ua (h:Xi t b):0<Rat.divInt t b/\Rat.divInt t b<1:=by
 obtain ⟨_,t0,p,_⟩:=h;have g:(0:Rat)<(b:Rat):=Zm ⋯;have e:=yf (t:=t) (b:=b) ⋯;have r:=Zm t0;have m:=mw p;generalize Rat.divInt t b=q at*
 constructor
 ·by_cases z:0<q
  ·exact z
  ·have:=xV (TX.mp z) (QQ g)
   grind
 ·by_cases z:q<1
  ·exact z
  ·have:=xV (TX.mp z) (QQ g)
   grind
def ZM (D:Int) (x:Rat):Prop:=∃k:Int,x*(D:Rat)=(k:Rat)
section
def ZM.mul (h:ZM D x) (n:Int):ZM (D*n) x:=by
 obtain ⟨k,g⟩:=h;exact ⟨k*n,by rw [QL,QL,<-Rat.mul_assoc,g]⟩
def ZM.mulL (h:ZM D x) (n:Int):ZM (n*D) x:=by rw [Int.mul_comm];exact h.mul n
def ZM.add (h:ZM D x) (g:ZM D y):ZM D (x+y):=by
 obtain ⟨k,m⟩:=h;obtain ⟨j,p⟩:=g;exact ⟨k+j,by rw [Rat.intCast_add,<-m,<-p];grind⟩
def ZM.sub (h:ZM D x) (g:ZM D y):ZM D (x - y):=by
 obtain ⟨k,m⟩:=h;obtain ⟨j,p⟩:=g;exact ⟨k - j,by rw [jba,<-m,<-p];grind⟩
def ZM.port (m:b≠0) (h:ZM D x):ZM (b*D) (x*Rat.divInt t b):=by
 obtain ⟨k,g⟩:=h;refine ⟨k*t,?_⟩;have e:=yf (t:=t) m;rw [QL,QL,<-g,<-e]
 grind
def ZM.int (n:Int) (D:Int):ZM D (n:Rat):=⟨n*D,by rw [QL]⟩
def ZM.sz (h:ZM D x) (y:0<D) (g:Sz m D) (x0:0<=x) (s:x<=T) (r:∃k:Int,T=(k:Rat)/\Sz n k):SzQ (n+m) x:=by
 obtain ⟨k,p⟩:=h;obtain ⟨t,rfl,q⟩:=r;have dp:=Zm y
 have e:x=Rat.divInt k D:=by
  have A:=yf (t:=k) (b:=D) ⋯;have:(x - Rat.divInt k D)*(D:Rat)=0:=by grind
  rcases Rat.mul_eq_zero.mp this with z|z
  ·grind
  ·rw [z] at dp;exact absurd dp jaP
 have w:0<=k:=WQ (by rw [<-p];exact QN x0 (QQ dp));have u:k<=t*D:=WQ (by rw [<-p,QL];exact xV s (QQ dp));rw [e];exact SzQ.divInt (cv w u (q.mul g)) (g.mono ⋯) ⋯
def dB (h:z∈List.zipWith f u v):∃a∈u,∃b∈v,z=f a b:=by
 obtain ⟨i,g,e⟩:=QK h;have m:=g;rw [Qy] at m;rw [QV] at e;exact ⟨_,Ta ⋯,_,Ta ⋯,e.symm⟩
def oP (ne:P≠[]):lastC P∈P:=by
 unfold lastC;rw [Tr ne];exact List.getLast_mem ne
def KH (g:b≠0):1 - Rat.divInt t b=Rat.divInt (b - t) b:=by
 have p:=yf (t:=t) g;have m:=yf (t:=b - t) g;have bn:((b:Int):Rat)≠0:=λz=>g (Rat.intCast_inj.mp (by rw [z];rfl))
 have:(1 - Rat.divInt t b - Rat.divInt (b - t) b)*(b:Rat)=0:=by
  rw [jba] at m
  grind
 rcases Rat.mul_eq_zero.mp this with z|z
 ·grind
 ·exact absurd z bn
end
section
def Std.at_corner (h:Std m T as P) (q:c∈P):zg P c.1=c.2:=by
 obtain ⟨i,g,rfl⟩:=QK q;have p:=Qa g
 cases hn:P[i+1]? with
 |none=>
  have:=Zt h.rise p Tg (.inl (by have:=jaE.mp hn;lia));rw [hn] at this;exact this
 |some d=>
  have hd:=Qf.mp hn;have lt:=QR.mp h.rise i (i+1) g hd.1 ⋯;rw [hd.2] at lt;have:=Zt h.rise p Tg (.inr ⟨d,hn,lt⟩);rw [hn] at this;rw [this];exact Xh (by rw [(h.ok _ (Ta g)).1,(h.ok d (Qd hn)).1])
def Std.range (h:Std m T as P) (g:c∈P):0<=c.1/\c.1<=T:=by
 have h0:0<=c.1:=by
  obtain ⟨r,q⟩:=h.cons;have p:=h.rise;rw [q] at p g
  rcases Qn.mp g with rfl|g
  ·exact Tg
  ·exact QQ ((Qr.mp p).1 c g)
 refine ⟨h0,?_⟩;have s:=h.sum h0;rw [h.at_corner g,(h.ok c g).2] at s;unfold mn at s
 split at s
 ·assumption
 ·rw [s];exact Tg
theorem Zh:∀{v:List Rat},(∀q∈v,0<=q)->0<=zu v/\∀q∈v,q<=zu v
 |[],_=>⟨by rw [zu];exact Tg,λq g=>absurd g Qm⟩
 |a::v,h=>by
  have ha:=h a (Qg ..);obtain ⟨p,m⟩:=Zh λq g=>h q (Qe _ g);rw [zu];refine ⟨by grind,λq g=>?_⟩
  rcases Qn.mp g with rfl|g
  ·grind
  ·have:=m q g;grind
def Good.parts (h:Good r l P) (h0:0<=e):∀q∈zg P e,0<=q/\q<=zu (amQ l):=by
 have nn:∀q∈zg P e,0<=q:=λq g=>by
  obtain ⟨i,m,rfl⟩:=QK g;have ln:=h.std.len (e:=e);exact ((h.fit e h0).inQ _ (ZY (Qa ⋯) (Qa m))).1
 obtain ⟨_,le⟩:=Zh nn;have s:=h.std.sum h0;have m1:mn e (zu (amQ l))<=zu (amQ l):=by unfold mn;split<;>grind
 intro q g;have:=le q g;exact ⟨nn q g,by grind⟩
end
def yM (tk:List Int):List Rat:=tk.map λ(p:Int)=>(p:Rat)
structure FitG (r:Rl) (l:List Cl) (tk:List Int):Prop where
 len:tk.length=l.length
 fit:yE r (zo l (yM tk))
def zN (n:Int) (l:List Cl):List Cl:=l.map λc=>(n*c.1,c.2)
def yq (n:Int) (tk:List Int):List Int:=tk.map (n*·)
section
def WR (tk:List Int):(yM tk).length=tk.length:=Qb _
def FitG.row (h:FitG r l tk) {i:Nat} {a p:Int} (ha:(amV l)[i]? =some a) (hp:tk[i]? =some p):∃c:Cl,l[i]? =some c/\c.1=a/\xk c (p:Rat)∈zo l (yM tk):=by
 unfold amV at ha;rw [Qh] at ha
 cases e:l[i]? with
 |none=>rw [e] at ha;cases ha
 |some c=>
  rw [e] at ha;cases ha;exact ⟨c,rfl,rfl,ZY e (by unfold yM;rw [Qh,hp];rfl)⟩
def FitG.inB (h:FitG r l tk):InB (amV l) tk:=⟨by rw [zQ];exact h.len,λi a p ha hp=>by
 obtain ⟨c,_,rfl,hm⟩:=h.row ha hp;have:=h.fit.inQ _ hm
 exact ⟨WQ this.1,WQ this.2⟩⟩
def Eh (r:tk.length=l.length) (e:L=zo l (yM tk)) (h:yT L):WX (amV l) tk:=by
 refine ⟨by rw [zQ];exact r,λi a p ha hp=>?_⟩;unfold amV at ha;rw [Qh] at ha
 cases e1:l[i]? with
 |none=>rw [e1] at ha;cases ha
 |some c=>
  rw [e1] at ha;cases ha;have hm:xk c (p:Rat)∈L:=by rw [e];exact ZY e1 (by unfold yM;rw [Qh,hp];rfl)
  have b:=h.1 _ hm;refine ⟨WQ b.1,WQ b.2,λlt q m=>?_⟩;obtain ⟨j,s,rfl⟩:=QK m
  have g:xk (l[j]'⋯) ((tk[j]:Int):Rat)∈L:=by
   rw [e];exact ZY (Qa _) (by unfold yM;rw [Qh,Qa s];rfl)
  exact WQ (h.2 _ hm (mw lt) _ g)
def Al:yM (xc am tk)=qh (yM am) (yM tk):=by
 unfold yM xc qh;rw [List.map_zipWith,jbV]
 congr 1
 funext a b
 rw [jba]
def HL (l:List Cl):yM (amV l)=amQ l:=(UP l).symm
def Uw:zo l (yM (xc (amV l) tk))=(zo l (yM tk)).map Row.flip:=by
 rw [Al,HL,Ux]
def lP (h:tk.length=l.length):(xc (amV l) tk).length=l.length:=by rw [YW (by rw [zQ];exact h),zQ]
def FitG.evenly (h:FitG .evenly l tk):WX (amV l) tk:=Eh h.len rfl h.fit.2
def FitG.losses (h:FitG .losses l tk):WX (amV l) (xc (amV l) tk):=Eh (lP h.len) Uw.symm h.fit.2
def FitG.other (h:FitG (.other r) l tk):FitG r l (xc (amV l) tk):=⟨lP h.len,by rw [Uw];exact h.fit.2⟩
def ah (tk:List Int):zu (yM tk)=((tk.sum:Int):Rat):=Um tk
def FitG.sums (h:FitG r l tk):Yi (zo l (yM tk))=(((amV l).sum:Int):Rat)/\XN (zo l (yM tk))=((tk.sum:Int):Rat):=
 ⟨by rw [YS (by rw [WR];exact h.len),Zj],by rw [YR (by rw [WR];exact h.len),ah]⟩
def FitG.shares (h:FitG .shares l tk):tk.map (·*(amV l).sum)=(amV l).map (·*tk.sum):=by
 have s:=h.sums;have f:=h.fit.2
 apply Tx
 ·rw [Qb,Qb,zQ,h.len]
 ·intro i m g;rw [Qb] at m g;obtain ⟨c,_,e,hm⟩:=h.row (Qa g) (Qa m);have:=f _ hm;rw [s.1,s.2] at this;rw [jaz,jaz]
  apply Rat.intCast_inj.mp
  rw [QL,QL,<-e];exact this
def FitG.halves (h:FitG .halves l tk):FitG (.upto 1 2 .evenly .losses) l tk:=by
 refine ⟨h.len,h.fit.1,?_⟩;have g:Rat.divInt 1 2=(1:Rat) / 2:=by decide+kernel
 rw [g];exact h.fit.2
def yQ (n:Int) (l:List Cl):(zN n l).length=l.length:=Qb _
def xt (n:Int) (tk:List Int):(yq n tk).length=tk.length:=Qb _
def xr (n:Int) (l:List Cl):amV (zN n l)=yq n (amV l):=by
 unfold amV zN yq;rw [Qo,Qo];rfl
theorem YJ (n:Int):∀tk:List Int,(yq n tk).sum=n*tk.sum
 |[]=>by show (0:Int)=n*0;rw [Int.mul_zero]
 |a::tk=>by
  show (n*a::yq n tk).sum=_;rw [QU,QU,YJ n tk,Int.mul_add]
theorem kZ (g:b≠0):∀{l:List Cl} {tk:List Int},zo (zN t l) (yM (yq b tk))=((zo l (yM tk)).map (Row.first (Rat.divInt t b))).map (Row.scale (b:Rat))
 |[],_=>rfl
 |_::_,[]=>rfl
 |c::l,p::tk=>by
  show xk (t*c.1,c.2) ((b*p:Int):Rat)::zo (zN t l) (yM (yq b tk))=Row.scale (b:Rat) (Row.first (Rat.divInt t b) (xk c (p:Rat)))::((zo l (yM tk)).map (Row.first (Rat.divInt t b))).map (Row.scale (b:Rat));rw [kZ g];have e:=yf (t:=t) g
  congr 1
  simp only [xk,Row.scale,Row.first,QL]
  congr 1<;>grind
theorem kY (g:b≠0):∀{l:List Cl} {tk:List Int},zo (zN (b - t) l) (yM (xc (yq b tk) (yq t (amV l))))=((zo l (yM tk)).map (Row.rest (Rat.divInt t b))).map (Row.scale (b:Rat))
 |[],[]=>rfl
 |[],_::_=>rfl
 |_::_,[]=>rfl
 |c::l,p::tk=>by
  show xk ((b - t)*c.1,c.2) ((b*p - t*c.1:Int):Rat)::zo (zN (b - t) l) (yM (xc (yq b tk) (yq t (amV l))))=Row.scale (b:Rat) (Row.rest (Rat.divInt t b) (xk c (p:Rat)))::((zo l (yM tk)).map (Row.rest (Rat.divInt t b))).map (Row.scale (b:Rat));rw [kY g];have e:=yf (t:=t) g
  congr 1
  simp only [xk,Row.scale,Row.rest,QL,jba]
  congr 1<;>grind
def FitG.upto (m:0<b) (h:FitG (.upto t b x y) l tk):
 if (yq b tk).sum<=(amV (zN t l)).sum then FitG x (zN t l) (yq b tk) else FitG y (zN (b - t) l) (xc (yq b tk) (amV (zN t l))):=by
 have s:=h.sums;have f:=h.fit.2;have g:=Zm m;have bn:b≠0:=⋯
 have e:=yf (t:=t) bn;unfold xM at f;rw [s.1,s.2] at f
 have iff:((tk.sum:Int):Rat)<=(((amV l).sum:Int):Rat)*Rat.divInt t b↔(yq b tk).sum<=(amV (zN t l)).sum:=by
  rw [xr,YJ,YJ,<-fv g,<-QH,QL,QL,<-e]
  constructor<;>intro z<;>grind
 by_cases c:(yq b tk).sum<=(amV (zN t l)).sum
 ·rw [QD (iff.mpr c)] at f;rw [QD c];exact ⟨by rw [xt,yQ];exact h.len,by rw [kZ bn];exact yE.scale g f⟩
 ·rw [QI (λz=>c (iff.mp z))] at f;rw [QI c];refine ⟨?_,by rw [xr,kY bn];exact yE.scale g f⟩;rw [xr,yQ,YW (by rw [xt,xt,zQ,h.len]),xt];exact h.len
def wV (g:Good r l P) (m:0<B) (e0:0<=e) (w:(e.den:Int)∣B) (hd:∀p∈zg P e,(p.den:Int)∣B):
 (tkV B (zg P e)).sum=min (e.num*B.fdiv (e.den:Int)) (B*(amV l).sum)/\FitG r (zN B l) (tkV B (zg P e)):=by
 have t:=Zm m;have ln:=g.std.len (e:=e)
 have s:yM (tkV B (zg P e))=Vu (B:Rat) (zg P e):=by
  unfold yM tkV Vu;rw [Qo];exact QA λp hp=>dE m (hd p hp)
 have lt:(tkV B (zg P e)).length=l.length:=by unfold tkV;rw [Qb];exact ln
 refine ⟨?_,by rw [yQ];exact lt,?_⟩
 ·apply Rat.intCast_inj.mp
  rw [<-ah,s,IQ,dE m w,QL,Rat.mul_comm (B:Rat),<-GO t,<-Zj];have:=g.std.sum e0;rw [<-this];exact yR _ _
 ·rw [s]
  have:∀{l:List Cl} {v:List Rat},zo (zN B l) (Vu (B:Rat) v)=(zo l v).map (Row.scale (B:Rat)):=by
   intro l
   induction l with
   |nil=>intro v;rfl
   |cons c l u=>
    intro v
    cases v with
    |nil=>rfl
    |cons q v=>
     show xk (B*c.1,c.2) (q*(B:Rat))::zo (zN B l) (Vu (B:Rat) v)=Row.scale (B:Rat) (xk c q)::(zo l v).map (Row.scale (B:Rat));rw [u]
     congr 1
     simp only [xk,Row.scale,QL]
     congr 1
     grind
  rw [this];exact yE.scale t (g.fit e e0)
end
section
def Gf (h:Xi t b):PyData.tuple [.int t, .int b]=frD (Rat.divInt t b):=by
 have g:0<b:=by have:=h.2.1;have:=h.2.2.1;lia
 have l:=Ug (a:=t) g;unfold frD;rw [<-l.1,<-l.2,h.2.2.2];rw [show (((1:Nat):Int))=1 from rfl,Int.fdiv_one,Int.fdiv_one]
def Kz (h:Xi t b):SzQ 210 (Rat.divInt t b):=SzQ.divInt h.1.1 h.1.2 (by have:=h.2.1;have:=h.2.2.1;lia)
def aq (h:∀c∈P,SzC n c) (hp:SzQ m p):∀c∈zO p P,SzC (n+m) c:=λc s=>by
 obtain ⟨d,hd,rfl⟩:=Qk.mp s;have:=h d hd;refine ⟨this.1.mul hp,λq r=>?_⟩;obtain ⟨x,g,rfl⟩:=Qk.mp r;exact (this.2 x g).mul hp
end
section
end
def Vr:Rl->Nat
 | .halves=>3
 | .other r=>Vr r+1
 | .upto _ _ x y=>max (Vr x) (Vr y)+1
 | .ranks r=>Vr r+1
 | .groups a b=>max (Vr a) (Vr b)+1
 |_=>1
theorem HJ:∀r:Rl,1<=Vr r
 | .shares=>Qs _
 | .evenly=>Qs _
 | .losses=>Qs _
 | .halves=>by decide
 | .other r=>by simp [Vr]
 | .ranks r=>by simp [Vr]
 | .groups a b=>by simp [Vr]
 | .upto _ _ x y=>by simp [Vr]
section
def port12:Xi 1 2:=⟨⟨by unfold Sz;decide,by unfold Sz;decide⟩,nofun,nofun,nofun⟩
end
section
end
structure Small (t b:Int):Prop where
 port:Xi t b
 le:b<=61
section
variable {B G0 H:Hp} {cs:yN} {ds:Dat} {Q:VK} {v w u:V}
def qu:Sp:=λvs H Q _=>∃(G:Hp) (c:Int),vs=[.int c]/\zG G H/\∀v H' G' (t b:Int),Grow G H G' H'->Is G' (.tuple [.int t, .int b]) v->Small t b->Q v H'
def FU (S:Sta B G0 H cs ds) (k:∀v H' (t b:Int),Small t b->zG H H'->Sta B G0 H' cs ((.tuple [.int t, .int b],v)::ds)->Q v H'):qu [.int c] H Q E:=by
 obtain ⟨G,S⟩:=S;refine ⟨G,c,rfl,S.2.1,λv H' y t b gr g good=>k v H' t b good gr.h ?_⟩;obtain ⟨s,r,q,d',p,m,g'⟩:=S.grow gr;exact ⟨y,s,r,q,d',p,m,g'.cons g⟩
def BW (S:Sta H G H' cs ds) (k:∀v H' g (t b:Int),Grow G H g H'->Is g (.tuple [.int t, .int b]) v->Small t b->Q v H') (h:Has ds (.tuple [.int t, .int b]) v) (m:Small t b):Q v H':=by
 obtain ⟨g,gr,al⟩:=S.leave;exact k v H' g t b gr (h g al) m
end
def qj (G:b.1<c.1) (q:b.2.length=m) (lc:c.2.length=m) (u:zL a b c) (t:zL b c y):zL a b y:=λi A B Y s g r=>by
 have I:i<m:=by rw [<-q];exact (Qf.mp g).1
 have p:=Qa (l:=c.2) (i:=i) ⋯;have J:=u i A B _ s g p;have D:=t i B _ Y g p r;generalize c.2[i]=C at*;have z:(B - A)*(c.1 - b.1)=(C - B)*(b.1 - a.1):=by grind
 have w:((B - A)*(y.1 - a.1) - (Y - A)*(b.1 - a.1))*(c.1 - b.1)=0:=by
  have:((B - A)*(y.1 - a.1) - (Y - A)*(b.1 - a.1))*(c.1 - b.1)=((B - A)*(c.1 - b.1))*(y.1 - a.1) - ((Y - B)*(c.1 - b.1))*(b.1 - a.1) - ((B - A)*(c.1 - b.1))*(b.1 - a.1):=by grind
  rw [this,z,<-D];grind
 have:=yy w (XO G)
 grind
def nu (D:k.1<b.1) (r:a.2.length=m) (lk:k.2.length=m) (u:zL k a b) (t:zL k b c):zL a b c:=λi A B C q p s=>by
 have G:i<m:=by rw [<-r];exact (Qf.mp q).1
 have g:=Qa (l:=k.2) (i:=i) ⋯;have J:=u i _ A B g q p;have I:=t i _ B C g p s;generalize k.2[i]=K at*;have z:(B - A)*(b.1 - k.1)=(B - K)*(b.1 - a.1):=by grind
 have y:(C - A)*(b.1 - k.1)=(B - K)*(c.1 - a.1):=by grind
 have w:((B - A)*(c.1 - a.1) - (C - A)*(b.1 - a.1))*(b.1 - k.1)=0:=by
  have:((B - A)*(c.1 - a.1) - (C - A)*(b.1 - a.1))*(b.1 - k.1)=((B - A)*(b.1 - k.1))*(c.1 - a.1) - ((C - A)*(b.1 - k.1))*(b.1 - a.1):=by grind
  rw [this,z,y];grind
 have:=yy w (XO D)
 grind
theorem Thn.cons (h:Thn F) (h0:∀y z t,F=y::z::t->¬zL k y z):Thn (k::F)
 |0,x,y,z,p,m,g=>by
  match F,h0,m,g with
  |[],_,m,_=>simp at m
  |[_],_,_,g=>simp at g
  |a::b::t,h0,m,g=>
   simp at p m g;subst p;subst m;subst g;exact h0 _ _ t rfl
 |i+1,x,y,z,p,m,g=>h i x y z ‹p› ‹m› ‹g›
theorem fD:∀(r:List zi) (k a b:zi),yG (k::b::r)->(∀x∈k::b::r,x.2.length=m)->(a=k\/(k.1<a.1/\a.1<b.1/\a.2.length=m/\zL k a b))->
 Thn (k::yc a (b::r))/\∃y t,yc a (b::r)=y::t/\(y=b\/(b.1<y.1/\y.2.length=m/\zL a b y))
 |[],k,a,b,_,_,_=>by
  rw [yc];exact ⟨λi x y z _ _ L=>by simp at L,b,[],rfl, .inl rfl⟩
 |c::r,k,a,b,hr,hl,ha=>by
  obtain ⟨I,G⟩:=Qr.mp hr;obtain ⟨N,M⟩:=Qr.mp G;have J:=I b (Qg ..);have q:=N c (Qg ..);have lk:=hl k (Qg ..);have w:=hl b (Qe _ (Qg ..));have lc:=hl c (Qe _ (Qe _ (Qg ..)));rw [yc]
  split
  ·rename_i st
   have O:zL k b c:=by
    rcases ha with rfl|⟨_,K,A,s0⟩
    ·exact st
    ·exact bW K lk A s0 st
   have rk:yG (k::c::r):=Qr.mpr ⟨λx g=>I x (Qe _ g),M⟩
   obtain ⟨D,y,t,e,C⟩:=fD r k b c rk (λx g=>hl x (by
    rcases Qn.mp g with rfl|g
    ·exact Qg ..
    ·exact Qe _ (Qe _ g))) (.inr ⟨J,q,w,O⟩)
   refine ⟨D,y,t,e, .inr ?_⟩
   rcases C with rfl|⟨p,u,s⟩
   ·exact ⟨q,lc,st⟩
   ·exact ⟨Yr q p,u,qj q w lc st s⟩
  ·rename_i st;obtain ⟨D,y,t,e,C⟩:=fD r b b c G (λx g=>hl x (Qe _ g)) (.inl rfl);refine ⟨D.cons λP z t' ez=>?_,b,_,rfl, .inl rfl⟩;rw [e] at ez;cases ez;intro s
   have s1:zL k b c:=by
    rcases C with rfl|⟨p,u,s2⟩
    ·exact s
    ·exact kd (Yr q p) w u s2 s
   rcases ha with rfl|⟨_,K,A,s0⟩
   ·exact st s1
   ·exact st (nu J A lk s0 s1)
def oQ (hr:yG L) (g:∀x∈L,x.2.length=m):Thn (yi L):=by
 match L,hr,g with
 |[],_,_=>exact λi x y z q=>by simp [yi] at q
 |[c],_,_=>exact λi x y z _ p=>by simp [yi,yc] at p
 |c::b::r,hr,g=>exact (fD r c c b hr g (.inl rfl)).1
def Mon (P:List zi):Prop:=P.Pairwise λc d=>LeV c.2 d.2
structure Ful (m:Nat) (T:Rat) (as:List Rat) (P:List zi):Prop where
 std:Std m T as P
 mono:Mon P
 thin:Thn P
section
def Ful.pm (h:Ful m T as P):PathM m P:=⟨⟨h.std.rise,λc g=>(h.std.ok c g).1,h.thin⟩,λc g=>(h.std.ok c g).2,h.mono⟩
def LeV.refl (x:List Rat):LeV x x:=λi a b ha g=>by rw [ha] at g;cases g;exact Tg
def Std.le_last (h:Std m T as P) (mo:Mon P):∀c∈P,LeV c.2 as:=λc s=>by
 obtain ⟨i,r,rfl⟩:=QK s;have q:=h.last;rw [jbE] at q;obtain ⟨g,p⟩:=Qf.mp q
 by_cases z:i=P.length - 1
 ·subst z;rw [p];exact LeV.refl _
 ·have:=QR.mp mo i (P.length - 1) r g ⋯;rw [p] at this;exact this
def Std.nn (h:Std m T as P) (mo:Mon P):∀c∈P,∀(i:Nat) (a:Rat),c.2[i]? =some a->0<=a:=λc g i a ha=>by
 obtain ⟨r,p⟩:=h.cons;have q:=(h.ok c g).1;rw [p] at g mo
 rcases Qn.mp g with rfl|g
 ·have:=(Qf.mp ha).2;rw [TB] at this;rw [<-this];exact Tg
 ·refine (Qr.mp mo).1 c g i 0 a ?_ ha;have:=(Qf.mp ha).1;rw [Tt,QD ⋯]
def Ful.turned (h:Ful m T as P):Ful m T as (yk P):=by
 have I:=h.std.lastC;have D:=h.std.lenA;refine ⟨lZ h.std,?_,λi x y z u t s st=>?_⟩
 ·unfold Mon yk;rw [Tb,List.pairwise_reverse];refine jbD (λ{c d} NH=>?_) h.mono;intro i a b ha g;obtain ⟨a1,a2,M,L,rfl⟩:=Bk ha;obtain ⟨O,N,f1,f2,rfl⟩:=Bk g;rw [M] at f1;cases f1;have:=NH i N a2 f2 L
  grind
 ·unfold yk at u t s;obtain ⟨x,r,rfl⟩:=zM u;obtain ⟨y,w,rfl⟩:=zM t;obtain ⟨z,q,rfl⟩:=zM s;have G:=(Qf.mp q).1;rw [Tz] at G;rw [List.getElem?_reverse ⋯] at r w q;have C:=(h.std.ok x (Qd r)).1;refine h.thin (P.length - 1 - (i+2)) z y x q (by rw [<-w];congr 1;lia) (by rw [<-r];congr 1;lia) ?_;rw [I] at st;intro j c b a K g ha;have J:j<as.length:=by rw [D,<-C];exact (Qf.mp ha).1
  have p:=Qa J;have:=st j (as[j] - a) (as[j] - b) (as[j] - c) (Uo p ha) (Uo p g) (Uo p K);generalize as[j]=A at*;have e:(A - b - (A - a))*(T - z.1 - (T - x.1))=(A - c - (A - a))*(T - y.1 - (T - x.1)):=this
  grind
def Ful.scaled (hp:0<p) (h:Ful m T as P):Ful m (T*p) (Vu p as) (zO p P):=by
 have q:∀{x:List Rat} {i:Nat} {a:Rat},(x.map (·*p))[i]? =some a->∃b,x[i]? =some b/\a=b*p:=λ{x i a} ha=>by
  rw [Qh] at ha
  cases e:x[i]? with
  |none=>rw [e] at ha;cases ha
  |some b=>rw [e] at ha;cases ha;exact ⟨b,rfl,rfl⟩
 refine ⟨Wq hp h.std,?_,λi x y z u t s st=>?_⟩
 ·unfold Mon zO;rw [Tb];refine jbD (λ{c d} NH=>?_) h.mono;intro i a b ha r;obtain ⟨C,G,rfl⟩:=q ha;obtain ⟨A,I,rfl⟩:=q r;exact xV (NH i C A G I) (QQ hp)
 ·unfold zO at u t s;obtain ⟨x,K,rfl⟩:=zM u;obtain ⟨y,J,rfl⟩:=zM t;obtain ⟨z,D,rfl⟩:=zM s;refine h.thin i x y z K J D ?_;intro j a b c ha r w;have g:∀{x:List Rat} {a:Rat},x[j]? =some a->(x.map (·*p))[j]? =some (a*p):=λ{x a} h=>by rw [Qh,h];rfl
  have:=st j (a*p) (b*p) (c*p) (g ha) (g r) (g w);have e:(b*p - a*p)*(z.1*p - x.1*p)=(c*p - a*p)*(y.1*p - x.1*p):=this
  have pn:p*p≠0:=λz=>by
   have:=jbR hp hp;rw [z] at this;exact absurd this jaP
  have:=yy (a:=(b - a)*(z.1 - x.1) - (c - a)*(y.1 - x.1)) (b:=p*p) (by grind) pn
  grind
def Ih (h:Std m T as P) (mo:Mon P) (h':Std m T' SM P') (r:Mon P'):Mon (P++yx P P'):=by
 have s:=h.lastC;refine TR.mpr ⟨mo,?_,λc t d hd=>?_⟩
 ·unfold yx;rw [Tb];refine jbD (λ{a b} Ot=>?_) (jbf (List.tail_sublist P') r);intro i x y p g;unfold Vq at p g;dsimp only at p g;rw [Qx] at p g
  cases e0:(lastC P).2[i]? with
  |none=>rw [e0] at p;cases p
  |some q=>
   cases e1:a.2[i]? with
   |none=>rw [e0,e1] at p;cases p
   |some u=>
    cases e2:b.2[i]? with
    |none=>rw [e0,e2] at g;cases g
    |some v=>
     rw [e0,e1] at p;rw [e0,e2] at g;cases p;cases g;have:=Ot i u v e1 e2
     grind
 ·obtain ⟨d',z,rfl⟩:=Qk.mp hd;have w:=TU z;intro i x y p g;unfold Vq at g;dsimp only at g;rw [s,Qx] at g
  cases e0:as[i]? with
  |none=>dsimp only at g;rw [e0] at g;cases g
  |some q=>
   cases e1:d'.2[i]? with
   |none=>dsimp only at g;rw [e0,e1] at g;cases g
   |some u=>
    dsimp only at g;rw [e0,e1] at g;cases g;have C:=h.le_last mo c t i x q p e0;have A:=h'.nn r d' w i u e1
    grind
def jI (h:Std m T as P) (mo:Mon P) (h':Std m T' SM P') (q:Mon P'):Ful m (T+T') (List.zipWith (·+·) as SM) (yi (P++yx P P')):=by
 have s:=gn h h';obtain ⟨g,_⟩:=lR s;exact ⟨g,jbf (Zi _) (Ih h mo h' q),oQ s.rise λx p=>(s.ok x p).1⟩
end
section
def LH (as:List Int) (h:ls.Pairwise (·<·)):Mon (evP as ls):=by
 unfold Mon evP;rw [Tb];refine jbD (λ{a b} Ot=>?_) h;intro i x y g m;unfold zR WI at g m;simp only [Qo,Qh] at g m
 cases e:as[i]? with
 |none=>rw [e] at g;cases g
 |some q=>
  rw [e] at g m;cases g;cases m;show ((min q a:Int):Rat)<=((min q b:Int):Rat);exact QH.mpr ⋯
def LG (h:LvOk as ls):Thn (evP as ls):=λi x y z s r p st=>by
 unfold evP at s r p;obtain ⟨a,ha,rfl⟩:=zM s;obtain ⟨b,m,rfl⟩:=zM r;obtain ⟨c,t,rfl⟩:=zM p
 have lt:∀{i j:Nat} {a b:Int},ls[i]? =some a->ls[j]? =some b->i<j->a<b:=λ{i j a b} ha m NK=>by
  obtain ⟨A,rfl⟩:=Qf.mp ha;obtain ⟨w,rfl⟩:=Qf.mp m;exact QR.mp h.rise i j A w NK
 have ab:=lt ha m ⋯;have D:=lt m t ⋯;have a0:=h.nnL a (Qd ha)
 have bm:b∈as:=by
  rcases (h.mem b).mp (Qd m) with z|z
  ·lia
  ·exact z
 obtain ⟨j,C⟩:=QG.mp bm
 have g:∀q:Int,(zR (WI as q)).2[j]? =some ((min b q:Int):Rat):=λq=>by
  unfold zR WI;simp only [Qo,Qh,C];rfl
 have e:=st j _ _ _ (g a) (g b) (g c);have s1:=h.sumlt (Qd m) (Qd t) D;rw [show min b a=a by lia,show min b b=b by lia,show min b c=b by lia] at e;have I:((b:Rat) - (a:Rat))*((((WI as c).sum:Int):Rat) - (((WI as a).sum:Int):Rat))=((b:Rat) - (a:Rat))*((((WI as b).sum:Int):Rat) - (((WI as a).sum:Int):Rat)):=e;have G:=mw ab;have u:=mw s1;have:=jbR (show (0:Rat)<(b:Rat) - (a:Rat) by grind) (show (0:Rat)<(((WI as c).sum:Int):Rat) - (((WI as b).sum:Int):Rat) by grind)
 grind
def Vf (h:LvOk (amV l) ls):Ful l.length (zu (amQ l)) (amQ l) (evP (amV l) ls):=⟨(XD h).std,LH _ h.rise,LG h⟩
def jG (h:LvOk (amV l) ls):Ful l.length (zu (amQ l)) (amQ l) (loP (amV l) ls):=by
 have:=(Vf h).turned;rwa [dD h] at this
def Ab (nn:∀a∈amV l,0<=a):Ful l.length (zu (amQ l)) (amQ l) (shP (amV l)):=by
 have s:=(fG nn).std;refine ⟨s,?_,λi x y z _ _ m=>?_⟩
 ·obtain ⟨r,t⟩:=s.cons;have ok:=s.ok;unfold shP at t ok⊢
  split
  ·exact jai _ _
  ·refine Qr.mpr ⟨λd hd=>?_,jai _ _⟩;rw [Qp.mp hd,XM];intro i a b ha g;have p:=(Qf.mp ha).2;rw [TB] at p;unfold zR at g;simp only [Qh] at g
   cases e:(amV l)[i]? with
   |none=>rw [e] at g;cases g
   |some q=>
    rw [e] at g;cases g;rw [<-p];exact bt (nn q (Qd e))
 ·unfold shP at m
  split at m<;>simp at m
def uG (p0:0<p) (s:p<1) (m:Ful l.length (zu (amQ l)) (amQ l) P) (g:Ful l.length (zu (amQ l)) (amQ l) P'):Ful l.length (zu (amQ l)) (amQ l) (We p P P'):=by
 have s1:=m.scaled p0;have s2:=g.scaled (p:=1 - p) (by grind);have:=jI s1.std s1.mono s2.std s2.mono;have q:zu (amQ l)*p+zu (amQ l)*(1 - p)=zu (amQ l):=by grind
 have r:List.zipWith (·+·) (Vu p (amQ l)) (Vu (1 - p) (amQ l))=amQ l:=by
  unfold Vu
  apply Tx
  ·simp
  ·intro i _ _;simp only [QV,jaz]
   grind
 rw [q,r] at this;exact this
def Ac (h:LvOk (amV l) ls):Ful l.length (zu (amQ l)) (amQ l) (yi (hvP (amV l) ls)):=by
 have g:=uG (p:=1 / 2) uy (by decide+kernel) (Vf h) (jG h)
 have m:We (1 / 2) (evP (amV l) ls) (loP (amV l) ls)=yi (hvP (amV l) ls):=by
  unfold We;rw [show (1:Rat) - 1 / 2=1 / 2 by decide+kernel];rfl
 rw [m] at g;exact g
end
def xA:List (Rat×Nat)->List Rat->List Rat
 |[],w=>w
 |(p,i)::r,w=>xA r (w.set i p)
def yd (pl:List Nat) (n:Nat) (v:List Rat):List Rat:=xA (v.zip pl) (List.replicate n 0)
theorem ao:∀(z:List (Rat×Nat)) (w:List Rat),(xA z w).length=w.length
 |[],w=>rfl
 |(p,i)::r,w=>by rw [xA,ao r,jaF]
theorem VI:∀(z:List (Rat×Nat)) (w:List Rat),(∀x∈z,x.2≠j)->(xA z w)[j]? =w[j]?
 |[],w,_=>rfl
 |(p,i)::r,w,h=>by
  rw [xA,VI r _ λx g=>h x (Qe _ g),jaw (h (p,i) (Qg ..))]
theorem jh:∀(z:List (Rat×Nat)) (w:List Rat),(z.map (·.2)).Nodup->(p,j)∈z->j<w.length->(xA z w)[j]? =some p
 |[],w,_,h,_=>absurd h Qm
 |(q,i)::r,w,nd,h,hj=>by
  rw [Qj,TV] at nd;rw [xA]
  rcases Qn.mp h with e|h
  ·cases e;rw [VI r _ λx g e=>nd.1 (Qk.mpr ⟨x,g,e⟩),List.getElem?_set_self hj]
  ·exact jh r _ nd.2 h (by rw [jaF];exact hj)
def AN {v:List Rat} {pl:List Nat} (h:v.length=pl.length):(v.zip pl).map (·.2)=pl:=by
 have:(v.zip pl).map Prod.snd=pl:=List.map_snd_zip ⋯;exact this
structure Pls (n:Nat) (pl:List Nat):Prop where
 nd:pl.Nodup
 lt:∀i∈pl,i<n
section
variable {n m:Nat} {pl:List Nat} {v u:List Rat}
def xg (pl:List Nat) (n:Nat) (v:List Rat):(yd pl n v).length=n:=by unfold yd;rw [ao,QF]
def vG (h:Pls n pl) (g:v.length=pl.length) {p:Rat} {i:Nat} (hm:(p,i)∈v.zip pl):(yd pl n v)[i]? =some p:=
 jh _ _ (by rw [AN g];exact h.nd) hm (by rw [QF];exact h.lt i (jbw hm).2)
def xN (h:Pls n pl) (g:v.length=pl.length) {i j:Nat} {p:Rat} (q:pl[j]? =some i) (hp:v[j]? =some p):(yd pl n v)[i]? =some p:=
 vG h g (Qd (by rw [Tj];exact ⟨hp,q⟩))
def xD (p:i<n) (hm:i∉pl):(yd pl n v)[i]? =some 0:=by
 unfold yd;rw [VI _ _ λx g e=>hm (by rw [<-e];exact (jbw g).2),Tt,QD p]
def xJ (h:Pls n pl) (q:v.length=pl.length) {i:Nat} {p:Rat} (hp:(yd pl n v)[i]? =some p):(∃j:Nat,pl[j]? =some i/\v[j]? =some p)\/(i∉pl/\p=0):=by
 have r:i<n:=by have:=(Qf.mp hp).1;rwa [xg] at this
 by_cases c:i∈pl
 ·obtain ⟨j,g⟩:=QG.mp c;have jl:=(Qf.mp g).1;have e:=Qa (l:=v) (i:=j) ⋯;have:=xN h q g e;rw [hp] at this;cases this;exact .inl ⟨j,g,e⟩
 ·rw [xD r c] at hp;cases hp;exact .inr ⟨c,rfl⟩
theorem tF:∀{w:List Rat} {i:Nat} {q p:Rat},w[i]? =some q->zu (w.set i p)=zu w - q+p
 |[],_,_,_,h=>by simp at h
 |a::w,0,q,p,h=>by
  cases h;rw [List.set_cons_zero,zu,zu];grind
 |a::w,i+1,q,p,h=>by
  rw [List.set_cons_succ,zu,zu,tF (p:=p) ‹h›];grind
theorem jg:∀(z:List (Rat×Nat)) (w:List Rat),(z.map (·.2)).Nodup->(∀x∈z,w[x.2]? =some 0)->zu (xA z w)=zu w+zu (z.map (·.1))
 |[],w,_,_=>by rw [xA,Tu,zu];grind
 |(p,i)::r,w,nd,h=>by
  rw [Qj,TV] at nd;have h0:=h (p,i) (Qg ..)
  rw [xA,jg r _ nd.2 λx g=>by
   rw [jaw (λe=>nd.1 (Qk.mpr ⟨x,g,e.symm⟩))]
   exact h x (Qe _ g),tF h0,Qj,zu]
  grind
def vF (h:Pls n pl) (p:v.length=pl.length):zu (yd pl n v)=zu v:=by
 unfold yd
 rw [jg _ _ (by rw [AN p];exact h.nd) λx g=>by
  rw [Tt,QD (h.lt _ (jbw g).2)],YL]
 have:(v.zip pl).map Prod.fst=v:=List.map_fst_zip ⋯;have e:(v.zip pl).map (·.1)=v:=this;rw [e];grind
def qk (h:Pls n pl):yd pl n (List.replicate pl.length 0)=List.replicate n 0:=by
 apply jat
 intro i
 by_cases g:i<n
 ·rw [Tt,QD g];have e:=Qa (l:=yd pl n (List.replicate pl.length 0)) (i:=i) (by rw [xg];exact g)
  rcases xJ h (by rw [QF]) e with ⟨j,p,hp⟩|⟨_,hp⟩
  ·rw [e];have:=(Qf.mp hp).2;rw [TB] at this;rw [<-this]
  ·rw [e,hp]
 ·rw [QC (by rw [xg];lia),QC (by rw [QF];lia)]
def Yw (pl:List Nat) (n:Nat) (c:zi):zi:=(c.1,yd pl n c.2)
def yA (pl:List Nat) (n:Nat) (P:List zi):List zi:=P.map (Yw pl n)
def Lc (t:Rat):Ya t 0 0=0:=by unfold Ya;grind
def qp {c d:zi} {e:Rat} (h:Pls n pl) (lc:c.2.length=pl.length) (ld:d.2.length=pl.length):Wj (Yw pl n c) (Yw pl n d) e=yd pl n (Wj c d e):=by
 have s:(Wj c d e).length=pl.length:=dk lc ld
 apply jat
 intro i
 by_cases g:i<n
 ·have r:=Qa (l:=yd pl n c.2) (i:=i) (by rw [xg];exact g);have q:=Qa (l:=yd pl n d.2) (i:=i) (by rw [xg];exact g);unfold Wj Yw;dsimp only;rw [Qx,r,q]
  by_cases hm:i∈pl
  ·obtain ⟨j,p⟩:=QG.mp hm;have jl:=(Qf.mp p).1;have f1:=Qa (l:=c.2) (i:=j) ⋯;have f2:=Qa (l:=d.2) (i:=j) ⋯;have g1:=xN h lc p f1;have g2:=xN h ld p f2;rw [r] at g1;rw [q] at g2
   have t:(Wj c d e)[j]? =some (Ya ((e - c.1) / (d.1 - c.1)) c.2[j] d.2[j]):=by
    unfold Wj;rw [Qx,f1,f2]
   have g3:=xN h s p t;unfold Wj at g3;rw [g3,Qw g1,Qw g2]
  ·have g1:=xD (v:=c.2) g hm;have g2:=xD (v:=d.2) g hm;have g3:=xD (v:=Wj c d e) g hm;rw [r] at g1;rw [q] at g2;unfold Wj at g3;rw [g3,Qw g1,Qw g2];show some (Ya _ 0 0)=_;rw [Lc]
 ·rw [QC,QC (by rw [xg];lia)];rw [dk (xg ..) (xg ..)];lia
theorem bX (h:Pls n pl):∀{c:zi} {r:List zi},(∀x∈c::r,x.2.length=pl.length)->zg (yA pl n (c::r)) e=yd pl n (zg (c::r) e)
 |c,[],_=>rfl
 |c,d::r,hl=>by
  have lc:=hl c (Qg ..);have ld:=hl d (Qe _ (Qg ..));show zg (Yw pl n c::Yw pl n d::yA pl n r) e=_;rw [zg,zg]
  by_cases he:e<d.1
  ·rw [QD he,QD (show e<(Yw pl n d).1 from he),qp h lc ld]
  ·rw [QI he,QI (show ¬e<(Yw pl n d).1 from he)];exact bX h λx g=>hl x (Qe _ g)
def Std.spread (h:Std m T as P) (hp:Pls n pl) (hm:pl.length=m):Std n T (yd pl n as) (yA pl n P):=by
 subst hm;refine ⟨?_,λc g=>?_,?_,?_⟩
 ·unfold yA yG;rw [Tb];exact h.rise
 ·obtain ⟨d,hd,rfl⟩:=Qk.mp g;have:=h.ok d hd;exact ⟨xg ..,by show zu (yd pl n d.2)=d.1;rw [vF hp this.1,this.2]⟩
 ·unfold yA;rw [Qh,h.head];show some (0,yd pl n _)=_;rw [qk hp]
 ·unfold yA;rw [jaC,h.last];rfl
def Std.spreadE (h:Std m T as P) (hp:Pls n pl) (hm:pl.length=m) (e:Rat):zg (yA pl n P) e=yd pl n (zg P e):=by
 obtain ⟨r,p⟩:=h.cons;have ok:=h.ok;rw [p] at ok⊢;exact bX hp λx g=>by rw [(ok x g).1,hm]
def Ful.spread {T:Rat} {as:List Rat} {P:List zi} (h:Ful m T as P) (hp:Pls n pl) (hm:pl.length=m):Ful n T (yd pl n as) (yA pl n P):=by
 have ls:∀c∈P,c.2.length=pl.length:=λc p=>by rw [(h.std.ok c p).1,hm]
 refine ⟨h.std.spread hp hm,?_,λi x y z C A w st=>?_⟩
 ·unfold yA Mon;rw [Tb];refine List.Pairwise.imp_of_mem (λ{c d} p hd NH=>?_) h.mono;intro i a b ha q
  rcases xJ hp (ls c p) ha with ⟨j,g,K⟩|⟨hn,rfl⟩
  ·rcases xJ hp (ls d hd) q with ⟨t,r,G⟩|⟨hn,rfl⟩
   ·have J:j=t:=(List.getElem?_inj (by exact (Qf.mp g).1) hp.nd).mp (by rw [g,r]);subst J;exact NH j a b K G
   ·exact absurd (Qd g) hn
  ·rcases xJ hp (ls d hd) q with ⟨t,r,G⟩|⟨_,rfl⟩
   ·exact absurd (Qd r) hn
   ·exact Tg
 ·unfold yA at C A w;obtain ⟨x,s,rfl⟩:=zM C;obtain ⟨y,I,rfl⟩:=zM A;obtain ⟨z,D,rfl⟩:=zM w;refine h.thin i x y z s I D λj a b c ha q p=>?_;have jl:j<pl.length:=by rw [<-ls x (Qd s)];exact (Qf.mp ha).1
  have g:=Qa jl;exact st (pl[j]) a b c (xN hp (ls x (Qd s)) g ha) (xN hp (ls y (Qd I)) g q) (xN hp (ls z (Qd D)) g p)
end
def yb (p:Cl->Bool) (l:List Cl):List Nat:=(List.range l.length).filter λi=>p (l.getD i (0,0,0))
def zK {α:Type} (d:α) (pl:List Nat) (v:List α):List α:=pl.map λi=>v.getD i d
section
variable {p:Cl->Bool} {l:List Cl} {v:List Rat}
def XT (p:Cl->Bool) (l:List Cl):Pls l.length (yb p l):=⟨List.Pairwise.filter _ List.nodup_range,λi g=>jbg.mp (Tc.mp g).1⟩
def XA (g:l[i]? =some c):i∈yb p l↔p c=true:=by
 unfold yb;rw [Tc,jbg,Qq,g];exact ⟨λh=>h.2,λh=>⟨(Qf.mp g).1,h⟩⟩
theorem Ui {α:Type} (d:α) (p:α->Bool):∀l:List α,l.filter p=((List.range l.length).filter λi=>p (l.getD i d)).map λi=>l.getD i d
 |[]=>rfl
 |a::l=>by
  have g:=Ui d p l;have e0:List.range (a::l).length=0::(List.range l.length).map Nat.succ:=by rw [QE,List.range_succ_eq_map]
  have e:(List.map Nat.succ ((List.range l.length).filter ((λi=>p ((a::l).getD i d))∘Nat.succ))).map (λi=>(a::l).getD i d)=((List.range l.length).filter λi=>p (l.getD i d)).map λi=>l.getD i d:=by
   rw [Qo];rfl
  have z:(a::l).getD 0 d=a:=rfl;rw [e0,jaN,jaN,List.filter_map,z]
  split
  ·rw [Qj,e,<-g,z]
  ·rw [e,<-g]
def WL (p:Cl->Bool) (l:List Cl):l.filter p=zK (0,0,0) (yb p l) l:=Ui (0,0,0) p l
def Ub (p:Cl->Bool) (l:List Cl):(yb p l).length=(l.filter p).length:=by rw [WL];unfold zK;rw [Qb]
def XE (q:Row->Bool) (s:∀c x,q (xk c x)=p c) (r:v.length=l.length):(zo l v).filter q=zo (l.filter p) (zK 0 (yb p l) v):=by
 have t:(zo l v).length=l.length:=by unfold zo;rw [Qy,r,Tv]
 have g:∀i,i<l.length->(zo l v).getD i (xk (0,0,0) 0)=xk (l.getD i (0,0,0)) (v.getD i 0):=λi m=>by
  unfold zo;rw [Qq,Qx,Qq,Qq,Qa m,Qa (show i<v.length by lia)];rfl
 rw [Ui (xk (0,0,0) 0) q,t,WL]
 have w:(List.range l.length).filter (λi=>q ((zo l v).getD i (xk (0,0,0) 0)))=yb p l:=by
  unfold yb;refine List.filter_congr λi m=>?_;rw [g i (jbg.mp m),s]
 rw [w];unfold zK
 have u:zo (List.map (λi=>l.getD i (0,0,0)) (yb p l)) (List.map (λi=>v.getD i 0) (yb p l))=(yb p l).map λi=>xk (l.getD i (0,0,0)) (v.getD i 0):=by
  unfold zo;rw [jbV,List.zipWith_self]
 rw [u];refine QA λi m=>?_;rw [g i ((XT p l).lt i m)]
def qW {n:Nat} {pl:List Nat} (h:Pls n pl) (g:v.length=pl.length):zK 0 pl (yd pl n v)=v:=by
 unfold zK
 apply jat
 intro j;rw [Qh]
 cases e:pl[j]? with
 |none=>
  have:=jaE.mp e;rw [QC ⋯];rfl
 |some i=>
  have jl:=(Qf.mp e).1;have f:=Qa (l:=v) (i:=j) ⋯;have:=xN h g e f;show some ((yd pl n v).getD i 0)=_;rw [Qq,this,f];rfl
def ju (h:∀i∈pl,v[i]? =u[i]?):zK 0 pl v=zK 0 pl u:=by
 unfold zK;refine QA λi g=>?_;rw [Qq,Qq,h i g]
def xl {α:Type} (d:α) (pl:List Nat) (v:List α):(zK d pl v).length=pl.length:=Qb _
end
theorem Vg:∀r:Rl,yE r []
 | .shares=>⟨λx g=>absurd g Qm,λx g=>absurd g Qm⟩
 | .evenly=>⟨λx g=>absurd g Qm,λx g=>absurd g Qm,λx g=>absurd g Qm⟩
 | .losses=>⟨λx g=>absurd g Qm,λx g=>absurd g Qm,λx g=>absurd g Qm⟩
 | .halves=>⟨λx g=>absurd g Qm,by
  unfold xM
  split
  ·exact ⟨λx g=>absurd g Qm,λx g=>absurd g Qm,λx g=>absurd g Qm⟩
  ·exact ⟨λx g=>absurd g Qm,λx g=>absurd g Qm,λx g=>absurd g Qm⟩⟩
 | .other r=>⟨λx g=>absurd g Qm,Vg r⟩
 | .ranks r=>⟨λx g=>absurd g Qm,λk=>Vg r,λx g=>absurd g Qm⟩
 | .groups _ _=>rfl
 | .upto t b x y=>⟨λx g=>absurd g Qm,by
  unfold xM
  split
  ·exact Vg x
  ·exact Vg y⟩
structure GF (r:Rl) (l:List Cl) (P:List zi):Prop where
 good:Good r l P
 ful:Ful l.length (zu (amQ l)) (amQ l) P
section
def qo (h:Pls n pl) (m:i<n) (q:v.length=n):(yd pl n (zK 0 pl v))[i]? =if i∈pl then v[i]? else some 0:=by
 split
 ·rename_i c;obtain ⟨j,g⟩:=QG.mp c;have e:=Qa (l:=v) (i:=i) ⋯;refine (xN h (xl ..) g (p:=v[i]) ?_).trans e.symm;unfold zK;rw [Qh,g];show some (v.getD i 0)=_;rw [Qq,e];rfl
 ·exact xD m (by assumption)
def AA (p:Cl->Bool) (l:List Cl):amQ (l.filter p)=zK 0 (yb p l) (amQ l):=by
 rw [WL];unfold amQ zK;rw [Qo];refine QA λi m=>?_;have g:=(XT p l).lt i m;show (((l.getD i (0,0,0)).1:Int):Rat)=(l.map λc=>((c.1:Int):Rat)).getD i 0;rw [Qq,Qq,Qh,Qa g];rfl
end
def zE (k:Int):Cl->Bool:=λc=>decide (c.2.1=k)
noncomputable def zI (l:List Cl):List Int:=(oN (l.map (·.2.1))).choose
def yt (l:List Cl):(zI l).Pairwise (·<·)/\∀k,k∈zI l↔k∈l.map (·.2.1):=(oN (l.map λc:Cl=>c.2.1)).choose_spec
def jW (n:Nat):List zi:=[(0,List.replicate n 0)]
noncomputable def xZ (f:List Cl->List zi) (l:List Cl) (P:List zi) (k:Int):List zi:=
 yi (P++yx P (yA (yb (zE k) l) l.length (f (l.filter (zE k)))))
noncomputable def Vt (f:List Cl->List zi) (l:List Cl):List zi:=(zI l).foldl (xZ f l) (jW l.length)
open Classical in
noncomputable def asD (done:List Int) (l:List Cl):List Rat:=l.map λc=>if c.2.1∈done then (c.1:Rat) else 0
section
def EE (done:List Int) (l:List Cl):(asD done l).length=l.length:=Qb _
def pL {i:Nat} {c:Cl} (g:l[i]? =some c) (h:c.2.1∈done):(asD done l)[i]? =some (c.1:Rat):=by
 unfold asD;rw [Qh,g,Option.map_some,QD h]
def gm {i:Nat} {c:Cl} (g:l[i]? =some c) (h:c.2.1∉done):(asD done l)[i]? =some 0:=by
 unfold asD;rw [Qh,g,Option.map_some,QI h]
structure RkI (r:Rl) (l:List Cl) (done:List Int) (P:List zi):Prop where
 ful:Ful l.length (zu (asD done l)) (asD done l) P
 fit:∀e:Rat,0<=e->∀k∈done,yE r ((zo l (zg P e)).filter (·.rank=k))
 zero:∀e:Rat,0<=e->∀(i:Nat) (c:Cl) (q:Rat),l[i]? =some c->(zg P e)[i]? =some q->c.2.1∉done->q=0
 ord:∀e:Rat,0<=e->∀x∈zo l (zg P e),∀y∈zo l (zg P e),x.rank∈done->x.rank<y.rank->0<y.part->x.part=x.am
def Fo (n:Nat):Ful n 0 (List.replicate n 0) (jW n):=by
 refine ⟨⟨jai _ _,λc m=>?_,rfl,rfl⟩,jai _ _,λi x y z _ g=>by simp [jW] at g⟩;rw [Qp.mp m];exact ⟨QF,YL n⟩
def RkI.nil:RkI r l [] (jW l.length):=by
 have e:asD [] l=List.replicate l.length 0:=by
  unfold asD;rw [<-jaZ];exact QA λc _=>QI Qm
 refine ⟨?_,λe _ k p=>absurd p Qm,λe _ i c q s m _=>?_,λe _ x _ y _ g=>absurd g Qm⟩
 ·rw [e,YL];exact Fo l.length
 ·have:(List.replicate l.length (0:Rat))[i]? =some q:=m;have:=(Qf.mp this).2;rw [TB] at this;exact this.symm
def RkI.step (h:RkI r l done P) (O:∀w∈done,w<k) (hf:GF r (l.filter (zE k)) (f (l.filter (zE k)))):RkI r l (done++[k]) (xZ f l P k):=by
 have I:=XT (zE k) l;have lk:=Ub (zE k) l;have M:=hf.ful.spread I lk;have st:=h.ful.std;have kn:k∉done:=λz=>absurd (O k z) ⋯;have G:=jI st h.ful.mono M.std M.mono;have inl:∀{i:Nat},i<l.length->∃c,l[i]? =some c:=λ{i} m=>⟨_,Qa m⟩
 have T:List.zipWith (·+·) (asD done l) (yd (yb (zE k) l) l.length (amQ (l.filter (zE k))))=asD (done++[k]) l:=by
  apply jat
  intro i
  by_cases m:i<l.length
  ·obtain ⟨c,g⟩:=inl m;rw [Qx,AA,qo I m (bH l)]
   by_cases s:c.2.1∈done
   ·have n1:i∉yb (zE k) l:=λz=>by
     have:=Qz ((XA g).mp z);rw [this] at s;exact kn s
    rw [pL g s,QI n1,pL g (jak _ s)];show some ((c.1:Rat)+0)=_;rw [Rat.add_zero]
   ·by_cases J:c.2.1=k
    ·have n1:i∈yb (zE k) l:=(XA g).mpr (QT J);rw [gm g s,QD n1,pL g (QB _ (by rw [J];exact jbo _))];unfold amQ;rw [Qh,g];show some ((0:Rat)+(c.1:Rat))=_;rw [Rat.zero_add]
    ·have n1:i∉yb (zE k) l:=λz=>J (Qz ((XA g).mp z))
     rw [gm g s,QI n1,gm g (λz=>by
      rcases QW.mp z with z|z
      ·exact s z
      ·exact J (Qp.mp z))]
     show some ((0:Rat)+0)=_;rw [Rat.zero_add]
  ·rw [QC (by rw [Qy,EE];lia),QC (by rw [EE];lia)]
 have eT:zu (asD done l)+zu (amQ (l.filter (zE k)))=zu (asD (done++[k]) l):=by
  rw [<-T];exact (G.std.ok _ (jaO G.std.last)).2.symm
 rw [T,eT] at G
 have parts:∀e:Rat,0<=e->zg (xZ f l P k) e=if e<zu (asD done l) then zg P e else List.zipWith (·+·) (asD done l) (yd (yb (zE k) l) l.length (zg (f (l.filter (zE k))) (e - zu (asD done l)))):=λe h0=>by
  unfold xZ;rw [cg st M.std h0,hf.ful.std.spreadE I lk]
 have OJ:∀e:Rat,(zg (xZ f l P k) e).length=l.length:=λe=>G.std.len;have D:∀x:Rat,(zg (f (l.filter (zE k))) x).length=(yb (zE k) l).length:=λx=>by rw [hf.ful.std.len,lk]
 have here:∀e:Rat,0<=e->¬e<zu (asD done l)->∀(i:Nat) (c:Cl),l[i]? =some c->(c.2.1∈done->(zg (xZ f l P k) e)[i]? =some (c.1:Rat))/\(c.2.1∉done++[k]->(zg (xZ f l P k) e)[i]? =some 0)/\(c.2.1=k->(zg (xZ f l P k) e)[i]? =(yd (yb (zE k) l) l.length (zg (f (l.filter (zE k))) (e - zu (asD done l))))[i]?):=λe h0 t i c g=>by
  have m:=(Qf.mp g).1;rw [parts e h0,QI t,Qx];refine ⟨λs=>?_,λs=>?_,λs=>?_⟩
  ·rw [pL g s,xD m λz=>by
    have:=Qz ((XA g).mp z);rw [this] at s
    exact kn s]
   show some ((c.1:Rat)+0)=_;rw [Rat.add_zero]
  ·rw [gm g λz=>s (jak _ z),xD m λz=>by
    have:=Qz ((XA g).mp z)
    exact s (QB _ (by rw [this];exact jbo _))]
   show some ((0:Rat)+0)=_;rw [Rat.zero_add]
  ·rw [gm g (by rw [s];exact kn)];have A:=Qa (l:=yd (yb (zE k) l) l.length (zg (f (l.filter (zE k))) (e - zu (asD done l)))) (i:=i) (by rw [xg];exact m);rw [A];show some ((0:Rat)+_)=_;rw [Rat.zero_add]
 have zero:∀e:Rat,0<=e->∀(i:Nat) (c:Cl) (q:Rat),l[i]? =some c->(zg (xZ f l P k) e)[i]? =some q->c.2.1∉done++[k]->q=0:=λe h0 i c q g C hn=>by
  by_cases t:e<zu (asD done l)
  ·rw [parts e h0,QD t] at C;exact h.zero e h0 i c q g C λz=>hn (jak _ z)
  ·rw [(here e h0 t i c g).2.1 hn] at C;cases C;rfl
 have rk:∀{w:Int} {i:Nat},i∈yb (zE w) l->∃c,l[i]? =some c/\c.2.1=w:=λ{w i} m=>by
  obtain ⟨c,g⟩:=inl ((XT (zE w) l).lt i m);exact ⟨c,g,Qz ((XA g).mp m)⟩
 refine ⟨G,λe h0 w Y=>?_,zero,λe h0 x L y K Sg Z X=>?_⟩
 ·rw [XE (p:=zE w) _ (λc x=>rfl) (OJ e)]
  by_cases t:e<zu (asD done l)
  ·rcases QW.mp Y with z|z
   ·have:=h.fit e h0 w z;rw [XE (p:=zE w) _ (λc x=>rfl) st.len] at this;rw [parts e h0,QD t];exact this
   ·rw [Qp.mp z]
    have e0:zK 0 (yb (zE k) l) (zg (xZ f l P k) e)=zg (f (l.filter (zE k))) 0:=by
     rw [hf.ful.std.zero,<-lk,<-jaZ];unfold zK;refine QA λi m=>?_;obtain ⟨c,g,A⟩:=rk m;have il:=(Qf.mp g).1;have U:=Qa (l:=zg P e) (i:=i) (by rw [st.len];exact il);rw [parts e h0,QD t,Qq,U];exact h.zero e h0 i c _ g U (by rw [A];exact kn)
    rw [e0];exact hf.good.fit 0 Tg
  ·rcases QW.mp Y with z|z
   ·have T0:=st.T0;have:=h.fit _ T0 w z;rw [XE (p:=zE w) _ (λc x=>rfl) st.len,st.past Tg] at this;rw [ju λi m=>?_]
    ·exact this
    ·obtain ⟨c,g,A⟩:=rk m;rw [(here e h0 t i c g).1 (by rw [A];exact z),pL g (by rw [A];exact z)]
   ·rw [Qp.mp z];rw [ju (u:=yd (yb (zE k) l) l.length (zg (f (l.filter (zE k))) (e - zu (asD done l)))) λi m=>?_,qW I (D _)]
    ·exact hf.good.fit _ (by have:=TX.mp t;grind)
    ·obtain ⟨c,g,A⟩:=rk m;exact (here e h0 t i c g).2.2 A
 ·obtain ⟨j,d,N,hd,Ou,rfl⟩:=yZ K
  have big:x.rank=k->False:=λA=>by
   have:=zero e h0 j d N hd Ou λz=>by
    have lt':x.rank<d.2.1:=Z
    rcases QW.mp z with z|z
    ·have:=O _ z;lia
    ·have:=Qp.mp z;lia
   have pos:0<N:=X;rw [this] at pos;exact absurd pos jaP
  rcases QW.mp Sg with z|z
  ·by_cases t:e<zu (asD done l)
   ·rw [parts e h0,QD t] at L K;exact h.ord e h0 x L _ K z Z X
   ·obtain ⟨i,c,q,g,C,rfl⟩:=yZ L;rw [(here e h0 t i c g).1 z] at C;cases C;rfl
  ·exact (big (Qp.mp z)).elim
theorem qP:∀(g done:List Int) (P:List zi),RkI r l done P->(done++g).Pairwise (·<·)->(∀k∈g,GF r (l.filter (zE k)) (f (l.filter (zE k))))->RkI r l (done++g) (g.foldl (xZ f l) P)
 |[],done,P,h,_,_=>by rw [jaX];exact h
 |k::g,done,P,h,hp,hf=>by
  have e:done++k::g=done++[k]++g:=by rw [jbk];rfl
  rw [e] at hp⊢;rw [List.foldl_cons];refine qP g (done++[k]) _ (h.step (λm p=>?_) (hf k (Qg ..))) hp λm p=>hf m (Qe _ p);exact (TR.mp (TR.mp hp).1).2.2 m p k (jbo _)
def Gb (hf:∀k∈zI l,GF r (l.filter (zE k)) (f (l.filter (zE k)))):RkI r l (zI l) (Vt f l):=by
 have:=qP (zI l) [] _ RkI.nil (by rw [jbx];exact (yt l).1) hf;rw [jbx] at this;exact this
def wW (hf:∀k∈zI l,GF r (l.filter (zE k)) (f (l.filter (zE k)))):GF (.ranks r) l (Vt f l):=by
 have h:=Gb hf;have mem:∀{i:Nat} {c:Cl},l[i]? =some c->c.2.1∈zI l:=λ{i c} g=>((yt l).2 _).mpr (Qk.mpr ⟨c,Qd g,rfl⟩)
 have t:asD (zI l) l=amQ l:=by
  unfold asD amQ;refine QA λc g=>?_;obtain ⟨i,s⟩:=QG.mp g;rw [QD (mem s)]
 have ful:=h.ful;rw [t] at ful
 have fits:∀(e:Rat),0<=e->∀k,yE r ((zo l (zg (Vt f l) e)).filter (·.rank=k)):=λe h0 k=>by
  by_cases z:k∈zI l
  ·exact h.fit e h0 k z
  ·rw [List.filter_eq_nil_iff.mpr λx m hd=>?_]
   ·exact Vg r
   ·obtain ⟨i,c,q,g,_,rfl⟩:=yZ m;have u:c.2.1=k:=Qz hd;exact z (by rw [<-u];exact mem g)
 refine ⟨⟨ful.std,λe h0=>⟨λx m=>?_,fits e h0,λx m y p A w=>?_⟩⟩,ful⟩
 ·exact (fits e h0 x.rank).inQ x (Tc.mpr ⟨m,QT rfl⟩)
 ·refine h.ord e h0 x m y p ?_ A w;obtain ⟨i,c,q,g,_,rfl⟩:=yZ m;exact mem g
end
noncomputable def zJ:Rl->List Cl->List zi
 | .shares,l=>shP (amV l)
 | .evenly,l=>evP (amV l) (lvV (amV l))
 | .losses,l=>loP (amV l) (lvV (amV l))
 | .halves,l=>yi (hvP (amV l) (lvV (amV l)))
 | .other r,l=>yk (zJ r l)
 | .ranks r,l=>Vt (λl=>zJ r l) l
 | .groups _ _,_=>[]
 | .upto t b x y,l=>We (Rat.divInt t b) (zJ x l) (zJ y l)
def POk:Rl->Prop
 | .other r=>POk r
 | .upto t b x y=>Xi t b/\POk x/\POk y
 | .ranks r=>POk r
 | .groups _ _=>False
 |_=>True
def Ye {l:List Cl} (nn:∀c∈l,0<=c.1) (p:Cl->Bool):∀c∈l.filter p,0<=c.1:=λc g=>nn c (Tc.mp g).1
def ZH (nn:∀c∈l,0<=c.1):∀a∈amV l,0<=a:=λa ha=>by
 obtain ⟨c,g,rfl⟩:=Qk.mp ha;exact nn c g
theorem xw:∀{r:Rl} {l:List Cl},POk r->(∀c∈l,0<=c.1)->GF r l (zJ r l)
 | .shares,l,_,nn=>⟨fG (ZH nn),Ab (ZH nn)⟩
 | .evenly,l,_,nn=>⟨XD (WJ (ZH nn)),Vf (WJ (ZH nn))⟩
 | .losses,l,_,nn=>⟨fH (WJ (ZH nn)),jG (WJ (ZH nn))⟩
 | .halves,l,_,nn=>⟨rQ (WJ (ZH nn)),Ac (WJ (ZH nn))⟩
 | .other r,l,h,nn=>⟨(xw (r:=r) h nn).good.other,(xw (r:=r) h nn).ful.turned⟩
 | .ranks r,l,h,nn=>wW λk _=>xw h (Ye nn _)
 | .groups _ _,_,h,_=>h.elim
 | .upto t b x y,l,h,nn=>⟨Good.upto rfl (Ua h.1).1 (Ua h.1).2 nn (xw h.2.1 nn).good (xw h.2.2 nn).good,uG (Ua h.1).1 (Ua h.1).2 (xw h.2.1 nn).ful (xw h.2.2 nn).ful⟩
def DQ (d:Nat) (x:Rat):Prop:=∃D:Int,(0<D/\D<=2 ^ d)/\ZM D x
def DC (d:Nat) (c:zi):Prop:=DQ d c.1/\∀x∈c.2,DQ d x
def DP (d:Nat) (P:List zi):Prop:=∀c∈P,DC d c
def UC {a b:Int} {m n:Nat} (ha:0<a/\a<=2 ^ m) (g:0<b/\b<=2 ^ n):0<a*b/\a*b<=2 ^ (m+n):=by
 refine ⟨Int.mul_pos ha.1 g.1,?_⟩;rw [Int.pow_add];exact Int.mul_le_mul ha.2 g.2 (jbe g.1) (jaH (jbe ha.1) ha.2)
def Ky {m n:Nat} (h:m<=n):(2:Int) ^ m<=2 ^ n:=by
 have:=Nat.pow_le_pow_right (n:=2) nofun h;have e:∀k:Nat,(2:Int) ^ k=((2 ^ k:Nat):Int):=λk=>by rw [jbL];rfl
 rw [e,e];exact Int.ofNat_le.mpr this
section
variable {d d' t:Nat} {x y:Rat} {T:Int}
def DQ.mono (h:DQ d x) (hd:d<=d'):DQ d' x:=by
 obtain ⟨D,⟨p,m⟩,g⟩:=h;exact ⟨D,⟨p,jaH m (Ky hd)⟩,g⟩
def DQ.int (n:Int):DQ 0 (n:Rat):=⟨1,⟨nofun,nofun⟩,ZM.int n 1⟩
def DQ.zero:DQ 0 0:=DQ.int 0
def DQ.add (h:DQ d x) (g:DQ d' y):DQ (d+d') (x+y):=by
 obtain ⟨D,p,q⟩:=h;obtain ⟨E,m,g3⟩:=g;exact ⟨D*E,UC p m,(q.mul E).add (g3.mulL D)⟩
def DQ.sub (h:DQ d x) (g:DQ d' y):DQ (d+d') (x - y):=by
 obtain ⟨D,p,q⟩:=h;obtain ⟨E,m,g3⟩:=g;exact ⟨D*E,UC p m,(q.mul E).sub (g3.mulL D)⟩
def DP.mono {P:List zi} (h:DP d P) (hd:d<=d'):DP d' P:=λc g=>⟨(h c g).1.mono hd,λx m=>((h c g).2 x m).mono hd⟩
def DQ.mix {Y X U M db:Nat} {e a b:Rat} (he:DQ Y e) (K:DQ X x) (J:DQ U y) (ha:DQ M a) (L:DQ db b) (Ot:a<b) (a0:0<=a) (bT:b<=(T:Rat)) (hT:T<=2 ^ t):DQ (Y+X+(U+(t+(M+db)))) (Ya ((e - a) / (b - a)) x y):=by
 have line:=ZZ (x:=x) (y:=y) (E:=e) Ot;generalize Ya ((e - a) / (b - a)) x y=m at*;obtain ⟨I,pe,ke,he⟩:=he;obtain ⟨O,Z,P,K⟩:=K;obtain ⟨G,py,ky,J⟩:=J;obtain ⟨Da,pa,g,ha⟩:=ha;obtain ⟨Db,pb,q,L⟩:=L
 have D:(b - a)*((Da*Db:Int):Rat)=((q*Da - g*Db:Int):Rat):=by
  rw [jba,QL,QL,QL,<-ha,<-L];grind
 have A:=UC pa pb;have p:=Zm A.1
 have T0:0<T:=by
  have:(0:Rat)<(T:Rat):=by grind
  exact Int.not_le.mp λz=>by
   have:=QH.mpr z
   grind
 have N0:0<q*Da - g*Db:=by
  have:(0:Rat)<((q*Da - g*Db:Int):Rat):=by rw [<-D];exact jbR (by grind) p
  exact Int.not_le.mp λz=>by
   have:=QH.mpr z
   grind
 have NT:q*Da - g*Db<=T*(Da*Db):=by
  apply WQ
  rw [<-D,QL T];exact xV (by grind) (QQ p)
 have pN:0<q*Da - g*Db/\q*Da - g*Db<=2 ^ (t+(M+db)):=⟨N0,jaH NT (UC ⟨T0,hT⟩ A).2⟩;generalize q*Da - g*Db=N at*;refine ⟨I*O*(G*N),UC (UC pe Z) (UC py pN),P*(I*G*N)+(ke*Da - g*I)*(ky*O - P*G)*Db,?_⟩;simp only [QL,jba,Rat.intCast_add] at D⊢;rw [<-he,<-K,<-J,<-ha,<-D];generalize (I:Rat)=w at*;generalize (O:Rat)=u at*;generalize (G:Rat)=s at*;generalize (Da:Rat)=r at*;generalize (Db:Rat)=C at*;have:m*(w*u*(s*((b - a)*(r*C)))) - (x*u*(w*s*((b - a)*(r*C)))+(e*w*r - a*r*w)*(y*s*u - x*u*s)*C)=w*u*s*r*C*((m - x)*(b - a) - (e - a)*(y - x)):=by grind
 rw [line] at this
 grind
theorem jw {m u:Nat} {e:Rat} (he:DQ u e) (s:T<=2 ^ t):∀{P:List zi},yG P->(∀c∈P,0<=c.1/\c.1<=(T:Rat))->DP d P->∀x∈zg P e,DQ (u+4*d+t) x
 |[],_,_,_,x,hx=>by simp [zg] at hx
 |[c],_,_,h,x,hx=>((h c (Qg ..)).2 x hx).mono ⋯
 |c::f::r,hr,rg,h,x,hx=>by
  rw [zg] at hx
  split at hx
  ·obtain ⟨i,z⟩:=QG.mp hx;obtain ⟨p,q,hp,w,rfl⟩:=UN z;have g:=h c (Qg ..);have hd:=h f (Qe _ (Qg ..));have lt:=(Qr.mp hr).1 f (Qg ..);exact (DQ.mix he (g.2 p (Qd hp)) (hd.2 q (Qd w)) g.1 hd.1 lt (rg c (Qg ..)).1 (rg f (Qe _ (Qg ..))).2 s).mono ⋯
  ·exact jw (m:=m) he s (Qr.mp hr).2 (λc g=>rg c (Qe _ g)) (λc g=>h c (Qe _ g)) x hx
def DP.spread {P:List zi} {pl:List Nat} {n m:Nat} (hp:Pls n pl) (q:∀c∈P,c.2.length=pl.length) (h:DP d P):DP d (yA pl n P):=λc u=>by
 obtain ⟨c,g,rfl⟩:=Qk.mp u;refine ⟨(h c g).1,λx p=>?_⟩;obtain ⟨i,s⟩:=QG.mp p
 rcases xJ hp (q c g) s with ⟨j,_,r⟩|⟨_,rfl⟩
 ·exact (h c g).2 x (Qd r)
 ·exact DQ.zero.mono ⋯
def DP.keep {P:List zi} (h:DP d P):DP d (yi P):=λc g=>h c ((Zi P).subset g)
def DP.app {P p:List zi} (ne:P≠[]) (h:DP d P) (m:DC 0 (lastC P)) (g:DP d p):DP d (P++yx P p):=λc r=>by
 rcases QW.mp r with z|z
 ·exact h c z
 ·obtain ⟨f,hf,rfl⟩:=Qk.mp z;have hf:=g f (TU hf);refine ⟨(m.1.add hf.1).mono ⋯,λx q=>?_⟩;obtain ⟨a,ha,b,s,rfl⟩:=dB q;exact ((m.2 a ha).add (hf.2 b s)).mono ⋯
def DP.turned {P:List zi} (g:DC 0 (lastC P)) (h:DP d P):DP d (yk P):=λc p=>by
 obtain ⟨f,hf,rfl⟩:=Qk.mp p;have hf:=h f (jbF.mp hf);refine ⟨(g.1.sub hf.1).mono ⋯,λx m=>?_⟩;obtain ⟨a,ha,b,q,rfl⟩:=dB m;exact ((g.2 a ha).sub (hf.2 b q)).mono ⋯
def UH (b:Int):Nat:=b.toNat.log2+1
def Hj {b:Int} (g:0<b):b<=2 ^ UH b:=by
 have:=Nat.lt_log2_self (n:=b.toNat);have e:(2:Int) ^ UH b=((2 ^ (b.toNat.log2+1):Nat):Int):=by unfold UH;rw [jbL];rfl
 rw [e];lia
def DP.upto {P K:List zi} {as:List Rat} {p b:Int} {m:Nat} {U:Rat} (J:0<b) (st:Std m U as P) (G:DC 0 (U,as)) (h:DP d P) (g:DP d K):DP (UH b+d) (We (Rat.divInt p b) P K):=by
 have bn:b≠0:=⋯
 have I:0<b/\b<=2 ^ UH b:=⟨J,Hj J⟩
 have sc:∀{t:Int} {x:Rat},DQ d x->DQ (UH b+d) (x*Rat.divInt t b):=λ{t x} r=>by
  obtain ⟨D,s,A⟩:=r;exact ⟨b*D,UC I s,A.port bn⟩
 have N:∀{x:Rat},DQ 0 x->ZM 1 x:=λ{x} r=>by
  obtain ⟨D,s,A⟩:=r;have:D=1:=by have:=s.2;have:=s.1;lia
  rwa [this] at A
 have M:lastC (zO (Rat.divInt p b) P)=(U*Rat.divInt p b,Vu (Rat.divInt p b) as):=by
  unfold lastC zO;rw [jaC,st.last];rfl
 have both:∀{x y:Rat} {t:Int},DQ 0 x->DQ d y->DQ (UH b+d) (x*Rat.divInt p b+y*Rat.divInt t b):=λ{x y t} r hy=>by
  obtain ⟨D,s,A⟩:=hy;have w:=(N r).port (t:=p) bn;rw [jbG] at w;exact ⟨b*D,UC I s,(w.mul D).add (A.port bn)⟩
 unfold We;refine DP.keep λc X=>?_
 rcases QW.mp X with z|z
 ·obtain ⟨f,hf,rfl⟩:=Qk.mp z;refine ⟨sc (h f hf).1,λx r=>?_⟩;obtain ⟨a,ha,rfl⟩:=Qk.mp r;exact sc ((h f hf).2 a ha)
 ·obtain ⟨f',C,rfl⟩:=Qk.mp z;have u:=TU C;obtain ⟨f,hf,rfl⟩:=Qk.mp u;rw [M,KH bn];refine ⟨both G.1 (g f hf).1,λx r=>?_⟩;obtain ⟨a,ha,q,O,rfl⟩:=dB r;obtain ⟨Y,OB,rfl⟩:=Qk.mp ha;obtain ⟨L,Z,rfl⟩:=Qk.mp O;exact both (G.2 Y OB) ((g f hf).2 L Z)
end
def XZ (t:Nat):Rl->Nat
 | .halves=>2
 | .other r=>XZ t r
 | .ranks r=>XZ t r
 | .upto _ b x y=>UH b+max (XZ t x) (XZ t y)
 |_=>0
def Ys (h:List Int):DC 0 (zR h):=⟨DQ.int _,λx g=>by
 obtain ⟨a,_,rfl⟩:=Qk.mp g
 exact DQ.int a⟩
def rY (l:List Cl):DC 0 (zu (amQ l),amQ l):=by rw [<-dC];exact Ys _
theorem DA {x:Int} {w:Int}:∀{p:List Int},p.Pairwise (·<·)->(p.map λg=>if x=g then w else 0).sum=if x∈p then w else 0
 |[],_=>by simp
 |g::p,h=>by
  obtain ⟨r,q⟩:=Qr.mp h;rw [Qj,QU,DA q]
  by_cases e:x=g
  ·have:x∉p:=λz=>by have:=r x z;lia
   rw [QD e,QI this,QD (by rw [e];exact Qg ..)];lia
  ·rw [QI e]
   by_cases z:x∈p
   ·rw [QD z,QD (Qe _ z)];lia
   ·rw [QI z,QI (λm=>(Qn.mp m).elim e z)];lia
theorem Bg (f g:Int->Int):∀m:List Int,(m.map λk=>f k+g k).sum=(m.map f).sum+(m.map g).sum
 |[]=>rfl
 |k::m=>by rw [Qj,Qj,Qj,QU,QU,QU,Bg f g m];lia
theorem tE (key w:Cl->Int) {m:List Int} (q:m.Pairwise (·<·)):∀l:List Cl,(∀c∈l,key c∈m)->(m.map λg=>((l.filter λc=>decide (key c=g)).map w).sum).sum=(l.map w).sum
 |[],_=>by
  show (m.map λ_=>(0:Int)).sum=0
  induction m with
  |nil=>rfl
  |cons g m p=>rw [Qj,QU,p (Qr.mp q).2 λc s=>absurd s Qm];rfl
 |c::l,h=>by
  have p:=tE key w q l λx r=>h x (Qe _ r)
  have e:(m.map λg=>(((c::l).filter λc=>decide (key c=g)).map w).sum)=m.map λg=>(if key c=g then w c else 0)+((l.filter λc=>decide (key c=g)).map w).sum:=by
   refine QA λg _=>?_;rw [jaN]
   by_cases z:key c=g
   ·rw [QD z,QD (QT z),Qj,QU]
   ·rw [QI z,QI (by rw [Tf z];decide)];lia
  rw [e,Bg,DA q,QD (h c (Qg ..)),p,Qj,QU]
def aY {l:List Cl} (nn:∀c∈l,0<=c.1) (p:Cl->Bool):(amV (l.filter p)).sum<=(amV l).sum:=by
 induction l with
 |nil=>exact jbQ _
 |cons c l g=>
  have g:=g λx m=>nn x (Qe _ m);have h0:=nn c (Qg ..);have e:(amV (c::l)).sum=c.1+(amV l).sum:=by unfold amV;rw [Qj,QU]
  rw [jaN]
  split
  ·have q:(amV (c::l.filter p)).sum=c.1+(amV (l.filter p)).sum:=by unfold amV;rw [Qj,QU]
   rw [e,q];lia
  ·rw [e];lia
theorem BS {r:Rl} {l:List Cl} {f:List Cl->List zi} {d:Nat}:∀(g done:List Int) (P:List zi),RkI r l done P->(done++g).Pairwise (·<·)->(∀k∈g,GF r (l.filter (zE k)) (f (l.filter (zE k)))/\DP d (f (l.filter (zE k))))->DP d P->DP d (g.foldl (xZ f l) P)
 |[],done,P,h,_,_,hd=>hd
 |k::g,done,P,h,hp,hf,hd=>by
  have e:done++k::g=done++[k]++g:=by rw [jbk];rfl
  rw [e] at hp;rw [List.foldl_cons];have s:=hf k (Qg ..);refine BS g (done++[k]) _ (h.step (λq t=>?_) s.1) hp (λq t=>hf q (Qe _ t)) ?_
  ·exact (TR.mp (TR.mp hp).1).2.2 q t k (jbo _)
  ·refine DP.keep (DP.app h.ful.std.ne hd ?_ (DP.spread (m:=0) (XT _ l) (λc y=>by rw [(s.1.ful.std.ok c y).1,Ub]) s.2));rw [h.ful.std.lastC]
   have u:∀x∈asD done l,DQ 0 x:=λx p=>by
    unfold asD at p;obtain ⟨c,_,rfl⟩:=Qk.mp p
    split
    ·exact DQ.int _
    ·exact DQ.zero
   refine ⟨?_,u⟩
   have:∀{v:List Rat},(∀x∈v,DQ 0 x)->DQ 0 (zu v):=by
    intro v
    induction v with
    |nil=>intro _;rw [zu];exact DQ.zero
    |cons a v w=>
     intro h;rw [zu];exact (h a (Qg ..)).add (w λx p=>h x (Qe _ p))
   exact this u
theorem Uj {t:Nat}:∀{r:Rl} {l:List Cl},POk r->(∀c∈l,0<=c.1)->(amV l).sum<=2 ^ t->DP (XZ t r) (zJ r l)
 | .shares,l,_,_,_=>λc m=>by
   simp only [zJ,shP] at m
   split at m
   ·rw [Qp.mp m];exact Ys _
   ·rcases Qn.mp m with rfl|m
    ·exact Ys _
    ·rw [Qp.mp m];exact Ys _
 | .evenly,l,_,_,_=>λc m=>by
   obtain ⟨z,_,rfl⟩:=Qk.mp m;exact Ys _
 | .losses,l,_,_,_=>λc m=>by
   obtain ⟨z,_,rfl⟩:=Qk.mp m;exact Ys _
 | .halves,l,_,nn,_=>by
   have ge:DP 0 (evP (amV l) (lvV (amV l))):=λc m=>by
    obtain ⟨z,_,rfl⟩:=Qk.mp m;exact Ys _
   have gl:DP 0 (loP (amV l) (lvV (amV l))):=λc m=>by
    obtain ⟨z,_,rfl⟩:=Qk.mp m;exact Ys _
   have st:=(Vf (WJ (ZH nn))).std;have:=DP.upto (p:=1) (b:=2) nofun st (rY l) ge gl;have w:Rat.divInt 1 2=(1:Rat) / 2:=by decide+kernel
   have u:We (1 / 2) (evP (amV l) (lvV (amV l))) (loP (amV l) (lvV (amV l)))=yi (hvP (amV l) (lvV (amV l))):=by
    unfold We;rw [show (1:Rat) - 1 / 2=1 / 2 by decide+kernel];rfl
   rw [w,u] at this;exact this.mono (by show UH 2+0<=2;decide)
 | .other r,l,h,nn,q=>by
   have g:=(xw (r:=r) h nn).ful.std;refine DP.turned ?_ (Uj (r:=r) h nn q);rw [g.lastC];exact rY l
 | .ranks r,l,h,nn,q=>by
   refine BS (zI l) [] _ RkI.nil (by rw [jbx];exact (yt l).1) (λk _=>⟨xw h (Ye nn _),Uj h (Ye nn _) (jaH (aY nn _) q)⟩) λc m=>?_;rw [Qp.mp m];refine ⟨DQ.zero.mono ⋯,λx s=>?_⟩;rw [List.eq_of_mem_replicate s];exact DQ.zero.mono ⋯
 | .groups _ _,_,h,_,_=>h.elim
 | .upto t' b x y,l,h,nn,q=>by
   have st:=(xw h.2.1 nn).ful.std;exact DP.upto (by have:=h.1.2.1;have:=h.1.2.2.1;lia) st (rY l) ((Uj h.2.1 nn q).mono (Nat.le_max_left ..)) ((Uj h.2.2 nn q).mono (Nat.le_max_right ..))
def aa:Rl->Nat
 | .halves=>2
 | .other r=>aa r
 | .ranks r=>aa r
 | .upto _ _ x y=>aa x+aa y
 |_=>1
theorem uR (f:Int->Nat):∀g:List Int,(((g.map f).sum:Nat):Int)=(g.map λk=>(f k:Int)).sum
 |[]=>rfl
 |k::g=>by rw [Qj,QU,Qj,QU,<-uR f g];lia
theorem lF {α:Type}:∀l:List α,(l.map λ_=>(1:Int)).sum=(l.length:Nat)
 |[]=>rfl
 |a::l=>by rw [Qj,QU,lF l,QE];lia
def ur (key:Cl->Int) {m:List Int} (p:m.Pairwise (·<·)) (l:List Cl) (h:∀c∈l,key c∈m):(m.map λg=>(l.filter λc=>decide (key c=g)).length).sum=l.length:=by
 have:=tE key (λ_=>1) p l h;rw [lF] at this;have e:=uR (λg=>(l.filter λc=>decide (key c=g)).length) m;have q:(m.map λg=>(((l.filter λc=>decide (key c=g)).length:Nat):Int))=m.map λg=>((l.filter λc=>decide (key c=g)).map λ_=>(1:Int)).sum:=QA λg _=>(lF _).symm;rw [q,this] at e;lia
def Hi (f:List Cl->List zi) (l:List Cl) (P:List zi) (k:Int):(xZ f l P k).length<=P.length+((f (l.filter (zE k))).length - 1):=by
 unfold xZ;refine QP (Zi _).length_le ?_;unfold yx yA;simp only [QM,Qb,jaM];lia
theorem lQ:∀(g:List Int) (P:List zi),(∀k∈g,(f (l.filter (zE k))).length<=c*(l.filter (zE k)).length+1)->(g.foldl (xZ f l) P).length<=P.length+c*(g.map λk=>(l.filter (zE k)).length).sum
 |[],P,_=>by simp
 |k::g,P,h=>by
  have s:=lQ g (xZ f l P k) λm p=>h m (Qe _ p);have r:=Hi f l P k;have q:=h k (Qg ..);rw [List.foldl_cons,Qj,QU,Nat.mul_add];lia
def eQ (m:g∈zI l):1<=(l.filter (zE g)).length:=by
 obtain ⟨c,p,rfl⟩:=Qk.mp (((yt l).2 g).mp m);exact List.length_pos_of_mem (Tc.mpr ⟨p,QT rfl⟩)
theorem WM:∀{r:Rl} {l:List Cl},POk r->(∀c∈l,0<=c.1)->(zJ r l).length<=aa r*l.length+1
 | .shares,l,_,_=>by
   show (shP (amV l)).length<=1*l.length+1;unfold shP
   split
   ·simp
   ·rename_i c;have:l≠[]:=λz=>c (by rw [z];rfl);have:=jbb.mpr this;simp only [QE,List.length_nil];lia
 | .evenly,l,_,nn=>by
   have f:=(WJ (ZH nn)).few;rw [zQ] at f;show (evP _ _).length<=1*l.length+1;unfold evP;rw [Qb];lia
 | .losses,l,_,nn=>by
   have f:=(WJ (ZH nn)).few;rw [zQ] at f;show (loP _ _).length<=1*l.length+1;unfold loP;rw [Qb,Tz];lia
 | .halves,l,_,nn=>by
   have f:=(WJ (ZH nn)).few;rw [zQ] at f;show (yi _).length<=2*l.length+1;refine QP (Zi _).length_le ?_;unfold hvP hfA hfB yx zO evP loP;simp only [QM,Qb,jaM,Tz];lia
 | .other r,l,h,nn=>by
   show (yk _).length<=aa r*l.length+1;unfold yk;rw [Qb,Tz];exact WM (r:=r) h nn
 | .ranks r,l,h,nn=>by
   have m:=lQ (f:=λl=>zJ r l) (l:=l) (c:=aa r) (zI l) (jW l.length) λk _=>WM (r:=r) h (Ye nn _);have g:=ur (·.2.1) (yt l).1 l λc p=>((yt l).2 _).mpr (Qk.mpr ⟨c,p,rfl⟩);have e:((zI l).map λk=>(l.filter (zE k)).length).sum=l.length:=g;rw [e] at m;show (Vt (λl=>zJ r l) l).length<=aa r*l.length+1;have z:(jW l.length).length=1:=rfl;unfold Vt;lia
 | .groups _ _,_,h,_=>h.elim
 | .upto t b x y,l,h,nn=>by
   have m:=WM h.2.1 nn;have g:=WM h.2.2 nn;show (We _ _ _).length<=(aa x+aa y)*l.length+1;unfold We;refine QP (Zi _).length_le ?_;unfold yx zO;simp only [QM,Qb,jaM];rw [Nat.add_mul];lia
structure ClS (t:Nat) (l:List Cl):Prop where
 pos:0<l.length
 few:l.length<=8
 nn:∀c∈l,0<=c.1/\0<=c.2.1/\0<=c.2.2
 sum:(amV l).sum<=2 ^ t
theorem YV:∀{as:List Int},(∀a∈as,0<=a)->∀a∈as,a<=as.sum
 |[],_,a,h=>absurd h Qm
 |b::as,nn,a,h=>by
  have h0:=nn b (Qg ..);have m:=bV λx g=>nn x (Qe _ g);rw [QU]
  rcases Qn.mp h with rfl|h
  ·lia
  ·have:=YV (λx g=>nn x (Qe _ g)) a h;lia
section
def Bd (h0:0<=x) (h:x<=2 ^ t):Sz (t+1) x:=by
 unfold Sz;have e:(2:Int) ^ t=((2 ^ t:Nat):Int):=by rw [jbL];rfl
 have p:0<2 ^ t:=Nat.pow_pos nofun;rw [e] at h;rw [Nat.pow_succ];lia
def ClS.n1 (h:ClS t l):∀c∈l,0<=c.1:=λc g=>(h.nn c g).1
def ClS.ok (h:ClS t l) (ht:t<=150):ClOk 160 l:=⟨h.pos,h.few,h.nn,λc g=>(Bd (h.nn c g).1 (jaH (YV (ZH h.n1) c.1 (Qk.mpr ⟨c,g,rfl⟩)) h.sum)).mono ⋯⟩
def ClS.filter (h:ClS t l) (p:Cl->Bool) (pos:1<=(l.filter p).length):ClS t (l.filter p):=⟨pos,QP (jbA _ _) h.few,λc g=>h.nn c (Tc.mp g).1,jaH (aY h.n1 p) h.sum⟩
def DQ.sz {d:Nat} {x:Rat} {T:Int} (h:DQ d x) (x0:0<=x) (m:x<=(T:Rat)) (T0:0<=T) (p:T<=2 ^ t):SzQ (t+d+2) x:=by
 obtain ⟨D,g,q⟩:=h;exact (q.sz g.1 (Bd (jbe g.1) g.2) x0 m ⟨T,rfl,Bd T0 p⟩).mono ⋯
def all_sz (h:POk r) (ok:ClS t l):∀c∈zJ r l,SzC (t+XZ t r+2) c:=λc q=>by
 have g:=xw h ok.n1;have s:=Uj h ok.n1 ok.sum c q;have m:=g.good.std.range q;have pr:=g.good.parts m.1;rw [g.good.std.at_corner q] at pr;have T0:=bV (ZH ok.n1);rw [Zj] at m pr;exact ⟨s.1.sz m.1 m.2 T0 ok.sum,λx p=>(s.2 x p).sz (pr x p).1 (pr x p).2 T0 ok.sum⟩
structure RuS (t:Nat) (r:Rl):Prop where
 pok:POk r
 ht:t<=150
 den:t+XZ t r+2<=700
 len:aa r<=50
def RuS.other (h:RuS t (.other r)):RuS t r:=⟨h.pok,h.ht,h.den,h.len⟩
def RuS.ranks (h:RuS t (.ranks r)):RuS t r:=⟨h.pok,h.ht,h.den,h.len⟩
def RuS.upto (h:RuS t (.upto a b x y)):RuS t x/\RuS t y:=by
 have d:=h.den;have f:=h.len;simp only [XZ] at d;simp only [aa] at f;exact ⟨⟨h.pok.2.1,h.ht,⋯,⋯⟩,⟨h.pok.2.2,h.ht,⋯,⋯⟩⟩
def RuS.few (h:RuS t r) (ok:ClS t l):(zJ r l).length<=401:=by
 have f:=WM h.pok ok.n1;have m:=Nat.mul_le_mul h.len ok.few;lia
def RuS.gf (h:RuS t r) (ok:ClS t l):GF r l (zJ r l):=xw h.pok ok.n1
def RuS.R (h:RuS t r) (ok:ClS t l):PathR 700 (zJ r l):=by
 have g:=(h.gf ok).ful.std;have f:=h.few ok;have p:=ok.few;refine ⟨g.ne,λc m=>(all_sz h.pok ok c m).mono h.den,λc m=>by rw [(g.ok c m).1];lia,⋯,g.rise,λc m=>?_⟩;rw [g.head] at m;cases m;rfl
def RuS.inn (h:RuS t r) (ok:ClS t l):PathIn (zJ r l):=by
 have R:=h.R ok;have f:=h.few ok;exact ⟨R.ne,λc g=>(R.sz c g).mono nofun,R.len,⋯⟩
end
section
end
section
variable {B G0 H:Hp} {cs:yN} {ds:Dat} {Q:VK} {v w u:V} {K:Frg}
def Ki {ns:List Int} (S:Sta B G0 H cs ds) (h:Has ds (.list (ns.map PyData.int)) v) (hn:0<ns.length) (k:∀m,m∈ns->(∀x∈ns,x<=m)->Q (.int m) H):Kv K [v] H Q:=by
 obtain ⟨p,vs,rfl,hp,r,q,al⟩:=S.lstAll h;obtain ⟨G,g⟩:=id q;rw [yv (al G g.2.2.2.2.2.2)] at hp;exact ⟨p,ns,rfl,SqL.of hp,hn,k⟩
end
def Ie:atI (G++[x,y]) (-2)=some x:=by
 unfold atI ixN;rw [QI nofun,QD (by simp;lia)];show (G++[x,y])[_]? =_;rw [show ((-2:Int)+((G++[x,y]).length:Nat)).toNat=G.length by simp;lia]
 simp
section
variable {B G0 H:Hp} {cs:yN} {ds:Dat} {Q:VK} {v w u:V} {K:Frg} {xs ys:List PyData} {vs:List V} {R:It->Hp->Prop}
def FY (S:Sta B G0 H cs ds) (h:Has ds (.tuple xs) v) (m:Has ds (.list ys) w) (k:∀J,Wk B G0 J (qc xs ys) (λcs ds=>Has ds (.tuple xs) v/\(∀x u,Has ds (.list ys) w->Has ((x,u)::ds) (.list ys) w)/\Has ds (.list ys) w)->R J H):kZi false true K R [v,w] H:=by
 obtain ⟨p,vs,rfl,hp,_⟩:=S.tup h;obtain ⟨q,ws,rfl,g,_⟩:=S.lst m;exact ⟨p,q,rfl,⟨_,SqT.of hp⟩,⟨_,SqL.of g⟩,k _ (AQ dH WY)⟩
def spLx {α:Type} (enc:α->List PyData) (dom:α->Prop) (res:α->List PyData->Prop):Sp:=λvs H Q _=>∃(G:Hp) (a:α),zG G H/\zC G (enc a) vs/\dom a/\∀r p H' g us,res a r->Grow G H g H'->H p=none->g p=none->H' p=some (.lst us)->zC g r us->Q (.ref p) H'
def Kb {α:Type} {enc:α->List PyData} {dom:α->Prop} {res:α->List PyData->Prop} (a:α) (S:Sta B G0 H cs ds) (g:zV ds (enc a) vs) (hd:dom a) (k:∀r p H',res a r->zG H H'->Sta B G0 H' ((p,r)::cs) ds->Q (.ref p) H'):spLx enc dom res vs H Q E:=by
 obtain ⟨G,S⟩:=S;exact ⟨G,a,S.2.1,g G S.2.2.2.2.2.2,hd,λr p H' t us hr gr hp s q m=>k r p H' hr gr.h (Sta.put_call S gr hp s q m)⟩
def ret_Lx {G H':Hp} {r:List PyData} {p:Addr} {res:List PyData->Prop} (S:Sta H G H' ((p,r)::cs) ds) (hr:res r) (k:∀r p H' m us,res r->Grow G H m H'->H p=none->m p=none->H' p=some (.lst us)->zC m r us->Q (.ref p) H'):Q (.ref p) H':=by
 obtain ⟨m,a,b,c,d,e,f,g⟩:=S;obtain ⟨x,y,us,z,u⟩:=e _ (Qg ..);exact k r p H' m us hr ⟨c,a,b,d⟩ x y z u
end
section
end
section
def Kc (S:Sta B G0 H cs ds) (h:(L,[d])∈cs) (hn:n<=1000) (k:∀l H',zG H H'->Sta B G0 H' ((l,List.replicate n d)::cs) ds->Q (.ref l) H'):rRep (.ref L) (.int (n:Int)) H Q:=by
 obtain ⟨vs,hp,t,w,_⟩:=S.cellAll h;obtain ⟨z,rfl⟩:=List.length_eq_one_iff.mp t.symm
 ·refine ⟨L,(n:Int),_,rfl,rfl,hp,⋯,⋯,?_,λp g=>?_⟩
  ·show 1*n<=sizeLine;have:1000<=sizeLine:=by decide
   lia
  ·rw [Tp];show Q (.ref p) (upd H p (.lst (List.replicate n [z]).flatten));rw [qQ];have u:Sta B G0 H cs ((d,z)::ds):=w;refine k p _ (zG.new g _) ((u.newL g λG a=>?_).dat λq s=> .mem (Qe _ s));have r:Is G d z:=a (d,z) (Qg ..);clear hn k
   induction n with
   |zero=>rw [List.replicate_zero,List.replicate_zero,zC]
   |succ n m=>rw [TQ,TQ,zC];exact ⟨_,_,rfl,r,m⟩
theorem dS (p:Rat) (i:Nat):∀(z:List (Rat×Nat)) (w:List Rat),xA (z++[(p,i)]) w=(xA z w).set i p
 |[],w=>rfl
 |(q,j)::z,w=>by rw [jaL,xA,xA,dS p i z]
def rL (h:j<n):ixN n (j:Int)=some j:=by
 unfold ixN;rw [QD ⋯,QD ⋯,Tp]
theorem lY {α β:Type} (p:α->Bool) (f:α->β):∀xs:List α,xs.filterMap (λj=>if p j=true then some (f j) else none)=(xs.filter p).map f
 |[]=>rfl
 |x::xs=>by
  rw [jaU,jaN,lY p f xs]
  split
  ·rename_i h
   split at h
   ·cases h
   ·rw [QI (by assumption)]
  ·rename_i h
   split at h
   ·cases h;rw [QD (by assumption),Qj]
   ·cases h
def oj (p:Cl->Bool) (l:List Cl):(List.range l.length).filterMap (λj=>if p (l.getD j (0,0,0)) then some (PyData.int (j:Int)) else none)=(yb p l).map λ(i:Nat)=>PyData.int (i:Int):=by
 unfold yb;exact lY (λj=>p (l.getD j (0,0,0))) (λ(j:Nat)=>PyData.int (j:Int)) _
def vV (p:Cl->Bool) (l:List Cl):(List.range l.length).filterMap (λj=>if p (l.getD j (0,0,0)) then some (PyData.int (0+(j:Int))) else none)=(yb p l).map λ(i:Nat)=>PyData.int (i:Int):=by
 rw [<-oj];simp only [Int.zero_add]
def plD (pl:List Nat):PyData:= .list (pl.map λ(i:Nat)=>PyData.int (i:Int))
def dJ:Sp:=spL (α:=List Cl×List Nat) (λa=>[zj a.1,plD a.2]) (λa=>(∀i∈a.2,i<a.1.length)/\a.2.length<=8) (λa=>(zK (0,0,0) a.2 a.1).map zH)
def tS (S:Sta B G0 H cs ds) (m:Has ds (zj l) v) (g:Has ds (plD pl) w) (lt:∀i∈pl,i<l.length) (few:pl.length<=8) (k:∀p H',zG H H'->Sta B G0 H' ((p,(zK (0,0,0) pl l).map zH)::cs) ds->Q (.ref p) H'):dJ [v,w] H Q E:=
 Yp (l,pl) S (.cons m (.cons g .nil)) ⟨lt,few⟩ k
def cV (p:Int->Cl->Bool):Sp:=spL (α:=List Cl×Int) (λa=>[zj a.1, .int a.2]) (λa=>a.1.length<=8) (λa=>(yb (p a.2) a.1).map λ(i:Nat)=>PyData.int (i:Int))
def Ce (S:Sta B G0 H cs ds) (m:Has ds (zj l) v) (few:l.length<=8) (k:∀q H',zG H H'->Sta B G0 H' ((q,(yb (p g) l).map λ(i:Nat)=>PyData.int (i:Int))::cs) ds->Q (.ref q) H'):cV p [v, .int g] H Q E:=
 Yp (l,g) S (.cons m (.cons Has.int .nil)) few k
structure SpO (pl:List Nat) (n:Nat) (v:List Rat):Prop where
 pls:Pls n pl
 len:v.length=pl.length
 few:n<=8
def dN:Sp:=spT (α:=List Rat×List Nat×Nat) (λa=>[zS a.1,plD a.2.1, .int (a.2.2:Int)]) (λa=>SpO a.2.1 a.2.2 a.1) (λa=>zS (yd a.2.1 a.2.2 a.1))
def vN (S:Sta B G0 H cs ds) (m:Has ds (zS x) v) (g:Has ds (plD pl) w) (ok:SpO pl n x) (k:∀q H',zG H H'->Sta B G0 H' cs ((zS (yd pl n x),q)::ds)->Q q H'):dN [v,w, .int (n:Int)] H Q E:=
 Zq (x,pl,n) S (.cons m (.cons g (.cons Has.int .nil))) ok k
def cS:Sp:=spL (α:=List zi×List Nat×Nat) (λa=>[YF a.1,plD a.2.1, .int (a.2.2:Int)]) (λa=>(∀c∈a.1,SpO a.2.1 a.2.2 c.2)/\a.1.length<=450) (λa=>(yA a.2.1 a.2.2 a.1).map zY)
def Ca (S:Sta B G0 H cs ds) (m:Has ds (YF x) v) (g:Has ds (plD pl) w) (ok:∀c∈x,SpO pl n c.2) (few:x.length<=450) (k:∀q H',zG H H'->Sta B G0 H' ((q,(yA pl n x).map zY)::cs) ds->Q (.ref q) H'):cS [v,w, .int (n:Int)] H Q E:=
 Yp (x,pl,n) S (.cons m (.cons g (.cons Has.int .nil))) ⟨ok,few⟩ k
noncomputable def Wo (t n:Nat):Sp:=spL (α:=Rl×List Cl) (λa=>[a.1.shape,zj a.2]) (λa=>(RuS t a.1/\a.1.deep<=n)/\ClS t a.2) (λa=>(zJ a.1 a.2).map zY)
def YT (S:Sta B G0 H cs ds) (g:Has ds r.shape v) (h:Has ds (zj l) w) (ru:RuS t r) (hn:r.deep<=n) (ok:ClS t l) (k:∀p H',zG H H'->Sta B G0 H' ((p,(zJ r l).map zY)::cs) ds->Q (.ref p) H'):Wo t n [v,w] H Q E:=Yp (r,l) S (.cons g (.cons h .nil)) ⟨⟨ru,hn⟩,ok⟩ k
noncomputable def ko (t n:Nat):Sp:=spL (α:=Rl×List Cl) (λa=>[a.1.shape,zj a.2]) (λa=>(RuS t a.1/\a.1.deep<=n)/\ClS t a.2) (λa=>(Vt (λl=>zJ a.1 l) a.2).map zY)
def Cc (S:Sta B G0 H cs ds) (g:Has ds r.shape v) (h:Has ds (zj l) w) (ru:RuS t r) (hn:r.deep<=n) (ok:ClS t l) (k:∀p H',zG H H'->Sta B G0 H' ((p,(Vt (λl=>zJ r l) l).map zY)::cs) ds->Q (.ref p) H'):ko t n [v,w] H Q E:=Yp (r,l) S (.cons g (.cons h .nil)) ⟨⟨ru,hn⟩,ok⟩ k
noncomputable def qv (A:RAd) (t n:Nat):Sp:=spL (α:=Rl×List Cl) (λa=>[a.1.ins A,zj a.2]) (λa=>(RuS t a.1/\a.1.deep<=n)/\ClS t a.2) (λa=>(zJ a.1 a.2).map zY)
def FV (S:Sta B G0 H cs ds) (g:Has ds (r.ins A) v) (h:Has ds (zj l) w) (ru:RuS t r) (hn:r.deep<=n) (ok:ClS t l) (k:∀p H',zG H H'->Sta B G0 H' ((p,(zJ r l).map zY)::cs) ds->Q (.ref p) H'):qv A t n [v,w] H Q E:=Yp (r,l) S (.cons g (.cons h .nil)) ⟨⟨ru,hn⟩,ok⟩ k
end
def ful_sz {m d t:Nat} {T:Rat} {as:List Rat} {P:List zi} {Z:Int} (h:Ful m T as P) (hd:DP d P) (A:T<=(Z:Rat)) (w:0<=Z) (s:Z<=2 ^ t):∀c∈P,SzC (t+d+2) c:=λc g=>by
 have r:=h.std.range g;have u:c.1<=(Z:Rat):=jbT r.2 A
 have nn:∀q∈c.2,0<=q:=λq y=>by
  obtain ⟨i,z⟩:=QG.mp y;exact h.std.nn h.mono c g i q z
 have le:=(Zh nn).2;rw [(h.std.ok c g).2] at le;exact ⟨(hd c g).1.sz r.1 u w s,λx p=>((hd c g).2 x p).sz (nn x p) (jbT (le x p) u) w s⟩
theorem Jl:∀{l:List Cl},(∀c∈l,0<=c.1)->zu (asD done l)<=zu (amQ l)
 |[],_=>Tg
 |c::l,nn=>by
  have q:=Jl (done:=done) λx g=>nn x (Qe _ g);have h0:=bt (nn c (Qg ..));have p:asD done (c::l)=(if c.2.1∈done then (c.1:Rat) else 0)::asD done l:=rfl;have m:amQ (c::l)=(c.1:Rat)::amQ l:=rfl;rw [p,m,zu,zu]
  split<;>grind
noncomputable def rkP (r:Rl) (l:List Cl) (i:Nat):List zi:=((zI l).take i).foldl (xZ (λl=>zJ r l) l) (jW l.length)
section
def FT (g:(zI l)[i]? =some k):rkP r l (i+1)=xZ (λl=>zJ r l) l (rkP r l i) k:=by
 unfold rkP;rw [jbl,g,List.foldl_append];rfl
def JU (r:Rl) (l:List Cl):rkP r l (zI l).length=Vt (λl=>zJ r l) l:=by
 unfold rkP Vt;rw [List.take_length]
def rkP_ok (ru:RuS t r) (ok:ClS t l) (i:Nat):RkI r l ((zI l).take i) (rkP r l i)/\(∀c∈rkP r l i,SzC 700 c)/\(rkP r l i).length<=401:=by
 have pw:([]++(zI l).take i).Pairwise (·<·):=jbf (List.take_sublist _ _) (yt l).1;have gf:∀k∈(zI l).take i,GF r (l.filter (zE k)) (zJ r (l.filter (zE k)))/\DP (XZ t r) (zJ r (l.filter (zE k))):=λk _=>⟨xw ru.pok (Ye ok.n1 _),Uj ru.pok (Ye ok.n1 _) (jaH (aY ok.n1 _) ok.sum)⟩;have R:=qP ((zI l).take i) [] _ (RkI.nil) pw λk p=>(gf k p).1
 have D:=BS ((zI l).take i) [] _ (RkI.nil) pw gf λc g=>by
  rw [Qp.mp g];refine ⟨DQ.zero.mono ⋯,λx m=>?_⟩;rw [List.eq_of_mem_replicate m];exact DQ.zero.mono ⋯
 rw [jbx] at R;refine ⟨R,λc g=>?_,?_⟩
 ·have T0:=bV (ZH ok.n1);have le:=Jl (done:=(zI l).take i) ok.n1;rw [Zj] at le;exact (ful_sz R.ful D le T0 ok.sum c g).mono ru.den
 ·have f:=lQ (f:=λl=>zJ r l) (l:=l) (c:=aa r) ((zI l).take i) (jW l.length) λk _=>WM ru.pok (Ye ok.n1 _);have q:=ur (·.2.1) (yt l).1 l λc g=>((yt l).2 _).mpr (Qk.mpr ⟨c,g,rfl⟩);have e:((zI l).map λk=>(l.filter (zE k)).length).sum=l.length:=q
  have sub:(((zI l).take i).map λk=>(l.filter (zE k)).length).sum<=((zI l).map λk=>(l.filter (zE k)).length).sum:=by
   conv=>rhs;rw [<-List.take_append_drop i (zI l)]
   rw [Ts,List.sum_append];lia
  rw [e] at sub;have m1:=Nat.mul_le_mul_left (aa r) sub;have m2:=Nat.mul_le_mul ru.len ok.few;have z:(jW l.length).length=1:=rfl;unfold rkP;lia
def CA (st:Std m T as P) (hm:m<=8) (sz:∀c∈P,SzC 700 c) (few:P.length<=401):PathIn P:=
 ⟨st.ne,λc g=>(sz c g).mono nofun,λc g=>by rw [(st.ok c g).1];lia,⋯⟩
def Bn (hp:Pls n pl) (p:∀c∈P,c.2.length=pl.length) (h:∀c∈P,SzC 700 c):∀c∈yA pl n P,SzC 700 c:=λc s=>by
 obtain ⟨c,g,rfl⟩:=Qk.mp s;refine ⟨(h c g).1,λx m=>?_⟩;obtain ⟨i,r⟩:=QG.mp m
 rcases xJ hp (p c g) r with ⟨j,_,q⟩|⟨_,rfl⟩
 ·exact (h c g).2 x (Qd q)
 ·unfold SzQ Sz;decide
def BU (ru:RuS t r) (ok:ClS t l) (I:(zI l)[i]? =some k):
 PathIn (rkP r l i)/\PathIn (yA (yb (zE k) l) l.length (zJ r (l.filter (zE k))))/\PathOk l.length (rkP r l i++yx (rkP r l i) (yA (yb (zE k) l) l.length (zJ r (l.filter (zE k))))):=by
 obtain ⟨R,sz,few⟩:=rkP_ok ru ok i;have m:=ok.filter (zE k) (eQ (Qd I));have g:=(ru.gf m).ful;have J:=ru.R m;have lk:=Ub (zE k) l;have y:=XT (zE k) l;have A:=g.spread y lk;have p:=Bn y (λc w=>by rw [(g.std.ok c w).1,lk]) J.sz;have s:(yA (yb (zE k) l) l.length (zJ r (l.filter (zE k)))).length<=401:=by unfold yA;rw [Qb];exact ru.few m
 have st:=gn R.ful.std A.std;refine ⟨CA R.ful.std ok.few sz few,CA A.std ok.few p s,λc w=>?_,λc w=>(st.ok c w).1,by have:=ok.few;lia,?_⟩
 ·rcases QW.mp w with z|z
  ·exact (sz c z).mono nofun
  ·obtain ⟨d,hd,rfl⟩:=Qk.mp z;have z1:=sz _ (oP R.ful.std.ne);have z2:=p d (TU hd);refine ⟨(z1.1.add z2.1).mono nofun,λq G=>?_⟩;obtain ⟨u,D,v,C,rfl⟩:=dB G;exact ((z1.2 u D).add (z2.2 v C)).mono nofun
 ·unfold yx;simp only [QM,Qb,jaM];lia
def ji (ok:PathIn P) (h:∀c∈P,SzC 700 c) (hp:SzQ m p) (hm:m<=1000):PathIn (zO p P):=by
 refine ⟨λe=>ok.ne (List.map_eq_nil_iff.mp e),λc g=>(aq h hp c g).mono ⋯,λc g=>?_,by unfold zO;rw [Qb];exact ok.few⟩;obtain ⟨d,hd,rfl⟩:=Qk.mp g;rw [Qb];exact ok.len d hd
def RuS.up (h:RuS t (.upto t' b' x y)) (ok:ClS t l):UpOk (Rat.divInt t' b') (zJ x l) (zJ y l):=by
 obtain ⟨p,m⟩:=h.upto;have g:=Kz h.pok.1;have one:SzQ 1 (1:Rat):=by unfold SzQ Sz;decide+kernel
 have w:SzQ 212 (1 - Rat.divInt t' b'):=(one.sub g).mono nofun;have C:=p.R ok;have py:=m.R ok;have M:=(p.gf ok).ful.std;have L:=(m.gf ok).ful.std;have r:=p.inn ok;have D:=m.inn ok;have pi:=Ua h.pok.1;have A:=aq C.sz g;have G:=aq py.sz w;have P:=WM p.pok ok.n1;have O:=WM m.pok ok.n1;have f:=h.len;simp only [aa] at f;have N:=ok.few;have m1:=Nat.mul_le_mul (show aa x+aa y<=50 from f) N;rw [Nat.add_mul] at m1;have st:=gn (Wq pi.1 M) (Wq (show 0<1 - Rat.divInt t' b' by grind) L);refine ⟨g.mono nofun,r,D,ji r C.sz g nofun,ji D py.sz w nofun,l.length,⟨λc s=>?_,λc s=>(st.ok c s).1,⋯,?_⟩⟩
 ·rcases QW.mp s with z|z
  ·exact (A c z).mono nofun
  ·obtain ⟨d,hd,rfl⟩:=Qk.mp z;have a:=A _ (oP (λe=>r.ne (List.map_eq_nil_iff.mp e)));have b:=G d (TU hd);refine ⟨(a.1.add b.1).mono nofun,λq K=>?_⟩;obtain ⟨u,J,v,I,rfl⟩:=dB K;exact ((a.2 u J).add (b.2 v I)).mono nofun
 ·unfold yx zO;simp only [QM,Qb,jaM];lia
end
section
def Ak (h:∀i∈pl,i<tk.length):yM (zK 0 pl tk)=zK 0 pl (yM tk):=by
 unfold yM zK;rw [Qo];refine QA λi g=>?_;show (((tk.getD i 0):Int):Rat)=(tk.map λ(p:Int)=>(p:Rat)).getD i 0;rw [Qq,Qq,Qh,Qa (h i g)];rfl
def om (p:Cl->Bool) (q:Row->Bool) (m:∀c x,q (xk c x)=p c) (g:tk.length=l.length):(zo l (yM tk)).filter q=zo (l.filter p) (yM (zK 0 (yb p l) tk)):=by
 rw [XE (p:=p) q m (by rw [WR];exact g),Ak λi r=>by rw [g];exact (XT p l).lt i r]
def FitG.ranks (h:FitG (.ranks r) l tk) (k:Int):FitG r (l.filter (zE k)) (zK 0 (yb (zE k) l) tk):=by
 refine ⟨by rw [xl,Ub],?_⟩;have:=h.fit.2.1 k;rwa [om (zE k) _ (λc x=>rfl) h.len] at this
def FitG.order (h:FitG (.ranks r) l tk) {i j:Nat} {c d:Cl} {p q:Int} (s:l[i]? =some c) (hp:tk[i]? =some p) (hd:l[j]? =some d) (m:tk[j]? =some q) (lt:c.2.1<d.2.1) (pos:0<q):p=c.1:=by
 have g:∀{n:Nat} {x:Int},tk[n]? =some x->(yM tk)[n]? =some (x:Rat):=λ{n x} hx=>by unfold yM;rw [Qh,hx];rfl
 have:=h.fit.2.2 _ (ZY s (g hp)) _ (ZY hd (g m)) lt (Zm pos);exact Rat.intCast_inj.mp this
end
section
def EF (p:Cl->Bool) {x:Int} (h:x∈amV (l.filter p)):x∈amV l:=by
 obtain ⟨c,g,rfl⟩:=Qk.mp h;exact Qk.mpr ⟨c,(Tc.mp g).1,rfl⟩
def LU (h:i<l.length):(l.getD i (0,0,0)).1=(amV l).getD i 0:=by
 unfold amV;rw [Qq,Qq,Qh,Qa h];rfl
end
structure ClZ (size:Int) (l:List Cl):Prop where
 pos:0<l.length
 few:l.length<=8
 nn:∀c∈l,0<=c.1/\0<=c.2.1/\0<=c.2.2
 lt:∀c∈l,c.1<size
theorem dF (h0:0<=size):∀{as:List Int},(∀a∈as,a<size)->as.sum<=(as.length:Int)*size
 |[],_=>by simp
 |a::as,h=>by
  have p:=h a (Qg ..);have m:=dF h0 λx g=>h x (Qe _ g);rw [QU,QE,Int.natCast_add,Int.add_mul];lia
def ClZ.S (h:ClZ size l) (h0:0<=size) (p:size<=2 ^ s):ClS (s+3) l:=by
 refine ⟨h.pos,h.few,h.nn,?_⟩
 have m:=dF h0 (as:=amV l) λa ha=>by
  obtain ⟨c,g,rfl⟩:=Qk.mp ha;exact h.lt c g
 rw [zQ] at m;have q:(l.length:Int)*size<=8*size:=jbm (by have:=h.few;lia) h0;rw [Int.pow_add];have e:(2:Int) ^ 3=8:=by decide
 rw [e];lia
section
variable {B G0 H:Hp} {cs:yN} {ds:Dat} {Q:VK} {E:XK} {K:Frg}
def dQ (K:Frg):Sp:=λvs H Q _=>∃(G:Hp) (a:Addr) (ns:List Int) (at' many size:Int),vs=[.ref a, .int at', .int many, .int size]/\zG G H/\SqL K H a (ns.map V.int)/\(0<=at'/\1<=many/\many<=8/\10<=size/\size<=10 ^ 46)/\
 ∀(l:List Cl) (p:Addr) (H' g:Hp) (us:List V),l.length=many.toNat->ClZ size l->Grow G H g H'->H p=none->g p=none->H' p=some (.lst us)->zC g (l.map zH) us->Q (.ref p) H'
def vR {a:Addr} {ns:List Int} {at' many size:Int} (S:Sta B G0 H cs ds) (s:SqL K H a (ns.map V.int)) (r:0<=at'/\1<=many/\many<=8/\10<=size/\size<=10 ^ 46)
 (k:∀(l:List Cl) (p:Addr) (H':Hp),l.length=many.toNat->ClZ size l->zG H H'->Sta B G0 H' ((p,l.map zH)::cs) ds->Q (.ref p) H'):dQ K [.ref a, .int at', .int many, .int size] H Q E:=by
 obtain ⟨G,S⟩:=S;exact ⟨G,a,ns,at',many,size,rfl,S.2.1,s,r,λl p H' w us u t gr hp q m g=>k l p H' u t gr.h (Sta.put_call S gr hp q m g)⟩
def D26 (r:Rl):Prop:=(RuS 103 r/\Vr r<=12)/\r.deep<=4
end
def nd:Rl->Nat
 | .other r=>nd r+1
 | .ranks r=>nd r+1
 | .groups a b=>nd a+nd b+1
 | .upto _ _ x y=>nd x+nd y+1
 |_=>1
theorem oE:∀r:Rl,1<=nd r
 | .shares=>Qs _
 | .evenly=>Qs _
 | .losses=>Qs _
 | .halves=>Qs _
 | .other r=>by simp [nd]
 | .ranks r=>by simp [nd]
 | .groups a b=>by simp [nd]
 | .upto _ _ x y=>by simp [nd]
def PS6:Rl->Prop
 | .other r=>PS6 r
 | .ranks r=>PS6 r
 | .groups _ _=>False
 | .upto t b x y=>(Xi t b/\UH b<=6)/\PS6 x/\PS6 y
 |_=>True
theorem PS6.pok:∀{r:Rl},PS6 r->POk r
 | .shares,_=>trivial
 | .evenly,_=>trivial
 | .losses,_=>trivial
 | .halves,_=>trivial
 | .other r,h=>PS6.pok (r:=r) h
 | .ranks r,h=>PS6.pok (r:=r) h
 | .groups _ _,h=>h.elim
 | .upto _ _ x y,h=>⟨h.1.1,PS6.pok h.2.1,PS6.pok h.2.2⟩
theorem oF:∀{r:Rl},PS6 r->(nd r<=2->XZ t r<=2)/\(nd r<=4->XZ t r<=18+2*t)/\(nd r<=6->XZ t r<=98+12*t)
 | .shares,_=>⟨λ_=>by simp only [XZ];lia,λ_=>by simp only [XZ];lia,λ_=>by simp only [XZ];lia⟩
 | .evenly,_=>⟨λ_=>by simp only [XZ];lia,λ_=>by simp only [XZ];lia,λ_=>by simp only [XZ];lia⟩
 | .losses,_=>⟨λ_=>by simp only [XZ];lia,λ_=>by simp only [XZ];lia,λ_=>by simp only [XZ];lia⟩
 | .halves,_=>⟨λ_=>by simp only [XZ];lia,λ_=>by simp only [XZ];lia,λ_=>by simp only [XZ];lia⟩
 | .other r,h=>by
   have g:=oF (t:=t) (r:=r) h;simp only [XZ,nd];exact ⟨λz=>g.1 ⋯,λz=>g.2.1 ⋯,λz=>g.2.2 ⋯⟩
 | .ranks r,h=>by
   have g:=oF (t:=t) (r:=r) h;simp only [XZ,nd];exact ⟨λz=>g.1 ⋯,λz=>g.2.1 ⋯,λz=>g.2.2 ⋯⟩
 | .groups _ _,h=>h.elim
 | .upto p b x y,h=>by
   obtain ⟨a1,a2,a3⟩:=oF (t:=t) (r:=x) h.2.1;obtain ⟨q,m,u⟩:=oF (t:=t) (r:=y) h.2.2;have pa:=oE x;have pb:=oE y;have s:=h.1.2;simp only [XZ,nd];refine ⟨λz=>absurd z ⋯,λz=>?_,λz=>?_⟩
   ·have:=a1 ⋯;have:=q ⋯;lia
   ·have:=a2 ⋯;have:=m ⋯;lia
theorem fe:∀r:Rl,aa r<=2*nd r
 | .shares=>by simp [aa,nd]
 | .evenly=>by simp [aa,nd]
 | .losses=>by simp [aa,nd]
 | .halves=>by simp [aa,nd]
 | .other r=>by have:=fe r;simp only [aa,nd];lia
 | .ranks r=>by have:=fe r;simp only [aa,nd];lia
 | .groups a b=>by have:=fe a;have:=fe b;simp only [aa,nd];lia
 | .upto _ _ x y=>by have:=fe x;have:=fe y;simp only [aa,nd];lia
theorem cf:∀r:Rl,Vr r<=nd r+2/\r.deep<=nd r
 | .shares=>by simp [Vr,nd,Rl.deep]
 | .evenly=>by simp [Vr,nd,Rl.deep]
 | .losses=>by simp [Vr,nd,Rl.deep]
 | .halves=>by simp [Vr,nd,Rl.deep]
 | .other r=>by have:=cf r;simp only [Vr,nd,Rl.deep];lia
 | .ranks r=>by have:=cf r;simp only [Vr,nd,Rl.deep];lia
 | .groups a b=>by have:=cf a;have:=cf b;simp only [Vr,nd,Rl.deep];lia
 | .upto _ _ x y=>by have:=cf x;have:=cf y;simp only [Vr,nd,Rl.deep];lia
structure JOk (t k N:Nat) (r:Rl):Prop where
 ps:PS6 r
 pos:1<=N
 den:XZ t r<=98+12*t+6*k
 len:aa r<=2*N
 dep:Vr r<=N+2
 deep:r.deep<=N
 size:r.size<=N+k
theorem Ud:∀r:Rl,r.size=nd r
 | .shares=>rfl
 | .evenly=>rfl
 | .losses=>rfl
 | .halves=>rfl
 | .other r=>by have:=Ud r;simp only [Rl.size,nd];lia
 | .ranks r=>by have:=Ud r;simp only [Rl.size,nd];lia
 | .groups a b=>by have:=Ud a;have:=Ud b;simp only [Rl.size,nd];lia
 | .upto _ _ x y=>by have:=Ud x;have:=Ud y;simp only [Rl.size,nd];lia
def JOk.of (h:PS6 r) (hn:nd r<=6):JOk t 0 (nd r) r:=
 ⟨h,oE r,by have:=(oF (t:=t) h).2.2 hn;lia,fe r,(cf r).1,(cf r).2,by have:=Ud r;lia⟩
def JOk.join (hp:Xi p b) (q:UH b<=6) (m:JOk t 0 M x) (g:JOk t k N y):JOk t (k+1) (M+N) (.upto p b x y):=by
 have a:=m.den;have c:=g.den;have a2:=m.len;have z:=g.len;have a3:=m.dep;have w:=g.dep;have a4:=m.deep;have u:=g.deep;have a5:=m.pos;have s:=g.pos;have A:=m.size;have r:=g.size;exact ⟨⟨⟨hp,q⟩,m.ps,g.ps⟩,⋯,by simp only [XZ];lia,by simp only [aa];lia,by simp only [Vr];lia,by simp only [Rl.deep];lia,by simp only [Rl.size];lia⟩
def JOk.ru (h:JOk t k N r) (ht:t<=36) (g:k<=6) (m:N<=7):RuS t r/\Vr r<=12/\r.deep<=7:=by
 have a:=h.den;have b:=h.len;have c:=h.dep;have d:=h.deep;exact ⟨⟨h.ps.pok,⋯,⋯,⋯⟩,⋯,⋯⟩
def IT (h0:0<b) (h:b<=61):UH b<=6:=by
 unfold UH
 have:b.toNat.log2<=5:=by
  by_cases z:b.toNat=0
  ·rw [z];decide
  ·have:=(Nat.log2_lt z (k:=6)).mpr ⋯;lia
 lia
def Small.ps (h:Small t b):Xi t b/\UH b<=6:=⟨h.port,IT (by have:=h.port.2.1;have:=h.port.2.2.1;lia) h.le⟩
def DU (n:Nat):PS6 (ma n)/\nd (ma n)=1:=by
 match n with
 |0=>exact ⟨trivial,rfl⟩
 |1=>exact ⟨trivial,rfl⟩
 |2=>exact ⟨trivial,rfl⟩
 |n+3=>exact ⟨trivial,rfl⟩
def ndS (rs:List Rl):Nat:=(rs.map nd).sum
def XC (rs:List Rl) (r:Rl):ndS (rs++[r])=ndS rs+nd r:=by unfold ndS;rw [Ts,List.sum_append];rfl
theorem Ue:∀rs:List Rl,rs.length<=ndS rs
 |[]=>Qs _
 |r::rs=>by
  have:=Ue rs;have:=oE r;unfold ndS at*;rw [Qj,QU,QE];lia
def Drn (r:Rl):Prop:=∃k N,(∀t,JOk t k N r)/\k<=6/\N<=7
section
variable {B G0 H:Hp} {cs:yN} {ds:Dat} {Q:VK} {v w u:V}
def qx:Sp:=λvs H Q _=>∃(G:Hp) (c:Int),vs=[.int c]/\zG G H/\∀v H' G' (n:Nat),Grow G H G' H'->Is G' (ma n).shape v->Q v H'
def FX (S:Sta B G0 H cs ds) (k:∀v H' (n:Nat),zG H H'->Sta B G0 H' cs (((ma n).shape,v)::ds)->Q v H'):qx [.int c] H Q E:=by
 obtain ⟨G,S⟩:=S;refine ⟨G,c,rfl,S.2.1,λv H' t n gr g=>k v H' n gr.h ?_⟩;obtain ⟨s,r,q,d',p,m,g'⟩:=S.grow gr;exact ⟨t,s,r,q,d',p,m,g'.cons g⟩
def BX (S:Sta H G H' cs ds) (k:∀v H' g (n:Nat),Grow G H g H'->Is g (ma n).shape v->Q v H') (h:Has ds (ma n).shape v):Q v H':=by
 obtain ⟨g,gr,al⟩:=S.leave;exact k v H' g n gr (h g al)
end
def uN (xs:List PyData) (x:PyData):pZ (xs++[x]) none (some (-1))=xs:=by
 have e:HT.sIx (xs++[x]).length (xs++[x]).length (some (-1))=xs.length:=by
  rw [QM,jas];unfold HT.sIx
  simp
  try lia
 unfold pZ;rw [HT.sIx_none,e,List.drop_zero,Nat.sub_zero];exact List.take_left
def uM (xs:List PyData) (x y:PyData):pZ (xs++[x,y]) none (some (-2))=xs:=by
 have e:HT.sIx (xs++[x,y]).length (xs++[x,y]).length (some (-2))=xs.length:=by
  rw [QM];unfold HT.sIx
  simp
  try lia
 unfold pZ;rw [HT.sIx_none,e,List.drop_zero,Nat.sub_zero];exact List.take_left
section
end
def if2 {A X Y:Prop} (h:(if q=true then X else Y)->A) (m:p=true->q=true->X) (g:(p && q)=false->Y):if p=true then A else Y:=by
 cases p
 ·exact g rfl
 ·cases q
  ·exact h (g rfl)
  ·exact h (m rfl rfl)
def if3 {A m X Y:Prop} (h:(if q=true then m else Y)->A) (h':(if r=true then X else Y)->m) (s:p=true->q=true->r=true->X) (g:(p && (q && r))=false->Y):if p=true then A else Y:=by
 cases p
 ·exact g rfl
 ·cases q
  ·exact h (g rfl)
  ·exact h (h' (by
    cases r
    ·exact g rfl
    ·exact s rfl rfl rfl))
def NG:Rl->Prop
 | .other r=>NG r
 | .ranks r=>NG r
 | .groups _ _=>False
 | .upto _ _ x y=>NG x/\NG y
 |_=>True
section
variable {α:Type} {f g:α->Rat}
theorem AH:∀{Z:List α},(∀z∈Z,f z<=g z)->zu (Z.map f)<=zu (Z.map g)
 |[],_=>by simp [zu]
 |z::Z,h=>by
  have q:=h z (Qg ..);have p:=AH λx m=>h x (Qe _ m);rw [Qj,Qj,zu,zu]
  grind
theorem xI:∀{Z:List α},(∀z∈Z,f z<=g z)->zu (Z.map f)=zu (Z.map g)->∀z∈Z,f z=g z
 |[],_,_,z,m=>absurd m Qm
 |y::Z,h,e,z,m=>by
  have r:=h y (Qg ..);have q:=AH λx p=>h x (Qe _ p);rw [Qj,Qj,zu,zu] at e
  rcases Qn.mp m with rfl|m
  ·grind
  ·exact xI (λx p=>h x (Qe _ p)) (by grind) z m
theorem YK:∀{Z:List α},(∀z∈Z,f z=g z)->zu (Z.map f)=zu (Z.map g)
 |[],_=>rfl
 |z::Z,h=>by
  rw [Qj,Qj,zu,zu,h z (Qg ..),YK λx m=>h x (Qe _ m)]
theorem tO (c:Rat):∀{Z:List α},zu (Z.map λz=>f z*c)=zu (Z.map f)*c
 |[]=>by simp [zu]
 |z::Z=>by rw [Qj,Qj,zu,zu,tO c];grind
theorem smsu:∀{Z:List α},zu (Z.map λz=>f z - g z)=zu (Z.map f) - zu (Z.map g)
 |[]=>by show (0:Rat)=0 - 0;grind
 |z::Z=>by rw [Qj,Qj,Qj,zu,zu,zu,smsu];grind
theorem smsp (p:α->Bool):∀{Z:List α},zu (Z.map f)=zu ((Z.filter p).map f)+zu ((Z.filter λz=>!p z).map f)
 |[]=>by show (0:Rat)=0+0;grind
 |z::Z=>by
  have m:=smsp p (Z:=Z)
  cases e:p z with
  |true=>
   rw [List.filter_cons_of_pos ‹e›,List.filter_cons_of_neg (by simp [e]),Qj,Qj,zu,zu,m]
   grind
  |false=>
   rw [List.filter_cons_of_neg (by simp [e]),List.filter_cons_of_pos (by simp [e]),Qj,Qj,zu,zu,m]
   grind
end
def InQ.sub (h:InQ L) (s:M.Sublist L):InQ M:=λx g=>h x (s.subset g)
def iR (L:List Row):Prop:=∀x∈L,x.part=0/\0<=x.am
def ET (L:List Row):Prop:=∀x∈L,x.part=x.am/\0<=x.am
def iR.sum (h:iR L):XN L=0:=by
 unfold XN;rw [YK (g:=λ_=>0*0) λx m=>by rw [(h x m).1];grind,tO]
 grind
def ET.sum (h:ET L):XN L=Yi L:=by
 unfold XN Yi;exact YK λx g=>(h x g).1
def Bh (h:∀x∈L,0<=x.am):0<=Yi L:=by
 have:=AH (Z:=L) (f:=λ_=>0*0) (g:=(·.am)) λx m=>by have:=h x m;grind
 rw [tO] at this;unfold Yi
 grind
def yT.none (h:iR L):yT L:=⟨λx g=>by have:=h x g;grind,λx g _ y m=>by have:=h x g;have:=h y m;grind⟩
def yT.full (h:ET L):yT L:=⟨λx g=>by have:=h x g;grind,λx g lt=>by have:=h x g;grind⟩
def iR.flip (h:iR L):ET (L.map Row.flip):=λx m=>by
 obtain ⟨y,g,rfl⟩:=Qk.mp m;have:=h y g;exact ⟨by show y.am - y.part=y.am;grind,this.2⟩
def ET.flip (h:ET L):iR (L.map Row.flip):=λx m=>by
 obtain ⟨y,g,rfl⟩:=Qk.mp m;have:=h y g;exact ⟨by show y.am - y.part=0;grind,this.2⟩
def nk (p0:0<=p) (q:∀L,iR L->X L) (h:iR L):xM p X Y L:=by
 unfold xM;rw [QD (by rw [h.sum];exact QN (Bh λx g=>(h x g).2) p0)];refine q _ λx g=>?_;obtain ⟨y,m,rfl⟩:=Qk.mp g;exact ⟨(h y m).1,QN (h y m).2 p0⟩
def tq (p0:0<=p) (u:p<1) (r:∀L,ET L->X L) (q:∀L,ET L->Y L) (h:ET L):xM p X Y L:=by
 have an:∀x∈L,0<=x.am:=λx g=>(h x g).2;have sn:=Bh an;unfold xM;rw [h.sum]
 split
 ·next c=>
  have z:Yi L=0:=by
   by_cases z:Yi L=0
   ·exact z
   ·have:=jbR (show 0<Yi L by grind) (show 0<1 - p by grind)
    grind
  have t:∀x∈L,(0:Rat)=x.am:=λx g=>by
   refine xI (Z:=L) (λx g=>an x g) ?_ x g;have e:=tO (f:=λ_:Row=>(0:Rat)) 0 (Z:=L)
   have s:zu (L.map λ_:Row=>(0:Rat))=0:=by
    rw [<-show (λ_:Row=>(0:Rat)*0)=λ_=>0 by funext x;grind,e];grind
   rw [s];exact z.symm
  refine r _ λx g=>?_;obtain ⟨y,m,rfl⟩:=Qk.mp g;have a:=t y m;have b:=(h y m).1;exact ⟨by show y.part=y.am*p;rw [b,<-a];grind,by show 0<=y.am*p;rw [<-a];grind⟩
 ·refine q _ λx g=>?_;obtain ⟨y,m,rfl⟩:=Qk.mp g;have b:=h y m;exact ⟨by show y.part - y.am*p=y.am*(1 - p);grind,QN b.2 (by grind)⟩
def lD (h:Xi t b):0<=Rat.divInt t b/\Rat.divInt t b<1:=⟨QQ (Ua h).1,(Ua h).2⟩
theorem YY:∀{r:Rl},NG r->POk r->(∀L,iR L->yE r L)/\∀L,ET L->yE r L
 | .shares,_,_=>⟨λL h=>⟨(yT.none h).1,λx g=>by rw [h.sum,(h x g).1];grind⟩,λL h=>⟨(yT.full h).1,λx g=>by rw [h.sum,(h x g).1]⟩⟩
 | .evenly,_,_=>⟨λL h=>⟨(yT.none h).1, .none h⟩,λL h=>⟨(yT.full h).1, .full h⟩⟩
 | .losses,_,_=>⟨λL h=>⟨(yT.none h).1, .full h.flip⟩,λL h=>⟨(yT.full h).1, .none h.flip⟩⟩
 | .halves,_,_=>⟨λL h=>⟨(yT.none h).1,nk (by grind) (λL z=>⟨(yT.none z).1, .none z⟩) h⟩,λL h=>⟨(yT.full h).1,tq (by grind) (by grind) (λL z=>⟨(yT.full z).1, .full z⟩) (λL z=>⟨(yT.full z).1, .none z.flip⟩) h⟩⟩
 | .other r,n,p=>by
   obtain ⟨a,b⟩:=YY (r:=r) n p;exact ⟨λL h=>⟨(yT.none h).1,b _ h.flip⟩,λL h=>⟨(yT.full h).1,a _ h.flip⟩⟩
 | .ranks r,n,p=>by
   obtain ⟨a,b⟩:=YY (r:=r) n p
   exact ⟨λL h=>⟨(yT.none h).1,λk=>a _ λx g=>h x (Tc.mp g).1,λx g y q _ pos=>by have:=h y q;grind⟩,
    λL h=>⟨(yT.full h).1,λk=>b _ λx g=>h x (Tc.mp g).1,λx g _ _ _ _=>(h x g).1⟩⟩
 | .groups _ _,n,_=>absurd n id
 | .upto t b x y,n,p=>by
   obtain ⟨a,b⟩:=YY n.1 p.2.1;obtain ⟨c,d⟩:=YY n.2 p.2.2;obtain ⟨p0,m⟩:=lD p.1;exact ⟨λL h=>⟨(yT.none h).1,nk p0 a h⟩,λL h=>⟨(yT.full h).1,tq p0 m b d h⟩⟩
def yT.sub (h:yT L) (s:M.Sublist L):yT M:=⟨h.1.sub s,λx m lt y g=>h.2 x (s.subset m) lt y (s.subset g)⟩
def XI.sub (i:InQ L) (h:XI L) (s:M.Sublist L):XI M:=λx m=>by
 have an:∀x∈L,0<=x.am:=λx m=>by have:=i x m;grind
 by_cases z:Yi L=0
 ·have r:∀y∈L,y.am=0/\y.part=0:=λy g=>by
   have p:zu (L.map λ_:Row=>(0:Rat))=0:=by
    rw [<-show (λ_:Row=>(0:Rat)*0)=λ_=>0 by funext x;grind,tO];grind
   have:=xI (λx m=>an x m) (by rw [p];exact z.symm) y g;have:=i y g
   grind
  have:=r x (s.subset m);rw [this.1,this.2];grind
 ·have q:∀y∈L,y.part=y.am*(XN L / Yi L):=λy g=>by
   have e:=h y g;rw [jac,<-Rat.mul_assoc,<-e,Rat.mul_assoc,Tw _ z,Rat.mul_one]
  have e:XN M=Yi M*(XN L / Yi L):=by
   unfold XN Yi;rw [<-tO];exact YK λy g=>q y (s.subset g)
  rw [e,q x (s.subset m)]
  grind
def tm (p0:0<=p) (r:∀L,X L->InQ L) (q:∀L,Y L->InQ L) (u:∀L M,X L->M.Sublist L->X M) (t:∀L M,Y L->M.Sublist L->Y M) (w:∀L,ET L->X L) (i:InQ L) (h:xM p X Y L) (s:M.Sublist L):xM p X Y M:=by
 unfold xM at h⊢
 split at h
 ·have b:=r _ h
  have c:XN M<=Yi M*p:=by
   unfold XN Yi;rw [<-tO];exact AH λx g=>(b (x.first p) (Qk.mpr ⟨x,s.subset g,rfl⟩)).2
  rw [QD c];exact u _ _ h (s.map _)
 ·have b:=q _ h
  have ge:∀x∈M,x.am*p<=x.part:=λx g=>by
   have:=(b (x.rest p) (Qk.mpr ⟨x,s.subset g,rfl⟩)).1;have e:(x.rest p).part=x.part - x.am*p:=rfl
   grind
  split
  ·next c=>
   have le:Yi M*p<=XN M:=by
    unfold XN Yi;rw [<-tO];exact AH ge
   have eq:=xI ge (by
    rw [tO];have:Yi M*p=XN M:=by grind
    exact this)
   refine w _ λx g=>?_;obtain ⟨y,m,rfl⟩:=Qk.mp g;have a:=i y (s.subset m);exact ⟨(eq y m).symm,QN (by grind) p0⟩
  ·exact t _ _ h (s.map _)
theorem her:∀{r:Rl},NG r->POk r->∀{L M:List Row},yE r L->M.Sublist L->yE r M
 | .shares,_,_,L,M,h,s=>⟨h.1.sub s,h.2.sub h.1 s⟩
 | .evenly,_,_,L,M,h,s=>⟨h.1.sub s,h.2.sub s⟩
 | .losses,_,_,L,M,h,s=>⟨h.1.sub s,h.2.sub (s.map _)⟩
 | .halves,_,_,L,M,h,s=>⟨h.1.sub s,tm (by grind) (λ_ z=>z.1) (λ_ z=>z.1) (λ_ _ z s=>⟨z.1.sub s,z.2.sub s⟩) (λ_ _ z s=>⟨z.1.sub s,z.2.sub (s.map _)⟩) (λL z=>⟨(yT.full z).1, .full z⟩) h.1 h.2 s⟩
 | .other r,n,p,L,M,h,s=>⟨h.1.sub s,her (r:=r) n p h.2 (s.map _)⟩
 | .ranks r,n,p,L,M,h,s=>⟨h.1.sub s,λk=>her (r:=r) n p (h.2.1 k) (s.filter _),λx m y g=>h.2.2 x (s.subset m) y (s.subset g)⟩
 | .groups _ _,n,_,_,_,_,_=>absurd n id
 | .upto t b x y,n,p,L,M,h,s=>⟨h.1.sub s,tm (lD p.1).1 (λ_ z=>z.inQ) (λ_ z=>z.inQ) (λ_ _ z s=>her n.1 p.2.1 z s) (λ_ _ z s=>her n.2 p.2.2 z s) (YY n.1 p.2.1).2 h.1 h.2 s⟩
def tw (z:Row×Rat):Row:={z.1 with part:=z.2}
section
variable {Z:List (Row×Rat)}
def iu (h:z∈Z):z.1∈Z.map (·.1):=Qk.mpr ⟨z,h,rfl⟩
def oH (h:z∈Z):tw z∈Z.map tw:=Qk.mpr ⟨z,h,rfl⟩
def sumP1:XN (Z.map (·.1))=zu (Z.map (·.1.part)):=by unfold XN;rw [Qo];rfl
def sumP2:XN (Z.map tw)=zu (Z.map (·.2)):=by unfold XN;rw [Qo];rfl
def Iy:Yi (Z.map tw)=Yi (Z.map (·.1)):=by unfold Yi;rw [Qo,Qo];rfl
def ex_lt {α:Type} {f g:α->Rat} {Y:List α} (h:zu (Y.map f)<zu (Y.map g)):∃z∈Y,f z<g z:=
 Classical.byContradiction λn=>by
  have:=AH λz m=>TX.mp λl=>n ⟨z,m,l⟩
  grind
def UK (a:yT (Z.map (·.1))) (b:yT (Z.map tw)) (e:zu (Z.map (·.1.part))=zu (Z.map (·.2))):∀z∈Z,z.1.part=z.2:=by
 have up:∀z∈Z,z.1.part<z.2->∀y∈Z,y.1.part<=y.2:=λz g lt y p=>by
  have u:=(b.1 _ (oH g)).2;have a1:=a.2 z.1 (iu g) (by have:(tw z).part=z.2:=rfl;have:(tw z).am=z.1.am:=rfl;grind) y.1 (iu p);have a2:=(a.1 y.1 (iu p)).2;have t:=(b.1 _ (oH p)).2
  by_cases c:y.2<y.1.am
  ·have:=b.2 (tw y) (oH p) c (tw z) (oH g);have r:(tw y).part=y.2:=rfl;have q:(tw z).part=z.2:=rfl
   grind
  ·grind
 have s:∀z∈Z,z.2<z.1.part->∀y∈Z,y.2<=y.1.part:=λz g lt y p=>by
  have u:=(a.1 _ (iu g)).2;have a1:=b.2 (tw z) (oH g) (by have:(tw z).part=z.2:=rfl;have:(tw z).am=z.1.am:=rfl;grind) (tw y) (oH p);have r:(tw y).part=y.2:=rfl;have q:(tw z).part=z.2:=rfl;have a2:=(a.1 y.1 (iu p)).2;have t:y.2<=y.1.am:=(b.1 _ (oH p)).2
  by_cases c:y.1.part<y.1.am
  ·have:=a.2 y.1 (iu p) c z.1 (iu g)
   grind
  ·grind
 intro z g
 by_cases l:z.1.part<z.2
 ·exact xI (up z g l) e z g
 ·by_cases m:z.2<z.1.part
  ·exact (xI (s z g m) e.symm z g).symm
  ·grind
def flZ (z:Row×Rat):Row×Rat:=(z.1.flip,z.1.am - z.2)
def fiZ (p:Rat) (z:Row×Rat):Row×Rat:=(z.1.first p,z.2)
def reZ (p:Rat) (z:Row×Rat):Row×Rat:=(z.1.rest p,z.2 - z.1.am*p)
def fl1:(Z.map (·.1)).map Row.flip=(Z.map flZ).map (·.1):=by rw [Qo,Qo];rfl
def fl2:(Z.map tw).map Row.flip=(Z.map flZ).map tw:=by rw [Qo,Qo];rfl
def fi1:(Z.map (·.1)).map (Row.first p)=(Z.map (fiZ p)).map (·.1):=by rw [Qo,Qo];rfl
def fi2:(Z.map tw).map (Row.first p)=(Z.map (fiZ p)).map tw:=by rw [Qo,Qo];rfl
def re1:(Z.map (·.1)).map (Row.rest p)=(Z.map (reZ p)).map (·.1):=by rw [Qo,Qo];rfl
def re2:(Z.map tw).map (Row.rest p)=(Z.map (reZ p)).map tw:=by rw [Qo,Qo];rfl
def DV (e:zu (Z.map (·.1.part))=zu (Z.map (·.2))):zu ((Z.map flZ).map (·.1.part))=zu ((Z.map flZ).map (·.2)):=by
 rw [Qo,Qo];show zu (Z.map λz=>z.1.am - z.1.part)=zu (Z.map λz=>z.1.am - z.2);rw [smsu,smsu,e]
def DW (h:∀z∈Z.map flZ,z.1.part=z.2):∀z∈Z,z.1.part=z.2:=λz g=>by
 have e:z.1.am - z.1.part=z.1.am - z.2:=h (flZ z) (Qk.mpr ⟨z,g,rfl⟩)
 grind
def nj (r:∀Z:List (Row×Rat),X (Z.map (·.1))->X (Z.map tw)->zu (Z.map (·.1.part))=zu (Z.map (·.2))->∀z∈Z,z.1.part=z.2) (m:∀Z:List (Row×Rat),Y (Z.map (·.1))->Y (Z.map tw)->zu (Z.map (·.1.part))=zu (Z.map (·.2))->∀z∈Z,z.1.part=z.2)
 (a:xM p X Y (Z.map (·.1))) (b:xM p X Y (Z.map tw)) (e:zu (Z.map (·.1.part))=zu (Z.map (·.2))):∀z∈Z,z.1.part=z.2:=by
 unfold xM at a b;rw [Iy,sumP2,<-e] at b;rw [sumP1] at a
 split at a
 ·next c=>
  rw [QD c] at b;rw [fi1] at a;rw [fi2] at b;intro z g;exact r _ a b (by rw [Qo,Qo];exact e) (fiZ p z) (Qk.mpr ⟨z,g,rfl⟩)
 ·next c=>
  rw [QI c] at b;rw [re1] at a;rw [re2] at b;intro z g
  have q:z.1.part - z.1.am*p=z.2 - z.1.am*p:=m _ a b (by
   rw [Qo,Qo];show zu (Z.map λz=>z.1.part - z.1.am*p)=zu (Z.map λz=>z.2 - z.1.am*p)
   rw [smsu,smsu,e]) (reZ p z) (Qk.mpr ⟨z,g,rfl⟩)
  grind
def qA (i:InQ (Z.map (·.1))) (j:InQ (Z.map tw)) (a:XI (Z.map (·.1))) (b:XI (Z.map tw)) (e:zu (Z.map (·.1.part))=zu (Z.map (·.2))):∀z∈Z,z.1.part=z.2:=λz m=>by
 have p:=a z.1 (iu m);have q:z.2*Yi (Z.map tw)=z.1.am*XN (Z.map tw):=b (tw z) (oH m);rw [Iy,sumP2,<-e,<-sumP1,<-p] at q
 by_cases s:Yi (Z.map (·.1))=0
 ·have y:z.1.am=0:=by
   have t:zu ((Z.map (·.1)).map λ_:Row=>(0:Rat))=0:=by
    rw [<-show (λ_:Row=>(0:Rat)*0)=λ_=>0 by funext x;grind,tO];grind
   exact (xI (Z:=Z.map (·.1)) (f:=λ_=>(0:Rat)) (g:=(·.am)) (λx r=>by have:=i x r;grind) (by rw [t];exact s.symm) z.1 (iu m)).symm
  have w:=i z.1 (iu m);have u:0<=z.2/\z.2<=z.1.am:=j (tw z) (oH m)
  grind
 ·have:=congrArg (·*(Yi (Z.map (·.1)))⁻¹) q;simp only [Rat.mul_assoc,Tw _ s,Rat.mul_one] at this;exact this.symm
def Gd (i:InQ (Z.map (·.1))) (j:InQ (Z.map tw)) (a:∀x∈Z.map (·.1),∀y∈Z.map (·.1),x.rank<y.rank->0<y.part->x.part=x.am) (b:∀x∈Z.map tw,∀y∈Z.map tw,x.rank<y.rank->0<y.part->x.part=x.am)
 (e:zu (Z.map (·.1.part))=zu (Z.map (·.2))) (k:Int):zu ((Z.filter (·.1.rank=k)).map (·.1.part))=zu ((Z.filter (·.1.rank=k)).map (·.2)):=by
 have s1:=smsp (f:=λz:Row×Rat=>z.1.part) (λz=>decide (z.1.rank=k)) (Z:=Z);have s2:=smsp (f:=λz:Row×Rat=>z.2) (λz=>decide (z.1.rank=k)) (Z:=Z)
 have mm:∀{z:Row×Rat},z∈Z.filter (λz=>decide (z.1.rank=k))->z∈Z/\z.1.rank=k:=λ{z} h=>by
  have:=Tc.mp h;exact ⟨this.1,by simpa using this.2⟩
 have mn:∀{z:Row×Rat},z∈Z.filter (λz=>!decide (z.1.rank=k))->z∈Z/\z.1.rank≠k:=λ{z} h=>by
  have:=Tc.mp h;exact ⟨this.1,by simpa using this.2⟩
 by_cases l:zu ((Z.filter λz=>decide (z.1.rank=k)).map (·.1.part))<zu ((Z.filter λz=>decide (z.1.rank=k)).map (·.2))
 ·obtain ⟨x,r,t⟩:=ex_lt l;obtain ⟨r,u⟩:=mm r;have A:0<=x.2/\x.2<=x.1.am:=j (tw x) (oH r);have D:=i x.1 (iu r)
  have le:=AH (f:=λz:Row×Rat=>z.1.part) (g:=λz=>z.2) (Z:=Z.filter λz=>!decide (z.1.rank=k)) λz p=>by
   obtain ⟨p,s⟩:=mn p;have C:=i z.1 (iu p);have w:0<=z.2/\z.2<=z.1.am:=j (tw z) (oH p)
   rcases Int.lt_or_gt_of_ne s with c|c
   ·have q:z.2=z.1.am:=b (tw z) (oH p) (tw x) (oH r) (by show z.1.rank<x.1.rank;lia) (by show 0<x.2;grind)
    grind
   ·by_cases pz:0<z.1.part
    ·have:=a x.1 (iu r) z.1 (iu p) ⋯ pz
     grind
    ·grind
  grind
 ·by_cases m:zu ((Z.filter λz=>decide (z.1.rank=k)).map (·.2))<zu ((Z.filter λz=>decide (z.1.rank=k)).map (·.1.part))
  ·obtain ⟨x,r,t⟩:=ex_lt m;obtain ⟨r,u⟩:=mm r;have A:0<=x.2/\x.2<=x.1.am:=j (tw x) (oH r);have D:=i x.1 (iu r)
   have le:=AH (f:=λz:Row×Rat=>z.2) (g:=λz=>z.1.part) (Z:=Z.filter λz=>!decide (z.1.rank=k)) λz p=>by
    obtain ⟨p,s⟩:=mn p;have C:=i z.1 (iu p);have w:0<=z.2/\z.2<=z.1.am:=j (tw z) (oH p)
    rcases Int.lt_or_gt_of_ne s with c|c
    ·have q:=a z.1 (iu p) x.1 (iu r) ⋯ (by grind)
     grind
    ·by_cases pz:0<z.2
     ·have q:x.2=x.1.am:=b (tw x) (oH r) (tw z) (oH p) (by show x.1.rank<z.1.rank;lia) pz
      grind
     ·grind
   grind
  ·grind
end
def HC {Z:List (Row×Rat)} (k:Int):(Z.map (·.1)).filter (·.rank=k)=(Z.filter (·.1.rank=k)).map (·.1):=by rw [List.filter_map];rfl
def HB {Z:List (Row×Rat)} (k:Int):(Z.map tw).filter (·.rank=k)=(Z.filter (·.1.rank=k)).map tw:=by rw [List.filter_map];rfl
theorem sm0 {α:Type} {f:α->Rat}:∀{Z:List α},(∀z∈Z,f z=0)->zu (Z.map f)=0
 |[],_=>rfl
 |z::Z,h=>by rw [Qj,zu,h z (Qg ..),sm0 λx g=>h x (Qe _ g)];grind
theorem uniq:∀{r:Rl} {Z:List (Row×Rat)},yE r (Z.map (·.1))->yE r (Z.map tw)->zu (Z.map (·.1.part))=zu (Z.map (·.2))->∀z∈Z,z.1.part=z.2
 | .shares,Z,a,b,e=>qA a.1 b.1 a.2 b.2 e
 | .evenly,Z,a,b,e=>UK a.2 b.2 e
 | .losses,Z,a,b,e=>DW (UK (by have:=a.2;rwa [fl1] at this) (by have:=b.2;rwa [fl2] at this) (DV e))
 | .halves,Z,a,b,e=>nj (λZ a b e=>UK a.2 b.2 e) (λZ a b e=>DW (UK (by have:=a.2;rwa [fl1] at this) (by have:=b.2;rwa [fl2] at this) (DV e))) a.2 b.2 e
 | .other r,Z,a,b,e=>DW (uniq (by have:=a.2;rwa [fl1] at this) (by have:=b.2;rwa [fl2] at this) (DV e))
 | .ranks r,Z,a,b,e=>λz g=>by
   have p:=a.2.1 z.1.rank;have m:=b.2.1 z.1.rank;rw [HC] at p;rw [HB] at m;exact uniq p m (Gd a.1 b.1 a.2.2 b.2.2 e z.1.rank) z (Tc.mpr ⟨g,by simp⟩)
 | .groups _ _,Z,a,_,_=>λz g=>by rw [List.map_eq_nil_iff.mp a] at g;cases g
 | .upto _ _ x y,Z,a,b,e=>nj (λZ a b e=>uniq a b e) (λZ a b e=>uniq a b e) a.2 b.2 e
def zipZ (l:List Cl) (v w:List Rat):List (Row×Rat):=(zo l v).zip w
theorem zip1:∀{l:List Cl} {v w:List Rat},v.length=l.length->w.length=l.length->(zipZ l v w).map (·.1)=zo l v/\(zipZ l v w).map tw=zo l w/\(zipZ l v w).map (·.1.part)=v/\(zipZ l v w).map (·.2)=w
 |[],[],[],_,_=>⟨rfl,rfl,rfl,rfl⟩
 |c::l,x::v,y::w,h1,h2=>by
  obtain ⟨a,b,d,e⟩:=zip1 (Nat.succ.inj h1) (Nat.succ.inj h2);refine ⟨congrArg (xk c x::·) a,congrArg (xk c y::·) b,congrArg (x::·) d,congrArg (y::·) e⟩
def LV {Z:List (Row×Rat)} (h:∀z∈Z,z.1.part=z.2):Z.map (·.1.part)=Z.map (·.2):=QA h
def fK {r:Rl} {l:List Cl} {v w:List Rat} (p:v.length=l.length) (hw:w.length=l.length) (a:yE r (zo l v)) (b:yE r (zo l w)) (e:zu v=zu w):v=w:=by
 obtain ⟨z1,z2,m,g⟩:=zip1 p hw;rw [<-z1] at a;rw [<-z2] at b;have:=LV (uniq a b (by rw [m,g];exact e));rwa [m,g] at this
def rJ (p:Nat->Bool) (n:Nat):List Nat:=(List.range n).filter p
theorem sY {α β γ δ:Type} (f:β->γ->δ) (g:α->β) (h:α->γ):∀pl:List α,List.zipWith f (pl.map g) (pl.map h)=pl.map λi=>f (g i) (h i)
 |[]=>rfl
 |a::pl=>by rw [Qj,Qj,Qj,jaq,sY f g h pl]
def jk (g:v.length=l.length):zo l v=(List.range l.length).map λi=>xk (l.getD i (0,0,0)) (v.getD i 0):=by
 unfold zo;refine jat λi=>?_;rw [Qx,Qh]
 by_cases h:i<l.length
 ·rw [List.getElem?_range h,Qa h,Qa ⋯];simp [Qq,Qa h,Qa (show i<v.length by lia)]
 ·rw [QC (l:=l) ⋯,QC (l:=List.range l.length) (by rw [jah];lia)];rfl
def BQ (g:v.length=l.length) (p:Nat->Bool):(zo (zK (0,0,0) (rJ p l.length) l) (zK 0 (rJ p l.length) v)).Sublist (zo l v):=by
 rw [jk g];unfold zo zK;rw [sY];exact (List.filter_sublist).map _
theorem nr:∀{l:List Cl} {v:List Rat},v.length=l.length->XN (zo l v)=zu v
 |[],[],_=>rfl
 |c::l,x::v,h=>by
  have:=nr (Nat.succ.inj h);unfold XN zo at*;rw [jaq,Qj,zu,zu,this];rfl
def rN (m:v.length=l.length) (i:InQ (zo l v)):0<=zu v/\zu v<=zu (amQ l):=by
 have a:=AH λx g=>(i x g).2;have b:=AH λx g=>(i x g).1;rw [sm0 λ_ _=>rfl] at b;have q:zu ((zo l v).map (·.part))=zu v:=nr m;have p:zu ((zo l v).map (·.am))=zu (amQ l):=YS m;rw [q] at a b;rw [p] at a;exact ⟨b,a⟩
def Bm (m:NG r) (po:POk r) (g:GF r l P) (p:Nat->Bool) (g':GF r (zK (0,0,0) (rJ p l.length) l) P') (h0:0<=e):
 zg P' (zu (zK 0 (rJ p l.length) (zg P e)))=zK 0 (rJ p l.length) (zg P e):=by
 have q:(zg P e).length=l.length:=g.ful.std.len;have f:=her m po (g.good.fit e h0) (BQ q p);have lv:(zK 0 (rJ p l.length) (zg P e)).length=(zK ((0:Int),(0:Int),(0:Int)) (rJ p l.length) l).length:=by rw [xl,xl]
 obtain ⟨s0,s1⟩:=rN lv f.inQ;refine fK g'.ful.std.len lv (g'.good.fit _ s0) f ?_;rw [g'.ful.std.sum s0];unfold mn
 split
 ·rfl
 ·grind
section
variable {r x y a b:Rl} {l:List Cl} {tk:List Int}
noncomputable def aW (r:Rl) (l:List Cl) (tk:List Int):Bool:=@decide (FitG r l tk) (Classical.propDecidable _)
def UJ:aW r l tk=true↔FitG r l tk:=by
 unfold aW;exact @decide_eq_true_iff _ (Classical.propDecidable _)
def Uh (h:FitG r l tk↔c=true):aW r l tk=c:=jbv.mpr (UJ.trans h)
def Xg {i:Nat} {q:Rat} (h:(yM tk)[i]? =some q):∃p:Int,tk[i]? =some p/\q=(p:Rat):=by
 unfold yM at h;rw [Qh] at h
 cases e:tk[i]? with
 |none=>rw [e] at h;cases h
 |some p=>rw [e] at h;exact ⟨p,rfl,(Qw h).symm⟩
def EG {i:Nat} {c:Cl} (g:l[i]? =some c):(amV l)[i]? =some c.1:=by unfold amV;rw [Qh,g];rfl
def InB.len (h:InB (amV l) tk):tk.length=l.length:=by rw [h.1,zQ]
def InB.inQ (h:InB (amV l) tk):InQ (zo l (yM tk)):=λx g=>by
 obtain ⟨i,c,q,s,m,rfl⟩:=yZ g;obtain ⟨p,hp,rfl⟩:=Xg m;have:=h.2 i c.1 p (EG s) hp;exact ⟨QH.mpr this.1,QH.mpr this.2⟩
def WX.evenQ (h:WX (amV l) tk):yT (zo l (yM tk)):=by
 refine ⟨InB.inQ ⟨h.1,λi a p ha hp=>⟨(h.2 i a p ha hp).1,(h.2 i a p ha hp).2.1⟩⟩,λx s lt y m=>?_⟩;obtain ⟨i,c,q,u,t,rfl⟩:=yZ s;obtain ⟨p,hp,rfl⟩:=Xg t;obtain ⟨j,d,A,hd,w,rfl⟩:=yZ m;obtain ⟨g,z,rfl⟩:=Xg w;exact QH.mpr ((h.2 i c.1 p (EG u) hp).2.2 (jaA.mp lt) g (Qd z))
def Ec:FitG .evenly l tk↔WX (amV l) tk:=⟨λh=>h.evenly,λh=>⟨by rw [h.1,zQ],h.evenQ.1,h.evenQ⟩⟩
def Ea (g:InB (amV l) tk):FitG .losses l tk↔WX (amV l) (xc (amV l) tk):=⟨λh=>h.losses,λh=>⟨g.len,g.inQ,by rw [<-Uw];exact h.evenQ⟩⟩
def HF (g:InB (amV l) tk):FitG (.other r) l tk↔FitG r l (xc (amV l) tk):=⟨λh=>h.other,λh=>⟨g.len,g.inQ,by rw [<-Uw];exact h.fit⟩⟩
def tR (g:tk.length=l.length):Yi (zo l (yM tk))=(((amV l).sum:Int):Rat)/\XN (zo l (yM tk))=((tk.sum:Int):Rat):=
 ⟨by rw [YS (by rw [WR];exact g),Zj],by rw [YR (by rw [WR];exact g),ah]⟩
def DZ (g:InB (amV l) tk):FitG .shares l tk↔tk.map (·*(amV l).sum)=(amV l).map (·*tk.sum):=by
 refine ⟨λh=>h.shares,λh=>⟨g.len,g.inQ,λx m=>?_⟩⟩;obtain ⟨i,c,q,t,s,rfl⟩:=yZ m;obtain ⟨p,hp,rfl⟩:=Xg s;rw [(tR g.len).1,(tR g.len).2];have e:=congrArg (λz:List Int=>z[i]?) h;simp only [Qh,hp,EG t,Option.map_some] at e;have e:=Qw e;show (p:Rat)*_=(c.1:Rat)*_;rw [<-QL,<-QL,e]
def Eb:FitG .halves l tk↔FitG (.upto 1 2 .evenly .losses) l tk:=by
 refine ⟨λh=>h.halves,λh=>⟨h.len,h.fit.1,?_⟩⟩;have g:Rat.divInt 1 2=(1:Rat) / 2:=by decide+kernel
 have f:=h.fit.2;rw [g] at f;exact f
def ar (m:0<c) (h:yE r (L.map (Row.scale c))):yE r L:=by
 have f:=yE.scale (Rat.inv_pos.mpr m) h;have e:c*c⁻¹=1:=Tw _ (by grind)
 have g:(L.map (Row.scale c)).map (Row.scale c⁻¹)=L:=by
  rw [Qo];refine (QA λx _=>?_).trans (List.map_id L);show Row.mk _ _ _ _=x;simp only [Row.scale,Rat.mul_assoc,e,Rat.mul_one]
 rw [g] at f;exact f
def LD {t b:Int} (p:0<b) (g:InB (amV l) tk):FitG (.upto t b x y) l tk↔if (yq b tk).sum<=(amV (zN t l)).sum then FitG x (zN t l) (yq b tk) else FitG y (zN (b - t) l) (xc (yq b tk) (amV (zN t l))):=by
 refine ⟨λh=>h.upto p,λh=>⟨g.len,g.inQ,?_⟩⟩;have m:=Zm p;have bn:b≠0:=⋯
 have e:=yf (t:=t) bn;unfold xM;rw [(tR g.len).1,(tR g.len).2]
 have iff:((tk.sum:Int):Rat)<=(((amV l).sum:Int):Rat)*Rat.divInt t b↔(yq b tk).sum<=(amV (zN t l)).sum:=by
  rw [xr,YJ,YJ,<-fv m,<-QH,QL,QL,<-e]
  constructor<;>intro z<;>grind
 by_cases c:(yq b tk).sum<=(amV (zN t l)).sum
 ·rw [QD c] at h;rw [QD (iff.mpr c)];have f:=h.fit;rw [kZ bn] at f;exact ar m f
 ·rw [QI c] at h;rw [QI (λz=>c (iff.mp z))];have f:=h.fit;rw [xr,kY bn] at f;exact ar m f
noncomputable abbrev pkR (k:Int) (l:List Cl) (tk:List Int):List Int:=zK 0 (yb (zE k) l) tk
noncomputable def rkB (r:Rl) (l:List Cl) (tk:List Int):Bool->List Int->Bool
 |_,[]=>true
 |fl,k::ks=>if (!fl && (pkR k l tk).any λx=>decide (0<x))=true then false else if aW r (l.filter (zE k)) (pkR k l tk)=true then rkB r l tk (fl && decide (pkR k l tk=pkR k l (amV l))) ks else false
theorem BV:∀(p:List Int) (fl:Bool),rkB r l tk fl p=true↔(∀k∈p,FitG r (l.filter (zE k)) (pkR k l tk))/\(fl=false->∀k∈p,∀x∈pkR k l tk,¬0<x)/\p.Pairwise λk m=>pkR k l tk=pkR k l (amV l)\/∀x∈pkR m l tk,¬0<x
 |[],fl=>⟨λ_=>⟨λk g=>absurd g Qm,λ_ k g=>absurd g Qm, .nil⟩,λ_=>rfl⟩
 |k::p,fl=>by
  have w:=BV p (fl && decide (pkR k l tk=pkR k l (amV l)))
  have an:(pkR k l tk).any (λx=>decide (0<x))=true↔∃x∈pkR k l tk,0<x:=by
   rw [List.any_eq_true];exact ⟨λ⟨x,h,h'⟩=>⟨x,h,Qz h'⟩,λ⟨x,h,h'⟩=>⟨x,h,QT h'⟩⟩
  rw [rkB,Qr]
  by_cases c:(!fl && (pkR k l tk).any λx=>decide (0<x))=true
  ·rw [QD c];obtain ⟨D,C⟩:=Bool.and_eq_true_iff.mp c;obtain ⟨x,s,x0⟩:=an.mp C;refine ⟨λz=>Bool.noConfusion z,λh=>absurd x0 (h.2.1 ‹D› k (Qg ..) x s)⟩
  ·rw [QI c];have G:fl=false->∀x∈pkR k l tk,¬0<x:=λz x s x0=>c (Bool.and_eq_true_iff.mpr ⟨by rw [z];rfl,an.mpr ⟨x,s,x0⟩⟩)
   by_cases f:aW r (l.filter (zE k)) (pkR k l tk)=true
   ·rw [QD f,w]
    constructor
    ·rintro ⟨u,q,t⟩
     refine ⟨λm g=>?_,λz m g=>?_,λm g=>?_,t⟩
     ·rcases Qn.mp g with rfl|g
      ·exact UJ.mp f
      ·exact u m g
     ·rcases Qn.mp g with rfl|g
      ·exact G z
      ·exact q (by rw [z];rfl) m g
     ·by_cases e:pkR k l tk=pkR k l (amV l)
      ·exact .inl e
      ·exact .inr (q (by rw [Tf e,Bool.and_false]) m g)
    ·rintro ⟨u,q,t,A⟩
     refine ⟨λm g=>u m (Qe _ g),λz m g=>?_,A⟩
     cases fl with
     |false=>exact q rfl m (Qe _ g)
     |true=>
      rw [Bool.true_and] at z;exact (t m g).resolve_left (of_decide_eq_false z)
   ·rw [QI f];exact ⟨λz=>Bool.noConfusion z,λh=>absurd (UJ.mpr (h.1 k (Qg ..))) f⟩
def HE (C:InB (amV l) tk):FitG (.ranks r) l tk↔rkB r l tk true (zI l)=true:=by
 have ok:=yt l;have D:=C.len;rw [BV]
 constructor
 ·intro h;refine ⟨λk _=>h.ranks k,λz=>Bool.noConfusion z,ok.1.imp λ{k k'} lt=>?_⟩
  by_cases e:pkR k l tk=pkR k l (amV l)
  ·exact .inl e
  ·refine .inr λx A x0=>?_;obtain ⟨i,s,ne⟩:∃i∈yb (zE k) l,tk.getD i 0≠(amV l).getD i 0:=Classical.byContradiction λno=>e (QA λi s=>Classical.byContradiction λh=>no ⟨i,s,h⟩);obtain ⟨j,I,rfl⟩:=Qk.mp A;have P:=(XT (zE k) l).lt i s;have jl:=(XT (zE k') l).lt j I;have g:=Qa P;have hd:=Qa jl;have hp:=Qa (l:=tk) (i:=i) ⋯;have m:=Qa (l:=tk) (i:=j) ⋯;have rk:l[i].2.1=k:=Qz ((XA g).mp s);have t:l[j].2.1=k':=Qz ((XA hd).mp I);rw [zA m] at x0;have:=h.order g hp hd m (by rw [rk,t];exact lt) x0;rw [zA hp,zA (EG g)] at ne;exact ne this
 ·rintro ⟨X,_,U⟩
  refine ⟨D,C.inQ,λk=>?_,λx A y T lt L=>?_⟩
  ·rw [om (zE k) _ (λc x=>rfl) D]
   by_cases G:k∈zI l
   ·exact (X k G).fit
   ·have e:l.filter (zE k)=[]:=List.filter_eq_nil_iff.mpr λc g z=>G ((ok.2 k).mpr (Qk.mpr ⟨c,g,Qz z⟩));rw [e];exact Vg r
  ·obtain ⟨i,c,q,g,m,rfl⟩:=yZ A;obtain ⟨p,hp,rfl⟩:=Xg m;obtain ⟨j,d,q',hd,Ou,rfl⟩:=yZ T;obtain ⟨M,NQ,rfl⟩:=Xg Ou;have O:c.2.1∈zI l:=(ok.2 _).mpr (Qk.mpr ⟨c,Qd g,rfl⟩);have N:d.2.1∈zI l:=(ok.2 _).mpr (Qk.mpr ⟨d,Qd hd,rfl⟩);have lt:c.2.1<d.2.1:=lt;obtain ⟨w,K,Z⟩:=QK O;obtain ⟨u,J,Y⟩:=QK N
   have ij:w<u:=Nat.lt_of_not_le λz=>by
    rcases Nat.lt_or_eq_of_le z with z|z
    ·have:=QR.mp ok.1 u w J K z;lia
    ·subst z;lia
   have mem:∀{i:Nat} {c:Cl},l[i]? =some c->i∈yb (zE c.2.1) l:=λ{i c} g=>(XA g).mpr (QT rfl)
   rcases QR.mp U w u K J ij with z|z
   ·rw [Z] at z;have:=(List.map_inj_left.mp z) i (mem g);rw [zA hp,zA (EG g)] at this;exact congrArg (λz:Int=>(z:Rat)) this
   ·rw [Y] at z;exact absurd (jaA.mp L) (z M (Qk.mpr ⟨j,mem hd,zA NQ⟩))
end
theorem oh {α:Type} {R:α->α->Prop}:∀{L:List α},L.Pairwise R->∀x∈L,∀y∈L,x=y\/R x y\/R y x
 |[],_,x,hx,_,_=>absurd hx Qm
 |a::L,h,x,hx,y,hy=>by
  obtain ⟨g,r⟩:=Qr.mp h
  rcases Qn.mp hx with ex|q<;>rcases Qn.mp hy with m|p
  ·exact .inl (ex.trans m.symm)
  ·rw [ex];exact .inr (.inl (g y p))
  ·rw [m];exact .inr (.inr (g x q))
  ·exact oh r x q y p
def m0:x∈[x,y]:=Qg ..
def m1:y∈[x,y]:=Qe _ (Qg ..)
def InQ.flip (h:InQ L):InQ (L.map Row.flip):=λx m=>by
 obtain ⟨y,g,rfl⟩:=Qk.mp m;have:=h y g;exact ⟨by show 0<=y.am - y.part;grind,by show y.am - y.part<=y.am;grind⟩
def qB {L:List Row} (h:L.Pairwise λx y=>XI [x,y]):XI L:=λx m=>by
 have key:∀y∈L,y.am*x.part=y.part*x.am:=λy g=>by
  have two:∀{x y:Row},XI [x,y]->x.part*y.am=x.am*y.part:=λ{x y} h=>by
   have:=h x m0;simp only [Yi,XN,zu,Qj,Tu] at this
   grind
  rcases oh h x m y g with rfl|z|z
  ·grind
  ·have:=two z;grind
  ·have:=two z;grind
 have e:=YK key;rw [tO,tO] at e;unfold Yi XN
 grind
def UL {L:List Row} (i:InQ L) (h:L.Pairwise λx y=>yT [x,y]):yT L:=⟨i,λx m lt y g=>by
 rcases oh h x m y g with rfl|z|z
 ·exact Tg
 ·exact z.2 x m0 lt y m1
 ·exact z.2 x m1 lt y m0⟩
def nq {p:Rat} (N:p<1) {X Y:List Row->Prop} (G:∀L,X L->InQ L) (D:∀L,Y L->InQ L) (J:∀L,InQ L->(L.Pairwise λx y=>X [x,y])->X L) (I:∀L,InQ L->(L.Pairwise λx y=>Y [x,y])->Y L) (C:∀L,iR L->Y L) {L:List Row} (i:InQ L) (h:L.Pairwise λx y=>xM p X Y [x,y]):xM p X Y L:=by
 have both:∀{x y:Row},xM p X Y [x,y]->(X [x.first p,y.first p]/\x.part<=x.am*p/\y.part<=y.am*p)\/(Y [x.rest p,y.rest p]/\x.am*p<=x.part/\y.am*p<=y.part):=λ{x y} u=>by
  unfold xM at u
  split at u
  ·have q:=G _ u;exact .inl ⟨u,(q _ m0).2,(q _ m1).2⟩
  ·have q:=D _ u;have M:0<=x.part - x.am*p:=(q _ m0).1;have K:0<=y.part - y.am*p:=(q _ m1).1;exact .inr ⟨u,by grind,by grind⟩
 unfold xM
 by_cases al:∀x∈L,x.part<=x.am*p
 ·have s:XN L<=Yi L*p:=by
   unfold XN Yi;rw [<-tO];exact AH al
  rw [QD s];refine J _ (λx g=>?_) (Tb.mpr ((List.pairwise_iff_forall_sublist.mpr λ{x y} sb=>?_)))
  ·obtain ⟨y,m,rfl⟩:=Qk.mp g;exact ⟨(i y m).1,al y m⟩
  ·have g:=sb.subset m0;have m:=sb.subset m1;have u:=List.pairwise_iff_forall_sublist.mp h sb;have a1:=al x g;have a2:=al y m;unfold xM at u;rw [QD (by simp only [Yi,XN,zu,Qj,Tu];grind)] at u;exact u
 ·obtain ⟨z,A,t⟩:∃z∈L,¬z.part<=z.am*p:=Classical.byContradiction λno=>al λx g=>Classical.byContradiction λh=>no ⟨x,g,h⟩
  have r:∀x∈L,x.am*p<=x.part:=λx g=>by
   rcases oh h z A x g with rfl|u|u
   ·grind
   ·rcases both u with ⟨_,b,_⟩|⟨_,_,b⟩
    ·exact absurd b t
    ·exact b
   ·rcases both u with ⟨_,_,b⟩|⟨_,b,_⟩
    ·exact absurd b t
    ·exact b
  have s:¬XN L<=Yi L*p:=λs=>by
   have le:zu (L.map λx=>x.am*p)<=zu (L.map (·.part)):=AH r
   have e:zu (L.map λx=>x.am*p)=zu (L.map (·.part)):=by
    unfold XN Yi at s;rw [<-tO] at s
    grind
   have:=xI r e z A
   grind
  rw [QI s];refine I _ (λx g=>?_) (Tb.mpr ((List.pairwise_iff_forall_sublist.mpr λ{x y} sb=>?_)))
  ·obtain ⟨y,m,rfl⟩:=Qk.mp g;have a:=r y m;have b:=i y m;exact ⟨by show 0<=y.part - y.am*p;grind,by show y.part - y.am*p<=y.am*(1 - p);grind⟩
  ·have g:=r x (sb.subset m0);have m:=r y (sb.subset m1)
   rcases both (List.pairwise_iff_forall_sublist.mp h sb) with ⟨_,b,c⟩|⟨u,_⟩
   ·refine C _ λw hw=>?_;have P:=i x (sb.subset m0);have O:=i y (sb.subset m1)
    rcases Qn.mp hw with rfl|hw
    ·exact ⟨by show x.part - x.am*p=0;grind,QN (by grind) (by grind)⟩
    ·rw [Qp.mp hw];exact ⟨by show y.part - y.am*p=0;grind,QN (by grind) (by grind)⟩
   ·exact u
theorem cnvQ:∀{r:Rl},NG r->POk r->∀{L:List Row},InQ L->(L.Pairwise λx y=>yE r [x,y])->yE r L
 | .shares,_,_,L,i,h=>⟨i,qB (h.imp λh=>h.2)⟩
 | .evenly,_,_,L,i,h=>⟨i,UL i (h.imp λh=>h.2)⟩
 | .losses,_,_,L,i,h=>⟨i,UL i.flip (Tb.mpr (h.imp λh=>h.2))⟩
 | .halves,_,_,L,i,h=>by
   refine ⟨i,nq (by decide+kernel) (λL h=>h.1) (λL h=>h.1) (λL i h=>⟨i,UL i (h.imp λh=>h.2)⟩) (λL i h=>⟨i,UL i.flip (Tb.mpr (h.imp λh=>h.2))⟩) (λL h=>?_) i (h.imp λh=>h.2)⟩;exact ⟨(yT.none h).1,yT.full h.flip⟩
 | .other r,n,p,L,i,h=>⟨i,cnvQ (r:=r) n p i.flip (Tb.mpr (h.imp λh=>h.2))⟩
 | .ranks r,n,p,L,i,h=>by
   refine ⟨i,λk=>cnvQ (r:=r) n p (λx g=>i x (Tc.mp g).1) (List.pairwise_filter.mpr (h.imp λ{x y} h g m=>?_)),λx g y m lt q=>?_⟩
   ·have f:=h.2.1 k;simp only [jaN,g,m,if_true,List.filter_nil] at f;exact f
   ·rcases oh h x g y m with rfl|z|z
    ·exact absurd lt (Int.lt_irrefl _)
    ·exact z.2.2 x m0 y m1 lt q
    ·exact z.2.2 x m1 y m0 lt q
 | .groups _ _,n,_,_,_,_=>absurd n id
 | .upto t b x y,n,p,L,i,h=>⟨i,nq (lD p.1).2 (λL h=>h.inQ) (λL h=>h.inQ) (λL i h=>cnvQ n.1 p.2.1 i h) (λL i h=>cnvQ n.2 p.2.2 i h) (YY n.2 p.2.2).1 i (h.imp λh=>h.2)⟩
def CB (g:GF r l P) (m:v.length=l.length) (i:InQ (zo l v)):zg P (zu v)=v↔yE r (zo l v):=by
 obtain ⟨s0,s1⟩:=rN m i;have f:=g.good.fit (zu v) s0
 constructor
 ·intro e;rw [e] at f;exact f
 ·intro h;refine fK g.ful.std.len m f h ?_;rw [g.ful.std.sum s0];unfold mn
  split
  ·rfl
  ·grind
def wu {a b N:Nat} (h:b<N) (g:N<=a):a≠b:=⋯
abbrev LX (h:Heap) (z TI TO T:Addr) (f:Bool):Prop:=
 h.get? z=some {cls:= .type "zip",dict:=none,data:= .fields #[rawInt T, .bool f, .bool false, .ref TI, .ref TO],slots:=#[]}
section
variable {prog:Program} {w:World} {A:Around} {E:Value->Shared->Prop} {s:Shared}
def alive_ (g:s.heap.get? a=some o) (h:Q (some o) s):wpAny (model prog w) A (loadIfAlive a) Q E s:=by
 have h':Q (s.heap.get? a) s:=by rw [g];exact h
 exact λ_ _ _=>h'
def mV {z TI TO T:Addr} {f:Bool} {p:Obj} {Q:Bool->Shared->Prop} (q:s.heap.get? T=some p) (g:LX s.heap z TI TO T f)
 (m:∀h',LX h' z TI TO T true->Heap.SameBut z s.heap h'->Q false {s with heap:=h'}):wpAny (model prog w) A (Builtin.SmallTypes.ownedTupleIsFree (.ref z)) Q E s:=by
 unfold Builtin.SmallTypes.ownedTupleIsFree;refine Qc (TN g rfl rfl ?_);show wpAny _ _ (loadIfAlive ((T:Int).toNat)>>=_) _ _ _;rw [Tp];refine Qc (alive_ q ?_);simp only [Option.isNone_some,jav,if_false];refine Qc (TN g rfl (x:= .bool f) rfl ?_)
 cases f with
 |true=>
  rw [QI (show ¬((Value.bool true !=Value.bool true)=true) from Qv)];exact Ql (m s.heap g (Heap.SameBut.refl _ _))
 |false=>
  rw [QD (show (Value.bool false !=Value.bool true)=true from rfl)];refine Qc (jaI g (by simp) λh₃ he₃ hs₃=>?_);exact Ql (m h₃ he₃ hs₃)
def AO {J I f:Bool} {z TI TO T m g r q:Addr} {u t:Nat} {xs ys:Array Value} {x y:Value} {L:Obj} {Q:Value->Shared->Prop} (D:ZipApart z TI TO m g r q) (O:s.heap.get? T=some L)
 (p:LX s.heap z TI TO T f) (X:IsPair s.heap TI (.ref m) (.ref g))
 (G:ItB J s.heap m r u) (C:ItB I s.heap g q t) (Y:SeB J s.heap r xs) (U:SeB I s.heap q ys) (N:xs[u]? =some x) (M:ys[t]? =some y)
 (P:∀h',LX h' z TI TO T true->ItB J h' m r (u+1)->ItB I h' g q (t+1)->IsPair h' s.heap.objs.size x y->h'.objs.size=s.heap.objs.size+1->
  (∀c o,c≠z->c≠m->c≠g->s.heap.get? c=some o->h'.get? c=some o)->Q (.ref s.heap.objs.size) {s with heap:=h'}):
 wpAny (model prog w) A (Builtin.«zip.__next__» ⟨[.ref z],[]⟩) (λfin K=>∃v,fin= .done (.ret v)/\Q v K) E s:=by
 show wpAny _ _ (field (.ref z) 2>>=_) _ _ _;refine Qc (TN p rfl rfl ?_);show wpAny _ _ (field (.ref z) 3>>=_) _ _ _;refine Qc (TN p rfl rfl ?_);refine Qc (jau X rfl ?_);show wpAny _ _ (Builtin.SmallTypes.ownedTupleIsFree (.ref z)>>=_) _ _ _;refine Qc (mV O p λh₁ p₁ hs₁=>?_);simp only [jav,if_false];refine Qc ?_;simp only [List.forIn_toArray,List.forIn_cons,List.forIn_nil];refine Qc (Qc (jar ?_));show wpAny _ _ (Builtin.SmallTypes.nextOf (.ref m)>>=_) _ _ _;refine Qc (ZO (G.extBut hs₁.extBut D.i1z) (Y.extBut hs₁.extBut D.l1z) N λh₂ G₂ hs₂=>Ql ?_);refine Ql (Qc (Qc (jar ?_)));show wpAny _ _ (Builtin.SmallTypes.nextOf (.ref g)>>=_) _ _ _;refine Qc (ZO ((C.extBut hs₁.extBut D.i2z).extBut hs₂.extBut D.i12.symm) ((U.extBut hs₁.extBut D.l2z).extBut hs₂.extBut D.l2i1) M λh₃ C₃ hs₃=>Ql ?_);refine Ql (Ql ?_);refine Qc (wpAny_newTuple (hsz:=by show (2:Nat)<=sizeLine;rw [sizeLine_eq];lia) ?_);have hsz:h₃.objs.size=s.heap.objs.size:=by rw [hs₃.1,hs₂.1,hs₁.1]
 refine Ql ⟨_,rfl,?_⟩;show Q (.ref h₃.objs.size) _;rw [hsz];have up:∀c o,h₃.get? c=some o->(h₃.push {cls:= .type "tuple",data:= .seq #[x,y]}).get? c=some o:=λc o e=>Qi _ e
 refine P _ (up _ _ (hs₃.extBut _ _ D.i2z.symm (hs₂.extBut _ _ D.i1z.symm p₁))) ((G₂.extBut hs₃.extBut D.i12).at λo e=>up _ o e) (C₃.at λo e=>up _ o e) ?_ (by rw [QS,hsz])
  λc o a1 a2 a3 e=>up _ _ (hs₃.extBut _ _ a3 (hs₂.extBut _ _ a2 (hs₁.extBut _ _ a1 e)))
 rw [<-hsz];exact Qu _ rfl
def Fn {u f:Bool} {z TI TO T g t p C:Addr} {r:Nat} {xs:Array Value} {y:Obj} {Q:Fin->Shared->Prop} (I:A.handled=none) (D:ZipApart z TI TO g t p C) (J:s.heap.get? T=some y)
 (m:LX s.heap z TI TO T f) (M:IsPair s.heap TI (.ref g) (.ref t))
 (L:ItB u s.heap g p r) (N:SeB u s.heap p xs) (G:xs[r]? =none)
 (K:∀h' e,(∀c o,c≠z->c≠g->s.heap.get? c=some o->h'.get? c=some o)->(∃o,h'.get? e=some o/\o.cls= .type "StopIteration")->E (.ref e) {s with heap:=h'}):
 wpAny (model prog w) A (Builtin.«zip.__next__» ⟨[.ref z],[]⟩) Q E s:=by
 show wpAny _ _ (field (.ref z) 2>>=_) _ _ _;refine Qc (TN m rfl rfl ?_);show wpAny _ _ (field (.ref z) 3>>=_) _ _ _;refine Qc (TN m rfl rfl ?_);refine Qc (jau M rfl ?_);show wpAny _ _ (Builtin.SmallTypes.ownedTupleIsFree (.ref z)>>=_) _ _ _;refine Qc (mV J m λh₁ m₁ hs₁=>?_);simp only [jav,if_false];refine Qc ?_;simp only [List.forIn_toArray,List.forIn_cons,List.forIn_nil];refine Qc (Qc (jar ?_));show wpAny _ _ (Builtin.SmallTypes.nextOf (.ref g)>>=_) _ _ _;exact Qc (WH I (L.extBut hs₁.extBut D.i1z) (N.extBut hs₁.extBut D.l1z) G λh₂ e hs₂ he=>K h₂ e (λc o a1 a2 q=>hs₂ _ _ a2 (hs₁.extBut _ _ a1 q)) he)
structure ZL (c1 c2:Bool) (N:Nat) (h:Heap) (z TI TO i1 i2 l1 l2:Addr) (xs ys:Array Value) (k:Nat):Prop where
 zip:(IsZip h z TI TO .none/\∃a b,IsPair h TO a b)\/∃T f o,LX h z TI TO T f/\h.get? T=some o/\N<=T
 pair:IsPair h TI (.ref i1) (.ref i2)
 it1:ItB c1 h i1 l1 k
 it2:ItB c2 h i2 l2 k
 s1:SeB c1 h l1 xs
 s2:SeB c2 h l2 ys
 size:h.objs.size=N+k
 made:∀j x y,j<k->xs[j]? =some x->ys[j]? =some y->IsPair h (N+j) x y
def ZL.type {u t:Bool} {N:Nat} {z TI TO r p m g:Addr} {xs ys:Array Value} {k:Nat} (Z:ZL u t N s.heap z TI TO r p m g xs ys k):s.TypeIs (.ref z) "zip":=by
 rcases Z.zip with ⟨q,_⟩|⟨_,_,_,q,_⟩
 ·exact ⟨_,q,rfl⟩
 ·exact ⟨_,q,rfl⟩
def ZL.at {D C:Bool} {N:Nat} {h h':Heap} {z TI TO t p m g S:Addr} {xs ys:Array Value} {k:Nat} (Z:ZL D C N h z TI TO t p m g xs ys k) (e:∀a o,a≠S->h.get? a=some o->h'.get? a=some o)
 (sz:h'.objs.size=h.objs.size) (K:S∉[z,TI,TO,t,p,m,g]) (u:S<N):ZL D C N h' z TI TO t p m g xs ys k:=by
 have ne:∀a∈[z,TI,TO,t,p,m,g],a≠S:=λa ha q=>K (q▸ha);refine ⟨?_,e _ _ (ne _ (by simp)) Z.pair,Z.it1.at λo q=>e _ o (ne _ (by simp)) q,Z.it2.at λo q=>e _ o (ne _ (by simp)) q,Z.s1.at λo q=>e _ o (ne _ (by simp)) q,Z.s2.at λo q=>e _ o (ne _ (by simp)) q,sz.trans Z.size,λj x y J I G=>e _ _ (wu u (Nat.le_add_right _ _)) (Z.made j x y J I G)⟩
 rcases Z.zip with ⟨q,a,b,r⟩|⟨T,f,o,q,r,l⟩
 ·exact .inl ⟨e _ _ (ne _ (by simp)) q,a,b,e _ _ (ne _ (by simp)) r⟩
 ·exact .inr ⟨T,f,o,e _ _ (ne _ (by simp)) q,e _ _ (wu u l) r,l⟩
def JA {L K:Bool} {N:Nat} {z TI TO p m t r:Addr} {xs ys:Array Value} {k:Nat} {Q:Option Value->Shared->Prop} (D:ZipApart z TI TO p m t r) (lt:∀a∈[z,TI,TO,p,m,t,r],a<N)
 (Z:ZL L K N s.heap z TI TO p m t r xs ys k) (hx:k<xs.size) (hy:k<ys.size)
 (hQ:∀h',ZL L K N h' z TI TO p m t r xs ys (k+1)->(∀c o,c≠z->c≠TO->c≠p->c≠m->s.heap.get? c=some o->h'.get? c=some o)->Q (some (.ref (N+k))) {s with heap:=h'}):
 wpAny (model prog w) A (pyNext (.ref z)) Q E s:=by
 have C:=Z.type;have ex:xs[k]? =some xs[k]:=by simp [hx]
 have J:ys[k]? =some ys[k]:=by simp [hy]
 have U:=lt z (by simp);have lTI:=lt TI (by simp);have G:=lt TO (by simp);have X:=lt p (by simp);have Y:=lt m (by simp);have sz:=Z.size;unfold pyNext
 have fin:∀h',(IsZip h' z TI TO .none/\(∃a b,IsPair h' TO a b)\/∃T f o,LX h' z TI TO T f/\h'.get? T=some o/\N<=T)->ItB L h' p t (k+1)->ItB K h' m r (k+1)->IsPair h' s.heap.objs.size xs[k] ys[k]->h'.objs.size=s.heap.objs.size+1->
  (∀c o,c≠z->c≠TO->c≠p->c≠m->s.heap.get? c=some o->h'.get? c=some o)->Q (some (.ref s.heap.objs.size)) {s with heap:=h'}:=λh' z0 a1 a2 a3 a4 g=>by
  rw [sz];refine hQ h' ⟨z0,g _ _ D.TIz D.TITO D.TIi1 D.TIi2 Z.pair,a1,a2,Z.s1.at λo q=>g _ o D.l1z D.l1TO D.l1i1 D.l1i2 q,Z.s2.at λo q=>g _ o D.l2z D.l2TO D.l2i1 D.l2i2 q,by rw [a4,sz];lia,λj x y hj P O=>?_⟩ g
  by_cases e:j=k
  ·subst e;rw [ex] at P;rw [J] at O;cases P;cases O;rw [<-sz];exact a3
  ·exact g _ _ (wu U (Nat.le_add_right _ _)) (wu G (Nat.le_add_right _ _)) (wu X (Nat.le_add_right _ _)) (wu Y (Nat.le_add_right _ _)) (Z.made j x y ⋯ P O)
 rcases Z.zip with ⟨I,a,b,ND⟩|⟨T,f,o,I,u,l⟩
 ·refine Qc (jaD (QY C F.slot_zip_next (Th F.slot_zip_next C F.entry_zip_next
   (mW D I Z.pair ND Z.it1 Z.it2 Z.s1 Z.s2 ex J λh' a1 a2 a3 a4 a5 M g=>Ql ?_) (F.args_zip_next_1 _))))
  exact fin h' (.inr ⟨_,false,_,a1,a5,⋯⟩) a3 a4 a5 M g
 ·refine Qc (jaD (QY C F.slot_zip_next (Th F.slot_zip_next C F.entry_zip_next
   (AO D u I Z.pair Z.it1 Z.it2 Z.s1 Z.s2 ex J λh' a1 a3 a4 a5 M g=>Ql ?_) (F.args_zip_next_1 _))))
  exact fin h' (.inr ⟨T,true,o,a1,g _ _ (wu U l) (wu X l) (wu Y l) u,l⟩) a3 a4 a5 M λc o b1 _ b3 b4 q=>g c o b1 b3 b4 q
def zl_end {O M:Bool} {N:Nat} {z TI TO p m I G:Addr} {xs ys:Array Value} {k:Nat} {Q:Option Value->Shared->Prop} (J:A.handled=none) (D:ZipApart z TI TO p m I G)
 (Z:ZL O M N s.heap z TI TO p m I G xs ys k) (L:xs.size<=k)
 (K:∀h',(∀c o,c≠z->c≠TO->c≠p->c≠m->s.heap.get? c=some o->h'.get? c=some o)->Q none {s with heap:=h'}):
 wpAny (model prog w) A (pyNext (.ref z)) Q E s:=by
 have g:=Z.type;have ex:xs[k]? =none:=by simp [L]
 unfold pyNext
 rcases Z.zip with ⟨r,a,b,X⟩|⟨T,f,o,r,y,l⟩
 ·refine Qc (jaD (QY g F.slot_zip_next (Th F.slot_zip_next g F.entry_zip_next
   (td J D r Z.pair X Z.it1 Z.it2 Z.s1 Z.s2 (.inl ex) λh' e u he=>?_) (F.args_zip_next_1 _))))
  obtain ⟨o,t,C⟩:=he;exact Qc (wpAny_isInstance ⟨o,t,C⟩ isSubtype_stop (Ql (K h' u)))
 ·refine Qc (jaD (QY g F.slot_zip_next (Th F.slot_zip_next g F.entry_zip_next
   (Fn J D y r Z.pair Z.it1 Z.s1 ex λh' e u he=>?_) (F.args_zip_next_1 _))))
  obtain ⟨o,t,C⟩:=he;exact Qc (wpAny_isInstance ⟨o,t,C⟩ isSubtype_stop (Ql (K h' (λc o U _ P _ q=>u c o U P q))))
def Hg {c1 c2:Bool} {R:Result->Shared->Prop} {N:Nat} {z TI TO p m G C S:Addr} {xs ys:Array Value} {res:Value} (hh:A.handled=none) (D:ZipApart z TI TO p m G C) (lt:∀a∈[z,TI,TO,p,m,G,C],a<N)
 (t:S∉[z,TI,TO,p,m,G,C]) (hN:S<N) (same:xs.size<=ys.size) (hn:xs.size<=sizeLine):
 ∀(k i:Nat) (s:Shared) (acc:Array Value) (c:Nat),xs.size - i=k->i<=xs.size->ZL c1 c2 N s.heap z TI TO p m G C xs ys i->s.heap.get? S=some {cls:= .type "list",dict:=none,data:= .seq acc c,slots:=#[]}->
 acc.toList=(List.range i).map (λj=>Value.ref (N+j))->
 (∀h' J T,(∀b o,b∉[S,z,TO,p,m]->s.heap.get? b=some o->h'.get? b=some o)->h'.get? S=some {cls:= .type "list",dict:=none,data:= .seq J T,slots:=#[]}->
  J.toList=(List.range xs.size).map (λj=>Value.ref (N+j))->(∀j x y,xs[j]? =some x->ys[j]? =some y->IsPair h' (N+j) x y)->R (.ok (.ret res)) {s with heap:=h'})->
 codeAny (model prog w) A (.builtin "list.extend.loop" ⟨[.ref S, .ref z,res],[]⟩) R s:=by
 have sz:S≠z:=λe=>t (by simp [e]);have r:S≠TO:=λe=>t (by simp [e]);have s1:S≠p:=λe=>t (by simp [e]);have s2:S≠m:=λe=>t (by simp [e]);have Y:=lt z (by simp);have K:=lt TO (by simp);have SX:=lt p (by simp);have SW:=lt m (by simp);intro k
 induction k with
 |zero=>
  intro i s acc c hk hi Z P I O;have M:i=xs.size:=⋯
  subst M;refine jaY F.entry_extend_loop ?_;rw [jax F.plain_extend_loop _];show wpAny _ A.in1 (pyNext (.ref z)>>=_) _ _ s;refine Qc (zl_end (by simp [hh]) D Z (Qs _) λh' kp=>?_);refine Ql (O h' acc c (λb o g q=>kp b o (λe=>g (by simp [e])) (λe=>g (by simp [e])) (λe=>g (by simp [e])) (λe=>g (by simp [e])) q) (kp _ _ sz r s1 s2 P) I λj x y L hy=>?_)
  have hj:j<xs.size:=by
   rcases Nat.lt_or_ge j xs.size with q|q
   ·exact q
   ·rw [Array.getElem?_eq_none q] at L;cases L
  exact kp _ _ (wu Y (Nat.le_add_right _ _)) (wu K (Nat.le_add_right _ _)) (wu SX (Nat.le_add_right _ _)) (wu SW (Nat.le_add_right _ _)) (Z.made j x y hj L hy)
 |succ k ih=>
  intro i s acc c hk hi Z P I O;have U:i<xs.size:=⋯
  have X:acc.size=i:=by rw [<-TY,I];simp
  refine jaY F.entry_extend_loop ?_;rw [jax F.plain_extend_loop _];show wpAny _ A.in1 (pyNext (.ref z)>>=_) _ _ s;refine Qc (JA D lt Z U (QX U same) λh' Z' kp=>?_);have u:=kp _ _ sz r s1 s2 P;show wpAny _ A.in1 (updateSeq S (·.push (.ref (N+i)))>>=_) _ _ _;refine Qc ?_;have oth:∀b o,b≠S->h'.get? b=some o->(h'.update S (Obj.mapSeq (·.push (.ref (N+i))))).get? b=some o:=λb o g e=>(Tq _ _ (Ne.symm g)).trans e
  refine wpAny_updateSeq u rfl (Ql ⟨plainId_quiet F.plain_extend_loop _,ih (i+1) {s with heap:=h'.update S (Obj.mapSeq (·.push (.ref (N+i))))} (acc.push (.ref (N+i))) _ ⋯ U (Z'.at (λa o ha q=>oth a o ha q) (Ti ..).1 t hN) (TL _ u rfl)
   (by rw [Array.toList_push,I,List.range_succ,Ts];rfl) λh2 J T RG Pr SG made=>?_⟩) (by rw [X];lia) (by show (acc.push (.ref (N+i))).size<=sizeLine+1;rw [Array.size_push,X];lia)
  exact O h2 J T (λb o g q=>RG b o g (oth b o (λe=>g (by simp [e])) (kp b o (λe=>g (by simp [e])) (λe=>g (by simp [e])) (λe=>g (by simp [e])) (λe=>g (by simp [e])) q))) Pr SG made
def vy:typeLookup (.type "zip") "__len__"=pure none:=by rw [typeLookup_type,builtinLookup_eq_fast];kernel_rfl
def qb:typeLookup (.type "zip") "__length_hint__"=pure none:=by rw [typeLookup_type,builtinLookup_eq_fast];kernel_rfl
def ZL.iter {u t:Bool} {N:Nat} {z TI TO r q p m:Addr} {xs ys:Array Value} {k:Nat} {Q:Value->Shared->Prop} (Z:ZL u t N s.heap z TI TO r q p m xs ys k) (h:Q (.ref z) s):wpAny (model prog w) A (pyIter (.ref z)) Q E s:=by
 have g:=Z.type;refine wpAny_pyIter_slot g F.slot_zip_iter (Th F.slot_zip_iter g F.entry_zip_iter ?_ (F.args_zip_iter_1 _));show wpAny _ _ (ret (.ref z)) _ _ s;exact Ql ⟨_,rfl,"zip",_,g,F.slot_zip_next.lookup,h⟩
def my {L K:Bool} {z TI TO r p u t:Addr} {xs ys:Array Value} {Q:Value->Shared->Prop} (hh:A.handled=none) (D:ZipApart z TI TO r p u t) (lt:∀a∈[z,TI,TO,r,p,u,t],a<s.heap.objs.size)
 (same:xs.size<=ys.size) (hn:xs.size<=sizeLine) (hz:IsZip s.heap z TI TO .none) (Of:IsPair s.heap TI (.ref r) (.ref p)) (N:∃a b,IsPair s.heap TO a b) (h1:ItB L s.heap r u 0) (h2:ItB K s.heap p t 0) (Y:SeB L s.heap u xs) (X:SeB K s.heap t ys)
 (hQ:∀h' J M,(∀b o,b∉[z,TO,r,p]->s.heap.get? b=some o->h'.get? b=some o)->h'.get? s.heap.objs.size=some {cls:= .type "list",dict:=none,data:= .seq J M,slots:=#[]}->
  J.toList=(List.range xs.size).map (λj=>Value.ref (s.heap.objs.size+1+j))->(∀j x y,xs[j]? =some x->ys[j]? =some y->IsPair h' (s.heap.objs.size+1+j) x y)->Q (.ref s.heap.objs.size) {s with heap:=h'}):
 wpAny (model prog w) A (call (.type "list") [.ref z]) Q E s:=by
 refine callType_codes (Q₁:=λobj s₁=>obj= .ref s.heap.objs.size/\s₁={s with heap:=s.heap.push {cls:= .type "list",data:= .seq #[]}}) F.called_list (F.typeCall_list_1 _) F.entry_list_init
  (code_list_new _ ⟨rfl,rfl⟩) λobj s₁ h₁=>?_
 obtain ⟨rfl,rfl⟩:=h₁;have m:(s.heap.push {cls:= .type "list",data:= .seq #[]}).get? s.heap.objs.size=some {cls:= .type "list",data:= .seq #[]}:=Qu _ rfl;have up:∀c o,s.heap.get? c=some o->(s.heap.push {cls:= .type "list",data:= .seq #[]}).get? c=some o:=λc o e=>Qi _ e;have g:s.heap.objs.size∉[z,TI,TO,r,p,u,t]:=λq=>jag _ (lt _ q);have Z:s.heap.objs.size≠z:=λe=>g (by simp [e]);obtain ⟨a,b,N⟩:=N
 have Z0:ZL L K (s.heap.objs.size+1) (s.heap.push {cls:= .type "list",data:= .seq #[]}) z TI TO r p u t xs ys 0:=
  ⟨.inl ⟨up _ _ hz,a,b,up _ _ N⟩,up _ _ Of,h1.at λo e=>up _ o e,h2.at λo e=>up _ o e,Y.at λo e=>up _ o e,X.at λo e=>up _ o e,QS ..,λj x y hj=>absurd hj (Nat.not_lt_zero _)⟩
 refine ⟨⟨_,m,rfl⟩,F.args_list_init_2 _ _,?_⟩;show wpAny _ A.in1.in1 (do let old<-Builtin.List.listItems (.ref s.heap.objs.size);Builtin.List.listUpdate (.ref s.heap.objs.size) (λ_=>#[]);letGo old.toList.reverse;Builtin.List.listExtendWith (.ref s.heap.objs.size) (.ref z) .none) _ _ _;refine Qc ?_;unfold Builtin.List.listItems;refine Qc (jau m rfl (Ql ?_));show wpAny _ A.in1.in1 (updateSeq s.heap.objs.size (λ_=>#[])>>=λ_=>letGo (#[]:Array Value).toList.reverse>>=λ_=>Builtin.List.listExtendWith (.ref s.heap.objs.size) (.ref z) .none) _ _ _;refine Qc (wpAny_updateSeq m rfl ?_);have m₂:=TL (Obj.mapSeq (λ_=>(#[]:Array Value))) m rfl;have C:=Z0.at (S:=s.heap.objs.size) (h':=(s.heap.push {cls:= .type "list",data:= .seq #[]}).update s.heap.objs.size (Obj.mapSeq (λ_=>(#[]:Array Value)))) (λa o ha q=>(Tq _ _ (Ne.symm ha)).trans q) (Ti ..).1 g (Te _);have I:∀b o,s.heap.get? b=some o->((s.heap.push {cls:= .type "list",data:= .seq #[]}).update s.heap.objs.size (Obj.mapSeq (λ_=>(#[]:Array Value)))).get? b=some o:=λb o q=>(Tq _ _ (jay (Qt q))).trans (up _ _ q);generalize (s.heap.push {cls:= .type "list",data:= .seq #[]}).update s.heap.objs.size (Obj.mapSeq (λ_=>(#[]:Array Value)))=g1 at m₂ C I⊢;refine Qc (wpAny_letGo ?_);unfold Builtin.List.listExtendWith;refine Qc (wpAny_typeOf (s:={s with heap:=g1}) C.type ?_);have e1:Builtin.List.listSameRef (.ref s.heap.objs.size) (.ref z)=false:=by simp [Builtin.List.listSameRef,Z]
 have e2:(Value.type "zip"==Value.type "list")=false:=by decide
 have e3:(Value.type "zip"==Value.type "tuple")=false:=by decide
 simp only [e1,e2,e3,Bool.or_false,jav,if_false];refine Qc (C.iter (s:={s with heap:=g1}) ?_);refine Qc (jar ?_);unfold Builtin.List.listLengthHint;refine Qc (wpAny_specialOf C.type vy ?_);show wpAny _ A.in1.in1 (specialOf (Value.ref z) (Str.ofString "__length_hint__")>>=_) _ _ _;refine Qc (wpAny_specialOf C.type qb ?_);refine Ql ?_
 show wpAny _ A.in1.in1 (rule "list.extend.makes-room">>=λ_=>Builtin.List.listTouch (.ref s.heap.objs.size)>>=λ_=>
  again (.builtin "list.extend.loop" ⟨[.ref s.heap.objs.size, .ref z, .none],[]⟩)) _ _ _
 refine Qc (jbO ?_);refine Qc ?_;show wpAny _ A.in1.in1 (updateSeq s.heap.objs.size (·.push .none)>>=λ_=>updateSeq s.heap.objs.size (·.pop)) _ _ _;refine Qc (wpAny_updateSeq m₂ rfl ?_);have m₃:=TL (Obj.mapSeq (·.push Value.none)) m₂ rfl;have P:=C.at (S:=s.heap.objs.size) (h':=g1.update s.heap.objs.size (Obj.mapSeq (·.push Value.none))) (λa o ha q=>(Tq _ _ (Ne.symm ha)).trans q) (Ti ..).1 g (Te _);have T:∀b o,s.heap.get? b=some o->(g1.update s.heap.objs.size (Obj.mapSeq (·.push Value.none))).get? b=some o:=λb o q=>(Tq _ _ (jay (Qt q))).trans (I _ _ q);generalize g1.update s.heap.objs.size (Obj.mapSeq (·.push Value.none))=g2 at m₃ P T⊢;refine wpAny_updateSeq m₃ rfl ?_;have m₄:=TL (Obj.mapSeq (·.pop)) m₃ rfl;have O:=P.at (S:=s.heap.objs.size) (h':=g2.update s.heap.objs.size (Obj.mapSeq (·.pop))) (λa o ha q=>(Tq _ _ (Ne.symm ha)).trans q) (Ti ..).1 g (Te _);have G:∀b o,s.heap.get? b=some o->(g2.update s.heap.objs.size (Obj.mapSeq (·.pop))).get? b=some o:=λb o q=>(Tq _ _ (jay (Qt q))).trans (T _ _ q);generalize g2.update s.heap.objs.size (Obj.mapSeq (·.pop))=g3 at m₄ O G⊢;refine Ql ⟨plainId_quiet F.plain_extend_loop _,Hg (by simp [hh]) D (λa ha=>TK (lt a ha)) g (Te _) same hn xs.size 0 {s with heap:=g3} _ _ rfl (jab _) O m₄ rfl λh' J M kp hL Oq made=>?_⟩;refine ⟨rfl,hQ h' J M (λb o hb q=>kp b o (λU=>?_) (G b o q)) hL Oq made⟩
 rcases Qn.mp U with e|e
 ·exact QO (Qt q) e
 ·exact hb e
end
section
def Hq (I:Inv X pins σ H s) (k:∀b u,s.heap.get? b=some u->h'.get? b=some u) (old:∀a,a<s.heap.objs.size->H' a=H a)
 (new:∀a o,s.heap.objs.size<=a->H' a=some o->Yg X.prog X.w H' h' a o):Inv X pins σ H' {s with heap:=h',toks:=t'}:=by
 have g:∀b o,H b=some o->H' b=some o:=λb o e=>by rw [old b (I.hok.lt e)];exact e
 refine I.un ⟨λb u q _ _ _=>k b u q,λb u q _ _ _=>⟨u.slots,k b u q⟩,λb u q n _=>by rw [old b (Qt q)];exact n,λb u q _=>⟨u,k b u q⟩,λb xs e=>g _ _ e,λb o u e=>g _ _ e,λb ps e=>⟨#[],by rw [g _ _ e];simp⟩⟩ λa o e=>?_
 rcases Nat.lt_or_ge a s.heap.objs.size with q|q
 ·rw [old a q] at e;exact (I.hok a o e).stay (λb u _ q=>k b u q) (λ_ q=>g _ _ q) λ_ _ q=>g _ _ q
 ·exact new a o q e
def nn1 (n j:Nat):¬(n+1+j<n):=⋯
def nn2 (n j:Nat):n+1+j≠n:=⋯
def nn3 (n j:Nat):n+1+j - (n+1)=j:=⋯
def nn4 (h:n<a):∃j,a=n+1+j:=⟨a - (n+1),⋯⟩
def HN:bootBuiltins "list"=some (.type "list"):=by decide+kernel
def rLZip (m g:Bool) (K:Frg):List V->Hp->VK->Prop:=λvs H1 Q=>∃(a1 a2:Addr) (xs ys:List V),vs=[.ref a1, .ref a2]/\SqB m K H1 a1 xs/\SqB g K H1 a2 ys/\xs.length<=ys.length/\
 ∀(M:Nat) (H':Hp),(∀a,M<=a->H1 a=none)->(∀a,a<M->H' a=H1 a)->H' M=some (.lst ((List.range xs.length).map λj=>V.ref (M+1+j)))->(∀j x y,xs[j]? =some x->ys[j]? =some y->H' (M+1+j)=some (.tup [x,y]))->Q (.ref M) H'
def tLZip (p m:Bool) (K:Frg) (g:TA):TE:=λσ H Q=>g σ H λvs H1=>rLZip p m K vs H1 Q
theorem mZ (M:Nat):∀l:List Nat,xi (l.map λj=>V.ref (M+j)) (l.map λj=>Value.ref (M+j))
 |[]=> .nil
 |_::l=> .cons rfl (mZ M l)
def pe_lzip (c1 c2:Bool) {a b:Expr} {U:TA} {u g w t:Pos} (A:X.calm=true) (g1:Gl X "list") (m1:X.mg "list"=none) (g2:Gl X "zip") (m2:X.mg "zip"=none) (ha:PA X [a,b] U)
 (RT:starEach [.Call (.Name "zip" g) [a,b] [] t] X.env=[(false,eval (.Call (.Name "zip" g) [a,b] [] t) X.env)]:=by rfl) (hs:starEach [a,b] X.env=[(false,eval a X.env),(false,eval b X.env)]:=by rfl) (OL:starEach [b] X.env=[(false,eval b X.env)]:=by rfl):
 PE X (.Call (.Name "list" u) [.Call (.Name "zip" g) [a,b] [] t] [] w) (tLZip c1 c2 X.K U):=by
 intro pins s σ H Q I h;refine jan (XU I g1 m1 HN ?_ nofun nofun);refine Tn ?_ RT (by rfl);rw [RT];show wpAny _ _ (spliced ((false,eval (.Call (.Name "zip" g) [a,b] [] t) X.env)::backTo w (starEach [] X.env))) _ _ s;refine Calls.spliced_cons ?_;refine jan (XU I g2 m2 Jf ?_ nofun nofun);refine Tn (thn (ha t pins s σ H _ I h) ?_) (by rw [hs,OL]) (by rw [OL];rfl);rintro us s1 ⟨vs,H1,r,r1,w⟩;obtain ⟨Z,Y,xs,ys,e,Po,PF,same,q⟩:=w;subst e;obtain ⟨u1,u2,rfl,RY,RX⟩:=Fx r1;cases (show u1=Value.ref Z from RY);cases (show u2=Value.ref Y from RX);obtain ⟨Pm,Ra,u,few⟩:=seB r Po;obtain ⟨OK,PZ,g,_⟩:=seB r PF;have SV:Z<s1.heap.objs.size:=by obtain ⟨o,z⟩:=u.obj;exact Qt z
 have SU:Y<s1.heap.objs.size:=by obtain ⟨o,z⟩:=g.obj;exact Qt z
 have G:=Ra.length;have le2:=PZ.length;have quiet:=r.ok.hd A;refine pf u g λh' a1 a2 a3 a4 a5 m=>?_;have n1:s1.heap.objs.size+4<h'.objs.size:=Qt a1;have L:∀k:Nat,k<=4->s1.heap.objs.size+k<h'.objs.size:=λk m=>Nat.lt_of_le_of_lt (Nat.add_le_add_left m _) n1;refine Calls.spliced_nil ?_;refine my quiet (zipApart_new SV SU) (λc A=>?_) (by simp;lia) (by simp;lia) a1 a2 ⟨_,_,a3⟩ a4 a5 (u.at λo e=>m _ o e) (g.at λo e=>m _ o e) λh3 acc c kp hL Oq made=>?_
 ·show c<h'.objs.size;simp only [Qn,Qm,or_false] at A
  rcases A with z|z|z|z|z|z|z<;>rw [z]
  ·exact L 4 nofun
  ·exact L 2 nofun
  ·exact L 3 nofun
  ·exact L 0 nofun
  ·exact L 1 nofun
  ·exact Nat.lt_trans SV (L 0 nofun)
  ·exact Nat.lt_trans SU (L 0 nofun)
 ·have I2:Inv X pins σ H1 {s1 with heap:=h'}:=r.kept m;have fr:∀a,h'.objs.size<=a->H1 a=none:=λa ha=>I2.hok.fresh ha
  let H':Hp:=λa=>if a<h'.objs.size then H1 a else if a=h'.objs.size then some (.lst ((List.range xs.length).map λj=>V.ref (h'.objs.size+1+j))) else ((xs.zip ys)[a - (h'.objs.size+1)]?).map λp=> .tup [p.1,p.2]
  have hM:H' h'.objs.size=some (.lst ((List.range xs.length).map λj=>V.ref (h'.objs.size+1+j))):=by simp [H']
  have old:∀a,a<h'.objs.size->H' a=H1 a:=λa ha=>by simp [H',ha]
  have tup:∀j,H' (h'.objs.size+1+j)=((xs.zip ys)[j]?).map λp=> .tup [p.1,p.2]:=λj=>by
   simp only [H'];rw [QI (nn1 _ _),QI (nn2 _ _),nn3]
  refine ⟨.ref h'.objs.size,H',?_,rfl,q _ H' fr old hM λj x y M J=>by rw [tup,(Tj (z:=(x,y))).mpr ⟨M,J⟩];rfl⟩
  have keep:∀b o,s1.heap.get? b=some o->h3.get? b=some o:=λb o e=>kp b o (λz=>by
   have:=Qt e;simp only [Qn,Qm,or_false] at z
   rcases z with z|z|z|z<;>rw [z] at this
   ·exact absurd this (Nat.not_lt.mpr (Nat.le_add_right _ 4))
   ·exact absurd this (Nat.not_lt.mpr (Nat.le_add_right _ 3))
   ·exact absurd this (jag _)
   ·exact absurd this (Nat.not_lt.mpr (Nat.le_add_right _ 1))) (m b o e)
  refine Hq (s:=s1) (t':=s1.toks) r keep (λa ha=>old a (Nat.lt_trans ha (L 0 nofun))) λa o ha e=>?_
  rcases Nat.lt_trichotomy a h'.objs.size with z|z|z
  ·rw [old a z,r.hok.fresh ha] at e;cases e
  ·rw [z,hM] at e;cases e;refine ⟨by simp;lia,(List.range xs.length).map (λj=>Value.ref (h'.objs.size+1+j)),c,mZ _ _,?_⟩;rw [z,hL,<-show (List.range Pm.toArray.size).map (λj=>Value.ref (h'.objs.size+1+j))=(List.range xs.length).map (λj=>Value.ref (h'.objs.size+1+j)) by simp [G],<-Oq]
  ·obtain ⟨j,rfl⟩:=nn4 z;rw [tup] at e;obtain ⟨⟨x,y⟩,e1,e2⟩:=Option.map_eq_some_iff.mp e;obtain ⟨M,J⟩:=Tj.mp e1;obtain ⟨T,O,D⟩:=Ra.get M;obtain ⟨P,N,C⟩:=PZ.get J;cases e2;exact ⟨dI,[T,P], .cons D (.cons C .nil),⟨_,made j T P ‹O› ‹N›,rfl,_,rfl⟩⟩
end
def kLZip (m g:Bool) (K:Frg) (Q:VK):List V->Hp->Prop:=λvs H1=>rLZip m g K vs H1 Q
def rd_lz {p m:Bool} {K:Frg} {g:TA} {σ:L2.St} {H:Hp} {Q:VK} (h:g σ H (kLZip p m K Q)):tLZip p m K g σ H Q:=h
theorem IV (e:zG G G'):∀(p m:List PyData) (xs ys:List V) (off:Nat),zC G p xs->zC G m ys->p.length=m.length->(∀j x y,xs[j]? =some x->ys[j]? =some y->G' (off+j)=some (.tup [x,y]))->
 zC G' (qc p m) ((List.range xs.length).map λj=>V.ref (off+j))
 |[],m,xs,ys,off,g,s,_,_=>by
  rw [zC] at g;subst g;simp [qc,zC]
 |d1::p,[],xs,ys,off,_,_,hl,_=>by simp at hl
 |d1::p,d2::m,xs,ys,off,g,s,hl,k=>by
  rw [zC] at g s;obtain ⟨x,xs,rfl,u,g⟩:=g;obtain ⟨y,ys,rfl,t,s⟩:=s;have r:=IV e p m xs ys (off+1) g s ‹hl› λj a b ha w=>by rw [Nat.add_right_comm];exact k (j+1) a b ‹ha› ‹w›
  have z:=k 0 x y (by simp) (by simp);show zC G' (.tuple [d1,d2]::qc p m) _;rw [QE,List.range_succ_eq_map,Qj,Qo,zC];refine ⟨_,_,rfl,?_,?_⟩
  ·rw [Is];refine ⟨_,_,rfl,z,?_⟩;rw [zC];refine ⟨_,_,rfl,Is.mono e _ _ u,?_⟩;rw [zC];refine ⟨_,_,rfl,Is.mono e _ _ t,?_⟩;rw [zC]
  ·have q:((λj=>V.ref (off+j))∘Nat.succ)=λj=>V.ref (off+1+j):=funext λj=>by show V.ref (off+(j+1))=_;rw [Nat.add_right_comm];rfl
   rw [q];exact r
def Kk {B N H:Hp} {cs:yN} {ds:Dat} {K:Frg} {Q:VK} {v w:V} {xs ys:List PyData} (S:Sta B N H cs ds) (Z:Has ds (.list xs) v) (Y:Has ds (.tuple ys) w) (L:xs.length=ys.length)
 (k:∀r H',zG H H'->Sta B N H' cs ((.list (qc xs ys),r)::ds)->Q r H'):kLZip true false K Q [v,w] H:=by
 obtain ⟨G,a,b,c,d,e,f,g⟩:=S;have J:=Z G g;have I:=Y G g;rw [Is] at J;rw [Is] at I;obtain ⟨P,us,rfl,e1,D⟩:=J;obtain ⟨O,ws,rfl,e2,C⟩:=I;refine ⟨P,O,us,ws,rfl, .inl (.inl (b _ _ e1)), .inl (.inl (b _ _ e2)),by rw [<-D.len,<-C.len,L];exact Qs _,λM H' fr old X ht=>?_⟩
 have lt:∀p o,H p=some o->p<M:=λp o q=>by
  rcases Nat.lt_or_ge p M with z|z
  ·exact z
  ·rw [fr p z] at q;cases q
 have u:zG H H':=λp o q=>by rw [old p (lt p o q)];exact q
 let m:Hp:=λa=>if a<M then G a else H' a
 have s:∀p,p<M->m p=G p:=λp z=>by simp [m,z]
 have t:∀p,M<=p->m p=H' p:=λp z=>by simp [m,Nat.not_lt.mpr z]
 have A:zG G m:=λp o q=>by rw [s p (lt p o (b _ _ q))];exact q
 have sub:zG m H':=λp o q=>by
  rcases Nat.lt_or_ge p M with z|z
  ·rw [s p z] at q;rw [old p z];exact b _ _ q
  ·rw [t p z] at q;exact q
 have gr:Grow G H m H':=⟨u,A,sub,λp hp=>by
  cases q:H p with
  |none=>exact absurd q hp
  |some o=>exact s p (lt p o q)⟩
 refine k _ H' u ?_;obtain ⟨a',b',c',d',e',f',g'⟩:=Jo.grow ⟨a,b,c,d,e,f,g⟩ gr;refine ⟨m,a',b',c',d',e',f',g'.cons ?_⟩;rw [Is];exact ⟨M,_,rfl,(t M (Qs _)).trans X,IV A xs ys us ws (M+1) D C L λj x y U T=>(t _ ⋯).trans (ht j x y U T)⟩
theorem DJ (i:Int):∀ns:List Int,inV (.int i) (ns.map V.int)=decide (i∈ns)
 |[]=>by simp [inV]
 |n::ns=>by
  have r:=DJ i ns;unfold inV at r⊢;rw [Qj,List.any_cons,r,show eqV (.int n) (.int i)=(n==i) from rfl]
  by_cases e:i=n
  ·subst e;simp
  ·have:(n==i)=false:=by simpa using λz=>e z.symm
   simp [this,e]
def IG {B m H:Hp} {cs:yN} {ds:Dat} {K:Frg} {Q:VK} {v:V} {ns:List Int} {i:Int} {neg:Bool} (S:Sta B m H cs ds) (h:Has ds (.list (ns.map PyData.int)) v)
 (k:Q (.bl (if neg then !decide (i∈ns) else decide (i∈ns))) H):rIn K neg (.int i) v H Q:=by
 have z:=S.hp h;rw [Is] at z;obtain ⟨p,vs,rfl,e,a⟩:=z;cases yv a;refine ⟨p,_,rfl, .inl (.inl (.inl e)),rfl,?_,?_⟩
 ·rw [TH];intro x g;obtain ⟨n,_,rfl⟩:=Qk.mp g;rfl
 ·rw [DJ];exact k
def Ik (n:Int) (ps:List Int):Prop:=∀p∈ps,0<=p/\p<n
def Ful.parts (h:Ful m T as P) (h0:0<=e):∀q∈zg P e,0<=q/\q<=T:=by
 have nn:∀q∈zg P e,0<=q:=λq g=>by
  obtain ⟨i,t,rfl⟩:=QK g;have ln:=h.std.len (e:=e);have z:=h.std.zero;have pm:=h.pm;obtain ⟨r,p⟩:=h.std.cons;rw [p] at pm;have mo:=Uc h0 pm Tg;rw [<-p,z] at mo;exact mo i 0 _ (by rw [Tt,QD ⋯]) (Qa t)
 obtain ⟨_,le⟩:=Zh nn;have s:=h.std.sum h0;have m1:mn e T<=T:=by unfold mn;split<;>grind
 intro q g;have:=le q g;exact ⟨nn q g,by grind⟩
section
def RuS.dens (h:RuS t r) (ok:ClS t l) (he:DQ de e):∀q∈zg (zJ r l) e,DQ (de+4*XZ t r+t) q:=by
 have g:=(h.gf ok).ful;have u:=Uj h.pok ok.n1 ok.sum;refine jw (m:=0) (T:=(amV l).sum) he ok.sum g.std.rise (λc s=>?_) u;have p:=g.std.range s;rw [Zj] at p;exact p
def RuS.part (h:RuS t r) (ok:ClS t l) (he:DQ de e) (h0:0<=e):∀q∈zg (zJ r l) e,0<=q/\SzQ (de+4*XZ t r+2*t+2) q:=λq g=>by
 have p:=(h.gf ok).ful.parts h0 q g;rw [Zj] at p;exact ⟨p.1,((h.dens ok he q g).sz p.1 p.2 (bV (ZH ok.n1)) ok.sum).mono ⋯⟩
end
def yS (n:Nat) (ps:List Int):List Nat:=(List.range n).filter λ(i:Nat)=>!decide ((i:Int)∈ps)
def df {α:Type} (d:α) (l:List α) (ps:List Int):(zK d (yS l.length ps) l).Sublist l:=by
 have h:((List.range l.length).map λi=>l.getD i d)=l:=by
  have:=zv (λx:α=>x) d l
  simpa using this
 have:=(List.filter_sublist (p:=λ(i:Nat)=>!decide ((i:Int)∈ps)) (l:=List.range l.length)).map λi=>l.getD i d;rw [h] at this;exact this
def Bi (h:a.Sublist b):(∀c∈b,0<=c.1)->(amV a).sum<=(amV b).sum:=by
 induction h with
 |slnil=>intro _;exact jbQ _
 |cons x h g=>
  intro nn;have:=g λc m=>nn c (Qe _ m);have:=nn x (Qg ..);show _<=x.1+(amV _).sum;lia
 |cons_cons x h g=>
  intro nn;have:=g λc m=>nn c (Qe _ m);show x.1+(amV _).sum<=x.1+(amV _).sum;lia
def ClS.stay (h:ClS t l) (ne:yS l.length ps≠[]):ClS t (zK (0,0,0) (yS l.length ps) l):=by
 have s:=df (0,0,0) l ps;refine ⟨?_,QP s.length_le h.few,λc g=>h.nn c (s.subset g),jaH (Bi s λc g=>(h.nn c g).1) h.sum⟩;rw [xl];exact jbb.mpr ne
noncomputable def ft (r:Rl) (l:List Cl) (e:Rat) (ps:List Int):Rat:=zu (zK 0 (yS l.length ps) (zg (zJ r l) e))
def Dt (h:RuS t r) (ok:ClS t l) (h0:0<=e):0<=ft r l e ps:=by
 have g:=(h.gf ok).ful;have s:=df 0 (zg (zJ r l) e) ps;rw [g.std.len] at s;exact (Zh λq m=>(g.parts h0 q (s.subset m)).1).1
theorem Bf:∀{v:List Rat},(∀q∈v,DQ d q)->DQ (v.length*d) (zu v)
 |[],_=>by rw [zu];exact DQ.zero.mono ⋯
 |x::v,h=>by
  rw [zu];exact ((h x (Qg ..)).add (Bf λq g=>h q (Qe _ g))).mono (by rw [QE,Nat.succ_mul];lia)
theorem DX {α:Type} (p:α->Bool):∀Z:List α,(Z.filter p).length+(Z.filter λz=>!p z).length=Z.length
 |[]=>rfl
 |z::Z=>by
  have:=DX p Z;rw [jaN,jaN];cases p z<;>simp<;>lia
section
def jB (h:RuS t r) (ok:ClS t l) (h0:0<=e):∃v:List Rat,v.length+(yS l.length ps).length=l.length/\(∀q∈v,q∈zg (zJ r l) e)/\ft r l e ps+zu v=mn e ((amV l).sum:Rat):=by
 have g:=(h.gf ok).ful;have ln:=g.std.len (e:=e);have m:=g.std.sum h0;rw [Zj] at m
 let p:Nat->Bool:=λi=>!decide ((i:Int)∈ps)
 refine ⟨zK 0 ((List.range l.length).filter λi=>!p i) (zg (zJ r l) e),?_,λq w=>?_,?_⟩
 ·rw [xl];have:=DX p (List.range l.length);rw [jah] at this;show _+((List.range l.length).filter p).length=_;lia
 ·obtain ⟨i,z,rfl⟩:=Qk.mp w;have A:=jbg.mp (Tc.mp z).1;rw [Qq,Qa ⋯];exact Ta _
 ·have s:=smsp (f:=λi=>(zg (zJ r l) e).getD i 0) p (Z:=List.range l.length);have u:=zv (λy:Rat=>y) 0 (zg (zJ r l) e);rw [ln,List.map_id'] at u;rw [u,m] at s;exact s.symm
def Ln (h:RuS t r) (ok:ClS t l) (h0:0<=e):ft r l e ps<=((amV l).sum:Rat):=by
 obtain ⟨v,_,m,s⟩:=jB (ps:=ps) h ok h0;have g:=(h.gf ok).ful;have nn:=(Zh λq p=>(g.parts h0 q (m q p)).1).1;have:mn e ((amV l).sum:Rat)<=((amV l).sum:Rat):=by unfold mn;split<;>grind
 grind
def Lo (h:RuS t r) (ok:ClS t l) (h0:0<=e) (he:DQ de e) (few:l.length<=6):DQ (3*(de+4*XZ t r+t)) (ft r l e ps):=by
 obtain ⟨v,z,p,s⟩:=jB (ps:=ps) h ok h0;have m:=h.dens ok he;have sb:=df 0 (zg (zJ r l) e) ps;rw [(h.gf ok).ful.std.len] at sb
 by_cases c:(yS l.length ps).length<=3
 ·refine (Bf λq g=>m q (sb.subset g)).mono ?_;rw [xl];exact Nat.mul_le_mul_right _ c
 ·have y:DQ de (mn e ((amV l).sum:Rat)):=by
   unfold mn
   split
   ·exact he
   ·exact (DQ.int _).mono ⋯
  have w:=Bf λq g=>m q (p q g);have u:ft r l e ps=mn e ((amV l).sum:Rat) - zu v:=by grind
  rw [u];refine (y.sub w).mono ?_;have:=Nat.mul_le_mul_right (de+4*XZ t r+t) (show v.length<=2 by lia);lia
def Lm (h:RuS t r) (ok:ClS t l) (h0:0<=e) (he:DQ de e) (few:l.length<=6):SzQ (t+3*(de+4*XZ t r+t)+2) (ft r l e ps):=
 (Lo h ok h0 he few).sz (Dt h ok h0) (Ln h ok h0) (bV (ZH ok.n1)) ok.sum
end
section
def Br:Sp:=spT (α:=List Rat) (λps=>[.list (ps.map frD)]) (λps=>(∃n,(∀p∈ps,SzQ n p)/\n<=4499)/\ps.length<=8) (λps=>frD (zu ps))
def JI:Sp:=λvs H Q _=>∃(ps:List Int) (n:Int),zC H [xu ps, .int n] vs/\Ik n ps/\∀H',zG H H'->Q .non H'
def rd_pl0 (S:Sta B G0 H cs ds) (h:Has ds (xu ps) v) (g:Ik m ps) (k:∀H',zG H H'->Sta B G0 H' cs ds->Q .non H'):JI [v, .int m] H Q E:=⟨ps,m,S.hpAll (.cons h (.cons .int .nil)),g,λH' e=>k H' e (S.same e)⟩
noncomputable def Up (A:RAd) (t n:Nat):Sp:=spT (α:=Rl×List Cl×Rat) (λa=>[a.1.ins A,zj a.2.1,frD a.2.2]) (λa=>((RuS t a.1/\a.1.deep<=n)/\ClS t a.2.1)/\SzQ 6800 a.2.2/\0<=a.2.2) (λa=>zS (zg (zJ a.1 a.2.1) a.2.2))
def Uz (S:Sta B G0 H cs ds) (q:Has ds (r.ins A) v) (h:Has ds (zj l) w) (m:Has ds (frD e) u) (ru:RuS t r) (hn:r.deep<=n) (ok:ClS t l) (g:SzQ 6800 e) (e0:0<=e) (k:∀p H',zG H H'->Sta B G0 H' cs ((zS (zg (zJ r l) e),p)::ds)->Q p H'):Up A t n [v,w,u] H Q E:=Zq (r,l,e) S (.cons q (.cons h (.cons m .nil))) ⟨⟨⟨ru,hn⟩,ok⟩,g,e0⟩ k
noncomputable def vE (r:Rl) (l:List Cl) (e:Rat) (ps:List Int):List PyData:=qc ((yS l.length ps).map λ(j:Nat)=>PyData.int (j:Int)) ((zg (zJ r (zK (0,0,0) (yS l.length ps) l)) (ft r l e ps)).map frD)
structure StOk (t n:Nat) (r:Rl) (l:List Cl) (e:Rat) (ps:List Int):Prop where
 ru:RuS t r
 deep:r.deep<=n
 cl:ClS t l
 e0:0<=e
 ez:SzQ 300 e
 good:Ik (l.length:Nat) ps
 left:SzQ 6800 (ft r l e ps)
 part:∀q∈zg (zJ r l) e,SzQ 4499 q
noncomputable def Bs (A:RAd) (t n:Nat):Sp:=spT (α:=Rl×List Cl×Rat×List Int) (λa=>[a.1.ins A,zj a.2.1,frD a.2.2.1,xu a.2.2.2]) (λa=>StOk t n a.1 a.2.1 a.2.2.1 a.2.2.2) (λa=> .list (vE a.1 a.2.1 a.2.2.1 a.2.2.2))
def JZ (S:Sta B G0 H cs ds) (s:Has ds (r.ins A) v) (q:Has ds (zj l) w) (m:Has ds (frD e) u) (g:Has ds (xu ps) x) (ok:StOk t n r l e ps) (k:∀p H',zG H H'->Sta B G0 H' cs ((.list (vE r l e ps),p)::ds)->Q p H'):Bs A t n [v,w,u,x] H Q E:=Zq (r,l,e,ps) S (.cons s (.cons q (.cons m (.cons g .nil)))) ok k
noncomputable def cU (t:Nat):Sp:=spB (α:=Rl×List Cl×Rat) (λa=>[a.1.shape,zj a.2.1,frD a.2.2,zS (zg (zJ a.1 a.2.1) a.2.2)]) (λa=>((RuS t a.1/\Vr a.1<=12)/\ClS t a.2.1)/\SzQ 6800 a.2.2/\0<=a.2.2/\∀p∈zg (zJ a.1 a.2.1) a.2.2,SzQ 8900 p) (λ_=> .bl true)
def nU (S:Sta B G0 H cs ds) (A:Has ds r.shape u) (y:Has ds (zj l) v) (t:Has ds (frD e) w) (s:Has ds (zS (zg (zJ r l) e)) z) (ru:RuS m r) (hd:Vr r<=12) (ok:ClS m l) (q:SzQ 6800 e) (e0:0<=e) (g:∀p∈zg (zJ r l) e,SzQ 8900 p) (k:∀H',zG H H'->Sta B G0 H' cs ds->Q (.bl true) H'):cU m [u,v,w,z] H Q E:=Wx (r,l,e) (S.hpAll (.cons A (.cons y (.cons t (.cons s .nil))))) ⟨⟨⟨ru,hd⟩,ok⟩,q,e0,g⟩ λH' e=>k H' e (S.same e)
end
def PSG (g:Bool) (r:Rl):Prop:=PS6 r/\(g=false->NG r)
def LB (n:Nat):NG (ma n):=by
 match n with
 |0=>exact trivial
 |1=>exact trivial
 |2=>exact trivial
 |n+3=>exact trivial
section
variable {B G0 H:Hp} {cs:yN} {ds:Dat} {Q:VK} {v w:V}
def DrG (g:Bool) (r:Rl):Prop:=Drn r/\(g=false->NG r)
def tK:Sp:=λvs H Q _=>∃(G:Hp) (ns:List Int) (g:Bool) (v:V),vs=[v, .bl g]/\zG G H/\Is G (xu ns) v/\ns.length<=6/\∀w H' G' (r:Rl),Grow G H G' H'->Is G' r.shape w->DrG g r->Q w H'
def Cb (S:Sta B G0 H cs ds) (h:Has ds (xu ns) v) (p:ns.length<=6) (k:∀w H' (r:Rl),DrG g r->zG H H'->Sta B G0 H' cs ((r.shape,w)::ds)->Q w H'):tK [v, .bl g] H Q E:=by
 obtain ⟨G,S⟩:=S;refine ⟨G,ns,g,v,rfl,S.2.1,h G S.2.2.2.2.2.2,p,λw H' z r gr m good=>k w H' r good gr.h ?_⟩;obtain ⟨y,u,t,d',s,q,g'⟩:=S.grow gr;exact ⟨z,y,u,t,d',s,q,g'.cons m⟩
def jn (S:Sta H G H' cs ds) (k:∀w H' m (r:Rl),Grow G H m H'->Is m r.shape w->DrG g r->Q w H') (h:Has ds r.shape w) (p:DrG g r):Q w H':=
 Zo S (λv H' m a b=>k v H' m r a b p) h
def kq:Sp:=λvs H Q _=>∃(G:Hp) (g c:Int),vs=[.int g, .int c]/\zG G H/\(0<=g/\Sz 180 g)/\∀v H' G' (e:Rat),Grow G H G' H'->Is G' (frD e) v->(0<=e/\SzQ 300 e)/\DQ 40 e->Q v H'
def Cd (S:Sta B G0 H cs ds) (m:0<=wh/\Sz 180 wh) (k:∀v H' (e:Rat),(0<=e/\SzQ 300 e)/\DQ 40 e->zG H H'->Sta B G0 H' cs ((frD e,v)::ds)->Q v H'):kq [.int wh, .int c] H Q E:=by
 obtain ⟨G,S⟩:=S;refine ⟨G,wh,c,rfl,S.2.1,m,λv H' u e gr g good=>k v H' e good gr.h ?_⟩;obtain ⟨t,s,r,d',q,p,g'⟩:=S.grow gr;exact ⟨u,t,s,r,d',q,p,g'.cons g⟩
def eN (S:Sta H G H' cs ds) (k:∀v H' g (e:Rat),Grow G H g H'->Is g (frD e) v->(0<=e/\SzQ 300 e)/\DQ 40 e->Q v H') (h:Has ds (frD e) v) (m:0<=e/\SzQ 300 e) (hd:DQ 40 e):Q v H':=
 Zo S (λv H' g a b=>k v H' g e a b ⟨m,hd⟩) h
def uK (m:0<j) (g:j<=2 ^ 40):DQ 40 (Rat.divInt i j):=by
 refine ⟨j,⟨m,g⟩,i,?_⟩;rw [Rat.divInt_eq_div];exact Rat.div_mul_cancel λz=>absurd (Rat.intCast_eq_zero_iff.mp z) ⋯
end
structure FitD (n:Nat) (r:Rl) (l:List Cl) (tk:List Int):Prop where
 pok:POk r
 dep:Vr r<=n
 hn:n<=20
 few:l.length<=8
 sz:∀x∈amV l,Sz (100000 - 300*n) x
 len:tk.length=l.length
 szt:∀x∈tk,Sz (100000 - 300*n) x
section
def AY (g:Sz k z) (h:∀x∈tk,Sz m x):∀x∈yq z tk,Sz (k+m) x:=λx q=>by
 obtain ⟨p,hp,rfl⟩:=Qk.mp q;exact g.mul (h p hp)
def uk (h:q∈xc am tk):∃(i:Nat) (a p:Int),am[i]? =some a/\tk[i]? =some p/\q=a - p:=by
 obtain ⟨i,g,e⟩:=QK h;unfold xc at g e;rw [Qy] at g;rw [QV] at e;exact ⟨i,_,_,Qa ⋯,Qa ⋯,e.symm⟩
def Gg (h:∀x∈tk,Sz m x) (hp:∀i∈pl,i<tk.length):∀x∈zK 0 pl tk,Sz m x:=λx g=>by
 obtain ⟨i,p,rfl⟩:=Qk.mp g;have e:=Qa (hp i p);rw [zA e];exact h _ (Qd e)
def FitD.other (h:FitD (n+1) (.other r) l tk) (g:InB (amV l) tk):FitD n r l (xc (amV l) tk):=
 ⟨h.pok,by have:=h.dep;simp only [Vr] at this;lia,by have:=h.hn;lia,h.few,λx m=>(h.sz x m).mono ⋯,lP h.len,λq s=>by
  obtain ⟨i,a,p,ha,hp,rfl⟩:=uk s;have:=g.2 i a p ha hp
  exact (cv ⋯ ⋯ (h.sz a (Qd ha))).mono ⋯⟩
def FitD.halves (h:FitD (n+1) .halves l tk):FitD n (.upto 1 2 .evenly .losses) l tk:=
 ⟨⟨port12,trivial,trivial⟩,by have:=h.dep;simp only [Vr] at this⊢;lia,by have:=h.hn;lia,h.few,λx g=>(h.sz x g).mono ⋯,h.len,λx g=>(h.szt x g).mono ⋯⟩
def FitD.first (h:FitD (n+1) (.upto t b x y) l tk):FitD n x (zN t l) (yq b tk):=by
 have p:=h.pok.1;have d:=h.dep;simp only [Vr] at d;have hn:=h.hn;exact ⟨h.pok.2.1,⋯,⋯,by rw [yQ];exact h.few,λx g=>by rw [xr] at g;exact (AY p.1.1 h.sz x g).mono ⋯,by rw [xt,yQ];exact h.len,λx g=>(AY p.1.2 h.szt x g).mono ⋯⟩
def FitD.rest (h:FitD (n+1) (.upto t b x y) l tk):FitD n y (zN (b - t) l) (xc (yq b tk) (amV (zN t l))):=by
 have p:=h.pok.1;have d:=h.dep;simp only [Vr] at d;have hn:=h.hn;have r:Sz 211 (b - t):=p.1.2.sub p.1.1;refine ⟨h.pok.2.2,⋯,⋯,by rw [yQ];exact h.few,λx g=>by rw [xr] at g;exact (AY r h.sz x g).mono ⋯,?_,λq m=>?_⟩
 ·rw [xr,yQ,YW (by rw [xt,xt,zQ,h.len]),xt];exact h.len
 ·rw [xr] at m;obtain ⟨i,a,c,ha,s,rfl⟩:=uk m;exact ((AY p.1.2 h.szt a (Qd ha)).sub (AY p.1.1 h.sz c (Qd s))).mono ⋯
def FitD.ranks (h:FitD (n+1) (.ranks r) l tk) (k:Int):FitD n r (l.filter (zE k)) (zK 0 (yb (zE k) l) tk):=
 ⟨h.pok,by have:=h.dep;simp only [Vr] at this;lia,by have:=h.hn;lia,QP (jbA _ _) h.few,λx g=>(h.sz x (EF _ g)).mono ⋯,by rw [xl,Ub],λx g=>(Gg h.szt (λi m=>by rw [h.len];exact (XT _ l).lt i m) x g).mono ⋯⟩
def InB.of (g:tk.length=l.length) (h:∀(i:Nat) (a p:Int),i<(amV l).length->(amV l)[i]? =some a->tk[i]? =some p->0<=p/\p<=a):InB (amV l) tk:=⟨by rw [zQ];exact g,λi a p ha hp=>h i a p (Qf.mp ha).1 ha hp⟩
def LF (m:0<b) (g:InB (amV l) tk):aW (.upto t b x y) l tk=if (yq b tk).sum<=(amV (zN t l)).sum then aW x (zN t l) (yq b tk) else aW y (zN (b - t) l) (xc (yq b tk) (amV (zN t l))):=by
 refine Uh ((LD m g).trans ?_)
 split<;>exact UJ.symm
def HH (g:InB (amV l) tk):aW (.other r) l tk=aW r l (xc (amV l) tk):=Uh ((HF g).trans UJ.symm)
def Ef:aW .halves l tk=aW (.upto 1 2 .evenly .losses) l tk:=Uh (Eb.trans UJ.symm)
def HG (g:InB (amV l) tk):aW (.ranks r) l tk=rkB r l tk true (zI l):=Uh (HE g)
def Ed (g:InB (amV l) tk):aW .shares l tk=decide (tk.map (·*(amV l).sum)=(amV l).map (·*tk.sum)):=Uh ((DZ g).trans decide_eq_true_iff.symm)
def fb_not (h:¬FitG r l tk):aW r l tk=false:=Bool.eq_false_iff.mpr λz=>h (UJ.mp z)
noncomputable def evB (am tk:List Int):Bool:=@decide (WX am tk) (Classical.propDecidable _)
def HI:evB am tk=true↔WX am tk:=by
 unfold evB;exact @decide_eq_true_iff _ (Classical.propDecidable _)
def evB_f:evB am tk=false↔¬WX am tk:=by rw [<-HI,Bool.not_eq_true]
def Eg:aW .evenly l tk=evB (amV l) tk:=Uh (Ec.trans HI.symm)
def Ee (g:InB (amV l) tk):aW .losses l tk=evB (amV l) (xc (amV l) tk):=Uh ((Ea g).trans HI.symm)
def Ad {m:Int} (w:tk.length=am.length) (hm:m∈0::tk) (top:∀x∈0::tk,x<=m):WX am tk↔∀(i:Nat) (a p:Int),am[i]? =some a->tk[i]? =some p->0<=p/\p<=a/\(p<a->p=m):=by
 constructor
 ·intro h i a p ha hp;obtain ⟨s,r,g⟩:=h.2 i a p ha hp;refine ⟨s,r,λlt=>?_⟩;have t:=top p (Qe _ (Qd hp))
  rcases Qn.mp hm with z|z
  ·lia
  ·have:=g lt m z;lia
 ·intro h;refine ⟨w,λi a p ha hp=>?_⟩;obtain ⟨s,r,g⟩:=h i a p ha hp;exact ⟨s,r,λlt q u=>by rw [g lt];exact top q (Qe _ u)⟩
end
section
noncomputable def qy:Sp:=spB (α:=List Int×List Int) (λa=>[xu a.1,xu a.2]) (λa=>a.1.length<=8/\a.2.length=a.1.length) (λa=> .bl (evB a.1 a.2))
def tX (S:Sta B G0 H cs ds) (m:Has ds (xu am) v) (g:Has ds (xu tk) w) (l:am.length<=8) (e:tk.length=am.length) (k:∀H',zG H H'->Sta B G0 H' cs ds->Q (.bl (evB am tk)) H'):qy [v,w] H Q E:=Wx (am,tk) (S.hpAll (.cons m (.cons g .nil))) ⟨l,e⟩ λH' e=>k H' e (S.same e)
noncomputable def VH (n:Nat):Sp:=spB (α:=Rl×List Cl×List Int) (λa=>[a.1.shape,zj a.2.1,xu a.2.2]) (λa=>FitD n a.1 a.2.1 a.2.2) (λa=> .bl (aW a.1 a.2.1 a.2.2))
def Xz (S:Sta B G0 H cs ds) (p:Has ds r.shape u) (m:Has ds (zj l) v) (g:Has ds (xu tk) w) (ok:FitD n r l tk) (k:∀H',zG H H'->Sta B G0 H' cs ds->Q (.bl (aW r l tk)) H'):VH n [u,v,w] H Q E:=Wx (r,l,tk) (S.hpAll (.cons p (.cons m (.cons g .nil)))) ok λH' e=>k H' e (S.same e)
noncomputable def JF (n:Nat):Sp:=spB (α:=(Int×Int)×(Rl×Rl)×List Cl×List Int) (λa=>[(Rl.upto a.1.1 a.1.2 a.2.1.1 a.2.1.2).shape,zj a.2.2.1,xu a.2.2.2]) (λa=>FitD n (Rl.upto a.1.1 a.1.2 a.2.1.1 a.2.1.2) a.2.2.1 a.2.2.2/\InB (amV a.2.2.1) a.2.2.2) (λa=> .bl (aW (Rl.upto a.1.1 a.1.2 a.2.1.1 a.2.1.2) a.2.2.1 a.2.2.2))
def rd_upD (S:Sta B G0 H cs ds) (q:Has ds (Rl.upto t b x y).shape u) (p:Has ds (zj l) v) (m:Has ds (xu tk) w) (ok:FitD n (.upto t b x y) l tk) (g:InB (amV l) tk) (k:∀H',zG H H'->Sta B G0 H' cs ds->Q (.bl (aW (.upto t b x y) l tk)) H'):JF n [u,v,w] H Q E:=Wx ((t,b),(x,y),l,tk) (S.hpAll (.cons q (.cons p (.cons m .nil)))) ⟨ok,g⟩ λH' e=>k H' e (S.same e)
noncomputable def JH (n:Nat):Sp:=spB (α:=Rl×List Cl×List Int) (λa=>[a.1.shape,zj a.2.1,xu a.2.2]) (λa=>FitD n (.ranks a.1) a.2.1 a.2.2/\InB (amV a.2.1) a.2.2) (λa=> .bl (aW (.ranks a.1) a.2.1 a.2.2))
def rd_rkD (S:Sta B G0 H cs ds) (q:Has ds r.shape u) (p:Has ds (zj l) v) (m:Has ds (xu tk) w) (ok:FitD n (.ranks r) l tk) (g:InB (amV l) tk) (k:∀H',zG H H'->Sta B G0 H' cs ds->Q (.bl (aW (.ranks r) l tk)) H'):JH n [u,v,w] H Q E:=Wx (r,l,tk) (S.hpAll (.cons q (.cons p (.cons m .nil)))) ⟨ok,g⟩ λH' e=>k H' e (S.same e)
end
def Uk (l:List Cl) (v:List Rat):Prop:=v.length=l.length/\∀(i:Nat) (c:Cl) (p:Rat),l[i]? =some c->v[i]? =some p->0<=p/\p<=(c.1:Rat)
theorem ou {α:Type} (d:α):∀{l:List α} {i j:Nat},i<j->j<l.length->(zK d [i,j] l).Sublist l
 |[],_,_,_,h=>absurd h (Nat.not_lt_zero _)
 |a::l,_,0,h,_=>absurd h (Nat.not_lt_zero _)
 |a::l,0,j+1,_,h=>by
  show [a,l.getD j d].Sublist (a::l);refine List.Sublist.cons_cons _ (List.singleton_sublist.mpr ?_);rw [Qq,Qa ‹h›];exact Ta _
 |a::l,i+1,j+1,NK,h=>(ou d (Nat.lt_of_succ_lt_succ NK) ‹h›).cons a
section
def Uk.inQ (h:Uk l v):InQ (zo l v):=λx g=>by
 obtain ⟨i,c,q,p,m,rfl⟩:=yZ g;exact h.2 i c q p m
def ClS.two (h:ClS t l) (m:i<j) (jl:j<l.length):ClS t (zK (0,0,0) [i,j] l):=by
 have s:=ou ((0,0,0):Cl) m jl;exact ⟨by show 0<2;decide,QP s.length_le h.few,λc g=>h.nn c (s.subset g),jaH (Bi s λc g=>(h.nn c g).1) h.sum⟩
def Rt (r:Rl) (l:List Cl) (v:List Rat) (i j:Nat):Prop:=yE r (zo (zK (0,0,0) [i,j] l) (zK 0 [i,j] v))
noncomputable def rtB (r:Rl) (l:List Cl) (v:List Rat) (i j:Nat):Bool:=@decide (Rt r l v i j) (Classical.propDecidable _)
def JT:rtB r l v i j=true↔Rt r l v i j:=by
 unfold rtB;exact @decide_eq_true_iff _ (Classical.propDecidable _)
def Kx (p:v.length=l.length):(zo l v).Pairwise R↔∀i j,i<j->j<l.length->R (xk (l.getD i (0,0,0)) (v.getD i 0)) (xk (l.getD j (0,0,0)) (v.getD j 0)):=by
 rw [jk p,Tb,QR]
 constructor
 ·intro h i j m g;have:=h i j (by rw [jah];lia) (by rw [jah];exact g) m;rwa [List.getElem_range,List.getElem_range] at this
 ·intro h i j q g m;rw [jah] at g;rw [List.getElem_range,List.getElem_range];exact h i j m g
def pM (m:NG r) (po:POk r) (g:Uk l v):yE r (zo l v)↔∀i j,i<j->j<l.length->Rt r l v i j:=by
 have p:=Kx (R:=λx y=>yE r [x,y]) g.1
 constructor
 ·intro h;exact p.mp (List.pairwise_iff_forall_sublist.mpr λsb=>her m po h sb)
 ·intro h;exact cnvQ m po g.inQ (p.mpr h)
def Uk.two (h:Uk l v) (s:i<j) (jl:j<l.length):InQ (zo (zK (0,0,0) [i,j] l) (zK 0 [i,j] v)):=by
 have m:=h.inQ
 have one:∀k,k<l.length->xk (l.getD k (0,0,0)) (v.getD k 0)∈zo l v:=λk p=>by
  have r:=Qa p;have q:=Qa (by rw [h.1];exact p);rw [zA r,zA q];exact ZY r q
 intro x g;have g:x∈[xk (l.getD i (0,0,0)) (v.getD i 0),xk (l.getD j (0,0,0)) (v.getD j 0)]:=g
 rcases Qn.mp g with rfl|g
 ·exact m _ (one i ⋯)
 ·rw [Qp.mp g];exact m _ (one j jl)
noncomputable def alP (r:Rl) (l:List Cl) (v:List Rat) (i j:Nat):List Rat:=zg (zJ r (zK (0,0,0) [i,j] l)) (v.getD i 0+v.getD j 0)
def al_iff (ru:RuS t r) (ok:ClS t l) (g:Uk l v) (m:i<j) (jl:j<l.length):alP r l v i j=[v.getD i 0,v.getD j 0]↔Rt r l v i j:=by
 have:=CB (ru.gf (ok.two m jl)) rfl (g.two m jl)
 have e:zu (zK 0 [i,j] v)=v.getD i 0+v.getD j 0:=by
  show v.getD i 0+(v.getD j 0+0)=_;rw [Rat.add_zero]
 rw [e] at this;exact this
def Jm (ru:RuS t r) (ok:ClS t l) (g:i<j) (jl:j<l.length):(alP r l v i j).length=2:=(ru.gf (ok.two g jl)).ful.std.len
theorem eM (B:Int):∀{l:List Cl} {v:List Rat},zo (zN B l) (Vu (B:Rat) v)=(zo l v).map (Row.scale (B:Rat))
 |[],_=>rfl
 |_::_,[]=>rfl
 |c::l,q::v=>by
  show xk (B*c.1,c.2) (q*(B:Rat))::zo (zN B l) (Vu (B:Rat) v)=Row.scale (B:Rat) (xk c q)::(zo l v).map (Row.scale (B:Rat));rw [eM]
  congr 1
  simp only [xk,Row.scale,QL]
  congr 1
  grind
def HD (g:0<B) (s:v.length=l.length) (hd:∀p∈v,(p.den:Int)∣B):FitG r (zN B l) (tkV B v)↔yE r (zo l v):=by
 have q:=Zm g
 have m:yM (tkV B v)=Vu (B:Rat) v:=by
  unfold yM tkV Vu;rw [Qo];exact QA λp hp=>dE g (hd p hp)
 constructor
 ·intro h;have f:=h.fit;rw [m,eM] at f;exact ar q f
 ·intro h;refine ⟨by unfold tkV;rw [Qb,yQ];exact s,?_⟩;rw [m,eM];exact yE.scale q h
structure DvOk (l:List Cl) (v:List Rat):Prop where
 good:Uk l v
 sz:∀p∈v,SzQ 4499 p
 two:∀(i j:Nat) (p q:Rat),i<j->v[i]? =some p->v[j]? =some q->DQ 6600 (p+q)
def DvOk.at' (h:DvOk l v) (g:i<l.length):∃p,v[i]? =some p/\v.getD i 0=p/\0<=p/\SzQ 4499 p/\p∈v:=by
 have e:=Qa (by rw [h.good.1];exact g);exact ⟨_,e,zA e,(h.good.2 i _ _ (Qa g) e).1,h.sz _ (Qd e),Qd e⟩
def DvOk.sum2 (h:DvOk l v) (ok:ClS t l) (g:i<j) (jl:j<l.length):0<=v.getD i 0+v.getD j 0/\DQ 6600 (v.getD i 0+v.getD j 0)/\SzQ (t+6600+2) (v.getD i 0+v.getD j 0):=by
 obtain ⟨p,hp,ep,p0,_⟩:=h.at' (i:=i) ⋯;obtain ⟨q,r,eq,u,_⟩:=h.at' jl;have s:=(rN (v:=zK 0 [i,j] v) (l:=zK (0,0,0) [i,j] l) rfl (h.good.two g jl)).2
 have e:zu (zK 0 [i,j] v)=v.getD i 0+v.getD j 0:=by
  show v.getD i 0+(v.getD j 0+0)=_;rw [Rat.add_zero]
 rw [e,Zj] at s;have d:=h.two i j p q g hp r;have m:=ok.two g jl;rw [ep,eq] at*;have z:0<=p+q:=by grind
 exact ⟨z,d,d.sz z s (bV (ZH m.n1)) m.sum⟩
structure FirstW (r:Rl) (l:List Cl) (v:List Rat) (i j:Nat):Prop where
 ij:i<j
 jl:j<l.length
 bad:¬Rt r l v i j
 first:∀i' j',i'<j'->j'<l.length->(i'<i\/(i'=i/\j'<j))->Rt r l v i' j'
def FirstW.uniq (h:FirstW r l v i j) (h':FirstW r l v i' j'):i=i'/\j=j':=by
 have a:¬(i'<i\/(i'=i/\j'<j)):=λz=>h'.bad (h.first i' j' h'.ij h'.jl z);have b:¬(i<i'\/(i=i'/\j<j')):=λz=>h.bad (h'.first i j h.ij h.jl z);lia
structure PrOk (n:Nat) (r:Rl) (l:List Cl) (v:List Rat):Prop where
 ru:RuS 33 r
 deep:r.deep<=n
 dep:Vr r<=12
 den:XZ 33 r<=530
 cl:ClS 33 l
 dv:DvOk l v
noncomputable abbrev Vv (r:Rl) (l:List Cl) (v:List Rat) (i j:Nat):PyData:= .tuple [.int (i:Int), .int (j:Int),frD ((alP r l v i j).getD 0 0),frD ((alP r l v i j).getD 1 0)]
end
def isAll5 (h:zC G [x,y,z,t,u] vs):∃a b c d e,vs=[a,b,c,d,e]/\ZE G [(x,a),(y,b),(z,c),(t,d),(u,e)]:=by
 simp only [zC] at h;obtain ⟨a,_,rfl,s,b,_,rfl,r,c,_,rfl,q,d,_,rfl,m,e,_,rfl,g,rfl⟩:=h;exact ⟨a,b,c,d,e,rfl,λp hp=>by simp at hp;rcases hp with rfl|rfl|rfl|rfl|rfl<;>assumption⟩
section
def JL:Sp:=spB (α:=List Cl×List Rat) (λa=>[zj a.1, .list (a.2.map frD)]) (λa=>(∀c∈a.1,Sz 160 c.1)/\(∀p∈a.2,SzQ 4499 p)/\a.1.length<=8/\Uk a.1 a.2) (λ_=> .non)
def rd_dv0 (S:Sta B G0 H cs ds) (g:Has ds (zj l) v) (h:Has ds (.list (ps.map frD)) w) (ok:(∀c∈l,Sz 160 c.1)/\(∀p∈ps,SzQ 4499 p)/\l.length<=8/\Uk l ps) (k:∀H',zG H H'->Sta B G0 H' cs ds->Q .non H'):JL [v,w] H Q E:=Wx (l,ps) (S.hpAll (.cons g (.cons h .nil))) ok λH' e=>k H' e (S.same e)
noncomputable def qw (A:RAd) (n:Nat):Sp:=λvs H Q _=>∃(G:Hp) (r:Rl) (l:List Cl) (ps:List Rat),zG G H/\zC G [r.ins A,zj l, .list (ps.map frD)] vs/\PrOk n r l ps/\((∀i j,i<j->j<l.length->Rt r l ps i j)->∀H',zG H H'->Q .non H')/\∀i j,FirstW r l ps i j->∀w H' g,Grow G H g H'->Is g (Vv r l ps i j) w->Q w H'
def tU (S:Sta B G0 H cs ds) (z:Has ds (r.ins A) v) (y:Has ds (zj l) w) (t:Has ds (.list (ps.map frD)) u) (ok:PrOk n r l ps) (q:(∀i j,i<j->j<l.length->Rt r l ps i j)->∀H',zG H H'->Sta B G0 H' cs ds->Q .non H') (m:∀i j,FirstW r l ps i j->∀p H',zG H H'->Sta B G0 H' cs ((Vv r l ps i j,p)::ds)->Q p H'):qw A n [v,w,u] H Q E:=by
 have L:=S;obtain ⟨G,S⟩:=S;refine ⟨G,r,l,ps,S.2.1,((show zV ds [r.ins A,zj l, .list (ps.map frD)] [v,w,u] from .cons z (.cons y (.cons t .nil))) G S.2.2.2.2.2.2),ok,λg H' e=>q g H' e (L.same e),λi j f w H' M gr s=>m i j f w H' gr.h ?_⟩;obtain ⟨K,J,I,d',D,C,g'⟩:=S.grow gr;exact ⟨M,K,J,I,d',D,C,g'.cons s⟩
noncomputable def Bq:Sp:=spB (α:=(Rl×List Cl×List Rat)×Nat×Nat) (λa=>[a.1.1.shape,zj a.1.2.1, .list (a.1.2.2.map frD), .int (a.2.1:Int), .int (a.2.2:Int)]) (λa=>PrOk 7 a.1.1 a.1.2.1 a.1.2.2/\a.2.1<a.2.2/\a.2.2<a.1.2.1.length) (λa=> .bl (rtB a.1.1 a.1.2.1 a.1.2.2 a.2.1 a.2.2))
def JY (S:Sta B G0 H cs ds) (p:Has ds r.shape v) (m:Has ds (zj l) w) (g:Has ds (.list (ps.map frD)) u) (ok:PrOk 7 r l ps) (q:i<j) (jl:j<l.length) (k:∀H',zG H H'->Sta B G0 H' cs ds->Q (.bl (rtB r l ps i j)) H'):Bq [v,w,u, .int (i:Int), .int (j:Int)] H Q E:=Wx ((r,l,ps),i,j) (S.hpAll (.cons p (.cons m (.cons g (.cons Has.int (.cons Has.int .nil)))))) ⟨ok,q,jl⟩ λH' e=>k H' e (S.same e)
noncomputable def kr:Sp:=λvs H Q _=>∃(r:Rl) (l:List Cl) (ps:List Rat) (v0 v1 v2 g:V),vs=[v0,v1,v2,g]/\zC H [r.shape,zj l, .list (ps.map frD)] [v0,v1,v2]/\PrOk 7 r l ps/\((g= .non/\∀i j,i<j->j<l.length->Rt r l ps i j)\/∃i j,FirstW r l ps i j/\Is H (Vv r l ps i j) g)/\∀H',zG H H'->Q (.bl true) H'
def Cg (S:Sta B G0 H cs ds) (p:Has ds r.shape v) (m:Has ds (zj l) w) (g:Has ds (.list (ps.map frD)) u) (ok:PrOk 7 r l ps) (al:∀i j,i<j->j<l.length->Rt r l ps i j) (k:∀H',zG H H'->Sta B G0 H' cs ds->Q (.bl true) H'):kr [v,w,u, .non] H Q E:=⟨r,l,ps,_,_,_,_,rfl,S.hpAll (.cons p (.cons m (.cons g .nil))),ok, .inl ⟨rfl,al⟩,λH' e=>k H' e (S.same e)⟩
def Cf (S:Sta B G0 H cs ds) (q:Has ds r.shape v) (p:Has ds (zj l) w) (m:Has ds (.list (ps.map frD)) u) (g:Has ds (Vv r l ps i j) x) (ok:PrOk 7 r l ps) (f:FirstW r l ps i j) (k:∀H',zG H H'->Sta B G0 H' cs ds->Q (.bl true) H'):kr [v,w,u,x] H Q E:=⟨r,l,ps,_,_,_,_,rfl,S.hpAll (.cons q (.cons p (.cons m .nil))),ok, .inr ⟨i,j,f,S.hp g⟩,λH' e=>k H' e (S.same e)⟩
structure PvOk (l:List Cl) (v:List Rat):Prop where
 good:Uk l v
 dq:∀p∈v,DQ 2193 p
def PvOk.dv (h:PvOk l ps) (ok:ClS 33 l):DvOk l ps:=by
 refine ⟨h.good,λp hp=>?_,λi j p q _ hp s=>((h.dq p (Qd hp)).add (h.dq q (Qd s))).mono nofun⟩;obtain ⟨i,m,rfl⟩:=QK hp;have r:i<l.length:=by rw [<-h.good.1];exact m
 have g:=h.good.2 i _ _ (Qa r) (Qa m);have am:l[i].1∈amV l:=Qk.mpr ⟨_,Ta _,rfl⟩;have le:=YV (ZH ok.n1) _ am;exact ((h.dq _ hp).sz g.1 g.2 (ZH ok.n1 _ am) (jaH le ok.sum)).mono nofun
def DQ.third (h:DQ d q):DQ (d+2) (q*(Rat.divInt k 3)):=by
 obtain ⟨D,⟨p,g⟩,m,hm⟩:=h;refine ⟨D*3,⟨⋯,?_⟩,m*k,?_⟩
 ·have:(2:Int) ^ (d+2)=2 ^ d*4:=by rw [Int.pow_add];rfl
  lia
 ·have e:Rat.divInt k 3*((3:Int):Rat)=(k:Rat):=by
   rw [Rat.divInt_eq_div];exact Rat.div_mul_cancel (by decide+kernel)
  rw [QL,QL,<-hm,<-e]
  grind
def GN (h:PvOk l ps) (ok:ClS 33 l) (ij:i≠j) (hp:ps[i]? =some p) (A:ps[j]? =some q) (I:l[i]? =some c) (hd:l[j]? =some d) (m0:0<=m) (mp:m<=p) (mq:m<=(d.1:Rat) - q) (J:DQ 2195 m):DvOk l ((ps.set i (p - m)).set j (q+m)):=by
 have L:=(Qf.mp hp).1;have jl:=(Qf.mp A).1
 have at':∀{k:Nat} {z:Rat},((ps.set i (p - m)).set j (q+m))[k]? =some z->(k=j/\z=q+m)\/(k=i/\z=p - m)\/(k≠i/\k≠j/\ps[k]? =some z):=λ{k z} r=>by
  by_cases t:k=j
  ·subst t;rw [List.getElem?_set_self (by rw [jaF];exact jl)] at r;exact .inl ⟨rfl,(Qw r).symm⟩
  ·rw [jaw (Ne.symm t)] at r
   by_cases u:k=i
   ·subst u;rw [List.getElem?_set_self L] at r;exact .inr (.inl ⟨rfl,(Qw r).symm⟩)
   ·rw [jaw (Ne.symm u)] at r;exact .inr (.inr ⟨u,t,r⟩)
 have dp:=h.dq p (Qd hp);have dq:=h.dq q (Qd A);have U:=h.good.2 i c p I hp;have T:=h.good.2 j d q hd A;have D:DQ 4388 (p - m):=dp.sub J;have C:DQ 4388 (q+m):=dq.add J
 have good:Uk l ((ps.set i (p - m)).set j (q+m)):=by
  refine ⟨by rw [jaF,jaF];exact h.good.1,λk O z s r=>?_⟩
  rcases at' r with ⟨rfl,rfl⟩|⟨rfl,rfl⟩|⟨_,_,r⟩
  ·rw [hd] at s;cases s;exact ⟨by grind,by grind⟩
  ·rw [I] at s;cases s;exact ⟨by grind,by grind⟩
  ·exact h.good.2 k O z s r
 have dz:∀{k:Nat} {z:Rat},((ps.set i (p - m)).set j (q+m))[k]? =some z->DQ 4388 z:=λ{k z} r=>by
  rcases at' r with ⟨rfl,rfl⟩|⟨rfl,rfl⟩|⟨_,_,r⟩
  ·exact C
  ·exact D
  ·exact (h.dq z (Qd r)).mono nofun
 refine ⟨good,λz r=>?_,λa b y z ab ha M=>?_⟩
 ·obtain ⟨k,G,rfl⟩:=QK r;have e:=Qa G;have K:k<l.length:=by rw [<-good.1];exact G
  have g:=good.2 k _ _ (Qa K) e;have am:l[k].1∈amV l:=Qk.mpr ⟨_,Ta _,rfl⟩;have le:=YV (ZH ok.n1) _ am;exact ((dz e).sz g.1 g.2 (ZH ok.n1 _ am) (jaH le ok.sum)).mono nofun
 ·have both:DQ 6600 (p - m+(q+m)):=by
   rw [show p - m+(q+m)=p+q by grind];exact (dp.add dq).mono nofun
  have P:DQ 6600 (q+m+(p - m)):=by
   rw [show q+m+(p - m)=p+q by grind];exact (dp.add dq).mono nofun
  rcases at' ha with ⟨rfl,rfl⟩|⟨rfl,rfl⟩|⟨_,_,w⟩<;>rcases at' M with ⟨N,rfl⟩|⟨N,rfl⟩|⟨_,_,r⟩
  ·lia
  ·exact P
  ·exact (C.add (h.dq z (Qd r))).mono nofun
  ·exact both
  ·lia
  ·exact (D.add (h.dq z (Qd r))).mono nofun
  ·exact ((h.dq y (Qd w)).add C).mono nofun
  ·exact ((h.dq y (Qd w)).add D).mono nofun
  ·exact ((h.dq y (Qd w)).add (h.dq z (Qd r))).mono nofun
def RuS.pv (ru:RuS 33 r) (ok:ClS 33 l) (hd:XZ 33 r<=530) (e0:0<=e) (he:DQ 40 e):PvOk l (zg (zJ r l) e):=by
 have g:=ru.gf ok;refine ⟨⟨g.ful.std.len,λi c p m hp=>(g.good.fit e e0).inQ _ (ZY m hp)⟩,λp hp=>(ru.dens ok he p hp).mono ⋯⟩
def Kq {K:Frg} {t:TGs} {σ:L2.St} {N:L2.St->Hp->Prop} {x y z r:PyData} (S:Sta B G0 H cs ds) (h:Has ds (.tuple [x,y,z,r]) v) (k:∀q p m g,Sta B G0 H cs ((x,q)::(y,p)::(z,m)::(r,g)::ds)->t [q,p,m,g] σ H N):kGT K 4 t σ N v H:=by
 refine IJ S h rfl λvs s u=>?_
 rcases vs with _|⟨q,_|⟨p,_|⟨m,_|⟨g,_|⟨w,t⟩⟩⟩⟩⟩<;>simp at s
 exact k q p m g u
def prD (x:Nat×Nat):PyData:= .tuple [.int (x.1:Int), .int (x.2:Int)]
def Jn (r:Rl) (l:List Cl) (ps:List Rat) (g:Nat->Nat->Prop) (W:List (Nat×Nat)):Prop:=(W=[]/\∀i j,i<j->j<l.length->g i j->Rt r l ps i j)\/∃i j m,W=(i,j)::m/\FirstW r l ps i j
def Jn.imp (h:Jn r l ps dn W) (f:∀i j,i<j->j<l.length->dn' i j->dn i j\/Rt r l ps i j):Jn r l ps dn' W:=by
 rcases h with ⟨e,h⟩|h
 ·exact .inl ⟨e,λi j a b c=>(f i j a b c).elim (h i j a b) id⟩
 ·exact .inr h
def Jn.app (h:Jn r l ps dn W) (q:i<j) (jl:j<l.length) (bad:¬Rt r l ps i j) (f:∀g m,(g<i\/(g=i/\m<j))->dn g m):Jn r l ps dn' (W++[(i,j)]):=by
 rcases h with ⟨e,h⟩|⟨a,b,p,e,h⟩
 ·subst e;exact .inr ⟨i,j,[],rfl,q,jl,bad,λg m a b c=>h g m a b (f g m c)⟩
 ·subst e;exact .inr ⟨a,b,p++[(i,j)],rfl,h⟩
end
theorem Rl.ok_of:∀{r:Rl},POk r->r.Ok
 | .shares,_=>trivial
 | .evenly,_=>trivial
 | .losses,_=>trivial
 | .halves,_=>trivial
 | .other r,h=>Rl.ok_of (r:=r) h
 | .ranks r,h=>Rl.ok_of (r:=r) h
 | .groups _ _,h=>h.elim
 | .upto _ _ x y,h=>⟨h.1,Rl.ok_of h.2.1,Rl.ok_of h.2.2⟩
theorem qg:∀{v:List Rat} {i:Nat} {p x:Rat},v[i]? =some p->zu (v.set i x)=zu v - p+x
 |[],_,_,_,h=>by cases h
 |a::v,0,p,x,h=>by
  cases h;show x+zu v=a+zu v - a+x
  grind
 |a::v,i+1,p,x,h=>by
  have:=qg (v:=v) (i:=i) (x:=x) h;show a+zu (v.set i x)=a+zu v - p+x
  grind
def Di (ij:i≠j) (hp:ps[i]? =some p) (g:ps[j]? =some q):zu ((ps.set i (p - m)).set j (q+m))=zu ps:=by
 have r:(ps.set i (p - m))[j]? =some q:=by rw [jaw ij];exact g
 rw [qg r,qg hp]
 grind
section
def oz (m:NG r) (ru:RuS 33 r) (ok:ClS 33 l) (e0:0<=e) (g:Uk l (zg (zJ r l) e)):∀i j,i<j->j<l.length->Rt r l (zg (zJ r l) e) i j:=
 (pM m ru.pok g).mp ((ru.gf ok).good.fit e e0)
def FR (m:NG r) (ru:RuS 33 r) (ok:ClS 33 l) (e0:0<=e) (g:Uk l (zg (zJ r l) e)) (g':Uk l v) (s:zu v=zu (zg (zJ r l) e)):(∀i j,i<j->j<l.length->Rt r l v i j)↔v=zg (zJ r l) e:=
 ⟨λh=>fK g'.1 g.1 ((pM m ru.pok g').mpr h) ((ru.gf ok).good.fit e e0) s,λh=>by rw [h];exact oz m ru ok e0 g⟩
end
theorem sZ {α:Type} (f g:α->PyData):∀l:List α,qc (l.map f) (l.map g)=l.map λx=> .tuple [f x,g x]
 |[]=>rfl
 |a::l=>by
  show PyData.tuple [f a,g a]::qc (l.map f) (l.map g)=_;rw [sZ f g l];rfl
def EU (n:Nat) (ps:List Int) (V:List Rat):List PyData:=(yS n ps).map λ(j:Nat)=> .tuple [.int (j:Int),frD (V.getD j 0)]
def FD (g:NG r) (ru:RuS 33 r) (ok:ClS 33 l) (e0:0<=e):vE r l e ps=EU l.length ps (zg (zJ r l) e):=by
 unfold vE EU
 by_cases ne:yS l.length ps=[]
 ·rw [ne];rfl
 ·have p:=Bm g ru.pok (ru.gf ok) (λi=>!decide ((i:Int)∈ps)) (ru.gf (ok.stay ne)) e0;have m:zg (zJ r (zK (0,0,0) (yS l.length ps) l)) (ft r l e ps)=zK 0 (yS l.length ps) (zg (zJ r l) e):=p;rw [m];unfold zK;rw [Qo];exact sZ _ _ _
def Dv (n:Nat) (ps:List Int) (V:List Rat):(PyData.list (EU n ps V)).canLay0=true:=by
 rw [PyData.canLay0];unfold EU;exact fB (λj=>by rw [PyData.canLay0,PyData.canLayAll0,PyData.canLayAll0,PyData.canLayAll0,uo];rfl) _
def LL (n:Nat) (ps:List Int) (V:List Rat):(PyData.list (EU n ps V)).depth<=4:=by
 rw [PyData.depth];refine Nat.succ_le_succ ?_;unfold EU
 exact fM (λj=>by
  have:=uL (V.getD j 0);rw [PyData.depth,PyData.depthAll,PyData.depthAll,PyData.depthAll,PyData.depth]
  lia) _
def je (n:Nat) (ps:List Int) (V:List Rat):SeqAt.shaped (.list (EU n ps V))=true:=YN (Dv n ps V) (LL n ps V) nofun
def Lr (v:List Rat):(PyData.list (v.map frD)).canLay0=true:=by rw [PyData.canLay0];exact fB uo v
def Vb (v:List Rat):SeqAt.shaped (.list (v.map frD))=true:=YN (Lr v) (by rw [PyData.depth];exact Nat.succ_le_succ (fM uL v)) nofun
def Ek (p q:List Rat):PyData.eqv (.list (p.map frD)) (.list (q.map frD))=decide (p=q):=by rw [PyData.eqv];exact Vh rV p q
def tJ:Sp:=λvs H Q E=>tK vs H Q E/\∃v,vs=[v, .bl false]
section
def kA (n:Nat):Sp:=spB (α:=Rl) (λr=>[r.shape]) (λr=>r.Ok/\r.size<=16/\r.deep<=n) (λr=> .str r.text)
def UA {n:Nat} {r:Rl} (S:Sta B G0 H cs ds) (h:Has ds r.shape v) (ok:r.Ok) (g:r.size<=16) (hd:r.deep<=n) (k:∀H',Sta B G0 H' cs ds->Q (.str r.text) H'):kA n [v] H Q E:=Wx r (S.hpAll (zV.cons h zV.nil)) ⟨ok,g,hd⟩ λH' e=>k H' (S.same e)
def ku:Sp:=spLx (α:=List Cl×List Rat×Int) (λa=>[zj a.1, .list (a.2.1.map frD), .int a.2.2]) (λa=>ClS 33 a.1/\2<=a.1.length/\PvOk a.1 a.2.1) (λa r=>∃g,r=g.map frD/\DvOk a.1 g/\zu g=zu a.2.1)
def Cj (S:Sta B G0 H cs ds) (u:Has ds (zj l) v) (t:Has ds (.list (ps.map frD)) w) (ok:ClS 33 l) (q:2<=l.length) (pv:PvOk l ps) (k:∀(m:List Rat) p H',DvOk l m->zu m=zu ps->zG H H'->Sta B G0 H' ((p,m.map frD)::cs) ds->Q (.ref p) H'):ku [v,w, .int c] H Q E:=
 Kb (l,ps,c) S (.cons u (.cons t (.cons Has.int .nil))) ⟨ok,q,pv⟩ λr p H' hr e y=>by
  obtain ⟨m,rfl,g,s⟩:=hr;exact k m p H' g s e y
end
def all1 {p:List Value->Prop} (h:∀a,p [a]) (us:List Value) (g:us.length=1):p us:=by
 obtain ⟨a,rfl⟩:=List.length_eq_one_iff.mp g;exact h a
def all2 {p:List Value->Prop} (h:∀a b,p [a,b]) (us:List Value) (g:us.length=2):p us:=by
 cases us with
 |nil=>cases g
 |cons a us=>exact all1 (p:=λus=>p (a::us)) (h a) us (Nat.succ.inj g)
def all3 {p:List Value->Prop} (h:∀a b c,p [a,b,c]) (us:List Value) (g:us.length=3):p us:=by
 cases us with
 |nil=>cases g
 |cons a us=>exact all2 (p:=λus=>p (a::us)) (h a) us (Nat.succ.inj g)
def all4 {p:List Value->Prop} (h:∀a b c d,p [a,b,c,d]) (us:List Value) (g:us.length=4):p us:=by
 cases us with
 |nil=>cases g
 |cons a us=>exact all3 (p:=λus=>p (a::us)) (h a) us (Nat.succ.inj g)
def all5 {p:List Value->Prop} (h:∀a b c d e,p [a,b,c,d,e]) (us:List Value) (g:us.length=5):p us:=by
 cases us with
 |nil=>cases g
 |cons a us=>exact all4 (p:=λus=>p (a::us)) (h a) us (Nat.succ.inj g)
structure DkT (K:Frg) (mg:Str->Option Value) (nm:Str) (st:Stmt) (f:Addr) (fd:FuncData) (ps:List Str):Prop where
 F:Fun K nm nm st f fd
 m:mg nm=some (.ref f)
 b:yp K fd ps []
structure FkT (K:Frg) (x q:Str) (st:Stmt) (f:Addr) (fd:FuncData) (ps:List Str):Prop where
 F:Fun K x q st f fd
 b:yp K fd ps []
 k:PySem.W.keepIn K (.ref f)=true
section
variable {K:Frg} {h:Heap} {mg:Str->Option Value} {x q:Str} {st:Stmt} {f:Addr} {oc:Value} {od an:Option Addr} {osl:Array (Option Value)} {kV doc pm NA ct:Value} {ps:List Str}
def fk_mk (l:K.lookup f=some ⟨oc,od, .func (PySem.W.fnOf x q (ZD st) (xY st) (zh st) .none kV doc pm an NA ct),osl⟩) (c:PySem.W.codeIn K NA q=true) (k:PySem.W.keepIn K (.ref f)=true)
 (b:∀(kV doc pm:Value) (an:Option Addr) (NA ct:Value) (us:List Value),us.length=ps.length->bindArgs (PySem.W.fnOf x q (ZD st) (xY st) (zh st) .none kV doc pm an NA ct) ⟨us,[]⟩=pure (ps.zip us)):
 FkT K x q st f (PySem.W.fnOf x q (ZD st) (xY st) (zh st) .none kV doc pm an NA ct) ps:=⟨oU l c k,(oU l c k).binds b,k⟩
def dk_mk (X:K.In h) (G:h.Ns mainGlobals mg) (a:PySem.W.nsIn K mainGlobals x=some (some (.ref f))) (l:K.lookup f=some ⟨oc,od, .func (PySem.W.fnOf x x (ZD st) (xY st) (zh st) .none kV doc pm an NA ct),osl⟩) (c:PySem.W.codeIn K NA x=true) (k:PySem.W.keepIn K (.ref f)=true)
 (b:∀(kV doc pm:Value) (an:Option Addr) (NA ct:Value) (us:List Value),us.length=ps.length->bindArgs (PySem.W.fnOf x x (ZD st) (xY st) (zh st) .none kV doc pm an NA ct) ⟨us,[]⟩=pure (ps.zip us)):
 DkT K mg x st f (PySem.W.fnOf x x (ZD st) (xY st) (zh st) .none kV doc pm an NA ct) ps:=⟨oU l c k,jae X G a,(oU l c k).binds b⟩
end
structure CkT (K:Frg) (c fI Ru fS fT fP fQ:Addr):Prop where
 e:PySem.W.findIn K (.ref c) "__init__"=some (some (.ref fI))
 es:PySem.W.findIn K (.ref c) "shape"=some (some (.ref fS))
 et:PySem.W.findIn K (.ref c) "text"=some (some (.ref fT))
 ep:PySem.W.findIn K (.ref c) "path"=some (some (.ref fP))
 eq:PySem.W.findIn K (.ref c) "parts"=some (some (.ref fQ))
 pg:PySem.W.plainGet K c Str.empty=true
 hd:PySem.W.hasDictIn K c=true
 po:PySem.W.plainOver K c=true
 sa:PySem.W.findIn K (.ref c) "__setattr__"=some (some (.builtin "object.__setattr__"))
 na:PySem.W.findIn K (.ref c) "form"=some none
 ha:PySem.W.findIn K (.ref c) "__class__"=some (some (.builtin "object.__class__"))
 mo:PySem.W.mroIn K c (.type "object")=some true
 kt:PySem.W.kitOne K (.ref c) (.ref Ru)=some true
 mq:PySem.W.makesIn K c=true
 nf:PySem.W.isFn K (.ref fI)=true
 kc:PySem.W.keepIn K (.ref c)=true
section
variable {K:Frg} {c fI Ru fS fT fP fQ:Addr}
def CkT.ok (Q:CkT K c fI Ru fS fT fP fQ) (n1:PySem.W.isFn K (.ref fS)=true) (p:PySem.W.keepIn K (.ref fS)=true) (g:PySem.W.isFn K (.ref fT)=true) (m:PySem.W.keepIn K (.ref fT)=true) (hn:PySem.W.specialIn K (.builtin "object.__class__") "__get__"=some (some (.builtin "getset_descriptor.__get__"))) (ht:PySem.W.takesIn K (.builtin "object.__class__")=some true):ROk K fS fT Ru c:=
 ⟨⟨Q.pg,Q.hd,Q.po,Q.sa⟩,Q.na,⟨Q.es,n1,p⟩,⟨Q.et,g,m⟩,Q.ha,hn,ht,Q.mo,Q.kt⟩
def CkT.MK (Q:CkT K c fI Ru fS fT fP fQ):Mk K c fI:=⟨Q.mq,Q.e,Q.nf,Q.kc⟩
def CkT.mp (Q:CkT K c fI Ru fS fT fP fQ) (n:PySem.W.isFn K (.ref fP)=true) (k:PySem.W.keepIn K (.ref fP)=true) (g:PySem.W.isFn K (.ref fQ)=true) (m:PySem.W.keepIn K (.ref fQ)=true):Meth K c "path" fP/\Meth K c "parts" fQ:=⟨⟨Q.ep,n,k⟩,⟨Q.eq,g,m⟩⟩
end
section
def ps_a (i:Nat)   (q:X.N.Nodup) (he:PE X e te) (p:X.N[i]? =some x:=by rfl) (g:Loc X.env.scope x:=by walk_at "o") (m:swapsWith e (some (.Name x pos')) pos.line X.env=pure false:=by rfl) (hf:X.fn x=true\/X.env.scope.names.lookup x=some .local:=by walk_at "f"):
 PS X (.Assign [.Name x pos'] e pos) (Mj te (lX i)):=ps_set q p g he m hf
def pg_a (i:Nat)  (p:X.N.Nodup) (m:X.N[i]? =some x:=by rfl) (g:Loc X.env.scope x:=by walk_at "o") (hf:X.fn x=true\/X.env.scope.names.lookup x=some .local:=by walk_at "f"):PG X (.Name x pos) (lX i):=qX p m g hf
def pcl (C:Cal X.prog X.w X.K X.mg X.base CX0 k x ps sp) (hr:Room j X.A) (ha:PA X (e::es) t) (g:k<=j:=by walk_at "l") (m:Gl X x:=by rfl) (q:(x==("__debug__":Str))=false:=by decide) (he:starEach (e::es) X.env=(false,eval e X.env)::starEach es X.env:=by rfl) (r:(backTo pos (starEach es X.env)).any (·.1)=false:=by rfl):
 PE X (.Call (.Name x p) (e::es) [] pos) (vD sp [] E0 t):=pe_cal C hr g pass0 m ha q he r
def pix (i:Nat)   (p:X.N[i]? =some x:=by rfl) (g:Vis X.env.scope x:=by walk_at "v") (hd:(x==("__debug__":Str))=false:=by decide) (m:(x==("__classdict__":Str))=false:=by decide):PE X (.Subscript (.Name x p1) (.Constant (.int k) j p2) p3) (tOp (rIx X.K) (tVar i) (tC (.int k))):=pe_ix ix_seq (pv i p g hd m) ue (λ_ _=>rfl)
def pg_c (i:Nat)     (p:N.Nodup:=by decide+kernel) (m:(xf X N scope C ex s H).N[i]? =some x:=by rfl) (g:Loc (xf X N scope C ex s H).env.scope x:=by walk_at "o") (hf:(xf X N scope C ex s H).fn x=true\/(xf X N scope C ex s H).env.scope.names.lookup x=some .local:=by walk_at "f"):
 PG (xf X N scope C ex s H) (.Name x pos) (lX i):=qX p m g hf
def pcf (N:List Str) (n:Nat) (fr:List Nat)     (p:PI X tg iter wi) (q:∀{C ex s H},PG (xf X N scope C ex s H) tg (g C ex s H)) (ht:∀{C ex s H},PIf (xf X N scope C ex s H) ifs (tt C ex s H)) (he:∀{C ex s H},PE (xf X N scope C ex s H) elt (te C ex s H))
 (r:X.calm=true:=by rfl) (O:CompOk X N n fr scope:=by exact ⟨rfl,by decide+kernel,rfl,nofun,rfl,rfl,rfl,rfl,rfl⟩) (m:∀x,foldedSetIterable iter X.env x=pure x:=by intro _;rfl):
 PE X (.ListComp elt [⟨tg,iter,ifs,0⟩] scope pos) (vC n fr wi g tt te):=KD r O p (λ_ _ _ _=>q) (λ_ _ _ _=>ht) (λ_ _ _ _=>he) m
def pscf (i:Nat) (y:X.N.Nodup) (N:List Str) (n:Nat) (fr:List Nat)      (t:PI X tg iter wi) (u:∀{C ex s H},PG (xf X N scope C ex s H) tg (g C ex s H)) (ht:∀{C ex s H},PIf (xf X N scope C ex s H) ifs (tt C ex s H)) (he:∀{C ex s H},PE (xf X N scope C ex s H) elt (te C ex s H))
 (p:X.N[i]? =some x:=by rfl) (r:X.env.scope.names.lookup x=some .local:=by rfl) (w:X.calm=true:=by rfl) (O:CompOk X N n fr scope:=by exact ⟨rfl,by decide+kernel,rfl,nofun,rfl,rfl,rfl,rfl,rfl⟩)
 (m:swapsWith (.ListComp elt [⟨tg,iter,ifs,0⟩] scope pos) (some (.Name x px)) spos.line X.env=pure true:=by rfl) (q:∀x,foldedSetIterable iter X.env x=pure x:=by intro _;rfl):
 PS X (.Assign [.Name x px] (.ListComp elt [⟨tg,iter,ifs,0⟩] scope pos) spos) (Mj (vC n fr wi g tt te) (lX i)):=vT y p r w O t (λ_ _ _ _=>u) (λ_ _ _ _=>ht) (λ_ _ _ _=>he) m q
def yP (a:sc.kind= .function:=by rfl) (b:sc.isCoroutine=false:=by rfl) (c:sc.isGenerator=false:=by rfl) (d:N.Nodup:=by decide+kernel) (e:N.take P.length=P:=by rfl) (f:∀x∈P,sc.names.lookup x=some .local\/sc.names.lookup x=some .cell:=by decide+kernel) (g:∀y∈sc.names,y.2≠ .free:=by decide+kernel):FnScope N P sc:=⟨a,b,c,d,e,f,g⟩
def _root_.L2.Fun.oo {P:Program} {w:World} {K:Frg} {mg:Str->Option Value} {base:Heap} {x qual:Str} {st:Stmt} {f:Addr} {fd:FuncData} {N ps:List Str} {k:Nat} {sp:Sp} (F:Fun K x qual st f fd) (s1:FnScope N ps (zh st))
 (m:∀{g:Value} {A:Around} {outer:List Env} {s:Shared} (H:Hp) (vs:List V) (Q:VK) (E:XK),Room k (A.deeper (envOfC qual (zh st) s.heap.objs.size f g))->N.Nodup->sp vs H Q E->
  ∃t,PSs (Jd CX0 P w K mg base N qual (zh st) f g A outer s H E).nox (xY st) t/\t {nx:=λ_ H'=>Q .non H',rt:=Q} (kh N vs) H) (len:∀vs H Q E,sp vs H Q E->vs.length=ps.length:=by walk_at "n"):FnOk P w K mg base CX0 (k+1) f fd ps sp:=F.ok s1 len λ_ _ _ _ H vs Q E hr h=>m H vs Q E hr s1.nd h
def xj (w:Wk B G0 J xs P) (f:Nat->PyData) (t:(List.range xs.length).map f=ys) (s1:Sta B G0 H cs ds)
 (u:∀(i:Nat) (x:PyData) (v:V) {m p:Hp} {q:VK} {A:Hp->Prop} {C ex s0 H0},xs[i]? =some x->Turn1 B G0 cs m p->Sta m p m [] ((x,v)::ds)->(∀{y:V} {r:Hp} {cs':yN} {ds':Dat},Sta m p r cs' ds'->Has ds' (f i) y->q y r)->
  g C ex s0 H0 v (List.replicate n none++frσ σ fr) m λσ4 H4=>σ4.drop n=frσ σ fr/\tt C ex s0 H0 σ4 H4 λb s=>if b=true then te C ex s0 H0 σ4 s q else A s)
 (k:∀D H',zG H H'->Sta B G0 H' ((D,ys)::cs) ds->Q (.ref D) H') (z:∀D ys,P ((D,ys)::cs) ds:=by intro _ _;exact .mem (by walk_at "mem")) (hn:xs.length<=1000:=by rw [Qb];lia):Hl n fr g tt te σ Q J H:=
 yg w f t s1 z hn (λi x v _ _ _ _ a b c d _ _ _ _=>u i x v a b c d) k
def kxx {CX:CXT} {P:Program} {w:World} {K:Frg} {mg:Str->Option Value} {base:Heap} {N:List Str} {q:Str} {sc:Scope} {f:Addr} {cd:Value} {A:Around} {o:List Env} {s:Shared} {H:Hp} {E:XK}:(Jd CX P w K mg base N q sc f cd A o s H E).nox.K=K:=rfl
def kyy:(xf X N sc C ex s H).K=X.K:=rfl
end
def Has.mm (h:(x,v)∈ds:=by walk_at "mem"):Has ds x v:= .mem h
end S
namespace K
open PySem L2 S
abbrev paa:List Str:=["_law_shape_here","_law_claims_here","_law_parts"]
abbrev pab:List Str:=["one","two"]
abbrev pac:List Str:=["self"]
abbrev pae:List Str:=["_law_shape_here","_law_claims_here","_law_purse_here","_law_parts"]
abbrev paf:List Str:=["self","form"]
abbrev pag:List Str:=["_law_shape_here","_law_claims_here","_law_parts","_law_i","_law_j"]
abbrev pah:List Str:=["_law_shape_here","_law_claims_here","_law_parts","_law_found"]
abbrev pai:List Str:=["self","claims","purse"]
abbrev paj:List Str:=["self","portion","first","last"]
abbrev pak:List Str:=["self","inner"]
abbrev pal:List Str:=["top","bottom"]
abbrev pam:List Str:=["_law_script","_law_at","_law_many","_law_size"]
abbrev pan:List Str:=["self","word"]
abbrev pao:List Str:=["claims"]
abbrev paq:List Str:=["_law_one","_law_two"]
abbrev pas:List Str:=["_law_claims_here","_law_parts","_law_cell"]
abbrev pau:List Str:=["self","outer","inner"]
abbrev pav:List Str:=["walk"]
abbrev paw:List Str:=["_law_top","_law_bottom"]
abbrev pax:List Str:=["_law_found"]
abbrev pay:List Str:=["ones","twos"]
abbrev paz:List Str:=["path","places","count"]
abbrev paA:List Str:=["_law_script","_law_k"]
abbrev paB:List Str:=["claims","places"]
abbrev paC:List Str:=["portion","first","last"]
abbrev paD:List Str:=["rule","claims","purse","away"]
abbrev paE:List Str:=["shape","claims"]
abbrev paF:List Str:=["start","end","portion"]
abbrev paG:List Str:=["_law_whole_here","_law_cell"]
abbrev paH:List Str:=["start","end","amount"]
abbrev paI:List Str:=["ahead","corner","following"]
abbrev paJ:List Str:=["_law_cell"]
abbrev paK:List Str:=["_law_amounts","_law_parts"]
abbrev paL:List Str:=["_law_shape_here"]
abbrev paM:List Str:=["_law_cells","_law_groups"]
abbrev paN:List Str:=["parts","places","count"]
abbrev paO:List Str:=["_law_cell","_law_place"]
abbrev paP:List Str:=["path","second"]
abbrev paQ:List Str:=["self","claims"]
abbrev paR:List Str:=["claims","rank"]
abbrev paS:List Str:=["rule","claims","parts"]
abbrev paT:List Str:=["self","signs"]
abbrev paU:List Str:=["start","end","purse"]
abbrev paV:List Str:=["path","portion"]
abbrev paW:List Str:=["walk","word"]
abbrev paX:List Str:=["inner","claims"]
local macro_rules|`(tactic|assumption)=>`(tactic|first|exact .mm|fail)
local macro_rules|`(tactic|right)=>`(tactic|walk_at "mem")
local macro_rules|`(tactic|left)=>`(tactic|walk_at "walk")
local macro_rules|`(tactic|walk_at "l")=>`(tactic|first|decide|exact Qs _|lia)
local macro_rules|`(tactic|walk_at "o")=>`(tactic|first|exact Or.inl rfl|exact Or.inr rfl)
abbrev mtS:=Lean.Syntax
abbrev mtQ:=List (Lean.Name×List mtS)
def mtI (s:String) (n:Nat):String:=String.ofList (s.toList.drop n)
def mtP (x:mtS) (q:mtQ):mtQ:=(q.head!.1,x::q.head!.2)::q.tail
def mtC (q:mtQ):mtQ:=mtP (.node .none q.head!.1 q.head!.2.reverse.toArray) q.tail
def mtE (s:String) (q:mtQ):mtQ:=((if s.front=='.' then "Lean.Parser.Tactic"++s else if s.front==':' then "Lean.Parser.Term."++mtI s 1 else s).toName,[])::q
def mtO (a:List mtS) (q:mtQ) (w:String):mtQ:=
 if w=="}" then mtC q
 else if w=="[[" then mtE "null" (mtE ".tacticSeq1Indented" (mtE ".tacticSeq" q))
 else if w=="]]" then mtC (mtC (mtC q))
 else if w.front=='{' then mtE (mtI w 1) q
 else mtP (if w.front=='#' then a.getD (mtI w 1).toNat! .missing else if w.front=='%' then Lean.mkIdent (mtI w 1).toName else .atom .none w) q
def aX (s:String) (a:List mtS):mtS:=((s.splitOn " ").foldl (mtO a) [(`null,[])]).head!.2.head!
def mtB (w:String):mtS:=Lean.Syntax.mkStrLit w
def mtL (t k:String):String:=(((t.splitOn ("`"++k)).getD 1 "").splitOn "`").head!
def mtA (f:mtS) (a:List mtS):mtS:=if a.isEmpty then f else aX "{:app #0 #1 }" [f,.node .none `null a.toArray]
def mtU (c:Char):mtS:=
 let w:=mtL "`a{.assumption assumption }`Hhas`Mmem`Ahasall`zszq`Ddom`mmul`ssz`usub`vdats`r{.exact exact %rfl }`o{.lia lia {.optConfig {null } } }`d{.decide decide {.optConfig {null } } }`K{.decide decide {.optConfig {null {.configItem {.posConfigItem + %kernel } } } } }`xx`yy`tt`TT`NN`i{.paren ( [[ {.show show {«term_<_» {:typeAscription {:hygienicLParen ( {hygieneInfo %[anonymous] } } {num 0 } : {null %Int } ) } < {:hole _ } } } ; {.decide decide {.optConfig {null } } } ]] ) }`j{.paren ( [[ {.show show {«term_<_» {:typeAscription {:hygienicLParen ( {hygieneInfo %[anonymous] } } {num 0 } : {null %Int } ) } < {:hole _ } } } ; {.lia lia {.optConfig {null } } } ]] ) }`qq`L{.first first {null {group | [[ {.assumption assumption } ]] } {group | [[ {.lia lia {.optConfig {null } } } ]] } {group | [[ {.paren ( [[ {.simp simp {.optConfig {null } } {null } {null only } {null [ {null {.simpLemma {null } {null } %xC } } ] } {null } } ; {.lia lia {.optConfig {null } } } ]] ) } ]] } {group | [[ {.paren ( [[ {.simp simp {.optConfig {null } } {null } {null only } {null [ {null {.simpLemma {null } {null } %xC } } ] } {null {.location at {.locationWildcard * } } } } ; {.lia lia {.optConfig {null } } } ]] ) } ]] } } }" c.toString
 if w.front=='{' then aX w [] else aX "{PyProof.Rows.tacticWalk_at_ walk_at #0 }" [mtB w]
def mtY (b:List Lean.Name) (n s:String):mtS:=
 let f:=Lean.mkIdent n.toName
 let r:=s.toList
 if s.front=='!' then mtU (r.getD 1 'a')
 else if s.front=='*' then .missing
 else if s.front=='=' then aX "{.exact exact #0 }" [mtA f (r.tail.map λc=>if c=='_' then aX "{:hole _ }" [] else aX "{:byTactic by [[ #0 ]] }" [mtU c])]
 else
  let z:=(r.filter λc=>!(c=='+'||c.isDigit)).zipIdx
  let i:=λp:Char×Nat=>(Lean.mkIdent (b.getD (if p.1=='k' then 0 else p.2+1) .anonymous)).raw
  let t:=aX "{.refine' refine' #0 }" [mtA f (z.map λp=>if p.1=='_' then aX "{:hole _ }" [] else aX "{:syntheticHole ? #0 }" [i p])]
  let t:=if s.front=='+' then t else aX "{.withReducible with_reducible [[ #0 ]] }" [t]
  let g:=λ(l:List mtS) x=>x::.atom .none ";"::l
  let l:=z.foldl (λl p=>if p.1=='_'||p.1=='k' then l else g l (aX "{.case case {null {.caseArg {Lean.binderIdent #0 } {null } } } => [[ #1 ]] }" [i p,mtU p.1])) [t]
  let l:=(List.range (r.foldl (λn c=>if c.isDigit then n+c.toNat - 48 else n) 0)).foldl (λl _=>g l (aX "{.intro intro {null {:hole _ } } }" [])) l
  aX "{.paren ( {.tacticSeq {.tacticSeq1Indented #0 } } ) }" [.node .none `null l.reverse.toArray]
def mtTK:String:="rk:rd_var k:rd_c k:rd_cons k:rd_nil k:rd_seq k:rd_asg k:zF k:FW k:rd_op k:Kg k:rd_call k:rd_cb k:rd_tup k:rd_fld k:xR k:yO k:WA k:rd_if k:rd_test k:rd_tB k:rd_rI0 k:rd_bm k:rd_rt k:rd_ret k:rd_for k:rd_comp k:rd_drop k:rd_lst k:rd_rt0 k:rd_make k:rd_sl k:rd_part k:rd_kPart k:rd_un k:rd_and k:rd_or k:rd_not aHrk:rd_ixTS ak:rd_strI k:rd_rev aqkr:rd_isi k:rd_jCons k:rd_fmt k:rd_methA k:rd_kBMs k:rd_addSI k:rd_eqS k:rd_neS Lk:rd_kJ Lk:rd_jNil Lk:rd_kFmtS ak:rd_kFmtI Lk:rd_addS aHHzzdDk4:nV aHHzzdk:og aok:rd_cell ok:rd_div2 aqk:rd_isi k:rd_noPart k:rd_iRv k:rd_true k:rd_gsub k:rd_mix aHk:rd_sumL aMk:rd_sumC k:rd_addI aHrk:rd_ixTI aHrk2:js aHrk:Xy aHrk2:zX mk:rd_mulB xk:rd_modL yk:rd_modN tk:rd_fdivL ak:rd_fdivB Tk:rd_pow k:rd_nxL k:rd_rtL aANk4:rd_kTup aANk4:rd_kLst k:rd_isbl k:rd_eqI k:rd_neI k:rd_andV k:rd_orV k:rd_notV k:rd_ifE k:rd_rU k:rd_retN aHk:rd_lenT aHk:rd_lenL aMk:rd_lenC k:rd_abs k:rd_min k:rd_max k:rd_iList k:rd_iTup k:rd_iR1 k:rd_iR2 k:rd_iEn k:rd_iZi aHk3:xQ aHk4:rd_kGT3 k:rd_bm0 aMk:rd_kBM aMk:rd_kBM0 aHk4:rd_listL aMk4:rd_listC aHk4:rd_listT aHk4:rd_tupleL aMk4:rd_tupleC k:rd_par k:rd_is2 rk:rd_aug k:rd_ipI k:iteT k:iteF k:iteNF k:iteNT k:rd_nx0 k:rd_ctL k:rd_bkL k:rd_ct k:rd_bk k:rd_eqB k:IH . =_:List.Mem.head +_M:List.Mem.tail . =:Has.int =:Has.bl =:Has.non =:Has.str =:Has.mm . =:zV.nil +HA:zV.cons . !a:- =a:SzQ.num =a:SzQ.den =ss:Sz.mul =ss:Sz.add' =ss:Sz.sub' =d:Sz.lit . !a:- =d:IntMulOk.of_left =d:IntMulOk.of_right =d:mulModOk =ssd:Sz.mulOk . !i:- !j:- !d:- !a:- . =_:List.Sublist.refl =_:List.nil_sublist +_u:List.Sublist.cons₂ +_u:List.Sublist.cons . =:Dats.nil +Hv:Dats.cons . !a:- =zz:SzQ.add =zz:SzQ.sub =zz:SzQ.mul =zz:SzQ.div . =:True.intro !a:- . aHHaak4:rd_gap . rk:iteSY Kk:iteSN k:rd_sortS k:rd_methB . k:rd_methB k:rd_lz . k:lj . k:rd_methB . k:lj . =:kit_tt =:kit_tl =:kit_lt =:kit_ll =:kit_it =:kit_il =:kit_ib =:kit_ii =:kit_st =:kit_sl =:kit_sb =:kit_si =:kit_ss . =r:jbU . !d:_ !o:_ . !a:_ !o:_ . =dd:And.intro . =dt:And.intro ."
def mtK (k:Nat):String:=(mtTK.splitOn " ").getD k "."
def mtN (c:Char):Nat:=if c.isDigit then c.toNat - 48 else c.toNat - 87
def mtT:String:="`apv %`bWG # #`cfc`due`euc # #`feU #`gpcl !3 hr #`hpix %`ips_ret #`jDg _`kps_a % nd0 #`lpe_ix ix_seq # # !1`mps_if # # #`nCy`oFy hr`pqU # # # #`qpe_op op_mulB # #`rpe_str`spe_tup #`top_eqA #`upg_c %`vqV`wdg pB rfl B.len Jh #`xpe_op CD # #`ypgs_cons # #`zlE #`Apg_a % nd0`Bpe_op op_mod # #`Cpcf $ % & # # # #`Dpe_lst #`Eps_expr #`Fpe_bl`Gpt_val #`Hps_for PassesOwn.never rfl # # #`IPW.pt #`Jpw_or # #`Kop_neA #`Lpt_not #`MeU ud`Npe_op op_fdiv # #`Opg_tup rfl #`Ppgs_nil`Qpe_op op_addS # #`Rpe_un un_neg #`Spe_op op_sub # #`Tpscf % nd0 $ % & # # # #`Upo_some #`Vpe_op op_modN # #`WqU op_gt # # #`Xpw_or1 #`Ype_callTy Mm rfl B.list bt_list #`ZqU op_lt # # #`0pe_op op_fdivB # #`1dg # rfl B.sum bt_sum #`2call_sumA rfl`3pe_ccall rfl ZF eL eS xF # hr xE xG pass0 #`4xH.mono !2`5pe_op op_pow # #`6pw_and # #`7pe_slice sl_list # # #`8po_none`9dg call_isi rfl B.isinstance HP #`+pw_and1 #`-pe_callTy LM rfl B.tuple bt_tuple #`*pi_tup #`/pe_methA # # hr yY pass0`<Zv.mono !2`>pe_methA # # hr xq pass0`=Yh.mono !2`!pe_meth # W_ok.cl W_ok.me # hr yj !8 pass0 #`?yL.mono !2`@pi_range1 rfl B.range #`#pi_zip true true rfl B.zip #`$ps_while PassesOwn.never # #`%pif_one #`&pe_fld # rfl`^ps_asg # #`~pe_cmpR # # # #`|pe_and # #`:pe_one #`.pe_methB # # hr xK pass0 #`,Yv.mono !2`;pe_non`_dg call_absA rfl B.abs bt_abs #`(pi_zip false false rfl B.zip #`)ps_fld # # rfl`[qU IL # # rfl`]KC !5 rfl g_FIGURES rfl`{pg_sub # # set_list`}pe_bltn !4 rfl B.tuple bt_tuple rfl`αpe_bm PySem.F.plainAttrs_list PySem.F.slot_list_append PySem.F.type_list_append oG # #`βpi_enum true rfl B.enumerate #`γpe_bltn !4 rfl B.int bt_int rfl`δpe_not #`εpe_bltn !4 rfl B.bool bt_bool rfl`ζps_fldaug # # in_add`ηpe_slice sl_tup # # #`θqU op_le # # #`ιpe_callTy call_strI rfl B.str bt_str #`κpe_op op_rep # #`μGi rfl rfl B2.sorted rfl B2.set #`νdg # rfl B.max bt_max #`ξcall_maxL rfl`πpi_range2 rfl B.range #`ρpe_cmpR op_lt # # #`σpi_enum false rfl B.enumerate #`τpi_rev rfl B.reversed #`υpe_slice sl_str # # #`φpi_str #`χqU op_in_seq # # rfl`ψpe_bm PySem.F.plainAttrs_tuple PySem.F.slot_tuple_index PySem.F.type_tuple_index mt_indexT # #`ωKC !5 rfl g_WORDS rfl`Γpe_make uW # hr rfl DR Ic !8 pass0 #`ΔIm.mono !2`Θpe_make uV # hr rfl DO Ib !8 pass0 #`ΞIl.mono !2`Πpe_make pT # hr rfl uE EY !8 pass0 #`ΣFf.mono !2`Φpe_make EJ # hr rfl IZ Jj !8 pass0 #`ΨJu.mono !2`Ωpe_make0 pQ # hr rfl uB EV !8 pass0`аFc.mono !2`бpe_make0 pU # hr rfl uF EZ !8 pass0`вFh.mono !2`гpe_make0 pR # hr rfl uC EW !8 pass0`дFd.mono !2`еpe_make0 pS # hr rfl uD EX !8 pass0`жFe.mono !2`зpe_make EI # hr rfl IX Ji !8 pass0 #`иJt.mono !2`йpe_bm PySem.F.plainAttrs_str PySem.F.slot_str_join PySem.F.type_str_join mt_join # #`кpi_zip false true rfl B.zip #`лpe_methB # # hr gj pass0 #`мgR.mono !2`нqU op_ge # # #`оpe_lzip true false rfl rfl B.list rfl B.zip #`пps_par !6 !a rfl nd0 rfl rfl !b rfl rfl # rfl`рpe_cmpR op_gt # # #`сdg # rfl B.min Jg #`тEx rfl`уqU op_isN # # #`фqU op_notN # # #`хpe_cmpR op_isN # # #"
def mtZ (w:String):mtS:=
 let z:=mtL "`_{:hole _ }`!1{:fun fun {:basicFun {null {:hole _ } {:hole _ } } {null } => %rfl } }`!2{:byTactic by [[ {PyProof.Rows.tacticWalk_at_ walk_at {str \"l\" } } ]] }`!5{:namedArgument ( %v := {:app {:dotIdent . %ref } {null {:hole _ } } } ) }`!7{:byTactic by [[ {PyProof.Rows.tacticWalk_at_ walk_at {str \"o\" } } ]] }`!8{:dotIdent . %nil }`!9{:anonymousCtor ⟨ {null {:hole _ } , %rfl } ⟩ }`!a{:namedArgument ( %j := {num 1 } ) }`!b{:byTactic by [[ {.decide decide {.optConfig {null } } } ]] }`!3{:byTactic by [[ {.assumption assumption } ]] }" w
 if z=="" then Lean.mkIdent w.toName else aX z []
def mtG:Nat->List Char->mtS×List Char
 |0,r=>(.missing,r)
 |k+1,r=>
  let p:=((mtL mtT (String.ofList (r.take 1))).splitOn " ").foldl (λ(q:List mtS×List Char) w=>
   let r:=q.2
   let x:=String.ofList (r.takeWhile (·!=';'))
   let y:=(r.dropWhile (·!=';')).tail
   let n:mtS:=Lean.Syntax.mkNumLit (toString (mtN (r.headD '0')))
   let f:=λx y=>(x::q.1,y)
   if w=="#" then
    let p:=mtG k r
    f p.1 p.2
   else if w=="%" then f n r.tail
   else if w=="$" then f (Lean.quote (x.splitOn ","):Lean.Term).raw y
   else if w=="&" then f (Lean.quote (x.toList.map mtN):Lean.Term).raw y
   else if w=="!4" then f (aX "{:namedArgument ( %v := {:app {:dotIdent . %ty } {null #0 } } ) }" [mtB x]) y
   else if w=="!6" then f (aX "{:namedArgument ( %i := #0 ) }" [n]) r.tail
   else f (mtZ w) r) ([],r.tail)
  let l:=p.1.reverse
  (mtA l.head! l.tail,p.2)
def mtX (x:mtS):Lean.MacroM mtS:=if x.isMissing then Lean.Macro.throwUnsupported else return x
def mtW (s:String):mtS:=
 let w:=(" mem 127 has 130 hasall 136 sz 139 mul 147 mod 153 rd 0 sub 158 dats 163 szq 166 dom 172 q 191 N 205 x 207 y 210 t 213 T 215 div 213 ".splitOn (" "++s++" ")).getD 1 ""
 if s.front=='-' then aX "{.paren ( [[ {.rintro rintro {null {.rintroPat.one {.rcasesPat.one %mtf } } {.rintroPat.one {.rcasesPat.one %mtd } } {.rintroPat.one {.rcasesPat.tuple ⟨ {null {.rcasesPatLo {.rcasesPatMed {null {.rcasesPat.one %mtF } } } {null } } , {.rcasesPatLo {.rcasesPatMed {null {.rcasesPat.one %mtm } } } {null } } , {.rcasesPatLo {.rcasesPatMed {null {.rcasesPat.one %mtb } } } {null } } } ⟩ } } } {null } } ; {.refine refine {:app %UM {null %mtF {:app %mtF.oo {null #0 {:fun fun {:basicFun {null %H %vs %Q %E %hr %nd0 %h } {null } => {:syntheticHole ? _ } } } } } %mtm %mtb } } } ]] ) }" [Lean.mkIdent (mtI s 1).toName]
 else if s.front=='+' then aX "{.refine refine {:app %F.oo {null #0 {:fun fun {:basicFun {null %H %vs %Q %E %hr %nd0 %h } {null } => {:syntheticHole ? _ } } } } } }" [Lean.mkIdent (mtI s 1).toName]
 else if s.front=='=' then aX "{.paren ( [[ {.refine refine {:anonymousCtor ⟨ {null {:hole _ } , #0 , {:app %lr {null {:syntheticHole ? _ } } } } ⟩ } } ; {.tacticTry_ try [[ {.dsimp dsimp {.optConfig {null } } {null } {null only } {null [ {null {.simpLemma {null } {null } %kxx } , {.simpLemma {null } {null } %kyy } } ] } {null } } ]] } ]] ) }" [(mtG 999 (s.toList.drop 1)).1]
 else if s=="n" then aX "{.paren ( [[ {.intro intro {null {:hole _ } {:hole _ } {:hole _ } {:hole _ } %h } } ; {.tacticRepeat_ repeat [[ {.first first {null {group | [[ {.exact exact {:proj {:proj %h . {fieldIdx 1 } } . %len.symm } } ]] } {group | [[ {.exact exact {:subst {:proj %h . {fieldIdx 1 } } ▸ {null %rfl } } } ]] } {group | [[ {.obtain obtain {null {.rcasesPatMed {null {.rcasesPat.tuple ⟨ {null {.rcasesPatLo {.rcasesPatMed {null {.rcasesPat.ignore _ } } } {null } } , {.rcasesPatLo {.rcasesPatMed {null {.rcasesPat.one %h } } } {null } } } ⟩ } } } } {null } {null := {null %h } } } ]] } } } ]] } ]] ) }" []
 else if w=="" then .missing else aX "{.first first {null {group | [[ {.fail fail {null #0 } } ]] } {group | [[ {.fail fail {null } } ]] } } }" [mtB ("&"++(w.splitOn " ").head!)]
def mtV (b:List Lean.Name) (s:String):mtS:=if s.front !='&' then .missing else
 let w:=(mtK (mtI s 1).toNat!).splitOn ":"
 if w.length==2 then mtY b (w.getD 1 "") w.head! else .missing
def mtJ (s:String):mtS:=if s.front !='&' then .missing else
 let k:=(mtI s 1).toNat! +1
 if mtK k=="." then .missing else aX "{.fail fail {null #0 } }" [mtB ("&"++toString k)]
local macro_rules|`(tactic|walk_at $s:str)=>mtX (mtW s.getString)
local macro_rules|`(tactic|fail $s:str)=>mtX (mtJ s.getString)
local macro_rules|`(tactic|fail $s:str)=>do mtX (mtV (<-(List.range 12).mapM λi=>Lean.Macro.addMacroScope (.mkSimple (if i==0 then "k" else "x"++toString i))) s.getString)
local macro_rules|`(tactic|walk_at "walk")=>`(tactic|repeat walk_at "rd")
def FF (K:Frg):Sp:=λvs H Q _=>∃(a:Addr) (ns:List Int),vs=[.ref a]/\SqL K H a (ns.map V.int)/\ns.length<=63/\Only H/\∀H',Q (.bl true) H'
def UM {P:Program} {w:World} {K:Frg} {mg:Str->Option Value} {base:Heap} {f:Addr} {fd:FuncData} {k:Nat} {x:Str} {st:Stmt} {ps:List Str} {sp:Sp} (F:Fun K x x st f fd) (G:FnOk P w K mg base CX0 k f fd ps sp) (hm:mg x=some (.ref f)) (b:yp K fd ps []):Cal P w K mg base CX0 k x ps sp:=⟨f,fd,G,hm,F.kp,b⟩
section
abbrev Coo (P:Program) (w:World) (K:Frg) (mg:Str->Option Value) (base:Heap) (x:Str) (st:Stmt) (k:Nat) (ps:List Str) (sp:Sp):Prop:=∀{f:Addr} {fd:FuncData},DkT K mg x st f fd ps->Cal P w K mg base CX0 k x ps sp
variable {P:Program} {w:World} {K:Frg} {mg:Str->Option Value} {base:Heap} {f:Addr} {fd:FuncData}
def top (i:Nat):Stmt:=PySem.Challenge.pw_shortpurse_k42_whole_going_away_and_two.main.body.getD i (.Pass ⟨0,0,0,0⟩)
abbrev xP:Stmt:=top 24
def VM:FnScope ["one","two","rest"] pab (zh xP):=yP
abbrev kP:Stmt:=top 23
def BH:FnScope ["top","bottom","divisor"] pal (zh kP):=yP
def spGcd:Sp:=λvs H Q _=>∃a b:Int,vs=[.int a, .int b]/\0<=a/\0<=b/\Q (.int (Int.gcd a b:Nat)) H
def ok_gcd:Coo P w K mg base "greatest_divisor" xP 1 pab spGcd:=by
 walk_at "-VM";obtain ⟨a,b,rfl,ha,p,q⟩:=h;walk_at "=e$pKoa1djek2Va0a1ek0a1fk1a2fia0";refine jX (λm σ H2=>∃(x y:Int) (v:Option V),σ=[some (.int x),some (.int y),v]/\0<=x/\0<=y/\Int.gcd x y=Int.gcd a b/\H2=H/\m=y.toNat) _ ⟨a,b,none,rfl,ha,p,rfl,rfl,rfl⟩ ?_
 rintro m σ H2 ⟨x,y,v,rfl,hx,hy,hg,rfl,rfl⟩
 left;refine BY (λc=>?_) (λc=>?_)
 ·have c:y≠0:=by simpa using c
  left;have e:x.fmod y=x % y:=QZ x hy;have g:=TZ x c;have r:=TM x (show 0<y by lia);refine ⟨(x.fmod y).toNat,by rw [e];lia,y,x.fmod y,_,rfl,hy,by rw [e];exact g,?_,rfl,rfl⟩;rw [e,uz,hg]
 ·have c:y=0:=by simpa using c
  subst c;left;have e:x=((Int.gcd a b:Nat):Int):=by rw [<-hg,Int.gcd_zero];lia
  show Q (.int x) H2;rw [e];exact q
def CP (B:Bl mg) (t:Cal P w K mg base CX0 1 "greatest_divisor" pab spGcd):Coo P w K mg base "lowest" kP 2 pal Xn:=by
 walk_at "-BH";obtain ⟨G,⟨a,b⟩,s,r,⟨m,g⟩,k⟩:=h;cases (yv (ns:=[a,b]) r);have S:Sta H G H [] []:=Sta.enter s λp hp=>absurd hp Qm;dsimp only at m g k;walk_at "=ek2gb_ba0cb_ba1ccemZa1djfk2Ra2nfisb0a0a2b0a1a2c";left;refine ⟨_,_,rfl,⋯,⋯,?_⟩;rw [show Int.gcd (a.natAbs:Int) (b.natAbs:Int)=Int.gcd a b by simp;rfl];have u:0<Int.gcd a b:=jaR a m;left;refine yH (λc=>?_) (λc=>?_)
 ·have q:CDv a (-((Int.gcd a b:Nat):Int)):=⟨⋯,g.le ⋯⟩;left;refine Zo (by assumption) k (.mem ?_);rw [show frD (Rat.divInt a b)= .tuple [.int (a.fdiv (-((Int.gcd a b:Nat):Int))), .int (b.fdiv (-((Int.gcd a b:Nat):Int)))] by unfold frD;rw [<-(Dp c).1,<-(Dp c).2]];walk_at "mem"
 ·have q:CDv a ((Int.gcd a b:Nat):Int):=⟨⋯,g⟩;left;refine Zo (by assumption) k (.mem ?_);rw [show frD (Rat.divInt a b)= .tuple [.int (a.fdiv ((Int.gcd a b:Nat):Int)), .int (b.fdiv ((Int.gcd a b:Nat):Int))] by unfold frD;rw [<-(Ug (show 0<b by lia)).1,<-(Ug (show 0<b by lia)).2]];walk_at "mem"
abbrev BN:Stmt:=top 17
def JQ:FnScope pab pab (zh BN):=yP
def KR (I:Cal P w K mg base CX0 2 "lowest" pal Xn):Coo P w K mg base "plus" BN 3 pab ja:=by
 walk_at "-JQ";obtain ⟨G,⟨p,q⟩,t,s,⟨⟨m,n,hp,g,u⟩,_⟩,k⟩:=h;obtain ⟨v,y,rfl,al⟩:=xB s;have S:Sta H G H [] _:=Sta.enter t al;dsimp only at hp g k S;have D:IntMulOk p.num (q.den:Int):=hp.1.mulOk g.2 ⋯;have C:IntMulOk q.num (p.den:Int):=g.1.mulOk hp.2 ⋯;have A:IntMulOk (p.den:Int) (q.den:Int):=hp.2.mulOk g.2 ⋯;have z:IntMulOk p.num q.num:=hp.1.mulOk g.1 ⋯;walk_at "=figbxqh0h1qh1h0bqh0h1c";left;refine Wy (by assumption) (xh p q) (aU hp g u) λr H' e S=>?_;rw [mH] at S;exact Zo S k .mm
abbrev qO:Stmt:=top 18
def FQ:FnScope pab pab (zh qO):=yP
def GC (I:Cal P w K mg base CX0 2 "lowest" pal Xn):Coo P w K mg base "minus" qO 3 pab ak:=by
 walk_at "-FQ";obtain ⟨G,⟨p,q⟩,t,s,⟨⟨m,n,hp,g,u⟩,_⟩,k⟩:=h;obtain ⟨v,y,rfl,al⟩:=xB s;have S:Sta H G H [] _:=Sta.enter t al;dsimp only at hp g k S;have D:IntMulOk p.num (q.den:Int):=hp.1.mulOk g.2 ⋯;have C:IntMulOk q.num (p.den:Int):=g.1.mulOk hp.2 ⋯;have A:IntMulOk (p.den:Int) (q.den:Int):=hp.2.mulOk g.2 ⋯;have z:IntMulOk p.num q.num:=hp.1.mulOk g.1 ⋯;walk_at "=figbSqh0h1qh1h0bqh0h1c";left;refine Wy (by assumption) (xh p q) (wX hp g u) λr H' e S=>?_;rw [jZ] at S;exact Zo S k .mm
abbrev qN:Stmt:=top 19
def FO:FnScope pab pab (zh qN):=yP
def Gp (I:Cal P w K mg base CX0 2 "lowest" pal Xn):Coo P w K mg base "times" qN 3 pab qq:=by
 walk_at "-FO";obtain ⟨G,⟨p,q⟩,t,s,⟨⟨m,n,hp,g,u⟩,_⟩,k⟩:=h;obtain ⟨v,y,rfl,al⟩:=xB s;have S:Sta H G H [] _:=Sta.enter t al;dsimp only at hp g k S;have D:IntMulOk p.num (q.den:Int):=hp.1.mulOk g.2 ⋯;have C:IntMulOk q.num (p.den:Int):=g.1.mulOk hp.2 ⋯;have A:IntMulOk (p.den:Int) (q.den:Int):=hp.2.mulOk g.2 ⋯;have z:IntMulOk p.num q.num:=hp.1.mulOk g.1 ⋯;walk_at "=figbqh0h1bqh0h1c";left;refine Wy (by assumption) (xh p q) (wY hp g u) λr H' e S=>?_;rw [Dh] at S;exact Zo S k .mm
abbrev BO:Stmt:=top 20
def JR:FnScope pab pab (zh BO):=yP
def KS (D:Cal P w K mg base CX0 2 "lowest" pal Xn):Coo P w K mg base "over" BO 3 pab IC:=by
 walk_at "-JR";obtain ⟨G,⟨p,q⟩,u,t,⟨⟨m,n,hp,g,y⟩,h0⟩,k⟩:=h;obtain ⟨v,z,rfl,al⟩:=xB t;have S:Sta H G H [] _:=Sta.enter u al;dsimp only at hp g k S h0;have C:IntMulOk p.num (q.den:Int):=hp.1.mulOk g.2 ⋯;have A:IntMulOk (p.den:Int) q.num:=hp.2.mulOk g.1 ⋯;have s:=IM h0;walk_at "=emptoh1djMnfigbqh0h1bqh0h1c";left;refine yH (λc=>absurd c s) (λ_=>?_);left;refine Wy (by assumption) (Int.mul_ne_zero (Int.ne_of_gt (den_pos p)) s) (Aa hp g s y) λr H' e S=>?_;rw [Em p q h0] at S;exact Zo S k .mm
abbrev kX:Stmt:=top 21
def BK:FnScope pab pab (zh kX):=yP
def Dc:Coo P w K mg base "before" kX 1 pab cZ:=by
 walk_at "-BK";obtain ⟨⟨p,q⟩,r,⟨m,n,hp,g,y⟩,k⟩:=h;obtain ⟨v,s,rfl,al⟩:=xB r;have S:Sta H H H [] _:=Sta.enter (zG.refl _) al;dsimp only at hp g k S;have u:IntMulOk p.num (q.den:Int):=hp.1.mulOk g.2 ⋯;have t:IntMulOk q.num (p.den:Int):=g.1.mulOk hp.2 ⋯;walk_at "=fiρqh0h1qh1h0j";left;rw [show decide (p<q)=decide (p.num*(q.den:Int)<q.num*(p.den:Int)) from decide_eq_decide.mpr (Rat.lt_iff p q)] at k;exact k
abbrev YB:Stmt:=top 45
def ee:FnScope ["amounts","amount","low","high","middle"] ["amounts","amount"] (zh YB):=yP
def KW (B:Bl mg) (T:Cal P w K mg base CX0 1 "before" pab cZ):Coo P w K mg base "last_reached" YB 2 ["amounts","amount"] Bv:=by
 walk_at "-ee";obtain ⟨qs,e,n,M,⟨s,U,I,L,hn,t⟩,k⟩:=h;obtain ⟨G,D,rfl,al⟩:=xB M;have S:Sta H H H [] [(.list (qs.map frD),G),(frD e,D)]:=Sta.enter (zG.refl _) al;have z:n+n<=100000000:=⋯
 walk_at "=ek2dek3wba0ce$WSa3a2djek4Nxa2a3dfmGgba1bla0a4cfk3a4fk2a4fia2";left
 refine jX (λm σ H2=>∃(low high:Nat) (C:Option V) (q:Rat),σ=[some G,some D,some (.int (low:Nat)),some (.int (high:Nat)),C]/\H2=H/\low<high/\high<=qs.length/\qs[low]? =some q/\q<=e/\(high=qs.length\/∃r,qs[high]? =some r/\e<r)/\m=high - low) (qs.length - 0) ⟨0,qs.length,none,qs[0],by
  rw [Qb];rfl,rfl,s,Qs _,Qa s,t _ (Qa s), .inl rfl,rfl⟩ ?_
 rintro m σ H2 ⟨low,high,C,q,rfl,rfl,hlh,hhn,hq,OU,hhi,rfl⟩
 left;refine BY (λc=>?_) (λc=>?_)
 ·have c:1<(high:Int) - low:=by simpa using c
  have em:((low:Int)+high) / 2=(((low+high) / 2:Nat):Int):=⋯
  have y:low<(low+high) / 2:=⋯
  have u:(low+high) / 2<high:=⋯
  left;rw [em];generalize (low+high) / 2=mid at*;have g:qs[mid]? =some (qs[mid]'⋯):=Qa _;generalize (qs[mid]'⋯)=p at*;refine zX S .mm (zW (by rw [Qh,g];rfl)) λwp O=>?_;have J:=I p (Qd g);refine og O .mm .mm L J z ?_;left;refine yH (λA=>?_) (λA=>?_)
  ·left;exact ⟨mid - low,⋯,low,mid,_,q,rfl,rfl,y,⋯,hq,OU, .inr ⟨p,g,A⟩,rfl⟩
  ·left;exact ⟨high - mid,⋯,mid,high,_,p,rfl,rfl,u,hhn,g,TX.mp A,hhi,rfl⟩
 ·have c:¬1<(high:Int) - low:=by simpa using c
  have N:high=low+1:=⋯
  subst N;left;exact k low q hq OU hhi
abbrev Za:Stmt:=top 41
def Uu:FnScope paH paH (zh Za):=yP
def wb (T:Cal P w K mg base CX0 3 "minus" pab ak) (U:Cal P w K mg base CX0 3 "over" pab IC):Coo P w K mg base "portion_reached" Za 4 paH dO:=by
 walk_at "-Uu";obtain ⟨G,⟨A,O,x⟩,r,q,⟨⟨m,n,z1,z2,g,J⟩,p⟩,k⟩:=h;obtain ⟨v1,v2,y,rfl,al⟩:=Yc q;have S:Sta H G H [] _:=Sta.enter r al;dsimp only at z1 z2 g p k S;walk_at "=figbgba2ba0cbgba1ba0cc";left;refine nV S .mm .mm g z1 ⋯ True.intro λI H1 N u=>?_;left;refine nV u .mm .mm z2 z1 ⋯ True.intro λD Y M t=>?_;left;refine nV t .mm .mm (g.sub z1) (z2.sub z1) ⋯ (λz=>p (by grind)) λC X L s=>?_;exact Zo s k .mm
abbrev VW:Stmt:=top 42
def nL:FnScope paF paF (zh VW):=yP
def Dd (U:Cal P w K mg base CX0 3 "plus" pab ja) (T:Cal P w K mg base CX0 3 "minus" pab ak) (I:Cal P w K mg base CX0 3 "times" pab qq):Coo P w K mg base "amount_at" VW 4 paF kC:=by
 walk_at "-nL";obtain ⟨G,⟨z,O,t⟩,q,p,⟨m,n,z1,z2,g,J⟩,k⟩:=h;obtain ⟨v1,v2,y,rfl,al⟩:=Yc p;have S:Sta H G H [] _:=Sta.enter q al;dsimp only at z1 z2 g k S;walk_at "=figba0bgba2bgba1ba0ccc";left;refine nV S .mm .mm z2 z1 ⋯ True.intro λD H1 N u=>?_;left;refine nV u .mm .mm g (z2.sub z1) ⋯ True.intro λC Y M s=>?_;left;refine nV s .mm .mm z1 (g.mul (z2.sub z1)) ⋯ True.intro λA X L r=>?_;exact Zo r k .mm
abbrev ZT:Stmt:=top 40
def cx:FnScope ["start","end","purse","portion"] paU (zh ZT):=yP
def wq (B:Bl mg) (AD:Cal P w K mg base CX0 4 "portion_reached" paH dO) (Mi:Cal P w K mg base CX0 4 "amount_at" paF kC):Coo P w K mg base "parts_between" ZT 5 paU dR:=by
 walk_at "-cx";obtain ⟨G,⟨c,d,e⟩,X,O,⟨⟨m,n,z1,z2,g,hz⟩,p,N⟩,k⟩:=h;obtain ⟨v1,v2,v3,rfl,al⟩:=Yc O;have S:Sta H G H [] _:=Sta.enter X al;dsimp only at z1 z2 g p N k S;walk_at "=ek3gbh0bh1ba2cfi-bCone,two,portion;23;(bh0bh1cOyu0yu1Pvgba0ba1ba2cc";left;rename_i I S1 A Z;refine vO Z .mm .mm .mm z1.1 z2.1 g ⋯ (λz=>by rw [z] at p;exact jaP p) λr3 H3 e3 S3=>?_;have u:SzQ (m+3*n+2) ((e - c.1) / (d.1 - c.1)):=((g.sub z1.1).div (z2.1.sub z1.1)).mono ⋯;left;rename_i w4 S4 w5 q;unfold Wj at k;generalize (e - c.1) / (d.1 - c.1)=t at*;refine lB (xs:=c.2.map frD) q .mm .mm λJ y=>?_;refine yg y (λj=>frD ((List.zipWith (Ya t) c.2 d.2).getD j 0)) (ys:=(List.zipWith (Ya t) c.2 d.2).map frD) ?_ q (λ_ _=>⟨.mem (by right),λ_ _ h=>h.tail, .mem (by right)⟩) (by rw [yI,Qb,Qb];lia) (λj x v B' G' Kd Kn M t1 S hd C ex s0 H0=>?_) λD H1 e1 S1=>?_
 ·rw [yI,Qb,Qb,show min c.2.length d.2.length=(List.zipWith (Ya t) c.2 d.2).length by rw [Qy]];exact zv frD 0 _
 ·obtain ⟨x1,x2,U,T,rfl⟩:=ZR M;obtain ⟨n1,s,rfl⟩:=zM U;obtain ⟨L,r,rfl⟩:=zM T;refine xR (xQ S .mm λI A S=>?_);refine yO (zF (yO (zF (WA ⟨rfl,?_⟩))));left;refine Cs S .mm .mm .mm (z1.2 n1 (Qd s)) (z2.2 L (Qd r)) u ⋯ λr6 H6 e6 Y=>?_;refine hd Y ?_;rw [zA (by rw [Qx,s,r])];exact .mem (by right)
 left;exact Zo (by assumption) k .mm
abbrev ax:Stmt:=top 33
def qF:FnScope ["path","purse","place"] ["path","purse"] (zh ax):=yP
def we (B:Bl mg) (Fl:Cal P w K mg base CX0 2 "last_reached" ["amounts","amount"] Bv) (EO:Cal P w K mg base CX0 5 "parts_between" paU dR):Coo P w K mg base "parts_at" ax 6 ["path","purse"] dP:=by
 walk_at "-qF";obtain ⟨G,⟨a,e⟩,Z,Y,⟨m,n,ok,u,T,h0⟩,k⟩:=h;obtain ⟨v1,v2,rfl,al⟩:=xB Y;have S:Sta H G H [] _:=Sta.enter Z al;dsimp only at ok u h0 k S;have few:=ok.few
 have Pg:¬e.num<0:=by
  have:=Rat.num_nonneg.mpr h0;lia
 have O:0<a.length:=jbb.mpr ok.ne;walk_at "=emZh1djMnek2gbCcorner;1;za0u0vh0ba1cemptoa2Swba0cdjfilla0a2dnfigbla0a2bla0xa2dba1c";left;refine yH (λc=>absurd c Pg) (λ_=>?_);left;refine zZ S .mm λJ M=>?_;refine xj M (λj=>frD ((λc:zi=>c.1) (a.getD j (0,[])))) (ys:=(a.map λc=>c.1).map frD) (by rw [Qb,Qo];exact zv (λc:zi=>frD c.1) (0,[]) a) S (λj x v=>λU t1 S hd=>?_) λD H1 e1 s=>?_
 ·obtain ⟨c,g,rfl⟩:=zM U;refine zF ⟨rfl,?_⟩;left;refine hd (by assumption) ?_;rw [zA g];exact .mem (by right)
 left;refine Km (qs:=a.map λc=>c.1) (e:=e) (n:=9000) s (s.hpC (by right)) (s.hp .mm) ⟨by rw [Qb];exact O,by rw [Qb];lia,λq y=>?_,u.mono ⋯,nofun,λq y=>?_⟩ λi q X OU z=>?_
 ·obtain ⟨c,g,rfl⟩:=Qk.mp y;exact (ok.sz c g).1.mono ⋯
 ·obtain ⟨c,g,rfl⟩:=zM y;rw [ok.zero c g];exact h0
 obtain ⟨c,g,rfl⟩:=zM X;have p:i<a.length:=(Qf.mp g).1
 have key:=Zt ok.rise g OU (by
  rcases z with h|⟨r,t,h⟩
  ·exact Or.inl ‹h›
  ·obtain ⟨d,hd,rfl⟩:=zM t
   exact .inr ⟨d,hd,h⟩)
 left;refine yH (λA=>?_) (λA=>?_)
 ·rw [Qb] at A;rw [QC (show a.length<=i+1 by lia)] at key;left;refine zX s .mm (zW (by rw [Qh,g];rfl)) λN C=>?_;left;rw [key] at k;exact Zo (by assumption) k .mm
 ·rw [Qb] at A;have I:i+1<a.length:=⋯
  have hd:=Qa I;have t:=ok.rise;unfold yG at t;rw [QR] at t;have L:=t i (i+1) p I ⋯;rw [List.getElem_eq_iff p|>.mpr g] at L;generalize a[i+1]=d at*;rw [hd] at key;left;refine zX s .mm (zW (by rw [Qh,g];rfl)) λN C=>?_;left;refine zX C .mm (by rw [show ((i:Nat):Int)+1=((i+1:Nat):Int) by lia];exact zW (by rw [Qh,hd];rfl)) λwd S3=>?_;left;refine vS S3 .mm .mm .mm (ok.sz c (Qd g)) (ok.sz d (Qd hd)) u T L (ok.len c (Qd g)) λr4 H4 e4 S4=>?_;rw [key] at k;exact Zo S4 k .mm
local macro_rules|`(tactic|walk_at "rd")=>`(tactic|first|fail "&175"|fail)
abbrev JS:Stmt:=top 39
def sc_gap:FnScope pab pab (zh JS):=yP
abbrev Xv:Stmt:=top 38
def gZ:FnScope ["ahead","corner","following","near","far","place","start","rise","whole"] paI (zh Xv):=yP
abbrev eE:Stmt:=top 32
def vH:FnScope ["corners","last"] ["corners"] (zh eE):=yP
def ok_gap:Coo P w K mg base "gap" JS 1 pab JK:=by
 walk_at "-sc_gap";obtain ⟨G,⟨p,q⟩,r,m,⟨hp,g⟩,k⟩:=h;obtain ⟨v,s,rfl,al⟩:=xB m;have S:Sta H G H [] _:=Sta.enter r al;dsimp only at hp g k S;have y:IntMulOk q.num (p.den:Int):=g.1.mulOk hp.2 nofun;have u:IntMulOk p.num (q.den:Int):=hp.1.mulOk g.2 nofun;have t:IntMulOk (p.den:Int) (q.den:Int):=hp.2.mulOk g.2 nofun;walk_at "=fisbSqh1h0qh0h1bqh0h1c";left;exact Zo (by assumption) k .mm
def rh (B:Bl mg) (MY:Cal P w K mg base CX0 1 "gap" pab JK):Coo P w K mg base "is_straight" Xv 2 paI JG:=by
 walk_at "-gZ";obtain ⟨⟨a,b,c⟩,hA,⟨sa,sb,sc,l1,l2,l3⟩,k⟩:=h;obtain ⟨X,U,T,rfl,al⟩:=Yc hA;have S:Sta H H H [] _:=Sta.enter (zG.refl _) al;dsimp only at sa sb sc l1 l2 l3 k S;have za:=sa.1;have zb:=sb.1;have zc:=sc.1;have zn:=uA za zb;have D:=uA za zc;walk_at "=ek3gbh0bh1cek4gbh0bh2ceHσbh0cOyA5yA6Pek7gba6blh1a5cek8gba6blh2a5cfmpKoqqqh7h3h8h4qqqh8h4h7h3jfiFnfiF";left;rename_i w1 _ w2 _ N H1 e1 S1 w3 _ w4 _ O H2 e2 S2 w5 S3;refine Kr S3 .mm λJ wk=>?_;have S4:Sta H H H2 [] [(zS a.2,w5),(Ml a.1 b.1,N),(Ml a.1 c.1,O),(zY a,X),(zY b,U),(zY c,T)]:=S3.dat ‹()›
 refine Zu wk (λi σ cs ds=>∃(M L I G:Option V),σ=[some X,some U,some T,some N,some O,M,L,I,G]/\cs=[]/\ds=[(zS a.2,w5),(Ml a.1 b.1,N),(Ml a.1 c.1,O),(zY a,X),(zY b,U),(zY c,T)]/\
  ∀(j:Nat) (x y z:Rat),j<i->a.2[j]? =some x->b.2[j]? =some y->c.2[j]? =some z->(y - x)*(c.1 - a.1)=(z - x)*(b.1 - a.1)) S4 ⟨none,none,none,none,rfl,rfl,rfl,λj x y z hj=>absurd hj (Nat.not_lt_zero _)⟩ (λi σ cs ds h=>?_) ?_ ?_
 ·obtain ⟨_,_,_,_,_,_,rfl,_⟩:=h;exact .mem (by right)
 ·rintro i x u σ H5 cs ds C ⟨M,L,I,G,rfl,rfl,rfl,inv⟩ S5
  obtain ⟨x0,Od,rfl⟩:=dj C;obtain ⟨p,hp,rfl⟩:=zM Od;have hi:i<a.2.length:=(Qf.mp hp).1;have m:b.2[i]? =some (b.2[i]'⋯):=Qa _;have g:c.2[i]? =some (c.2[i]'⋯):=Qa _;generalize (b.2[i]'⋯)=q at*;generalize (c.2[i]'⋯)=r at*;have zp:SzQ 2000 p:=sa.2 p (Qd hp);have zq:SzQ 2000 q:=sb.2 q (Qd m);have zr:SzQ 2000 r:=sc.2 r (Qd g);have t:=uA zp zq;have A:=uA zp zr;have ib:atI (b.2.map frD) ((i:Nat):Int)=some (frD q):=zW (by rw [Qh,m];rfl);have ic:atI (c.2.map frD) ((i:Nat):Int)=some (frD r):=zW (by rw [Qh,g];rfl);refine xR (xQ S5 .mm λu1 u2 S6=>?_);cases S6.int1;left;rename_i u3 S7;refine js S7 .mm ib λu4 S8=>?_;left;rename_i vr H9 e9 S9 u5 NW;refine js NW .mm ic λu6 NV=>?_;have m1:=t.1.mul zn.2;have m2:=m1.mul A.2;have m3:=A.1.mul D.2;have m4:=m3.mul t.2;have o1:=t.1.mulOk zn.2 nofun;have o2:=m1.mulOk A.2 nofun;have o3:=m2.mulOk D.1 nofun;have o4:=A.1.mulOk D.2 nofun;have o5:=m3.mulOk t.2 nofun;have o6:=m4.mulOk zn.1 nofun;left
  have cr:=Er (rn:=q.num*(p.den:Int) - p.num*(q.den:Int)) (rd:=(p.den:Int)*(q.den:Int)) (nn:=b.1.num*(a.1.den:Int) - a.1.num*(b.1.den:Int)) (nd:=(a.1.den:Int)*(b.1.den:Int))
   (wn:=r.num*(p.den:Int) - p.num*(r.den:Int)) (wd:=(p.den:Int)*(r.den:Int)) (fn:=c.1.num*(a.1.den:Int) - a.1.num*(c.1.den:Int)) (fd:=(a.1.den:Int)*(c.1.den:Int)) (xh _ _) (xh _ _) (xh _ _) (xh _ _)
  rw [lW,lW,lW,lW] at cr;refine uv (λz=>?_) (λz=>?_)
  ·left;have NM:¬zL a b c:=λst=>z (cr.mp (st i _ _ _ hp m g));rw [show (@decide (zL a b c) (Classical.propDecidable _))=false from @decide_eq_false _ (Classical.propDecidable _) NM] at k;exact vK (by assumption) k
  ·left;rename_i vw RD e12 Oc;refine YE (Oc.dat ‹()›) ⟨_,_,_,_,rfl,rfl,rfl,λj x y z' hj Z Px s=>?_⟩
   by_cases Y:j<i
   ·exact inv j x y z' Y Z Px s
   ·have:j=i:=⋯
    subst this;rw [hp] at Z;rw [m] at Px;rw [g] at s;cases Z;cases Px;cases s;exact cr.mpr z
 ·rintro σ H5 cs ds ⟨M,L,I,G,rfl,rfl,rfl,inv⟩ S5
  left
  have NM:zL a b c:=λi x y z C hy hz=>inv i x y z (by
   have:=(Qf.mp C).1
   rw [Yf,Qb];exact this) C hy hz
  rw [show (@decide (zL a b c) (Classical.propDecidable _))=true from @decide_eq_true _ (Classical.propDecidable _) NM] at k;exact vK S5 k
def vY (B:Bl mg) (Iq:Cal P w K mg base CX0 2 "is_straight" paI JG):Coo P w K mg base "thinned" eE 3 ["corners"] dM:=by
 walk_at "-vH";obtain ⟨G,a,eG,hA,⟨m,ok⟩,k⟩:=h;obtain ⟨v0,rfl,al⟩:=Yd hA;have S:Sta H G H [] _:=Sta.enter eG al;have few:=ok.few;walk_at "=ek1Swba0cdfiCplace,corner,corners,last;201;βba0cOyu0yu1P%IJptoa0djJptoa0a3jXLGgbla2Sa0dba1bla2xa0dca1";left;refine Co S .mm λJ wk=>?_;refine bq wk (λj=>if Yb a j then (a[j]?).map zY else none) S (λ_ _=> .mem (by right)) (by rw [Yf,Qb];lia) (λi x v Z Y Kd Kn t t1 S hd hn C ex s0 H0=>?_) λD H1 e1 X=>?_
 ·obtain ⟨x0,Od,rfl⟩:=dj t;obtain ⟨c,r,rfl⟩:=zM Od;have hi:i<a.length:=(Qf.mp r).1;refine xR (xQ S .mm λu1 N u=>?_);cases u.int1;refine yO (zF (yO (zF (WA ⟨rfl,?_⟩))));rw [r] at hd hn;have yes:Yb a i=true->∀{g:Hp} {cs':yN} {ds':Dat},Sta Z Y g cs' ds'->Has ds' (zY c) N->Kd N g:=λhk {g cs' ds'} p h5=>hd (by rw [hk];rfl) p h5;have no:Yb a i=false->∀{g:Hp} {cs':yN} {ds':Dat},Sta Z Y g cs' ds'->Kn g:=λhk {g cs' ds'} p=>hn (by rw [hk];rfl) p;left;refine yH (λc0=>?_) (λc0=>?_)
  ·left;exact yes (YX (.inl ⋯)) u .mm
  ·left;refine yH (λI=>?_) (λI=>?_)
   ·left;rw [Qb] at I;exact yes (YX (.inr (.inl ⋯))) u .mm
   ·rw [Qb] at I;have h0:i - 1<a.length:=⋯
    have U:i+1<a.length:=⋯
    have A:=Qa h0;have g2:=Qa U;have s:=Ta h0;have L:=Ta U;generalize a[i - 1]=c0' at*;generalize a[i+1]=c2' at*;have M:=Qd r;left;refine zX u .mm (Jk ⋯ (by rw [show ((i:Int) - 1).toNat=i - 1 by lia,Qh,A];rfl)) λu3 S3=>?_;left;refine zX S3 .mm (Jk ⋯ (by rw [show ((i:Int)+1).toNat=i+1 by lia,Qh,g2];rfl)) λu4 S4=>?_;left;refine rd_str S4 .mm .mm .mm (ok.sz _ s) (ok.sz _ M) (ok.sz _ L) (by rw [ok.len _ M,ok.len _ s]) (by rw [ok.len _ L,ok.len _ s]) (by rw [ok.len _ s];exact ok.m) λg p=>?_;left;refine @uv _ _ _ (_) (λz=>?_) (λz=>?_)
    ·left;exact yes (YX (.inr (.inr λq=>z (q _ _ _ A r g2)))) p .mm
    ·refine no ?_ p;refine jC ?_
     rintro (q|q|q)
     ·lia
     ·lia
     ·refine q λx y z' t T O=>?_;rw [A] at t;rw [r] at T;rw [g2] at O;cases t;cases T;cases O;exact z
 ·left;rw [Yf,Qb,wL] at X;exact Zp X k
abbrev VO:Stmt:=top 43
def nD:FnScope pay pay (zh VO):=yP
def oA (B:Bl mg) (VE:Cal P w K mg base CX0 3 "plus" pab ja):Coo P w K mg base "plus_each" VO 4 pay (ny λp q=>p+q):=by
 walk_at "-nD";obtain ⟨G,⟨p,q⟩,L,z,⟨s1,s2,y⟩,k⟩:=h;obtain ⟨v,X,rfl,al⟩:=xB z;have S:Sta H G H [] _:=Sta.enter L al;dsimp only at s1 s2 y k S;walk_at "=fi-bCone,two;2;(ba0ba1cOyu0yu1Pvgba0ba1cc";left;refine lB (xs:=p.map frD) S .mm .mm λJ s=>?_;refine yg s (λj=>frD ((List.zipWith (λp q=>p+q) p q).getD j 0)) (ys:=(List.zipWith (λp q=>p+q) p q).map frD) ?_ S (λ_ _=>⟨.mem (by right),λ_ _ h=>h.tail, .mem (by right)⟩) (by rw [yI,Qb,Qb];lia) (λj x v B' G' Kd Kn u t1 S hd C ex s0 H0=>?_) λD H1 Z S1=>?_
 ·rw [yI,Qb,Qb,show min p.length q.length=(List.zipWith (λp q=>p+q) p q).length by rw [Qy]];exact zv frD 0 _
 ·obtain ⟨O,N,I,A,rfl⟩:=ZR u;obtain ⟨n1,m,rfl⟩:=zM I;obtain ⟨t,g,rfl⟩:=zM A;have z1:=s1 n1 (Qd m);have z2:=s2 t (Qd g);refine xR (xQ S .mm λU T S=>?_);refine yO (zF (yO (zF (WA ⟨rfl,?_⟩))));left;rename_i r H2 Y M;refine hd M ?_;rw [zA (by rw [Qx,m,g])];exact .mem (by right)
 left;exact Zo (by assumption) k .mm
abbrev VP:Stmt:=top 44
def nE:FnScope pay pay (zh VP):=yP
def oB (B:Bl mg) (YI:Cal P w K mg base CX0 3 "minus" pab ak):Coo P w K mg base "less_each" VP 4 pay (ny λp q=>p - q):=by
 walk_at "-nE";obtain ⟨G,⟨p,q⟩,L,z,⟨s1,s2,y⟩,k⟩:=h;obtain ⟨v,X,rfl,al⟩:=xB z;have S:Sta H G H [] _:=Sta.enter L al;dsimp only at s1 s2 y k S;walk_at "=fi-bCone,two;2;(ba0ba1cOyu0yu1Pvgba0ba1cc";left;refine lB (xs:=p.map frD) S .mm .mm λJ s=>?_;refine yg s (λj=>frD ((List.zipWith (λp q=>p - q) p q).getD j 0)) (ys:=(List.zipWith (λp q=>p - q) p q).map frD) ?_ S (λ_ _=>⟨.mem (by right),λ_ _ h=>h.tail, .mem (by right)⟩) (by rw [yI,Qb,Qb];lia) (λj x v B' G' Kd Kn u t1 S hd C ex s0 H0=>?_) λD H1 Z S1=>?_
 ·rw [yI,Qb,Qb,show min p.length q.length=(List.zipWith (λp q=>p - q) p q).length by rw [Qy]];exact zv frD 0 _
 ·obtain ⟨O,N,I,A,rfl⟩:=ZR u;obtain ⟨n1,m,rfl⟩:=zM I;obtain ⟨t,g,rfl⟩:=zM A;have z1:=s1 n1 (Qd m);have z2:=s2 t (Qd g);refine xR (xQ S .mm λU T S=>?_);refine yO (zF (yO (zF (WA ⟨rfl,?_⟩))));left;rename_i r H2 Y M;refine hd M ?_;rw [zA (by rw [Qx,m,g])];exact .mem (by right)
 left;exact Zo (by assumption) k .mm
abbrev kK:Stmt:=top 34
def BD:FnScope ["path","end"] ["path"] (zh kK):=yP
def CF (B:Bl mg) (Z:Cal P w K mg base CX0 3 "minus" pab ak) (Md:Cal P w K mg base CX0 4 "less_each" pay (ny λp q=>p - q)):Coo P w K mg base "turned" kK 5 ["path"] cR:=by
 walk_at "-BD";obtain ⟨G,a,M,L,ok,k⟩:=h;obtain ⟨v0,rfl,al⟩:=Yd L;have S:Sta H G H [] _:=Sta.enter M al;have few:=ok.few;obtain ⟨T,y⟩:=ok.last;have g:=ok.sz _ y;have z:=g.1;walk_at "=ek1la0RdfiCcorner,end;11;τba0cu0vsbgbh1bh0cbgbh1bh0cc";left;refine zX (xs:=a.map zY) S .mm (uT (by rw [jaC,T];rfl)) λU u=>?_;left;refine Ko u .mm λJ I=>?_;refine yg I (λj=>zY (VF (lastC a) (a.reverse.getD j (0,[])))) (ys:=(yk a).map zY) ?_ u (λ_ _=> .mem (by right)) (by rw [Tz,Qb];lia) (λj x v B' G' Kd Kn s t1 S hd C ex s0 H0=>?_) λD H2 Y O=>?_
 ·unfold yk;rw [Qo,Tz,Qb,<-Tz];exact zv (λc=>zY (VF (lastC a) c)) (0,[]) _
 ·rw [<-List.map_reverse] at s;obtain ⟨c,t,rfl⟩:=zM s;have N:c∈a:=jbF.mp (Qd t);have m:=ok.sz c N;have A:=m.1;refine zF ⟨rfl,?_⟩;left;refine Cq (p:=(lastC a).2) (by assumption) .mm .mm g.2 m.2 (ok.len _ y) λr H3 X S3=>?_;left;refine hd (by assumption) ?_;rw [zA t];exact .mem (by right)
 exact Zp O k
abbrev kN:Stmt:=top 35
def BG:FnScope paV paV (zh kN):=yP
def CJ (B:Bl mg) (mP:Cal P w K mg base CX0 3 "times" pab qq):Coo P w K mg base "scaled" kN 4 paV km:=by
 walk_at "-BG";obtain ⟨G,⟨a,p⟩,L,I,⟨ok,t⟩,k⟩:=h;obtain ⟨v0,vp,rfl,al⟩:=xB I;have S:Sta H G H [] _:=Sta.enter L al;dsimp only at ok t k S;have few:=ok.few;walk_at "=fiCcorner,portion;11;za0u0vsbgbh0ba1cb-bCpart,portion;11;*h0u0vgba0ba1ccc";left;refine zZ (xs:=a.map zY) S .mm λJ z=>?_;refine xj z (λj=>zY ((λc:zi=>(c.1*p,c.2.map (·*p))) (a.getD j (0,[])))) (ys:=(zO p a).map zY) ?_ S (λj x v=>λA t1 S hd=>?_) λD H2 e2 s=>?_
 ·unfold zO;rw [Qo,Qb];exact zv (λc=>zY ((λc:zi=>(c.1*p,c.2.map (·*p))) c)) (0,[]) _
 ·obtain ⟨c,g,rfl⟩:=zM A;have m:=ok.sz c (Qd g);have u:=m.1;have lc:=ok.len c (Qd g);refine zF ⟨rfl,?_⟩;left;rename_i Z S1 r1 H1 e1 s Y r;refine aL r .mm λJ2 O=>?_;refine yg O (λj=>frD (c.2.getD j 0*p)) (ys:=(c.2.map (·*p)).map frD) (by rw [Qb,Qo];exact zv (λx=>frD (x*p)) 0 c.2) r (λ_ _=> .mem (by right)) (by rw [Qb];exact lc) (λj x v B' G' U T M t2 S hd2 C ex s0 H0=>?_) λD2 H4 e4 S4=>?_
  ·obtain ⟨y,q,rfl⟩:=zM M;have X:=m.2 y (Qd q);refine zF ⟨rfl,?_⟩;left;rename_i r5 H5 e5 N;refine hd2 N ?_;rw [zA q];exact .mem (by right)
  left;refine hd (by assumption) ?_;rw [zA g];exact .mem (by right)
 exact Zp s k
abbrev kW:Stmt:=top 36
def BJ:FnScope ["path","second","end","moved"] paP (zh kW):=yP
def CZ (B:Bl mg) (VE:Cal P w K mg base CX0 3 "plus" pab ja) (Mc:Cal P w K mg base CX0 4 "plus_each" pay (ny λp q=>p+q)) (pY:Cal P w K mg base CX0 3 "thinned" ["corners"] dM):Coo P w K mg base "behind" kW 5 paP Uq:=by
 walk_at "-BJ";obtain ⟨G,⟨a,b⟩,eG,Y,⟨ok,s,m,I⟩,k⟩:=h;obtain ⟨v0,v1,rfl,al⟩:=xB Y;have S:Sta H G H [] _:=Sta.enter eG al;dsimp only at ok s I k S;have few:=ok.few;have A:=s.few;obtain ⟨NN,M⟩:=ok.last;have u:=ok.sz _ M;have N:=u.1;walk_at "=ek2la0RdeT3corner,end;12;z7a1Ud8u0vsbgbh1bh0cbgbh1bh0ccfigbxa0a3c";left;refine zX (xs:=a.map zY) S .mm (uT (by rw [jaC,NN];rfl)) λve S1=>?_;left;refine rd_slL S1 .mm λl2 H2 e2 t=>?_
 have Z:pZ (b.map zY) (some 1) none=b.tail.map zY:=by
  unfold pZ;rw [HT.sIx_none,show (some (1:Int))=some ((1:Nat):Int) from rfl,HT.sIx_nat,Qb];have X:1<=b.length:=jbb.mpr s.ne;rw [Nat.min_eq_left X,jap (by rw [jaJ,Qb];exact Qs _),<-List.map_drop,List.drop_one]
 rw [Z] at t;refine Cm t (by right) λJ T=>?_;refine yg T (λj=>zY (Vq (lastC a) (b.tail.getD j (0,[])))) (ys:=(yx a b).map zY) ?_ t (λ_ _=>Qe _ (by right)) (by rw [Qb,jaM];lia) (λj x v B' G' Kd Kn U t1 S hd C ex s0 H0=>?_) λD H3 e3 g=>?_
 ·unfold yx;rw [Qo,Qb];exact zv (λc=>zY (Vq (lastC a) c)) (0,[]) _
 ·obtain ⟨c,z,rfl⟩:=zM U;have cm:c∈b:=TU (Qd z);have y:=s.sz c cm;have O:=y.1;refine zF ⟨rfl,?_⟩;left;refine Cq (p:=(lastC a).2) (by assumption) .mm .mm u.2 y.2 (ok.len _ M) λr H3 e3 g=>?_;left;refine hd (by assumption) ?_;rw [zA z];exact .mem (by right)
 left;obtain ⟨pa,rfl⟩:=g.refL .mm
 refine WB g (g.vwL .mm) (g.vwC (by right)) (by
  rw [Qb,Qb];unfold yx
  rw [Qb,jaM];lia) λp4 H4 e4 L=>?_
 rw [<-Ts] at L;have S5:=L.freeze;left;refine vM S5 .mm I λp6 H6 e6 S6=>?_;exact Zp (S6.weak (by walk_at "sub") Dats.nil) k
section
variable {fS fT Ru:Addr} {A:RAd}
abbrev ZX:Stmt:=xx (top 62) 0
def XR:FnScope paf paf (zh ZX):=yP
def Gu (F:Fun K "__init__" "Rule.__init__" ZX f fd):FnOk P w K mg base CX0 1 f fd paf (Yx K fS fT Ru):=by
 refine F.ok XR (λvs H Q E h=>?_) (λy A outer s H vs Q E hr h=>?_)
 ·obtain ⟨C,ok,G,d,x,m,us,rfl,_,_,_,g,_⟩:=h;rw [QE,<-g.len];rfl
 obtain ⟨C,ok,G,d,x,m,us,rfl,u,t,q,g,k⟩:=h;obtain ⟨v,rfl,al⟩:=Yd g;have nd0:=XR.nd;walk_at "=f)a0a1";refine ⟨v,rfl, .ref x,rfl,x,C,m,[],rfl,q,ok.cl,ok.na,nofun,?_⟩;refine k _ G v (λp o hp r=>by rw [zP hp];exact r) (zG.refl _) (λp o hp=>?_) (λ_ _=>rfl) ?_ (al _ (Qp.mpr rfl))
 ·rw [zP (zU hp t)];exact u p o hp
 ·rw [ya];rfl
abbrev Wv:Stmt:=xx (top 62) 1
def kH:FnScope pac pac (zh Wv):=yP
def Gr (q:∀r:Rl,ROk K fS fT Ru (A.cls r)) (F:Fun K "shape" "Rule.shape" Wv f fd):FnOk P w K mg base CX0 1 f fd pac (aj A):=by
 walk_at "+kH";obtain ⟨G,r,m,g,_,k⟩:=h;obtain ⟨v,rfl,al⟩:=Yd g;have S:Sta H G H [] _:=Sta.enter m al;walk_at "=fi&a0";refine rd_ret (rd_fld ?_);left;refine Cn S .mm (q r) λw p=>?_;exact Zo p k .mm
abbrev Zc:Stmt:=xx (top 63) 0
def Yk:FnScope pac pac (zh Zc):=yP
def hV (ZF:mg "Rule"=some (.ref Ru)) (eL:PySem.W.specialIn K (.ref Ru) "__getattribute__"=some (some (.builtin "type.__getattribute__"))) (eS:PySem.W.readsIn K Ru (.type "type")=true) {m:Addr} {q:FuncData} (xF:PySem.W.findCls K (.ref Ru) (.type "type") "__init__"=some (.val (.ref m))) (xH:FnOk P w K mg base CX0 1 m q paf (Yx K fS fT Ru)) (xE:PySem.W.keepIn K (.ref m)=true) (xG:yp K q paf []) (ok:ROk K fS fT Ru (A.cls .shares)) (F:Fun K "__init__" "Shares.__init__" Zc f fd):FnOk P w K mg base CX0 2 f fd pac (yr (A.cls .shares) (α:=Unit) (λ_=>[]) (λ_=>Rl.shares.shape)):=by
 refine F.ok Yk (λvs H Q E h=>?_) (λN A outer s H vs Q E hr h=>?_)
 ·obtain ⟨G,d,x,L,us,rfl,_,_,_,g,_⟩:=h;rw [QE,<-g.len];rfl
 obtain ⟨G,d,x,L,us,rfl,J,I,r,g,k⟩:=h;rw [zC] at g;subst g;have S:Sta H G H [] []:=Sta.enter J λp hp=>absurd hp Qm;have nd0:=Yk.nd;walk_at "=fE34ba0bsbrcc";left;refine Yq (by assumption) I r ok .mm λH' M w D C z y u t=>?_;exact k H' M w D C z y u t
abbrev Zg:Stmt:=xx (top 64) 0
def Yo:FnScope pac pac (zh Zg):=yP
def ir (ZF:mg "Rule"=some (.ref Ru)) (eL:PySem.W.specialIn K (.ref Ru) "__getattribute__"=some (some (.builtin "type.__getattribute__"))) (eS:PySem.W.readsIn K Ru (.type "type")=true) {m:Addr} {q:FuncData} (xF:PySem.W.findCls K (.ref Ru) (.type "type") "__init__"=some (.val (.ref m))) (xH:FnOk P w K mg base CX0 1 m q paf (Yx K fS fT Ru)) (xE:PySem.W.keepIn K (.ref m)=true) (xG:yp K q paf []) (ok:ROk K fS fT Ru (A.cls .evenly)) (F:Fun K "__init__" "Evenly.__init__" Zg f fd):FnOk P w K mg base CX0 2 f fd pac (yr (A.cls .evenly) (α:=Unit) (λ_=>[]) (λ_=>Rl.evenly.shape)):=by
 refine F.ok Yo (λvs H Q E h=>?_) (λN A outer s H vs Q E hr h=>?_)
 ·obtain ⟨G,d,x,L,us,rfl,_,_,_,g,_⟩:=h;rw [QE,<-g.len];rfl
 obtain ⟨G,d,x,L,us,rfl,J,I,r,g,k⟩:=h;rw [zC] at g;subst g;have S:Sta H G H [] []:=Sta.enter J λp hp=>absurd hp Qm;have nd0:=Yo.nd;walk_at "=fE34ba0bsbrcc";left;refine Yq (by assumption) I r ok .mm λH' M w D C z y u t=>?_;exact k H' M w D C z y u t
abbrev Zd:Stmt:=xx (top 65) 0
def Yl:FnScope pac pac (zh Zd):=yP
def ie (ZF:mg "Rule"=some (.ref Ru)) (eL:PySem.W.specialIn K (.ref Ru) "__getattribute__"=some (some (.builtin "type.__getattribute__"))) (eS:PySem.W.readsIn K Ru (.type "type")=true) {m:Addr} {q:FuncData} (xF:PySem.W.findCls K (.ref Ru) (.type "type") "__init__"=some (.val (.ref m))) (xH:FnOk P w K mg base CX0 1 m q paf (Yx K fS fT Ru)) (xE:PySem.W.keepIn K (.ref m)=true) (xG:yp K q paf []) (ok:ROk K fS fT Ru (A.cls .losses)) (F:Fun K "__init__" "Losses.__init__" Zd f fd):FnOk P w K mg base CX0 2 f fd pac (yr (A.cls .losses) (α:=Unit) (λ_=>[]) (λ_=>Rl.losses.shape)):=by
 refine F.ok Yl (λvs H Q E h=>?_) (λN A outer s H vs Q E hr h=>?_)
 ·obtain ⟨G,d,x,L,us,rfl,_,_,_,g,_⟩:=h;rw [QE,<-g.len];rfl
 obtain ⟨G,d,x,L,us,rfl,J,I,r,g,k⟩:=h;rw [zC] at g;subst g;have S:Sta H G H [] []:=Sta.enter J λp hp=>absurd hp Qm;have nd0:=Yl.nd;walk_at "=fE34ba0bsbrcc";left;refine Yq (by assumption) I r ok .mm λH' M w D C z y u t=>?_;exact k H' M w D C z y u t
abbrev Ze:Stmt:=xx (top 66) 0
def Ym:FnScope pac pac (zh Ze):=yP
def ig (ZF:mg "Rule"=some (.ref Ru)) (eL:PySem.W.specialIn K (.ref Ru) "__getattribute__"=some (some (.builtin "type.__getattribute__"))) (eS:PySem.W.readsIn K Ru (.type "type")=true) {m:Addr} {q:FuncData} (xF:PySem.W.findCls K (.ref Ru) (.type "type") "__init__"=some (.val (.ref m))) (xH:FnOk P w K mg base CX0 1 m q paf (Yx K fS fT Ru)) (xE:PySem.W.keepIn K (.ref m)=true) (xG:yp K q paf []) (ok:ROk K fS fT Ru (A.cls .halves)) (F:Fun K "__init__" "Halves.__init__" Ze f fd):FnOk P w K mg base CX0 2 f fd pac (yr (A.cls .halves) (α:=Unit) (λ_=>[]) (λ_=>Rl.halves.shape)):=by
 refine F.ok Ym (λvs H Q E h=>?_) (λN A outer s H vs Q E hr h=>?_)
 ·obtain ⟨G,d,x,L,us,rfl,_,_,_,g,_⟩:=h;rw [QE,<-g.len];rfl
 obtain ⟨G,d,x,L,us,rfl,J,I,r,g,k⟩:=h;rw [zC] at g;subst g;have S:Sta H G H [] []:=Sta.enter J λp hp=>absurd hp Qm;have nd0:=Ym.nd;walk_at "=fE34ba0bsbrcc";left;refine Yq (by assumption) I r ok .mm λH' M w D C z y u t=>?_;exact k H' M w D C z y u t
abbrev ZA:Stmt:=xx (top 67) 0
def YQ:FnScope pak pak (zh ZA):=yP
def lH (ZF:mg "Rule"=some (.ref Ru)) (eL:PySem.W.specialIn K (.ref Ru) "__getattribute__"=some (some (.builtin "type.__getattribute__"))) (eS:PySem.W.readsIn K Ru (.type "type")=true) {p:Addr} {q:FuncData} (xF:PySem.W.findCls K (.ref Ru) (.type "type") "__init__"=some (.val (.ref p))) (xH:FnOk P w K mg base CX0 1 p q paf (Yx K fS fT Ru)) (xE:PySem.W.keepIn K (.ref p)=true) (xG:yp K q paf []) {g:FuncData} (Zv:FnOk P w K mg base CX0 1 fS g pac (aj A)) (yY:yp K g pac []) (t:∀r:Rl,ROk K fS fT Ru (A.cls r)) (F:Fun K "__init__" "Other.__init__" ZA f fd):FnOk P w K mg base CX0 2 f fd pak (yr (A.cls (.other .shares)) (α:=Rl) (λr=>[r.ins A]) (λr=>(Rl.other r).shape)):=by
 refine F.ok YQ (λvs H Q E h=>?_) (λY Z outer s H vs Q E hr h=>?_)
 ·obtain ⟨G,d,x,N,us,rfl,_,_,_,m,_⟩:=h;rw [QE,<-m.len];rfl
 obtain ⟨G,r,x,N,us,rfl,M,L,u,m,k⟩:=h;obtain ⟨v,rfl,al⟩:=Yd m;have S:Sta H G H [] _:=Sta.enter M al;have nd0:=YQ.nd;walk_at "=fE34ba0bsbrb/a1<cc";left;refine jr S .mm (t r) ?_;refine Vc S .mm λT H1 U X=>?_;left;refine Yq (by assumption) L u (t (.other .shares)) .mm λH' O w J I D C z y=>?_;exact k H' O w J I D C z y
abbrev Zz:Stmt:=xx (top 68) 0
def YO:FnScope pak pak (zh Zz):=yP
def lG (ZF:mg "Rule"=some (.ref Ru)) (eL:PySem.W.specialIn K (.ref Ru) "__getattribute__"=some (some (.builtin "type.__getattribute__"))) (eS:PySem.W.readsIn K Ru (.type "type")=true) {p:Addr} {q:FuncData} (xF:PySem.W.findCls K (.ref Ru) (.type "type") "__init__"=some (.val (.ref p))) (xH:FnOk P w K mg base CX0 1 p q paf (Yx K fS fT Ru)) (xE:PySem.W.keepIn K (.ref p)=true) (xG:yp K q paf []) {g:FuncData} (Zv:FnOk P w K mg base CX0 1 fS g pac (aj A)) (yY:yp K g pac []) (t:∀r:Rl,ROk K fS fT Ru (A.cls r)) (F:Fun K "__init__" "Ranks.__init__" Zz f fd):FnOk P w K mg base CX0 2 f fd pak (yr (A.cls (.ranks .shares)) (α:=Rl) (λr=>[r.ins A]) (λr=>(Rl.ranks r).shape)):=by
 refine F.ok YO (λvs H Q E h=>?_) (λY Z outer s H vs Q E hr h=>?_)
 ·obtain ⟨G,d,x,N,us,rfl,_,_,_,m,_⟩:=h;rw [QE,<-m.len];rfl
 obtain ⟨G,r,x,N,us,rfl,M,L,u,m,k⟩:=h;obtain ⟨v,rfl,al⟩:=Yd m;have S:Sta H G H [] _:=Sta.enter M al;have nd0:=YO.nd;walk_at "=fE34ba0bsbrb/a1<cc";left;refine jr S .mm (t r) ?_;refine Vc S .mm λT H1 U X=>?_;left;refine Yq (by assumption) L u (t (.ranks .shares)) .mm λH' O w J I D C z y=>?_;exact k H' O w J I D C z y
abbrev Zf:Stmt:=xx (top 69) 0
def Yn:FnScope pau pau (zh Zf):=yP
def ik (ZF:mg "Rule"=some (.ref Ru)) (eL:PySem.W.specialIn K (.ref Ru) "__getattribute__"=some (some (.builtin "type.__getattribute__"))) (eS:PySem.W.readsIn K Ru (.type "type")=true) {p:Addr} {u:FuncData} (xF:PySem.W.findCls K (.ref Ru) (.type "type") "__init__"=some (.val (.ref p))) (xH:FnOk P w K mg base CX0 1 p u paf (Yx K fS fT Ru)) (xE:PySem.W.keepIn K (.ref p)=true) (xG:yp K u paf []) {g:FuncData} (Zv:FnOk P w K mg base CX0 1 fS g pac (aj A)) (yY:yp K g pac []) (q:∀r:Rl,ROk K fS fT Ru (A.cls r)) (F:Fun K "__init__" "Groups.__init__" Zf f fd):FnOk P w K mg base CX0 2 f fd pau (yr (A.cls (.groups .shares .shares)) (α:=Rl×Rl) (λr=>[r.1.ins A,r.2.ins A]) (λr=>(Rl.groups r.1 r.2).shape)):=by
 refine F.ok Yn (λvs H Q E h=>?_) (λNA A' outer s H vs Q E hr h=>?_)
 ·obtain ⟨G,d,x,T,us,rfl,_,_,_,m,_⟩:=h;rw [QE,<-m.len];rfl
 obtain ⟨G,⟨r,y⟩,x,T,us,rfl,O,N,z,m,k⟩:=h;obtain ⟨v,v2,rfl,al⟩:=xB m;have S:Sta H G H [] _:=Sta.enter O al;dsimp only at k S;have nd0:=Yn.nd;walk_at "=fE34ba0bsbrb/a1<b/a2<cc";left;refine jr S .mm (q r) ?_;refine Vc S .mm λY H1 e1 t=>?_;left;refine jr t .mm (q y) ?_;refine Vc t .mm λX H2 Z S2=>?_;left;refine Yq (by assumption) N z (q (.groups .shares .shares)) .mm λH' U w M L J I D C=>?_;exact k H' U w M L J I D C
abbrev ZW:Stmt:=xx (top 70) 0
def XQ:FnScope paj paj (zh ZW):=yP
def oC (ZF:mg "Rule"=some (.ref Ru)) (eL:PySem.W.specialIn K (.ref Ru) "__getattribute__"=some (some (.builtin "type.__getattribute__"))) (eS:PySem.W.readsIn K Ru (.type "type")=true) {p:Addr} {y:FuncData} (xF:PySem.W.findCls K (.ref Ru) (.type "type") "__init__"=some (.val (.ref p))) (xH:FnOk P w K mg base CX0 1 p y paf (Yx K fS fT Ru)) (xE:PySem.W.keepIn K (.ref p)=true) (xG:yp K y paf []) {g:FuncData} (Zv:FnOk P w K mg base CX0 1 fS g pac (aj A)) (yY:yp K g pac []) (q:∀r:Rl,ROk K fS fT Ru (A.cls r)) (F:Fun K "__init__" "Upto.__init__" ZW f fd):FnOk P w K mg base CX0 2 f fd paj (yr (A.cls (.upto 0 0 .shares .shares)) (α:=(Int×Int)×Rl×Rl) (λr=>[.tuple [.int r.1.1, .int r.1.2],r.2.1.ins A,r.2.2.ins A]) (λr=>(Rl.upto r.1.1 r.1.2 r.2.1 r.2.2).shape)):=by
 refine F.ok XQ (λvs H Q E h=>?_) (λNA A' outer s H vs Q E hr h=>?_)
 ·obtain ⟨G,d,x,U,us,rfl,_,_,_,m,_⟩:=h;rw [QE,<-m.len];rfl
 obtain ⟨G,⟨⟨t,b⟩,r,z⟩,x,U,us,rfl,T,O,C,m,k⟩:=h;obtain ⟨v0,v,v2,rfl,al⟩:=Yc m;have S:Sta H G H [] _:=Sta.enter T al;dsimp only at k S;have nd0:=XQ.nd;walk_at "=fE34ba0bsbrba1b/a2<b/a3<cc";left;refine jr S .mm (q r) ?_;refine Vc S .mm λZ H1 e1 u=>?_;left;refine jr u .mm (q z) ?_;refine Vc u .mm λY H2 e2 S2=>?_;left;refine Yq (by assumption) O C (q (.upto 0 0 .shares .shares)) .mm λH' X w N M L J I D=>?_;exact k H' X w N M L J I D
end
abbrev eJ:Stmt:=xx (top 62) 2
def ID:FnScope pac pac (zh eJ):=yP
abbrev aF:Stmt:=top 22
def qK:FnScope ["number"] ["number"] (zh aF):=yP
def rj (B:Bl mg):Coo P w K mg base "is_whole" aF 1 ["number"] VG:=by
 walk_at "-qK";obtain ⟨n,rfl,q⟩:=h;have S:Sta H H H [] []:=Sta.enter (zG.refl _) λp hp=>absurd hp Qm;have g:Is H (.int n) (.int n):=S.hp Has.int;walk_at "=fi|9ba0bγint;c:δ9ba0bεbool;c";left;exact q
section
variable {fS fE CW:Addr}
abbrev VX:Stmt:=xx (top 76) 1
def nM:FnScope pac pac (zh VX):=yP
def KO (W_ok:WOk K fS fE CW) (F:Fun K "sign" "Walk.sign" VX f fd):FnOk P w K mg base CX0 1 f fd pac (iZ CW):=by
 walk_at "+nM";obtain ⟨a,T,i,rfl,h,g,q⟩:=h;walk_at "=fiυ&a0U&a0Ux&a0d";left;refine Ck h W_ok ?_;left;refine IK h W_ok ?_;left;refine IK h W_ok ?_;left;exact ⟨T,rfl,QP g nofun,q⟩
abbrev Xw:Stmt:=xx (top 76) 2
def hU:FnScope ["self","word","wanted"] pan (zh Xw):=yP
def CU (W_ok:WOk K fS fE CW) {g:FuncData} (Yh:FnOk P w K mg base CX0 1 fS g pac (iZ CW)) (xq:yp K g pac []) (F:Fun K "expect" "Walk.expect" Xw f fd):FnOk P w K mg base CX0 2 f fd pan (Xo CW):=by
 walk_at "+hU";obtain ⟨a,T,wd,i,rfl,h,q,hw,p,k⟩:=h;walk_at "=fHφa1A2empKo>a0=a2jMnfζa0d";left;refine Kt ?_;left;refine rd_kIS hw ?_;refine Lz (λn σ H2=>∃x,σ=[some (.ref a),some (.str wd),x]/\Ch a H H2/\At CW H2 a T (i+n)) ⟨none,rfl,Ch.refl,h⟩ ?_ ?_
 ·rintro n c σ H2 hc ⟨x,rfl,ch,h2⟩
  left;refine jo h2 W_ok ?_;refine aJ h2 q ?_;rw [p n c hc];left;refine iG rfl ?_;left;refine Cr rfl h2 W_ok λs m r=>?_;left;exact ⟨_,rfl,ch.trans m,r⟩
 ·rintro σ H2 ⟨x,rfl,ch,h2⟩
  exact k H2 ch h2
abbrev Xr:Stmt:=top 82
def gV:FnScope ["walk","number"] pav (zh Xr):=yP
def KU (W_ok:WOk K fS fE CW) {t:FuncData} {g:Addr} (g_FIGURES:mg "FIGURES"=some (.ref g)) (u:Fg K g) (Yh:FnOk P w K mg base CX0 1 fS t pac (iZ CW)) (xq:yp K t pac []):Coo P w K mg base "read_number" Xr 2 pav (Bu CW):=by
 walk_at "-gV";obtain ⟨a,T,i,ds,rfl,h,z,hf,k⟩:=h;walk_at "=em[>a0=η]Ud8Mnek1de$χ>a0=]ek1xqa1dψ]b>a0=cfζa0dfia1";left;refine jo h W_ok ?_;refine aJ h z ?_;left;obtain ⟨r,e0⟩:∃d,ds[0]? =some d:=⟨ds[0]'hf.pos,Qa hf.pos⟩;have h0:=hf.at_ 0 r e0;have J:=hf.first r e0;refine ⟨g,oX.map V.str,rfl,u.sq,by decide+kernel,λp hp=>?_⟩;have I:AL (oX.map V.str) (some 1) none=(oX.drop 1).map V.str:=by decide+kernel
 rw [I];have D:=h.same (zG.new hp (.tup ((oX.drop 1).map V.str)));refine ⟨p,(oX.drop 1).map V.str,rfl, .inr (SqT.of ya),rfl,by decide+kernel,?_⟩
 have y:sgn T i∈oX.drop 1:=by
  rw [show sgn T i=fg r from h0.2,md];have:r<10:=h0.1;rw [<-List.map_drop];exact Qk.mpr ⟨r,by rw [QG];exact ⟨r - 1,by rw [jao,show 1+(r - 1)=r by lia,List.getElem?_range ⋯]⟩,rfl⟩
 rw [DI,QT y];left;refine jX (λm σ H2=>∃n:Nat,σ=[some (.ref a),some (.int (AG (ds.take n)))]/\n<=ds.length/\Kp a H H2/\At CW H2 a T (i+n)/\m=ds.length - n) _ ⟨0,rfl,jab _,zG.kp (zG.new hp _),D,rfl⟩ ?_
 rintro m σ H2 ⟨n,rfl,hn,kp,h2,rfl⟩
 left;refine jo h2 W_ok ?_;refine aJ h2 z ?_;left;refine ⟨g,oX.map V.str,rfl, .inr u.sq,rfl,by decide+kernel,?_⟩;rw [QI nofun,DI];left;refine BY (λc=>?_) (λc=>?_)
 ·have c:sgn T (i+n)∈oX:=Qz c
  have s:n<ds.length:=by
   rcases Nat.lt_or_eq_of_le hn with s|e
   ·exact s
   ·rw [e] at c;exact absurd c hf.stop
  have C:=Qa s;have hd:=hf.at_ n _ C;left;refine ⟨u.ty,?_⟩;left;refine jo h2 W_ok ?_;refine aJ h2 z ?_;left;rw [hd.2];refine ⟨g,oX,fg ds[n],ds[n],rfl,rfl,u.sq,?_,λq L=>?_,?_⟩
  ·rw [md,Qh,List.getElem?_range hd.1];rfl
  ·rw [md,Qh,List.getElem?_range ⋯];intro e;have:=fg_inj (Qw e);lia
  left;refine Cr rfl h2 W_ok λM A G=>?_;left;refine ⟨ds.length - (n+1),⋯,n+1,?_,s,kp.trans A.kp,G,rfl⟩;rw [jbl,C,show (some ds[n]).toList=[ds[n]] from rfl,ni];rfl
 ·have c:¬sgn T (i+n)∈oX:=of_decide_eq_false c
  have e:n=ds.length:=by
   rcases Nat.lt_or_eq_of_le hn with s|e
   ·exfalso
    have hd:=hf.at_ n _ (Qa s);refine c ?_;rw [hd.2,md];exact Qk.mpr ⟨_,jbg.mpr hd.1,rfl⟩
   ·exact e
  subst e;rw [List.take_length];left;exact k H2 kp h2
abbrev aG:Stmt:=top 16
def qL:FnScope pal pal (zh aG):=yP
def GH (u:Cal P w K mg base CX0 1 "is_whole" ["number"] VG) (t:Cal P w K mg base CX0 2 "lowest" pal Xn):Coo P w K mg base "fraction" aG 3 pal Bw:=by
 walk_at "-qL";obtain ⟨G,⟨a,b⟩,q,m,⟨g,sb⟩,k⟩:=h;cases (yv (ns:=[a,b]) m);have S:Sta H G H [] []:=Sta.enter q λp hp=>absurd hp Qm;dsimp only at g sb k;walk_at "=emIJLGgba0cXLGgba1cMnemptoa1djMnfigba0ba1c";left;refine lj ?_;left;refine lj ?_;left;refine yH (λc=>absurd c g) (λ_=>?_);left;refine Wy (by assumption) g (DN g sb) λr H' e s=>?_;left;exact Zo s k .mm
abbrev YA:Stmt:=top 81
def dY:FnScope ["walk","top","bottom"] pav (zh YA):=yP
def Gv (W_ok:WOk K fS fE CW) {g:FuncData} (yL:FnOk P w K mg base CX0 2 fE g pan (Xo CW)) (yj:yp K g pan []) (Io:Cal P w K mg base CX0 2 "read_number" pav (Bu CW)) (jV:Cal P w K mg base CX0 3 "fraction" pal Bw):Coo P w K mg base "read_portion" YA 4 pav (qt CW):=by
 walk_at "-dY";obtain ⟨G,a,T,i,⟨⟨t,b⟩,ds,es⟩,rfl,C,ga,h,m,hp,k⟩:=h;dsimp only at hp k;have S:Sw a H G H []:=Sw.enter C ga h λp hp=>absurd hp Qm;walk_at "=ek1gba0ceE!a0?brcek2gba0cemIJθa2a1jXpKogba1ba2csba1ba2cjMnfisba1ba2c";left;refine Ci h m hp.f1 λH1 z r=>?_;have X:=S.kp z r;rw [hp.v1];left;refine Xx ?_;left;refine UB r (by rfl) ?_;left;refine xS r m (by decide+kernel) hp.sl λH2 L q=>?_;have U:=X.ch L q;rw [show ("/":Str).length=1 by decide+kernel] at q;left;refine Ci q m hp.f2 λH3 y u=>?_;have O:=U.kp y u;rw [hp.v2];left;have Ny:=hp.lt
 have A:frD (Rat.divInt t b)= .tuple [.int t, .int b]:=by
  have:=Af ⋯ hp.co;unfold frD;rw [this.1,this.2]
 refine yH (λc=>absurd c ⋯) (λ_=>?_);left;refine Ka (t,b) O (zV.cons Has.int (zV.cons Has.int zV.nil)) ⟨by show b≠0;lia,hp.sz.2.mono nofun⟩ λv4 H4 J N=>?_;left;refine tW N (by walk_at "hasall") (jbU rfl) λZ H5 I s=>?_;refine tV (s.hp .mm) (by rw [A];exact s.hp .mm) (jd _) (jd _) ?_;rw [rV,QT rfl];left;refine tW s (by walk_at "hasall") (jbU rfl) λY H6 D M=>?_;left;refine aH M k ?_ .mm;rw [<-Nat.add_assoc,<-Nat.add_assoc];exact ((u.same J).same I).same D
abbrev VN:Stmt:=top 79
def nC:FnScope paW pav (zh VN):=yP
def KI (W_ok:WOk K fS fE CW) {p q:FuncData} {g:Addr} (g_WORDS:mg "WORDS"=some (.ref g)) (y:Wd K g) (Yh:FnOk P w K mg base CX0 1 fS p pac (iZ CW)) (xq:yp K p pac []) (yL:FnOk P w K mg base CX0 2 fE q pan (Xo CW)) (yj:yp K q pan []):Coo P w K mg base "read_word" VN 3 pav (tI CW):=by
 walk_at "-nC";obtain ⟨a,T,i,n,wd,rfl,h,D,hn,A,k⟩:=h;walk_at "=eH*ωA1fmpto>a0=h1jeE!a0?ba1cfia1nM";left;refine ⟨g,rfl,⟨_,y.sq⟩,?_⟩;refine DT (λ_=>y.sq) (λm σ H2=>∃x,σ=[some (.ref a),x]/\m<=n/\H2=H) ⟨none,rfl,jab _,rfl⟩ ?_ ?_
 ·rintro m z σ H2 hz ⟨x,rfl,Oy,rfl⟩
  obtain ⟨c,d,C,hd,L,G,ha⟩:=qe m n z wd hz hn;have r:sgn T i=⟨#[d]⟩:=A 0 d (by rw [<-Array.getElem?_toList];exact hd);left;refine jo h W_ok ?_;refine aJ h D ?_;left;refine FZ G C ?_;rw [r];left;refine yH (λe=>?_) (λe=>?_)
  ·have u:c=d:=by
    have:=congrArg (λz:Str=>z.cps[0]?) e;simp at this;exact this.symm
   have t:=L u;subst t;rw [hz] at hn;cases hn;left;refine Xx ?_;left;refine UB h (by rfl) ?_;left;refine xS h D ha A λM J I=>?_;left;exact k M J I
  ·left;refine ⟨_,rfl,?_,rfl⟩
   rcases Nat.lt_or_eq_of_le Oy with s|s
   ·exact s
   ·subst s;rw [hz] at hn;cases hn;rw [C] at hd;cases hd;exact absurd rfl e
 ·rintro σ H2 ⟨x,rfl,Oy,rfl⟩
  have:=(Qf.mp hn).1;lia
end
section
variable {fS fE CW:Addr} {A:RAd}
abbrev yD:Stmt:=top 80
def Xp:FnScope ["walk","word","portion","first","outer"] paW (zh yD):=yP
def wa {n:Nat} (W_ok:WOk K fS fE CW) {M:FuncData} (yL:FnOk P w K mg base CX0 2 fE M pan (Xo CW)) (yj:yp K M pan []) (z:ZN P w K mg base "Other" (A.cls (.other .shares)) pak (yr (A.cls (.other .shares)) (α:=Rl) (λr=>[r.ins A]) (λr=>(Rl.other r).shape))) (u:ZN P w K mg base "Ranks" (A.cls (.ranks .shares)) pak (yr (A.cls (.ranks .shares)) (α:=Rl) (λr=>[r.ins A]) (λr=>(Rl.ranks r).shape))) (g:ZN P w K mg base "Groups" (A.cls (.groups .shares .shares)) pau (yr (A.cls (.groups .shares .shares)) (α:=Rl×Rl) (λr=>[r.1.ins A,r.2.ins A]) (λr=>(Rl.groups r.1 r.2).shape))) (C:ZN P w K mg base "Upto" (A.cls (.upto 0 0 .shares .shares)) paj (yr (A.cls (.upto 0 0 .shares .shares)) (α:=(Int×Int)×Rl×Rl) (λr=>[.tuple [.int r.1.1, .int r.1.2],r.2.1.ins A,r.2.2.ins A]) (λr=>(Rl.upto r.1.1 r.1.2 r.2.1 r.2.2).shape))) (VD:Cal P w K mg base CX0 4 "read_portion" pav (qt CW)) (sV:Cal P w K mg base CX0 (2*n+5) "read_rule" pav (tL CW A n)) (F:Fun K "read_within_brackets" "read_within_brackets" yD f fd):FnOk P w K mg base CX0 (2*n+6) f fd paW (IB CW A n):=by
 obtain ⟨Nr,Nf,uW,Im,Ic,DR⟩:=z;obtain ⟨Nq,Nd,uV,Il,Ib,DO⟩:=u;obtain ⟨Nj,MQ,pT,Ff,EY,uE⟩:=g;obtain ⟨Nw,Np,EJ,Ju,Jj,IZ⟩:=C;refine F.oo Xp λH vs Q E hr nd0 h=>?_;obtain ⟨G,a,T,i,r,rfl,eG,ga,h,q,⟨m,N,hok,O⟩,k⟩:=h;have S:Sw a H G H []:=Sw.enter eG ga h λp hp=>absurd hp Qm;dsimp only at k;walk_at "=emptoa1rjfiΓΔbgba0ccnemptoa1rjfiΘΞbgba0ccnemptoa1rjek4gba0ceE!a0?brcfiΠΣba4bgba0ccnek2gba0ceE!a0?brcek3gba0ceE!a0?brcfiΦΨba2ba3bgba0cc"
 cases r with
 |shares=>cases N
 |evenly=>cases N
 |losses=>cases N
 |halves=>cases N
 |other x=>
  simp only [Rl.deep] at O;left;refine yH (λ_=>?_) (λc=>absurd rfl c);left;refine XS x S h q ⟨m,hok,⋯⟩ λv1 H1 s I=>?_;left;refine Zs x I (zV.cons .mm zV.nil) λx2 H2 X D=>?_;exact aH D k (s.same X) .mm
 |ranks x=>
  simp only [Rl.deep] at O;left;refine yH (λc=>absurd c (by show ¬("ranks(":Str)=("other(":Str);decide+kernel)) (λ_=>?_);left;refine yH (λ_=>?_) (λc=>absurd rfl c);left;refine XS x S h q ⟨m,hok,⋯⟩ λv1 H1 s I=>?_;left;refine Zs x I (zV.cons .mm zV.nil) λx2 H2 X D=>?_;exact aH D k (s.same X) .mm
 |groups x y=>
  simp only [Rl.deep] at O;have lc:(", ":Str).length=2:=by decide+kernel
  have m:mS T (x.text++(", ":Str)++y.text) i:=m;rw [xy] at m;have g1:=xv m;have g2:=xv g1.2;rw [lc] at g2;left;refine yH (λc=>absurd c (by show ¬("groups(":Str)=("other(":Str);decide+kernel)) (λ_=>?_);left;refine yH (λc=>absurd c (by show ¬("groups(":Str)=("ranks(":Str);decide+kernel)) (λ_=>?_);left;refine yH (λ_=>?_) (λc=>absurd rfl c);left;refine XS x S h q ⟨g1.1,hok.1,⋯⟩ λv1 H1 s I=>?_;left;refine Xx ?_;left;refine UB s (by rfl) ?_;left;refine xS s q (by decide+kernel) g2.1 λH2 c2 J=>?_;have D:=I.ch c2 J;rw [lc] at J;left;refine XS y D J q ⟨g2.2,hok.2,⋯⟩ λv3 H3 L Z=>?_;left;refine Zs (x,y) Z (zV.cons .mm (zV.cons .mm zV.nil)) λx4 H4 e4 Y=>?_;refine aH Y k ?_ .mm;rw [show i+(Rl.groups x y).inner.length=i+x.text.length+2+y.text.length by show i+(x.text++(", ":Str)++y.text).length=_;rw [xC,xC,lc];lia];exact L.same e4
 |upto t b x y=>
  simp only [Rl.deep] at O;have lc:(", ":Str).length=2:=by decide+kernel
  obtain ⟨U,ox,oy⟩:=hok;have m:mS T (itS t++("/":Str)++itS b++(", ":Str)++x.text++(", ":Str)++y.text) i:=m;have e0:itS t++("/":Str)++itS b++(", ":Str)++x.text++(", ":Str)++y.text=(itS t++("/":Str)++itS b)++((", ":Str)++(x.text++((", ":Str)++y.text))):=by simp only [xy]
  rw [e0] at m
  obtain ⟨ds,es,PH,NY⟩:=KA U m (by
   show ((", ":Str).cps++_)[0]? =some 44;rw [Array.getElem?_append_left (by decide+kernel)]
   decide+kernel)
  have g0:=xv m;have g1:=xv g0.2;have g2:=xv g1.2;have g3:=xv g2.2;rw [<-NY] at g1 g2 g3;rw [lc] at g2 g3;left;refine yH (λc=>absurd c (by show ¬("upto(":Str)=("other(":Str);decide+kernel)) (λ_=>?_);left;refine yH (λc=>absurd c (by show ¬("upto(":Str)=("ranks(":Str);decide+kernel)) (λ_=>?_);left;refine yH (λc=>absurd c (by show ¬("upto(":Str)=("groups(":Str);decide+kernel)) (λ_=>?_);left;refine XS ((t,b),ds,es) S h q PH λv0 H0 h0 S0=>?_;left;refine Xx ?_;left;refine UB h0 (by rfl) ?_;left;refine xS h0 q (by decide+kernel) g1.1 λH1 c1 s=>?_;have I:=S0.ch c1 s;rw [lc] at s;left;refine XS x I s q ⟨g2.1,ox,⋯⟩ λv2 H2 J D=>?_;left;refine Xx ?_;left;refine UB J (by rfl) ?_;left;refine xS J q (by decide+kernel) g3.1 λH3 c3 L=>?_;have Z:=D.ch c3 L;rw [lc] at L;left;refine XS y Z L q ⟨g3.2,oy,⋯⟩ λv4 H4 h4 Y=>?_;left;refine Zs ((t,b),x,y) Y (zV.cons .mm (zV.cons .mm (zV.cons .mm zV.nil))) λx5 H5 e5 S5=>?_;refine aH S5 k ?_ .mm
  rw [show i+(Rl.upto t b x y).inner.length=i+(ds.length+1+es.length)+2+x.text.length+2+y.text.length by
   show i+(itS t++("/":Str)++itS b++(", ":Str)++x.text++(", ":Str)++y.text).length=_
   rw [e0,xC,<-NY];simp only [xC,lc];lia]
  exact h4.same e5
abbrev Xq:Stmt:=top 78
def bZ:FnScope ["walk","word","rule"] pav (zh Xq):=yP
def Gs {n:Nat} (W_ok:WOk K fS fE CW) {fdE:FuncData} (yL:FnOk P w K mg base CX0 2 fE fdE pan (Xo CW)) (yj:yp K fdE pan []) (s:ZN P w K mg base "Shares" (A.cls .shares) pac (yr (A.cls .shares) (α:=Unit) (λ_=>[]) (λ_=>Rl.shares.shape))) (C:ZN P w K mg base "Evenly" (A.cls .evenly) pac (yr (A.cls .evenly) (α:=Unit) (λ_=>[]) (λ_=>Rl.evenly.shape))) (u:ZN P w K mg base "Losses" (A.cls .losses) pac (yr (A.cls .losses) (α:=Unit) (λ_=>[]) (λ_=>Rl.losses.shape))) (z:ZN P w K mg base "Halves" (A.cls .halves) pac (yr (A.cls .halves) (α:=Unit) (λ_=>[]) (λ_=>Rl.halves.shape))) (gU:Cal P w K mg base CX0 3 "read_word" pav (tI CW)) (mT:Cal P w K mg base CX0 (2*n+6) "read_within_brackets" paW (IB CW A n)) (F:Fun K "read_rule" "read_rule" Xq f fd):FnOk P w K mg base CX0 (2*n+7) f fd pav (tL CW A (n+1)):=by
 obtain ⟨Ng,MN,pQ,Fc,EV,uB⟩:=s;obtain ⟨Nk,MR,pU,Fh,EZ,uF⟩:=C;obtain ⟨Nh,MO,pR,Fd,EW,uC⟩:=u;obtain ⟨Ni,MP,pS,Fe,EX,uD⟩:=z;refine F.oo bZ λH vs Q E hr nd0 h=>?_;obtain ⟨G,a,T,i,r,rfl,eG,ga,h,I,⟨Z,hok,NO⟩,k⟩:=h;have S:Sw a H G H []:=Sw.enter eG ga h λp hp=>absurd hp Qm;dsimp only at k;obtain ⟨q,hq⟩:=r.word_at;have Y:(")":Str).length=1:=by decide+kernel
 have hw:mS T r.word i:=by
  cases Pq:r.leaf with
  |true=>cases r<;>first|exact Z|cases Pq
  |false=>
   rw [r.text_in Pq,xy] at Z;exact (xv Z).1
 walk_at "=ek1gba0cemptoa1rjfiΩаnemptoa1rjfiбвnemptoa1rjfiгдnemptoa1rjfiежnek2gba0ba1ceE!a0?brcfia2";left;refine JW h I hq hw λH1 c1 J=>?_;have L:=S.ch c1 J
 have more:r.leaf=false->mS T r.inner (i+r.word.length)/\mS T (")":Str) (i+r.word.length+r.inner.length)/\i+r.text.length=i+r.word.length+r.inner.length+1:=λPq=>by
  have e:=r.text_in Pq;rw [e,xy] at Z;have g1:=xv Z;have g2:=xv g1.2;refine ⟨g2.1,g2.2,?_⟩;rw [e,xC,xC,Y];lia
 cases r with
 |shares=>
  left;refine yH (λ_=>?_) (λc=>absurd rfl c);left;refine Zs () L zV.nil λx2 X N m=>?_;exact aH m k (J.same N) .mm
 |evenly=>
  left;refine yH (λc=>absurd c (by decide+kernel)) (λ_=>?_);left;refine yH (λ_=>?_) (λc=>absurd rfl c);left;refine Zs () L zV.nil λx2 X N m=>?_;exact aH m k (J.same N) .mm
 |losses=>
  left;refine yH (λc=>absurd c (by decide+kernel)) (λ_=>?_);left;refine yH (λc=>absurd c (by decide+kernel)) (λ_=>?_);left;refine yH (λ_=>?_) (λc=>absurd rfl c);left;refine Zs () L zV.nil λx2 X N m=>?_;exact aH m k (J.same N) .mm
 |halves=>
  left;refine yH (λc=>absurd c (by decide+kernel)) (λ_=>?_);left;refine yH (λc=>absurd c (by decide+kernel)) (λ_=>?_);left;refine yH (λc=>absurd c (by decide+kernel)) (λ_=>?_);left;refine yH (λ_=>?_) (λc=>absurd rfl c);left;refine Zs () L zV.nil λx2 X N m=>?_;exact aH m k (J.same N) .mm
 |other x=>
  obtain ⟨m1,m2,M⟩:=more rfl;left;refine yH (λc=>absurd c (by show ¬("other(":Str)=("shares":Str);decide+kernel)) (λ_=>?_);left;refine yH (λc=>absurd c (by show ¬("other(":Str)=("evenly":Str);decide+kernel)) (λ_=>?_);left;refine yH (λc=>absurd c (by show ¬("other(":Str)=("losses":Str);decide+kernel)) (λ_=>?_);left;refine yH (λc=>absurd c (by show ¬("other(":Str)=("halves":Str);decide+kernel)) (λ_=>?_);left;refine XS (Rl.other x) L J I ⟨m1,rfl,hok,NO⟩ λv2 X D m=>?_;left;refine Xx ?_;left;refine UB D (by rfl) ?_;left;refine xS D I (by decide+kernel) m2 λH3 O g=>?_;have U:=m.ch O g;left;refine aH U k ?_ .mm;rw [Y] at g;rw [M];exact g
 |ranks x=>
  obtain ⟨m1,m2,M⟩:=more rfl;left;refine yH (λc=>absurd c (by show ¬("ranks(":Str)=("shares":Str);decide+kernel)) (λ_=>?_);left;refine yH (λc=>absurd c (by show ¬("ranks(":Str)=("evenly":Str);decide+kernel)) (λ_=>?_);left;refine yH (λc=>absurd c (by show ¬("ranks(":Str)=("losses":Str);decide+kernel)) (λ_=>?_);left;refine yH (λc=>absurd c (by show ¬("ranks(":Str)=("halves":Str);decide+kernel)) (λ_=>?_);left;refine XS (Rl.ranks x) L J I ⟨m1,rfl,hok,NO⟩ λv2 X D m=>?_;left;refine Xx ?_;left;refine UB D (by rfl) ?_;left;refine xS D I (by decide+kernel) m2 λH3 O g=>?_;have U:=m.ch O g;left;refine aH U k ?_ .mm;rw [Y] at g;rw [M];exact g
 |groups x y=>
  obtain ⟨m1,m2,M⟩:=more rfl;left;refine yH (λc=>absurd c (by show ¬("groups(":Str)=("shares":Str);decide+kernel)) (λ_=>?_);left;refine yH (λc=>absurd c (by show ¬("groups(":Str)=("evenly":Str);decide+kernel)) (λ_=>?_);left;refine yH (λc=>absurd c (by show ¬("groups(":Str)=("losses":Str);decide+kernel)) (λ_=>?_);left;refine yH (λc=>absurd c (by show ¬("groups(":Str)=("halves":Str);decide+kernel)) (λ_=>?_);left;refine XS (Rl.groups x y) L J I ⟨m1,rfl,hok,NO⟩ λv2 X D m=>?_;left;refine Xx ?_;left;refine UB D (by rfl) ?_;left;refine xS D I (by decide+kernel) m2 λH3 O g=>?_;have U:=m.ch O g;left;refine aH U k ?_ .mm;rw [Y] at g;rw [M];exact g
 |upto t b x y=>
  obtain ⟨m1,m2,M⟩:=more rfl;left;refine yH (λc=>absurd c (by show ¬("upto(":Str)=("shares":Str);decide+kernel)) (λ_=>?_);left;refine yH (λc=>absurd c (by show ¬("upto(":Str)=("evenly":Str);decide+kernel)) (λ_=>?_);left;refine yH (λc=>absurd c (by show ¬("upto(":Str)=("losses":Str);decide+kernel)) (λ_=>?_);left;refine yH (λc=>absurd c (by show ¬("upto(":Str)=("halves":Str);decide+kernel)) (λ_=>?_);left;refine XS (Rl.upto t b x y) L J I ⟨m1,rfl,hok,NO⟩ λv2 X D m=>?_;left;refine Xx ?_;left;refine UB D (by rfl) ?_;left;refine xS D I (by decide+kernel) m2 λH3 O g=>?_;have U:=m.ch O g;left;refine aH U k ?_ .mm;rw [Y] at g;rw [M];exact g
def KP (W_ok:WOk K fS fE CW) {I:FuncData} (yL:FnOk P w K mg base CX0 2 fE I pan (Xo CW)) (yj:yp K I pan []) (g:ZN P w K mg base "Shares" (A.cls .shares) pac (yr (A.cls .shares) (α:=Unit) (λ_=>[]) (λ_=>Rl.shares.shape))) (t:ZN P w K mg base "Evenly" (A.cls .evenly) pac (yr (A.cls .evenly) (α:=Unit) (λ_=>[]) (λ_=>Rl.evenly.shape))) (m:ZN P w K mg base "Losses" (A.cls .losses) pac (yr (A.cls .losses) (α:=Unit) (λ_=>[]) (λ_=>Rl.losses.shape))) (p:ZN P w K mg base "Halves" (A.cls .halves) pac (yr (A.cls .halves) (α:=Unit) (λ_=>[]) (λ_=>Rl.halves.shape))) (y:ZN P w K mg base "Other" (A.cls (.other .shares)) pak (yr (A.cls (.other .shares)) (α:=Rl) (λr=>[r.ins A]) (λr=>(Rl.other r).shape))) (u:ZN P w K mg base "Ranks" (A.cls (.ranks .shares)) pak (yr (A.cls (.ranks .shares)) (α:=Rl) (λr=>[r.ins A]) (λr=>(Rl.ranks r).shape))) (q:ZN P w K mg base "Groups" (A.cls (.groups .shares .shares)) pau (yr (A.cls (.groups .shares .shares)) (α:=Rl×Rl) (λr=>[r.1.ins A,r.2.ins A]) (λr=>(Rl.groups r.1 r.2).shape))) (z:ZN P w K mg base "Upto" (A.cls (.upto 0 0 .shares .shares)) paj (yr (A.cls (.upto 0 0 .shares .shares)) (α:=(Int×Int)×Rl×Rl) (λr=>[.tuple [.int r.1.1, .int r.1.2],r.2.1.ins A,r.2.2.ins A]) (λr=>(Rl.upto r.1.1 r.1.2 r.2.1 r.2.2).shape))) (O:Cal P w K mg base CX0 3 "read_word" pav (tI CW)) (X:Cal P w K mg base CX0 4 "read_portion" pav (qt CW)) {fr L:Addr} {C D:FuncData} (F:Fun K "read_rule" "read_rule" Xq fr C) (hm:mg "read_rule"=some (.ref fr)) (b:yp K C pav []) (M:Fun K "read_within_brackets" "read_within_brackets" yD L D) (J:mg "read_within_brackets"=some (.ref L)) (U:yp K D paW []):∀n,FnOk P w K mg base CX0 (2*n+5) fr C pav (tL CW A n):=by
 intro n
 induction n with
 |zero=>
  refine F.ok bZ (λvs H Q E h=>?_) (λNA A' outer s H vs Q E hr h=>?_)
  ·obtain ⟨_,_,_,_,_,rfl,_⟩:=h;rfl
  obtain ⟨G,a,T,i,r,rfl,eG,ga,h,hT,⟨hh,hok,Y⟩,k⟩:=h;exact absurd Y (by cases r<;>simp [Rl.deep])
 |succ n N=>
  have C1:=UM F N hm b;have Z:=UM M (wa W_ok yL yj y u q z X C1 M) J U;exact Gs W_ok yL yj g t m p O Z F
end
section
variable {fS fE CW:Addr} {A:RAd}
abbrev ZV:Stmt:=xx (top 76) 0
def cA:FnScope paT paT (zh ZV):=yP
def Gk (W_ok:WOk K fS fE CW) (F:Fun K "__init__" "Walk.__init__" ZV f fd):FnOk P w K mg base CX0 1 f fd paT (Bo CW):=by
 walk_at "+cA";obtain ⟨x,g,T,rfl,m,k⟩:=h;walk_at "=e)a0a1f)a0d";refine rd_seq ?_;refine ⟨.str T,rfl, .ref x,rfl,x,CW,g,[],rfl,m,W_ok.cl,W_ok.na,nofun,?_⟩;refine FW ?_;refine ⟨.ref x,rfl,x,CW,g,_,rfl,ya,W_ok.cl,W_ok.nb,by show 1<1000;decide,?_⟩;refine k _ (Ch.upd.trans Ch.upd) ⟨g,?_⟩;rw [ya];rfl
abbrev BM:Stmt:=top 77
def JP:FnScope ["text","walk","rule"] ["text"] (zh BM):=yP
def KQ {n:Nat} (W_ok:WOk K fS fE CW) {q t:FuncData} {J:Addr} (Yh:FnOk P w K mg base CX0 1 fS q pac (iZ CW)) (xq:yp K q pac []) (IX:mg "Walk"=some (.ref CW)) (EI:Mk K CW J) (Jt:FnOk P w K mg base CX0 1 J t paT (Bo CW)) (Ji:yp K t paT []) (sV:Cal P w K mg base CX0 (2*n+5) "read_rule" pav (tL CW A n)):Coo P w K mg base "read" BM (2*n+6) ["text"] (Bt A n):=by
 walk_at "-JP";obtain ⟨G,r,L,M,⟨hok,hsz,X⟩,k⟩:=h;obtain ⟨v,rfl,al⟩:=Yd M;cases (Is.str_of (al _ (Qp.mpr rfl)));dsimp only at k;have D:r.text.length<=100000:=QP (r.text_len hok) ⋯;walk_at "=ek1зиba0cek2gba1cempKo>a1=rjMnfia2";left;intro x N u T NR;refine ⟨x,N,r.text,rfl,ya,λC O I=>⟨rfl,?_⟩⟩
 have old:∀p o,H p=some o->C p=some o:=λp o hp=>by
  rw [O p (zU hp u),zP (zU hp u),zP (zU hp T)];exact hp
 have S:Sw x C G C []:=Sw.enter (λp o hp=>old p o (L p o hp)) (L.free u) I λp hp=>absurd hp Qm;left;refine XS r S I D ⟨Hz _,hok,X⟩ λv3 Y y U=>?_;rw [Nat.zero_add] at y;left;refine jo y W_ok ?_;refine aJ y D ?_;rw [JM];left;refine iG (by decide+kernel) ?_;left;obtain ⟨Z,m,z⟩:=U.leave;refine k _ Y Z ⟨λp o hp=>m.k p o (zU hp u) (old p o hp),m.g,m.s,λp hp=>m.o p ?_⟩ (z _ (Qp.mpr rfl))
 cases e:H p with
 |none=>exact absurd e hp
 |some o=>rw [old p o e];simp
end
abbrev aA:Stmt:=top 95
def VJ:FnScope ["_law_shape_here","_law_portion_here","_law_rules"] paL (zh aA):=yP
def GD (B:Bl mg) (F:Fun K "_law_text" "_law_text" aA f fd) (hm:mg "_law_text"=some (.ref f)) (b:yp K fd paL []):∀n:Nat,FnOk P w K mg base CX0 (n+1) f fd paL (kA n):=by
 intro n
 induction n with
 |zero=>
  refine F.ok VJ (λvs H Q E h=>?_) (λNA A outer s H vs Q E hr h=>?_)
  ·obtain ⟨r,h,_⟩:=h;rw [<-h.len];rfl
  obtain ⟨r,_,⟨_,_,hd⟩,_⟩:=h;exact absurd hd (by cases r<;>simp [Rl.deep])
 |succ n ih=>
  have AE:Cal P w K mg base CX0 (n+1) "_law_text" paL (kA n):=UM F ih hm b;refine F.ok VJ (λvs H Q E h=>?_) (λNA A outer s H vs Q E hr h=>?_)
  ·obtain ⟨r,h,_⟩:=h;rw [<-h.len];rfl
  obtain ⟨r,hA,⟨hok,hsz,M⟩,k⟩:=h;obtain ⟨v,rfl,al⟩:=Yd hA;dsimp only at k;have S:Sta H H H [] [(r.shape,v)]:=Sta.enter (zG.refl _) al;have l3:("(":Str).length=1:=by decide+kernel
  have l4:("/":Str).length=1:=by decide+kernel
  have l5:(")":Str).length=1:=by decide+kernel
  have l6:(", ":Str).length=2:=by decide+kernel
  have nd0:=VJ.nd;walk_at "=emptowba0cdjfih0nemptoh0rjek1QQιblh0dcrιblh0dcek2QQgbh0crgbh0cfiQQQQra1ra2rnfiQQQh0rйrbC_law_part;1;*ηa0Ud8u0vgba0ccr"
  rcases (show (∃wd:Str,r.shape= .tuple [.str wd]/\r.text=wd)\/(∃(wd:Str) (x:Rl),r.shape= .tuple [.str wd,x.shape]/\wd≠"upto"/\wd.length<=10/\(x.Ok/\x.size<=16/\x.deep<=n)/\r.text=wd++("(":Str)++x.text++(")":Str))\/(∃x y,r= .groups x y)\/∃(t b:Int) (x y:Rl),r= .upto t b x y from by
   cases r with
   |shares=>exact .inl ⟨_,rfl,rfl⟩
   |evenly=>exact .inl ⟨_,rfl,rfl⟩
   |losses=>exact .inl ⟨_,rfl,rfl⟩
   |halves=>exact .inl ⟨_,rfl,rfl⟩
   |other x=>
    simp only [Rl.size,Rl.deep] at hsz M;refine .inr (.inl ⟨"other",x,rfl,by decide+kernel,by decide+kernel,⟨hok,⋯,⋯⟩,?_⟩);rw [Rl.text,show ("other(":Str)=("other":Str)++("(":Str) by decide+kernel]
   |ranks x=>
    simp only [Rl.size,Rl.deep] at hsz M;refine .inr (.inl ⟨"ranks",x,rfl,by decide+kernel,by decide+kernel,⟨hok,⋯,⋯⟩,?_⟩);rw [Rl.text,show ("ranks(":Str)=("ranks":Str)++("(":Str) by decide+kernel]
   |groups x y=>exact .inr (.inr (.inl ⟨x,y,rfl⟩))
   |upto t b x y=>exact .inr (.inr (.inr ⟨t,b,x,y,rfl⟩))) with ⟨wd,T,z⟩|⟨wd,x,T,hw,SY,⟨m,p,dx⟩,z⟩|⟨x,y,rfl⟩|⟨t,b,x,y,rfl⟩
  ·rw [T] at S;rw [z] at k;left;refine yH (λ_=>?_) (λc=>absurd rfl c);left;exact vK S k
  ·rw [T] at S;rw [z] at k;have U:x.text.length<=64000:=QP (x.text_len m) ⋯;left;refine yH (λc=>by simp at c) (λ_=>?_);left;refine yH (λc=>absurd c hw) (λ_=>?_);left;refine IE S .mm (by show ¬(HT.sIx 2 0 (some 1)=0/\HT.sIx 2 2 none=2);decide) λl2 H2 z I=>?_;refine aL I .mm λJ N=>?_;refine yg N (λ_=> .str x.text) rfl I (λ_ _=> .mem (by right)) (by show 1<=1000;decide) (λj u v B' G' Kd Kn g t1 S hd C ex s0 H0=>?_) λD H3 e3 G=>?_
   ·obtain rfl:u=x.shape:=by
     match j,g with
     |0,g=>exact (Qw g).symm
    refine zF ⟨rfl,?_⟩;left;refine UA S .mm m p dx λX L=>?_;exact hd L Has.str
   left;refine Cp G (by right) (Hn ⋯) ?_;rw [glued1];left;exact vK G k
  ·simp only [Rl.size,Rl.deep] at hsz M;have m:=hok.1;have q:=hok.2;have p:x.size<=16:=⋯
   have O:y.size<=16:=⋯
   have U:x.text.length<=64000:=QP (x.text_len m) ⋯;have ly:y.text.length<=64000:=QP (y.text_len q) ⋯;have S:Sta H H H [] [(.tuple [.str "groups",x.shape,y.shape],v)]:=S;rw [Rl.text,show ("groups(":Str)=("groups":Str)++("(":Str) by decide+kernel] at k;have lg:("groups":Str).length=6:=by decide+kernel
   left;refine yH (λc=>by simp at c) (λ_=>?_);left;refine yH (λc=>absurd c (by decide+kernel)) (λ_=>?_);left;refine IE S .mm (by show ¬(HT.sIx 3 0 (some 1)=0/\HT.sIx 3 3 none=3);decide) λl2 H2 z I=>?_;refine aL I .mm λJ N=>?_;refine yg N (λj=> .str ([x,y].getD j x).text) rfl I (λ_ _=> .mem (by right)) (by show 2<=1000;decide) (λj u v B' G' Kd Kn g t1 S hd C ex s0 H0=>?_) λD H3 e3 G=>?_
   ·have hj:u=([x,y].getD j x).shape/\([x,y].getD j x).Ok/\([x,y].getD j x).size<=16/\([x,y].getD j x).deep<=n:=by
     match j,g with
     |0,g=>exact ⟨(Qw g).symm,m,p,by show x.deep<=n;lia⟩
     |1,g=>exact ⟨(Qw g).symm,q,O,by show y.deep<=n;lia⟩
    obtain ⟨rfl,o1,Z,Y⟩:=hj;refine zF ⟨rfl,?_⟩;left;refine UA S .mm o1 Z Y λX L=>?_;exact hd L Has.str
   left;refine Cp (ys:=[x.text,y.text]) G (by right) (Hm ⋯ ⋯) ?_;rw [glued2];have lg2:(x.text++(", ":Str)++y.text).length<=200000:=by simp only [xC];lia
   left;simp only [xy] at k⊢;exact vK G k
  ·simp only [Rl.size,Rl.deep] at hsz M;obtain ⟨⟨⟨ht,hb⟩,_⟩,m,q⟩:=hok;have p:x.size<=16:=⋯
   have O:y.size<=16:=⋯
   have U:x.text.length<=64000:=QP (x.text_len m) ⋯;have ly:y.text.length<=64000:=QP (y.text_len q) ⋯;have lt:=lU ht;have lb:=lU hb;have S:Sta H H H [] [(.tuple [.str "upto", .tuple [.int t, .int b],x.shape,y.shape],v)]:=S;rw [Rl.text] at k;have lg:("upto(":Str).length=5:=by decide+kernel
   left;refine yH (λc=>by simp at c) (λ_=>?_);left;refine yH (λ_=>?_) (λc=>absurd rfl c);left;refine UA (by assumption) .mm m p ⋯ λX L=>?_;left;refine UA (by assumption) .mm q O ⋯ λH5 S5=>?_;left;simp only [xy] at k⊢;exact vK S5 k
local macro_rules|`(tactic|walk_at "rd")=>`(tactic|first|fail "&177"|fail)
section
variable {A:RAd}
abbrev YD:Stmt:=top 10
def Wr:FnScope ["claims","claim"] pao (zh YD):=yP
def GK (B:Bl mg) (g:mg "MOST"=some (.int 8 tM)):Coo P w K mg base "check_claims" YD 1 pao kB:=by
 walk_at "-Wr";obtain ⟨l,r,ok,k⟩:=h;obtain ⟨v,rfl,al⟩:=Yd r;have S:Sta H H H [] [(zj l,v)]:=Sta.enter (zG.refl _) al;have pos:=ok.pos;have few:=ok.few;refine ⟨_,(uc (ps_if (PW.pt (pw_or (qU (op_eqA (Fy hr)) (dg pB rfl B.len Jh (WG (pv 0) fc)) ue (Dg _)) (pw_or1 (qU op_gt (dg pB rfl B.len Jh (WG (pv 0) fc)) (KC (v:= .int 8) rfl g ⟨_,rfl⟩) (Dg _))))) (eU ud) Cy) (eU (ps_for PassesOwn.never rfl (lE (pv 0)) (pg_a 1 Wr.nd) (eU (ps_if (qU op_lt (dg (Ew rfl) rfl B.min Jg (WG (pv 1) fc)) ue (Dg _)) (eU ud) Cy))))),lr ?_⟩;left;refine yH (λc=>absurd c (by rw [Qb];lia)) (λ_=>?_);left;refine yH (λc=>absurd c (by rw [Qb];lia)) (λ_=>?_);left;refine zZ (xs:=l.map zH) S .mm λJ p=>?_;refine Zu p (λi σ cs ds=>(∃x,σ=[some v,x])/\cs=[]/\ds=[(zj l,v)]) S ⟨⟨none,rfl⟩,rfl,rfl⟩ (λi σ cs ds h=>?_) ?_ ?_
 ·obtain ⟨_,rfl,rfl⟩:=h;exact .mem (by right)
 ·rintro i x u σ H2 cs ds hx ⟨⟨x1,rfl⟩,rfl,rfl⟩ S2
  obtain ⟨c,q,rfl⟩:=zM hx;have nn:=ok.nn c (Qd q);left;refine Kh (ns:=[c.1,c.2.1,c.2.2]) S2 .mm (Nat.zero_lt_succ _) λm hm _=>?_
  have m0:¬m<0:=by
   simp only [Qn,Qm,or_false] at hm
   rcases hm with rfl|rfl|rfl<;>lia
  left;refine yH (λc=>absurd c m0) (λ_=>?_);left;exact YE (S2.dat ‹()›) ⟨⟨_,rfl⟩,rfl,rfl⟩
 ·rintro σ H2 cs ds ⟨⟨x1,rfl⟩,rfl,rfl⟩ S2
  exact k _ S2.base
abbrev Yy:Stmt:=top 58
def dW:FnScope ["parts"] ["parts"] (zh Yy):=yP
def ok_wc (B:Bl mg):Coo P w K mg base "whole_corner" Yy 1 ["parts"] spWC:=by
 walk_at "-dW";obtain ⟨G,l,s,r,ok,k⟩:=h;obtain ⟨v,rfl,al⟩:=Yd r;have S:Sta H G H [] _:=Sta.enter s al;walk_at "=fisbsb12ba0cbdcb-bCpart;1;za0u0vsba0bdccc";left;rename_i t H1 z g;refine zZ g .mm λJ m=>?_;refine xj m (λj=>frD ((l.getD j 0:Int):Rat)) (ys:=(zR l).2.map frD) (by unfold zR;rw [Qb,Qo];exact zv (λx:Int=>frD ((x:Int):Rat)) 0 l) g (λj x v=>λq t1 S hd=>?_) λD I u C=>?_
 ·obtain ⟨y,p,rfl⟩:=zM q;cases S.int1;refine zF ⟨rfl,?_⟩;left;refine hd (by assumption) ?_;rw [zA p];exact .mem (by right)
 left;exact Zo (by assumption) k .mm
abbrev eI:Stmt:=top 57
def vJ:FnScope ["count"] ["count"] (zh eI):=yP
def wg (J:Cal P w K mg base CX0 1 "whole_corner" ["parts"] spWC):Coo P w K mg base "nothing" eI 2 ["count"] Wn:=by
 walk_at "-vJ";obtain ⟨G,n,q,m,ok,k⟩:=h;cases (yv (ns:=[(n:Int)]) m);have S:Sta H G H [] []:=Sta.enter q λp hp=>absurd hp Qm;walk_at "=fiDbgbκDbdca0cc";left;rename_i z H1 I t;refine Ke t (by right) ⋯ λg u D s=>?_;have r:Sta H G u [] [(.list ((ZS n).map PyData.int), .ref g)]:=s.freeze.weak (by walk_at "sub") ‹()›;refine JX r .mm (by rw [Ul];exact ok) λy M C L=>?_;left;exact Zp (by assumption) k
abbrev kM:Stmt:=top 51
def BF:FnScope ["claims","amounts"] pao (zh kM):=yP
def CH (B:Bl mg) (Xl:Cal P w K mg base CX0 2 "nothing" ["count"] Wn) (YH:Cal P w K mg base CX0 1 "whole_corner" ["parts"] spWC):Coo P w K mg base "shares" kM 3 pao (bY 0):=by
 walk_at "-BF";obtain ⟨G,l,I,z,ok,k⟩:=h;obtain ⟨v,rfl,al⟩:=Yd z;have S:Sta H G H [] _:=Sta.enter I al;have few:=ok.few;walk_at "=eT1claim;1;za0u0vh0empto12ba1cdjfigbwba1ccnfixgbwba1ccDbgba1cc";left;refine zZ S .mm λJ s=>?_;refine xj s (λj=> .int (l.getD j (0,0,0)).1) (ys:=(amV l).map PyData.int) (by unfold amV;rw [Qb,Qo];exact zv (λc:Cl=>PyData.int c.1) (0,0,0) l) S (λj x v=>λu t1 S hd=>?_) λD H1 e1 r=>?_
 ·obtain ⟨c,y,rfl⟩:=zM u;refine zF ⟨rfl,?_⟩;left;refine hd (by assumption) ?_;rw [zA y];exact Has.int
 have q:Sta H G H1 [] [(.list ((amV l).map PyData.int), .ref D)]:=r.freeze.weak (by walk_at "sub") ‹()›;clear r;have g:(amV l).length<=8:=by rw [zQ];lia
 dsimp only at k;unfold flV at k;have C:LC (amV l) (lvV (amV l)) 0=shP (amV l):=rfl;rw [C] at k;generalize amV l=as at*;unfold shP at k;left;refine yH (λc=>?_) (λc=>?_)
 ·rw [QD c] at k;left;rw [Qb];refine aK q g λt N L p=>?_;exact Zp p k
 ·rw [QI c] at k;left;rw [Qb];refine aK q g λt N L p=>?_;left;refine JX p .mm g λO H4 Z S4=>?_;left;rename_i U H5 Y m;refine WB m (m.vwC (by right)) (m.vwC (by right)) (by show 1+1<=1000;decide) λT H6 X M=>?_;exact Zp M k
abbrev kS:Stmt:=top 52
def nK:FnScope ["claims","amounts"] pao (zh kS):=yP
def CV (B:Bl mg) (B2:Bl3 mg) (YH:Cal P w K mg base CX0 1 "whole_corner" ["parts"] spWC):Coo P w K mg base "evenly" kS 2 pao (bY 1):=by
 walk_at "-nK";obtain ⟨G,l,eG,T,ok,k⟩:=h;obtain ⟨v,rfl,al⟩:=Yd T;have S:Sta H G H [] _:=Sta.enter eG al;have few:=ok.few;refine ⟨_,(uc (ps_a 1 nK.nd (pcf ["claim"] 1 [] (lE (pv 0)) (pg_c 0) qV (pix 0))) (eU (ps_ret (Gj (N:=["level","amounts"]) (n:=1) (fr:=[1]) (y:="level") rfl ⟨rfl,by decide+kernel,rfl,nofun,rfl,rfl,λ_ _=>rfl,λ_=>rfl,rfl,rfl,rfl,rfl⟩ (lE (Gi rfl rfl B2.sorted rfl B2.set (pe_op CD (pe_lst (WG ue fc)) (pv 1)))) (λ_ _ _ _=>(qX (i:=0) (show (["level","amounts"]:List Str).Nodup from by decide+kernel) rfl (by walk_at "o"))) (λ_ _ _ _=>qV) (λ_ _ _ _=>(pcl YH hr (WG (pcf ["amount","level"] 1 [0] (lE (pv 1)) (pg_c 0) qV (dg (Ex rfl) rfl B.min Jg (WG (pv 0) (WG (pv 1) fc)))) fc))))))),lr ?_⟩;left;refine zZ S .mm λJ t=>?_;refine xj t (λj=> .int (l.getD j (0,0,0)).1) (ys:=(amV l).map PyData.int) (by unfold amV;rw [Qb,Qo];exact zv (λc:Cl=>PyData.int c.1) (0,0,0) l) S (λj x v=>λg t1 S hd=>?_) λD H1 e1 s=>?_
 ·obtain ⟨c,O,rfl⟩:=zM g;refine zF ⟨rfl,?_⟩;left;refine hd (by assumption) ?_;rw [zA O];exact Has.int
 have p:Sta H G H1 [] [(.list ((amV l).map PyData.int), .ref D)]:=s.freeze.weak (by walk_at "sub") ‹()›;clear s;have I:(amV l).length<=8:=by rw [zQ];lia
 have L:=ok.lv;have Lf:=L.few;dsimp only at k;unfold flV at k;have Z:LC (amV l) (lvV (amV l)) 1=evP (amV l) (lvV (amV l)):=rfl;rw [Z] at k;generalize amV l=as at*;left;rename_i p3 H3 e3 m;refine WB m (m.vwC (by right)) (m.vwL .mm) (by rw [Qb];show 1+_<=1000;lia) λp4 H4 e4 r=>?_;rw [show [PyData.int 0]++as.map PyData.int=(0::as).map PyData.int from rfl] at r;refine eO r (by right) (by rw [QE];lia) λos l5 H5 X U e5 q=>?_;cases lvV_eq X U;generalize lvV as=ls at*;refine Cm q (by right) λJ2 Pf=>?_;refine yg Pf (λj=>zY (zR (WI as (ls.getD j 0)))) (ys:=(evP as ls).map zY) (by unfold evP;rw [Qb,Qo];exact zv (λz:Int=>zY (zR (WI as z))) 0 ls) q (λ_ _=>Qe _ (by right)) (by rw [Qb];lia) (λj x v B' G' Kd Kn g t1 S hd C ex s0 H0=>?_) λD6 H6 e6 S6=>?_
 ·obtain ⟨z,M,rfl⟩:=zM g;cases S.int1;refine zF ⟨rfl,?_⟩;left;refine zZ S .mm λJ3 OI=>?_;refine yg OI (λi=> .int (min (as.getD i 0) z)) (ys:=(WI as z).map PyData.int) (by unfold WI;rw [Qb,Qo];exact zv (λa:Int=>PyData.int (min a z)) 0 as) S (λ_ _=> .mem (by right)) (by rw [Qb];lia) (λi x u B3 G3 Kd2 Kn2 Se t2 p hd2 C2 Y s2 H2=>?_) λD7 H7 e7 S7=>?_
  ·obtain ⟨a,ha,rfl⟩:=zM Se;cases p.int1;refine zF ⟨rfl,?_⟩;left;refine hd2 p ?_;rw [zA ha];exact Has.int
  left;refine JX S7.freeze .mm (by unfold WI;rw [Qb];exact I) λw8 H8 e8 S8=>?_;refine hd S8 ?_;rw [zA M];exact .mem (by right)
 exact Zp S6 k
abbrev kQ:Stmt:=top 53
def BI:FnScope pao pao (zh kQ):=yP
def CQ (y:Cal P w K mg base CX0 2 "evenly" pao (bY 1)) (z:Cal P w K mg base CX0 5 "turned" ["path"] cR):Coo P w K mg base "losses" kQ 6 pao (bY 2):=by
 walk_at "-BI";obtain ⟨G,l,p,m,ok,k⟩:=h;obtain ⟨v,rfl,al⟩:=Yd m;have S:Sta H G H [] _:=Sta.enter p al;walk_at "=figbgba0cc";left;refine aM S .mm ok λs H1 u q=>?_;left;refine nR (a:=flV 1 l) q.freeze .mm (ok.lv.inE ok.am) λr C t g=>?_;rw [show yk (flV 1 l)=flV 2 l from dD ok.lv] at g;exact Zp g k
abbrev BL:Stmt:=top 56
def JO:FnScope paC paC (zh BL):=yP
def KJ (Z:Cal P w K mg base CX0 5 "behind" paP Uq) (D:Cal P w K mg base CX0 4 "scaled" paV km) (Y:Cal P w K mg base CX0 3 "minus" pab ak):Coo P w K mg base "upto" BL 6 paC Bp:=by
 walk_at "-JO";obtain ⟨G,⟨p,a,b⟩,r,q,ok,k⟩:=h;obtain ⟨v0,v1,v2,rfl,al⟩:=Yc q;have S:Sta H G H [] _:=Sta.enter r al;dsimp only at ok k S;have g:=ok.sz;have one:SzQ 1 (1:Rat):=by unfold SzQ Sz;decide+kernel
 obtain ⟨m,pm⟩:=ok.m;walk_at "=figbgba1ba0cbgba2bgbsbdbdcba0ccc";left;refine nS (p:=p) S .mm .mm ok.pa (g.mono nofun) λM H1 X z=>?_;have S2:=z.freeze;left;rename_i L H3 U y;refine nV (p:=(1:Rat)) y .mm .mm one g nofun True.intro λC H4 T u=>?_;left;refine nS (p:=1 - p) u .mm .mm ok.pb ((one.sub g).mono nofun) λJ H5 O t=>?_;left;refine nZ t.freeze .mm .mm ok.sa ok.sb pm λI H6 N s=>?_;exact Zp s k
abbrev kU:Stmt:=top 50
def eB:FnScope ["shape","claims","word"] paE (zh kU):=yP
abbrev VY:Stmt:=xx (top 62) 3
def nN:FnScope paQ paQ (zh VY):=yP
abbrev Ww:Stmt:=xx (top 62) 4
def kI:FnScope pai pai (zh Ww):=yP
end
abbrev aw:Stmt:=top 11
def qE:FnScope paB paB (zh aw):=yP
def Gq:Coo P w K mg base "those_at" aw 1 paB dJ:=by
 walk_at "-qE";obtain ⟨G,⟨l,pl⟩,t,s,⟨lt,few⟩,k⟩:=h;obtain ⟨v0,v1,rfl,al⟩:=xB s;have S:Sta H G H [] [(zj l,v0),(plD pl,v1)]:=Sta.enter t al;dsimp only at lt few k;walk_at "=fiCplace,claims;10;za1u0vla1a0";left;refine zZ S .mm λJ p=>?_;refine xj p (λj=>zH (l.getD (pl.getD j 0) (0,0,0))) (ys:=(zK (0,0,0) pl l).map zH) (by unfold zK;rw [Qb,Qo];exact zv (λi:Nat=>zH (l.getD i (0,0,0))) 0 pl) S (λj x v=>λr t1 S hd=>?_) λD H1 A y=>?_
 ·obtain ⟨i,g,rfl⟩:=zM r;cases S.int1;have q:=lt i (Qd g);have m:=Qa q;refine zF ⟨rfl,?_⟩;left;refine zX S .mm (zW (by rw [Qh,m];rfl)) λz u=>?_;refine hd u ?_;rw [zA g,zA m];exact .mem (by right)
 exact Zp y k
abbrev Zx:Stmt:=top 12
def au:FnScope paR paR (zh Zx):=yP
def CN (B:Bl mg):Coo P w K mg base "places_of_rank" Zx 1 paR (cV zE):=by
 walk_at "-au";obtain ⟨G,⟨l,g⟩,A,u,few,k⟩:=h;obtain ⟨v0,v1,rfl,al⟩:=xB u;have q:Sta H G H [] [(.int g,v1),(zj l,v0)]:=(Sta.enter A al).dat ‹()›;cases q.int1;have S:Sta H G H [] [(zj l,v0)]:=q.dat ‹()›;dsimp only at few k;walk_at "=fiCplace,claim,rank;21;βba0cOyu0yu1P%ptoh1a2ja0";left;refine Co S .mm λJ r=>?_;refine bq r (λj=>if zE g (l.getD j (0,0,0)) then some (.int (j:Int)) else none) S (λ_ _=> .mem (by right)) (by rw [Yf,Qb];lia) (λi x v Y X T O s t1 S hd hn C ex s0 U=>?_) λD H1 N p=>?_
 ·obtain ⟨x0,I,rfl⟩:=dj s;obtain ⟨c,t,rfl⟩:=zM I;refine xR (xQ S .mm λM L m=>?_);cases m.int1;refine yO (zF (yO (zF (WA ⟨rfl,?_⟩))));rw [zA t] at hd hn;left;refine yH (λz=>?_) (λz=>?_)
  ·left;exact hd (QD (QT z)) m Has.int
  ·exact hn (QI λy=>z (Qz y)) m
 rw [Yf,Qb,oj] at p;exact Zp p k
abbrev Yz:Stmt:=top 60
def dX:FnScope ["parts","places","count","wide","part","place"] paN (zh Yz):=yP
def vZ (B:Bl mg):Coo P w K mg base "spread_parts" Yz 1 paN dN:=by
 walk_at "-dX";obtain ⟨G,⟨x,pl,n⟩,U,N,ok,k⟩:=h;obtain ⟨v0,v1,v2,rfl,al⟩:=Yc N;have D:Sta H G H [] [(.int (n:Int),v2),(zS x,v0),(plD pl,v1)]:=(Sta.enter U al).dat ‹()›;cases D.int1;have S:Sta H G H [] [(zS x,v0),(plD pl,v1)]:=D.dat ‹()›;dsimp only at ok k;have few:=ok.few;walk_at "=ek3κDbsbdbdcca2eHкba0ba1cOyA4yA5Pf^a4{a3a5fi-ba3c";left;rename_i q1 H1 e1 Z q2 H2 e2 C;refine Kc C (by right) ⋯ λg H3 e3 s=>?_;left
 have ez:List.replicate n (PyData.tuple [.int 0, .int 1])=(xA ((x.zip pl).take 0) (List.replicate n 0)).map frD:=by
  rw [List.take_zero,xA,jbt];rfl
 rw [ez] at s;have A:Sta H G H3 [(g,(xA ((x.zip pl).take 0) (List.replicate n 0)).map frD)] [(zS x,v0),(plD pl,v1)]:=s.weak (by walk_at "sub") ‹()›;clear s C Z;refine FY A .mm .mm λJ I=>?_;refine Zu I (λi σ cs ds=>∃(r q:Option V),σ=[some v0,some v1,some (.int (n:Int)),some (.ref g),r,q]/\cs=[(g,(xA ((x.zip pl).take i) (List.replicate n 0)).map frD)]/\ds=[(zS x,v0),(plD pl,v1)]) A ⟨none,none,rfl,rfl,rfl⟩ (λi σ cs ds h=>?_) ?_ ?_
 ·obtain ⟨_,_,_,_,rfl⟩:=h;exact ⟨.mem (by right),λ_ _ h=>h.tail, .mem (by right)⟩
 ·rintro i z u σ H5 cs ds hz ⟨r,q,rfl,rfl,rfl⟩ S5
  obtain ⟨z1,z2,T,O,rfl⟩:=ZR hz;obtain ⟨p,hp,rfl⟩:=zM T;obtain ⟨j,t,rfl⟩:=zM O;have jl:=ok.pls.lt j (Qd t);refine xR (xQ S5 .mm λM L Y=>?_);have y:Sta H G H5 [(g,(xA ((x.zip pl).take i) (List.replicate n 0)).map frD)] [(.int (j:Int),L),(frD p,M),(zS x,v0),(plD pl,v1)]:=Y.dat ‹()›;cases y.int1;left;refine qR y .mm (rL (by rw [Qb,ao,QF];exact jl)) λH8 X=>?_;left;refine YE (X.dat ‹()›) ⟨_,_,rfl,?_,rfl⟩;have m:(x.zip pl)[i]? =some (p,j):=by rw [Tj];exact ⟨hp,t⟩
  rw [jbl,m];show [(g,_)]=[(g,(xA ((x.zip pl).take i++[(p,j)]) (List.replicate n 0)).map frD)];rw [dS,List.map_set]
 ·rintro σ H5 cs ds ⟨r,q,rfl,rfl,rfl⟩ S5
  rw [yI,Qb,Qb,jap (by rw [List.length_zip];exact Qs _)] at S5;left;exact Zo (by assumption) k .mm
abbrev kL:Stmt:=top 59
def BE:FnScope paz paz (zh kL):=yP
def CG (U:Cal P w K mg base CX0 1 "spread_parts" paN dN):Coo P w K mg base "spread" kL 2 paz cS:=by
 walk_at "-BE";obtain ⟨G,⟨x,pl,n⟩,s,r,⟨ok,few⟩,k⟩:=h;obtain ⟨v0,v1,v2,rfl,al⟩:=Yc r;have m:Sta H G H [] [(.int (n:Int),v2),(YF x,v0),(plD pl,v1)]:=(Sta.enter s al).dat ‹()›;cases m.int1;have S:Sta H G H [] [(YF x,v0),(plD pl,v1)]:=m.dat ‹()›;dsimp only at ok few k;walk_at "=fiCcorner,places,count;112;za0u0vsbh0bgbh0ba1ba2cc";left;refine zZ S .mm λJ p=>?_;refine yg p (λj=>zY (Yw pl n (x.getD j (0,[])))) (ys:=(yA pl n x).map zY) (by unfold yA;rw [Qb,Qo];exact zv (λc:zi=>zY (Yw pl n c)) (0,[]) x) S (λ_ _=> .mem (by right)) (by rw [Qb];lia) (λj u v X T M L q t1 S hd C ex s0 O=>?_) λD H1 A t=>?_
 ·obtain ⟨c,g,rfl⟩:=zM q;refine zF ⟨rfl,?_⟩;left;refine vN (by assumption) .mm .mm (ok c (Qd g)) λy N z I=>?_;left;refine hd (by assumption) ?_;rw [zA g];exact .mem (by right)
 exact Zp t k
section
variable {A:RAd} {t:Nat}
abbrev kO:Stmt:=top 54
def FP:FnScope ["inner","claims","path","rank","places","paid"] paX (zh kO):=yP
def CL {n:Nat} (B:Bl mg) (B2:Bl3 mg) (Xl:Cal P w K mg base CX0 2 "nothing" ["count"] Wn) (Wc:Cal P w K mg base CX0 1 "places_of_rank" paR (cV zE)) (bS:Cal P w K mg base CX0 1 "those_at" paB dJ) (UY:Cal P w K mg base CX0 (2*n+8) "course" paE (Wo t n)) (vo:Cal P w K mg base CX0 2 "spread" paz cS) (Vp:Cal P w K mg base CX0 5 "behind" paP Uq) (F:Fun K "ranks" "ranks" kO f fd):FnOk P w K mg base CX0 (2*n+9) f fd paX (ko t n):=by
 walk_at "+FP";obtain ⟨G,⟨r,l⟩,eG,hA,⟨⟨ru,hd⟩,ok⟩,k⟩:=h;obtain ⟨v0,v1,rfl,al⟩:=xB hA;have S:Sta H G H [] [(r.shape,v0),(zj l,v1)]:=Sta.enter eG al;dsimp only at ru hd ok k;have few:=ok.few;walk_at "=ek2gbwba1cceHzμCclaim;1;za1u0vh0A3ek4gba1ba3cek5gba0bgba1ba4ccfk2gba2bgba5ba4bwba1cccfia2";left;rw [Qb];refine aK S few λX H1 e1 q=>?_;have ez:[zR (ZS l.length)]=rkP r l 0:=by rw [XM];rfl
 rw [ez] at q;left;refine zZ q .mm λJ D=>?_;refine xj D (λj=> .int (l.getD j (0,0,0)).2.1) (ys:=(l.map (·.2.1)).map PyData.int) (by rw [Qb,Qo];exact zv (λc:Cl=>PyData.int c.2.1) (0,0,0) l) q (λj x v=>λM t1 S hd=>?_) λD2 H2 e2 S2=>?_
 ·obtain ⟨c,O,rfl⟩:=zM M;refine zF ⟨rfl,?_⟩;left;refine hd (by assumption) ?_;rw [zA O];exact Has.int
 refine eO S2 (by right) (by rw [Qb];lia) λos L H3 h1 h2 e3 S3=>?_;have eo:os=zI l:=Ur h1 (yt l).1 λz=>by rw [h2,(yt l).2]
 subst eo;have S4:Sta H G H3 [(X,(rkP r l 0).map zY)] [(.list ((zI l).map PyData.int), .ref L),(r.shape,v0),(zj l,v1)]:=S3.freeze.weak (by walk_at "sub") ‹()›;clear q S2 S3;left;refine zZ S4 .mm λJ D=>?_;refine Zu D (λi σ cs ds=>∃(pp:Addr) (C y s:Option V),σ=[some v0,some v1,some (.ref pp),C,y,s]/\cs=[(pp,(rkP r l i).map zY)]/\ds=[(.list ((zI l).map PyData.int), .ref L),(r.shape,v0),(zj l,v1)]) S4 ⟨X,none,none,none,rfl,rfl,rfl⟩ (λi σ cs ds h=>?_) ?_ ?_
 ·obtain ⟨_,_,_,_,_,_,rfl⟩:=h;exact .mem (by right)
 ·rintro i x u σ H5 cs ds M ⟨pp,C,y,s,rfl,rfl,rfl⟩ S5
  obtain ⟨m,N,rfl⟩:=zM M;cases S5.int1;have g:=ok.filter (zE m) (eQ (Qd N));obtain ⟨b1,b2,b3⟩:=BU ru ok N;have U:=XT (zE m) l;have lk:=Ub (zE m) l;have fk:=g.few;have gk:=(ru.gf g).ful.std;have fw:=ru.few g;left;refine Ce (p:=zE) S5 .mm few λp6 H6 e6 S6=>?_;have Z:=S6.freeze;left;refine tS Z .mm .mm U.lt ⋯ λp8 H8 e8 T=>?_;rw [<-WL] at T;have Y:=T.freeze;left;refine YT Y .mm .mm ru hd g λp10 Pe e10 NW=>?_;have NV:=NW.freeze;left;rw [Qb];refine Ca NV .mm .mm (λc O=>⟨U,by rw [(gk.ok c O).1,lk],few⟩) ⋯ λRE RD e12 Oc=>?_;have NU:Sta H G RD [(pp,(rkP r l i).map zY)] [(YF (yA (yb (zE m) l) l.length (zJ r (l.filter (zE m)))), .ref RE),(.list ((zI l).map PyData.int), .ref L),(r.shape,v0),(zj l,v1)]:=Oc.freeze.dat ‹()›;have OS:=NU.freeze;clear S6 Z T Y NW NV Oc NU;left;refine nZ OS .mm .mm b1 b2 b3 λI H15 e15 Ow=>?_;left;refine YE (Ow.dat ‹()›) ⟨I,_,_,_,rfl,?_,rfl⟩;rw [FT N];rfl
 ·rintro σ H5 cs ds ⟨pp,C,y,s,rfl,rfl,rfl⟩ S5
  rw [Qb,JU] at S5;left;exact Zp S5 k
def wo (B:Bl mg) (B2:Bl3 mg) (vq:Cal P w K mg base CX0 3 "shares" pao (bY 0)) (dw:Cal P w K mg base CX0 2 "evenly" pao (bY 1)) (vv:Cal P w K mg base CX0 6 "losses" pao (bY 2)) (Jv:Cal P w K mg base CX0 6 "upto" paC Bp) (du:Cal P w K mg base CX0 5 "turned" ["path"] cR)
 (Xl:Cal P w K mg base CX0 2 "nothing" ["count"] Wn) (Wc:Cal P w K mg base CX0 1 "places_of_rank" paR (cV zE)) (bS:Cal P w K mg base CX0 1 "those_at" paB dJ) (X:Cal P w K mg base CX0 2 "spread" paz cS) (Vp:Cal P w K mg base CX0 5 "behind" paP Uq)
 {fr:Addr} {u:FuncData} (Fr:Fun K "ranks" "ranks" kO fr u) (I:mg "ranks"=some (.ref fr)) (br:yp K u paX [])
 (F:Fun K "course" "course" kU f fd) (hm:mg "course"=some (.ref f)) (b:yp K fd paE []):∀n:Nat,FnOk P w K mg base CX0 (2*n+8) f fd paE (Wo t n):=by
 intro n
 induction n with
 |zero=>
  refine F.ok eB (λvs H Q E h=>?_) (λNA A outer s H vs Q E hr h=>?_)
  ·obtain ⟨G,a,_,h,_⟩:=h;rw [<-h.len];rfl
  obtain ⟨G,⟨r,l⟩,_,_,⟨⟨_,hd⟩,_⟩,_⟩:=h;exact absurd hd (by cases r<;>simp [Rl.deep])
 |succ n ih=>
  have UY:Cal P w K mg base CX0 (2*n+8) "course" paE (Wo t n):=UM F ih hm b;have Nv:Cal P w K mg base CX0 (2*n+9) "ranks" paX (ko t n):=UM Fr (CL B B2 Xl Wc bS UY X Vp Fr) I br;refine F.ok eB (λvs H Q E h=>?_) (λNA A outer s H vs Q E hr h=>?_)
  ·obtain ⟨G,a,_,h,_⟩:=h;rw [<-h.len];rfl
  obtain ⟨G,⟨r,l⟩,eG,hA,⟨⟨ru,hd⟩,m⟩,k⟩:=h;obtain ⟨v0,v1,rfl,al⟩:=xB hA;have S:Sta H G H [] _:=Sta.enter eG al;dsimp only at ru hd m k S;have ok:=m.ok ru.ht;have nd0:=eB.nd;walk_at "=ek2h0emptoa2rjfigba1cnemptoa2rjfigba1cnemptoa2rjfigba1cnemptoa2rjfigbsbdbdcbgba1cbgba1ccnemptoa2rjfigbgbh0ba1ccnemptoa2rjfigbh0ba1cnemptoa2rjMnfigbh0bgbh0ba1cbgbh0ba1cc"
  cases r with
  |shares=>
   simp only [Rl.shape] at S;left;refine aM (n:=0) S .mm ok λD H1 J g=>?_;exact Zp g k
  |evenly=>
   simp only [Rl.shape] at S;left;refine aM (n:=1) S .mm ok λD H1 J g=>?_;exact Zp g k
  |losses=>
   simp only [Rl.shape] at S;left;refine aM (n:=2) S .mm ok λD H1 J g=>?_;exact Zp g k
  |halves=>
   simp only [Rl.shape] at S;left;rename_i p0 H0 e0 T
   have eh:PyData.tuple [.int 1, .int 2]=frD (1 / 2):=by
    unfold frD;rw [show ((1:Rat) / 2).num=1 by decide+kernel,show ((1:Rat) / 2).den=2 by decide+kernel];rfl
   rw [eh] at T;refine aM (n:=1) T .mm ok λD H1 J g=>?_;have q:=g.freeze;left;refine aM (n:=2) q .mm ok λM U N z=>?_;have O:=z.freeze;left;refine BZ (p:=1 / 2) (a:=flV 1 l) (b:=flV 2 l) O .mm .mm .mm (up_ok ok) λp5 H5 e5 C=>?_;rw [AX] at C;exact Zp C k
  |other r=>
   simp only [Rl.shape] at S;left;rename_i L g;refine YT (r:=r) g .mm .mm ru.other (by simp only [Rl.deep] at hd;lia) m λZ H2 e2 q=>?_;left;refine nR (a:=zJ r l) q.freeze .mm (ru.other.inn m) λM U N z=>?_;exact Zp z k
  |upto t b x y=>
   obtain ⟨Y,py⟩:=ru.upto;have dx:x.deep<=n:=by simp only [Rl.deep] at hd;lia
   have dy:y.deep<=n:=by simp only [Rl.deep] at hd;lia
   have hp:PyData.tuple [.int t, .int b]=frD (Rat.divInt t b):=Gf ru.pok.1;simp only [Rl.shape] at S;rw [hp] at S;left;rename_i L g w2 q;refine YT (r:=x) q .mm .mm Y dx m λM U N z=>?_;have O:=z.freeze;left;rename_i w5 C;refine YT (r:=y) C .mm .mm py dy m λp6 H6 e6 S6=>?_;have S7:=S6.freeze;left;refine BZ (p:=Rat.divInt t b) (a:=zJ x l) (b:=zJ y l) S7 .mm .mm .mm (ru.up m) λp8 H8 e8 S8=>?_;exact Zp S8 k
  |ranks r=>
   simp only [Rl.shape] at S;left;rename_i L g;refine Cc (r:=r) g .mm .mm ru.ranks (by simp only [Rl.deep] at hd;lia) m λZ H2 e2 q=>?_;exact Zp q k
  |groups a b=>exact absurd ru.pok id
def Gx {fS fT Ru:Addr} {n:Nat} (y:∀r:Rl,ROk K fS fT Ru (A.cls r)) (D:Cal P w K mg base CX0 1 "check_claims" pao kB) (L:Cal P w K mg base CX0 (2*n+8) "course" paE (Wo t n)) (F:Fun K "path" "Rule.path" VY f fd):FnOk P w K mg base CX0 (2*n+9) f fd paQ (qv A t n):=by
 walk_at "+nN";obtain ⟨G,⟨r,l⟩,p,m,⟨⟨pl,hn⟩,g⟩,k⟩:=h;obtain ⟨v0,v1,rfl,al⟩:=xB m;have S:Sta H G H [] _:=Sta.enter p al;dsimp only at pl hn g k S;have ok:=g.ok pl.ht;walk_at "=eEgba1cfigb&a0ba1c";left;refine tZ S .mm ok λH1 J u=>?_;left;refine Cn u .mm (y r) λz s=>?_;left;refine YT s .mm .mm pl hn g λC M I q=>?_;exact Zp q k
end
section
variable {A:RAd} {t:Nat}
def CO {fS fT Ru q:Addr} {g:FuncData} {n:Nat} (D:∀r:Rl,ROk K fS fT Ru (A.cls r)) (C:∀r:Rl,Meth K (A.cls r) "path" q) (gR:FnOk P w K mg base CX0 (2*n+9) q g paQ (qv A t n)) (gj:yp K g paQ []) (N:Cal P w K mg base CX0 6 "parts_at" ["path","purse"] dP) (F:Fun K "parts" "Rule.parts" Ww f fd):FnOk P w K mg base CX0 (2*n+10) f fd pai (Up A t n):=by
 walk_at "+kI";obtain ⟨G,⟨r,l,e⟩,u,s,⟨⟨⟨pl,hn⟩,m⟩,p,e0⟩,k⟩:=h;obtain ⟨v0,v1,v2,rfl,al⟩:=Yc s;have S:Sta H G H [] _:=Sta.enter u al;dsimp only at pl hn m p e0 k S;walk_at "=figbлa0мba1cba2c";left;refine nX S .mm (D r).cl (C r) (by decide+kernel) ?_;left;refine FV S .mm .mm pl hn m λJ H1 M z=>?_;left;refine vP z.freeze .mm .mm (pl.R m) p nofun e0 λI O L y=>?_;exact Zo y k .mm
end
section
local macro_rules|`(tactic|walk_at "rd")=>`(tactic|first|fail "&182"|fail)
abbrev YC:Stmt:=top 28
def eD:FnScope ["places","count","place"] ["places","count"] (zh YC):=yP
def ok_pl0 (A:Cal P w K mg base CX0 1 "is_whole" ["number"] VG):Coo P w K mg base "check_places" YC 2 ["places","count"] JI:=by
 walk_at "-eD";obtain ⟨ps,n,r,s,q⟩:=h;obtain ⟨v,v1,rfl,al⟩:=xB r;have g:Sta H H H [] [(.int n,v1),(xu ps,v)]:=(Sta.enter (zG.refl _) al).dat ‹()›;cases g.int1;have S:Sta H H H [] [(xu ps,v)]:=g.dat ‹()›;walk_at "=fHza0A2fmIJLGgba2cJZa2djXнa2a1jMn";left;refine zZ S .mm λJ m=>?_;refine Zu m (λi σ cs ds=>(∃x,σ=[some v,some (.int n),x])/\cs=[]/\ds=[(xu ps,v)]/\∀(j:Nat) (p:Int),j<i->ps[j]? =some p->0<=p/\p<n) S ⟨⟨none,rfl⟩,rfl,rfl,λj c h=>absurd h (Nat.not_lt_zero _)⟩ (λi σ cs ds h=>?_) ?_ ?_
 ·obtain ⟨_,rfl,rfl,_⟩:=h;exact .mem (by right)
 ·rintro i x u σ H2 cs ds hx ⟨⟨x1,rfl⟩,rfl,rfl,hg⟩ S2
  obtain ⟨p,hp,rfl⟩:=zM hx;cases S2.int1;have pg:=s p (Qd hp);left;refine lj ?_;left;refine yH (λc=>absurd pg.1 ⋯) (λz=>?_);left;refine yH (λc=>absurd pg.2 ⋯) (λy=>?_);left;refine YE (S2.dat ‹()›) ⟨⟨_,rfl⟩,rfl,rfl,λj d t hd=>?_⟩
  by_cases e:j=i
  ·subst e;rw [hp] at hd;cases hd;lia
  ·exact hg j d ⋯ hd
 ·rintro σ H2 cs ds ⟨⟨x1,rfl⟩,rfl,rfl,hg⟩ S2
  exact q _ S2.base
abbrev qM:Stmt:=top 30
def FN:FnScope ["numbers","whole","number"] ["numbers"] (zh qM):=yP
def Gn (O:Cal P w K mg base CX0 3 "plus" pab ja):Coo P w K mg base "total" qM 4 ["numbers"] Br:=by
 walk_at "-FN";obtain ⟨G,ps,C,z,⟨⟨n,zs,hn⟩,few⟩,k⟩:=h;obtain ⟨v,rfl,al⟩:=Yd z;have S:Sta H G H [] [(.list (ps.map frD),v)]:=Sta.enter C al;dsimp only at k
 have snoc:∀(qs:List Rat) (q:Rat),zu (qs++[q])=zu qs+q:=λqs q=>by
  induction qs with
  |nil=>show q+0=0+q;rw [Rat.add_zero,Rat.zero_add]
  |cons a qs g=>rw [jaL,zu,zu,g,Rat.add_assoc]
 have sz:∀i:Nat,i<=8->SzQ ((i+1)*(n+1)) (zu (ps.take i)):=λi L=>by
  induction i with
  |zero=>rw [List.take_zero];exact (show SzQ 1 0 from ⟨by unfold Sz;decide,by unfold Sz;decide⟩).mono ⋯
  |succ i g=>
   cases e:ps[i]? with
   |none=>
    rw [jap (by have:=jaE.mp e;lia)];have:=g ⋯;rw [jap (by have:=jaE.mp e;lia)] at this;exact this.mono (Nat.mul_le_mul_right _ ⋯)
   |some q=>
    rw [jbl,e];show SzQ _ (zu (ps.take i++[q]));rw [snoc];exact ((g ⋯).add (zs q (Qd e))).mono (by rw [Nat.succ_mul (i+1)];lia)
 walk_at "=ek1sbdbdceHza0A2fk1gba1ba2cfia1";left;rename_i D H1 N s;rw [show PyData.tuple [.int 0, .int 1]=frD (zu (ps.take 0)) from rfl] at s;refine zZ s .mm λJ y=>?_;refine Zu y (λi σ cs ds=>∃(w:V) (x:Option V),σ=[some v,some w,x]/\cs=[]/\ds=[(frD (zu (ps.take i)),w),(.list (ps.map frD),v)]) s ⟨_,none,rfl,rfl,rfl⟩ (λi σ cs ds h=>?_) ?_ ?_
 ·obtain ⟨_,_,_,_,rfl⟩:=h;exact .mem (by right)
 ·rintro i x u σ H2 cs ds hx ⟨w0,x2,rfl,rfl,rfl⟩ S2
  obtain ⟨q,m,rfl⟩:=zM hx;have I:=(Qf.mp m).1;have z1:=sz i ⋯;have z2:=zs q (Qd m)
  have b:(i+1)*(n+1)<=100000:=by
   have:=Nat.mul_le_mul (show i+1<=8 by lia) (show n+1<=4500 by lia);lia
  left;refine nV (p:=zu (ps.take i)) S2 .mm .mm z1 z2 ⋯ True.intro λr T M t=>?_;left
  have A:zu (ps.take i)+q=zu (ps.take (i+1)):=by
   rw [jbl,m];exact (snoc _ _).symm
  rw [A] at t;exact YE (t.dat ‹()›) ⟨_,_,rfl,rfl,rfl⟩
 ·rintro σ H2 cs ds ⟨w0,x2,rfl,rfl,rfl⟩ S2
  rw [Qb,jap (Qs _)] at S2;left;exact Zo S2 k .mm
section
variable {A:RAd} {t:Nat}
abbrev eH:Stmt:=top 26
def vI:FnScope ["rule","claims","purse","away","parts","places","left"] paD (zh eH):=yP
def KN {fS fT Ru T:Addr} {s:FuncData} {n:Nat} (B:Bl mg) (Y:∀r:Rl,ROk K fS fT Ru (A.cls r)) (X:∀r:Rl,Meth K (A.cls r) "parts" T) (Fm:Cal P w K mg base CX0 2 "check_places" ["places","count"] JI) (EN:Cal P w K mg base CX0 4 "total" ["numbers"] Br) (bS:Cal P w K mg base CX0 1 "those_at" paB dJ) (Yv:FnOk P w K mg base CX0 (2*n+10) T s pai (Up A t n)) (xK:yp K s pai []):Coo P w K mg base "staying" eH (2*n+11) paD (Bs A t n):=by
 walk_at "-vI";obtain ⟨G,⟨r,l,e,ps⟩,eG,hA,m,k⟩:=h;obtain ⟨v0,v1,v2,v3,rfl,al⟩:=isAll4 hA;have S:Sta H G H [] [(r.ins A,v0),(zj l,v1),(frD e,v2),(xu ps,v3)]:=Sta.enter eG al;dsimp only at m k;have gp:=m.good;have Z:=m.left;walk_at "=ek4.a0,ba1ba2ceEgba3bwba1cceT5place,away;13;@bwba1ccu0%[a0a1a0emptowba5cdjfiDcnek6gbCplace,parts;14;za5u0vla1a0cfiоba5b.a0,bgba1ba5cba6cc";left;refine nX (C:=A.cls r) S .mm (Y r).cl (X r) (by decide+kernel) ?_;left;have few:=m.cl.few;refine (Uz (r:=r) S .mm .mm .mm m.ru m.deep m.cl (m.ez.mono nofun) m.e0 λw1 H1 e1 S1=>?_);left;rw [Qb];refine rd_pl0 S1 .mm gp λH2 e2 M=>?_;left;rw [Qb];refine jq H G ⋯ ⋯ λJ I=>?_;refine bq I (λj=>if !decide ((j:Int)∈ps) then some (.int (j:Int)) else none) M (λ_ _=>trivial) (by rw [yu];lia) (λi x v B' G' Kd Kn L t1 S hd hn C ex s0 H0=>?_) λD H3 e3 y=>?_
 ·obtain ⟨q,rfl⟩:=xU L;cases S.int1;have S:=S.drop1;refine zF ⟨rfl,?_⟩;left;refine IG (ns:=ps) S .mm ?_;rw [show (0:Int)+(i:Int)=(i:Int) from Int.zero_add _];refine ⟨_,rfl,?_⟩
  by_cases z:(i:Int)∈ps
  ·rw [QT z];exact hn (by rw [QT z];rfl) S
  ·rw [Tf z];refine Eq.mpr (QD nofun) ?_;left;exact hd (by rw [Tf z];rfl) S Has.int
 rw [yu,lY (λ(j:Nat)=>!decide ((j:Int)∈ps)) (λ(j:Nat)=>PyData.int (j:Int))] at y;have y:Sta H G H3 [(D,(yS l.length ps).map λ(j:Nat)=>PyData.int (j:Int))] _:=y;left;rw [Qb];refine yH (λc=>?_) (λc=>?_)
 ·left;rename_i p4 H4 e4 u;rw [show vE r l e ps=[] by unfold vE;rw [List.eq_nil_of_length_eq_zero (l:=yS l.length ps) ⋯];rfl] at k;exact Zo (u.freeze) k .mm
 have u:=y.freeze;have ne:yS l.length ps≠[]:=λz=>c (by rw [z];rfl);have g:=(m.ru.gf m.cl).ful;have pl:=g.std.len (e:=e);have sl:(yS l.length ps).length<=8:=QP (jbA ..) (by rw [jah];lia);have lt:∀i∈yS l.length ps,i<l.length:=λi q=>jbg.mp (Tc.mp q).1;left;refine zZ (xs:=(yS l.length ps).map λ(j:Nat)=>PyData.int (j:Int)) u .mm λJ I=>?_;refine xj I (λj=>frD ((zg (zJ r l) e).getD ((yS l.length ps).getD j 0) 0)) (ys:=(zK 0 (yS l.length ps) (zg (zJ r l) e)).map frD) (by unfold zK;rw [Qb,Qo];exact zv (λi:Nat=>frD ((zg (zJ r l) e).getD i 0)) 0 (yS l.length ps)) u (λj x v=>λL t1 S hd=>?_) λD5 H5 e5 S5=>?_
 ·obtain ⟨i,q,rfl⟩:=zM L;cases S.int1;have N:=lt i (Qd q);rw [<-pl] at N;have O:=Qa N;refine zF ⟨rfl,?_⟩;left;refine js (xs:=(zg (zJ r l) e).map frD) (x:=frD (zg (zJ r l) e)[i]) S .mm (zW (by rw [Qh,O];rfl)) λw2 M=>?_;refine hd M ?_;rw [zA q,zA O];exact .mem (by right)
 have S6:=S5.freeze;have dd:=m.ru.den;have sb:=df 0 (zg (zJ r l) e) ps;rw [pl] at sb;have sz:∀p∈zK 0 (yS l.length ps) (zg (zJ r l) e),SzQ 4499 p:=λp hp=>m.part p (sb.subset hp);left;refine Zq (zK 0 (yS l.length ps) (zg (zJ r l) e)) S6 (.cons .mm .nil) ⟨⟨_,sz,⋯⟩,by rw [xl];exact sl⟩ λw7 H7 e7 U=>?_;left;refine nX (C:=A.cls r) U .mm (Y r).cl (X r) (by decide+kernel) ?_;left;refine tS (l:=l) (pl:=yS l.length ps) U .mm .mm lt sl λp8 H8 e8 S8=>?_;have S9:=S8.freeze;left;have cs:=m.cl.stay ne;refine (Uz (r:=r) (l:=zK (0,0,0) (yS l.length ps) l) (e:=ft r l e ps) S9 .mm .mm .mm m.ru m.deep cs Z (Dt m.ru m.cl m.e0) λOP Pe e10 NW=>?_);left;refine Kk (xs:=(yS l.length ps).map λ(j:Nat)=>PyData.int (j:Int)) (ys:=(zg (zJ r (zK (0,0,0) (yS l.length ps) l)) (ft r l e ps)).map frD) NW .mm .mm (by rw [Qb,Qb,(m.ru.gf cs).ful.std.len,xl]) λRQ PV Ry NV=>?_;left;exact Zo NV k .mm
end
end
abbrev Xu:Stmt:=top 84
def gY:FnScope paA paA (zh Xu):=yP
def KZ (B:Bl mg):Coo P w K mg base "_law_cell_at" Xu 1 paA (tN K):=by
 walk_at "-gY";obtain ⟨a,ns,k,rfl,g,h0,q⟩:=h;walk_at "=emZa1wba0cjfila0a1nfid";left;refine Kl g ?_;left;refine yH (λc=>?_) (λc=>?_)
 ·left;refine rd_ixS g h0 c ?_;unfold fV at q;rw [QD c] at q;exact q
 ·left;unfold fV at q;rw [QI c] at q;exact q
abbrev VV:Stmt:=top 85
def nJ:FnScope ["_law_cell","_law_place","_law_number"] paO (zh VV):=yP
def GA:Coo P w K mg base "_law_mixed" VV 1 paO JJ:=by
 walk_at "-nJ";obtain ⟨c,p,rfl,q⟩:=h;walk_at "=ek2BxxqBa0ddqda1ddek2Bxxqa2a2qda1ddfiBqa2dd";left;exact q
abbrev Xt:Stmt:=top 86
def gX:FnScope paq paq (zh Xt):=yP
def wm (B:Bl mg):Coo P w K mg base "_law_divisor" Xt 1 paq jb:=by
 walk_at "-gX";obtain ⟨a,b,rfl,p,q⟩:=h;walk_at "=e$pKoa1djfп0ba1bVa0a1cfi_ba0c";refine jX (λm σ H2=>∃(x y:Int),σ=[some (.int x),some (.int y)]/\0<=y/\Int.gcd x y=Int.gcd a b/\H2=H/\m=y.toNat) _ ⟨a,b,rfl,p,rfl,rfl,rfl⟩ ?_
 rintro m σ H2 ⟨x,y,rfl,hy,hg,rfl,rfl⟩
 left;refine BY (λc=>?_) (λc=>?_)
 ·have c:y≠0:=by simpa using c
  left;have e:x.fmod y=x % y:=QZ x hy;have g:=TZ x c;have r:=TM x (show 0<y by lia);refine ⟨(x.fmod y).toNat,by rw [e];lia,y,x.fmod y,rfl,by rw [e];exact g,?_,rfl,rfl⟩;rw [e,uz,hg]
 ·have c:y=0:=by simpa using c
  subst c;left
  have e:(x.natAbs:Int)=((Int.gcd a b:Nat):Int):=by
   rw [<-hg,Int.gcd_zero]
  rw [e];exact q
abbrev Ws:Stmt:=top 87
def kE:FnScope ["_law_top","_law_bottom","_law_by"] paw (zh Ws):=yP
def CS (t:Cal P w K mg base CX0 1 "_law_divisor" paq jb):Coo P w K mg base "_law_lowest" Ws 2 paw WZ:=by
 walk_at "-kE";obtain ⟨G,⟨a,b⟩,q,m,⟨g,sb⟩,k⟩:=h;cases (yv (ns:=[a,b]) m);have S:Sta H G H [] []:=Sta.enter q λp hp=>absurd hp Qm;dsimp only at g sb k;have s:0<Int.gcd a b:=jaR a ⋯;have r:CDv a ((Int.gcd a b:Nat):Int):=⟨⋯,sb⟩;walk_at "=ek2gba0ba1cfisb0a0a2b0a1a2c";left;refine Zo (by assumption) k (.mem ?_);rw [show frD (Rat.divInt a b)= .tuple [.int (a.fdiv ((Int.gcd a b:Nat):Int)), .int (b.fdiv ((Int.gcd a b:Nat):Int))] by unfold frD;rw [<-(Ug g).1,<-(Ug g).2]];walk_at "mem"
local macro_rules|`(tactic|walk_at "rd")=>`(tactic|first|fail "&185"|fail)
abbrev VQ:Stmt:=top 88
def nF:FnScope pax pax (zh VQ):=yP
def Gm (B:Bl mg):Coo P w K mg base "_law_whole" VQ 1 pax VG:=by
 walk_at "-nF";obtain ⟨n,rfl,q⟩:=h;have S:Sta H H H [] []:=Sta.enter (zG.refl _) λp hp=>absurd hp Qm;have g:Is H (.int n) (.int n):=S.hp Has.int;walk_at "=fi|9ba0bγint;c:δ9ba0bεbool;c";left;exact q
abbrev Zb:Stmt:=top 89
def Uv:FnScope pax pax (zh Zb):=yP
def KY (B:Bl mg) (p:Cal P w K mg base CX0 1 "_law_whole" pax VG) (r:Cal P w K mg base CX0 1 "_law_divisor" paq jb):Coo P w K mg base "_law_is_fraction" Zb 2 pax Bx:=by
 walk_at "-Uv";obtain ⟨a,m,_,k⟩:=h;obtain ⟨v,rfl,al⟩:=Yd m;have S:Sta H H H [] [(frD a,v)]:=Sta.enter (zG.refl _) al;have q:=S.hp (x:=frD a) .mm;walk_at "=emIJLG9ba0b}tuple;cJpKowba0cdjJLGgbh0cXLGgbh0cfiFnfi|рh0dj:~togbh0bh0cdj";left;refine iG rfl ?_;left;refine yH (λ_=>?_) (λc=>absurd (by have:=a.den_pos;lia) c);left
 have g:((a.num.gcd (a.den:Int):Nat):Int)=1:=by
  have:=a.reduced;unfold Nat.Coprime at this;rw [Int.gcd,Int.natAbs_natCast,this];rfl
 rw [QT g];exact k H (zG.refl _)
abbrev Wt:Stmt:=top 90
def kF:FnScope ["_law_number"] ["_law_number"] (zh Wt):=yP
def CT:Coo P w K mg base "_law_labels" Wt 1 ["_law_number"] kv:=by
 walk_at "-kF";obtain ⟨G,n,m,g,_,k⟩:=h;cases (yv (ns:=[n]) g);have S:Sta H G H [] []:=Sta.enter m λp hp=>absurd hp Qm;dsimp only at k;unfold Dz at k;walk_at "=emptoBa0ddjfiDbdbdbdcnemptoBa0ddjfiDbx5dddbdbdcnemptoBa0ddjfiDbdb5ddbdcnfiDbdbdbdc";left;refine yH (λc=>?_) (λc=>?_)
 ·rw [QD c] at k;left;exact Zp (by assumption) k
 rw [QI c] at k;left;refine yH (λc=>?_) (λc=>?_)
 ·rw [QD c] at k;left;exact Zp (by assumption) k
 rw [QI c] at k;left;refine yH (λc=>?_) (λc=>?_)
 ·rw [QD c] at k;left;exact Zp (by assumption) k
 rw [QI c] at k;left;exact Zp (by assumption) k
section
variable {A:RAd}
abbrev Wu:Stmt:=top 91
def kG:FnScope ["_law_script","_law_at","_law_many","_law_size","_law_labels_here","_law_ranks","_law_groups","_law_claims_here","_law_k","_law_cell","_law_amount"] pam (zh Wu):=yP
def CY (B:Bl mg) (mQ:Cal P w K mg base CX0 1 "_law_cell_at" paA (tN K)) (Mh:Cal P w K mg base CX0 1 "_law_mixed" paO JJ) (Jy:Cal P w K mg base CX0 1 "_law_labels" ["_law_number"] kv):Coo P w K mg base "_law_claims" Wu 2 pam (dQ K):=by
 walk_at "-kG";obtain ⟨G,a,ns,at',many,size,rfl,eG,hS,⟨ha0,hm1,hm8,hs0,hs1⟩,k⟩:=h;have S:Sta H G H [] []:=Sta.enter eG λp hp=>absurd hp Qm;walk_at "=ek4gbgba0ba1cbdcek5gba4cek6gbNa4dcek7DceH@ba2cA8ek9gba0bxa1a8cekaVNa9da3emptoBa9ddjfkaBNa9ddnemI6ptoBa9ddj+Wa8djfkalla7VNa9da8dnfEαa7bsbaabla5Bgba9bdcdbla6Bgba9bdcdccfia7";left;generalize mixV (fV ns at') 3=s at*;refine nW S λX H1 e1 S1=>?_;have S1':=S1.freeze;left;refine nW S1' λU H2 e2 S2=>?_;have S2':=S2.freeze;left;rename_i L H3 e3 S3;refine jq H G ⋯ ⋯ λJ wk=>?_
 refine Zu wk (λi σ cs ds=>∃(l:List Cl) (Z Y RO:Option V),σ=[some (.ref a),some (.int at'),some (.int many),some (.int size),some (.int s),some (.ref X),some (.ref U),some (.ref L),Z,Y,RO]/\cs=[(L,l.map zH)]/\ds=[(xu (Dz (s / 5)), .ref U),(xu (Dz s), .ref X)]/\l.length=i/\∀c∈l,(0<=c.1/\0<=c.2.1/\0<=c.2.2)/\c.1<size) S3
  ⟨[],none,none,none,rfl,rfl,rfl,rfl,λc M=>absurd M Qm⟩ (λ_ _ _ _ _=>trivial) ?_ ?_
 ·rintro i x v σ H4 cs ds hx ⟨l,Z,Y,RO,rfl,rfl,rfl,hlen,hok⟩ q
  obtain ⟨hi,rfl⟩:=xU hx;cases q.int1;have hS4:SqL K H4 a (ns.map V.int):=q.base.seq hS;have q:=q.drop1;left;generalize fV ns (at'+(0+(i:Int)))=c at*
  have fin:∀(am:Int) (y8 y9 I:Option V) (r g:Int) (T:Hp),0<=am->am<size->0<=r->0<=g->Sta H G T [(L,l.map zH++[zH (am,r,g)])] [(xu (Dz (s / 5)), .ref U),(xu (Dz s), .ref X)]->
   AtP H G (λσ cs ds=>∃(l:List Cl) (Z Y RO:Option V),σ=[some (.ref a),some (.int at'),some (.int many),some (.int size),some (.int s),some (.ref X),some (.ref U),some (.ref L),Z,Y,RO]/\cs=[(L,l.map zH)]/\ds=[(xu (Dz (s / 5)), .ref U),(xu (Dz s), .ref X)]/\l.length=i+1/\∀c∈l,(0<=c.1/\0<=c.2.1/\0<=c.2.2)/\c.1<size) [some (.ref a),some (.int at'),some (.int many),some (.int size),some (.int s),some (.ref X),some (.ref U),some (.ref L),y8,y9,I] T:=by
   intro am y8 y9 I r g T h0 hz hr hg D;refine YE D ⟨l++[(am,r,g)],y8,y9,I,rfl,by rw [Ts];rfl,rfl,by rw [QM,hlen];rfl,λc M=>?_⟩
   rcases QW.mp M with z|z
   ·exact hok c z
   ·rw [Qp.mp z];exact ⟨⟨h0,hr,hg⟩,hz⟩
  have m:(l.map zH).length<=1000:=by rw [Qb];lia
  obtain ⟨r,u,t⟩:=Dw s (mixV c 1);obtain ⟨g,C,y⟩:=Dw (s / 5) (mixV c 2);have sz0:size≠0:=⋯
  have f0:(c / 9).fmod size=c / 9 % size:=QZ _ ⋯;have m1:=TZ (c / 9) sz0;have m2:=TM (c / 9) (show 0<size by lia);left;refine yH (λc1=>?_) (λc1=>?_)
  ·left;refine yH (λc2=>absurd c2 ⋯) (λ_=>?_);left;refine Xy q .mm t ?_;left;refine Xy q .mm y ?_;left;rename_i q5 T e5 D;refine YU D .mm m λO N=>?_;left;exact fin (c / 9 % 5) _ _ _ r g O ⋯ ⋯ u C (N.dat ‹()›)
  ·have q0:0<=(c / 9).fmod size:=by rw [f0];exact m1
   have qz:(c / 9).fmod size<size:=by rw [f0];exact m2
   left;refine yH (λc2=>?_) (λ_=>?_)
   ·left;refine yH (λc3=>?_) (λ_=>?_)
    ·have i0:0+(i:Int)≠0:=⋯
     have e1:=QZ (c / 9) (show 0<=0+(i:Int) by lia);have n1:=TZ (c / 9) i0;have n2:=TM (c / 9) (show 0<0+(i:Int) by lia);rw [<-e1] at n1 n2;left;have hj:((c / 9).fmod (0+(i:Int))).toNat<l.length:=⋯
     have NF:=Qa hj
     have hat:atI (l.map zH) ((c / 9).fmod (0+(i:Int)))=some (zH (l[((c / 9).fmod (0+(i:Int))).toNat])):=by
      have:=zW (xs:=l.map zH) (j:=((c / 9).fmod (0+(i:Int))).toNat) (v:=zH (l[((c / 9).fmod (0+(i:Int))).toNat])) (by rw [Qh,NF];rfl);rwa [Int.toNat_of_nonneg n1] at this
     have okc:=hok _ (Ta hj);generalize l[((c / 9).fmod (0+(i:Int))).toNat]=c' at*;refine Wz q (by right) hat λw7 S7=>?_;left;refine Xy S7 .mm t ?_;left;refine Xy S7 .mm y ?_;left;rename_i q5 T e5 D;refine YU D .mm m λO N=>?_;left;exact fin (c'.1) _ _ _ r g O okc.1.1 okc.2 u C (N.dat ‹()›)
    ·skip
     left;refine Xy q .mm t ?_;left;refine Xy q .mm y ?_;left;rename_i q5 T e5 D;refine YU D .mm m λO N=>?_;left;exact fin ((c / 9).fmod size) _ _ _ r g O q0 qz u C (N.dat ‹()›)
   ·skip
    left;refine Xy q .mm t ?_;left;refine Xy q .mm y ?_;left;rename_i q5 T e5 D;refine YU D .mm m λO N=>?_;left;exact fin ((c / 9).fmod size) _ _ _ r g O q0 qz u C (N.dat ‹()›)
 ·rintro σ H4 cs ds ⟨l,Z,Y,RO,rfl,rfl,rfl,hlen,hok⟩ q
  left;rw [yu] at hlen;obtain ⟨G',a',b',c',d',e',f',g'⟩:=q;obtain ⟨z1,z2,us,z3,z4⟩:=e' _ (Qg ..);exact k l L H4 G' us hlen ⟨⋯,⋯,λc M=>(hok c M).1,λc M=>(hok c M).2⟩ ⟨c',a',b',d'⟩ z1 z2 z3 z4
end
section
variable {A:RAd}
abbrev aE:Stmt:=top 96
def qJ:FnScope ["_law_amounts","_law_parts","_law_level","_law_amount","_law_part"] paK (zh aE):=yP
def GJ (B:Bl mg):Coo P w K mg base "_law_even" aE 1 paK qy:=by
 walk_at "-qJ";obtain ⟨⟨am,tk⟩,N,⟨M,lt⟩,k⟩:=h;obtain ⟨v0,v1,rfl,al⟩:=xB N;have S:Sta H H H [] [(xu am,v0),(xu tk,v1)]:=Sta.enter (zG.refl _) al;dsimp only at M lt k;walk_at "=ek2νξbxDbdca1ceH#ba0ba1cOyA3yA4PfmIJZa4djJWa4a3jXI6Za4a3j+pKoa4a2jfiFnfiF";left;rename_i p1 H1 e1 t;obtain ⟨a1,rfl⟩:=t.refL (xs:=tk.map PyData.int) (v:=v1) .mm;refine WB t (t.vwC (by right)) (t.vwL .mm) (by rw [Qb];show 1+_<=1000;lia) λp2 X e2 y=>?_;left;refine Kj (ns:=0::tk) y (by right) (Nat.zero_lt_succ _) λm hm top=>?_;have lev:=Ad lt hm top;have G:Sta H H X [] [(xu am,v0),(xu tk, .ref a1)]:=y.weak (by walk_at "sub") ‹()›;clear y t;left;refine Vd G .mm .mm λJ I=>?_;refine Zu I (λi σ cs ds=>(∃r q,σ=[some v0,some (.ref a1),some (.int m),r,q])/\cs=[]/\ds=[(xu am,v0),(xu tk, .ref a1)]/\∀(j:Nat) (a p:Int),j<i->am[j]? =some a->tk[j]? =some p->0<=p/\p<=a/\(p<a->p=m)) G ⟨⟨none,none,rfl⟩,rfl,rfl,λj a p h=>absurd h (Nat.not_lt_zero _)⟩ (λi σ cs ds h=>?_) ?_ ?_
 ·obtain ⟨_,rfl,rfl,_⟩:=h;exact ⟨.mem (by right),λ_ _ h=>h.tail, .mem (by right)⟩
 ·rintro i x u σ H4 cs ds hx ⟨⟨r,q,rfl⟩,rfl,rfl,inv⟩ S4
  obtain ⟨Z,Y,T,O,rfl⟩:=ZR hx;obtain ⟨a,ha,rfl⟩:=zM T;obtain ⟨p,hp,rfl⟩:=zM O;have bad:¬(0<=p/\p<=a/\(p<a->p=m))->evB am tk=false:=λz=>evB_f.mpr λh=>z (lev.mp h i a p ha hp);refine xR (xQ S4 .mm λw1 w2 s=>?_);cases s.int1;cases s.drop1.int1
  have fin:0<=p/\p<=a/\(p<a->p=m)->∀σ',(∃r q,σ'=[some v0,some (.ref a1),some (.int m),r,q])->AtP H H (λσ cs ds=>(∃r q,σ=[some v0,some (.ref a1),some (.int m),r,q])/\cs=[]/\ds=[(xu am,v0),(xu tk, .ref a1)]/\∀(j:Nat) (a p:Int),j<i+1->am[j]? =some a->tk[j]? =some p->0<=p/\p<=a/\(p<a->p=m)) σ' H4:=λg σ' h=>YE (s.dat ‹()›) ⟨h,rfl,rfl,λj U L hj C D=>by
   by_cases z:j<i
   ·exact inv j U L z C D
   ·have:j=i:=⋯
    subst this;rw [ha] at C;rw [hp] at D;cases C;cases D
    exact g⟩
  left;refine yH (λc=>?_) (λc1=>?_)
  ·left;rw [bad ⋯] at k;exact k _ s.base
  left;refine yH (λc=>?_) (λc2=>?_)
  ·left;rw [bad ⋯] at k;exact k _ s.base
  left;refine yH (λc=>?_) (λc=>?_)
  ·left;refine uv (λz=>?_) (λz=>?_)
   ·left;rw [bad ⋯] at k;exact k _ s.base
   ·left;exact fin ⋯ _ ⟨_,_,rfl⟩
  ·left;exact fin ⋯ _ ⟨_,_,rfl⟩
 ·rintro σ H4 cs ds ⟨⟨r,q,rfl⟩,rfl,rfl,inv⟩ S4
  rw [yI,Qb,Qb,lt,Tv] at inv;left;rw [HI.mpr (lev.mpr λi a p ha hp=>inv i a p (Qf.mp ha).1 ha hp)] at k;exact k _ S4.base
end
abbrev aD:Stmt:=top 97
def VL:FnScope ["_law_shape_here","_law_claims_here","_law_parts","_law_amounts","_law_whole_here","_law_purse_here","_law_amount","_law_part"] paa (zh aD):=yP
abbrev Zk:Stmt:=top 98
def dZ:FnScope ["_law_shape_here","_law_claims_here","_law_parts","_law_top","_law_bottom","_law_many","_law_here","_law_there"] paa (zh Zk):=yP
def ok_upD {n:Nat} (B:Bl mg) (ZQ:Cal P w K mg base CX0 (2*n+2) "_law_fits" paa (VH n)) (F:Fun K "_law_upto_fit" "_law_upto_fit" Zk f fd):FnOk P w K mg base CX0 (2*n+3) f fd paa (JF (n+1)):=by
 walk_at "+dZ";obtain ⟨⟨⟨t,b⟩,⟨x,y⟩,l,tk⟩,hA,⟨ok,inb⟩,k⟩:=h;obtain ⟨v0,v1,v2,rfl,al⟩:=Yc hA;dsimp only at ok inb al k;have S:Sta H H H [] [((Rl.upto t b x y).shape,v0),(zj l,v1),(xu tk,v2)]:=Sta.enter (zG.refl _) al;have few:=ok.few;have Z:(amV l).length<=8:=by rw [zQ];exact few
 obtain ⟨it,ia⟩:=inb.inS Z ok.sz;have po:=ok.pok.1.1;have lt:=ok.len;rw [LF (by have:=ok.pok.1.2.1;have:=ok.pok.1.2.2.1;lia) inb] at k;have L:∀{i:Nat} {c:Cl},l[i]? =some c->c.1∈amV l:=λm=>Qk.mpr ⟨_,Qd m,rfl⟩;walk_at "=e^h0OyA3yA4PeT5_law_part,_law_bottom;14;za2u0vqa1a0eT6_law_claim,_law_top;13;za1u0vsbqa1h0bh0bh0cemθ12ba5c12bC_law_claim;1;za6u0vh0cjfigbh0ba6ba5cneT7_law_claim,_law_top,_law_bottom;134;za1u0vsbqSa2a1h0bh0bh0cfigbh0ba7bC_law_part,_law_claim;2;#ba5ba6cOyu0yu1PvSa0h1c";simp only [Rl.shape] at S;left;rename_i X S1;refine xR (xQ S1 .mm λU w3 r=>?_);cases r.int1;cases r.drop1.int1;left;refine zZ r .mm λJ p=>?_;refine yg p (λj=> .int (b*tk.getD j 0)) (ys:=(yq b tk).map PyData.int) (by unfold yq;rw [Qb,Qo];exact zv (λx:Int=>PyData.int (b*x)) 0 tk) r (λ_ _=> .mem (by right)) (by rw [Qb,inb.1];lia) (λj x v I G A z g t1 S hd C ex s0 D=>?_) λD3 H3 e3 S3=>?_
 ·obtain ⟨y,M,rfl⟩:=zM g;cases S.int1;have o:IntMulOk b y:=po.2.mulOk (it.2 y (Qd M)).2 ⋯;refine zF ⟨rfl,?_⟩;left;refine hd S ?_;rw [zA M];exact Has.int
 have O:=S3.freeze;left;refine zZ O .mm λJ p=>?_
 refine yg p (λj=>zH ((λc:Cl=>((t*c.1,c.2):Cl)) (l.getD j (0,0,0)))) (ys:=(zN t l).map zH) (by
  unfold zN;rw [Qo,Qb];exact zv (λc:Cl=>zH ((t*c.1,c.2):Cl)) (0,0,0) l) O (λ_ _=> .mem (by right)) (by rw [Qb];lia) (λj x v I G A z g t1 S hd C ex s0 D=>?_) λD5 H5 e5 S5=>?_
 ·obtain ⟨c,m,rfl⟩:=zM g;have o:IntMulOk t c.1:=po.1.mulOk (ok.sz _ (L m)) ⋯;refine zF ⟨rfl,?_⟩;left;refine hd (by assumption) ?_;rw [zA m];exact .mem (by right)
 have N:=S5.freeze;have tl:=yQ t l;left;refine zZ N .mm λJ p=>?_;refine xj p (λj=> .int ((zN t l).getD j (0,0,0)).1) (ys:=(amV (zN t l)).map PyData.int) (by unfold amV;rw [Qb,Qo];exact zv (λc:Cl=>PyData.int c.1) (0,0,0) (zN t l)) N (λj x v=>λg t1 S hd=>?_) λD7 H7 e7 S7=>?_
 ·obtain ⟨c,m,rfl⟩:=zM g;refine zF ⟨rfl,?_⟩;left;refine hd (by assumption) ?_;rw [zA m];exact Has.int
 left;refine yH (λc=>?_) (λc=>?_)
 ·rw [QD c] at k;left;rename_i w8 q;refine Xz q .mm .mm .mm ok.first λH9 e9 u=>?_;exact k _ u.base
 ·rw [QI c] at k;have q:=S7.freeze;have zs:Sz 211 (b - t):=po.2.sub po.1;left;refine zZ q .mm λJ p=>?_
  refine yg p (λj=>zH ((λc:Cl=>(((b - t)*c.1,c.2):Cl)) (l.getD j (0,0,0)))) (ys:=(zN (b - t) l).map zH) (by
   unfold zN;rw [Qo,Qb];exact zv (λc:Cl=>zH (((b - t)*c.1,c.2):Cl)) (0,0,0) l) q (λ_ _=> .mem (by right)) (by rw [Qb];lia) (λj x v I G A z g t1 S hd C ex s0 D=>?_) λD9 H9 e9 u=>?_
  ·obtain ⟨c,m,rfl⟩:=zM g;have o:IntMulOk (b - t) c.1:=zs.mulOk (ok.sz _ (L m)) ⋯;refine zF ⟨rfl,?_⟩;left;refine hd (by assumption) ?_;rw [zA m];exact .mem (by right)
  have NW:=u.freeze;left;rename_i RQ T;have ld:(yq b tk).length=(amV (zN t l)).length:=by rw [xt,zQ,yQ];exact lt
  have Y:(xc (yq b tk) (amV (zN t l))).length=(amV (zN t l)).length:=by rw [YW ld.symm,ld]
  have l9:(amV (zN t l)).length<=8:=by rw [zQ,yQ];exact few
  refine Vd T .mm .mm λJ3 OI=>?_;refine yg OI (λj=> .int ((xc (yq b tk) (amV (zN t l))).getD j 0)) (ys:=(xc (yq b tk) (amV (zN t l))).map PyData.int) ?_ T (λ_ _=>⟨.mem (by right),λ_ _ h=>h.tail, .mem (by right)⟩) ?_ (λj x v I G A z g t1 S hd C ex s0 D=>?_) λD12 RD e12 Oc=>?_
  ·rw [yI,Qb,Qb,ld,zQ,Tv,<-zQ,<-Y];exact zv (λx=>PyData.int x) 0 _
  ·rw [yI,Qb,Qb];lia
  ·obtain ⟨x1,x2,h1,h2,rfl⟩:=ZR g;obtain ⟨n1,OF,rfl⟩:=zM h1;obtain ⟨c2,s,rfl⟩:=zM h2;refine xR (xQ S .mm λX U S=>?_);cases S.int1;refine yO (zF (yO (zF (WA ⟨rfl,?_⟩))));left;refine hd (by assumption) ?_;rw [zA (show (xc (yq b tk) (amV (zN t l)))[j]? =some (n1 - c2.1) by unfold xc amV;rw [Qx,OF,Qh,s];rfl)];exact Has.int
  left;refine Xz Oc.freeze .mm .mm .mm ok.rest λH13 e13 NU=>?_;exact k _ NU.base
abbrev xO:Stmt:=top 99
def cz:FnScope ["_law_shape_here","_law_claims_here","_law_parts","_law_full","_law_rank","_law_places","_law_some"] paa (zh xO):=yP
def ok_rkD {n:Nat} (B:Bl mg) (B2:Bl3 mg) (ZQ:Cal P w K mg base CX0 (2*n+2) "_law_fits" paa (VH n)) (F:Fun K "_law_ranks_fit" "_law_ranks_fit" xO f fd):FnOk P w K mg base CX0 (2*n+3) f fd paa (JH (n+1)):=by
 walk_at "+cz";obtain ⟨⟨r,l,tk⟩,hA,⟨ok,inb⟩,k⟩:=h;obtain ⟨v0,v1,v2,rfl,al⟩:=Yc hA;dsimp only at ok inb al k;have S:Sta H H H [] [(r.shape,v0),(zj l,v1),(xu tk,v2)]:=Sta.enter (zG.refl _) al;have few:=ok.few;have tl:=ok.len;have fb:=HG (r:=r) inb;walk_at "=ek3FeHzμC_law_claim;1;za1u0vh0A4eT5_law_k,_law_claims_here,_law_rank;114;@bwba1ccu0%ptolla1a0da2ja0eT6_law_k,_law_parts;12;za5u0vla1a0emI6LGa3+Wνξba6cdjfiFnemLGgba0bC_law_k,_law_claims_here;11;za5u0vla1a0ba6cfiFnfk3|a3:~toa6C_law_k,_law_claims_here;11;za5u0vlla1a0djfiF";left;refine zZ (xs:=l.map zH) S .mm λJ Z=>?_;refine xj Z (λj=> .int (l.getD j (0,0,0)).2.1) (ys:=(l.map (·.2.1)).map PyData.int) (by rw [Qb,Qo];exact zv (λc:Cl=>PyData.int c.2.1) (0,0,0) l) S (λj x v=>λp t1 S hd=>?_) λD2 H2 e2 A=>?_
 ·obtain ⟨c,s,rfl⟩:=zM p;refine zF ⟨rfl,?_⟩;left;refine hd (by assumption) ?_;rw [zA s];exact Has.int
 refine eO A (by right) (by rw [Qb];lia) λos L H3 h1 h2 e3 S3=>?_;have eo:os=zI l:=Ur h1 (yt l).1 λz=>by rw [h2,(yt l).2]
 subst eo;have S4:Sta H H H3 [] [(.list ((zI l).map PyData.int), .ref L),(r.shape,v0),(zj l,v1),(xu tk,v2)]:=S3.freeze.weak (by walk_at "sub") ‹()›;clear A S3;left;refine zZ (xs:=(zI l).map PyData.int) S4 .mm λJ Z=>?_;refine Zu Z (λi σ cs ds=>∃(fl:Bool) (X U T:Option V),σ=[some v0,some v1,some v2,some (.bl fl),X,U,T]/\cs=[]/\ds=[(.list ((zI l).map PyData.int), .ref L),(r.shape,v0),(zj l,v1),(xu tk,v2)]/\aW (.ranks r) l tk=rkB r l tk fl ((zI l).drop i)) S4 ⟨true,none,none,none,rfl,rfl,rfl,fb⟩ (λi σ cs ds h=>?_) ?_ ?_
 ·obtain ⟨_,_,_,_,_,_,rfl,_⟩:=h;exact .mem (by right)
 ·rintro i x u σ H5 cs ds p ⟨fl,X,U,T,rfl,rfl,rfl,inv⟩ S5
  obtain ⟨g,hk,rfl⟩:=zM p;cases S5.int1;have M:=XT (zE g) l;have lk:=Ub (zE g) l;have fk:=QP (jbA (zE g) l) few;have pos:=eQ (Qd hk);have step:=ok.ranks g;rw [List.drop_eq_getElem_cons (Qf.mp hk).1,(Qf.mp hk).2,rkB] at inv;left;refine jq H H (by rw [Qb];lia) (by rw [Qb];lia) λJ6 Y=>?_;refine bq Y (λj=>if zE g (l.getD j (0,0,0)) then some (.int (0+(j:Int))) else none) S5 (λ_ _=>trivial) (by rw [yu,Tp,Qb];lia) (λj x v B' G' Kd Kn p t1 S hd hn C ex s0 H0=>?_) λD6 H6 e6 S6=>?_
  ·obtain ⟨hj,rfl⟩:=xU p;rw [Tp,Qb] at hj;cases S.int1;have s:=Qa hj;rw [zA s] at hd hn;refine zF ⟨rfl,?_⟩;left;refine zX (xs:=l.map zH) (x:=zH l[j]) S .mm (by rw [Int.zero_add];exact zW (by rw [Qh,s];rfl)) λw2 A=>?_;left;refine yH (λz=>?_) (λz=>?_)
   ·left;exact hd (QD (QT z)) A Has.int
   ·exact hn (QI λy=>z (Qz y)) A
  rw [yu,Tp,Qb,vV] at S6;have S7:Sta H H H6 [] [(plD (yb (zE g) l), .ref D6),(.list ((zI l).map PyData.int), .ref L),(r.shape,v0),(zj l,v1),(xu tk,v2)]:=S6.freeze.weak (by walk_at "sub") ‹()›;clear S6;left;refine zZ (xs:=(yb (zE g) l).map λ(i:Nat)=>PyData.int (i:Int)) S7 .mm λJ8 RP=>?_;refine xj RP (λj=> .int (tk.getD ((yb (zE g) l).getD j 0) 0)) (ys:=(zK 0 (yb (zE g) l) tk).map PyData.int) (by unfold zK;rw [Qb,Qo];exact zv (λi:Nat=>PyData.int (tk.getD i 0)) 0 (yb (zE g) l)) S7 (λj x v=>λp t1 S hd=>?_) λD8 H8 e8 S8=>?_
  ·obtain ⟨t,D,rfl⟩:=zM p;cases S.int1;have N:=M.lt t (Qd D);have s:=Qa (l:=tk) (i:=t) ⋯;refine zF ⟨rfl,?_⟩;left;refine Xy (xs:=tk.map PyData.int) S .mm (zW (by rw [Qh,s];rfl)) ?_;refine hd S ?_;rw [zA D,zA s];exact Has.int
  have O:Sta H H H8 [] [(xu (zK 0 (yb (zE g) l) tk), .ref D8),(plD (yb (zE g) l), .ref D6),(.list ((zI l).map PyData.int), .ref L),(r.shape,v0),(zj l,v1),(xu tk,v2)]:=S8.freeze.weak (by walk_at "sub") ‹()›;clear S8;have plen:(zK 0 (yb (zE g) l) tk).length=(yb (zE g) l).length:=xl ..;left;refine Ga (q:=(zK 0 (yb (zE g) l) tk).any λx=>decide (0<x)) (λhh=>?_) (λc=>?_) (λc=>?_)
  ·left;refine Ki (ns:=zK 0 (yb (zE g) l) tk) O .mm (by rw [plen];lia) λm hm top=>?_;left
   have em:decide (0<m)=(zK 0 (yb (zE g) l) tk).any λx=>decide (0<x):=jbv.mpr ⟨λh=>List.any_eq_true.mpr ⟨m,hm,h⟩,λh=>by
    obtain ⟨x,p,Se⟩:=List.any_eq_true.mp h;have:=top x p;have:=Qz Se
    exact QT ⋯⟩
   rw [em];exact hh
  ·left;rw [inv,QD c] at k;exact k _ O.base
  ·left;rw [QI (by rw [c];exact Qv)] at inv;refine zZ (xs:=(yb (zE g) l).map λ(i:Nat)=>PyData.int (i:Int)) O .mm λJ10 I=>?_;refine xj I (λj=>zH (l.getD ((yb (zE g) l).getD j 0) (0,0,0))) (ys:=(l.filter (zE g)).map zH) (by rw [WL];unfold zK;rw [Qb,Qo];exact zv (λi:Nat=>zH (l.getD i (0,0,0))) 0 (yb (zE g) l)) O (λj x v=>λp t1 S hd=>?_) λD10 Pe e10 NW=>?_
   ·obtain ⟨t,D,rfl⟩:=zM p;cases S.int1;have N:=M.lt t (Qd D);have s:=Qa N;refine zF ⟨rfl,?_⟩;left;refine zX (xs:=l.map zH) (x:=zH l[t]) S .mm (zW (by rw [Qh,s];rfl)) λw2 A=>?_;refine hd A ?_;rw [zA D,zA s];exact .mem (by right)
   left;refine Xz (r:=r) (l:=l.filter (zE g)) (tk:=zK 0 (yb (zE g) l) tk) NW.freeze .mm .mm .mm step λPV Ry NV=>?_;generalize hf:aW r (l.filter (zE g)) (zK 0 (yb (zE g) l) tk)=fbb at*
   cases fbb with
   |false=>
    left;rw [inv,QI Qv] at k;exact k _ NV.base
   |true=>
   rw [QD rfl] at inv;left;have Oc:Sta H H PV [] [(xu (zK 0 (yb (zE g) l) tk), .ref D8),(plD (yb (zE g) l), .ref D6),(.list ((zI l).map PyData.int), .ref L),(r.shape,v0),(zj l,v1),(xu tk,v2)]:=NV.dat ‹()›
   cases fl with
   |false=>
    rw [QI Qv];left;refine YE (Oc.dat ‹()›) ⟨false,_,_,_,rfl,rfl,rfl,inv⟩
   |true=>
    rw [QD rfl];left;refine zZ (xs:=(yb (zE g) l).map λ(i:Nat)=>PyData.int (i:Int)) Oc .mm λJ13 G=>?_
    refine yg G (λj=> .int (l.getD ((yb (zE g) l).getD j 0) (0,0,0)).1) (ys:=(zK 0 (yb (zE g) l) (amV l)).map PyData.int) (by
     unfold zK;rw [Qb,Qo];refine (zv (λi:Nat=>PyData.int (l.getD i (0,0,0)).1) 0 (yb (zE g) l)).trans (QA λi hi=>?_);show PyData.int _=PyData.int _
     rw [LU (M.lt i hi)]) Oc (λ_ _=> .mem (by right)) (by rw [Qb];lia) (λj x v B' G' Kd Kn p t1 S hd C ex s0 H0=>?_) λD13 H13 e13 NU=>?_
    ·obtain ⟨t,D,rfl⟩:=zM p;cases S.int1;have N:=M.lt t (Qd D);have s:=Qa N;refine zF ⟨rfl,?_⟩;left;refine zX (xs:=l.map zH) (x:=zH l[t]) S .mm (zW (by rw [Qh,s];rfl)) λw2 A=>?_;left;refine hd (by assumption) ?_;rw [zA D,zA s];exact Has.int
    refine tY (x:=xu (zK 0 (yb (zE g) l) tk)) (y:=xu (zK 0 (yb (zE g) l) (amV l))) (NU.hp .mm) (NU.hpC (by right)) (Va _) (Va _) ?_;rw [Ej];left;refine YE (NU.dropC.dat ‹()›) ⟨_,_,_,_,rfl,rfl,rfl,inv⟩
 ·rintro σ H5 cs ds ⟨fl,X,U,T,rfl,rfl,rfl,inv⟩ S5
  rw [Qb,List.drop_length,rkB] at inv;left;rw [inv] at k;exact k _ S5.base
def GI (B:Bl mg) (B2:Bl3 mg) (Mr:Cal P w K mg base CX0 1 "_law_even" paK qy) {fu:Addr} {N:FuncData} (Fu:Fun K "_law_upto_fit" "_law_upto_fit" Zk fu N) (hmu:mg "_law_upto_fit"=some (.ref fu)) (bu:yp K N paa []) {fr:Addr} {O:FuncData} (Fr:Fun K "_law_ranks_fit" "_law_ranks_fit" xO fr O) (hmr:mg "_law_ranks_fit"=some (.ref fr)) (br:yp K O paa []) (F:Fun K "_law_fits" "_law_fits" aD f fd) (hm:mg "_law_fits"=some (.ref f)) (bf:yp K fd paa []):∀n:Nat,FnOk P w K mg base CX0 (2*n+2) f fd paa (VH n):=by
 intro n
 induction n with
 |zero=>
  refine F.ok VL (λvs H Q E h=>?_) (λNA A outer s H vs Q E hr h=>?_)
  ·obtain ⟨a,h,_⟩:=h;rw [<-h.len];rfl
  obtain ⟨⟨r,l,tk⟩,_,ok,_⟩:=h;dsimp only at ok;exact absurd ok.dep (by have:=HJ r;lia)
 |succ n ih=>
  have ZQ:Cal P w K mg base CX0 (2*n+2) "_law_fits" paa (VH n):=UM F ih hm bf;have Fj:Cal P w K mg base CX0 (2*n+3) "_law_upto_fit" paa (JF (n+1)):=UM Fu (ok_upD B ZQ Fu) hmu bu;have ES:Cal P w K mg base CX0 (2*n+3) "_law_ranks_fit" paa (JH (n+1)):=UM Fr (ok_rkD B B2 ZQ Fr) hmr br;refine F.ok VL (λvs H Q E h=>?_) (λNA A outer s H vs Q E hr h=>?_)
  ·obtain ⟨a,h,_⟩:=h;rw [<-h.len];rfl
  obtain ⟨⟨r,l,tk⟩,hA,ok,k⟩:=h;obtain ⟨v0,v1,v2,rfl,al⟩:=Yc hA;dsimp only at ok al k;have S:Sta H H H [] [(r.shape,v0),(zj l,v1),(xu tk,v2)]:=Sta.enter (zG.refl _) al;have few:=ok.few;have hn20:=ok.hn;have nd0:=VL.nd;walk_at "=eT3_law_claim;1;za1u0vh0ek412ba3cek512ba2ceH#ba3ba2cOyA6yA7PfmIJZa7djXWa7a6jfiFnemptoh0rjfi~toC_law_part,_law_whole_here;14;za2u0vqa0a1C_law_amount,_law_purse_here;15;za3u0vqa0a1jnemptoh0rjfigba3ba2cnemptoh0rjfigba3bC_law_amount,_law_part;2;#ba3ba2cOyu0yu1PvSa0a1cnemptoh0rjfigbsbrbsbdbdcbsbrcbsbrccba1ba2cnemptoh0rjfigbh0ba1bC_law_amount,_law_part;2;#ba3ba2cOyu0yu1PvSa0a1cnemptoh0rjfigbh0ba1ba2cnemptoh0rjMnfigba0ba1ba2c";left;refine zZ (xs:=l.map zH) S .mm λJ wk=>?_;refine xj wk (λj=> .int (l.getD j (0,0,0)).1) (ys:=(amV l).map PyData.int) (by unfold amV;rw [Qb,Qo];exact zv (λc:Cl=>PyData.int c.1) (0,0,0) l) S (λj x v=>λq t1 S hd=>?_) λD H1 e1 S1=>?_
  ·obtain ⟨c,hc,rfl⟩:=zM q;refine zF ⟨rfl,?_⟩;left;refine hd (by assumption) ?_;rw [zA hc];exact Has.int
  have S2:Sta H H H1 [] [(xu (amV l), .ref D),(r.shape,v0),(zj l,v1),(xu tk,v2)]:=S1.freeze;clear S1;have l8:(amV l).length<=8:=by rw [zQ];exact few
  have hsz:=ok.sz;left;refine Vd (xs:=(amV l).map PyData.int) (ys:=tk.map PyData.int) S2 .mm .mm λJ2 Pf=>?_;refine Zu Pf (λi σ cs ds=>(∃x6 x7,σ=[some v0,some v1,some v2,some (.ref D),some (.int (amV l).sum),some (.int tk.sum),x6,x7])/\cs=[]/\ds=[(xu (amV l), .ref D),(r.shape,v0),(zj l,v1),(xu tk,v2)]/\∀(j:Nat) (a p:Int),j<i->(amV l)[j]? =some a->tk[j]? =some p->0<=p/\p<=a) S2 ⟨⟨none,none,rfl⟩,rfl,rfl,λj a p h=>absurd h (Nat.not_lt_zero _)⟩ (λi σ cs ds h=>?_) ?_ ?_
  ·obtain ⟨_,rfl,rfl,_⟩:=h;exact ⟨.mem (by right),λ_ _ h=>h.tail, .mem (by right)⟩
  ·rintro i x u σ H2 cs ds q ⟨⟨x6,x7,rfl⟩,rfl,rfl,inv⟩ m
   obtain ⟨xa,xb,M,L,rfl⟩:=ZR q;obtain ⟨a,ha,rfl⟩:=zM M;obtain ⟨p,hp,rfl⟩:=zM L;have bad:¬(0<=p/\p<=a)->aW r l tk=false:=λz=>fb_not λh=>z (h.inB.2 i a p ha hp);refine xR (xQ m .mm λw1 w2 g=>?_);cases g.int1;cases g.drop1.int1;left;refine yH (λc=>?_) (λc1=>?_)
   ·left;rw [bad ⋯] at k;exact k _ g.base
   left;refine yH (λc=>?_) (λc2=>?_)
   ·left;rw [bad ⋯] at k;exact k _ g.base
   left;refine YE (g.dat ‹()›) ⟨⟨_,_,rfl⟩,rfl,rfl,λj a' p' hj OB NQ=>?_⟩
   by_cases z:j<i
   ·exact inv j a' p' z OB NQ
   ·have:j=i:=⋯
    subst this;rw [ha] at OB;rw [hp] at NQ;cases OB;cases NQ;lia
  rintro σ H2 cs ds ⟨⟨x6,x7,rfl⟩,rfl,rfl,inv⟩ m
  clear S2 wk Pf;have inb:InB (amV l) tk:=InB.of ok.len λi a p hi ha hp=>inv i a p (by rw [yI,Qb,Qb,ok.len,<-zQ,Tv];exact hi) ha hp
  cases r with
  |shares=>
   simp only [Rl.shape] at m;obtain ⟨it,ia⟩:=inb.inS l8 hsz;have st:=it.sum.2;have sa:=ia.sum.2;left;refine zZ (xs:=tk.map PyData.int) m .mm λJ3 T=>?_;refine yg T (λj=> .int (tk.getD j 0*(amV l).sum)) (ys:=(tk.map (·*(amV l).sum)).map PyData.int) (by rw [Qb,Qo];exact zv (λx:Int=>PyData.int (x*(amV l).sum)) 0 tk) m (λ_ _=> .mem (by right)) (by rw [Qb,inb.1];lia) (λj x v B' G' Kd Kn q t1 S hd C ex s0 H0=>?_) λD4 H4 Y g=>?_
   ·obtain ⟨y,I,rfl⟩:=zM q;cases S.int1;have o:IntMulOk y (amV l).sum:=(it.2 y (Qd I)).2.mulOk sa ⋯;refine zF ⟨rfl,?_⟩;left;refine hd S ?_;rw [zA I];exact Has.int
   left;refine zZ (xs:=(amV l).map PyData.int) g .mm λJ5 wk5=>?_;refine xj wk5 (λj=> .int ((amV l).getD j 0*tk.sum)) (ys:=((amV l).map (·*tk.sum)).map PyData.int) (by rw [Qb,Qo];exact zv (λx:Int=>PyData.int (x*tk.sum)) 0 (amV l)) g (λj x v=>λq t1 S hd=>?_) λD6 H6 e6 S6=>?_
   ·obtain ⟨y,I,rfl⟩:=zM q;cases S.int1;have o:IntMulOk y tk.sum:=(ia.2 y (Qd I)).2.mulOk st ⋯;refine zF ⟨rfl,?_⟩;left;refine hd S ?_;rw [zA I];exact Has.int
   refine tY (x:=xu (tk.map (·*(amV l).sum))) (y:=xu ((amV l).map (·*tk.sum))) (S6.hpC (by right)) (S6.hpC (by right)) (Va _) (Va _) ?_;rw [Ej,<-Ed inb];exact k _ S6.base
  |evenly=>
   simp only [Rl.shape] at m;left;refine tX m .mm .mm l8 inb.1 λH4 Y g=>?_;rw [<-Eg];exact k _ g.base
  |losses=>
   simp only [Rl.shape] at m;left;refine Vd (xs:=(amV l).map PyData.int) (ys:=tk.map PyData.int) m .mm .mm λJ3 T=>?_;have U:(xc (amV l) tk).length=(amV l).length:=YW inb.1;refine yg T (λj=> .int ((xc (amV l) tk).getD j 0)) (ys:=(xc (amV l) tk).map PyData.int) ?_ m (λ_ _=>⟨.mem (by right),λ_ _ h=>h.tail, .mem (by right)⟩) ?_ (λj x v B' G' Kd Kn q t1 S hd C ex s0 H0=>?_) λD4 H4 Y g=>?_
   ·rw [yI,Qb,Qb,inb.1,Tv,<-U];exact zv (λx=>PyData.int x) 0 _
   ·rw [yI,Qb,Qb];lia
   ·obtain ⟨x1,x2,M,L,rfl⟩:=ZR q;obtain ⟨n1,OF,rfl⟩:=zM M;obtain ⟨n2,Oj,rfl⟩:=zM L;refine xR (xQ S .mm λw1 w2 S=>?_);cases S.int1;cases S.drop1.int1;refine yO (zF (yO (zF (WA ⟨rfl,?_⟩))));left;refine hd S ?_;rw [zA (show (xc (amV l) tk)[j]? =some (n1 - n2) by unfold xc;rw [Qx,OF,Oj])];exact Has.int
   left;refine tX (am:=amV l) (tk:=xc (amV l) tk) g.freeze .mm .mm l8 U λZ X G=>?_;rw [<-Ee inb];exact k _ G.base
  |halves=>
   simp only [Rl.shape] at m;left;rename_i p4 H4 Y g;refine Xz (r:= .upto 1 2 .evenly .losses) (l:=l) (tk:=tk) g .mm .mm .mm ok.halves λZ X G=>?_;rw [<-Ef];exact k _ G.base
  |other r=>
   simp only [Rl.shape] at m;left;rename_i w4 S4';have m:=S4';refine Vd (xs:=(amV l).map PyData.int) (ys:=tk.map PyData.int) m .mm .mm λJ3 T=>?_;have U:(xc (amV l) tk).length=(amV l).length:=YW inb.1;refine yg T (λj=> .int ((xc (amV l) tk).getD j 0)) (ys:=(xc (amV l) tk).map PyData.int) ?_ m (λ_ _=>⟨.mem (by right),λ_ _ h=>h.tail, .mem (by right)⟩) ?_ (λj x v B' G' Kd Kn q t1 S hd C ex s0 H0=>?_) λD4 H4 Y g=>?_
   ·rw [yI,Qb,Qb,inb.1,Tv,<-U];exact zv (λx=>PyData.int x) 0 _
   ·rw [yI,Qb,Qb];lia
   ·obtain ⟨x1,x2,M,L,rfl⟩:=ZR q;obtain ⟨n1,OF,rfl⟩:=zM M;obtain ⟨n2,Oj,rfl⟩:=zM L;refine xR (xQ S .mm λw1 w2 S=>?_);cases S.int1;cases S.drop1.int1;refine yO (zF (yO (zF (WA ⟨rfl,?_⟩))));left;refine hd S ?_;rw [zA (show (xc (amV l) tk)[j]? =some (n1 - n2) by unfold xc;rw [Qx,OF,Oj])];exact Has.int
   left;refine Xz (r:=r) (l:=l) (tk:=xc (amV l) tk) g.freeze .mm .mm .mm (ok.other inb) λZ X G=>?_;rw [<-HH inb];exact k _ G.base
  |upto t b x y=>
   have g:=m;simp only [Rl.shape] at m;left;refine rd_upD (t:=t) (b:=b) (x:=x) (y:=y) (l:=l) (tk:=tk) g .mm .mm .mm ok inb λZ X G=>?_;exact k _ G.base
  |ranks r=>
   simp only [Rl.shape] at m;left;rename_i w4 g;refine rd_rkD (r:=r) (l:=l) (tk:=tk) g .mm .mm .mm ok inb λZ X G=>?_;exact k _ G.base
  |groups x y=>exact absurd ok.pok id
abbrev Xs:Stmt:=top 92
def gW:FnScope ["_law_cell","_law_number"] paJ (zh Xs):=yP
def Gw:Coo P w K mg base "_law_portion" Xs 1 paJ qu:=by
 walk_at "-gW";obtain ⟨G,c,rfl,z,k⟩:=h;have S:Sta H G H [] []:=Sta.enter z λp hp=>absurd hp Qm;walk_at "=ek1Ba05ddemptoBa1ddjfisbdbxdBNa1ddcnemptoBa1ddjfisbxdBNa1ddbdcnfisbxdBNa1ddbxdBNa1ddc";left;generalize c % 10 ^ Int.toNat 9=m at*;have hm:0<=m / 3 % 60/\m / 3 % 60<60:=⋯
 have g:∀t b:Int,0<t->t<b->b<=61->Int.gcd t b=1->Small t b:=λt b y u s r=>⟨⟨⟨by unfold Sz;lia,by unfold Sz;lia⟩,y,u,r⟩,s⟩;refine yH (λ_=>?_) (λ_=>?_)
 ·left;exact BW (by assumption) k .mm (g _ _ nofun ⋯ ⋯ (by rw [Int.gcd_one_left]))
 left;refine yH (λ_=>?_) (λ_=>?_)
 ·left;refine BW (by assumption) k .mm (g _ _ ⋯ ⋯ ⋯ ?_);obtain ⟨i,q,e⟩:∃i:Nat,i<60/\m / 3 % 60=(i:Int):=⟨(m / 3 % 60).toNat,⋯,⋯⟩;rw [e];clear e hm
  revert q
  revert i
  decide+kernel
 left;refine BW (by assumption) k .mm (g _ _ ⋯ ⋯ ⋯ ?_);obtain ⟨i,q,e⟩:∃i:Nat,i<60/\m / 3 % 60=(i:Int):=⟨(m / 3 % 60).toNat,⋯,⋯⟩;rw [e];clear e hm
 revert q
 revert i
 decide+kernel
abbrev aC:Stmt:=top 93
def qI:FnScope paJ paJ (zh aC):=yP
def GG:Coo P w K mg base "_law_leaf" aC 1 paJ qx:=by
 walk_at "-qI";obtain ⟨G,c,rfl,g,k⟩:=h;have S:Sta H G H [] []:=Sta.enter g λp hp=>absurd hp Qm;walk_at "=filDbsbrcbsbrcbsbrcbsbrccBa0d";left;rename_i z Z J O y Y I N u X D M t U C L s T A q
 obtain ⟨n,hn⟩:∃n,atI [PyData.tuple [.str "shares"], .tuple [.str "evenly"], .tuple [.str "losses"], .tuple [.str "halves"]] (c % 4)=some (ma n).shape:=by
  rcases (by lia:c % 4=0\/c % 4=1\/c % 4=2\/c % 4=3) with h|h|h|h<;>rw [h]
  ·exact ⟨0,rfl⟩
  ·exact ⟨1,rfl⟩
  ·exact ⟨2,rfl⟩
  ·exact ⟨3,rfl⟩
 refine Wz q (by right) hn λr m=>?_;exact BX m k .mm
abbrev VR:Stmt:=top 94
def cb:FnScope ["_law_cells","_law_groups","_law_pile","_law_cell","_law_more","_law_kind"] paM (zh VR):=yP
def CI (B:Bl mg) (Ip:Cal P w K mg base CX0 1 "_law_portion" paJ qu) (Mq:Cal P w K mg base CX0 1 "_law_leaf" paJ qx) (F:Fun K "_law_shape" "_law_shape" VR f fd):FnOk P w K mg base CX0 2 f fd paM tJ:=by
 refine F.ok cb (λvs H Q E h=>?_) (λNA A' outer s H vs Q E hr h=>?_)
 ·obtain ⟨⟨G,ns,g,v,rfl,_⟩,_⟩:=h;rfl
 obtain ⟨⟨G,ns,g,v,rfl,eG,hv,hl6,k⟩,v',ev⟩:=h;have hg:g=false:=by cases ev;rfl
 clear ev;have S:Sta H G H [] [(xu ns,v)]:=Sta.enter eG λp hp=>by rw [Qp.mp hp];exact hv
 have two:∀rs:List Rl,1<rs.length->∃ls ra D,rs=ls++[ra,D]:=λrs h=>by
  refine ⟨rs.dropLast.dropLast,rs.dropLast.getLast (λz=>?_),rs.getLast (λz=>?_),?_⟩
  ·have:=congrArg List.length z;rw [List.length_dropLast,List.length_nil] at this;lia
  ·rw [z,List.length_nil] at h;lia
  ·rw [show ∀a b:Rl,[a,b]=[a]++[b] from λ_ _=>rfl,<-jbk,jad,jad]
 have one:∀rs:List Rl,0<rs.length->∃ls ra,rs=ls++[ra]:=λrs h=>by
  refine ⟨rs.dropLast,rs.getLast (λz=>?_),?_⟩
  ·rw [z,List.length_nil] at h;lia
  ·rw [jad]
 have U:∀(ls:List Rl) (r:Rl),atI ((ls++[r]).map Rl.shape) (-1)=some r.shape:=λls r=>by
  rw [Ts];exact uU _ _
 have at2:∀(ls:List Rl) (r q:Rl),atI ((ls++[r,q]).map Rl.shape) (-2)=some r.shape/\atI ((ls++[r,q]).map Rl.shape) (-1)=some q.shape:=λls r q=>⟨by rw [Ts];exact Ie,by rw [show ls++[r,q]=ls++[r]++[q] by simp];exact U _ _⟩;have nd0:=cb.nd;walk_at "=ek2DceHza0A3ek4BNa3d5ddek5Ba3dfmI6ptoa5dj+Wwba2cdjfk2Q7a28URdDbsbrbla2RdccfmI6ptoa5dj+Wwba2cdjfk2Q7a28URdDbsbrbla2RdccfmI6ptoa5dj6Wwba2cdj+Ga1MfmI6Wa5dj+Wwba2cdjfk2Q7a28URdDbsbrbgba4cbla2Rdbla2RdccfEαa2bgba4ccemptowba2cdjfisbrcne$Wwba2cdjfk2Q7a28URdDbsbrbsbdbxdwba2ccbla2Rdbla2Rdccfih2";left;rename_i p1 H1 e1 S1;refine zZ S1 .mm λJ wk=>?_;refine Zu wk (λi σ cs ds=>∃(rs:List Rl) (p:Addr) (x3 Z Y:Option V),σ=[some v,some (.bl g),some (.ref p),x3,Z,Y]/\cs=[(p,rs.map Rl.shape)]/\ds=[(xu ns,v)]/\(∀r∈rs,PSG g r)/\ndS rs<=i) S1 ⟨[],p1,none,none,none,rfl,rfl,rfl,λr hr=>absurd hr Qm,Qs _⟩ (λi σ cs ds h=>?_) ?_ ?_
 ·obtain ⟨_,_,_,_,_,_,_,rfl,_⟩:=h;exact .mem (by right)
 ·rintro i x u σ H2 cs ds hx ⟨rs,p,x3,Z,Y,rfl,rfl,rfl,Oh,Sl⟩ L
  obtain ⟨c,hc,rfl⟩:=zM hx;have hi:=(Qf.mp hc).1;cases L.int1;have L:=L.drop1;have ll:=Ue rs
  have fin:∀(q:Addr) (ls:List Rl) (r:Rl) (y3 y4 y5:Option V) (H5:Hp),(∀r∈ls,PSG g r)->PSG g r->ndS ls+nd r<=i+1->Sta H G H5 [(q,ls.map Rl.shape++[r.shape])] [(xu ns,v)]->
   AtP H G (λσ cs ds=>∃(rs:List Rl) (p:Addr) (x3 Z Y:Option V),σ=[some v,some (.bl g),some (.ref p),x3,Z,Y]/\cs=[(p,rs.map Rl.shape)]/\ds=[(xu ns,v)]/\(∀r∈rs,PSG g r)/\ndS rs<=i+1) [some v,some (.bl g),some (.ref q),y3,y4,y5] H5:=by
   intro q ls r y3 y4 y5 H5 h1 h2 h3 X;refine YE X ⟨ls++[r],q,y3,y4,y5,rfl,by rw [Ts];rfl,rfl,λz hz=>?_,by rw [XC];exact h3⟩
   rcases QW.mp hz with z'|z'
   ·exact h1 z z'
   ·rw [Qp.mp z'];exact h2
  left;refine' if2 ?gh1 ?gk1 ?gn1
  case gh1=>
   intro z;left;exact z
  case gk1=>
   intro c1 C;have C:=Qz C;rw [Qb] at C;left;obtain ⟨ls,ra,rfl⟩:=one rs ⋯;have M:=Oh ra (by simp);have nn:=XC ls ra;refine tT L (by right) λq3 H3 e3 A=>?_;rw [show pZ ((ls++[ra]).map Rl.shape) none (some (-1))=ls.map Rl.shape by rw [Ts];exact uN _ _] at A;left;refine Wz A (by right) (U ls ra) λw4 O=>?_;left;rename_i q5 H5 e5 X q6 H6 e6 I;refine .inl (WB I (I.vwC (by right)) (I.vwC (by right)) (by have:=Ue ls;rw [Qb];show _+1<=1000;lia) λq7 H7 e7 T=>?_);left;exact fin q7 ls (Rl.other ra) _ _ _ H7 (λr hr=>Oh r (by simp [hr])) M (by simp only [nd];lia) (T.weak (by walk_at "sub") ‹()›)
  intro _;left;refine' if2 ?gh2 ?gk2 ?gn2
  case gh2=>
   intro z;left;exact z
  case gk2=>
   intro c1 C;have C:=Qz C;rw [Qb] at C;left;obtain ⟨ls,ra,rfl⟩:=one rs ⋯;have M:=Oh ra (by simp);have nn:=XC ls ra;refine tT L (by right) λq3 H3 e3 A=>?_;rw [show pZ ((ls++[ra]).map Rl.shape) none (some (-1))=ls.map Rl.shape by rw [Ts];exact uN _ _] at A;left;refine Wz A (by right) (U ls ra) λw4 O=>?_;left;rename_i q5 H5 e5 X q6 H6 e6 I;refine .inl (WB I (I.vwC (by right)) (I.vwC (by right)) (by have:=Ue ls;rw [Qb];show _+1<=1000;lia) λq7 H7 e7 T=>?_);left;exact fin q7 ls (Rl.ranks ra) _ _ _ H7 (λr hr=>Oh r (by simp [hr])) M (by simp only [nd];lia) (T.weak (by walk_at "sub") ‹()›)
  intro _;left;refine' if3 ?gh3 ?gi3 ?gk3 ?gn3
  case gh3=>
   intro z;left;exact z
  case gi3=>
   intro z;left;exact z
  case gk3=>
   intro c1 C c3;exact absurd (hg▸c3:false=true) nofun
  intro _;left;refine' if2 ?gh4 ?gk4 ?gn4
  case gh4=>
   intro z;left;exact z
  case gk4=>
   intro c1 C;have C:=Qz C;rw [Qb] at C;left;obtain ⟨ls,ra,D,rfl⟩:=two rs ⋯;have M:=Oh ra (by simp);have ob:=Oh D (by simp);have nn:ndS (ls++[ra,D])=ndS ls+nd ra+nd D:=by rw [show ls++[ra,D]=ls++[ra]++[D] by simp,XC,XC]
   refine tT L (by right) λq3 H3 e3 A=>?_;rw [show pZ ((ls++[ra,D]).map Rl.shape) none (some (-2))=ls.map Rl.shape by rw [Ts];exact uM _ _ _] at A;left;refine FU A λwp Hp t b sm ep Sp=>?_;left;refine Wz Sp (by right) (at2 ls ra D).1 λw4 O=>?_;left;refine Wz O (by right) (at2 ls ra D).2 λw5 X=>?_;left;rename_i q6 H6 e6 I q7 H7 e7 T;refine .inl (WB T (T.vwC (by right)) (T.vwC (by right)) (by have:=Ue ls;rw [Qb];show _+1<=1000;lia) λq8 H8 e8 S8=>?_);left;exact fin q8 ls (Rl.upto t b ra D) _ _ _ H8 (λr hr=>Oh r (by simp [hr])) ⟨⟨sm.ps,M.1,ob.1⟩,λz=>⟨M.2 z,ob.2 z⟩⟩ (by simp only [nd];lia) (S8.weak (by walk_at "sub") ‹()›)
  intro _;left;refine FX L λw3 H3 n e3 A=>?_;left;refine YU A .mm (by rw [Qb];lia) λH4 O=>?_;left;exact fin p rs (ma n) _ _ _ H4 Oh ⟨(DU n).1,λ_=>LB n⟩ (by rw [(DU n).2];lia) (O.dat ‹()›)
 ·rintro σ H2 cs ds ⟨rs,p,x3,Z,Y,rfl,rfl,rfl,Oh,Sl⟩ L
  rw [Qb] at Sl;have ll:=Ue rs;left;rw [Qb];refine yH (λc1=>?_) (λc1=>?_)
  ·left;exact jn (r:= .halves) (by assumption) k .mm ⟨⟨0,1,λt=>JOk.of (r:= .halves) trivial nofun,nofun,nofun⟩,λ_=>trivial⟩
  obtain ⟨ls,y,rfl⟩:=one rs ⋯;have nn:=XC ls y;left;refine AU (λm σ cs ds=>∃(ls:List Rl) (y:Rl) (p:Addr) (j N:Nat),σ=[some v,some (.bl g),some (.ref p),x3,Z,Y]/\cs=[(p,(ls++[y]).map Rl.shape)]/\ds=[(xu ns,v)]/\(∀r∈ls,PSG g r)/\((∀t,JOk t j N y)/\(g=false->NG y))/\j+ls.length<=5/\N+ndS ls<=6/\m=ls.length) _ L ⟨ls,y,p,0,nd y,rfl,rfl,rfl,λr hr=>Oh r (by simp [hr]),⟨λt=>JOk.of (Oh y (by simp)).1 ⋯,(Oh y (by simp)).2⟩,by rw [QM,jas] at ll;lia,⋯,rfl⟩ ?_;clear Oh Sl L ll nn c1
  rintro m σ H3 cs ds ⟨ls,y,p,j,N,rfl,rfl,rfl,Oh,hy,hj,hN,rfl⟩ A
  left;rw [Qb,QM,jas];refine BY (λc=>?_) (λc=>?_)
  ·have c:0<ls.length:=by
    have:=Qz c;lia
   obtain ⟨ls,ra,rfl⟩:=one ls c;have M:=Oh ra (by simp);have nn:=XC ls ra;have pa:=oE ra;have ll:=Ue ls;rw [QM,jas] at hj;rw [show ls++[ra]++[y]=ls++[ra,y] by simp] at A;have hb:(((ls++[ra,y]).map Rl.shape).length:Int)=ls.length+2:=by rw [Qb,QM];rfl
   left;refine tT A (by right) λq4 H4 e4 O=>?_;rw [show pZ ((ls++[ra,y]).map Rl.shape) none (some (-2))=ls.map Rl.shape by rw [Ts];exact uM _ _ _] at O;left;rename_i q5 H5 e5 X;rw [hb] at X;refine Wz X (by right) (at2 ls ra y).1 λw6 I=>?_;left;refine Wz I (by right) (at2 ls ra y).2 λw7 T=>?_;left;rename_i q8 H8 e8 S8 q9 H9 e9 S9;refine .inl (WB S9 (S9.vwC (by right)) (S9.vwC (by right)) (by rw [Qb];show _+1<=1000;lia) λqa Ha ea Sa=>?_);left;have po:Xi 1 (1+((ls.length:Int)+2)):=⟨⟨by unfold Sz;lia,by unfold Sz;lia⟩,⋯,⋯,Int.gcd_one_left _⟩;refine ⟨ls.length,by simp,_,_,Sa.weak (cs':=[(qa,ls.map Rl.shape++[(Rl.upto 1 (1+((ls.length:Int)+2)) ra y).shape])]) (ds':=[(xu ns,v)]) (by walk_at "sub") ‹()›,ls,_,qa,j+1,nd ra+N,rfl,by rw [Ts];rfl,rfl,λr hr=>Oh r (by simp [hr]),⟨λt=>JOk.join po (IT ⋯ ⋯) (JOk.of M.1 ⋯) (hy.1 t),λz=>⟨M.2 z,hy.2 z⟩⟩,⋯,⋯,rfl⟩
  ·have c:ls=[]:=by
    have:=of_decide_eq_false c;exact List.length_eq_zero_iff.mp ⋯
   subst c;left;refine Wz A (by right) rfl λw4 O=>?_;exact jn O k .mm ⟨⟨j,N,hy.1,⋯,⋯⟩,hy.2⟩
abbrev VT:Stmt:=top 102
def nH:FnScope ["_law_whole_here","_law_cell","_law_kind","_law_number"] paG (zh VT):=yP
def CM (N:Cal P w K mg base CX0 2 "_law_lowest" paw WZ):Coo P w K mg base "_law_purse" VT 3 paG kq:=by
 walk_at "-nH";obtain ⟨G,g,c,rfl,I,⟨u,q⟩,k⟩:=h;have S:Sta H G H [] []:=Sta.enter I λp hp=>absurd hp Qm;have good:∀(i j:Int),0<=i->0<j->Sz 300 i->Sz 300 j->0<=Rat.divInt i j/\SzQ 300 (Rat.divInt i j):=λi j D M z1 z2=>⟨Rat.divInt_nonneg D ⋯,SzQ.divInt z1 z2 ⋯⟩;have A:g+3≠0:=⋯
 have z:2*g+5≠0:=⋯
 have O:g<2 ^ 180:=by unfold Sz at q;lia
 have t:(0:Int)<10 ^ Int.toNat 12:=by decide
 walk_at "=ek2Ba1dek3Na1demptoa2djfisbVa3xa0dbdcnemptoa2djfigba0bdcnemptoa2djfigbVa3xqda0dbdcnemptoa2djfigbqa0Ba3dbdcnfigbVa3qxa0d5ddb5ddc";left;refine yH (λ_=>?_) (λ_=>?_)
 ·left;rename_i J H1 s m;have e:=QZ (c / 5) (show 0<=g+3 by lia);have m1:=TZ (c / 5) A;have m2:=TM (c / 5) (show 0<g+3 by lia);rw [<-e] at m1 m2;have C:PyData.tuple [.int ((c / 5).fmod (g+3)), .int 1]=frD (((c / 5).fmod (g+3):Int):Rat):=rfl;rw [C] at m;exact eN m k .mm ⟨bt m1,by show Sz 300 ((c / 5).fmod (g+3));unfold Sz;lia,by show Sz 300 1;unfold Sz;decide⟩ ((DQ.int _).mono nofun)
 left;refine yH (λ_=>?_) (λ_=>?_)
 ·left;refine Zr S nofun (by unfold Sz;decide+kernel) λr H1 s m=>?_;exact eN m k .mm (good _ _ u nofun (q.mono nofun) (by unfold Sz;decide)) (uK nofun nofun)
 left;refine yH (λ_=>?_) (λ_=>?_)
 ·left;have e:=QZ (c / 5) (show 0<=2*g+5 by lia);have m1:=TZ (c / 5) z;have m2:=TM (c / 5) (show 0<2*g+5 by lia);rw [<-e] at m1 m2;refine Zr S nofun (by unfold Sz;decide+kernel) λr H1 s m=>?_;exact eN m k .mm (good _ _ m1 nofun (by unfold Sz;lia) (by unfold Sz;decide)) (uK nofun nofun)
 left;refine yH (λ_=>?_) (λ_=>?_)
 ·have o:IntMulOk g (c / 5 % 1009):=q.mulOk (n:=10) (by unfold Sz;lia) nofun;left;refine Zr S nofun (by unfold Sz;decide+kernel) λr H1 s m=>?_;exact eN m k .mm (good _ _ (Int.mul_nonneg u ⋯) nofun ((q.mul (n:=10) (by unfold Sz;lia)).mono nofun) (by unfold Sz;decide)) (uK nofun nofun)
 have z1:Sz 181 (g+1):=by unfold Sz;lia
 have z2:Sz 60 ((10:Int) ^ Int.toNat 12):=by unfold Sz;decide
 have L:IntMulOk (g+1) (10 ^ Int.toNat 12):=z1.mulOk z2 nofun;have zz:=z1.mul z2;have pp:0<(g+1)*(10:Int) ^ Int.toNat 12:=Int.mul_pos ⋯ t;have y:(g+1)*(10:Int) ^ Int.toNat 12≠0:=⋯
 have e:=QZ (c / 5) (show 0<=(g+1)*(10:Int) ^ Int.toNat 12 by lia);have m1:=TZ (c / 5) y;have m2:=TM (c / 5) pp;rw [<-e] at m1 m2;left;refine Zr S t (z2.mono nofun) λr H1 s m=>?_;exact eN m k .mm (good _ _ m1 t ((cv m1 (jbe m2) zz).mono nofun) (z2.mono nofun)) (uK t nofun)
local macro_rules|`(tactic|walk_at "rd")=>`(tactic|first|fail "&187"|fail)
section
variable {A:RAd}
abbrev Zy:Stmt:=top 29
def av:FnScope ["claims","parts","claim","part"] ["claims","parts"] (zh Zy):=yP
def ok_dv0 (B:Bl mg) (X:Cal P w K mg base CX0 1 "before" pab cZ):Coo P w K mg base "check_division" Zy 2 ["claims","parts"] JL:=by
 walk_at "-av";obtain ⟨⟨l,ps⟩,I,⟨r,q,few,good⟩,k⟩:=h;obtain ⟨v,v1,rfl,al⟩:=xB I;dsimp only at r q few good al;have S:Sta H H H [] [(zj l,v),(.list (ps.map frD),v1)]:=Sta.enter (zG.refl _) al;walk_at "=empKowba1cwba0cjMnfH#ba0ba1cOyA2yA3PfmIJZh3djXGgbsbh2bdcba3cMn";left;refine iG (by rw [Qb,Qb,good.1]) ?_;left;refine Vd S .mm .mm λJ C=>?_;refine Zu C (λi σ cs ds=>(∃x y,σ=[some v,some v1,x,y])/\cs=[]/\ds=[(zj l,v),(.list (ps.map frD),v1)]) S ⟨⟨none,none,rfl⟩,rfl,rfl⟩ (λi σ cs ds h=>?_) ?_ ?_
 ·obtain ⟨_,rfl,rfl⟩:=h;exact ⟨.mem (by right),λ_ _ h=>h.tail, .mem (by right)⟩
 ·rintro i z u σ H5 cs ds hz ⟨⟨x4,x5,rfl⟩,rfl,rfl⟩ S5
  obtain ⟨z1,z2,M,L,rfl⟩:=ZR hz;obtain ⟨c,s,rfl⟩:=zM M;obtain ⟨p,hp,rfl⟩:=zM L;have N:=r c (Qd s);have pz:=q p (Qd hp);have g:=good.2 i c p s hp;have T:=Rat.num_nonneg.mpr g.1;refine xR (xQ S5 .mm λG D t=>?_);have Y:Sta H H H5 [] [(frD p,D),(zH c,G),(zj l,v),(.list (ps.map frD),v1)]:=t.dat ‹()›;clear t S5;left;refine yH (λz=>absurd z ⋯) (λz1=>?_);left;rename_i O Z U m;rw [show PyData.tuple [.int c.1, .int 1]=frD ((c.1:Int):Rat) from rfl] at m;refine og (p:=((c.1:Int):Rat)) m .mm .mm ⟨N,show Sz 160 1 by unfold Sz;decide⟩ pz nofun ?_;left;refine yH (λz=>absurd z (TX.mpr g.2)) (λz2=>?_);left;exact YE (m.dat ‹()›) ⟨⟨_,_,rfl⟩,rfl,rfl⟩
 ·rintro σ H5 cs ds ⟨⟨x4,x5,rfl⟩,rfl,rfl⟩ S5
  left;exact k _ S5.base
abbrev ay:Stmt:=top 27
def qG:FnScope ["rule","claims","parts","i","j","together","alone"] paS (zh ay):=yP
def Gy {fS fT Ru fQ:Addr} {X:FuncData} {n:Nat} (B:Bl mg) (NC:∀r:Rl,ROk K fS fT Ru (A.cls r)) (OD:∀r:Rl,Meth K (A.cls r) "parts" fQ) (iT:Cal P w K mg base CX0 1 "check_claims" pao kB) (AM:Cal P w K mg base CX0 2 "check_division" ["claims","parts"] JL) (VE:Cal P w K mg base CX0 3 "plus" pab ja) (Yv:FnOk P w K mg base CX0 (2*n+10) fQ X pai (Up A 33 n)) (xK:yp K X pai []):Coo P w K mg base "pair_off" ay (2*n+11) paS (qw A n):=by
 walk_at "-qG";obtain ⟨G,r,l,ps,eG,hA,⟨ru,dp,_,den,NB,dv⟩,k1,k2⟩:=h;obtain ⟨v0,v1,v2,rfl,al⟩:=Yc hA;have S:Sta H G H [] [(r.ins A,v0),(zj l,v1),(.list (ps.map frD),v2)]:=Sta.enter eG al;have ok:=NB.ok nofun;have few:=ok.few;have hl:=dv.good.1;walk_at "=eEgba1ceEgba1ba2ceH@bwba1ccA3fHπbxa3dbwba1ccA4ek5gbla2a3bla2a4cek6.a0,bDbla1a3bla1a4cba5cfmpKoa6sbla2a3bla2a4cjfisba3ba4bh6bh6cnfi;";left;refine tZ S .mm ok λH1 e1 S1=>?_;left;refine rd_dv0 S1 .mm .mm ⟨λc U=>ok.sz c U,dv.sz,few,dv.good⟩ λH2 e2 S2=>?_;left;rw [Qb];refine jq H G ⋯ ⋯ λJ wk=>?_;refine Zu wk (λi σ cs ds=>(∃x3 L I D,σ=[some v0,some v1,some v2,x3,L,I,D])/\cs=[]/\ds=[(r.ins A,v0),(zj l,v1),(.list (ps.map frD),v2)]/\∀m g,m<g->g<l.length->m<i->Rt r l ps m g) S2 ⟨⟨_,_,_,_,rfl⟩,rfl,rfl,λm g _ _ h=>absurd h (Nat.not_lt_zero _)⟩ (λ_ _ _ _ _=>trivial) ?_ ?_
 ·rintro i x u σ H3 cs ds hx ⟨⟨x3,L,I,D,rfl⟩,rfl,rfl,inv⟩ O
  obtain ⟨hi,rfl⟩:=xU hx;cases O.int1;have O:=O.drop1;have hi:i<l.length:=⋯
  left;rw [Qb];refine II H G ⋯ ⋯ λJ2 Pf=>?_;refine Zu Pf (λj σ cs ds=>(∃L I D,σ=[some v0,some v1,some v2,some (.int (0+(i:Int))),L,I,D])/\cs=[]/\ds=[(r.ins A,v0),(zj l,v1),(.list (ps.map frD),v2)]/\∀g,i<g->g<l.length->g<i+1+j->Rt r l ps i g) O ⟨⟨_,_,_,rfl⟩,rfl,rfl,λg _ _ h=>absurd h ⋯⟩ (λ_ _ _ _ _=>trivial) ?_ ?_
  ·rintro j x u σ H4 cs ds hx ⟨⟨L,I,D,rfl⟩,rfl,rfl,inv2⟩ N
   obtain ⟨hj,rfl⟩:=xU hx;cases N.int1;have N:=N.drop1;have jl:i+1+j<l.length:=⋯
   have NK:i<i+1+j:=⋯
   have U:=Qa hi;have hd:=Qa jl;have n1:(0:Int)+(i:Int)=((i:Nat):Int):=⋯
   have n2:(0:Int)+(i:Int)+1+(j:Int)=((i+1+j:Nat):Int):=⋯
   obtain ⟨p,hp,ep,p0,zp,_⟩:=dv.at' hi;obtain ⟨q,hq,eq,q0,zq,_⟩:=dv.at' jl;have s2:=dv.sum2 NB NK jl;have ai:=al_iff ru NB dv.good NK jl;have Z:=Jm (v:=ps) ru NB NK jl
   have alz:alP r l ps i (i+1+j)=zg (zJ r [l[i],l[i+1+j]]) (p+q):=by
    unfold alP zK;rw [ep,eq,Qj,Qj,Tu,zA U,zA hd]
   have T:=NB.two NK jl
   have ep2:zK (0,0,0) [i,i+1+j] l=[l[i],l[i+1+j]]:=by
    unfold zK;rw [Qj,Qj,Tu,zA U,zA hd]
   rw [ep2] at T;rw [ep,eq] at s2 ai;have x1:atI (ps.map frD) (0+(i:Int))=some (frD p):=by rw [n1];exact zW (by rw [Qh,hp];rfl)
   have x2:atI (ps.map frD) (0+(i:Int)+1+(j:Int))=some (frD q):=by rw [n2];exact zW (by rw [Qh,hq];rfl)
   have y1:atI (l.map zH) (0+(i:Int))=some (zH l[i]):=by rw [n1];exact zW (by rw [Qh,U];rfl)
   have y2:atI (l.map zH) (0+(i:Int)+1+(j:Int))=some (zH l[i+1+j]):=by rw [n2];exact zW (by rw [Qh,hd];rfl)
   generalize l[i]=c at*;generalize l[i+1+j]=d at*;left;refine zX N .mm x1 λw5 S5=>?_;left;refine zX S5 .mm x2 λw6 S6=>?_;left;rename_i w7 H7 e7 S7;refine nX S7 .mm (NC r).cl (OD r) (by decide+kernel) ?_;left;refine zX S7 .mm y1 λw8 S8=>?_;left;refine zX S8 .mm y2 λw9 S9=>?_;left;rename_i p10 Pe e10 NW;refine Uz NW.freeze .mm .mm .mm ru dp T (s2.2.2.mono nofun) s2.1 λRQ PV Ry NV=>?_;rw [<-alz] at NV
   obtain ⟨x,y,Y⟩:∃x y,alP r l ps i (i+1+j)=[x,y]:=by
    rcases h:alP r l ps i (i+1+j) with _|⟨x,_|⟨y,_|⟨z,t⟩⟩⟩<;>rw [h] at Z<;>simp at Z
    exact ⟨x,y,rfl⟩
   rw [Y] at NV ai;have Oc:Sta H G PV [] [(.tuple [frD x,frD y],RQ),(r.ins A,v0),(zj l,v1),(.list (ps.map frD),v2)]:=NV.dat ‹()›;clear S5 S6 S7 S8 S9 NW NV;left;refine zX Oc .mm x1 λw13 NU=>?_;left;refine zX NU .mm x2 λw14 OS=>?_;left;rename_i w15 H15 e15 Ow;refine tV (x:=zS [x,y]) (y:=zS [p,q]) (Ow.hp .mm) (Ow.hp .mm) (Ut _) (Ut _) ?_;rw [Ae];have Pk:Sta H G H15 [] [(.tuple [frD x,frD y],RQ),(r.ins A,v0),(zj l,v1),(.list (ps.map frD),v2)]:=Ow.dat ‹()›;clear Oc NU OS Ow;left;refine uv (λz=>?_) (λz=>?_)
   ·left;rename_i w17 Pj w18 RC w19 H19 e19 PU
    have f:FirstW r l ps i (i+1+j):=⟨NK,jl,λh=>z (ai.mpr h),λm g C s M=>by
     rcases M with M|⟨rfl,M⟩
     ·exact inv m g C s M
     ·exact inv2 g C s M⟩
    have hh:Vv r l ps i (i+1+j)= .tuple [.int (0+(i:Int)), .int (0+(i:Int)+1+(j:Int)),frD x,frD y]:=by
     unfold Vv;rw [Y,n2,n1];rfl
    have k3:=k2 i (i+1+j) f;rw [hh] at k3;exact Zo PU k3 .mm
   ·left;refine YE (Pk.dat ‹()›) ⟨⟨_,_,_,rfl⟩,rfl,rfl,λg C s M=>?_⟩
    by_cases e:g=i+1+j
    ·rw [e];exact ai.mp z
    ·exact inv2 g C s ⋯
  ·rintro σ H4 cs ds ⟨⟨L,I,D,rfl⟩,rfl,rfl,inv2⟩ N
   left;refine YE N ⟨⟨_,_,_,_,rfl⟩,rfl,rfl,λm g C s M=>?_⟩
   by_cases e:m=i
   ·subst e;exact inv2 g C s (by rw [yu];lia)
   ·exact inv m g C s ⋯
 ·rintro σ H3 cs ds ⟨⟨x3,L,I,D,rfl⟩,rfl,rfl,inv⟩ O
  left;exact k1 (λm g C s=>inv m g C s (by rw [yu];lia)) _ O.base
end
local macro_rules|`(tactic|walk_at "rd")=>`(tactic|first|fail "&189"|fail)
abbrev VS:Stmt:=top 101
def nG:FnScope ["_law_shape_here","_law_claims_here","_law_purse_here","_law_parts","_law_by","_law_part","_law_told","_law_due"] pae (zh VS):=yP
def CK {t:Nat} (B:Bl mg) (AF:Cal P w K mg base CX0 2 "_law_is_fraction" pax Bx) (XJ:Cal P w K mg base CX0 1 "_law_divisor" paq jb) (ZQ:Cal P w K mg base CX0 26 "_law_fits" paa (VH 12)):Coo P w K mg base "_law_right" VS 27 pae (cU t):=by
 walk_at "-nG";obtain ⟨⟨r,l,e⟩,hA,⟨⟨⟨pl,NO⟩,Z⟩,G,e0,hsz⟩,k⟩:=h;obtain ⟨v0,v1,v2,I,rfl,al⟩:=Lv hA;dsimp only at pl NO Z G e0 al hsz;have ok:=Z.ok pl.ht;have S:Sta H H H [] [(r.shape,v0),(zj l,v1),(frD e,v2),(zS (zg (zJ r l) e),I)]:=Sta.enter (zG.refl _) al;have g:=(pl.gf (l:=l) Z).good;have hlen:(zg (zJ r l) e).length=l.length:=g.std.len;have key:=λB (hB:0<B) de hd=>wV (B:=B) (e:=e) g hB e0 de hd;have few:=ok.few;generalize zg (zJ r l) e=ps at*;have hv:=S.hp (x:=zS ps) (v:=I) .mm;walk_at "=emIJLG9ba3b}tuple;cXpKowba3cwba1cjfiFnek4h2eH*a3A5emLGgba5cfiFnfk4q0a4gba4bh5ch5eT6_law_part,_law_by;14;*a3u0vqh00a1h0ek7стbqh20a4h2bqa412bC_law_claim;1;za1u0vh0ccempKo12ba6ca7jfiFnfigba0bC_law_claim,_law_by;14;za1u0vsbqa1h0bh0bh0cba6c";left;refine iG (by rw [Qb,Qb,hlen]) ?_;left;refine aL (xs:=ps.map frD) S .mm λJ wk=>?_
 refine Zu wk (λi σ cs ds=>∃(b:Int) (O N M:Option V),σ=[some v0,some v1,some v2,some I,some (.int b),O,N,M]/\cs=[]/\ds=[(r.shape,v0),(zj l,v1),(frD e,v2),(zS ps,I)]/\0<b/\Sz (6800+i*8900) b/\(e.den:Int)∣b/\∀j p,j<i->ps[j]? =some p->(p.den:Int)∣b) S
  ⟨(e.den:Int),none,none,none,rfl,rfl,rfl,den_pos e,G.2.mono ⋯,⟨1,by rw [jbG]⟩,λj p D=>absurd D (Nat.not_lt_zero _)⟩ (λi σ cs ds h=>?_) ?_ ?_
 ·obtain ⟨_,_,_,_,_,_,rfl,_⟩:=h;exact .mem (by right)
 ·rintro i x u σ H2 cs ds m ⟨b,O,N,M,rfl,rfl,rfl,b0,s,de,hd⟩ S2
  obtain ⟨p,hp,rfl⟩:=zM m;have y:=hsz p (Qd hp);have L:=den_pos p;have st:=um b0 L;left;refine Ku S2 .mm λH3 S3=>?_;have gp:0<Int.gcd b (p.den:Int):=jaR b ⋯
  have z:CDv b ((Int.gcd b (p.den:Int):Nat):Int):=⟨⋯,by
   refine (Sz.le y.2 ?_).mono nofun;have:=Nat.le_of_dvd ⋯ (Int.gcd_dvd_natAbs_right b (p.den:Int))
   lia⟩
  have qn:0<=b.fdiv ((Int.gcd b (p.den:Int):Nat):Int):=by
   rw [Td _ ⋯];exact Int.ediv_nonneg ⋯ ⋯
  have ql:b.fdiv ((Int.gcd b (p.den:Int):Nat):Int)<=b:=by
   rw [Td _ ⋯];exact Int.ediv_le_self _ ⋯
  have zq:=cv qn ql s;have hi:i<ps.length:=(Qf.mp hp).1;have o:IntMulOk (b.fdiv ((Int.gcd b (p.den:Int):Nat):Int)) (p.den:Int):=zq.mulOk y.2 ⋯;left;refine YE ((by assumption:Sta H H H3 [] _).dat ‹()›) ⟨_,_,_,_,rfl,rfl,rfl,st.1,(zq.mul y.2).mono ⋯,Int.dvd_trans de st.2.1,λj q D X=>?_⟩
  by_cases Y:j<i
  ·exact Int.dvd_trans (hd j q Y X) st.2.1
  ·have:j=i:=⋯
   subst this;rw [hp] at X;cases X;exact st.2.2
 rintro σ H2 cs ds ⟨b,O,N,M,rfl,rfl,rfl,b0,s,de,hd⟩ S2
 rw [Qb,hlen] at s;have s:Sz 80000 b:=s.mono ⋯
 have RJ:∀p∈ps,(p.den:Int)∣b:=λp hp=>by
  obtain ⟨j,D,rfl⟩:=QK hp;exact hd j _ (by rw [Qb];exact D) (Qa D)
 obtain ⟨ks,U⟩:=key b b0 de RJ
 have dq:∀d:Int,0<d->0<=b.fdiv d/\b.fdiv d<=b:=λd SA=>by
  rw [Td _ ⋯];exact ⟨Int.ediv_nonneg ⋯ ⋯,Int.ediv_le_self _ ⋯⟩
 left;refine aL (xs:=ps.map frD) S2 .mm λJ3 OI=>?_;refine xj OI (λj=> .int ((tkV b ps).getD j 0)) (ys:=(tkV b ps).map PyData.int) (by rw [Qb,show ps.length=(tkV b ps).length by unfold tkV;rw [Qb]];exact zv (λx=>PyData.int x) 0 _) S2 (λj x v=>λm t1 S hd=>?_) λD4 H4 e4 S4=>?_
 ·obtain ⟨p,hp,rfl⟩:=zM m;have y:=hsz p (Qd hp);have L:=den_pos p;have z:CDv b (p.den:Int):=⟨⋯,y.2.mono nofun⟩;have o:IntMulOk p.num (b.fdiv (p.den:Int)):=y.1.mulOk (cv (dq _ L).1 (dq _ L).2 s) nofun;refine zF ⟨rfl,?_⟩;left;refine hd (by assumption) ?_;rw [zA (show (tkV b ps)[j]? =some (p.num*b.fdiv (p.den:Int)) by unfold tkV;rw [Qh,hp];rfl)];exact Has.int
 have S5:=S4.freeze;have ed:=den_pos e;have RK:CDv b (e.den:Int):=⟨⋯,G.2.mono nofun⟩;have o1:IntMulOk e.num (b.fdiv (e.den:Int)):=G.1.mulOk (cv (dq _ ed).1 (dq _ ed).2 s) nofun;have o2:IntMulOk b (amV l).sum:=s.mulOk ok.am.sum.2 nofun;left;refine zZ (xs:=l.map zH) (by assumption) .mm λJ6 T=>?_;refine xj T (λj=> .int (l.getD j (0,0,0)).1) (ys:=(amV l).map PyData.int) (by unfold amV;rw [Qb,Qo];exact zv (λc:Cl=>PyData.int c.1) (0,0,0) l) (by assumption) (λj x v=>λm t1 S hd=>?_) λD6 H6 e6 S6=>?_
 ·obtain ⟨c,z,rfl⟩:=zM m;refine zF ⟨rfl,?_⟩;left;refine hd (by assumption) ?_;rw [zA z];exact Has.int
 left;refine iG ks ?_;have S7:=S6.freeze;left;refine zZ (xs:=l.map zH) S7 .mm λJ8 RP=>?_
 refine yg RP (λj=>zH ((λc:Cl=>((b*c.1,c.2):Cl)) (l.getD j (0,0,0)))) (ys:=(zN b l).map zH) (by
  unfold zN;rw [Qo,Qb];exact zv (λc:Cl=>zH ((b*c.1,c.2):Cl)) (0,0,0) l) S7 (λ_ _=> .mem (by right)) (by rw [Qb];lia) (λj x v B' G' Kd Kn m t1 S hd C ex s0 H0=>?_) λD8 H8 e8 S8=>?_
 ·obtain ⟨c,z,rfl⟩:=zM m;have o:IntMulOk b c.1:=s.mulOk (ok.sz c (Qd z)) nofun;refine zF ⟨rfl,?_⟩;left;refine hd (by assumption) ?_;rw [zA z];exact .mem (by right)
 left
 have A:∀x∈amV (zN b l),Sz (100000 - 300*12) x:=λx m=>by
  rw [xr] at m;obtain ⟨a,ha,rfl⟩:=Qk.mp m;exact (s.mul (ok.am.2 a ha).2).mono nofun
 refine Xz (r:=r) (l:=zN b l) (tk:=tkV b ps) S8.freeze .mm .mm .mm (by exact ⟨pl.pok,NO,nofun,by rw [yQ];exact few,A,U.len,λx m=>((U.inB.inS (by rw [zQ,yQ];exact few) A).1.2 x m).2⟩) λH9 e9 S9=>?_;rw [UJ.mpr U];exact k _ S9.base
section
variable {A:RAd}
abbrev ZU:Stmt:=top 104
def cy:FnScope ["_law_shape_here","_law_claims_here","_law_parts","_law_i","_law_j","_law_ones","_law_by","_law_told","_law_some"] pag (zh ZU):=yP
def KL (XJ:Cal P w K mg base CX0 1 "_law_divisor" paq jb) (ZQ:Cal P w K mg base CX0 26 "_law_fits" paa (VH 12)):Coo P w K mg base "_law_two_right" ZU 27 pag Bq:=by
 walk_at "-cy";obtain ⟨⟨⟨r,l,ps⟩,i,j⟩,hA,⟨⟨ru,_,dep,_,NB,dv⟩,NK,jl⟩,k⟩:=h;obtain ⟨v0,v1,v2,v3,v4,rfl,al⟩:=isAll5 hA;dsimp only at ru dep NB dv NK jl al k;have X:Sta H H H [] [(.int (j:Int),v4),(.int (i:Int),v3),(r.shape,v0),(zj l,v1),(.list (ps.map frD),v2)]:=(Sta.enter (zG.refl _) al).dat ‹()›;cases X.int1;have U:=X.drop1;cases U.int1;have S:=U.drop1;clear X U;have il:i<l.length:=⋯
 have ok:=NB.ok nofun;have I:=Qa il;have hd:=Qa jl;obtain ⟨p,hp,ep,p0,zp,_⟩:=dv.at' il;obtain ⟨q,hq,eq,q0,G,_⟩:=dv.at' jl
 have e2:zK (0,0,0) [i,j] l=[l[i],l[j]]:=by
  unfold zK;rw [Qj,Qj,Tu,zA I,zA hd]
 have e3:zK 0 [i,j] ps=[p,q]:=by
  unfold zK;rw [Qj,Qj,Tu,ep,eq]
 have zc:=ok.sz _ (Qd I);have zd:=ok.sz _ (Qd hd);have x1:atI (ps.map frD) (i:Int)=some (frD p):=zW (by rw [Qh,hp];rfl);have x2:atI (ps.map frD) (j:Int)=some (frD q):=zW (by rw [Qh,hq];rfl);have y1:atI (l.map zH) (i:Int)=some (zH l[i]):=zW (by rw [Qh,I];rfl);have y2:atI (l.map zH) (j:Int)=some (zH l[j]):=zW (by rw [Qh,hd];rfl)
 have rt:∀B:Int,0<B->(∀x∈[p,q],(x.den:Int)∣B)->rtB r l ps i j=aW r (zN B [l[i],l[j]]) (tkV B [p,q]):=λB b0 hd=>by
  refine jbv.mpr (JT.trans (Iff.trans ?_ (UJ.symm)));unfold Rt;rw [e2,e3];exact (HD b0 rfl hd).symm
 generalize l[i]=c at*;generalize l[j]=d at*;have s:=den_pos p;have qd:=den_pos q;have st:=um s qd;have gp:0<Int.gcd (p.den:Int) (q.den:Int):=jaR _ ⋯
 have NH:CDv (p.den:Int) ((Int.gcd (p.den:Int) (q.den:Int):Nat):Int):=⟨⋯,by
  refine (Sz.le G.2 ?_).mono nofun;have:=Nat.le_of_dvd ⋯ (Int.gcd_dvd_natAbs_right (p.den:Int) (q.den:Int))
  lia⟩
 have qn:0<=(p.den:Int).fdiv ((Int.gcd (p.den:Int) (q.den:Int):Nat):Int):=by
  rw [Td _ ⋯];exact Int.ediv_nonneg ⋯ ⋯
 have ql:(p.den:Int).fdiv ((Int.gcd (p.den:Int) (q.den:Int):Nat):Int)<=(p.den:Int):=by
  rw [Td _ ⋯];exact Int.ediv_le_self _ ⋯
 have zl:=cv qn ql zp.2;have o0:IntMulOk ((p.den:Int).fdiv ((Int.gcd (p.den:Int) (q.den:Int):Nat):Int)) (q.den:Int):=zl.mulOk G.2 nofun;walk_at "=ek5Dbla2a3bla2a4cek6q0lh5dgblh5dblh5dclh5deT7_law_one,_law_by;16;za5u0vqh00a1h0eT8_law_k,_law_claims_here,_law_by;116;*sba3ba4cu0vsbqa2lla1a0dblla1a0dblla1a0dcfigba0ba8ba7c";left;refine zX S .mm x1 λw5 N=>?_;left;refine zX N .mm x2 λw6 M=>?_;left;rename_i p7 H7 e7 y;have L:Sta H H H7 [] [(.list ([p,q].map frD), .ref p7),(r.shape,v0),(zj l,v1),(.list (ps.map frD),v2)]:=y.freeze.dat ‹()›;clear y M N S;refine zX L .mm rfl λw9 J=>?_;left;have Y:Sta H H H7 [] [(.list ([p,q].map frD), .ref p7),(r.shape,v0),(zj l,v1),(.list (ps.map frD),v2)]:=J.dat ‹()›;clear L J;have u:=(zl.mul G.2).mono (show 4499+4499<=9000 by decide);generalize (p.den:Int).fdiv ((Int.gcd (p.den:Int) (q.den:Int):Nat):Int)*(q.den:Int)=D at*
 have RJ:∀x∈[p,q],(x.den:Int)∣D:=λx g=>by
  rcases Qn.mp g with rfl|g
  ·exact st.2.1
  ·rw [Qp.mp g];exact st.2.2
 have Z:∀x∈[p,q],SzQ 4499 x:=λx g=>by
  rcases Qn.mp g with rfl|g
  ·exact zp
  ·rw [Qp.mp g];exact G
 have dq:∀d:Int,0<d->0<=D.fdiv d/\D.fdiv d<=D:=λd SA=>by
  have:=st.1;rw [Td _ ⋯];exact ⟨Int.ediv_nonneg ⋯ ⋯,Int.ediv_le_self _ ⋯⟩
 refine zZ Y .mm λJ3 OI=>?_;refine yg OI (λj=> .int ((tkV D [p,q]).getD j 0)) rfl Y (λ_ _=> .mem (by right)) (by show 2<=1000;decide) (λj x v B' G' Kd Kn g t1 S hd C ex s0 H0=>?_) λD4 H4 e4 T=>?_
 ·obtain ⟨z,t,rfl⟩:=zM g;have zz:=Z z (Qd t);have s:=den_pos z;have I:CDv D (z.den:Int):=⟨⋯,zz.2.mono nofun⟩;have o:IntMulOk z.num (D.fdiv (z.den:Int)):=zz.1.mulOk (cv (dq _ s).1 (dq _ s).2 u) nofun;refine zF ⟨rfl,?_⟩;left;refine hd (by assumption) ?_;rw [zA (show (tkV D [p,q])[j]? =some (z.num*D.fdiv (z.den:Int)) by unfold tkV;rw [Qh,t];rfl)];exact Has.int
 have N:=T.freeze;clear T Y;left;rename_i p6 H6 e6 M;have y:Sta H H H6 [] [(.tuple ([i,j].map λ(k:Nat)=>PyData.int (k:Int)), .ref p6),(xu (tkV D [p,q]), .ref D4),(r.shape,v0),(zj l,v1),(.list (ps.map frD),v2)]:=M.dat ‹()›;clear M N;refine aL y .mm λJ8 RP=>?_;refine yg RP (λn=>zH ((zN D [c,d]).getD n (0,0,0))) rfl y (λ_ _=> .mem (by right)) (by show 2<=1000;decide) (λn x v B' G' Kd Kn g t1 S hd C ex s0 H0=>?_) λD8 H8 e8 L=>?_
 ·obtain ⟨m,hm,rfl⟩:=zM g;cases S.int1
  obtain ⟨z,t,O,zz⟩:∃z:Cl,[c,d][n]? =some z/\atI (l.map zH) (m:Int)=some (zH z)/\Sz 160 z.1:=by
   match n,hm with
   |0,hm=>cases hm;exact ⟨c,rfl,y1,zc⟩
   |1,hm=>cases hm;exact ⟨d,rfl,y2,zd⟩
  have o:IntMulOk D z.1:=u.mulOk zz nofun;refine zF ⟨rfl,?_⟩;left;refine zX S .mm O λw2 S2=>?_;left;refine zX S2 .mm O λw3 S3=>?_;left;refine zX S3 .mm O λw4 T=>?_;left;refine hd (by assumption) ?_;rw [zA (show (zN D [c,d])[n]? =some (D*z.1,z.2) by unfold zN;rw [Qh,t];rfl)];exact .mem (by right)
 left;rw [rt D st.1 RJ] at k;refine Xz (r:=r) (l:=zN D [c,d]) (tk:=tkV D [p,q]) L.freeze .mm .mm .mm ⟨ru.pok,dep,nofun,by show 2<=8;decide,λx g=>?_,rfl,λx g=>?_⟩ λH9 e9 J=>?_
 ·rw [xr] at g;have g:x∈[D*c.1,D*d.1]:=g
  rcases Qn.mp g with rfl|g
  ·exact (u.mul zc).mono nofun
  ·rw [Qp.mp g];exact (u.mul zd).mono nofun
 ·obtain ⟨z,t,rfl⟩:=Qk.mp g;have s:=den_pos z;exact ((Z z t).1.mul (cv (dq _ s).1 (dq _ s).2 u)).mono nofun
 ·exact k _ J.base
abbrev aB:Stmt:=top 105
def qH:FnScope ["_law_shape_here","_law_claims_here","_law_parts","_law_found","_law_wrong","_law_i","_law_j","_law_one","_law_two","_law_top","_law_purse_here"] pah (zh aB):=yP
def Kqn {n:Nat} {K:Frg} {t:TGs} {σ:L2.St} {N:L2.St->Hp->Prop} {x y z r:PyData} (S:Sta B G0 H cs ds) (h:Has ds (.tuple [x,y,z,r]) v) (e:n=4) (k:∀q p m g,Sta B G0 H cs ((x,q)::(y,p)::(z,m)::(r,g)::ds)->t [q,p,m,g] σ H N):kGT K n t σ N v H:=by
 subst e;exact Kq S h k
def wj (B:Bl mg) (ER:Cal P w K mg base CX0 27 "_law_two_right" pag Bq) (sW:Cal P w K mg base CX0 1 "_law_whole" pax VG) (cu:Cal P w K mg base CX0 2 "_law_lowest" paw WZ) (sX:Cal P w K mg base CX0 27 "_law_right" pae (cU 33)):Coo P w K mg base "_law_pair" aB 28 pah kr:=by
 walk_at "-qH";obtain ⟨r,l,ps,v0,v1,v2,C,rfl,hA,pr,N,k⟩:=h;obtain ⟨_,_,_,e,al⟩:=Yc hA;cases e;have few:=(pr.cl.ok nofun).few
 obtain ⟨Y,S⟩:∃Y:PyData,Sta H H H [] [(Y,C),(r.shape,v0),(zj l,v1),(.list (ps.map frD),v2)]/\((C= .non/\∀i j,i<j->j<l.length->Rt r l ps i j)\/∃i j,FirstW r l ps i j/\Y=Vv r l ps i j):=by
  rcases N with ⟨rfl,h⟩|⟨i,j,f,hv⟩
  ·exact ⟨.none,Sta.enter (zG.refl _) (al.cons (by rw [Is])), .inl ⟨rfl,h⟩⟩
  ·exact ⟨_,Sta.enter (zG.refl _) (al.cons hv), .inr ⟨i,j,f,rfl⟩⟩
 obtain ⟨S,N⟩:=S;walk_at "=ek4DceH@bwba1ccA5fHπbxa5dbwba1ccA6fmLGgba0ba1ba2ba5ba6cfEαa4bsba5ba6ccnemуa3;jfi~towba4cdjnemIJLG9ba3b}tuple;cJpKowba3cdjXptowba4cdjfiFne^a3OyA5yA6yA7yA8PemIJLGgba5cJLGgba6cXpKosba5ba6ch4jfiFnek9xqlla2a5dlla2a6dqlla2a6dlla2a5dekagba9bqlla2a5dlla2a6dcfigba0bDbla1a5bla1a6cbaabsba7ba8cc";left;rename_i O H4 e4 S4;rw [Qb];refine jq H H ⋯ ⋯ λJ wk=>?_;refine Zu wk (λi σ cs ds=>∃(W:List (Nat×Nat)) (x5 I:Option V),σ=[some v0,some v1,some v2,some C,some (.ref O),x5,I,none,none,none,none]/\cs=[(O,W.map prD)]/\ds=[(Y,C),(r.shape,v0),(zj l,v1),(.list (ps.map frD),v2)]/\Jn r l ps (λm _=>m<i) W/\W.length<=8*i) S4 ⟨[],none,none,rfl,rfl,rfl, .inl ⟨rfl,λi j _ _ h=>absurd h (Nat.not_lt_zero _)⟩,Qs _⟩ (λ_ _ _ _ _=>trivial) ?_ ?_
 ·rintro i x u σ H5 cs ds hx ⟨W,x5,I,rfl,rfl,rfl,inv,wl⟩ G
  obtain ⟨hi,rfl⟩:=xU hx;cases G.int1;have G:=G.drop1;have hi:i<l.length:=⋯
  left;rw [Qb];refine II H H ⋯ ⋯ λJ2 Pf=>?_;refine Zu Pf (λj σ cs ds=>∃(W:List (Nat×Nat)) (I:Option V),σ=[some v0,some v1,some v2,some C,some (.ref O),some (.int (0+(i:Int))),I,none,none,none,none]/\cs=[(O,W.map prD)]/\ds=[(Y,C),(r.shape,v0),(zj l,v1),(.list (ps.map frD),v2)]/\Jn r l ps (λm M=>m<i\/(m=i/\M<i+1+j)) W/\W.length<=8*i+j) G ⟨W,_,rfl,rfl,rfl,inv.imp λm M a b c=> .inl ⋯,⋯⟩ (λ_ _ _ _ _=>trivial) ?_ ?_
  ·rintro j x u σ H6 cs ds hx ⟨W,I,rfl,rfl,rfl,inv,wl⟩ s
   obtain ⟨hj,rfl⟩:=xU hx;cases s.int1;have s:=s.drop1;have jl:i+1+j<l.length:=⋯
   have n1:(0:Int)+(i:Int)=((i:Nat):Int):=⋯
   have n2:(0:Int)+(i:Int)+1+(j:Int)=((i+1+j:Nat):Int):=⋯
   left;rw [n2,n1];refine JY (i:=i) (j:=i+1+j) s .mm .mm .mm pr ⋯ jl λH7 e7 T=>?_;generalize hb:rtB r l ps i (i+1+j)=bb
   cases bb with
   |true=>
    left;refine YE T ⟨W,_,rfl,rfl,rfl,inv.imp λm M a b c=>?_,⋯⟩
    by_cases z:m=i/\M=i+1+j
    ·rw [z.1,z.2];exact .inr (JT.mp hb)
    ·exact .inl ⋯
   |false=>
    left;rename_i p8 H8 e8 S8;refine YU (y:=prD (i,i+1+j)) S8 (by unfold prD;rw [<-n2,<-n1];exact .mem (by right)) (by rw [Qb];lia) λH9 S9=>?_;left;refine YE (S9.dat ‹()›) ⟨W++[(i,i+1+j)],_,rfl,by rw [Ts];rfl,rfl,inv.app ⋯ jl (λh=>by rw [JT.mpr h] at hb;exact Bool.noConfusion hb) (λm M h=>h),by rw [QM];show _+1<=_;lia⟩
  ·rintro σ H6 cs ds ⟨W,I,rfl,rfl,rfl,inv,wl⟩ s
   rw [yu] at inv wl;left;refine YE s ⟨W,_,_,rfl,rfl,rfl,inv.imp λm M a b c=> .inl ⋯,⋯⟩
 rintro σ H5 cs ds ⟨W,x5,I,rfl,rfl,rfl,inv,wl⟩ G
 rw [yu] at inv
 rcases N with ⟨rfl,all⟩|⟨i,j,fw,rfl⟩
 ·left;refine ⟨rfl,?_⟩;left
  have e:W=[]:=by
   rcases inv with ⟨e,_⟩|⟨i,j,D,_,f⟩
   ·exact e
   ·exact absurd (all i j f.ij f.jl) f.bad
  subst e;refine yH (λ_=>?_) (λh=>absurd rfl h);left;exact k _ G.base
 ·have ij:=fw.ij;have jl:=fw.jl;have il:i<l.length:=⋯
  have X:=Jm (v:=ps) pr.ru pr.cl ij jl
  obtain ⟨x,y,U⟩:∃x y,alP r l ps i j=[x,y]:=by
   rcases h:alP r l ps i j with _|⟨x,_|⟨y,_|⟨z,t⟩⟩⟩<;>rw [h] at X<;>simp at X
   exact ⟨x,y,rfl⟩
  obtain ⟨D,rfl⟩:∃D,W=(i,j)::D:=by
   rcases inv with ⟨_,h⟩|⟨m,M,D,e,f⟩
   ·exact absurd (h i j ij jl il) fw.bad
   ·obtain ⟨a,b⟩:=fw.uniq f;exact ⟨D,by rw [e,a,b]⟩
  have s:Sta H H H5 [(O,((i,j)::D).map prD)] [(.tuple [.int (i:Int), .int (j:Int),frD x,frD y],C),(r.shape,v0),(zj l,v1),(.list (ps.map frD),v2)]:=by
   have:=G;unfold Vv at this;rw [U] at this;exact this
  have hv:=s.hp (x:= .tuple [.int (i:Int), .int (j:Int),frD x,frD y]) (v:=C) .mm;have Rf:=hv;rw [Is] at Rf;obtain ⟨rf,_,e3,_⟩:=Rf;subst e3;clear G;left;refine ⟨rfl,?_⟩;left;refine yH (λh=>by cases h) (λ_=>?_);left;refine iG rfl ?_;left;refine yH (λh=>absurd h (by rw [Qj,QE];lia)) (λ_=>?_);left;refine Kqn s .mm (by kernel_rfl) λw1 w2 w3 w4 T=>?_;cases T.int1;cases T.drop1.int1;have S8:Sta H H H5 [(O,((i,j)::D).map prD)] [(frD x,w3),(frD y,w4),(r.shape,v0),(zj l,v1),(.list (ps.map frD),v2)]:=T.dat ‹()›;clear T s;left;rename_i p9 H9 e9 S9;refine Wz (x:=prD (i,j)) S9 (by right) (show atI (((i,j)::D).map prD) ((0:Nat):Int)=some (prD (i,j)) from zW rfl) λOP NW=>?_;have ly:(prD (i,j)).canLay0=true:=by unfold prD;simp [PyData.canLay0,PyData.canLayAll0]
  have sh:SeqAt.shaped (prD (i,j))=true:=YN (n:=2) ly (by unfold prD;simp only [PyData.depth,PyData.depthAll];decide) nofun;refine tV (x:=prD (i,j)) (y:=prD (i,j)) (NW.hp (by unfold prD;exact .mem (by right))) (NW.hp .mm) sh sh ?_;rw [SeqAt.eqv_refl _ ly];have NV:Sta H H H9 [] [(frD x,w3),(frD y,w4),(r.shape,v0),(zj l,v1),(.list (ps.map frD),v2)]:=NW.weak (by walk_at "sub") ‹()›;clear S8 S9 NW sh ly;have hc:=Qa il;have hd:=Qa jl;obtain ⟨p,hp,ep,p0,zp,_⟩:=pr.dv.at' il;obtain ⟨q,hq,eq,q0,Z,_⟩:=pr.dv.at' jl;have s2:=pr.dv.sum2 pr.cl ij jl;have L:=pr.cl.two ij jl
  have e2:zK (0,0,0) [i,j] l=[l[i],l[j]]:=by
   unfold zK;rw [Qj,Qj,Tu,zA hc,zA hd]
  have alz:zg (zJ r [l[i],l[j]]) (p+q)=[x,y]:=by
   rw [<-U];unfold alP;rw [ep,eq,e2]
  rw [e2] at L;rw [ep,eq] at s2;have x1:atI (ps.map frD) (i:Int)=some (frD p):=zW (by rw [Qh,hp];rfl);have x2:atI (ps.map frD) (j:Int)=some (frD q):=zW (by rw [Qh,hq];rfl);have y1:atI (l.map zH) (i:Int)=some (zH l[i]):=zW (by rw [Qh,hc];rfl);have y2:atI (l.map zH) (j:Int)=some (zH l[j]):=zW (by rw [Qh,hd];rfl);have o1:IntMulOk p.num (q.den:Int):=zp.1.mulOk Z.2 nofun;have o2:IntMulOk q.num (p.den:Int):=Z.1.mulOk zp.2 nofun;have o3:IntMulOk (p.den:Int) (q.den:Int):=zp.2.mulOk Z.2 nofun;generalize l[i]=c at*;generalize l[j]=d at*;left;refine zX (xs:=ps.map frD) (x:=frD p) NV .mm x1 λOC Oc=>?_;left;refine zX (xs:=ps.map frD) (x:=frD q) Oc .mm x2 λw13 NU=>?_;left;refine zX (xs:=ps.map frD) (x:=frD q) NU .mm x2 λw14 OS=>?_;left;refine zX (xs:=ps.map frD) (x:=frD p) OS .mm x1 λw15 Ow=>?_;left;refine zX (xs:=ps.map frD) (x:=frD p) Ow .mm x1 λw16 Pk=>?_;left;refine zX (xs:=ps.map frD) (x:=frD q) Pk .mm x2 λw17 Pj=>?_;left;refine vQ Pj (Int.mul_pos (den_pos _) (den_pos _)) (aU zp Z nofun) λw18 H18 e18 g=>?_;rw [mH] at g;have RC:Sta H H H18 [] [(frD (p+q),w18),(frD x,w3),(frD y,w4),(r.shape,v0),(zj l,v1),(.list (ps.map frD),v2)]:=g.dat ‹()›;clear NV Oc NU OS Ow Pk Pj g;left;refine zX (xs:=l.map zH) (x:=zH c) RC .mm y1 λw19 PU=>?_;left;refine zX (xs:=l.map zH) (x:=zH d) PU .mm y2 λw20 RN=>?_;left;rename_i p21 H21 e21 PR p22 H22 e22 SO;have den:=pr.den;have s6:SzQ 6800 (p+q):=s2.2.2.mono nofun;refine nU (r:=r) (l:=[c,d]) (e:=p+q) SO.freeze .mm .mm .mm (by rw [alz];exact .mem (by right)) pr.ru pr.dep L s6 s2.1 (λz hz=>(pr.ru.part L s2.2.1 s2.1 z hz).2.mono ⋯) λH23 e23 RM=>?_;exact k _ RM.base
end
section
variable {A:RAd}
abbrev VU:Stmt:=top 103
def nI:FnScope ["_law_claims_here","_law_parts","_law_cell","_law_number","_law_i","_law_j","_law_room","_law_most","_law_found"] pas (zh VU):=yP
def Gz (B:Bl mg) (cu:Cal P w K mg base CX0 2 "_law_lowest" paw WZ):Coo P w K mg base "_law_moved" VU 3 pas ku:=by
 walk_at "-nI";obtain ⟨G,⟨l,ps,cell⟩,eG,hA,⟨X,l2,U⟩,k⟩:=h;obtain ⟨v0,v1,v2,rfl,al⟩:=Yc hA;dsimp only at X l2 U al k;have S0:Sta H G H [] [(.int cell,v2),(zj l,v0),(.list (ps.map frD),v1)]:=(Sta.enter eG al).dat ‹()›;cases S0.int1;have S:=S0.drop1;clear S0;have ok:=X.ok nofun;have few:=ok.few;have hl:=U.good.1;have dv:=U.dv X;walk_at "=ek3Ba25ddek4Va3wba0cek5Vxxa4dVNa3dSwba0cdwba0cek6gbSqlla0a5dlla1a5dlla1a5dblla1a5dcek7la1a4emZqh6h7qh7h6jfk7a6nek7gbqh7xdBNa3ddbqh7dcek8Yba1ce^gbSqlla1a4dh7qh7lla1a4dbqlla1a4dh7c{a8a4e^gbxqlla1a5dh7qh7lla1a5dbqlla1a5dh7c{a8a5fia8";left;rw [Qb];have e9:(0:Int)<=cell % 10 ^ Int.toNat 9:=TZ _ nofun;generalize cell % 10 ^ Int.toNat 9=N at*
 obtain ⟨i,il,ei⟩:∃i:Nat,i<l.length/\N.fmod (l.length:Int)=(i:Int):=by
  rw [QZ _ ⋯];have h1:=TM N (show (0:Int)<l.length by lia);have h2:=TZ N (show (l.length:Int)≠0 by lia);exact ⟨(N % (l.length:Int)).toNat,⋯,⋯⟩
 obtain ⟨m,ml,em⟩:∃m:Nat,m+1<l.length/\(N / 8).fmod ((l.length:Int) - 1)=(m:Int):=by
  rw [QZ _ ⋯];have h1:=TM (N / 8) (show (0:Int)<(l.length:Int) - 1 by lia);have h2:=TZ (N / 8) (show (l.length:Int) - 1≠0 by lia);exact ⟨(N / 8 % ((l.length:Int) - 1)).toNat,⋯,⋯⟩
 obtain ⟨j,jl,ij,ej⟩:∃j:Nat,j<l.length/\i≠j/\((i:Int)+1+(m:Int)).fmod (l.length:Int)=(j:Int):=by
  rw [QZ _ ⋯]
  by_cases z:i+1+m<l.length
  ·exact ⟨i+1+m,z,⋯,by rw [Int.emod_eq_of_lt ⋯ ⋯];lia⟩
  ·refine ⟨i+1+m - l.length,⋯,⋯,?_⟩;have e:(i:Int)+1+(m:Int)=((i+1+m - l.length:Nat):Int)+(l.length:Int):=⋯
   rw [e,Int.add_emod_right,Int.emod_eq_of_lt ⋯ ⋯]
 refine ⟨_,_,rfl,rfl,⋯,?_⟩;rw [show (λi j:Int=>V.int (i.fmod j)) N (l.length:Int)=V.int (i:Int) from congrArg V.int ei];left;rw [Qb];refine ⟨_,_,rfl,rfl,⋯,?_⟩;rw [show (λi j:Int=>V.int (i.fmod j)) (N / 8) ((l.length:Int) - 1)=V.int (m:Int) from congrArg V.int em];left;rw [Qb];refine ⟨_,_,rfl,rfl,⋯,?_⟩;rw [show (λi j:Int=>V.int (i.fmod j)) ((i:Int)+1+(m:Int)) (l.length:Int)=V.int (j:Int) from congrArg V.int ej];left;obtain ⟨p,hp,ep,p0,I,pm⟩:=dv.at' il;obtain ⟨q,hq,eq,q0,Y,qm⟩:=dv.at' jl;have hc:=Qa il;have hd:=Qa jl;have gq:=U.good.2 j _ _ hd hq;have dp:=U.dq p pm;have dq:=U.dq q qm;have zc:=ok.sz _ (Qd hd);have am:l[j].1∈amV l:=Qk.mpr ⟨_,Ta _,rfl⟩;have cle:=jaH (YV (ZH X.n1) _ am) X.sum;have c0:=ZH X.n1 _ am;have x1:atI (ps.map frD) (i:Int)=some (frD p):=zW (by rw [Qh,hp];rfl);have Z:atI (ps.map frD) (j:Int)=some (frD q):=zW (by rw [Qh,hq];rfl);have y2:atI (l.map zH) (j:Int)=some (zH l[j]):=zW (by rw [Qh,hd];rfl);have fin:=λ(M:Rat) (m0:0<=M) (mp:M<=p) (mq:M<=(l[j].1:Rat) - q) (dm:DQ 2195 M)=>And.intro (GN U X ij hp hq hc hd m0 mp mq dm) (Di (m:=M) ij hp hq);generalize l[j]=c at*;have o1:IntMulOk c.1 (q.den:Int):=zc.mulOk Y.2 nofun;refine zX (xs:=l.map zH) (x:=zH c) S .mm y2 λw5 S5=>?_;left;refine zX (xs:=ps.map frD) (x:=frD q) S5 .mm Z λw6 S6=>?_;left;refine zX (xs:=ps.map frD) (x:=frD q) S6 .mm Z λw7 S7=>?_;left;refine zX (xs:=ps.map frD) (x:=frD q) S7 .mm Z λw8 S8=>?_;left;refine Zr S8 (den_pos q) (Y.2.mono nofun) λw9 H9 e9' O=>?_
 have er:Rat.divInt (c.1*(q.den:Int) - q.num) (q.den:Int)=(c.1:Rat) - q:=by
  have:=jZ (c.1:Rat) q;rw [show ((c.1:Rat)).num=c.1 from rfl,show (((c.1:Rat)).den:Int)=1 from rfl,jbG,Int.one_mul] at this;exact this
 rw [er] at O;have rm0:0<=(c.1:Rat) - q:=by grind
 have dr:DQ 2193 ((c.1:Rat) - q):=((DQ.int c.1).sub dq).mono nofun;have zr:SzQ 2300 ((c.1:Rat) - q):=(dr.sz rm0 (show (c.1:Rat) - q<=(c.1:Rat) by grind) c0 cle).mono nofun;have zp2:SzQ 4499 p:=I;generalize hR:(c.1:Rat) - q=R at*;have S9:Sta H G H9 [] [(frD R,w9),(zj l,v0),(.list (ps.map frD),v1)]:=O.dat ‹()›;clear S5 S6 S7 S8 O S;left;refine zX (xs:=ps.map frD) (x:=frD p) S9 .mm x1 λOP NW=>zF (FW ?_);refine FL (AtP H G (λσ cs ds=>∃(M:Rat) (w:V),σ=[some v0,some v1,some (.int cell),some (.int N),some (.int (i:Int)),some (.int (j:Int)),some w9,some w,none]/\cs=[]/\ds=[(frD M,w),(zj l,v0),(.list (ps.map frD),v1)]/\0<=M/\M<=p/\M<=R/\DQ 2193 M/\SzQ 4499 M)) ?_ (λnxt=>?_)
 rotate_left
 ·have o2:IntMulOk R.num (p.den:Int):=zr.1.mulOk I.2 nofun;have o3:IntMulOk p.num (R.den:Int):=I.1.mulOk zr.2 nofun;left;have Ny:=Rat.lt_iff R p;refine yH (λz=>?_) (λz=>?_)
  ·refine rd_asg (rd_var rfl (zF (FW ?_)));exact nxt _ _ (YE (NW.dat ‹()›) ⟨R,w9,rfl,rfl,rfl,rm0,QQ (Ny.mpr z),Tg,dr,zr.mono nofun⟩)
  ·exact Kg (FW (nxt _ _ (YE (NW.dat ‹()›) ⟨p,OP,rfl,rfl,rfl,p0,Tg,TX.mp λy=>z (Ny.mp y),dp,I⟩)))
 clear NW S9
 rintro σ PV ⟨cs,ds,NV,M,RQ,rfl,rfl,rfl,m0,mp,mr,dm,zm⟩
 have k1:1<=1+N / 56 % 3/\1+N / 56 % 3<=3:=⋯
 left;generalize 1+N / 56 % 3=C at*;have zk:Sz 3 C:=by unfold Sz;lia
 have o4:IntMulOk M.num C:=zm.1.mulOk zk nofun;have o5:IntMulOk (M.den:Int) 3:=zm.2.mulOk (show Sz 3 3 by unfold Sz;decide) nofun;left;refine Zr (by assumption) (Int.mul_pos (den_pos M) nofun) ((zm.2.mul (show Sz 3 3 by unfold Sz;decide)).mono nofun) λOC RD e12 u=>?_
 have e3:Rat.divInt C 3*((3:Int):Rat)=(C:Rat):=by
  rw [Rat.divInt_eq_div];exact Rat.div_mul_cancel (by decide+kernel)
 have em':Rat.divInt (M.num*C) ((M.den:Int)*3)=M*Rat.divInt C 3:=by
  rw [<-jaG,jbs]
 rw [em'] at u;have dm':DQ 2195 (M*Rat.divInt C 3):=dm.third;have t3:((3:Int):Rat)=3:=rfl;have k1':(1:Rat)<=(C:Rat)/\(C:Rat)<=3:=⟨QH.mpr k1.1,QH.mpr k1.2⟩;rw [t3] at e3;generalize hT:Rat.divInt C 3=T at*;have T0:0<=T:=by grind
 have T1:T<=1:=by grind
 have mm0:0<=M*T:=QN m0 T0
 have mm1:M*T<=M:=by
  have:=QN m0 (show 0<=1 - T by grind)
  grind
 generalize M*T=D at*;have good:=fin D mm0 (by grind) (by grind) dm';have J:SzQ 2300 D:=(dm'.sz mm0 (show D<=(c.1:Rat) by grind) c0 cle).mono nofun;have Oc:Sta H G RD [] [(frD D,OC),(zj l,v0),(.list (ps.map frD),v1)]:=u.dat ‹()›;clear NV u;have a1:IntMulOk p.num (D.den:Int):=I.1.mulOk J.2 nofun;have a2:IntMulOk D.num (p.den:Int):=J.1.mulOk I.2 nofun;have a3:IntMulOk (p.den:Int) (D.den:Int):=I.2.mulOk J.2 nofun;have b1:IntMulOk q.num (D.den:Int):=Y.1.mulOk J.2 nofun;have b2:IntMulOk D.num (q.den:Int):=J.1.mulOk Y.2 nofun;have b3:IntMulOk (q.den:Int) (D.den:Int):=Y.2.mulOk J.2 nofun;left;rename_i L H13 e13 NU;clear Oc;refine zX (xs:=ps.map frD) (x:=frD p) NU .mm x1 λw14 OS=>?_;left;refine zX (xs:=ps.map frD) (x:=frD p) OS .mm x1 λw15 Ow=>?_;left;refine zX (xs:=ps.map frD) (x:=frD p) Ow .mm x1 λw16 Pk=>?_;left;refine Zr Pk (Int.mul_pos (den_pos p) (den_pos D)) ((I.2.mul J.2).mono nofun) λw17 H17 e17 s=>?_;rw [jZ] at s;have Pj:Sta H G H17 [(L,ps.map frD)] [(frD (p - D),w17),(frD D,OC),(zj l,v0),(.list (ps.map frD),v1)]:=s.dat ‹()›;clear NU OS Ow Pk s;left;refine qR (j:=i) (y:=frD (p - D)) Pj .mm (rL (by rw [Qb,hl];exact il)) λH18 r=>?_;rw [<-List.map_set] at r;have RC:Sta H G H18 [(L,(ps.set i (p - D)).map frD)] [(frD D,OC),(zj l,v0),(.list (ps.map frD),v1)]:=r.dat ‹()›;clear Pj r;left;refine zX (xs:=ps.map frD) (x:=frD q) RC .mm Z λw19 PU=>?_;left;refine zX (xs:=ps.map frD) (x:=frD q) PU .mm Z λw20 RN=>?_;left;refine zX (xs:=ps.map frD) (x:=frD q) RN .mm Z λw21 PR=>?_;left;refine Zr PR (Int.mul_pos (den_pos q) (den_pos D)) ((Y.2.mul J.2).mono nofun) λw22 H22 e22 g=>?_;rw [mH] at g;have SO:Sta H G H22 [(L,(ps.set i (p - D)).map frD)] [(frD (q+D),w22),(zj l,v0),(.list (ps.map frD),v1)]:=g.dat ‹()›;clear RC PU RN PR g;left;refine qR (j:=j) (y:=frD (q+D)) SO .mm (rL (by rw [Qb,jaF,hl];exact jl)) λH23 RM=>?_;rw [<-List.map_set] at RM;left;exact ret_Lx RM ⟨_,rfl,good⟩ k
end
section
variable {A:RAd}
abbrev kR:Stmt:=top 106
def sc_law:FnScope ["_law_script","_law_first","_law_many","_law_claims_here","_law_shape_here","_law_rule","_law_purse_here","_law_parts","_law_away","_law_due","_law_others","_law_found"] ["_law_script"] (zh kR):=yP
def ok_law {fS fT fQ ZG:Addr} {fdQ:FuncData} (B:Bl mg) (NC:∀r:Rl,ROk K fS fT ZG (A.cls r)) (OD:∀r:Rl,Meth K (A.cls r) "parts" fQ) (Yv:FnOk P w K mg base CX0 24 fQ fdQ pai (Up A 33 7)) (xK:yp K fdQ pai []) (mQ:Cal P w K mg base CX0 1 "_law_cell_at" paA (tN K)) (Jz:Cal P w K mg base CX0 2 "_law_claims" pam (dQ K)) (Me:Cal P w K mg base CX0 2 "_law_shape" paM tJ) (AE:Cal P w K mg base CX0 8 "_law_text" paL (kA 7)) (Jw:Cal P w K mg base CX0 20 "read" ["text"] (Bt A 7)) (Mf:Cal P w K mg base CX0 3 "_law_purse" paG kq) (sX:Cal P w K mg base CX0 27 "_law_right" pae (cU 33)) (MX:Cal P w K mg base CX0 25 "staying" paD (Bs A 33 7)) (Mo:Cal P w K mg base CX0 25 "pair_off" paS (qw A 7)) (Mg:Cal P w K mg base CX0 3 "_law_moved" pas ku) (Mp:Cal P w K mg base CX0 28 "_law_pair" pah kr) (F:Fun K "law" "law" kR f fd):FnOk P w K mg base CX0 29 f fd ["_law_script"] (FF K):=by
 walk_at "+sc_law";obtain ⟨a,ns,rfl,hS,hlen,_,q⟩:=h;have S:Sta H H H [] []:=Sta.enter (zG.refl _) λp hp=>absurd hp Qm;walk_at "=ek1gba0bdcek2xdBa1dek3gba0bdba2blDbdb5ddcBNa1ddcek4gb7a0UdUdbFcek5gbgba4ccek6gb12bC_law_claim;1;za3u0vh0cbgba0bdccek7.a5,bYba3cba6cemLGgba4ba3ba6ba7cfiFnek8C_law_cell,_law_many;12;z7a0Uxda2Uxxda2BNa1ddu0vVa0a1eT9_law_place,_law_parts,_law_away;178;@ba2cu0%[a0a2sba0bla1a0cempKogba5bYba3cba6bYba8cca9jfiFnemфgba5bYba3cbYba7cc;jfiFnekagba3bYba7cbgba0bdccekbgba5bYba3cbYbaaccempKoхab;j~toaaYba7cjjfiFnfigba4ba3baababc";left;generalize fV ns 0=c at*;rename_i p1 H1 e1 S1
 obtain ⟨size,hat,hs1,OL⟩:∃n:Int,atI [PyData.int 10, .int (10 ^ Int.toNat 6)] (c / 5 % 2)=some (.int n)/\10<=n/\n<=10 ^ 9:=by
  rcases (by lia:c / 5 % 2=0\/c / 5 % 2=1) with h|h<;>rw [h]
  ·exact ⟨10,rfl,nofun,nofun⟩
  ·exact ⟨10 ^ Int.toNat 6,rfl,nofun,nofun⟩
 refine Ks S1 (by right) hat ?_;have S2:Sta H H H1 [] []:=S1.dropC;clear S1;have hS1:SqL K H1 a (ns.map V.int):=S2.base.seq hS;left;have p46:(10:Int) ^ 9<=10 ^ 46:=by decide+kernel
 refine vR S2 hS1 ⟨nofun,⋯,⋯,hs1,⋯⟩ λl D H3 hl okZ e3 S3=>?_
 have u:ClS 33 l:=okZ.S (s:=30) ⋯ (by
  have:(10:Int) ^ 9<=2 ^ 30:=by decide+kernel
  lia)
 have few6:l.length<=6:=⋯
 have two:2<=l.length:=⋯
 have em:2+c % 5=((l.length:Nat):Int):=⋯
 rw [em];clear hl hat okZ p46 hs1 OL;have S4:Sta H H H3 [] [(zj l, .ref D)]:=S3.freeze;clear S3 S2
 have SD:(Je ns (some 1) (some 6)).length<=6:=by
  unfold Je;rw [jbd,show HT.sIx ns.length ns.length (some 6)=min 6 ns.length from HT.sIx_nat _ _ 6,show HT.sIx ns.length 0 (some 1)=min 1 ns.length from HT.sIx_nat _ _ 1];lia
 left;refine IF S4 (S4.base.seq hS) λp5 H5 e5 S5=>?_;left;refine ⟨Cb S5.freeze .mm SD λG H6 r dr e6 S6'=>?_,_,rfl⟩;obtain ⟨⟨j,N,hJ,hj,hN⟩,ng'⟩:=dr;have ng:=ng' rfl;obtain ⟨ru,OZ,NO⟩:=(hJ 33).ru nofun hj hN;have den:XZ 33 r<=530:=by have:=(hJ 33).den;lia
 have hsz:=(hJ 33).size;have S6:Sta H H H6 [] [(r.shape,G),(zj l, .ref D)]:=S6'.dat ‹()›;clear S6' S5 S4 SD hJ ng';left;refine UA (r:=r) S6 .mm (Rl.ok_of ru.pok) ⋯ NO λH7 S7=>?_;left;refine Kf (A:=A) S7 (Rl.ok_of ru.pok) ⋯ NO λM H8 e8 S8=>?_;clear S7 S6;left;refine zZ S8 .mm λJ9 wk9=>?_;refine xj wk9 (λj=> .int (l.getD j (0,0,0)).1) (ys:=(amV l).map PyData.int) (by unfold amV;rw [Qb,Qo];exact zv (λc:Cl=>PyData.int c.1) (0,0,0) l) S8 (λj x v=>λhx t1 S hd=>?_) λD9 H9 e9 S9=>?_
 ·obtain ⟨c,hc,rfl⟩:=zM hx;refine zF ⟨rfl,?_⟩;left;refine hd (by assumption) ?_;rw [zA hc];exact Has.int
 have ok:ClOk 160 l:=u.ok nofun;have sum:=ok.am.sum;have hS9:SqL K H9 a (ns.map V.int):=S9.base.seq hS;left;refine Cd S9 ⟨sum.1,sum.2.mono nofun⟩ λOP Pe e ⟨⟨e0,ez⟩,ed⟩ e10 Z=>?_;have NW:Sta H H Pe [] [(frD e,OP),(r.ins A,M),(r.shape,G),(zj l, .ref D)]:=Z.dropC;clear Z S9 S8 wk9 J9 hS9;left;refine nX NW .mm (NC r).cl (OD r) (by decide+kernel) ?_;left;rename_i p11 PV Ry NV;refine Uz NV.freeze .mm .mm .mm ru NO u (ez.mono nofun) e0 λL RD e12 Y=>?_;have Oc:Sta H H RD [] [(zS (zg (zJ r l) e),L),(frD e,OP),(r.ins A,M),(r.shape,G),(zj l, .ref D)]:=Y.dat ‹()›;clear Y NV NW;have zp:∀q∈zg (zJ r l) e,SzQ 4499 q:=λq hq=>(ru.part u ed e0 q hq).2.mono ⋯;left;refine nU Oc .mm .mm .mm .mm ru OZ u (ez.mono nofun) e0 (λp hp=>(zp p hp).mono nofun) λH13 e13 NU=>?_;clear Oc;left;refine IF NU (NU.base.seq hS) λp14 H14 e14 OS=>?_;left;have OG:(Je ns (some (9+(l.length:Int))) (some (9+(l.length:Int)+c / 10 % 8))).length<=63:=by unfold Je;rw [jbd,jaJ];lia
 generalize Je ns (some (9+(l.length:Int))) (some (9+(l.length:Int)+c / 10 % 8))=cells at*;have Ow:=OS.freeze;refine zZ Ow .mm λJ wk=>?_;refine xj wk (λj=> .int (cells.getD j 0 % (l.length:Int))) (ys:=(cells.map λx=>x % (l.length:Int)).map PyData.int) (by rw [Qb,Qo];exact zv (λx:Int=>PyData.int (x % (l.length:Int))) 0 cells) Ow (λj x v=>λhx t1 S hd=>?_) λD16 H16 e16 X=>?_
 ·obtain ⟨y,hy,rfl⟩:=zM hx;cases S.int1;refine zF ⟨rfl,?_⟩;left;refine hd S ?_;rw [zA hy,QZ _ ⋯];exact Has.int
 have gp:Ik (l.length:Nat) (cells.map λx=>x % (l.length:Int)):=λp hp=>by
  obtain ⟨x,_,rfl⟩:=Qk.mp hp;exact ⟨TZ _ ⋯,TM _ ⋯⟩
 generalize Oh:(cells.map λx=>x % (l.length:Int))=ps at*;have Pk:Sta H H H16 [] [(xu ps, .ref D16),(zS (zg (zJ r l) e),L),(frD e,OP),(r.ins A,M),(r.shape,G),(zj l, .ref D)]:=X.freeze.dat ‹()›;clear X Ow OS NU wk J;have g:=(ru.gf u).ful;have pl:=g.std.len (e:=e);left;refine jq H H ⋯ ⋯ λJ wk=>?_;refine bq wk (λj=>if !decide ((j:Int)∈ps) then some (.tuple [.int (j:Int),frD ((zg (zJ r l) e).getD j 0)]) else none) Pk (λ_ _=>trivial) (by rw [yu];lia) (λi x v B' G' Kd Kn hx t1 S hd hn C ex s0 H0=>?_) λD17 H17 e17 Pj=>?_
 ·obtain ⟨hi,rfl⟩:=xU hx;cases S.int1;have S:=S.drop1;refine zF ⟨rfl,?_⟩;left;refine IG S .mm ?_;rw [show (0:Int)+(i:Int)=(i:Int) from Int.zero_add _];refine ⟨_,rfl,?_⟩
  by_cases z:(i:Int)∈ps
  ·rw [QT z];exact hn (by rw [QT z];rfl) S
  ·rw [Tf z];refine Eq.mpr (QD nofun) ?_;have il:i<(zg (zJ r l) e).length:=⋯
   have hc:=Qa il;left;refine js S .mm (zW (by rw [Qh,hc];rfl)) λw2 S2=>?_;left;rename_i w3 H3' e3' S3;refine hd (by rw [Tf z,zA hc];rfl) S3 .mm
 rw [yu,lY (λ(j:Nat)=>!decide ((j:Int)∈ps)) (λ(j:Nat)=>PyData.tuple [.int (j:Int),frD ((zg (zJ r l) e).getD j 0)])] at Pj;have RC:Sta H H H17 [] [(.list (EU l.length ps (zg (zJ r l) e)), .ref D17),(xu ps, .ref D16),(zS (zg (zJ r l) e),L),(frD e,OP),(r.ins A,M),(r.shape,G),(zj l, .ref D)]:=Pj.freeze;clear Pj Pk;left;rename_i p19 H19 e19 PU p20 H20 e20 RN;have dd:33+3*(40+4*XZ 33 r+33)+2<=6800:=⋯
 have zl:=(Lm (ps:=ps) ru u e0 ed few6).mono dd;refine JZ RN.freeze.freeze .mm .mm .mm .mm ⟨ru,NO,u,e0,ez,gp,zl,zp⟩ λw21 H21 e21 I=>?_;rw [FD ng ru u e0] at I;have PR:Sta H H H21 [] [(.list (EU l.length ps (zg (zJ r l) e)),w21),(.list (EU l.length ps (zg (zJ r l) e)), .ref D17),(zS (zg (zJ r l) e),L),(r.ins A,M),(r.shape,G),(zj l, .ref D)]:=I.dat ‹()›;clear I RN PU RC;left;refine tV (PR.hp .mm) (PR.hp .mm) (je ..) (je ..) ?_;rw [SeqAt.eqv_refl _ (Dv ..)];have SO:Sta H H H21 [] [(zS (zg (zJ r l) e),L),(r.ins A,M),(r.shape,G),(zj l, .ref D)]:=PR.dat ‹()›;clear PR;have OR:=ru.pv u den e0 ed;have own:=oz ng ru u e0 OR.good;have same:=λ{v:List Rat} (g':Uk l v) (s:zu v=zu (zg (zJ r l) e))=>FR ng ru u e0 OR.good g' s;have dv:=OR.dv u;clear zp zl dd gp g pl Oh;generalize zg (zJ r l) e=SQ at*;left;rename_i p23 H23 e23 RM p24 H24 e24 S24;refine tU S24.freeze.freeze .mm .mm .mm ⟨ru,NO,OZ,den,u,dv⟩ (λ_ H25 e25 U=>?_) (λi j O=>absurd (own i j O.ij O.jl) O.bad);have S25:Sta H H H25 [] [(zS SQ,L),(r.ins A,M),(r.shape,G),(zj l, .ref D)]:=U.dat ‹()›;clear U S24 RM SO;left;refine ⟨rfl,?_⟩;left;refine iG rfl ?_;left;rename_i p26 H26 e26 S26;have hS26:SqL K H26 a (ns.map V.int):=S26.base.seq hS;left;refine Cj S26.freeze .mm .mm u two OR λv' p27 H27 dv' sv e27 T=>?_;have S27:Sta H H H27 [] [(.list (v'.map frD), .ref p27),(zS SQ,L),(r.ins A,M),(r.shape,G),(zj l, .ref D)]:=T.freeze.dat ‹()›;clear T S26 S25 hS26;have sm:=same dv'.good sv;have pr:PrOk 7 r l v':=⟨ru,NO,OZ,den,u,dv'⟩;left;rename_i p28 H28 e28 S28 p29 H29 e29 S29;refine tU S29.freeze.freeze .mm .mm .mm pr (λall H30 e30 m=>?_) (λi j O w30 H30 e30 m=>?_)
 ·have S30:Sta H H H30 [] [(.list (v'.map frD), .ref p27),(zS SQ,L),(r.shape,G),(zj l, .ref D)]:=m.dat ‹()›;clear m S29 S28 S27;left;refine ⟨rfl,?_⟩;left;rename_i p31 H31 e31 RB;refine tY (RB.hp .mm) (RB.hpC (by right)) (Vb _) (Vb _) ?_;rw [Ek,QT (sm.mp all),QT (rfl:V.non=V.non)];refine IH ?_;left;refine iG rfl ?_;left;refine Cg RB .mm .mm .mm pr all λH32 e32 S32=>?_;exact q _
 ·have S30:Sta H H H30 [] [(Vv r l v' i j,w30),(.list (v'.map frD), .ref p27),(zS SQ,L),(r.shape,G),(zj l, .ref D)]:=m.dat ‹()›;clear m S29 S28 S27;have hv:=S30.hp .mm;unfold Vv at hv;rw [Is] at hv;obtain ⟨rf,_,e3,_⟩:=hv;subst e3;left;refine ⟨rfl,?_⟩;left;rename_i p31 H31 e31 RB;refine tY (RB.hp .mm) (RB.hpC (by right)) (Vb _) (Vb _) ?_;rw [Ek,Tf (λz=>O.bad (sm.mpr z i j O.ij O.jl)),Tf (show ¬V.ref rf=V.non by simp)];refine IH ?_;left;refine iG rfl ?_;left;refine Cf RB .mm .mm .mm .mm pr O λH32 e32 S32=>?_;exact q _
end
end
def all_mk {l:PySem.W.OpenLaw} {w:World} {K:Frg} {h:Heap} {mg:Str->Option Value} {fa:Addr} (X:K.In h) (G:h.Ns mainGlobals mg) (hfa:mg "law"=some (.ref fa))
 {od68 an68:Option Addr} {sl68:Array (Option Value)} {oc68 kV68 dc68 pm68 cd68 ct68:Value}
 (D1:DkT K mg "check_claims" YD f1 d1 pao)
 (D2:DkT K mg "those_at" aw f2 d2 paB)
 (D3:DkT K mg "places_of_rank" Zx f3 d3 paR)
 (D4:DkT K mg "fraction" aG f4 d4 pal)
 (D5:DkT K mg "plus" BN f5 d5 pab)
 (D6:DkT K mg "minus" qO f6 d6 pab)
 (D7:DkT K mg "times" qN f7 d7 pab)
 (D8:DkT K mg "over" BO f8 d8 pab)
 (D9:DkT K mg "before" kX f9 d9 pab)
 (D10:DkT K mg "is_whole" aF f10 d10 ["number"])
 (D11:DkT K mg "lowest" kP f11 d11 pal)
 (D12:DkT K mg "greatest_divisor" xP f12 d12 pab)
 (D13:DkT K mg "staying" eH f13 d13 paD)
 (D14:DkT K mg "pair_off" ay f14 d14 paS)
 (D15:DkT K mg "check_places" YC f15 d15 ["places","count"])
 (D16:DkT K mg "check_division" Zy f16 d16 ["claims","parts"])
 (D17:DkT K mg "total" qM f17 d17 ["numbers"])
 (D18:DkT K mg "thinned" eE f18 d18 ["corners"])
 (D19:DkT K mg "parts_at" ax f19 d19 ["path","purse"])
 (D20:DkT K mg "turned" kK f20 d20 ["path"])
 (D21:DkT K mg "scaled" kN f21 d21 paV)
 (D22:DkT K mg "behind" kW f22 d22 paP)
 (D23:DkT K mg "is_straight" Xv f23 d23 paI)
 (D24:DkT K mg "gap" JS f24 d24 pab)
 (D25:DkT K mg "parts_between" ZT f25 d25 paU)
 (D26:DkT K mg "portion_reached" Za f26 d26 paH)
 (D27:DkT K mg "amount_at" VW f27 d27 paF)
 (D28:DkT K mg "plus_each" VO f28 d28 pay)
 (D29:DkT K mg "less_each" VP f29 d29 pay)
 (D30:DkT K mg "last_reached" YB f30 d30 ["amounts","amount"])
 (D31:DkT K mg "course" kU f31 d31 paE)
 (D32:DkT K mg "shares" kM f32 d32 pao)
 (D33:DkT K mg "evenly" kS f33 d33 pao)
 (D34:DkT K mg "losses" kQ f34 d34 pao)
 (D35:DkT K mg "ranks" kO f35 d35 paX)
 (D36:DkT K mg "upto" BL f36 d36 paC)
 (D37:DkT K mg "nothing" eI f37 d37 ["count"])
 (D38:DkT K mg "whole_corner" Yy f38 d38 ["parts"])
 (D39:DkT K mg "spread" kL f39 d39 paz)
 (D40:DkT K mg "spread_parts" Yz f40 d40 paN)
 (D41:DkT K mg "read" BM f41 d41 ["text"])
 (D42:DkT K mg "read_rule" Xq f42 d42 pav)
 (D43:DkT K mg "read_word" VN f43 d43 pav)
 (D44:DkT K mg "read_within_brackets" yD f44 d44 paW)
 (D45:DkT K mg "read_portion" YA f45 d45 pav)
 (D46:DkT K mg "read_number" Xr f46 d46 pav)
 (D47:DkT K mg "_law_cell_at" Xu f47 d47 paA)
 (D48:DkT K mg "_law_mixed" VV f48 d48 paO)
 (D49:DkT K mg "_law_divisor" Xt f49 d49 paq)
 (D50:DkT K mg "_law_lowest" Ws f50 d50 paw)
 (D51:DkT K mg "_law_whole" VQ f51 d51 pax)
 (D52:DkT K mg "_law_is_fraction" Zb f52 d52 pax)
 (D53:DkT K mg "_law_labels" Wt f53 d53 ["_law_number"])
 (D54:DkT K mg "_law_claims" Wu f54 d54 pam)
 (D55:DkT K mg "_law_portion" Xs f55 d55 paJ)
 (D56:DkT K mg "_law_leaf" aC f56 d56 paJ)
 (D57:DkT K mg "_law_shape" VR f57 d57 paM)
 (D58:DkT K mg "_law_text" aA f58 d58 paL)
 (D59:DkT K mg "_law_even" aE f59 d59 paK)
 (D60:DkT K mg "_law_fits" aD f60 d60 paa)
 (D61:DkT K mg "_law_upto_fit" Zk f61 d61 paa)
 (D62:DkT K mg "_law_ranks_fit" xO f62 d62 paa)
 (D63:DkT K mg "_law_right" VS f63 d63 pae)
 (D64:DkT K mg "_law_purse" VT f64 d64 paG)
 (D65:DkT K mg "_law_moved" VU f65 d65 pas)
 (D66:DkT K mg "_law_two_right" ZU f66 d66 pag)
 (D67:DkT K mg "_law_pair" aB f67 d67 pah)
 (a68:PySem.W.nsIn K mainGlobals "law"=some (some (.ref f68))) (l68:K.lookup f68=some ⟨oc68,od68, .func (PySem.W.fnOf "law" "law" (ZD kR) (xY kR) (zh kR) .none kV68 dc68 pm68 an68 cd68 ct68),sl68⟩) (c68:PySem.W.codeIn K cd68 "law"=true) (k68:PySem.W.keepIn K (.ref f68)=true)
 {ZG Vi Vm Vj Vk bz bx Vl jH WO yh yw yC ym YZ Xd Xa Xb XY XX Xc WN:Addr} {fR oY se sf oZ ba bo bg bh cG cE bj fO:FuncData} {t_MOST:Tok} (Mu:PySem.W.nsIn K mainGlobals "Rule"=some (some (.ref ZG))) (yn:PySem.W.findCls K (.ref ZG) (.type "type") "__init__"=some (.val (.ref WO)))
 (Fp:PySem.W.nsIn K mainGlobals "Shares"=some (some (.ref Vi)))
 (Fv:PySem.W.nsIn K mainGlobals "Evenly"=some (some (.ref Vm)))
 (Fq:PySem.W.nsIn K mainGlobals "Losses"=some (some (.ref Vj)))
 (Fs:PySem.W.nsIn K mainGlobals "Halves"=some (some (.ref Vk)))
 (JC:PySem.W.nsIn K mainGlobals "Other"=some (some (.ref bz)))
 (JB:PySem.W.nsIn K mainGlobals "Ranks"=some (some (.ref bx)))
 (Ft:PySem.W.nsIn K mainGlobals "Groups"=some (some (.ref Vl)))
 (Mt:PySem.W.nsIn K mainGlobals "Upto"=some (some (.ref jH)))
 (mK:CkT K Vi YZ ZG yh yw yC ym)
 (mO:CkT K Vm Xd ZG yh yw yC ym)
 (mL:CkT K Vj Xa ZG yh yw yC ym)
 (mM:CkT K Vk Xb ZG yh yw yC ym)
 (sS:CkT K bz XY ZG yh yw yC ym)
 (sR:CkT K bx XX ZG yh yw yC ym)
 (mN:CkT K Vl Xc ZG yh yw yC ym)
 (EH:CkT K jH WN ZG yh yw yC ym)
 (gz:FkT K "__init__" "Rule.__init__" ZX WO fR paf)
 (pO:FkT K "shape" "Rule.shape" Wv yh oY pac)
 (sO:FkT K "text" "Rule.text" eJ yw se pac)
 (sQ:FkT K "path" "Rule.path" VY yC sf paQ)
 (pP:FkT K "parts" "Rule.parts" Ww ym oZ pai)
 (bI:FkT K "__init__" "Shares.__init__" Zc YZ ba pac)
 (bM:FkT K "__init__" "Evenly.__init__" Zg Xd bo pac)
 (bJ:FkT K "__init__" "Losses.__init__" Zd Xa bg pac)
 (bK:FkT K "__init__" "Halves.__init__" Ze Xb bh pac)
 (cM:FkT K "__init__" "Other.__init__" ZA XY cG pak)
 (cL:FkT K "__init__" "Ranks.__init__" Zz XX cE pak)
 (bL:FkT K "__init__" "Groups.__init__" Zf Xc bj pau)
 (gw:FkT K "__init__" "Upto.__init__" ZW WN fO paj)
 (yU:PySem.W.isFn K (.ref yh)=true) (xm:PySem.W.isFn K (.ref yw)=true) (xn:PySem.W.isFn K (.ref yC)=true) (yV:PySem.W.isFn K (.ref ym)=true) (x_MOST:PySem.W.nsIn K mainGlobals "MOST"=some (some (.int 8 t_MOST)))
 (Wm:PySem.W.specialIn K (.ref ZG) "__getattribute__"=some (some (.builtin "type.__getattribute__"))) (WC:PySem.W.readsIn K ZG (.type "type")=true) (Pg:PySem.W.specialIn K (.builtin "object.__class__") "__get__"=some (some (.builtin "getset_descriptor.__get__"))) (Py:PySem.W.takesIn K (.builtin "object.__class__")=some true)
 {Yt y m xX XF ZJ:Addr} {fN rZ mh:FuncData} {tWORDS0 tWORDS1 tWORDS2 tWORDS3 tWORDS4 tWORDS5 tWORDS6 tWORDS7 tFIGURES0 tFIGURES1 tFIGURES2 tFIGURES3 tFIGURES4 tFIGURES5 Z Y U T:Tok} {n_WORDS n_FIGURES:Nat} {sl_WORDS D:Array (Option Value)} (Ms:PySem.W.nsIn K mainGlobals "Walk"=some (some (.ref Yt))) (x_WORDS:PySem.W.nsIn K mainGlobals "WORDS"=some (some (.ref y))) (O:PySem.W.nsIn K mainGlobals "FIGURES"=some (some (.ref m)))
 (l_WORDS:K.lookup y=some ⟨.type "tuple",none, .seq #[.str "shares" tWORDS0, .str "evenly" tWORDS1, .str "losses" tWORDS2, .str "halves" tWORDS3, .str "other(" tWORDS4, .str "ranks(" tWORDS5, .str "groups(" tWORDS6, .str "upto(" tWORDS7] n_WORDS,sl_WORDS⟩)
 (l_FIGURES:K.lookup m=some ⟨.type "tuple",none, .seq #[.str "0" tFIGURES0, .str "1" tFIGURES1, .str "2" tFIGURES2, .str "3" tFIGURES3, .str "4" tFIGURES4, .str "5" tFIGURES5, .str "6" Z, .str "7" Y, .str "8" U, .str "9" T] n_FIGURES,D⟩)
 (fL:PySem.W.findIn K (.ref Yt) "__init__"=some (some (.ref xX))) (rX:PySem.W.findIn K (.ref Yt) "sign"=some (some (.ref XF))) (mf:PySem.W.findIn K (.ref Yt) "expect"=some (some (.ref ZJ)))
 (gv:FkT K "__init__" "Walk.__init__" ZV xX fN paT) (ff:PySem.W.isFn K (.ref xX)=true)
 (sN:FkT K "sign" "Walk.sign" VX XF rZ pac) (rl:PySem.W.isFn K (.ref XF)=true)
 (mJ:FkT K "expect" "Walk.expect" Xw ZJ mh pan) (lJ:PySem.W.isFn K (.ref ZJ)=true)
 (pg_Walk:PySem.W.plainGet K Yt Str.empty=true) (hd_Walk:PySem.W.hasDictIn K Yt=true) (po_Walk:PySem.W.plainOver K Yt=true) (sa_Walk:PySem.W.findIn K (.ref Yt) "__setattr__"=some (some (.builtin "object.__setattr__"))) (na_Walk:PySem.W.findIn K (.ref Yt) "signs"=some none) (nb_Walk:PySem.W.findIn K (.ref Yt) "at"=some none) (mk_Walk:PySem.W.makesIn K Yt=true) (kc_Walk:PySem.W.keepIn K (.ref Yt)=true) (B:Bl mg) (B2:Bl3 mg):
 ∃fd:FuncData,(∀(s:Shared) (v:Value),BindsTo s fd ⟨[v],[]⟩ [("_law_script",v)])/\∀base:Heap,K.In base->base.Ns mainGlobals mg->FnOk l.prog w K mg base CX0 29 fa fd ["_law_script"] (FF K):=by
 have e:=hfa.symm.trans (jae X G a68);cases e;obtain ⟨vj,uj,uS⟩:=D31;obtain ⟨Ma,Lh,LP⟩:=D35;obtain ⟨gB,fh,fX⟩:=D42;obtain ⟨Wh,Wf,Wg⟩:=D44;obtain ⟨gF,rB,sC⟩:=D57;obtain ⟨jO,jy,jJ⟩:=D58;obtain ⟨jR,jA,jK⟩:=D60;obtain ⟨iS,iC,iM⟩:=D61;obtain ⟨gH,fm,gg⟩:=D62;have Nu:=oU (st:=kR) l68 c68 k68;refine ⟨PySem.W.fnOf "law" "law" (ZD kR) (xY kR) (zh kR) .none kV68 dc68 pm68 an68 cd68 ct68,λs v=> .of_eq rfl,λbase XB GB=>?_⟩;obtain ⟨gT,yo,yl⟩:=gz;obtain ⟨Zv,yY,yW⟩:=pO;obtain ⟨Mb,LR,xo⟩:=sO;obtain ⟨gR,gj,xp⟩:=sQ;obtain ⟨Yv,xK,yX⟩:=pP;obtain ⟨bN,bC,wM⟩:=bI;obtain ⟨bR,bG,wR⟩:=bM;obtain ⟨bO,bD,wN⟩:=bJ;obtain ⟨bP,bE,wO⟩:=bK;obtain ⟨cO,cK,AK⟩:=cM;obtain ⟨cN,cJ,AJ⟩:=cL;obtain ⟨bQ,bF,wQ⟩:=bL;obtain ⟨gQ,gi,DD⟩:=gw;obtain ⟨gP,gh,DB⟩:=gv;obtain ⟨Yh,xq,rK⟩:=sN;obtain ⟨yL,yj,lT⟩:=mJ;have IX:=jae XB GB Ms;have g_WORDS:=jae XB GB x_WORDS;have g_FIGURES:=jae XB GB O;have W_ok:WOk K XF ZJ Yt:=⟨⟨pg_Walk,hd_Walk,po_Walk,sa_Walk⟩,na_Walk,nb_Walk,⟨rX,rl,rK⟩,⟨mf,lJ,lT⟩⟩;have EI:Mk K Yt xX:=⟨mk_Walk,fL,ff,kc_Walk⟩;have fk:Fg K m:=⟨⟨_,_,_,l_FIGURES,by show 10<=sizeLine;decide,(.cons ⟨_,rfl⟩ (.cons ⟨_,rfl⟩ (.cons ⟨_,rfl⟩ (.cons ⟨_,rfl⟩ (.cons ⟨_,rfl⟩ (.cons ⟨_,rfl⟩ (.cons ⟨_,rfl⟩ (.cons ⟨_,rfl⟩ (.cons ⟨_,rfl⟩ (.cons ⟨_,rfl⟩ .nil))))))))))⟩⟩;have wk:Wd K y:=⟨⟨_,_,_,l_WORDS,by show 8<=sizeLine;decide,(.cons ⟨_,rfl⟩ (.cons ⟨_,rfl⟩ (.cons ⟨_,rfl⟩ (.cons ⟨_,rfl⟩ (.cons ⟨_,rfl⟩ (.cons ⟨_,rfl⟩ (.cons ⟨_,rfl⟩ (.cons ⟨_,rfl⟩ .nil))))))))⟩⟩;have ZF:=jae XB GB Mu;have g_MOST:=jae XB GB x_MOST;have uB:=jae XB GB Fp;have pQ:=mK.MK;have Mw:=mK.ok yU yW xm xo Pg Py;have MB:=mK.mp xn xp yV yX;have uF:=jae XB GB Fv;have pU:=mO.MK;have MA:=mO.ok yU yW xm xo Pg Py;have MF:=mO.mp xn xp yV yX;have uC:=jae XB GB Fq;have pR:=mL.MK;have Mx:=mL.ok yU yW xm xo Pg Py;have MC:=mL.mp xn xp yV yX;have uD:=jae XB GB Fs;have pS:=mM.MK;have My:=mM.ok yU yW xm xo Pg Py;have MD:=mM.mp xn xp yV yX;have DR:=jae XB GB JC;have uW:=sS.MK;have Na:=sS.ok yU yW xm xo Pg Py;have Nc:=sS.mp xn xp yV yX;have DO:=jae XB GB JB;have uV:=sR.MK;have MZ:=sR.ok yU yW xm xo Pg Py;have Nb:=sR.mp xn xp yV yX;have uE:=jae XB GB Ft;have pT:=mN.MK;have Mz:=mN.ok yU yW xm xo Pg Py;have ME:=mN.mp xn xp yV yX;have IZ:=jae XB GB Mt;have EJ:=EH.MK;have Nl:=EH.ok yU yW xm xo Pg Py;have Nm:=EH.mp xn xp yV yX;have NC:∀r:Rl,ROk K yh yw ZG ((⟨Vi,Vm,Vj,Vk,bz,bx,Vl,jH⟩:RAd).cls r):=λr=>by cases r<;>assumption
 have OD:∀r:Rl,Meth K ((⟨Vi,Vm,Vj,Vk,bz,bx,Vl,jH⟩:RAd).cls r) "path" yC/\Meth K ((⟨Vi,Vm,Vj,Vk,bz,bx,Vl,jH⟩:RAd).cls r) "parts" ym:=λr=>by cases r<;>assumption
 generalize PQ:(⟨Vi,Vm,Vj,Vk,bz,bx,Vl,jH⟩:RAd)=A at NC OD;have g:=Gu (P:=l.prog) (w:=w) (mg:=mg) (base:=base) (fS:=yh) (fT:=yw) (Ru:=ZG) gT;have p:=Gr (P:=l.prog) (w:=w) (mg:=mg) (base:=base) NC Zv;have Hs:=hV (A:=A) ZF Wm WC yn g yl yo (NC .shares) bN
 have Hb:ZN l.prog w K mg base "Shares" (A.cls .shares) pac (yr (A.cls .shares) (α:=Unit) (λ_=>[]) (λ_=>Rl.shares.shape)):=by
  subst PQ;exact ⟨_,_,pQ,Hs,bC,uB⟩
 have Hw:=ir (A:=A) ZF Wm WC yn g yl yo (NC .evenly) bR
 have Hf:ZN l.prog w K mg base "Evenly" (A.cls .evenly) pac (yr (A.cls .evenly) (α:=Unit) (λ_=>[]) (λ_=>Rl.evenly.shape)):=by
  subst PQ;exact ⟨_,_,pU,Hw,bG,uF⟩
 have Ht:=ie (A:=A) ZF Wm WC yn g yl yo (NC .losses) bO
 have Hc:ZN l.prog w K mg base "Losses" (A.cls .losses) pac (yr (A.cls .losses) (α:=Unit) (λ_=>[]) (λ_=>Rl.losses.shape)):=by
  subst PQ;exact ⟨_,_,pR,Ht,bD,uC⟩
 have Hu:=ig (A:=A) ZF Wm WC yn g yl yo (NC .halves) bP
 have Hd:ZN l.prog w K mg base "Halves" (A.cls .halves) pac (yr (A.cls .halves) (α:=Unit) (λ_=>[]) (λ_=>Rl.halves.shape)):=by
  subst PQ;exact ⟨_,_,pS,Hu,bE,uD⟩
 have Lx:=lH (A:=A) ZF Wm WC yn g yl yo p yY NC cO
 have Lk:ZN l.prog w K mg base "Other" (A.cls (.other .shares)) pak (yr (A.cls (.other .shares)) (α:=Rl) (λr=>[r.ins A]) (λr=>(Rl.other r).shape)):=by
  subst PQ;exact ⟨_,_,uW,Lx,cK,DR⟩
 have Lw:=lG (A:=A) ZF Wm WC yn g yl yo p yY NC cN
 have Lj:ZN l.prog w K mg base "Ranks" (A.cls (.ranks .shares)) pak (yr (A.cls (.ranks .shares)) (α:=Rl) (λr=>[r.ins A]) (λr=>(Rl.ranks r).shape)):=by
  subst PQ;exact ⟨_,_,uV,Lw,cJ,DO⟩
 have Hv:=ik (A:=A) ZF Wm WC yn g yl yo p yY NC bQ
 have He:ZN l.prog w K mg base "Groups" (A.cls (.groups .shares .shares)) pau (yr (A.cls (.groups .shares .shares)) (α:=Rl×Rl) (λr=>[r.1.ins A,r.2.ins A]) (λr=>(Rl.groups r.1 r.2).shape)):=by
  subst PQ;exact ⟨_,_,pT,Hv,bF,uE⟩
 have MM:=oC (A:=A) ZF Wm WC yn g yl yo p yY NC gQ
 have ML:ZN l.prog w K mg base "Upto" (A.cls (.upto 0 0 .shares .shares)) paj (yr (A.cls (.upto 0 0 .shares .shares)) (α:=(Int×Int)×Rl×Rl) (λr=>[.tuple [.int r.1.1, .int r.1.2],r.2.1.ins A,r.2.2.ins A]) (λr=>(Rl.upto r.1.1 r.1.2 r.2.1 r.2.2).shape)):=by
  subst PQ;exact ⟨_,_,EJ,MM,gi,IZ⟩
 have dm {x:Str} {st:Stmt} {k:Nat} {ps:List Str} {sp:Sp} {f:Addr} {fd:FuncData} (a:Coo l.prog w K mg base x st k ps sp) (d:DkT K mg x st f fd ps):=a d;have cm {f:Addr} {fd:FuncData} {k:Nat} {x:Str} {st:Stmt} {ps:List Str} {sp:Sp} (F:Fun K x x st f fd) (a:FnOk l.prog w K mg base CX0 k f fd ps sp) (hm:mg x=some (.ref f)) (b:yp K fd ps []):Cal l.prog w K mg base CX0 k x ps sp:=UM F a hm b;have C_gcd:=dm ok_gcd D12;have Zn:=dm (CP B C_gcd) D11;have VE:=dm (KR Zn) D5;have YI:=dm (GC Zn) D6;have mP:=dm (Gp Zn) D7;have Jx:=dm (KS Zn) D8;have dA:=dm Dc D9;have C_last:=dm (KW B dA) D30;have C_portion:=dm (wb YI Jx) D26;have C_amount:=dm (Dd VE YI mP) D27;have C_between:=dm (wq B C_portion C_amount) D25;have C_partsat:=dm (we B C_last C_between) D19;have MY:=dm ok_gap D24;have L:=dm (rh B MY) D23;have pY:=dm (vY B L) D18;have C_pe:=dm (oA B VE) D28;have C_le:=dm (oB B YI) D29;have du:=dm (CF B YI C_le) D20;have vt:=dm (CJ B mP) D21;have Vp:=dm (CZ B VE C_pe pY) D22;have N:=dm (GK B g_MOST) D1;have C_wc:=dm (ok_wc B) D38;have Xl:=dm (wg C_wc) D37;have vq:=dm (CH B Xl C_wc) D32;have dw:=dm (CV B B2 C_wc) D33;have vv:=dm (CQ dw du) D34;have Jv:=dm (KJ Vp vt YI) D36;have J:=dm Gq D2;have C_plr:=dm (CN B) D3;have C_sprv:=dm (vZ B) D40;have C_spr:=dm (CG C_sprv) D39;have UY:=cm vj (wo (t:=33) B B2 vq dw vv Jv du Xl C_plr J C_spr Vp Ma Lh LP vj uj uS 7) uj uS;have F_path:=Gx (A:=A) (t:=33) (n:=7) NC N UY gR;have z:=CO (A:=A) (t:=33) (n:=7) NC (λr=>(OD r).1) F_path gj C_partsat Yv;have Vo:=dm (rj B) D10;have jV:=dm (GH Vo Zn) D4;have u:=KO (P:=l.prog) (w:=w) (mg:=mg) (base:=base) W_ok Yh;have q:=CU (P:=l.prog) (w:=w) (mg:=mg) (base:=base) W_ok u xq yL;have F_winit:=Gk (P:=l.prog) (w:=w) (mg:=mg) (base:=base) W_ok gP;have C_numr:=dm (KU W_ok g_FIGURES fk u xq) D46;have C_portr:=dm (Gv W_ok q yj C_numr jV) D45;have C_word:=dm (KI W_ok g_WORDS wk u xq q yj) D43;have C_rrule:=cm gB (KP (A:=A) W_ok q yj Hb Hf Hc Hd Lk Lj He ML C_word C_portr gB fh fX Wh Wf Wg 7) fh fX;have Jw:=dm (KQ (n:=7) W_ok u xq IX EI F_winit gh C_rrule) D41;have C_pl0:=dm (ok_pl0 Vo) D15;have EN:=dm (Gn VE) D17;have C_stay:=dm (KN (A:=A) (t:=33) (n:=7) B NC (λr=>(OD r).2) C_pl0 EN J z xK) D13;have C_dv0:=dm (ok_dv0 B dA) D16;have C_pair:=dm (Gy (A:=A) (n:=7) B NC (λr=>(OD r).2) N C_dv0 VE z xK) D14;have C_cell:=dm (KZ B) D47;have C_mix:=dm GA D48;have C:=dm (wm B) D49;have C_low:=dm (CS C) D50;have I:=dm (Gm B) D51;have C_frac:=dm (KY B I C) D52;have C_labels:=dm CT D53;have C_claims:=dm (CY B C_cell C_mix C_labels) D54;have C_even:=dm (GJ B) D59;have C_fits:=cm jR (GI B B2 C_even iS iC iM gH fm gg jR jA jK 12) jA jK;have M:=dm (CK (t:=33) B C_frac C C_fits) D63;have C_por:=dm Gw D55;have C_leaf:=dm GG D56;have C_shape:=cm gF (CI B C_por C_leaf gF) rB sC;have C_purse:=dm (CM C_low) D64;have C_ltext:=cm jO (GD B jO jy jJ 7) jy jJ;have C_two:=dm (KL C C_fits) D66;have C_lpair:=dm (wj B C_two I C_low M) D67;have C_moved:=dm (Gz B C_low) D65;exact ok_law (A:=A) B NC (λr=>(OD r).2) z xK C_cell C_claims C_shape C_ltext Jw C_purse M C_stay C_pair C_moved C_lpair Nu
def walk {l:PySem.W.OpenLaw} {q:Program} {loose:List Str} {A:(Str->Option Value)->Heap->Prop} {m:World->Heap->Prop} {d:DefRec} {K:Params->Frg} (hn:l.most=some 63) (C:d.params.defaults=[])
 (r:∀(w:World) (h:Heap),m w h->(K w.params).In h)
 (F:∀(w:World) (mg:Str->Option Value) (g:Addr) (h:Heap),(K w.params).In h->h.Ns mainGlobals mg->mg d.name=some (.ref g)->
  ∃fd:FuncData,(∀(s:Shared) (u:Value),BindsTo s fd ⟨[u],[]⟩ [("_law_script",u)])/\∀base:Heap,(K w.params).In base->base.Ns mainGlobals mg->FnOk l.prog w (K w.params) mg base CX0 29 g fd ["_law_script"] (FF (K w.params))):
 PySem.W.WalkO q loose A m l.row.toRowW d [] (λf vs=>PySem.call f vs):=
 L2.JD (n:=63) (k:=29) (x:="_law_script") (CX:=λ_=>CX0) (sp:=λw=>FF (K w.params)) hn nofun C ⟨rfl,nofun,nofun⟩ r F (λ_ _ a ns p y t=>⟨a,ns,rfl,t,p,y,λ_=>rfl⟩) λ_ _ _ _ _ z=>z
end K
structure PySem.W.Fast:Prop where(tw13676388209503508766 tw5379945234140266618 tw11463213018380552597 tw17730512635782340982 tw997147088556438287 tw9233698099226141109 tw8136534089269571138 tw11587871333800143864 tw4547440595008917668 tw17819171260392294978 tw16999486041988523536 tw1092410300908667024 tw9840378363525375440 tw1680743255123859617 tw17012243677434606478 tw7409316401912997493 tw1650051693489325462 tw16190443044285718317 tw2313397639120821761 tw7729674448124906666 tw880041607903458107 tw10474117093819270257 tw3341435370382013652 tw6273105911685347820 tw8441435512168946945 tw5027217546730287906 tw15751152780045859973 tw1294476147910021806 tw1394755956040261460 tw18130359294326244233 tw4703854523094275532 tw3779604127518400150 tw4614436826602996893 tw2912856452289929957 tw4937688748986105716 tw3006325249242207574 tw12794852345918821405 tw2766865342538806997 tw6006876033752871176 tw5968780405926985872 tw9160780892810238443 tw14945963244141274841 tw5621082305006390105 tw16746066463155197635 tw5851833995146554273 tw7335379445454323393 tw6962130217659675008 tw2895205016199729412 tw11985549756551243028 tw12726291722546513085 tw4751170728079480400 tw14810800542054150042 tw3827812760087556656 tw3029374117563681052 tw14534796677401055811 tw683369101298447747 tw4917109648269070152 tw11798033367772504369 tw12293516708456056414 tw7265671974536137600 tw14392169505135887340 tw1624716787819132102 tw12143676115445650741 tw17266869960017223934 tw5371537149232758896 tw8656612265430828209 tw15514071255711109081 tw15130960020123459009 tw1792559474125833328 tw8148398966310576110 tw4404600379548529797 tw661118501373533391 tw2446269639496229468 tw9603670863778455283 tw14859839110525104914 tw6729968281173779807 tw6368525348489281554 tw4050289520421807223 tw18445605284340141085 tw6960493447853176969 tw3397653615631897526 tw9194349689825407798 tw10593737565338124970 tw5101252441674476561 tw10277008537127720023 tw11880553570650390061 tw13684076901071550735 tw2568242426528671062 tw16045091198508854321 tw10092540530646554837 tw4582905245839650412 tw17538673645977665378 tw6888394988173105496 tw186890410684173552 tw7121278926337229264 tw52821646159461741 tw15018419641208008575 tw11440240632001724085 tw9863190099514467896 tw13680839594486102458 tw11164162306245385664 tw16786840802288732706 tw14333394046821477795 tw6763680131104772556 tw9166869889425290867 tw364902679660683314 tw17821262186116866167 tw8732602613671805853 tw13013337220579433730 tw5496348989269470014 tw6090029417797818649 tw14030649944664747254 tw251489398201528326 tw10961974423023909211 tw14122584991439920596 tw14549000368264308703 tw14917017836513771745 tw8039404739480647287 tw2338227088743938469 tw1926349572688018017 tw4074155059682493386 tw2699736307120444435 tw9588710020314363057 tw9448629460832349462 tw16355972719209014489 tw15348363665671307634 tw13089261452066632640 tw14984310145782069454 tw4945944228580987261 tw11770589725989492819 tw16309036466271636542 tw9614463740038284103 tw14962368197740532934 tw194552642686855927 tw11093978221078852041 tw5310633337269004580 tw395761053760468533 tw12139581213701789862 tw506633593276725617 tw4098579522087561936 tw2044524695083077514 tw15757353797112806031 tw17604152674450971353 tw10317254539854894997 tw8048452289997808916 tw13970968349058523233 tw843624191405112514 tw10926858907120650196 tw2513279117556989866 tw17970159695661656090 tw2823395115856437662 tw142315789601810692 tw11032242430392183029 tw12193598039749624594 tw1228328663364217651 tw2809346330786682817 tw17183748315143815513 tw7158799371489009003 tw11590547797919557861 tw1628873130562699103 tw17355415586440571375 tw5306509648954223425 tw326453324921196996 tw2983996048186070666 tw15535388677593824356 tw5777932472062556456 tw10654204824256687499 tw4130881752781432399 tw5320160785585600257 tw9781746601618738467 tw17466477063226950151 tw17984842234258421237 tw425911352926813239 tw3168154831557281961 tw11339114129232620466 tw5324548006326534680 tw10983673125003963131 tw10208889423567582129 tw5099860554397494189 tw9565375526227577648 tw3545987262726307652 tw16220578838688956214 tw3419687463024763829 tw14492074595319923239 tw13307277634670195213 tw15853810573320340264 tw6890335420854893735 tw6155337205707225143 tw14307534458614975935 tw14923414164922961051 tw17929772356953672828 tw10555339681430931006 tw10392680302066078738 tw15072837006986958822 tw5481303513680741017 tw1297714655633182497 tw17813816103301931974 tw11277002528147482235 tw11015455513643018608 tw13517534798724000727 tw17579123566713120436 tw10653836811628364192 tw9822149054325009355 tw14455115726229335424 tw1587507448752914515 tw668929693137621848 tw1970841449205974757 tw10901066739033981154 tw14186861990048026223 tw9066191261439327429 tw13371021465015463318 tw7769190476299587803 tw1931831929364847322 tw9460606508618687909 tw18311485591209081742 tw18038702534090751007 tw17173972254151239459 tw11982314933464592776 tw797478654777153732 tw8978775372141462270 tw14707529939569870658 tw12324745658422086405 tw10400230940481322926 tw6706105564202232895 tw12646095885099441732 tw6803193745157756810 tw5566498893573372534 tw14693632662529341382 tw16889775188644896092 tw4755831103034394514 tw4500281759195579246 tw16647150189020165054 tw18425289748667409898 tw7094779142729342002 tw1795226593208089556 tw236524481564483362 tw14102896825582283693 tw2534213070681189632 tw8990890131391356192 tw5641411463428667331 tw272808625761275379 tw13106445284291183938 tw8087347174765043595 tw13577578521892724341 tw1958358163554131210 tw8301931759619974278 tw2661650676342196292 tw11549832195791068487 tw347042745452929328 tw11806285871990913081 tw11248592746290111520 tw1854707117022726424 tw3109577090746003575 tw15167795053829813708 tw12517937585700446484 tw3487143418251527536 tw17555565729991380686 tw12247411229255853870 tw8229071132450075644 tw4584425243959389997 tw1373398562488189570 tw5960224865460935243 tw18165347706032223240 tw5763119118896207040 tw7364658746691599141 tw7853567894015524674 tw10573756734869587285 tw2455196392206309017 tw5709378194883156739 tw2559239237109559423 tw10545692130629398505 tw3324157716178240112 tw4357830751696533528 tw18146945691569483413 tw2887641625110119129 tw16171356892686120109 tw2716113889641764468 tw9264433890470585629 tw17257704681513288265 tw16587158586732461899 tw11596089823660170723 tw3570431947274162892 tw1926531494396711881 tw10893043609536414522 tw12741287979192026238 tw11233305598952911317 tw14747600449859935578 tw1975997010781136197 tw14314665442705633632 tw7344507457429716611 tw1220998656331511720 tw13731860156804923574 tw12528188960973544592 tw17942678212928902017 tw4696161042447724570 tw3347303581967872323 tw4466220430616916451 tw16901200447477117399 tw7219452596280890919 tw14327341661983303603 tw8284685250637999184 tw146824513706382818 tw7591821407161667358 tw17465523329448711196 tw14086222558825775347 tw6354071977064836089 tw9061010513952205791 tw16170860888878892507 tw8558377790869087531 tw7871176572900701675 tw17703958941522394551 tw2307243639481875455 tw11408700340012523423 tw10402981965049506899 tw15509497600503417166 tw11644258096232275253 tw4821878242872208608 tw5935726149897991116 tw11749153904961762101 tw17145688125020190037 tw16659390806442063527 tw10470515175138465307 tw8878053107600020342 tw1801626029253165676 tw9060433007165101979 tw3719488241744753523 tw10270547281891821328 tw9366094070634281805 tw4093632081438025707 tw7634897914277220572 tw5524377410650527537 tw14343144084762908462 tw14320777029847241747 tw4626553065342327127 tw5059971702333805001 tw13124383255788615881 tw8126706012056791404 tw14652967844608928314 tw18346139358547593310 tw15118837236586823034 tw13012005543697066333 tw5446549606571869764 tw17158535749208763101 tw2855764958633209204 tw14160645899760471826 tw17505879593543858757 tw1610759990137085897 tw6011152831070368864 tw12463566583608245593 tw12243278311273265152 tw3464400459300850178 tw8159612562569687248 tw16352097500435079491 tw7911561534770295743 tw13660166382062744570 tw3269202148894413 tw547873146148905818 tw8795780855363248512 tw13218386418745668708 tw13291283854422178124 tw17472172472108157996 tw14985739104255725127 tw11841748872100958672 tw6567985036602568899 tw8169921671670220449 tw6418410650442480098 tw3032368257510826102 tw4441131437951210260 tw6439053025745295163 tw15121754097858806819 tw12103215752337631864 tw17353939010398602692 tw13533357806826179594 tw11884477957762869481 tw12790778479262431940 tw8185917984482813156 tw4232675391999862956 tw13476685438510345767 tw3933199773758115392 tw3373035857283096173 tw4841491657727186421 tw17379416631346505399 tw5066658648743256750 tw13021740499071428892 tw95155930709926023 tw7504297807216269626 tw4603867295554914394 tw7890224889056570928 tw4664896525609083310 tw15796290409863270138 tw9122337242967721043 tw5249677815422563837 tw17240991559958099556 tw12678086290308933527 tw15354377179778737622 tw2354880122179619863 tw441974873046869521 tw2586066411620290246 tw1151611252834240125 tw16191041079839393791 tw8622003155402084255 tw12651555073361309833 tw3838347982572616095 tw16755232379079014494 tw8840349646781827783 tw8841724944570912404 tw236693636350067125 tw16201507877902780451 tw12556163755607287592 tw1465886445425170710 tw6054854703290970188 tw188977256368888959 tw15678355648815944156 tw12758695069625153648 tw5417206133292330887 tw4674361359374777735 tw5355333644147106188 tw10472286626582544219 tw10309030589745494985 tw1290628206403992098 tw17205062830289094746 tw7447879886202031189 tw16443502247858996633 tw7151773154664072700 tw957980175490068912 tw17850034578217989293 tw5746099674502918011 tw17883930592336882843 tw17964010292392086618 tw16246715793693457709 tw8713465182892061326 tw3342765410856925922 tw6244047082671839423 tw8908417202164070051 tw9724237155785576674 tw12287282030172958239 tw1468879313990217284 tw8477307071161202878:True)
open PySem PySem.W PyProof.Rows
set_option maxRecDepth 100000 in
set_option maxHeartbeats 0 in
theorem PySem.Challenge.cw_shortpurse_k42_whole_going_away_and_two_holds : PySem.Challenge.rw_shortpurse_k42_whole_going_away_and_two.Holds := by
 w_on;o_law;k_head;(case hw=>w_witness2)
 k_fill
 refine K.walk (l:=PySem.Challenge.rw_shortpurse_k42_whole_going_away_and_two) rfl rfl (λw h Y=>PySem.W.kIn_of Y) ?F
 case F=>
  intro w mg p h g G m;refine' K.all_mk g G m ?_ ?_ ?_ ?_ ?_ ?_ ?_ ?_ ?_ ?_ ?_ ?_ ?_ ?_ ?_ ?_ ?_ ?_ ?_ ?_ ?_ ?_ ?_ ?_ ?_ ?_ ?_ ?_ ?_ ?_ ?_ ?_ ?_ ?_ ?_ ?_ ?_ ?_ ?_ ?_ ?_ ?_ ?_ ?_ ?_ ?_ ?_ ?_ ?_ ?_ ?_ ?_ ?_ ?_ ?_ ?_ ?_ ?_ ?_ ?_ ?_ ?_ ?_ ?_ ?_ ?_ ?_ ?_ ?_ ?_ ?_ ?_ ?_ ?_ ?_ ?_ ?_ ?_ ?_ ?_ ?_ ?_ ?_ ?_ ?_ ?_ ?_ ?_ ?_ ?_ ?_ ?_ ?_ ?_ ?_ ?_ ?_ ?_ ?_ ?_ ?_ ?_ ?_ ?_ ?_ ?_ ?_ ?_ ?_ ?_ ?_ ?_ ?_ ?_ ?_ ?_ ?_ ?_ ?_ ?_ ?_ ?_ ?_ ?_ ?_ ?_ ?_ ?_ ?_ ?_ ?_ ?_ ?_ ?_ ?_
  all_goals try first
   |(refine' S.dk_mk g G ?a ?l ?c ?k ?b;(case a=>k_is);(case l=>k_is);(case c=>k_is);(case k=>k_is);(case b=>first|(exact λ_ _ _ _ _ _=>S.all1 λ_=>rfl)|(exact λ_ _ _ _ _ _=>S.all2 λ_ _=>rfl)|(exact λ_ _ _ _ _ _=>S.all3 λ_ _ _=>rfl)|(exact λ_ _ _ _ _ _=>S.all4 λ_ _ _ _=>rfl)|(exact λ_ _ _ _ _ _=>S.all5 λ_ _ _ _ _=>rfl)))
   |(refine' S.fk_mk ?l ?c ?k ?b;(case l=>k_is);(case c=>k_is);(case k=>k_is);(case b=>first|(exact λ_ _ _ _ _ _=>S.all1 λ_=>rfl)|(exact λ_ _ _ _ _ _=>S.all2 λ_ _=>rfl)|(exact λ_ _ _ _ _ _=>S.all3 λ_ _ _=>rfl)|(exact λ_ _ _ _ _ _=>S.all4 λ_ _ _ _=>rfl)|(exact λ_ _ _ _ _ _=>S.all5 λ_ _ _ _ _=>rfl)))
   |(exact S.CkT.mk (by k_is) (by k_is) (by k_is) (by k_is) (by k_is) (by k_is) (by k_is) (by k_is) (by k_is) (by k_is) (by k_is) (by k_is) (by kit_is) (by k_is) (by k_is) (by k_is))
   |(refine' S.Bl.mk ?_ ?_ ?_ ?_ ?_ ?_ ?_ ?_ ?_ ?_ ?_ ?_ ?_ ?_ ?_ ?_;all_goals exact PySem.W.mg_none_of g G (by k_is))
   |(refine' S.Bl3.mk ?_ ?_;all_goals exact PySem.W.mg_none_of g G (by k_is))
   |k_is
