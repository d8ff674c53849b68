import PyProof.Rows.All
import Wide.All
import OpenK.AllK
import Wide.FinOn
import Lean
import PyProof.EqAt
import PyProof.EqKinds
import PyProof.TupleCall
import PyProof.Draws
import PyProof.EnumMake
import PyProof.ZipIter
import PyProof.Rows.SumAny
import KE.KRevIter
import PyProof.StrCalls2
import KE.KRevSl
import KE.LcSums
import PyProof.Rows.SetFrom
import PyProof.DictIter
import PyProof.CollectWalk
import PyProof.Rows.SortRev
import PySem.Challenge.RW_shortpurse_k26_ranks_and_groups
set_option Elab.async false
set_option linter.all false
set_option maxRecDepth 100000
set_option maxHeartbeats 4000000
abbrev ja:=@List.length_map
abbrev jb:=@List.getElem?_eq_getElem
abbrev jc:=@List.mem_of_getElem?
abbrev jd:=@List.mem_cons_self
abbrev je:=@List.getElem?_eq_some_iff
abbrev jf:=@List.mem_cons_of_mem
abbrev jg:=@PySem.wpAny_bind
abbrev jh:=@List.getElem?_map
abbrev ji:=@PySem.Heap.get?_push_of_some
abbrev jk:=@List.mem_map
abbrev jm:=@List.getD_eq_getElem?_getD
abbrev jn:=@List.mem_cons
abbrev jo:=@List.pairwise_cons
abbrev jp:=@List.not_mem_nil
abbrev jq:=@List.map_cons
abbrev jr:=@PySem.wpAny_pure
abbrev js:=@List.map_map
abbrev jt:=@List.getElem?_zipWith
abbrev ju:=@List.mem_singleton
abbrev jv:=@PySem.Heap.lt_size
abbrev jw:=@List.mem_iff_getElem?
abbrev jx:=@PySem.Heap.get?_push_size
abbrev jy:=@Nat.le_refl
abbrev jz:=@List.length_cons
abbrev jA:=@List.length_zipWith
abbrev jB:=@List.length_replicate
abbrev jC:=@Rat.le_of_lt
abbrev jD:=@of_decide_eq_true
abbrev jE:=@List.getElem?_eq_none
abbrev jF:=@List.map_congr_left
abbrev jG:=@List.mem_append_right
abbrev jH:=@List.size_toArray
abbrev jI:=@Bool.false_ne_true
abbrev jJ:=@List.length_append
abbrev jK:=@if_pos
abbrev jL:=@Option.some.inj
abbrev jM:=@List.sum_cons
abbrev jN:=@List.pairwise_iff_getElem
abbrev jO:=@Nat.ne_of_lt
abbrev jP:=@Rat.le_refl
abbrev jQ:=@if_neg
abbrev jR:=@List.getElem_of_mem
abbrev jS:=@Nat.le_trans
abbrev jT:=@PySem.Heap.size_push
abbrev jU:=@List.getElem?_replicate
abbrev jV:=@List.mem_append
abbrev jW:=@Rat.mul_nonneg
abbrev jX:=@List.getElem_zipWith
abbrev jY:=@Nat.lt_of_lt_of_le
abbrev jZ:=@Rat.intCast_mul
abbrev qa:=@List.getElem_mem
abbrev qb:=@Rat.intCast_le_intCast
abbrev qc:=@decide_eq_true
abbrev qd:=@List.getLast?_eq_some_getLast
abbrev qe:=@PySem.PassesOwn.never
abbrev qf:=@Int.toNat_natCast
abbrev qg:=@List.ext_getElem?
abbrev qh:=@Rat.not_lt
abbrev qi:=@List.pairwise_map
abbrev qj:=@Nat.lt_succ_self
abbrev qk:=@Int.fmod_eq_emod_of_nonneg
abbrev qm:=@decide_eq_false
abbrev qo:=@List.mem_filter
abbrev qp:=@PySem.F.plainAttrs_list
abbrev qq:=@List.getElem?_zip_eq_some
abbrev qt:=@List.length_drop
abbrev qu:=@List.ext_getElem
abbrev qv:=@List.replicate_succ
abbrev qw:=@List.length_reverse
abbrev qx:=@List.map_append
abbrev qy:=@List.take_of_length_le
abbrev qA:=@List.getElem_replicate
abbrev qB:=@Int.fdiv_eq_ediv_of_nonneg
abbrev qC:=@List.getElem?_append_right
abbrev qD:=@Nat.lt_succ_of_lt
abbrev qE:=@List.cons_append
abbrev qF:=@PySem.wpAny_callSpecial?_slot
abbrev qG:=@Rat.le_trans
abbrev qH:=@List.getLast?_cons_cons
abbrev qI:=@Nat.min_self
abbrev qJ:=@List.pairwise_append
abbrev qK:=@List.mem_of_mem_tail
abbrev qL:=@List.all_eq_true
abbrev qM:=@List.nodup_cons
abbrev qN:=@List.flatten_cons
abbrev qO:=@PySem.F.slot_list_append
abbrev qP:=@PySem.F.type_list_append
abbrev qQ:=@Rat.mul_inv_cancel
abbrev qR:=@PySem.Heap.SameBut.update
abbrev qS:=@List.length_take
abbrev qT:=@PySem.wpAny_call_entry
abbrev qU:=@PySem.wpAny_newObj_type
abbrev qV:=@List.take_add_one
abbrev qW:=@List.mem_append_left
abbrev qX:=@List.mem_of_getLast?
abbrev qY:=@Rat.div_def
abbrev qZ:=@Int.emod_lt_of_pos
abbrev wa:=@PyProof.Rows.callWith_type1
abbrev wb:=@List.append_assoc
abbrev we:=@Rat.not_le
abbrev wf:=@List.pairwise_singleton
abbrev wg:=@Nat.zero_le
abbrev wj:=@Nat.le_succ
abbrev wl:=@PySem.wpAny_pyIter_tuple
abbrev wm:=@List.getElem?_drop
abbrev wo:=@List.zipWith_cons_cons
abbrev wq:=@PySem.W.kia_one
abbrev wt:=@List.getElem?_append_left
abbrev wu:=@List.getLast?_eq_getElem?
abbrev wv:=@Nat.lt_irrefl
abbrev ww:=@Array.length_toList
abbrev wx:=@List.length_filter_le
abbrev wy:=@Int.emod_nonneg
abbrev wA:=@PySem.W.mg_of
abbrev wB:=@List.map_nil
abbrev wC:=@Bool.and_eq_true
abbrev wD:=@List.getElem_map
abbrev wE:=@PySem.wpAny_pyIter_list
abbrev wF:=@PySem.mem_of_lookup
abbrev wG:=@List.getLast?_map
abbrev wH:=@PySem.Heap.get?_update_self
abbrev wI:=@List.length_singleton
abbrev wJ:=@List.nil_append
abbrev wK:=@Rat.le_antisymm
abbrev wL:=@PySem.wpAny_Call_Name_kw
abbrev wM:=@Option.isSome_iff_exists
abbrev wN:=@List.lookup_cons
abbrev wO:=@PySem.wpAny_field
abbrev wP:=@List.length_tail
abbrev wQ:=@Rat.lt_irrefl
abbrev wR:=@List.mem_singleton_self
abbrev wS:=@PyProof.Rows.F.plain_set_update_loop
abbrev wT:=@List.Sublist.refl
abbrev wU:=@beq_eq_false_iff_ne
abbrev wV:=@List.filterMap_cons
abbrev wW:=@List.append_nil
abbrev wX:=@List.map_const'
abbrev wY:=@Rat.intCast_sub
abbrev wZ:=@List.length_pos_iff
abbrev Ja:=@List.length_pos_of_mem
abbrev Jb:=@PySem.F.slot_tuple_iterator_next
abbrev Jc:=@Array.getElem?_eq_some_iff
abbrev Jd:=@Nat.ne_of_gt
abbrev Je:=@PySem.wpAny_setField_rec
abbrev Jf:=@Rat.divInt_mul_divInt
abbrev Jg:=@List.Pairwise.sublist
abbrev Jh:=@PySem.wpAny_seqItems
abbrev Ji:=@PySem.wpAny_setField
abbrev Jj:=@List.getElem?_eq_none_iff
abbrev Jk:=@PySem.Around.under_plainId
abbrev Jl:=@PySem.wpAny_passesOwn
abbrev Jm:=@List.length_filterMap_le
abbrev Jn:=@Int.le_of_lt
abbrev Jo:=@Int.mul_le_mul_of_nonneg_right
abbrev Jp:=@PySem.wpAny_holding
abbrev Jq:=@PySem.wpAny_setEntries_of
abbrev Jr:=@PySem.Heap.get?_update_other
abbrev Js:=@PySem.SeqAt.canLay_of_shaped
abbrev Jt:=@Rat.intCast_lt_intCast
abbrev Ju:=@List.drop_eq_nil_of_le
abbrev Jv:=@List.dropLast_concat_getLast
abbrev Jw:=@List.map_replicate
abbrev Jx:=@Int.gcd_pos_of_ne_zero_right
abbrev Jy:=@List.of_mem_zip
abbrev Jz:=@PySem.wpAny_loadPart'
abbrev JA:=@Rat.mul_pos
abbrev JB:=@Nat.le_of_ble_eq_true
abbrev JC:=@PySem.codeAny_builtin
abbrev JD:=@PySem.F.called_set
abbrev JE:=@Int.le_trans
abbrev JF:=@PySem.wpAny_attempt
abbrev JG:=@PySem.wpAny_setState_of
abbrev JH:=@List.Pairwise.imp
abbrev JI:=@List.getElem?_set_ne
abbrev JJ:=@List.drop_eq_getElem_cons
abbrev JK:=@List.mem_reverse
abbrev JL:=@List.zipWith_map
abbrev JM:=@List.map_zipWith
abbrev JN:=@List.filter_cons
abbrev JO:=@Int.le_refl
abbrev JP:=@Nat.le_of_lt
abbrev JQ:=@PySem.wpAny_comprehension_free
abbrev JR:=@Rat.divInt_eq_divInt_iff
abbrev JS:=@Nat.zero_add
abbrev JT:=@Rat.zero_mul
abbrev JU:=@Int.gcd_dvd_natAbs_right
abbrev JV:=@List.mem_filterMap
abbrev JW:=@Bool.eq_iff_iff
abbrev JX:=@PySem.W.callWith_K
abbrev JY:=@List.length_set
abbrev JZ:=@Bool.false_eq_true
abbrev Qa:=@PySem.Obj.data_mapFields
abbrev Qb:=@Rat.num_divInt_den
abbrev Qc:=@Int.natCast_pow
abbrev Qd:=@List.getLast?_cons
abbrev Qe:=@PySem.wpAny_truthy_bool
abbrev Qf:=@Int.mul_one
abbrev Qg:=@List.length_range
abbrev Qh:=@List.mem_range
abbrev Qi:=@PySem.codeAny_mono
abbrev Qj:=@PySem.wpAny_rule
set_option exponentiation.threshold 2000
namespace L2
open PySem PySem.Spec PyProof.Rows
abbrev Key:=Sum Int Str
def keyIs:Key->Value->Bool
 | .inl k,v=>Value.isInt k v
 | .inr x,v=>Value.isStrOf x v
def keyH (w:World):Key->Int
 | .inl k=>hashInt k
 | .inr x=>hashStr w x
theorem Ze:∀{k:Key} {v:Value},keyIs k v=true->(∃i t,k=Sum.inl i/\v=Value.int i t)\/(∃x t,k=Sum.inr x/\v=Value.str x t)
 | .inl i,v,h=>by
   obtain ⟨t,e⟩:=Value.isInt_shape (k:=i) (v:=v) h;exact .inl ⟨i,t,rfl,e⟩
 | .inr x,v,h=>by
   obtain ⟨t,e⟩:=Value.isStrOf_shape (x:=x) (v:=v) h;exact .inr ⟨x,t,rfl,e⟩
theorem key_ll (a b:Int):decide ((Sum.inl a:Key)=Sum.inl b)=(a==b):=by
 by_cases e:a=b
 ·subst e;simp
 ·have h:¬(Sum.inl a:Key)=Sum.inl b:=λq=>e (Sum.inl.inj q);rw [qm h];exact (wU.mpr e).symm
theorem key_rr (a b:Str):decide ((Sum.inr a:Key)=Sum.inr b)=decide (a=b):=by
 by_cases e:a=b
 ·subst e;simp
 ·have h:¬(Sum.inr a:Key)=Sum.inr b:=λq=>e (Sum.inr.inj q);rw [qm h,qm e]
theorem key_lr (a:Int) (b:Str):decide ((Sum.inl a:Key)=Sum.inr b)=false:=qm (λq=>nomatch q)
theorem key_rl (a:Str) (b:Int):decide ((Sum.inr a:Key)=Sum.inl b)=false:=qm (λq=>nomatch q)
def znI (prog:Program) (w:World):PySem.KeyKind prog w Key where
 is:=keyIs
 hash:=keyH w
 inj:=λv a b ha hb=>by
  rcases Ze ha with ⟨i,t,rfl,rfl⟩|⟨x,t,rfl,rfl⟩
  ·rcases Ze hb with ⟨j,u,rfl,e⟩|⟨y,u,rfl,e⟩
   ·injection e with e1 _;rw [e1]
   ·exact nomatch e
  ·rcases Ze hb with ⟨j,u,rfl,e⟩|⟨y,u,rfl,e⟩
   ·exact nomatch e
   ·injection e with e1 _;rw [e1]
 byValue:=λk v h=>by
  rcases Ze h with ⟨i,t,rfl,rfl⟩|⟨x,t,rfl,rfl⟩<;>rfl
 pyHash:=λhv h=>by
  rcases Ze hv with ⟨i,t,rfl,rfl⟩|⟨x,t,rfl,rfl⟩
  ·exact wpAny_pyHash_int h
  ·exact wpAny_pyHash_str h
 eqBool:=λhu hv h=>by
  rcases Ze hu with ⟨i,t,rfl,rfl⟩|⟨x,t,rfl,rfl⟩
  ·rcases Ze hv with ⟨j,u,rfl,rfl⟩|⟨y,u,rfl,rfl⟩
   ·rw [key_ll] at h;exact wpAny_eqBool_int h
   ·rw [key_lr] at h;exact SeqAt.EqAt.int_str i t y u _ _ _ _ h
  ·rcases Ze hv with ⟨j,u,rfl,rfl⟩|⟨y,u,rfl,rfl⟩
   ·rw [key_rl] at h;exact SeqAt.EqAt.str_int x t j u _ _ _ _ h
   ·rw [key_rr] at h;exact wpAny_eqBool_str h
 «strs»:=λk x t v h=>by
  rcases Ze h with ⟨i,u,rfl,e⟩|⟨y,u,rfl,e⟩
  ·exact nomatch e
  ·injection e with e1 _
   subst e1;cases v<;>rfl
end L2
namespace L2
open PySem PySem.Spec PyProof.Rows
inductive V where
 |non|bl (b:Bool)|int (i:Int)|str (x:Str)|byt (b:Array UInt8)|flt (b:UInt64)|ref (a:Addr)|ty (n:String)
 deriving DecidableEq
def YZ:V->Value->Prop
 | .non,u=>u=Value.none
 | .bl b,u=>u=Value.bool b
 | .int i,u=>∃t,u=Value.int i t
 | .str x,u=>∃t,u=Value.str x t
 | .byt b,u=>∃t,u=Value.bytes b t
 | .flt b,u=>∃t,u=Value.float b t
 | .ref a,u=>u=Value.ref a
 | .ty n,u=>u=Value.type n
abbrev Zw:List V->List Value->Prop:=Paired YZ
theorem Zw.length {xs:List V} {us:List Value} (r:Zw xs us):xs.length=us.length:=Paired.length r
theorem Zw.get:∀{xs:List V} {us:List Value} {i:Nat} {x:V},Zw xs us->xs[i]? =some x->∃u,us[i]? =some u/\YZ x u
 |_,_,_,_, .nil,e=>by simp at e
 |_,_,0,_, .cons r _,e=>by simp at e;subst e;exact ⟨_,rfl,r⟩
 |_,_,i+1,x, .cons _ t,e=>by
  obtain ⟨u,h1,h2⟩:=Zw.get (i:=i) (x:=x) t (by simpa using e);exact ⟨u,by simpa using h1,h2⟩
theorem Zw.set {x:V} {u:Value} (r:YZ x u):∀{xs:List V} {us:List Value} (i:Nat),Zw xs us->Zw (xs.set i x) (us.set i u)
 |_,_,_, .nil=> .nil
 |_,_,0, .cons _ t=> .cons r t
 |_,_,i+1, .cons q t=> .cons q (Zw.set r i t)
theorem Zw.append:∀{xs ys:List V} {us ws:List Value},Zw xs us->Zw ys ws->Zw (xs++ys) (us++ws)
 |_,_,_,_, .nil,s=>s
 |_,_,_,_, .cons r t,s=> .cons r (Zw.append t s)
theorem Zw.take:∀{xs:List V} {us:List Value} (n:Nat),Zw xs us->Zw (xs.take n) (us.take n)
 |_,_,0,_=> .nil
 |_,_,_+1, .nil=> .nil
 |_,_,n+1, .cons r t=> .cons r (Zw.take n t)
theorem Zw.drop:∀{xs:List V} {us:List Value} (n:Nat),Zw xs us->Zw (xs.drop n) (us.drop n)
 |_,_,0,r=>r
 |_,_,_+1, .nil=> .nil
 |_,_,n+1, .cons _ t=>Zw.drop n t
def zoF:Option V->Option Value->Prop
 |some v,some u=>YZ v u
 |none,none=>True
 |_,_=>False
def KV {κ:Type}:List (κ×V)->List (κ×Value)->Prop:=Paired λ(p:κ×V) (q:κ×Value)=>p.1=q.1/\YZ p.2 q.2
def kV:Key->V
 | .inl i=> .int i
 | .inr x=> .str x
inductive HO where
 |lst (xs:List V)
 |tup (xs:List V)
 |dK (kvs:List (Key×V))|dT (kvs:List (List Key×V))
 |set (S:Int->Bool) (n:Nat)
 |ins (C dx:Addr) (fs:List (Str×V))
 |own (x:Addr)
 |xd (fs:List (Str×V))
 |met (f x:Addr)
 |rng (lo hi:Int)
 |frz (o:Obj) (u:HO)
 |tbl (ps:Array Value)
 |ext (φ:Heap->Prop)
abbrev Hp:=Addr->Option HO
def upd (H:Hp) (a:Addr) (o:HO):Hp:=λb=>if b=a then some o else H b
theorem xC {H:Hp} {a:Addr} {o:HO}:upd H a o a=some o:=by unfold upd;rw [jK rfl]
theorem yE {H:Hp} {a b:Addr} {o:HO} (h:b≠a):upd H a o b=H b:=by unfold upd;rw [jQ h]
theorem yL {H:Hp} {a b:Addr} {o:HO} (h:H a=some o) (h':H b=none):a≠b:=by
 intro e;subst e;rw [h] at h';cases h'
section
variable (P:Program) (w:World)
def Xi (H:Hp) (h:Heap) (a:Addr):HO->Prop
 | .lst xs=>xs.length<=sizeLine/\∃(its:List Value) (n:Nat),Zw xs its/\h.get? a=some {cls:= .type "list",data:= .seq its.toArray n}
 | .tup xs=>xs.length<=sizeLine/\∃its:List Value,Zw xs its/\IsTup h a its.toArray
 | .dK kvs=>kvs.length<=sizeLine/\(a==sysModules)=false/\∃vs,KV kvs vs/\h.DictOf (znI P w) a vs
 | .dT kvs=>kvs.length<=sizeLine/\(a==sysModules)=false/\∃xs:List (List Key×Addr×Value),
  Paired (λ(p:List Key×V) (q:List Key×Addr×Value)=>p.1=q.1/\H q.2.1=some (.tup (p.1.map kV))/\YZ p.2 q.2.2) kvs xs/\
  ∃o es ep,h.get? a=some o/\o.ExactDict/\o.data= .dict es ep/\es.toList=xs.map (entryOfKey (tupleKind (znI P w)))/\(xs.map (·.1)).Nodup
 | .set S n=>h.SetOf (intKind P w) a S n
 | .ins C dx fs=>H dx=some (.own a)/\fs.length<=1000/\dx≠a/\h.get? a=some (PySem.W.instObj C dx)/\
  ∃mA,h.Ns1 dx mA/\(∀f,zoF (fs.lookup f) (mA f))/\PySem.Within mA (fs.map (·.1))
 | .own _=>∃o,h.get? a=some o
 | .xd fs=>∃mA,h.Ns1 a mA/\∀f,zoF (fs.lookup f) (mA f)
 | .rng lo hi=>∃t u v,h.get? a=some {cls:= .type "range",data:= .fields #[.int lo t, .int hi u, .int 1 v]}
 | .frz o u=>h.get? a=some o/\Xi H h a u
 | .tbl ps=>h.get? a=some {cls:= .none,data:= .fields ps}
 | .met f x=>h.get? a=some (PySem.W.methodObj (.ref f) (.ref x))
 | .ext φ=>φ h/\(∃o,h.get? a=some o)/\∀h1 h2:Heap,φ h1->(∀o,h1.get? a=some o->h2.get? a=some o)->φ h2
def HOk (H:Hp) (h:Heap):Prop:=∀a o,H a=some o->Xi P w H h a o
end
section
variable {P:Program} {w:World} {H H':Hp} {h h':Heap} {a:Addr} {o:HO}
theorem Xi.lt (x:Xi P w H h a o):a<h.objs.size:=by
 cases o with
 |lst xs=>obtain ⟨_,_,_,_,e⟩:=x;exact jv e
 |tup xs=>obtain ⟨_,_,_,p⟩:=x;exact p.lt
 |dK kvs=>obtain ⟨_,_,_,_,o,_,_,e,_⟩:=x;exact jv e
 |dT kvs=>obtain ⟨_,_,_,_,o,_,_,e,_⟩:=x;exact jv e
 |set S n=>obtain ⟨o,_,_,_,e,_⟩:=x;exact jv e
 |ins C dx fs=>obtain ⟨_,_,_,e,_⟩:=x;exact jv e
 |own y=>obtain ⟨_,e⟩:=x;exact jv e
 |xd fs=>obtain ⟨_,⟨_,_,_,e,_⟩,_⟩:=x;exact jv e
 |rng lo hi=>obtain ⟨_,_,_,e⟩:=x;exact jv e
 |frz ob u=>obtain ⟨e,_⟩:=x;exact jv e
 |tbl ps=>exact jv (show h.get? a=some _ from x)
 |met f y=>exact jv (show h.get? a=some _ from x)
 |ext φ=>obtain ⟨_,⟨_,e⟩,_⟩:=x;exact jv e
theorem Paired.mapP {α β:Type} {F G:α->β->Prop}:∀{l₁:List α} {l₂:List β},Paired F l₁ l₂->(∀a b,F a b->G a b)->Paired G l₁ l₂
 |_,_, .nil,_=> .nil
 |_,_, .cons r t,f=> .cons (f _ _ r) (Paired.mapP t f)
theorem Xi.stay (x:Xi P w H h a o) (k:∀b u,(b=a\/H b=some (.own a))->h.get? b=some u->h'.get? b=some u)
 (ho:∀b,H b=some (.own a)->H' b=some (.own a)) (ht:∀b xs,H b=some (.tup xs)->H' b=some (.tup xs)):Xi P w H' h' a o:=by
 induction o with
 |lst xs=>obtain ⟨z,its,n,r,e⟩:=x;exact ⟨z,its,n,r,k _ _ (.inl rfl) e⟩
 |tup xs=>obtain ⟨z,its,r,ob,e,c⟩:=x;exact ⟨z,its,r,ob,k _ _ (.inl rfl) e,c⟩
 |dK kvs=>obtain ⟨z,y,vs,r,ob,es,ep,e,c⟩:=x;exact ⟨z,y,vs,r,ob,es,ep,k _ _ (.inl rfl) e,c⟩
 |dT kvs=>
  obtain ⟨z,y,xs,r,ob,es,ep,e,c⟩:=x;exact ⟨z,y,xs,Paired.mapP r λp q z=>⟨z.1,ht _ _ z.2.1,z.2.2⟩,ob,es,ep,k _ _ (.inl rfl) e,c⟩
 |set S n=>obtain ⟨ob,es,ep,t,e,c⟩:=x;exact ⟨ob,es,ep,t,k _ _ (.inl rfl) e,c⟩
 |ins C dx fs=>
  obtain ⟨d,z,ne,e,mA,⟨od,es,ep,e2,c⟩,r⟩:=x;exact ⟨ho _ d,z,ne,k _ _ (.inl rfl) e,mA,⟨od,es,ep,k _ _ (.inr d) e2,c⟩,r⟩
 |own y=>obtain ⟨ob,e⟩:=x;exact ⟨ob,k _ _ (.inl rfl) e⟩
 |xd fs=>obtain ⟨mA,⟨od,es,ep,e,c⟩,r⟩:=x;exact ⟨mA,⟨od,es,ep,k _ _ (.inl rfl) e,c⟩,r⟩
 |rng lo hi=>obtain ⟨t,u,v,e⟩:=x;exact ⟨t,u,v,k _ _ (.inl rfl) e⟩
 |frz ob u ih=>obtain ⟨e,q⟩:=x;exact ⟨k _ _ (.inl rfl) e,ih q⟩
 |tbl ps=>
  have e:h.get? a=some {cls:= .none,data:= .fields ps}:=x;show h'.get? a=some {cls:= .none,data:= .fields ps};exact k a _ (.inl rfl) e
 |met f y=>
  have e:h.get? a=some (PySem.W.methodObj (.ref f) (.ref y)):=x;show h'.get? a=some (PySem.W.methodObj (.ref f) (.ref y));exact k a _ (.inl rfl) e
 |ext φ=>obtain ⟨p,⟨o,e⟩,st⟩:=x;exact ⟨st _ _ p λo q=>k _ _ (.inl rfl) q,⟨o,k _ _ (.inl rfl) e⟩,st⟩
theorem HOk.lt (x:HOk P w H h) (e:H a=some o):a<h.objs.size:=(x a o e).lt
theorem HOk.fresh (x:HOk P w H h) (e:h.objs.size<=a):H a=none:=by
 cases q:H a with
 |none=>rfl
 |some u=>exact absurd (jY (x.lt q) e) (wv _)
theorem HOk.kept (x:HOk P w H h) (k:∀b u,h.get? b=some u->h'.get? b=some u):HOk P w H h':=λa o e=>
 (x a o e).stay (λb u _ q=>k b u q) (λ_ q=>q) λ_ _ q=>q
theorem HOk.laid (x:HOk P w H h) (k:∀b u,h.get? b=some u->h'.get? b=some u) (hp:h.objs.size<=a) (new:Xi P w (upd H a o) h' a o):HOk P w (upd H a o) h':=λb u e=>by
 have hn:=x.fresh hp
 by_cases hb:b=a
 ·subst hb;rw [xC] at e;cases e;exact new
 ·rw [yE hb] at e;exact (x b u e).stay (λc v _ q=>k c v q) (λc q=>by rw [yE (yL q hn)];exact q) λc xs q=>by rw [yE (yL q hn)];exact q
end
def Rd (H:Hp) (a:Addr) (u:HO):Prop:=H a=some u\/∃o,H a=some (.frz o u)
theorem Rd.ok {P:Program} {w:World} {H:Hp} {h:Heap} {a:Addr} {u:HO} (r:Rd H a u) (x:HOk P w H h):Xi P w H h a u:=by
 rcases r with r|⟨o,r⟩
 ·exact x a u r
 ·obtain ⟨_,q⟩:=x a _ r;exact q
def Mut:Option HO->Prop
 |some (.lst _)=>True
 |some (.dK _)=>True
 |some (.dT _)=>True
 |some (.set _ _)=>True
 |some (.ins _ _ _)=>True
 |some (.ext _)=>True
 |_=>False
section
variable {P:Program} {w:World} {H:Hp} {h h':Heap} {x e:Addr} {o':HO}
theorem HOk.write (ok:HOk P w H h) (mu:Mut (H x)) (he:e=x\/H e=some (.own x)) (k:∀b u,b≠e->h.get? b=some u->h'.get? b=some u) (heo:∃u,h'.get? e=some u)
 (new:Xi P w (upd H x o') h' x o'):HOk P w (upd H x o') h':=λb u q=>by
 have nown:∀c y,H c=some (.own y)->c≠x:=λc y r z=>by subst z;rw [r] at mu;exact mu
 have ntup:∀c xs,H c=some (.tup xs)->c≠x:=λc xs r z=>by subst z;rw [r] at mu;exact mu
 by_cases hb:b=x
 ·subst hb;rw [xC] at q;cases q;exact new
 ·rw [yE hb] at q
  by_cases hbe:b=e
  ·have q':H b=some (.own x):=by
    rcases he with z|z
    ·exact absurd (hbe.trans z) hb
    ·rw [hbe];exact z
   rw [q] at q';cases q';obtain ⟨v,hv⟩:=heo;exact ⟨v,by rw [hbe];exact hv⟩
  ·refine (ok b u q).stay (λc v hc r=>k c v ?_ r) (λc r=>by rw [yE (nown c b r)];exact r) λc xs r=>by rw [yE (ntup c xs r)];exact r
   rcases hc with rfl|hc
   ·exact hbe
   ·rintro rfl
    rcases he with z|z
    ·exact nown c b hc z
    ·rw [hc] at z;cases z;exact hb rfl
end
structure Un (fs ex:List Addr) (H H':Hp) (h h':Heap):Prop where
 keep:∀b o,h.get? b=some o->H b=none->b∉fs->b∉ex->h'.get? b=some o
 slot:∀b o,h.get? b=some o->H b=none->b∈fs->b∉ex->∃sl,h'.get? b=some {o with slots:=sl}
 free:∀b o,h.get? b=some o->H b=none->b∉ex->H' b=none
 there:∀b o,h.get? b=some o->b∉ex->∃o',h'.get? b=some o'
 tups:∀b xs,H b=some (.tup xs)->H' b=some (.tup xs)
 frzs:∀b o u,H b=some (.frz o u)->H' b=some (.frz o u)
 tbls:∀b ps,H b=some (.tbl ps)->∃more,H' b=some (.tbl (ps++more))
section
variable {fs fs' ex ex':List Addr} {H H1 H2:Hp} {h h1 h2 h':Heap} {a x e:Addr} {o:HO}
theorem Un.any (u:Un fs ex H H1 h h1) {b:Addr} {ob:Obj} (q:h.get? b=some ob) (n:H b=none) (hx:b∉ex):∃sl,h1.get? b=some {ob with slots:=sl}:=by
 by_cases hb:b∈fs
 ·exact u.slot b ob q n hb hx
 ·exact ⟨ob.slots,u.keep b ob q n hb hx⟩
theorem Un.trans (a:Un fs ex H H1 h h1) (b:Un fs ex H1 H2 h1 h2):Un fs ex H H2 h h2 where
 keep:=λc ob q n hc hx=>b.keep c ob (a.keep c ob q n hc hx) (a.free c ob q n hx) hc hx
 slot:=λc ob q n hc hx=>by
  obtain ⟨sl,e1⟩:=a.slot c ob q n hc hx;obtain ⟨sl',e2⟩:=b.slot c _ e1 (a.free c ob q n hx) hc hx;exact ⟨sl',e2⟩
 free:=λc ob q n hx=>by
  obtain ⟨o',e1⟩:=a.there c ob q hx;exact b.free c o' e1 (a.free c ob q n hx) hx
 there:=λc ob q hx=>by
  obtain ⟨o',e1⟩:=a.there c ob q hx;exact b.there c o' e1 hx
 tups:=λc xs q=>b.tups c xs (a.tups c xs q)
 frzs:=λc ob xs q=>b.frzs c ob xs (a.frzs c ob xs q)
 tbls:=λc ps q=>by
  obtain ⟨m1,e1⟩:=a.tbls c ps q;obtain ⟨m2,e2⟩:=b.tbls c _ e1;exact ⟨m1++m2,by rw [e2,Array.append_assoc]⟩
theorem Un.kept (k:∀b u,h.get? b=some u->h'.get? b=some u):Un fs ex H H h h':=
 ⟨λb ob q _ _ _=>k b ob q,λb ob q _ _ _=>⟨ob.slots,k b ob q⟩,λ_ _ _ n _=>n,λb ob q _=>⟨ob,k b ob q⟩,λ_ _ q=>q,λ_ _ _ q=>q,λ_ ps q=>⟨#[],by rw [q];simp⟩⟩
theorem Un.refl:Un fs ex H H h h:=Un.kept λ_ _ q=>q
theorem Un.laid (k:∀b u,h.get? b=some u->h'.get? b=some u) (hp:h.objs.size<=a) (hn:H a=none):Un fs ex H (upd H a o) h h' where
 keep:=λb u q _ _ _=>k b u q
 slot:=λb u q _ _ _=>⟨u.slots,k b u q⟩
 free:=λb u q n _=>by rw [yE (jO (jY (jv q) hp))];exact n
 there:=λb u q _=>⟨u,k b u q⟩
 tups:=λb xs q=>by rw [yE (yL q hn)];exact q
 frzs:=λb u xs q=>by rw [yE (yL q hn)];exact q
 tbls:=λb ps q=>⟨#[],by rw [yE (yL q hn),q];simp⟩
theorem Un.write (mu:Mut (H x)) (he:e=x\/H e=some (.own x)) (k:∀b u,b≠e->h.get? b=some u->h'.get? b=some u) (heo:∃u,h'.get? e=some u):Un fs ex H (upd H x o) h h':=by
 have hx:∀b,H b=none->b≠x:=λb n z=>by subst z;rw [n] at mu;exact mu
 have hb:∀b,H b=none->b≠e:=λb n z=>by
  subst z
  rcases he with r|r
  ·exact hx b n r
  ·rw [n] at r;cases r
 have hm:∀b u,H b=some u->¬Mut (some u)->b≠x:=λb u q nm z=>by subst z;rw [q] at mu;exact nm mu
 refine ⟨λb u q n _ _=>k b u (hb b n) q,λb u q n _ _=>⟨u.slots,k b u (hb b n) q⟩,λb u q n _=>by rw [yE (hx b n)];exact n,λb u q _=>?_,
  λb xs q=>by rw [yE (hm b _ q λz=>z)];exact q,λb u xs q=>by rw [yE (hm b _ q λz=>z)];exact q,λb ps q=>⟨#[],by rw [yE (hm b _ q λz=>z),q];simp⟩⟩
 by_cases hbe:b=e
 ·subst hbe;exact heo
 ·exact ⟨u,k b u hbe q⟩
end
def trk (h:Heap) (H:Hp):List Addr:=(List.range h.objs.size).filter λa=>(H a).isSome
def zp9 (h:Heap) (H:Hp):Heap:=PySem.W.hideAll h (trk h H)
theorem zn2 (h:Heap) (H:Hp):(zp9 h H).objs.size=h.objs.size:=PySem.W.hideAll_size _ _
theorem zp8 {h:Heap} {H:Hp} {b:Addr} {o:Obj} (e:h.get? b=some o) (n:H b=none):(zp9 h H).get? b=some o:=
 PySem.W.hideAll_get _ e λhm=>by
  have q:(H b).isSome=true:=(qo.mp hm).2;rw [n] at q;simp at q
theorem zsg {h:Heap} {H:Hp} {b:Addr} {o:Obj} (e:(zp9 h H).get? b=some o):h.get? b=some o/\H b=none:=by
 have e':h.get? b=some o:=PySem.W.of_hideAll (trk h H) e;refine ⟨e',?_⟩
 cases q:H b with
 |none=>rfl
 |some x=>
  have hm:b∈trk h H:=qo.mpr ⟨Qh.mpr (jv e'),by simp [q]⟩;have z:(zp9 h H).get? b=none:=PySem.W.hideAll_none (trk h H) hm;rw [z] at e;cases e
def zsQ (g h:Heap) (L:Addr):List (Addr×Obj):=(List.range h.objs.size).filterMap λa=>if a=L\/(g.get? a).isSome=true then none else (h.get? a).map λo=>(a,o)
def rest (g h:Heap) (L d:Addr):List (Addr×Obj):=(zsQ g h L).filter λp=>decide (p.1≠d)
end L2
namespace L2
open PySem PySem.Spec PyProof.Rows
structure Mod (K:PySem.W.Frag) (mg:Str->Option Value) (base:Heap):Prop where
 kin:K.In base
 glob:base.Ns mainGlobals mg
 blt:∃mb,base.Ns builtinsNs mb/\∀x:Str,x≠"__name__"->mb x=bootBuiltins x
 nolimit:base.NoLimit
structure Cx where
 prog:Program
 w:World
 K:PySem.W.Frag
 mg:Str->Option Value
 base:Heap
 A:Around
 N:List Str
 s₀:Shared
 H₀:Hp
 env:Env
 outer:List Env
 stack:List Env
 ex:List Addr
 fn:Str->Bool
 calm:Bool
 pn:List (Addr×Obj)
 xe:Value->Shared->Prop
def frs (l:List Env):List Addr:=l.filterMap (·.frame)
abbrev Cx.fs (X:Cx):List Addr:=frs X.outer
def Vis (sc:Scope) (x:Str):Prop:=sc.names.lookup x=some .local\/sc.names.lookup x=some .cell\/sc.names.lookup x=some .free
def Loc (sc:Scope) (x:Str):Prop:=sc.names.lookup x=some .local\/sc.names.lookup x=some .cell
def Look (env:Env) (h:Heap) (m:Str->Option Value) (x:Str) (u:Value):Prop:=
 (env.kindOf x=some .local/\m x=some u)\/((env.kindOf x=some .cell\/env.kindOf x=some .free)/\∃c,env.cells.lookup x=some c/\h.IsCell c (some u))
structure Cx.Ok (X:Cx):Prop where
 mod:Mod X.K X.mg X.base
 kind:X.env.scope.kind= .function
 glob:X.env.globals=mainGlobals
 blt:X.env.builtins=builtinsNs
 above:X.s₀.heap.objs.size<=X.env.locals
 inj:∀x y c,X.env.cells.lookup x=some c->X.env.cells.lookup y=some c->x=y
 has:∀x,(X.env.kindOf x=some .cell\/X.env.kindOf x=some .free)->∃c,X.env.cells.lookup x=some c
 cab:∀x c,X.fn x=true->X.env.cells.lookup x=some c->X.s₀.heap.objs.size<=c
 hd:X.calm=true->X.A.handled=none
 frames:X.A.frames=some X.stack
 stk:X.stack=X.outer\/(X.stack=X.env::X.outer/\X.env.frame=some X.env.locals)
 exf:∀b∈X.ex,b≠X.env.locals/\∀x c,X.env.cells.lookup x=some c->c≠b
 bs:∀b o,X.base.get? b=some o->X.s₀.heap.get? b=some o/\X.H₀ b=none
 bsz:X.base.objs.size<=X.s₀.heap.objs.size
 noex:∀b o,X.base.get? b=some o->b∉X.ex
 exfs:∀b∈X.ex,b∉X.fs
 funs:X.s₀.heap.FunFrames X.base X.outer
 frf:∀b∈X.fs,X.H₀ b=none
structure Inv (X:Cx) (pins:List (Addr×Obj)) (σ:List (Option V)) (H:Hp) (s:Shared):Prop where
 ok:X.Ok
 os:s.os=X.s₀.os
 bare:AllBare s.gens
 base:Un X.fs X.ex X.H₀ H X.s₀.heap s.heap
 loc:∃m,s.heap.Ns X.env.locals m/\∀(i:Nat) (x:Str) (v:V),X.N[i]? =some x->σ[i]? =some (some v)->Vis X.env.scope x->∃u,YZ v u/\Look X.env s.heap m x u
 cell:∀x c,X.env.cells.lookup x=some c->∃v,s.heap.IsCell c v
 free:H X.env.locals=none
 freeC:∀x c,X.env.cells.lookup x=some c->H c=none
 pin:∀p∈X.pn++pins,s.heap.get? p.1=some p.2/\H p.1=none/\p.1≠X.env.locals/\p.1∉X.fs/\∀v,p.2.data≠ .cell v
 hok:HOk X.prog X.w H s.heap
 len:σ.length=X.N.length
section
variable {X:Cx} {pins:List (Addr×Obj)} {σ:List (Option V)} {H H':Hp} {s:Shared} {h':Heap}
theorem Cx.Ok.nofr (ok:X.Ok) {b:Addr} {o:Obj} (e:X.base.get? b=some o):b∉X.fs:=λhb=>by
 have:=(ok.funs.mem hb).1;rw [e] at this;cases this
theorem Inv.bs (I:Inv X pins σ H s):∀b o,X.base.get? b=some o->s.heap.get? b=some o/\H b=none:=λb o e=>
 ⟨I.base.keep b o (I.ok.bs b o e).1 (I.ok.bs b o e).2 (I.ok.nofr e) (I.ok.noex b o e),I.base.free b o (I.ok.bs b o e).1 (I.ok.bs b o e).2 (I.ok.noex b o e)⟩
theorem Inv.bk (I:Inv X pins σ H s):∀b o,X.base.get? b=some o->s.heap.get? b=some o:=λb o e=>(I.bs b o e).1
theorem Inv.mod (I:Inv X pins σ H s):Mod X.K X.mg X.base:=I.ok.mod
theorem Inv.kIn (I:Inv X pins σ H s):X.K.In s.heap:=I.ok.mod.kin.keeps I.bk
theorem Inv.fr (I:Inv X pins σ H s):∃m,Fr X.base X.env.locals s.heap m:=
 let ⟨m,hn,_⟩:=I.loc
 ⟨m,hn,I.bk,jS I.ok.bsz I.ok.above⟩
theorem Inv.lt (I:Inv X pins σ H s):X.env.locals<s.heap.objs.size:=let ⟨_,hn,_⟩:=I.loc;hn.lt
theorem Inv.sz (I:Inv X pins σ H s):X.s₀.heap.objs.size<=s.heap.objs.size:=jS I.ok.above (JP I.lt)
theorem Inv.nofs (I:Inv X pins σ H s) {a:Addr} (h:s.heap.objs.size<=a):a∉X.fs:=λhb=>by
 obtain ⟨_,o,ho,_⟩:=I.ok.funs.mem hb;exact absurd (jY (jv ho) (jS I.sz h)) (wv _)
theorem Inv.cne (I:Inv X pins σ H s):∀x c,X.env.cells.lookup x=some c->c≠X.env.locals:=λx c e z=>by
 obtain ⟨v,o,ho,hd⟩:=I.cell x c e;obtain ⟨m,⟨o',es,ep,ho',hd',_⟩,_⟩:=I.loc;rw [z,ho'] at ho;cases ho;rw [hd'] at hd;cases hd
theorem Inv.funs (I:Inv X pins σ H s):s.heap.FunFrames X.base X.outer:=by
 have all:∀(l:List Env),(∀b∈frs l,b∈X.fs)->X.s₀.heap.FunFrames X.base l->s.heap.FunFrames X.base l:=by
  intro l
  induction l with
  |nil=>intro _ _;trivial
  |cons env r ih=>
   intro hs hl;obtain ⟨hk,⟨L,o,hf,hn,ho,hd⟩,hr⟩:=hl;have hL:L∈X.fs:=hs L (by unfold frs;rw [wV,hf];exact jd);obtain ⟨sl,e⟩:=I.base.slot L o ho (I.ok.frf L hL) hL λz=>I.ok.exfs L z hL;exact ⟨hk,⟨L,_,hf,hn,e,hd⟩,ih (λb hb=>hs b (by unfold frs;rw [wV,hf];exact jf _ hb)) hr⟩
 exact all X.outer (λ_ hb=>hb) I.ok.funs
theorem Inv.stack (I:Inv X pins σ H s):s.heap.FunFrames X.base X.stack:=by
 rcases I.ok.stk with e|⟨e,hf⟩
 ·rw [e];exact I.funs
 ·rw [e];obtain ⟨m,hn,_⟩:=I.loc;refine .cons (by rw [I.ok.kind];decide) hf hn ?_ I.funs;exact Heap.get?_none_of_le (jS I.ok.bsz I.ok.above)
theorem Inv.stkSub (I:Inv X pins σ H s):∀b∈frs X.stack,b∈X.env.locals::X.fs:=λb hb=>by
 rcases I.ok.stk with e|⟨e,hf⟩
 ·rw [e] at hb;exact jf _ hb
 ·rw [e] at hb;unfold frs at hb;rw [wV,hf] at hb;exact hb
theorem Inv.stkFree (I:Inv X pins σ H s):∀b∈frs X.stack,H b=none:=λb hb=>by
 rcases jn.mp (I.stkSub b hb) with e|hb
 ·rw [e];exact I.free
 ·obtain ⟨_,o,ho,_⟩:=I.ok.funs.mem hb;exact I.base.free b o ho (I.ok.frf b hb) λz=>I.ok.exfs b z hb
theorem Inv.step {g':Array GenState} {t':Nat} {d':Drawn} {ch:List Addr} (I:Inv X pins σ H s)
 (hch:∀b∈ch,(b∈X.ex\/X.s₀.heap.objs.size<=b)/\b≠X.env.locals/\(∀x c,X.env.cells.lookup x=some c->c≠b)/\∀p∈X.pn++pins,p.1≠b)
 (keep:∀b o,b≠X.env.locals->b∉X.fs->b∉ch->s.heap.get? b=some o->H b=none->h'.get? b=some o)
 (slot:∀b o,b≠X.env.locals->b∈X.fs->b∉ch->s.heap.get? b=some o->H b=none->∃sl,h'.get? b=some {o with slots:=sl}) (free:∀b o,b∉ch->s.heap.get? b=some o->H b=none->H' b=none)
 (there:∀b o,b∉ch->s.heap.get? b=some o->∃o',h'.get? b=some o')
 (tups:∀b xs,H b=some (.tup xs)->H' b=some (.tup xs)) (frzs:∀b o u,H b=some (.frz o u)->H' b=some (.frz o u)) (tbls:∀b ps,H b=some (.tbl ps)->∃more,H' b=some (.tbl (ps++more)))
 (ns:∀m,s.heap.Ns X.env.locals m->h'.Ns X.env.locals m) (hok:HOk X.prog X.w H' h') (hg:AllBare g'):
 Inv X pins σ H' {s with heap:=h',gens:=g',drawn:=d',toks:=t'}:=by
 have neL:∀b o,X.s₀.heap.get? b=some o->b≠X.env.locals:=λb o e=>jO (jY (jv e) I.ok.above)
 have neC:∀b o,X.s₀.heap.get? b=some o->b∉X.ex->b∉ch:=λb o e hx hb=>by
  rcases (hch b hb).1 with z|z
  ·exact hx z
  ·exact absurd (jY (jv e) z) (wv _)
 have cellK:∀x c,X.env.cells.lookup x=some c->∀v,s.heap.IsCell c v->h'.IsCell c v:=λx c e v ⟨o,ho,hd⟩=>by
  have nch:c∉ch:=λz=>(hch c z).2.2.1 x c e rfl
  by_cases hc:c∈X.fs
  ·obtain ⟨sl,q⟩:=slot c o (I.cne x c e) hc nch ho (I.freeC x c e);exact ⟨_,q,hd⟩
  ·exact ⟨o,keep c o (I.cne x c e) hc nch ho (I.freeC x c e),hd⟩
 refine ⟨I.ok,I.os,hg,⟨λb o e n hb hx=>?_,λb o e n hb hx=>?_,λb o e n hx=>?_,λb o e hx=>?_,λb xs e=>tups b xs (I.base.tups b xs e),λb o xs e=>frzs b o xs (I.base.frzs b o xs e),λb ps e=>?_⟩,?_,λx c e=>?_,?_,λx c e=>?_,λp hp=>?_,hok,I.len⟩
 ·exact keep b o (neL b o e) hb (neC b o e hx) (I.base.keep b o e n hb hx) (I.base.free b o e n hx)
 ·obtain ⟨sl,e1⟩:=I.base.slot b o e n hb hx;obtain ⟨sl',e2⟩:=slot b _ (neL b o e) hb (neC b o e hx) e1 (I.base.free b o e n hx);exact ⟨sl',e2⟩
 ·obtain ⟨o',e1⟩:=I.base.there b o e hx;exact free b o' (neC b o e hx) e1 (I.base.free b o e n hx)
 ·obtain ⟨o',e1⟩:=I.base.there b o e hx;exact there b o' (neC b o e hx) e1
 ·obtain ⟨m1,e1⟩:=I.base.tbls b ps e;obtain ⟨m2,e2⟩:=tbls b _ e1;exact ⟨m1++m2,by rw [e2,Array.append_assoc]⟩
 ·obtain ⟨m,hn,hl⟩:=I.loc;refine ⟨m,ns m hn,λi x v e1 e2 e3=>?_⟩;obtain ⟨u,r,l⟩:=hl i x v e1 e2 e3;refine ⟨u,r,?_⟩
  rcases l with l|⟨k,c,e,z⟩
  ·exact .inl l
  ·exact .inr ⟨k,c,e,cellK x c e _ z⟩
 ·obtain ⟨v,z⟩:=I.cell x c e;exact ⟨v,cellK x c e v z⟩
 ·obtain ⟨m,⟨o,_,_,ho,_⟩,_⟩:=I.loc;exact free _ o (λz=>(hch _ z).2.1 rfl) ho I.free
 ·obtain ⟨v,o,ho,hd⟩:=I.cell x c e;exact free c o (λz=>(hch c z).2.2.1 x c e rfl) ho (I.freeC x c e)
 ·obtain ⟨e,n,ne,nf,d⟩:=I.pin p hp;have nch:p.1∉ch:=λz=>(hch p.1 z).2.2.2 p hp rfl;exact ⟨keep p.1 p.2 ne nf nch e n,free p.1 p.2 nch e n,ne,nf,d⟩
theorem Inv.un {t':Nat} (I:Inv X pins σ H s) (u:Un X.fs [] H H' s.heap h') (hok:HOk X.prog X.w H' h'):Inv X pins σ H' {s with heap:=h',toks:=t'}:=by
 obtain ⟨m,⟨o,es,ep,ho,r⟩,_⟩:=id I.loc;obtain ⟨sl,hL⟩:=u.any ho I.free (by simp)
 exact I.step (g':=s.gens) (d':=s.drawn) (ch:=[]) (λ_ z=>nomatch z) (λb o _ hb _ e n=>u.keep b o e n hb (by simp)) (λb o _ hb _ e n=>u.slot b o e n hb (by simp)) (λb o _ e n=>u.free b o e n (by simp)) (λb o _ e=>u.there b o e (by simp)) u.tups u.frzs u.tbls (λm' hm=>by
  obtain ⟨o',es',ep',ho',r'⟩:=hm;rw [ho] at ho';cases ho'
  exact ⟨_,es',ep',hL,r'⟩) hok I.bare
theorem Inv.call {g':Array GenState} {t':Nat} {d':Drawn} {ch:List Addr} (I:Inv X pins σ H s) (u:Un (frs X.stack) ch H H' s.heap h') (hok:HOk X.prog X.w H' h') (hg:AllBare g')
 (hch:∀b∈ch,(b∈X.ex\/X.s₀.heap.objs.size<=b)/\b≠X.env.locals/\(∀x c,X.env.cells.lookup x=some c->c≠b)/\∀p∈X.pn++pins,p.1≠b):
 Inv X pins σ H' {s with heap:=h',gens:=g',drawn:=d',toks:=t'}:=by
 obtain ⟨m,⟨o,es,ep,ho,r⟩,_⟩:=id I.loc;obtain ⟨sl,hL⟩:=u.any ho I.free λz=>(hch _ z).2.1 rfl
 exact I.step (ch:=ch) hch (λb o hL hb hc e n=>u.keep b o e n (λz=>(jn.mp (I.stkSub b z)).elim hL hb) hc) (λb o _ _ hc e n=>u.any e n hc) (λb o hc e n=>u.free b o e n hc) (λb o hc e=>u.there b o e hc) u.tups u.frzs u.tbls (λm' hm=>by
  obtain ⟨o',es',ep',ho',r'⟩:=hm;rw [ho] at ho';cases ho'
  exact ⟨_,es',ep',hL,r'⟩) hok hg
theorem Inv.turned {t':Nat} {it:Addr} (I:Inv X pins σ H s) (k:∀b o,b≠it->s.heap.get? b=some o->h'.get? b=some o) (hn:H it=none) (hL:it≠X.env.locals)
 (h1:it∈X.ex\/X.s₀.heap.objs.size<=it) (h2:∀x c,X.env.cells.lookup x=some c->c≠it) (h3:∀p∈X.pn++pins,p.1≠it):Inv X pins σ H {s with heap:=h',toks:=t'}:=by
 have nit:∀b u,H b=some u->b≠it:=λb u e z=>by rw [z,hn] at e;cases e
 refine I.step (g':=s.gens) (d':=s.drawn) (ch:=[it]) (λb hb=>?_) (λb o _ _ hc e _=>k b o (λz=>hc (by simp [z])) e) (λb o _ _ hc e _=>⟨o.slots,k b o (λz=>hc (by simp [z])) e⟩) (λ_ _ _ _ n=>n)
  (λb o hc e=>⟨o,k b o (λz=>hc (by simp [z])) e⟩) (λ_ _ e=>e) (λ_ _ _ e=>e) (λb ps e=>⟨#[],by rw [e];simp⟩) (λm hm=>?_) (λb u e=>?_) I.bare
 ·have e:b=it:=by simpa using hb
  subst e;exact ⟨h1,hL,h2,h3⟩
 ·obtain ⟨o,es,ep,ho,r⟩:=hm;exact ⟨o,es,ep,k _ o (Ne.symm hL) ho,r⟩
 ·refine (I.hok b u e).stay (λc v hc q=>k c v ?_ q) (λ_ q=>q) λ_ _ q=>q
  rcases hc with z|z
  ·rw [z];exact nit b u e
  ·exact nit c _ z
theorem Inv.tok (I:Inv X pins σ H s) (t:Nat):Inv X pins σ H {s with toks:=t}:=I.un (h':=s.heap) (t':=t) Un.refl I.hok
theorem Inv.kept {t':Nat} (I:Inv X pins σ H s) (k:∀b u,s.heap.get? b=some u->h'.get? b=some u):Inv X pins σ H {s with heap:=h',toks:=t'}:=I.un (Un.kept k) (I.hok.kept k)
theorem Inv.laid {a:Addr} {o:HO} {t':Nat} (I:Inv X pins σ H s) (k:∀b u,s.heap.get? b=some u->h'.get? b=some u) (hp:s.heap.objs.size<=a) (new:Xi X.prog X.w (upd H a o) h' a o):
 Inv X pins σ (upd H a o) {s with heap:=h',toks:=t'}:=I.un (Un.laid k hp (I.hok.fresh hp)) (I.hok.laid k hp new)
theorem Inv.write {x e:Addr} {o:HO} {t':Nat} (I:Inv X pins σ H s) (mu:Mut (H x)) (he:e=x\/H e=some (.own x)) (k:∀b u,b≠e->s.heap.get? b=some u->h'.get? b=some u) (heo:∃u,h'.get? e=some u)
 (new:Xi X.prog X.w (upd H x o) h' x o):Inv X pins σ (upd H x o) {s with heap:=h',toks:=t'}:=I.un (Un.write mu he k heo) (I.hok.write mu he k heo new)
theorem Inv.weak {σ':List (Option V)} (I:Inv X pins σ H s) (hl:σ'.length=σ.length) (w:∀(i:Nat) v,σ'[i]? =some (some v)->σ[i]? =some (some v)):Inv X pins σ' H s:=
 ⟨I.ok,I.os,I.bare,I.base,let ⟨m,hn,hl'⟩:=I.loc;⟨m,hn,λi x v e1 e2 e3=>hl' i x v e1 (w i v e2) e3⟩,I.cell,I.free,I.freeC,I.pin,I.hok,hl.trans I.len⟩
theorem Inv.pins_of {pins':List (Addr×Obj)} (I:Inv X pins σ H s) (h:∀p∈pins',s.heap.get? p.1=some p.2/\H p.1=none/\p.1≠X.env.locals/\p.1∉X.fs/\∀v,p.2.data≠ .cell v):Inv X pins' σ H s:=
 ⟨I.ok,I.os,I.bare,I.base,I.loc,I.cell,I.free,I.freeC,λp hp=>(jV.mp hp).elim (λz=>I.pin p (qW _ z)) (h p),I.hok,I.len⟩
theorem zkk {N:List Str} (hN:N.Nodup) {i j:Nat} {x:Str} (a:N[i]? =some x) (b:N[j]? =some x):i=j:=by
 obtain ⟨h1,e1⟩:=je.mp a;obtain ⟨h2,e2⟩:=je.mp b;exact (List.getElem_inj hN).mp (e1.trans e2.symm)
theorem zho {M:Model} {A:Around} {E:Value->Shared->Prop} {i:Nat} {x:Str} {v:V} {u:Value} {Q:Unit->Shared->Prop} (I:Inv X pins σ H s) (hN:X.N.Nodup) (hi:X.N[i]? =some x) (hx:Loc X.env.scope x) (r:YZ v u)
 (h:∀s',Inv X pins (σ.set i (some v)) H s'->(∃a,Heap.SameBut a s.heap s'.heap/\(a=X.env.locals\/X.env.cells.lookup x=some a))->Q () s') (hf:X.fn x=true\/X.env.scope.names.lookup x=some .local:=by first|exact .inl rfl|exact .inr rfl|assumption):wpAny M A (storeName X.env x u) Q E s:=by
 obtain ⟨m,hn,hl⟩:=id I.loc;have hcls:(X.env.scope.kind== .class||(X.env.scope.kind== .module && X.env.locals !=X.env.globals))=false:=by rw [I.ok.kind];rfl
 have hiσ:i<σ.length:=by rw [I.len];exact (je.mp hi).1
 have cne:=I.cne
 have tracked:∀{a:Addr} {h':Heap},(∃o,s.heap.get? a=some o/\H a=none)->Heap.SameBut a s.heap h'->HOk X.prog X.w H h':=λ{a h'} ha hs b ob e=>by
  obtain ⟨_,_,hfree⟩:=ha;refine (I.hok b ob e).stay (λc w' hc q=>(hs.2 c ?_).trans q) (λ_ q=>q) λ_ _ q=>q
  rintro rfl
  rcases hc with rfl|hc
  ·rw [hfree] at e;cases e
  ·rw [hfree] at hc;cases hc
 rcases hx with hk|hk
 ·refine wpAny_storeName_local hk hn (λh' hn' hs=>?_) hcls;obtain ⟨oL,_,_,hoL,_⟩:=id hn;refine h _ ⟨I.ok,I.os,I.bare,⟨λb o e n hb hx=>?_,λb o e n hb hx=>?_,I.base.free,λb o e hx=>?_,I.base.tups,I.base.frzs,I.base.tbls⟩,⟨_,hn',λj y v' e1 e2 e3=>?_⟩,λy c e=>?_,I.free,I.freeC,λp hp=>?_,tracked ⟨oL,hoL,I.free⟩ hs,by simpa using I.len⟩ ⟨_,hs, .inl rfl⟩
  ·exact (hs.2 b (jO (jY (jv e) I.ok.above))).trans (I.base.keep b o e n hb hx)
  ·obtain ⟨sl,e1⟩:=I.base.slot b o e n hb hx;exact ⟨sl,(hs.2 b (jO (jY (jv e) I.ok.above))).trans e1⟩
  ·obtain ⟨o',e1⟩:=I.base.there b o e hx;exact ⟨o',(hs.2 b (jO (jY (jv e) I.ok.above))).trans e1⟩
  ·by_cases hj:j=i
   ·subst hj;rw [hi] at e1;cases e1;rw [List.getElem?_set_self hiσ] at e2;cases e2;exact ⟨u,r, .inl ⟨hk,by simp⟩⟩
   ·rw [JI (Ne.symm hj)] at e2;obtain ⟨u',r',q⟩:=hl j y v' e1 e2 e3;refine ⟨u',r',?_⟩
    rcases q with ⟨k,e⟩|⟨k,c,e,z⟩
    ·refine .inl ⟨k,?_⟩;have:y≠x:=λe=>hj (zkk hN e1 (e▸hi));simp [this,e]
    ·exact .inr ⟨k,c,e,z.sameBut hs (cne y c e)⟩
  ·obtain ⟨w',z⟩:=I.cell y c e;exact ⟨w',z.sameBut hs (cne y c e)⟩
  ·obtain ⟨e,n,ne,nf,d⟩:=I.pin p hp;exact ⟨(hs.2 p.1 ne).trans e,n,ne,nf,d⟩
 ·have hfn:X.fn x=true:=by
   rcases hf with z|z
   ·exact z
   ·rw [z] at hk;cases hk
  obtain ⟨c,hc⟩:=I.ok.has x (.inl hk);obtain ⟨w',z⟩:=I.cell x c hc;refine wpAny_storeName_cell I.ok.kind hk hc z (λh' hc' hs=>?_);obtain ⟨oc,hoc,hocd⟩:=id z;refine h {s with heap:=h'} ⟨I.ok,I.os,I.bare,⟨λb o e n hb hx=>?_,λb o e n hb hx=>?_,I.base.free,λb o e hx=>?_,I.base.tups,I.base.frzs,I.base.tbls⟩,⟨m,hn.sameBut hs (Ne.symm (cne x c hc)),λj y v' e1 e2 e3=>?_⟩,λy c' e=>?_,I.free,I.freeC,λp hp=>?_,tracked ⟨oc,hoc,I.freeC x c hc⟩ hs,by simpa using I.len⟩ ⟨c,hs, .inr hc⟩
  ·exact (hs.2 b (jO (jY (jv e) (I.ok.cab x c hfn hc)))).trans (I.base.keep b o e n hb hx)
  ·obtain ⟨sl,e1⟩:=I.base.slot b o e n hb hx;exact ⟨sl,(hs.2 b (jO (jY (jv e) (I.ok.cab x c hfn hc)))).trans e1⟩
  ·obtain ⟨o',e1⟩:=I.base.there b o e hx;exact ⟨o',(hs.2 b (jO (jY (jv e) (I.ok.cab x c hfn hc)))).trans e1⟩
  ·by_cases hj:j=i
   ·subst hj;rw [hi] at e1;cases e1;rw [List.getElem?_set_self hiσ] at e2;cases e2;exact ⟨u,r, .inr ⟨.inl hk,c,hc,hc'⟩⟩
   ·rw [JI (Ne.symm hj)] at e2;obtain ⟨u',r',q⟩:=hl j y v' e1 e2 e3;refine ⟨u',r',?_⟩
    rcases q with q|⟨k,c',e,z'⟩
    ·exact .inl q
    ·refine .inr ⟨k,c',e,z'.sameBut hs ?_⟩
     rintro rfl
     exact hj (zkk hN e1 (I.ok.inj _ _ _ e hc▸hi))
  ·by_cases hcc:c'=c
   ·subst hcc;exact ⟨_,hc'⟩
   ·obtain ⟨w2,z2⟩:=I.cell y c' e;exact ⟨w2,z2.sameBut hs hcc⟩
  ·obtain ⟨e,n,ne,nf,d⟩:=I.pin p hp;refine ⟨(hs.2 p.1 ?_).trans e,n,ne,nf,d⟩;intro q;rw [q,hoc] at e;have q':oc=p.2:=jL e;exact d w' (by rw [<-q'];exact hocd)
theorem zai {M:Model} {A:Around} {E:Value->Shared->Prop} {i:Nat} {x:Str} {v:V} {u:Value} {Q:Unit->Shared->Prop} (I:Inv X pins σ H s) (hN:X.N.Nodup) (hi:X.N[i]? =some x) (hx:Loc X.env.scope x) (r:YZ v u)
 (h:∀s',Inv X pins (σ.set i (some v)) H s'->Q () s') (hf:X.fn x=true\/X.env.scope.names.lookup x=some .local:=by first|exact .inl rfl|exact .inr rfl|assumption):wpAny M A (storeName X.env x u) Q E s:=
 zho I hN hi hx r (λs' I' _=>h s' I') hf
theorem Inv.call' {s':Shared} {ch:List Addr} (I:Inv X pins σ H s) (ho:s'.os=s.os) (u:Un (frs X.stack) ch H H' s.heap s'.heap) (hok:HOk X.prog X.w H' s'.heap) (hg:AllBare s'.gens)
 (hch:∀b∈ch,(b∈X.ex\/X.s₀.heap.objs.size<=b)/\b≠X.env.locals/\(∀x c,X.env.cells.lookup x=some c->c≠b)/\∀p∈X.pn++pins,p.1≠b):Inv X pins σ H' s':=by
 obtain ⟨h',g',d',t',o'⟩:=s';have e:o'=s.os:=ho;subst e;exact I.call (g':=g') (t':=t') (d':=d') u hok hg hch
end
abbrev XK:=Value->Option Addr->Hp->Prop
abbrev St:=List (Option V)
abbrev VK:=V->Hp->Prop
abbrev TE:=St->Hp->VK->Prop
abbrev TT:=St->Hp->(Bool->Hp->Prop)->Prop
abbrev TA:=St->Hp->(List V->Hp->Prop)->Prop
structure Ends where
 nx:St->Hp->Prop
 rt:VK
 bk:St->Hp->Prop:=λ_ _=>False
 ct:St->Hp->Prop:=λ_ _=>False
abbrev TS:=Ends->St->Hp->Prop
def EP (X:Cx) (pins:List (Addr×Obj)) (σ:St) (Q:VK) (u:Value) (s':Shared):Prop:=∃v H',Inv X pins σ H' s'/\YZ v u/\Q v H'
def TP (X:Cx) (pins:List (Addr×Obj)) (σ:St) (Q:Bool->Hp->Prop) (b:Bool) (s':Shared):Prop:=∃H',Inv X pins σ H' s'/\Q b H'
def AP (X:Cx) (pins:List (Addr×Obj)) (σ:St) (Q:List V->Hp->Prop) (us:List Value) (s':Shared):Prop:=∃vs H',Inv X pins σ H' s'/\Zw vs us/\Q vs H'
def SP (X:Cx) (pins:List (Addr×Obj)) (D:Ends) (f:Flow) (s':Shared):Prop:=
 match f with
 | .next=>∃σ' H',Inv X pins σ' H' s'/\D.nx σ' H'
 | .brk=>∃σ' H',Inv X pins σ' H' s'/\D.bk σ' H'
 | .cont=>∃σ' H',Inv X pins σ' H' s'/\D.ct σ' H'
 | .ret u=>∃v σ' H',Inv X pins σ' H' s'/\YZ v u/\D.rt v H'
def PE (X:Cx) (e:Expr) (t:TE):Prop:=
 ∀(pins:List (Addr×Obj)) (s:Shared) (σ:St) (H:Hp) (Q:VK),Inv X pins σ H s->t σ H Q->wpAny (model X.prog X.w) X.A (eval e X.env) (EP X pins σ Q) X.xe s
def PT (X:Cx) (e:Expr) (t:TT):Prop:=
 ∀(pins:List (Addr×Obj)) (s:Shared) (σ:St) (H:Hp) (Q:Bool->Hp->Prop),Inv X pins σ H s->t σ H Q->wpAny (model X.prog X.w) X.A (isTrue e X.env (eval e X.env)) (TP X pins σ Q) X.xe s
def PW (X:Cx) (e:Expr) (t:TT):Prop:=
 ∀(whole:Sem Value) (pins:List (Addr×Obj)) (s:Shared) (σ:St) (H:Hp) (Q:Bool->Hp->Prop),Inv X pins σ H s->t σ H Q->wpAny (model X.prog X.w) X.A (isTrue e X.env whole) (TP X pins σ Q) X.xe s
theorem PW.pt {X:Cx} {e:Expr} {t:TT} (h:PW X e t):PT X e t:=h _
def PA (X:Cx) (es:List Expr) (t:TA):Prop:=
 ∀(pos:Pos) (pins:List (Addr×Obj)) (s:Shared) (σ:St) (H:Hp) (Q:List V->Hp->Prop),Inv X pins σ H s->t σ H Q->wpAny (model X.prog X.w) X.A (spliced (backTo pos (starEach es X.env))) (AP X pins σ Q) X.xe s
def PS (X:Cx) (st:Stmt) (t:TS):Prop:=
 ∀(pins:List (Addr×Obj)) (s:Shared) (σ:St) (H:Hp) (D:Ends),Inv X pins σ H s->t D σ H->wpAny (model X.prog X.w) X.A (exec st X.env) (SP X pins D) X.xe s
def PSs (X:Cx) (st:List Stmt) (t:TS):Prop:=
 ∀(pins:List (Addr×Obj)) (s:Shared) (σ:St) (H:Hp) (D:Ends),Inv X pins σ H s->t D σ H->wpAny (model X.prog X.w) X.A (execs st X.env) (SP X pins D) X.xe s
theorem thn {α:Type} {t:Sem α} {Q Q':α->Shared->Prop} {M:Model} {A:Around} {E:Value->Shared->Prop} {s:Shared} (h:wpAny M A t Q E s) (hQ:∀a s,Q a s->Q' a s):wpAny M A t Q' E s:=wpAny_mono h hQ λ_ _ x=>x
end L2
namespace L2
open PySem PySem.Spec PyProof.Rows
section
variable {X:Cx}
def tVar (i:Nat):TE:=λσ H Q=>∃v,σ[i]? =some (some v)/\Q v H
def tC (v:V):TE:=λ_ H Q=>Q v H
theorem pe_var {i:Nat} {x:Str} {pos:Pos} (hN:X.N[i]? =some x) (hv:Vis X.env.scope x) (hd:(x==("__debug__":Str))=false:=by decide) (hcd:(x==("__classdict__":Str))=false:=by decide):PE X (.Name x pos) (tVar i):=by
 intro pins s σ H Q I h;obtain ⟨v,e,h⟩:=h;obtain ⟨m,hn,hl⟩:=I.loc;obtain ⟨u,r,l⟩:=hl i x v hN e hv;have fin:EP X pins σ Q u s:=⟨v,H,I,r,h⟩
 rcases l with ⟨hk,hm⟩|⟨hk,c,hc,hcell⟩
 ·exact wpAny_Name (wpAny_loadName_local I.ok.kind hk hn hm fin) hd
 ·rcases hk with hk|hk
  ·exact wpAny_Name (wpAny_loadName_cell I.ok.kind hk hc hcell fin) hd
  ·exact wpAny_Name (wpAny_loadName_free I.ok.kind hk hc hcell fin hcd) hd
theorem zA {i j pos}:PE X (.Constant (.int i) j pos) (tC (.int i)):=λ_ _ _ H _ I h=>wpAny_Constant_int ⟨.int i,H,I.tok _,⟨_,rfl⟩,h⟩
theorem VI {b j pos}:PE X (.Constant (.bool b) j pos) (tC (.bl b)):=λ_ _ _ H _ I h=>Constant_bool ⟨.bl b,H,I,rfl,h⟩
theorem yF {x j pos}:PE X (.Constant (.str x) j pos) (tC (.str x)):=λ_ _ _ H _ I h=>Calls.Constant_str ⟨.str x,H,I.tok _,⟨_,rfl⟩,h⟩
def Gl (X:Cx) (x:Str):Prop:=X.env.kindOf x=some .globalImplicit
theorem zdS {E:Value->Shared->Prop} {pins:List (Addr×Obj)} {s:Shared} {σ:St} {H:Hp} {x:Str} {u:Value} {pos:Pos} {Q:Value->Shared->Prop} (I:Inv X pins σ H s) (hg:Gl X x) (hm:X.mg x=some u) (h:Q u s)
 (hd:(x==("__debug__":Str))=false:=by decide):wpAny (model X.prog X.w) X.A (eval (.Name x pos) X.env) Q E s:=
 Calls.Name_function_global I.ok.kind hg (Calls.loadGlobal_global (by rw [I.ok.glob];exact I.mod.glob.keeps I.bk) hm h) hd
theorem zaO {E:Value->Shared->Prop} {pins:List (Addr×Obj)} {s:Shared} {σ:St} {H:Hp} {x:Str} {u:Value} {pos:Pos} {Q:Value->Shared->Prop} (I:Inv X pins σ H s) (hg:Gl X x) (hm:X.mg x=none) (hv:bootBuiltins x=some u) (h:Q u s)
 (hn:x≠"__name__":=by decide) (hd:(x==("__debug__":Str))=false:=by decide):wpAny (model X.prog X.w) X.A (eval (.Name x pos) X.env) Q E s:=by
 obtain ⟨mb,h1,h2⟩:=I.mod.blt;exact Calls.Name_function_global I.ok.kind hg (Calls.loadGlobal_builtin (by rw [I.ok.glob];exact I.mod.glob.keeps I.bk) hm (by rw [I.ok.blt];exact h1.keeps I.bk) ((h2 x hn).trans hv) h) hd
theorem znh {x:Str} {v:V} {u:Value} {pos:Pos} (hg:Gl X x) (hm:X.mg x=some u) (r:YZ v u) (hd:(x==("__debug__":Str))=false:=by decide):PE X (.Name x pos) (tC v):=
 λ_ _ _ H _ I h=>zdS I hg hm ⟨v,H,I,r,h⟩ hd
theorem zgx {x:Str} {v:V} {u:Value} {pos:Pos} (hg:Gl X x) (hm:X.mg x=none) (hv:bootBuiltins x=some u) (r:YZ v u) (hn:x≠"__name__":=by decide) (hd:(x==("__debug__":Str))=false:=by decide):PE X (.Name x pos) (tC v):=
 λ_ _ _ H _ I h=>zaO I hg hm hv ⟨v,H,I,r,h⟩ hn hd
variable {a b:Expr} {ta tb:TE} {pos:Pos}
def PC (X:Cx) (op:CmpOp) (a b:Expr) (t:TE):Prop:=
 ∀(pins:List (Addr×Obj)) (s:Shared) (σ:St) (H:Hp) (Q:VK),Inv X pins σ H s->t σ H Q->
  wpAny (model X.prog X.w) X.A (eval a X.env) (λv s₁=>wpAny (model X.prog X.w) X.A (eval b X.env) (λu s₂=>wpAny (model X.prog X.w) X.A (compareOp op v u) (EP X pins σ Q) X.xe s₂) X.xe s₁) X.xe s
def tB (t:TE):TT:=λσ H Q=>t σ H λx H1=>∃c,x= .bl c/\Q c H1
theorem Wo {e:Expr} {t:TE} (h:PE X e t) (he:∀whole,isTrue e X.env whole=(do let v<-whole;standAt e.pos;holding [v] (truthy v)):=by intro _;rfl):PT X e (tB t):=by
 intro pins s σ H Q I hw;refine isTrue_plain (thn (h pins s σ H _ I hw) λv s1 ⟨x,H1,I1,r1,q1⟩=>?_) (he _);obtain ⟨d,rfl,q⟩:=q1;cases r1;exact Qe ⟨H1,I1,q⟩
variable {tA tB':TT} {rest:List Expr}
def tAnd (t u:TT):TT:=λσ H Q=>t σ H λc H1=>if c=true then u σ H1 Q else Q false H1
def tOr (t u:TT):TT:=λσ H Q=>t σ H λc H1=>if c=true then Q true H1 else u σ H1 Q
def tNot (t:TT):TT:=λσ H Q=>t σ H λc H1=>Q (!c) H1
theorem zgu (ha:PT X a tA):PW X (.BoolOp .And [a] pos) tA:=by
 intro wh pins s σ H Q I h;refine isTrue_and (thn (ha pins s σ H Q I h) λc s1 e=>?_)
 cases c with
 |true=>exact isTrue_and_nil e
 |false=>exact e
theorem zfo (ha:PT X a tA):PW X (.BoolOp .Or [a] pos) tA:=by
 intro wh pins s σ H Q I h;refine isTrue_or (thn (ha pins s σ H Q I h) λc s1 e=>?_)
 cases c with
 |false=>exact isTrue_or_nil e
 |true=>exact e
theorem zki (ha:PT X a tA) (hb:PW X (.BoolOp .And (b::rest) pos) tB'):PW X (.BoolOp .And (a::b::rest) pos) (tAnd tA tB'):=by
 intro wh pins s σ H Q I h;refine isTrue_and (thn (ha pins s σ H _ I h) λc s1 ⟨H1,I1,q1⟩=>?_)
 cases c with
 |true=>exact hb wh pins s1 σ H1 Q I1 q1
 |false=>exact ⟨H1,I1,q1⟩
theorem zex (ha:PT X a tA) (hb:PW X (.BoolOp .Or (b::rest) pos) tB'):PW X (.BoolOp .Or (a::b::rest) pos) (tOr tA tB'):=by
 intro wh pins s σ H Q I h;refine isTrue_or (thn (ha pins s σ H _ I h) λc s1 ⟨H1,I1,q1⟩=>?_)
 cases c with
 |true=>exact ⟨H1,I1,q1⟩
 |false=>exact hb wh pins s1 σ H1 Q I1 q1
theorem VG (ha:PT X a tA):PT X (.UnaryOp .Not a pos) (tNot tA):=by
 intro pins s σ H Q I h;exact isTrue_not (ha pins s σ H (λc H1=>Q (!c) H1) I h)
def tAndV (ta tb:TE):TE:=λσ H Q=>ta σ H λx H1=>∃c,x= .bl c/\if c=true then tb σ H1 Q else Q (.bl false) H1
def tNotV (ta:TE):TE:=λσ H Q=>ta σ H λx H1=>∃c,x= .bl c/\Q (.bl (!c)) H1
theorem zng {op} {t:TE} (h:PE X a t):PE X (.BoolOp op [a] pos) t:=λpins s σ H Q I hw=>BoolOp_one (h pins s σ H Q I hw)
theorem zni (ha:PE X a ta) (hb:PE X (.BoolOp .And (b::rest) pos) tb):PE X (.BoolOp .And (a::b::rest) pos) (tAndV ta tb):=by
 intro pins s σ H Q I h;refine BoolOp_and (thn (ha pins s σ H _ I h) λv s1 ⟨x,H1,I1,r1,q1⟩=>?_);obtain ⟨c,rfl,q1⟩:=q1;cases r1;refine Qe ?_
 cases c with
 |true=>exact hb pins s1 σ H1 Q I1 q1
 |false=>exact ⟨.bl false,H1,I1,rfl,q1⟩
theorem pe_not (ha:PE X a ta):PE X (.UnaryOp .Not a pos) (tNotV ta):=by
 intro pins s σ H Q I h;refine UnaryOp_ (thn (ha pins s σ H _ I h) λv s1 ⟨x,H1,I1,r1,q1⟩=>?_);obtain ⟨c,rfl,q1⟩:=q1;cases r1;exact not_of (Qe ⟨.bl (!c),H1,I1,rfl,q1⟩)
end
end L2
namespace L2
open PySem PySem.Spec PyProof.Rows
def SqL (K:PySem.W.Frag) (H:Hp) (a:Addr) (xs:List V):Prop:=
 Rd H a (.lst xs)\/
  ∃(o:Obj) (its:Array Value) (n:Nat),K.lookup a=some o/\o.cls= .type "list"/\o.dict=none/\o.data= .seq its n/\its.size<=sizeLine/\Zw xs its.toList
def SqT (K:PySem.W.Frag) (H:Hp) (a:Addr) (xs:List V):Prop:=
 Rd H a (.tup xs)\/
  ∃(o:Obj) (its:Array Value) (n:Nat),K.lookup a=some o/\o.cls= .type "tuple"/\o.data= .seq its n/\its.size<=sizeLine/\Zw xs its.toList
def absV:Value->Option V
 | .none=>some .non
 | .bool b=>some (.bl b)
 | .int i _=>some (.int i)
 | .str x _=>some (.str x)
 | .bytes b _=>some (.byt b)
 | .float b _=>some (.flt b)
 | .ref a=>some (.ref a)
 | .type n=>some (.ty n)
 |_=>none
theorem YZ.abs {x:V} {u:Value} (r:YZ x u):absV u=some x:=by
 cases x with
 |non=>cases r;rfl
 |bl _=>cases r;rfl
 |int _=>obtain ⟨t,rfl⟩:=r;rfl
 |str _=>obtain ⟨t,rfl⟩:=r;rfl
 |byt _=>obtain ⟨t,rfl⟩:=r;rfl
 |flt _=>obtain ⟨t,rfl⟩:=r;rfl
 |ref _=>cases r;rfl
 |ty _=>cases r;rfl
theorem YZ.inj {x y:V} {u:Value} (r:YZ x u) (q:YZ y u):x=y:=jL (r.abs.symm.trans q.abs)
theorem Zw.inj:∀{xs ys:List V} {us:List Value},Zw xs us->Zw ys us->xs=ys
 |_,_,_, .nil, .nil=>rfl
 |_,_,_, .cons r t, .cons r' t'=>by rw [r.inj r',Zw.inj t t']
section
variable {X:Cx} {pins:List (Addr×Obj)} {σ:St} {H:Hp} {s:Shared} {a:Addr} {xs ys:List V}
theorem SqL.of {K:PySem.W.Frag} (h:H a=some (.lst xs)):SqL K H a xs:= .inl (.inl h)
theorem SqT.of {K:PySem.W.Frag} (h:H a=some (.tup xs)):SqT K H a xs:= .inl (.inl h)
theorem Inv.list (I:Inv X pins σ H s) (h:SqL X.K H a xs):∃its:List Value,Zw xs its/\PlainL s.heap a its.toArray/\xs.length<=sizeLine:=by
 rcases h with h|⟨o,its,n,hk,hc,hd,hs,hz,r⟩
 ·obtain ⟨z,its,n,r,e⟩:=h.ok I.hok;exact ⟨its,r,⟨_,n,e,rfl,rfl,rfl⟩,z⟩
 ·refine ⟨its.toList,r,⟨o,n,I.kIn a o hk,hc,hd,by simpa using hs⟩,?_⟩;have e:=r.length;simp only [ww] at e;omega
theorem Inv.tuple (I:Inv X pins σ H s) (h:SqT X.K H a xs):∃its:List Value,Zw xs its/\IsTup s.heap a its.toArray/\xs.length<=sizeLine:=by
 rcases h with h|⟨o,its,n,hk,hc,hs,hz,r⟩
 ·obtain ⟨z,its,r,p⟩:=h.ok I.hok;exact ⟨its,r,p,z⟩
 ·refine ⟨its.toList,r,⟨o,I.kIn a o hk,hc,n,by simpa using hs⟩,?_⟩;have e:=r.length;simp only [ww] at e;omega
theorem Inv.list_inj (I:Inv X pins σ H s) (h:SqL X.K H a xs) (h':SqL X.K H a ys):xs=ys:=by
 obtain ⟨its,r,⟨o,n,e,_,_,d⟩,_⟩:=I.list h;obtain ⟨its',r',⟨o',n',e',_,_,d'⟩,_⟩:=I.list h';rw [e] at e';cases e';rw [d] at d'
 injection d' with d1 _
 have:its=its':=by simpa using congrArg Array.toList d1
 subst this;exact r.inj r'
theorem Inv.tuple_inj (I:Inv X pins σ H s) (h:SqT X.K H a xs) (h':SqT X.K H a ys):xs=ys:=by
 obtain ⟨its,r,⟨o,e,_,n,d⟩,_⟩:=I.tuple h;obtain ⟨its',r',⟨o',e',_,n',d'⟩,_⟩:=I.tuple h';rw [e] at e';cases e';rw [d] at d'
 injection d' with d1 _
 have:its=its':=by simpa using congrArg Array.toList d1
 subst this;exact r.inj r'
end
abbrev Cx.wish (X:Cx) (E:Value->Shared->Prop):Cx:={X with xe:=E}
abbrev Cx.nox (X:Cx):Cx:=X.wish λ_ _=>False
theorem Cx.Ok.wish {X:Cx} (ok:X.Ok) (E:Value->Shared->Prop):(X.wish E).Ok:=
 ⟨ok.mod,ok.kind,ok.glob,ok.blt,ok.above,ok.inj,ok.has,ok.cab,ok.hd,ok.frames,ok.stk,ok.exf,ok.bs,ok.bsz,ok.noex,ok.exfs,ok.funs,ok.frf⟩
theorem Cx.Ok.unwish {X:Cx} {E:Value->Shared->Prop} (ok:(X.wish E).Ok):X.Ok:=
 ⟨ok.mod,ok.kind,ok.glob,ok.blt,ok.above,ok.inj,ok.has,ok.cab,ok.hd,ok.frames,ok.stk,ok.exf,ok.bs,ok.bsz,ok.noex,ok.exfs,ok.funs,ok.frf⟩
section
variable {X:Cx} {pins:List (Addr×Obj)} {σ:St} {H:Hp} {s:Shared} {E:Value->Shared->Prop}
theorem Inv.wish (I:Inv X pins σ H s) (E:Value->Shared->Prop):Inv (X.wish E) pins σ H s:=⟨I.ok.wish E,I.os,I.bare,I.base,I.loc,I.cell,I.free,I.freeC,I.pin,I.hok,I.len⟩
theorem Inv.unwish (I:Inv (X.wish E) pins σ H s):Inv X pins σ H s:=⟨I.ok.unwish,I.os,I.bare,I.base,I.loc,I.cell,I.free,I.freeC,I.pin,I.hok,I.len⟩
theorem SP.unwish {D:Ends} {f:Flow} {s':Shared} (h:SP (X.wish E) pins D f s'):SP X pins D f s':=by
 cases f with
 |next=>obtain ⟨σ',H',I,q⟩:=h;exact ⟨σ',H',I.unwish,q⟩
 |brk=>obtain ⟨σ',H',I,q⟩:=h;exact ⟨σ',H',I.unwish,q⟩
 |cont=>obtain ⟨σ',H',I,q⟩:=h;exact ⟨σ',H',I.unwish,q⟩
 |ret u=>obtain ⟨v,σ',H',I,r,q⟩:=h;exact ⟨v,σ',H',I.unwish,r,q⟩
theorem PSs.nox {st:List Stmt} {t:TS} (h:PSs X.nox st t):PSs X st t:=λpins s σ H D I hw=>
 wpAny_mono (h pins s σ H D (I.wish _) hw) (λ_ _ q=>q.unwish) λ_ _ z=>False.elim z
end
section
variable {X:Cx} {st:Stmt} {rest:List Stmt} {t u:TS} {e:Expr} {te:TE} {pos:Pos}
def tNext:TS:=λD σ H=>D.nx σ H
def tSeq (t u:TS):TS:=λD σ H=>t {D with nx:=u D} σ H
theorem zU:PSs X [] tNext:=λ_ _ σ H _ I h=>wpAny_execs_nil ⟨σ,H,I,h⟩
theorem zm (h1:PS X st t) (h2:PSs X rest u):PSs X (st::rest) (tSeq t u):=by
 intro pins s σ H D I h;refine wpAny_execs_cons (thn (h1 pins s σ H {D with nx:=u D} I h) λf s1 q=>?_)
 cases f with
 |next=>
  obtain ⟨σ',H',I',q⟩:=q;exact h2 pins s1 σ' H' D I' q
 |ret v=>exact q
 |brk=>exact q
 |cont=>exact q
theorem zu (h1:PS X st t):PSs X [st] t:=by
 intro pins s σ H D I h;refine wpAny_execs_cons (thn (h1 pins s σ H D I h) λf s1 q=>?_)
 cases f with
 |next=>exact wpAny_execs_nil q
 |ret v=>exact q
 |brk=>exact q
 |cont=>exact q
theorem Inv.quiet {pins:List (Addr×Obj)} {σ:St} {H:Hp} {s:Shared} (I:Inv X pins σ H s):interactive X.env=false:=by simp [interactive,I.ok.kind]
def tDrop (te:TE):TS:=λD σ H=>te σ H λ_ H1=>D.nx σ H1
theorem Zd (he:PE X e te) (hs:swapsWith e none pos.line X.env=pure false:=by rfl):PS X (.Expr e pos) (tDrop te):=by
 intro pins s σ H D I h;exact wpAny_Expr_any (thn (he pins s σ H _ I h) λv s1 ⟨x,H1,I1,r1,q1⟩=>⟨σ,H1,I1,q1⟩) I.quiet hs
def tRet (te:TE):TS:=λD σ H=>te σ H D.rt
theorem zG (he:PE X e te):PS X (.Return (some e) pos) (tRet te):=by
 intro pins s σ H D I h;exact wpAny_Return_some (thn (he pins s σ H _ I h) λv s1 ⟨x,H1,I1,r1,q1⟩=>⟨x,σ,H1,I1,r1,q1⟩)
def tIfS (c:TT) (t u:TS):TS:=λD σ H=>c σ H λb H1=>if b=true then t D σ H1 else u D σ H1
theorem yO {c:Expr} {a b:List Stmt} {tc:TT} (hc:PT X c tc) (ha:PSs X a t) (hb:PSs X b u):PS X (.If c a b pos) (tIfS tc t u):=by
 intro pins s σ H D I h;refine wpAny_If (thn (hc pins s σ H _ I h) λd s1 ⟨H1,I1,q1⟩=>?_)
 cases d with
 |true=>exact ha pins s1 σ H1 D I1 q1
 |false=>exact hb pins s1 σ H1 D I1 q1
def tNever:TS:=λ_ _ _=>False
theorem zcN:PS X st tNever:=λ_ _ _ _ _ _ h=>h.elim
end
abbrev TG:=V->St->Hp->(St->Hp->Prop)->Prop
abbrev TGs:=List V->St->Hp->(St->Hp->Prop)->Prop
def PG (X:Cx) (target:Expr) (t:TG):Prop:=
 ∀(pins:List (Addr×Obj)) (s:Shared) (σ:St) (H:Hp) (v:V) (u:Value) (Q:St->Hp->Prop),Inv X pins σ H s->YZ v u->t v σ H Q->
  wpAny (model X.prog X.w) X.A (assign target X.env u) (λ_ s'=>∃σ' H',Inv X pins σ' H' s'/\Q σ' H') X.xe s
def PGs (X:Cx) (ts:List Expr) (t:TGs):Prop:=
 ∀(pins:List (Addr×Obj)) (s:Shared) (σ:St) (H:Hp) (vs:List V) (us:List Value) (Q:St->Hp->Prop),Inv X pins σ H s->Zw vs us->t vs σ H Q->
  wpAny (model X.prog X.w) X.A (assignInOrder ((assignEach ts X.env).map (·.2)) us) (λ_ s'=>∃σ' H',Inv X pins σ' H' s'/\Q σ' H') X.xe s
abbrev TSet:=V->V->V->Hp->(Hp->Prop)->Prop
def PSet (X:Cx) (t:TSet):Prop:=
 ∀(pins:List (Addr×Obj)) (s:Shared) (σ:St) (H:Hp) (o i v:V) (ov iv u:Value) (Q:Hp->Prop),Inv X pins σ H s->YZ o ov->YZ i iv->YZ v u->t o i v H Q->
  wpAny (model X.prog X.w) X.A (setItem ov iv u) (λ_ s'=>∃H',Inv X pins σ H' s'/\Q H') X.xe s
abbrev TIp:=V->V->Hp->VK->Prop
def PIp (X:Cx) (op:Operator) (t:TIp):Prop:=
 ∀(pins:List (Addr×Obj)) (s:Shared) (σ:St) (H:Hp) (x y:V) (v u:Value) (Q:VK),Inv X pins σ H s->YZ x v->YZ y u->t x y H Q->
  wpAny (model X.prog X.w) X.A (inplaceOp op v u) (EP X pins σ Q) X.xe s
section
variable {X:Cx} {pos:Pos}
def zjn (i:Nat):TG:=λv σ H Q=>Q (σ.set i (some v)) H
theorem zr5 {i:Nat} {x:Str} (hN:X.N.Nodup) (hi:X.N[i]? =some x) (hx:Loc X.env.scope x) (hf:X.fn x=true\/X.env.scope.names.lookup x=some .local:=by first|exact .inl rfl|exact .inr rfl|assumption):PG X (.Name x pos) (zjn i):=by
 intro pins s σ H v u Q I r h;exact wpAny_assign_Name (zai I hN hi hx r (λs' I'=>⟨_,H,I',h⟩) hf)
def gNil:TGs:=λvs σ H Q=>vs=[]/\Q σ H
def gCons (t:TG) (u:TGs):TGs:=λvs σ H Q=>∃v r,vs=v::r/\t v σ H λσ' H'=>u r σ' H' Q
theorem Zz:PGs X [] gNil:=by
 intro pins s σ H vs us Q I r h;obtain ⟨e,h⟩:=h;subst e;cases r;exact assignInOrder_nil ⟨σ,H,I,h⟩
theorem yi {e:Expr} {es:List Expr} {t:TG} {u:TGs} (h1:PG X e t) (h2:PGs X es u)
 (hs:(assignEach (e::es) X.env).map (·.2)=assign e X.env::(assignEach es X.env).map (·.2):=by rfl):PGs X (e::es) (gCons t u):=by
 intro pins s σ H vs us Q I r h;obtain ⟨v,vr,e1,h⟩:=h;subst e1
 cases r with
 |cons r rr=>
  rw [hs];refine assignInOrder_cons (thn (h1 pins s σ H _ _ _ I r h) λ_ s1 ⟨σ1,H1,I1,q1⟩=>?_);exact h2 pins s1 σ1 H1 _ _ Q I1 rr q1
def gTup (K:PySem.W.Frag) (n:Nat) (t:TGs):TG:=λv σ H Q=>∃a xs,v= .ref a/\SqT K H a xs/\xs.length=n/\t xs σ H Q
theorem YX {es:List Expr} {k:Nat} {t:TGs} {n:Nat} (hc:X.calm=true) (h:PGs X es t)
 (hn:(assignEach es X.env).length=n:=by rfl) (hst:(assignEach es X.env).findIdx? (·.1)=none:=by rfl):PG X (.Tuple es k pos) (gTup X.K n t):=by
 intro pins s σ H v u Q I r hw;obtain ⟨a,xs,e1,hq,hl,hw⟩:=hw;subst e1;cases r;obtain ⟨its,rv,ht,hz⟩:=I.tuple hq;refine assign_Tuple_tuple (I.ok.hd hc) ht (by simp [hn,<-hl,rv.length]) hst λh' hx=>?_;have I1:Inv X pins σ H {s with heap:=h'}:=I.kept (t':=s.toks) λb o e=>hx b o (jO (jv e)) e;exact h pins _ σ H xs _ Q I1 (by simpa using rv) hw
def gSub (to ti:TE) (t:TSet):TG:=λv σ H Q=>to σ H λo H1=>ti σ H1 λi H2=>t o i v H2 λH3=>Q σ H3
theorem pg_sub {o i:Expr} {to ti:TE} {t:TSet} (ho:PE X o to) (hi:PE X i ti) (hs:PSet X t)
 (ha:∀v,assign (.Subscript o i pos) X.env v=(do
  let ov<-holding [v] (eval o X.env)
  let iv<-holding [v,ov] (eval i X.env)
  standAt pos
  holding [v,ov,iv] (setItem ov iv v)
  release [v,ov,iv] []):=by intro _;rfl):PG X (.Subscript o i pos) (gSub to ti t):=by
 intro pins s σ H v u Q I r h;rw [ha];refine jg (Jp (thn (ho pins s σ H _ I h) λov s1 ⟨x,H1,I1,r1,q1⟩=>?_));refine jg (Jp (thn (hi pins s1 σ H1 _ I1 q1) λiv s2 ⟨y,H2,I2,r2,q2⟩=>?_));refine jg (wpAny_standAt (jg (Jp (thn (hs pins s2 σ H2 x y v ov iv u _ I2 r1 r2 r q2) λ_ s3 ⟨H3,I3,q3⟩=>?_))));exact wpAny_release ⟨σ,H3,I3,q3⟩
def tAsg (te:TE) (g:TG):TS:=λD σ H=>te σ H λx H1=>g x σ H1 D.nx
theorem zqL {tg e:Expr} {te:TE} {g:TG} (he:PE X e te) (hg:PG X tg g) (hs:swapsWithSole [tg] e pos.line X.env=pure false:=by rfl) (hw:swappedStores [tg] e X.env=pure none:=by rfl)
 (h1:(assignEach [tg] X.env).map (·.2)=[assign tg X.env]:=by rfl):PS X (.Assign [tg] e pos) (tAsg te g):=by
 intro pins s σ H D I h;refine wpAny_Assign_stores (thn (he pins s σ H _ I h) λv s1 ⟨x,H1,I1,r1,q1⟩=>?_) hs hw;rw [h1];exact thn (hg pins s1 σ H1 x v _ I1 r1 q1) λ_ s2 q=>q
theorem ps_set {i:Nat} {x:Str} {e:Expr} {te:TE} {pos':Pos} (hN:X.N.Nodup) (hi:X.N[i]? =some x) (hx:Loc X.env.scope x) (he:PE X e te) (hs:swapsWith e (some (.Name x pos')) pos.line X.env=pure false:=by rfl) (hf:X.fn x=true\/X.env.scope.names.lookup x=some .local:=by first|exact .inl rfl|exact .inr rfl|assumption):
 PS X (.Assign [.Name x pos'] e pos) (tAsg te (zjn i)):=by
 intro pins s σ H D I h;refine wpAny_Assign_Name (thn (he pins s σ H _ I h) λv s1 ⟨y,H1,I1,r1,q1⟩=>?_) hs;exact zai I1 hN hi hx r1 (λs2 I2=>⟨_,H1,I2,q1⟩) hf
def tPar (i j:Nat) (ta:TA):TS:=λD σ H=>ta σ H λvs H1=>∃v w,vs=[v,w]/\D.nx ((σ.set i (some v)).set j (some w)) H1
theorem ps_par {i j:Nat} {x y:Str} {a b:Expr} {ta:TA} {px py pt:Pos} {kt k2 pt2} (hc:X.calm=true) (hN:X.N.Nodup) (hi:X.N[i]? =some x) (hj:X.N[j]? =some y) (hij:i≠j)
 (hx:X.env.scope.names.lookup x=some .local) (hy:X.env.scope.names.lookup y=some .local) (ha:PA X [a,b] ta)
 (hw:swappedStores [.Tuple [.Name x px, .Name y py] kt pt] (.Tuple [a,b] k2 pt2) X.env=pure (some [x,y]))
 (hs:swapsWithSole [.Tuple [.Name x px, .Name y py] kt pt] (.Tuple [a,b] k2 pt2) pos.line X.env=pure false:=by rfl):
 PS X (.Assign [.Tuple [.Name x px, .Name y py] kt pt] (.Tuple [a,b] k2 pt2) pos) (tPar i j ta):=by
 intro pins s σ H D I h;rw [exec_Assign_arm];refine jg (wpAny_standAt ?_);rw [hs];refine jg (jr ?_);rw [jQ (by decide)];refine jg (Tuple_ (thn (ha _ pins s σ H _ I h) λus s1 ⟨vs,H1,I1,r1,q1⟩=>?_));obtain ⟨v,w,e1,q1⟩:=q1;subst e1
 obtain ⟨u1,u2,rfl,rv,rw'⟩:∃u1 u2,us=[u1,u2]/\YZ v u1/\YZ w u2:=by
  cases r1 with
  |cons p q=>
   cases q with
   |cons p' q'=>
    cases q';exact ⟨_,_,rfl,p,p'⟩
 refine qU ?_ (by show 2<=sizeLine;decide);have I2:Inv X pins σ H1 {s1 with heap:=s1.heap.push {cls:= .type "tuple",data:= .seq [u1,u2].toArray}}:=I1.kept (t':=s1.toks) λb o e=>ji _ e;rw [hw];refine jg (jr ?_);show wpAny (model X.prog X.w) X.A (do rule "assign.swapped-stores";let items<-unpackItems (.ref s1.heap.objs.size) 2 none;assignInOrder [λv=>bindName X.env y v,λv=>bindName X.env x v] items.reverse;pure Flow.next) _ _ _;refine jg (Qj (jg (unpackItems_tuple (items:=#[u1,u2]) (I.ok.hd hc) (IsTup.new s1.heap _) λh' hx'=>?_)));have I3:=I2.kept (h':=h') (t':=s1.toks) λb o e=>hx' b o (jO (jv e)) e;show wpAny _ _ (assignInOrder [λv=>bindName X.env y v,λv=>bindName X.env x v] [u2,u1]>>=λ_=>pure Flow.next) _ _ _;refine jg (assignInOrder_cons (wpAny_bindName (zai I3 hN hj (.inl hy) rw' (λs2 I4=>?_) (.inr hy))));refine assignInOrder_cons (wpAny_bindName (zai I4 hN hi (.inl hx) rv (λs3 I5=>assignInOrder_nil (jr ?_)) (.inr hx)));rw [List.set_comm _ _ (Ne.symm hij)] at I5;exact ⟨_,H1,I5,q1⟩
def tAug (i:Nat) (te:TE) (ti:TIp):TS:=λD σ H=>∃x,σ[i]? =some (some x)/\te σ H λy H1=>ti x y H1 λz H2=>D.nx (σ.set i (some z)) H2
theorem znd {i:Nat} {x:Str} {e:Expr} {te:TE} {op:Operator} {ti:TIp} {pos':Pos} (hN:X.N.Nodup) (hi:X.N[i]? =some x) (hx:Loc X.env.scope x) (he:PE X e te) (ho:PIp X op ti) (hf:X.fn x=true\/X.env.scope.names.lookup x=some .local:=by first|exact .inl rfl|exact .inr rfl|assumption):
 PS X (.AugAssign (.Name x pos') op e pos) (tAug i te ti):=by
 intro pins s σ H D I h;obtain ⟨v,e1,h⟩:=h;obtain ⟨m,hn,hl⟩:=I.loc
 have vis:Vis X.env.scope x:=by rcases hx with k|k;exact .inl k;exact .inr (.inl k)
 obtain ⟨u,r,l⟩:=hl i x v hi e1 vis;refine wpAny_AugAssign_Name ?_
 have go:wpAny (model X.prog X.w) X.A (eval e X.env) (λw s₂=>wpAny (model X.prog X.w) X.A (inplaceOp op u w) (λr s₃=>wpAny (model X.prog X.w) X.A (storeName X.env x r) (λ_=>SP X pins D .next) X.xe s₃) X.xe s₂) X.xe s:=by
  refine thn (he pins s σ H _ I h) λw s1 ⟨y,H1,I1,r1,q1⟩=>?_;refine thn (ho pins s1 σ H1 v y u w _ I1 r r1 q1) λz s2 ⟨zv,H2,I2,r2,q2⟩=>?_;exact zai I2 hN hi hx r2 (λs3 I3=>⟨_,H2,I3,q2⟩) hf
 rcases l with ⟨hk,hm⟩|⟨hk,c,hc,hcell⟩
 ·exact wpAny_loadName_local I.ok.kind hk hn hm go
 ·rcases hk with hk|hk
  ·exact wpAny_loadName_cell I.ok.kind hk hc hcell go
  ·rcases hx with k|k
   ·have:X.env.scope.names.lookup x=some .free:=hk;rw [k] at this;cases this
   ·have:X.env.scope.names.lookup x=some .free:=hk;rw [k] at this;cases this
def ipI (f:Int->Int->Int):TIp:=λx y H Q=>∃i j,x= .int i/\y= .int j/\Q (.int (f i j)) H
theorem znZ:PIp X .Add (ipI λi j=>i+j):=by
 intro pins s σ H x y v u Q I r1 r2 h;obtain ⟨i,j,e1,e2,q⟩:=h;subst e1;subst e2;obtain ⟨t,rfl⟩:=r1;obtain ⟨t',rfl⟩:=r2;exact iadd_int ⟨.int _,H,I.tok _,⟨_,rfl⟩,q⟩
end
section
variable {X:Cx} {pos:Pos}
def zmr (c:TT) (tb:TS):TS:=λD σ H=>∃W:Nat->St->Hp->Prop,(∃m,W m σ H)/\∀m σ H,W m σ H->
 c σ H λb H1=>if b=true then ∃N:St->Hp->Prop,(∀σ' H',N σ' H'->∃m',m'<m/\W m' σ' H')/\tb {D with nx:=N,ct:=N,bk:=D.nx} σ H1 else D.nx σ H1
theorem zcM {c:Expr} {body:List Stmt} {tc:TT} {tb:TS} (hp:PassesOwn (model X.prog X.w) X.A X.env X.xe) (hc:PT X c tc) (hb:PSs X body tb):PS X (.While c body [] pos) (zmr tc tb):=by
 intro pins s σ H D I h;obtain ⟨W,⟨m0,w0⟩,turn⟩:=h;refine wpAny_While (codeAny_whileLoop (λn s'=>∃σ' H',Inv X pins σ' H' s'/\W n σ' H') ?_ m0 ⟨σ,H,I,w0⟩)
 rintro n s1 ⟨σ1,H1,I1,w1⟩
 refine Jl hp (thn (hc pins s1 σ1 H1 _ I1 (turn n σ1 H1 w1)) λb s2 ⟨H2,I2,q2⟩=>?_)
 cases b with
 |true=>
  obtain ⟨N,hN,q2⟩:=q2;rw [jK rfl];refine Jl hp (thn (hb pins s2 σ1 H2 _ I2 q2) λf s3 q3=>?_)
  cases f with
  |next=>
   obtain ⟨σ3,H3,I3,n3⟩:=q3;obtain ⟨m',hm,w3⟩:=hN σ3 H3 n3;exact ⟨m',hm,σ3,H3,I3,w3⟩
  |cont=>
   obtain ⟨σ3,H3,I3,n3⟩:=q3;obtain ⟨m',hm,w3⟩:=hN σ3 H3 n3;exact ⟨m',hm,σ3,H3,I3,w3⟩
  |brk=>exact q3
  |ret v=>exact q3
 |false=>
  rw [jQ jI];exact wpAny_execs_nil ⟨σ1,H2,I2,q2⟩
end
structure It where
 go:Nat->Hp->Prop
 yld:Nat->Hp->V->Hp->Prop
 stop:Nat->Hp->Prop
def zjP (X:Cx) (pins:List (Addr×Obj)) (H:Hp) (b:Addr):Prop:=
 H b=none/\b≠X.env.locals/\b∉X.fs/\(b∈X.ex\/X.s₀.heap.objs.size<=b)/\(∀x c,X.env.cells.lookup x=some c->c≠b)/\∀p∈X.pn++pins,p.1≠b
theorem Inv.fpOk {X:Cx} {pins:List (Addr×Obj)} {σ:St} {H H':Hp} {s:Shared} {b:Addr} (I:Inv X pins σ H s) (hb:s.heap.objs.size<=b) (hn:H' b=none):zjP X pins H' b:=by
 refine ⟨hn,Jd (jY I.lt hb),I.nofs hb, .inr (jS I.sz hb),λx c e z=>?_,λp hp z=>?_⟩
 ·obtain ⟨v,q⟩:=I.cell x c e;exact absurd (jY q.lt (by rw [z];exact hb)) (wv _)
 ·exact absurd (jY (jv (I.pin p hp).1) (by rw [z];exact hb)) (wv _)
structure Turn (P:Program) (w:World) (K:PySem.W.Frag) (tg:Expr) (J:It) (fp:List Addr) (it:Addr) (tn:Nat->Heap->Prop):Prop where
 mem:it∈fp
 obj:∀i h,tn i h->∀b∈fp,∃o,h.get? b=some o/\∀v,o.data≠ .cell v
 keep:∀i h h',tn i h->(∀b∈fp,∀o,h.get? b=some o->h'.get? b=some o)->tn i h'
 item:∀(X:Cx),X.prog=P->X.w=w->X.K=K->X.calm=true->∀(i:Nat) (pins:List (Addr×Obj)) (s:Shared) (σ:St) (H:Hp) (E:Value->Shared->Prop),Inv X pins σ H s->(∀b∈fp,zjP X pins H b)->tn i s.heap->J.go i H->
  wpAny (model P w) X.A (pyNext (.ref it)) (λr s1=>∃u,r=some u/\
   wpAny (model P w) X.A (letOwnedTupleGo tg (.ref it) u) (λ_ s2=>∃x H',Inv X pins σ H' s2/\YZ x u/\J.yld i H x H'/\tn (i+1) s2.heap/\∀b∈fp,H' b=none) E s1) E s
 done:∀(X:Cx),X.prog=P->X.w=w->X.K=K->X.calm=true->∀(i:Nat) (pins:List (Addr×Obj)) (s:Shared) (σ:St) (H:Hp) (E:Value->Shared->Prop),Inv X pins σ H s->(∀b∈fp,zjP X pins H b)->tn i s.heap->J.stop i H->
  wpAny (model P w) X.A (pyNext (.ref it)) (λr s1=>r=none/\Inv X pins σ H s1) E s
 self:∀(A:Around) (i:Nat) (s:Shared) (Q:Value->Shared->Prop) (E:Value->Shared->Prop),tn i s.heap->Q (.ref it) s->wpAny (model P w) A (pyIter (.ref it)) Q E s
abbrev TI:=St->Hp->(It->Hp->Prop)->Prop
def PIE (X:Cx) (pins:List (Addr×Obj)) (σ:St) (tg:Expr) (R:It->Hp->Prop) (itv:Value) (s2:Shared):Prop:=
 ∃(it:Addr) (fp:List Addr) (tn:Nat->Heap->Prop) (J:It) (H':Hp),itv= .ref it/\Inv X pins σ H' s2/\Turn X.prog X.w X.K tg J fp it tn/\tn 0 s2.heap/\(∀b∈fp,zjP X pins H' b)/\R J H'
def PI (X:Cx) (tg iter:Expr) (wi:TI):Prop:=
 ∀(pins:List (Addr×Obj)) (s:Shared) (σ:St) (H:Hp) (R:It->Hp->Prop),Inv X pins σ H s->wi σ H R->
  wpAny (model X.prog X.w) X.A (eval iter X.env) (λv s1=>wpAny (model X.prog X.w) X.A (pyIter v) (PIE X pins σ tg R) X.xe s1) X.xe s
theorem zqa {M:Model} {A:Around} {E:Value->Shared->Prop} {s:Shared} {tg:Expr} {it:Addr} {u:Value} {o:Obj} {n:String} {vs:Array Value} {Q:Unit->Shared->Prop} (ho:s.heap.get? it=some o) (hc:o.cls= .type n) (hd:o.data= .fields vs)
 (hn:["enumerate","zip","dict_itemiterator","dict_reverseitemiterator","odict_iterator","itertools.zip_longest","itertools.pairwise"].contains n=false) (hQ:Q () s):wpAny M A (letOwnedTupleGo tg (.ref it) u) Q E s:=by
 unfold letOwnedTupleGo
 cases tg<;>first
  |exact jr hQ
  |(cases u<;>first
   |exact jr hQ
   |(refine jg (wpAny_load ho ?_)
     rw [hc,hd];show wpAny M A (if (["enumerate","zip","dict_itemiterator","dict_reverseitemiterator","odict_iterator","itertools.zip_longest","itertools.pairwise"].contains n && vs[0]? ==some (rawInt _))=true then _ else _) Q E s;rw [jQ (by intro h;rw [hn,Bool.false_and] at h;cases h)]
     exact jr hQ))
def Itl (K:PySem.W.Frag) (a:Addr):It:=
 ⟨λi H=>∃xs x,SqL K H a xs/\xs[i]? =some x,λi H x H'=>H'=H/\∀xs,SqL K H a xs->xs[i]? =some x,λi H=>∃xs,SqL K H a xs/\xs.length<=i⟩
def Itt (K:PySem.W.Frag) (a:Addr):It:=
 ⟨λi H=>∃xs x,SqT K H a xs/\xs[i]? =some x,λi H x H'=>H'=H/\∀xs,SqT K H a xs->xs[i]? =some x,λi H=>∃xs,SqT K H a xs/\xs.length<=i⟩
def Itr (lo:Int) (n:Nat):It:=⟨λi _=>i<n,λi H x H'=>H'=H/\x= .int (lo+i),λi _=>n<=i⟩
theorem zmp {P:Program} {w:World} {K:PySem.W.Frag} {tg:Expr} (a it:Addr):Turn P w K tg (Itl K a) [it] it (λi h=>h.IsListIter it a i) where
 mem:=by simp
 obj:=λi h st b hb=>by
  have e:b=it:=by simpa using hb
  subst e;obtain ⟨o,e,c,d⟩:=st;exact ⟨o,e,λv z=>by rw [d] at z;cases z⟩
 keep:=λi h h' st k=>st.at λo e=>k it (by simp) o e
 item:=by
  intro X hP hw hK hc i pins s σ H E I hf st hg;subst hP hw hK;obtain ⟨xs,x,hq,hx⟩:=hg;obtain ⟨its,rv,p,hz⟩:=I.list hq;obtain ⟨u,hu,ru⟩:=rv.get hx;obtain ⟨f0,f1,f2,f3,f4,f5⟩:=hf it (by simp);refine wpAny_pyNext_list_item st p.isList (x:=u) (by simpa using hu) λh' st' sb=>?_;have I1:Inv X pins σ H {s with heap:=h'}:=I.turned (t':=s.toks) (λb o hb e=>(sb.2 b hb).trans e) f0 f1 f3 f4 f5;obtain ⟨o,e,c,d⟩:=id st';exact ⟨u,rfl,zqa (s:={s with heap:=h'}) e c d (by decide) ⟨x,H,I1,ru,⟨rfl,λys hy=>by rw [I.list_inj hy hq];exact hx⟩,st',λb hb=>(hf b hb).1⟩⟩
 done:=by
  intro X hP hw hK hc i pins s σ H E I hf st hg;subst hP hw hK;obtain ⟨xs,hq,hx⟩:=hg;obtain ⟨its,rv,p,hz⟩:=I.list hq;obtain ⟨f0,f1,f2,f3,f4,f5⟩:=hf it (by simp);have hl:=rv.length;exact wpAny_pyNext_list_end (I.ok.hd hc) st p.isList (by simp;omega) λh' eb=>⟨rfl,I.turned (t':=s.toks) (λb o hb e=>eb b o hb e) f0 f1 f3 f4 f5⟩
 self:=λ_ _ _ _ _ st h=>wpAny_pyIter_listiter st h
theorem zk2 {P:Program} {w:World} {K:PySem.W.Frag} {tg:Expr} (a it:Addr):Turn P w K tg (Itt K a) [it] it (λi h=>h.IsTupleIter it a i) where
 mem:=by simp
 obj:=λi h st b hb=>by
  have e:b=it:=by simpa using hb
  subst e;obtain ⟨o,e,c,d⟩:=st;exact ⟨o,e,λv z=>by rw [d] at z;cases z⟩
 keep:=λi h h' st k=>st.at λo e=>k it (by simp) o e
 item:=by
  intro X hP hw hK hc i pins s σ H E I hf st hg;subst hP hw hK;obtain ⟨xs,x,hq,hx⟩:=hg;obtain ⟨its,rv,p,hz⟩:=I.tuple hq;obtain ⟨u,hu,ru⟩:=rv.get hx;obtain ⟨f0,f1,f2,f3,f4,f5⟩:=hf it (by simp);refine wpAny_pyNext_tuple_item st (show s.heap.IsTuple a its.toArray from p) (x:=u) (by simpa using hu) λh' st' sb=>?_;have I1:Inv X pins σ H {s with heap:=h'}:=I.turned (t':=s.toks) (λb o hb e=>(sb.2 b hb).trans e) f0 f1 f3 f4 f5;obtain ⟨o,e,c,d⟩:=id st';exact ⟨u,rfl,zqa (s:={s with heap:=h'}) e c d (by decide) ⟨x,H,I1,ru,⟨rfl,λys hy=>by rw [I.tuple_inj hy hq];exact hx⟩,st',λb hb=>(hf b hb).1⟩⟩
 done:=by
  intro X hP hw hK hc i pins s σ H E I hf st hg;subst hP hw hK;obtain ⟨xs,hq,hx⟩:=hg;obtain ⟨its,rv,p,hz⟩:=I.tuple hq;obtain ⟨f0,f1,f2,f3,f4,f5⟩:=hf it (by simp);have hl:=rv.length;exact wpAny_pyNext_tuple_end (I.ok.hd hc) st (show s.heap.IsTuple a its.toArray from p) (by simp;omega) λh' eb=>⟨rfl,I.turned (t':=s.toks) (λb o hb e=>eb b o hb e) f0 f1 f3 f4 f5⟩
 self:=λ_ _ _ _ _ st h=>wpAny_pyIter_tupleiter st h
theorem zk3 {P:Program} {w:World} {K:PySem.W.Frag} {tg:Expr} (it:Addr) (lo:Int) (n:Nat):Turn P w K tg (Itr lo n) [it] it (λi h=>IsRangeIter h it (lo+(i:Nat)*1) ((n:Int) - (i:Nat)) 1) where
 mem:=by simp
 obj:=λi h st b hb=>by
  have e:b=it:=by simpa using hb
  subst e
  exact ⟨_,st,λv z=>by
   have z':Data.fields _=Data.cell v:=z
   cases z'⟩
 keep:=λi h h' st k=>k it (by simp) _ st
 item:=by
  intro X hP hw hK hc i pins s σ H E I hf st hg;subst hP hw hK;obtain ⟨f0,f1,f2,f3,f4,f5⟩:=hf it (by simp);have W:=Walks.range (prog:=X.prog) (w:=X.w) (I.ok.hd hc) it lo 1 n;refine W.item i s _ _ hg st λv h' tk hv st' kk=>?_;obtain ⟨t,rfl⟩:=hv;have I1:Inv X pins σ H {s with heap:=h',toks:=tk}:=I.turned (λb o hb e=>kk b o (by simpa using hb) e) f0 f1 f3 f4 f5;refine ⟨_,rfl,zqa (s:={s with heap:=h',toks:=tk}) (n:="range_iterator") st' rfl rfl (by decide) ⟨.int (lo+i),H,I1,⟨t,?_⟩,⟨rfl,rfl⟩,st',λb hb=>(hf b hb).1⟩⟩;rw [Qf]
 done:=by
  intro X hP hw hK hc i pins s σ H E I hf st hg;subst hP hw hK;obtain ⟨f0,f1,f2,f3,f4,f5⟩:=hf it (by simp);exact wpAny_pyNext_range_end (I.ok.hd hc) st (by have:n<=i:=hg;omega) λh' eb=>⟨rfl,I.turned (t':=s.toks) (λb o hb e=>eb b o hb e) f0 f1 f3 f4 f5⟩
 self:=λ_ _ _ _ _ st h=>wpAny_pyIter_rangeiter st h
end L2
namespace L2
open PySem PySem.Spec PyProof.Rows
section
variable {X:Cx} {tg:Expr}
def iList (K:PySem.W.Frag) (tl:TE):TI:=λσ H R=>tl σ H λx H1=>∃a,x= .ref a/\(∃xs,SqL K H1 a xs)/\R (Itl K a) H1
def iTup (K:PySem.W.Frag) (tl:TE):TI:=λσ H R=>tl σ H λx H1=>∃a,x= .ref a/\(∃xs,SqT K H1 a xs)/\R (Itt K a) H1
theorem ye {l:Expr} {tl:TE} (hl:PE X l tl):PI X tg l (iList X.K tl):=by
 intro pins s σ H R I h;refine thn (hl pins s σ H _ I h) λv s1 ⟨x,H1,I1,r1,q1⟩=>?_;obtain ⟨a,e,⟨xs,hq⟩,q⟩:=q1;subst e;cases r1;obtain ⟨its,rv,p,hz⟩:=I1.list hq;refine wE p.isList ?_;refine ⟨s1.heap.objs.size,[s1.heap.objs.size],_,_,H1,rfl,I1.kept (t':=s1.toks) λb o e=>ji _ e,zmp a _,⟨_,jx _ rfl,rfl,rfl⟩,λb hb=>?_,q⟩;have e:b=s1.heap.objs.size:=by simpa using hb
 subst e;exact I1.fpOk (jy _) (I1.hok.fresh (jy _))
theorem znf {l:Expr} {tl:TE} (hl:PE X l tl):PI X tg l (iTup X.K tl):=by
 intro pins s σ H R I h;refine thn (hl pins s σ H _ I h) λv s1 ⟨x,H1,I1,r1,q1⟩=>?_;obtain ⟨a,e,⟨xs,hq⟩,q⟩:=q1;subst e;cases r1;obtain ⟨its,rv,p,hz⟩:=I1.tuple hq;refine wl (show s1.heap.IsTuple a its.toArray from p) ?_;refine ⟨s1.heap.objs.size,[s1.heap.objs.size],_,_,H1,rfl,I1.kept (t':=s1.toks) λb o e=>ji _ e,zk2 a _,⟨_,jx _ rfl,rfl,rfl⟩,λb hb=>?_,q⟩;have e:b=s1.heap.objs.size:=by simpa using hb
 subst e;exact I1.fpOk (jy _) (I1.hok.fresh (jy _))
theorem zpk {pins:List (Addr×Obj)} {σ:St} {H:Hp} {s:Shared} {R:It->Hp->Prop} {E:Value->Shared->Prop} {lo hi:Int} {t u v:Tok} {tk:Nat} (I:Inv X pins σ H s) (h1: -(2 ^ 62)<=lo) (h2:lo<2 ^ 62) (h3: -(2 ^ 62)<=hi) (h4:hi<2 ^ 62)
 (q:R (Itr lo (hi - lo).toNat) H):wpAny (model X.prog X.w) X.A (pyIter (.ref s.heap.objs.size)) (PIE X pins σ tg R) E {s with heap:=s.heap.push {cls:= .type "range",data:= .fields #[.int lo t, .int hi u, .int 1 v]},toks:=tk}:=by
 refine wpAny_pyIter_range (IsRange.new ..) (small_one h1 h2 h3 h4) ?_;have I1:Inv X pins σ H {s with heap:=s.heap.push {cls:= .type "range",data:= .fields #[.int lo t, .int hi u, .int 1 v]},toks:=tk}:=I.kept λb o e=>ji _ e
 refine ⟨(s.heap.push {cls:= .type "range",data:= .fields #[.int lo t, .int hi u, .int 1 v]}).objs.size,[(s.heap.push {cls:= .type "range",data:= .fields #[.int lo t, .int hi u, .int 1 v]}).objs.size],_,_,H,rfl,
  I1.kept (t':=tk) λb o e=>ji _ e,zk3 _ lo (hi - lo).toNat,?_,λb hb=>?_,q⟩
 ·have e1:lo+((0:Nat):Int)*1=lo:=by simp
  have e2:(((hi - lo).toNat:Nat):Int) - ((0:Nat):Int)=Builtin.Range.rangeSize lo hi 1:=by rw [rangeSize_one];split<;>omega
  show IsRangeIter _ _ (lo+((0:Nat):Int)*1) ((((hi - lo).toNat:Nat):Int) - ((0:Nat):Int)) 1;rw [e1,e2];exact jx _ rfl
 ·have e:b=(s.heap.push {cls:= .type "range",data:= .fields #[.int lo t, .int hi u, .int 1 v]}).objs.size:=by simpa using hb
  subst e;exact I1.fpOk (jy _) (I1.hok.fresh (jy _))
def iRng1 (ta:TA):TI:=λσ H R=>ta σ H λvs H1=>∃j:Int,vs=[.int j]/\ -(2 ^ 62)<=j/\j<2 ^ 62/\R (Itr 0 j.toNat) H1
theorem zdz {a:Expr} {ta:TA} {p pos:Pos} (hg:Gl X "range") (hm:X.mg "range"=none) (ha:PA X [a] ta) (hs:starEach [a] X.env=[(false,eval a X.env)]:=by rfl):PI X tg (.Call (.Name "range" p) [a] [] pos) (iRng1 ta):=by
 intro pins s σ H R I h;refine Call_ (zaO I hg hm boot_range (wa (thn (ha pos pins s σ H _ I h) λus s1 ⟨vs,H1,I1,r1,q1⟩=>?_) hs rfl));obtain ⟨j,e,q1,q2,q⟩:=q1;subst e
 cases r1 with
 |cons r rr=>
  cases rr;obtain ⟨t,rfl⟩:=r;exact call_range_1 (zpk I1 (by omega) (by omega) q1 q2 (by simpa using q))
def tFor (wi:TI) (g:TG) (tb:TS):TS:=λD σ H=>wi σ H λJ H1=>∃W:Nat->Nat->St->Hp->Prop,(∃m,W 0 m σ H1)/\∀i m σ H,W i m σ H->
 (J.stop i H/\D.nx σ H)\/(J.go i H/\∃N:St->Hp->Prop,(∀σ' H',N σ' H'->∃m',m'<m/\W (i+1) m' σ' H')/\∀x H',J.yld i H x H'->g x σ H' λσ2 H2=>tb {D with nx:=N,ct:=N,bk:=D.nx} σ2 H2)
def zfq (fp:List Addr) (h:Heap):List (Addr×Obj):=fp.filterMap λb=>(h.get? b).map λo=>(b,o)
theorem Xl {fp:List Addr} {h:Heap} {b:Addr} {o:Obj} (hb:b∈fp) (e:h.get? b=some o):(b,o)∈zfq fp h:=JV.mpr ⟨b,hb,by rw [e];rfl⟩
theorem znE {fp:List Addr} {h:Heap} {p:Addr×Obj} (hp:p∈zfq fp h):p.1∈fp/\h.get? p.1=some p.2:=by
 obtain ⟨b,hb,e⟩:=JV.mp hp
 cases q:h.get? b with
 |none=>rw [q] at e;cases e
 |some o=>
  rw [q] at e;have e':(b,o)=p:=jL e;subst e';exact ⟨hb,q⟩
theorem Inv.pinned {pins:List (Addr×Obj)} {σ:St} {H:Hp} {s:Shared} {fp:List Addr} (I:Inv X pins σ H s) (hf:∀b∈fp,zjP X pins H b) (ho:∀b∈fp,∃o,s.heap.get? b=some o/\∀v,o.data≠ .cell v):Inv X (pins++zfq fp s.heap) σ H s:=
 I.pins_of λp hp=>(jV.mp hp).elim (λz=>I.pin p (jG _ z)) λz=>by
  obtain ⟨hb,e⟩:=znE z;obtain ⟨f0,f1,f2,_⟩:=hf p.1 hb;obtain ⟨o,e',d⟩:=ho p.1 hb;rw [e] at e';cases e';exact ⟨e,f0,f1,f2,d⟩
theorem Inv.unpinned {pins pl:List (Addr×Obj)} {σ:St} {H:Hp} {s:Shared} (I:Inv X (pins++pl) σ H s):Inv X pins σ H s:=I.pins_of λp hp=>I.pin p (jG _ (qW _ hp))
theorem Xw {iter:Expr} {body:List Stmt} {wi:TI} {g:TG} {tb:TS} {pos:Pos} (hp:PassesOwn (model X.prog X.w) X.A X.env X.xe) (hc:X.calm=true) (hi:PI X tg iter wi) (hg:PG X tg g) (hb:PSs X body tb)
 (hs:∀x,foldedSetIterable iter X.env x=pure x:=by intro _;rfl):PS X (.For tg iter body [] pos) (tFor wi g tb):=by
 intro pins s σ H D I h;refine wpAny_For (thn (hi pins s σ H _ I h) λv s1 h1=>thn h1 λitv s2 h2=>?_) hs;obtain ⟨it,fp,tn,J,H2,e,I2,T,st2,f2,W,⟨m0,w0⟩,turn⟩:=h2;subst e;have stat:∀{H':Hp},(∀b∈fp,H' b=none)->∀b∈fp,zjP X pins H' b:=λhn b hb=>⟨hn b hb,(f2 b hb).2⟩;refine codeAny_forLoop_any (λn s'=>∃i σ' H',Inv X pins σ' H' s'/\tn i s'.heap/\(∀b∈fp,H' b=none)/\W i n σ' H') ?_ m0 ⟨0,σ,H2,I2,st2,λb hb=>(f2 b hb).1,w0⟩
 rintro n s3 ⟨i,σ3,H3,I3,st3,fr3,w3⟩
 rcases turn i n σ3 H3 w3 with ⟨stop,qn⟩|⟨go,N,hN,step⟩
 ·refine Jl hp (thn (T.done X rfl rfl rfl hc i pins s3 σ3 H3 X.xe I3 (stat fr3) st3 stop) λr s4 ⟨hr,I4⟩=>?_);subst hr;exact wpAny_execs_nil ⟨σ3,H3,I4,qn⟩
 ·refine Jl hp (thn (T.item X rfl rfl rfl hc i pins s3 σ3 H3 X.xe I3 (stat fr3) st3 go) λr s4 ⟨u,hr,h4⟩=>?_);subst hr;refine Jl hp (thn h4 λ_ s5 ⟨x,H5,I5,r5,y5,st5,fr5⟩=>?_);have I5':=I5.pinned (stat fr5) (T.obj _ _ st5);refine Jl hp (thn (hg _ s5 σ3 H5 x u _ I5' r5 (step x H5 y5)) λ_ s6 ⟨σ6,H6,I6,q6⟩=>?_);refine Jl hp (thn (hb _ s6 σ6 H6 _ I6 q6) λf s7 q7=>?_)
  have again:∀{σ7:St} {H7:Hp},Inv X (pins++zfq fp s5.heap) σ7 H7 s7->N σ7 H7->∃m,m<n/\∃i σ' H',Inv X pins σ' H' s7/\tn i s7.heap/\(∀b∈fp,H' b=none)/\W i m σ' H':=λ{σ7 H7} I7 n7=>by
   obtain ⟨m',hm,w7⟩:=hN σ7 H7 n7;refine ⟨m',hm,i+1,σ7,H7,I7.unpinned,T.keep _ _ _ st5 λb hb o e=>(I7.pin (b,o) (jG _ (jG _ (Xl hb e)))).1,λb hb=>?_,w7⟩;obtain ⟨o,e,d⟩:=T.obj _ _ st5 b hb;exact (I7.pin (b,o) (jG _ (jG _ (Xl hb e)))).2.1
  cases f with
  |next=>obtain ⟨σ7,H7,I7,n7⟩:=q7;exact again I7 n7
  |cont=>obtain ⟨σ7,H7,I7,n7⟩:=q7;exact again I7 n7
  |brk=>obtain ⟨σ7,H7,I7,q7⟩:=q7;exact ⟨σ7,H7,I7.unpinned,q7⟩
  |ret v=>obtain ⟨x7,σ7,H7,I7,r7,q7⟩:=q7;exact ⟨x7,σ7,H7,I7.unpinned,r7,q7⟩
end
end L2
namespace L2
open PySem PySem.Spec PyProof.Rows
abbrev R2:=V->V->Hp->VK->Prop
def OpR (X:Cx) (f:Value->Value->Sem Value) (r:R2):Prop:=
 ∀(pins:List (Addr×Obj)) (s:Shared) (σ:St) (H:Hp) (x y:V) (v u:Value) (Q:VK),Inv X pins σ H s->YZ x v->YZ y u->r x y H Q->
  wpAny (model X.prog X.w) X.A (f v u) (EP X pins σ Q) X.xe s
def UnR (X:Cx) (f:Value->Sem Value) (r:V->Hp->VK->Prop):Prop:=
 ∀(pins:List (Addr×Obj)) (s:Shared) (σ:St) (H:Hp) (x:V) (v:Value) (Q:VK),Inv X pins σ H s->YZ x v->r x H Q->
  wpAny (model X.prog X.w) X.A (f v) (EP X pins σ Q) X.xe s
def Vm (X:Cx) (f:Value) (r:List V->Hp->VK->Prop):Prop:=
 ∀(pins:List (Addr×Obj)) (s:Shared) (σ:St) (H:Hp) (xs:List V) (us:List Value) (Q:VK),Inv X pins σ H s->Zw xs us->r xs H Q->
  wpAny (model X.prog X.w) X.A (call f us) (EP X pins σ Q) X.xe s
def tOp (r:R2) (ta tb:TE):TE:=λσ H Q=>ta σ H λx H1=>tb σ H1 λy H2=>r x y H2 Q
def tUn (r:V->Hp->VK->Prop) (ta:TE):TE:=λσ H Q=>ta σ H λx H1=>r x H1 Q
def rI (C:Int->Int->Prop) (g:Int->Int->V):R2:=λx y H Q=>∃i j,x= .int i/\y= .int j/\C i j/\Q (g i j) H
def rI0 (g:Int->Int->V):R2:=λx y H Q=>∃i j,x= .int i/\y= .int j/\Q (g i j) H
def rU (g:Int->V):V->Hp->VK->Prop:=λx H Q=>∃i,x= .int i/\Q (g i) H
section
variable {X:Cx} {a b c:Expr} {ta tb tc:TE} {pos:Pos}
theorem binT (ha:PE X a ta) (hb:PE X b tb) {pins:List (Addr×Obj)} {s:Shared} {σ:St} {H:Hp} {R:V->V->Hp->Prop} (I:Inv X pins σ H s)
 (h:ta σ H λx H1=>tb σ H1 λy H2=>R x y H2) {Q:Value->Shared->Prop} {f:Value->Value->Sem Value}
 (hf:∀v u s2 x y H2,Inv X pins σ H2 s2->YZ x v->YZ y u->R x y H2->wpAny (model X.prog X.w) X.A (f v u) Q X.xe s2):
 wpAny (model X.prog X.w) X.A (eval a X.env) (λv s₁=>wpAny (model X.prog X.w) X.A (eval b X.env) (λu s₂=>wpAny (model X.prog X.w) X.A (f v u) Q X.xe s₂) X.xe s₁) X.xe s:=by
 refine thn (ha pins s σ H _ I h) λv s1 ⟨x,H1,I1,r1,q1⟩=>?_;refine thn (hb pins s1 σ H1 _ I1 q1) λu s2 ⟨y,H2,I2,r2,q2⟩=>?_;exact hf v u s2 x y H2 I2 r1 r2 q2
theorem zM {op:Operator} {r:R2} (ho:OpR X (binaryOp op) r) (ha:PE X a ta) (hb:PE X b tb):PE X (.BinOp a op b pos) (tOp r ta tb):=by
 intro pins s σ H Q I h;exact wpAny_BinOp (binT ha hb I h λv u s2 x y H2 I2 rx ry q=>ho pins s2 σ H2 x y v u Q I2 rx ry q)
theorem zr6 {op:UnaryOp} {r:V->Hp->VK->Prop} (ho:UnR X (unaryOp op) r) (ha:PE X a ta):PE X (.UnaryOp op a pos) (tUn r ta):=by
 intro pins s σ H Q I h;exact UnaryOp_ (thn (ha pins s σ H _ I h) λv s1 ⟨x,H1,I1,r1,q1⟩=>ho pins s1 σ H1 x v Q I1 r1 q1)
theorem opI {f:Value->Value->Sem Value} {C:Int->Int->Prop} {g:Int->Int->Int}
 (rule:∀(i j:Int) (t u:Tok) (s:Shared) (Q:Value->Shared->Prop) (E:Value->Shared->Prop),C i j->Q (.int (g i j) s.toks) {s with toks:=s.toks+1}->wpAny (model X.prog X.w) X.A (f (.int i t) (.int j u)) Q E s):
 OpR X f (rI C λi j=> .int (g i j)):=by
 intro pins s σ H x y v u Q I rx ry h;obtain ⟨i,j,rfl,rfl,hc,q⟩:=h;obtain ⟨t,rfl⟩:=rx;obtain ⟨t',rfl⟩:=ry;exact rule i j t t' s _ _ hc ⟨.int (g i j),H,I.tok _,⟨_,rfl⟩,q⟩
theorem opI0 {f:Value->Value->Sem Value} {g:Int->Int->Int}
 (rule:∀(i j:Int) (t u:Tok) (s:Shared) (Q:Value->Shared->Prop) (E:Value->Shared->Prop),Q (.int (g i j) s.toks) {s with toks:=s.toks+1}->wpAny (model X.prog X.w) X.A (f (.int i t) (.int j u)) Q E s):
 OpR X f (rI0 λi j=> .int (g i j)):=by
 intro pins s σ H x y v u Q I rx ry h;obtain ⟨i,j,rfl,rfl,q⟩:=h;obtain ⟨t,rfl⟩:=rx;obtain ⟨t',rfl⟩:=ry;exact rule i j t t' s _ _ ⟨.int (g i j),H,I.tok _,⟨_,rfl⟩,q⟩
theorem opB0 {f:Value->Value->Sem Value} {g:Int->Int->Bool}
 (rule:∀(i j:Int) (t u:Tok) (s:Shared) (Q:Value->Shared->Prop) (E:Value->Shared->Prop),Q (.bool (g i j)) s->wpAny (model X.prog X.w) X.A (f (.int i t) (.int j u)) Q E s):
 OpR X f (rI0 λi j=> .bl (g i j)):=by
 intro pins s σ H x y v u Q I rx ry h;obtain ⟨i,j,rfl,rfl,q⟩:=h;obtain ⟨t,rfl⟩:=rx;obtain ⟨t',rfl⟩:=ry;exact rule i j t t' s _ _ ⟨.bl (g i j),H,I,rfl,q⟩
def CDiv (i j:Int):Prop:=0<j/\j<1073741824
def CPow (i j:Int):Prop:=0<=j/\j<=1000000/\i.natAbs<2 ^ 64
def CMul (i j:Int):Prop:=(-(2 ^ 64)<i/\i<2 ^ 64)\/(-(2 ^ 64)<j/\j<2 ^ 64)
theorem CMul.ok {i j:Int} (h:CMul i j):IntMulOk i j:=by
 rcases h with ⟨h1,h2⟩|⟨h1,h2⟩
 ·exact .of_left (intBits_le_64 h1 h2)
 ·exact .of_right (intBits_le_64 h1 h2)
theorem op_add:OpR X (binaryOp .Add) (rI0 λi j=> .int (i+j)):=opI0 λ_ _ _ _ _ _ _ q=>add_int q
theorem VM:OpR X (binaryOp .Sub) (rI0 λi j=> .int (i - j)):=opI0 λ_ _ _ _ _ _ _ q=>sub_int q
theorem WX:OpR X (binaryOp .FloorDiv) (rI CDiv λi j=> .int (i / j)):=opI λi j _ _ _ _ _ hc q=>by
 have h1:(0:Int)<j:=hc.1;have h2:j<1073741824:=hc.2;exact floordiv_int (by omega) (by rw [qB i (by omega)];exact q) (.inl (PyProof.noPylong_small (by omega)))
theorem Ym:OpR X (binaryOp .Mod) (rI (λ_ j=>0<j) λi j=> .int (i % j)):=opI λi j _ _ _ _ _ hc q=>by
 have h1:(0:Int)<j:=hc;exact mod_int' (by omega) (by rw [qk i (by omega)];exact q)
theorem WV:OpR X (binaryOp .Mod) (rI (λ_ j=>j≠0) λi j=> .int (i.fmod j)):=opI λ_ _ _ _ _ _ _ hc q=>mod_int' hc q
theorem zfu:OpR X (binaryOp .Pow) (rI CPow λi j=> .int (i ^ j.toNat)):=opI λ_ _ _ _ _ _ _ hc q=>pow_int_small hc.1 hc.2.1 hc.2.2 q
theorem unI {f:Value->Sem Value} {g:Int->Int}
 (rule:∀(i:Int) (t:Tok) (s:Shared) (Q:Value->Shared->Prop) (E:Value->Shared->Prop),Q (.int (g i) s.toks) {s with toks:=s.toks+1}->wpAny (model X.prog X.w) X.A (f (.int i t)) Q E s):
 UnR X f (rU λi=> .int (g i)):=by
 intro pins s σ H x v Q I rx h;obtain ⟨i,rfl,q⟩:=h;obtain ⟨t,rfl⟩:=rx;exact rule i t s _ _ ⟨.int (g i),H,I.tok _,⟨_,rfl⟩,q⟩
theorem zmo:UnR X (unaryOp .USub) (rU λi=> .int (-i)):=unI λ_ _ _ _ _ q=>neg_int q
end
def scal:V->V->Bool
 | .non, .non=>true| .non, .int _=>true| .int _, .non=>true| .non, .bl _=>true| .bl _, .non=>true| .non, .str _=>true| .str _, .non=>true
 | .int _, .int _=>true| .bl _, .bl _=>true| .str _, .str _=>true| .byt _, .byt _=>true
 | .int _, .str _=>true| .str _, .int _=>true| .bl _, .str _=>true| .str _, .bl _=>true
 |_,_=>false
def rEq:R2:=λx y H Q=>scal x y=true/\Q (.bl (decide (x=y))) H
def rNe:R2:=λx y H Q=>scal x y=true/\Q (.bl (!decide (x=y))) H
theorem zoi {i j:Int}:decide (V.int i=V.int j)=(i==j):=by
 rw [JW]
 simp
theorem zqZ {i j:Bool}:decide (V.bl i=V.bl j)=(i==j):=by
 rw [JW]
 simp
theorem zoh {i j:Str}:decide (V.str i=V.str j)=(i==j):=by
 rw [JW]
 simp
theorem zoj {i j:Array UInt8}:decide (V.byt i=V.byt j)=(i.toList==j.toList):=by
 rw [JW];cases i;cases j
 simp
section
variable {X:Cx} {a b c:Expr} {ta tb tc:TE} {pos:Pos}
theorem xD {pins:List (Addr×Obj)} {σ:St} {H:Hp} {s:Shared} {Q:VK} {k k':Bool} (I:Inv X pins σ H s) (q:Q (.bl k) H) (e:k=k'):EP X pins σ Q (.bool k') s:=by
 subst e;exact ⟨.bl k,H,I,rfl,q⟩
theorem op_eq:OpR X (compareOp .Eq) rEq:=by
 intro pins s σ H x y v u Q I rx ry h;obtain ⟨hs,q⟩:=h
 cases x with
 |non=>
  cases rx
  cases y with
  |non=>cases ry;exact PySem.EqNone.eq_none_none (xD I q (by simp))
  |bl j=>cases ry;exact PySem.EqNone.eq_none_bool (xD I q (by simp))
  |int j=>obtain ⟨t',rfl⟩:=ry;exact PySem.EqNone.eq_none_int (xD I q (by simp))
  |str j=>obtain ⟨t',rfl⟩:=ry;exact PySem.EqNone.eq_none_str (xD I q (by simp))
  |_=>exact absurd (show false=true from hs) jI
 |bl i=>
  cases rx
  cases y with
  |non=>cases ry;exact PySem.EqNone.eq_bool_none (xD I q (by simp))
  |bl j=>cases ry;exact eq_bool (xD I q zqZ)
  |str j=>obtain ⟨t',rfl⟩:=ry;exact PySem.EqMixed.eq_bool_str (xD I q (by simp))
  |_=>exact absurd (show false=true from hs) jI
 |int i=>
  obtain ⟨t,rfl⟩:=rx
  cases y with
  |non=>cases ry;exact PySem.EqNone.eq_int_none (xD I q (by simp))
  |int j=>obtain ⟨t',rfl⟩:=ry;exact eq_int (xD I q zoi)
  |str j=>obtain ⟨t',rfl⟩:=ry;exact PySem.EqMixed.eq_int_str (xD I q (by simp))
  |_=>exact absurd (show false=true from hs) jI
 |str i=>
  obtain ⟨t,rfl⟩:=rx
  cases y with
  |non=>cases ry;exact PySem.EqNone.eq_str_none (xD I q (by simp))
  |bl j=>cases ry;exact PySem.EqMixed.eq_str_bool (xD I q (by simp))
  |int j=>obtain ⟨t',rfl⟩:=ry;exact PySem.EqMixed.eq_str_int (xD I q (by simp))
  |str j=>obtain ⟨t',rfl⟩:=ry;exact eq_str (xD I q zoh)
  |_=>exact absurd (show false=true from hs) jI
 |byt i=>
  obtain ⟨t,rfl⟩:=rx
  cases y with
  |byt j=>obtain ⟨t',rfl⟩:=ry;exact PySem.W.eq_bytes (xD I q zoj)
  |_=>exact absurd (show false=true from hs) jI
 |_=>cases y<;>exact absurd (show false=true from hs) jI
theorem op_ne:OpR X (compareOp .NotEq) rNe:=by
 intro pins s σ H x y v u Q I rx ry h;obtain ⟨hs,q⟩:=h
 cases x with
 |non=>
  cases rx
  cases y with
  |non=>cases ry;exact PySem.EqNone.ne_none_none (xD I q (by simp))
  |bl j=>cases ry;exact PySem.EqNone.ne_none_bool (xD I q (by simp))
  |int j=>obtain ⟨t',rfl⟩:=ry;exact PySem.EqNone.ne_none_int (xD I q (by simp))
  |str j=>obtain ⟨t',rfl⟩:=ry;exact PySem.EqNone.ne_none_str (xD I q (by simp))
  |_=>exact absurd (show false=true from hs) jI
 |bl i=>
  cases rx
  cases y with
  |non=>cases ry;exact PySem.EqNone.ne_bool_none (xD I q (by simp))
  |bl j=>cases ry;exact ne_bool (xD I q (congrArg not zqZ))
  |str j=>obtain ⟨t',rfl⟩:=ry;exact PySem.EqMixed.ne_bool_str (xD I q (by simp))
  |_=>exact absurd (show false=true from hs) jI
 |int i=>
  obtain ⟨t,rfl⟩:=rx
  cases y with
  |non=>cases ry;exact PySem.EqNone.ne_int_none (xD I q (by simp))
  |int j=>obtain ⟨t',rfl⟩:=ry;exact ne_int (xD I q (congrArg not zoi))
  |str j=>obtain ⟨t',rfl⟩:=ry;exact PySem.EqMixed.ne_int_str (xD I q (by simp))
  |_=>exact absurd (show false=true from hs) jI
 |str i=>
  obtain ⟨t,rfl⟩:=rx
  cases y with
  |non=>cases ry;exact PySem.EqNone.ne_str_none (xD I q (by simp))
  |bl j=>cases ry;exact PySem.EqMixed.ne_str_bool (xD I q (by simp))
  |int j=>obtain ⟨t',rfl⟩:=ry;exact PySem.EqMixed.ne_str_int (xD I q (by simp))
  |str j=>obtain ⟨t',rfl⟩:=ry;exact ne_str (xD I q (congrArg not zoh))
  |_=>exact absurd (show false=true from hs) jI
 |byt i=>
  obtain ⟨t,rfl⟩:=rx
  cases y with
  |byt j=>obtain ⟨t',rfl⟩:=ry;exact PySem.W.ne_bytes (xD I q (congrArg not zoj))
  |_=>exact absurd (show false=true from hs) jI
 |_=>cases y<;>exact absurd (show false=true from hs) jI
theorem zdI:OpR X (compareOp .Lt) (rI0 λi j=> .bl (decide (i<j))):=opB0 λ_ _ _ _ _ _ _ q=>lt_int q
theorem op_le:OpR X (compareOp .LtE) (rI0 λi j=> .bl (decide (i<=j))):=opB0 λ_ _ _ _ _ _ _ q=>le_int q
theorem zi3:OpR X (compareOp .Gt) (rI0 λi j=> .bl (decide (j<i))):=opB0 λ_ _ _ _ _ _ _ q=>gt_int q
theorem OpR.or {f:Value->Value->Sem Value} {r r':R2} (h:OpR X f r) (h':OpR X f r'):OpR X f (λx y H Q=>r x y H Q\/r' x y H Q):=by
 intro pins s σ H x y v u Q I rx ry q
 rcases q with q|q
 ·exact h pins s σ H x y v u Q I rx ry q
 ·exact h' pins s σ H x y v u Q I rx ry q
theorem zV (b:Expr) {op:CmpOp} (h:op≠ .In:=by decide) (h2:op≠ .NotIn:=by decide):behindInMarks op b=false:=by
 have e1:(op==CmpOp.In)=false:=by cases op<;>first|rfl|exact absurd rfl h
 have e2:(op==CmpOp.NotIn)=false:=by cases op<;>first|rfl|exact absurd rfl h2
 cases b<;>simp [behindInMarks,e1,e2]
theorem zdB {op:CmpOp} {r:R2} (ho:OpR X (compareOp op) r) (ha:PE X a ta) (hb:PE X b tb) (hm:behindInMarks op b=false):PE X (.Compare a [op] [b] pos) (tOp r ta tb):=by
 intro pins s σ H Q I h;exact wpAny_Compare1 (binT ha hb I h λv u s2 x y H2 I2 rx ry q=>ho pins s2 σ H2 x y v u Q I2 rx ry q) hm
def tTest (t:TE):TT:=λσ H Q=>t σ H λx H'=>∃k,x= .bl k/\Q k H'
theorem zK {op:CmpOp} {r:R2} (ho:OpR X (compareOp op) r) (ha:PE X a ta) (hb:PE X b tb) (hm:behindInMarks op b=false):PT X (.Compare a [op] [b] pos) (tTest (tOp r ta tb)):=by
 intro pins s σ H Q I h
 refine wpAny_isTrue_Compare1 (thn (ha pins s σ H _ I h) λv s1 ⟨x,H1,I1,r1,q1⟩=>thn (hb pins s1 σ H1 _ I1 q1) λu s2 ⟨y,H2,I2,r2,q2⟩=>
  thn (ho pins s2 σ H2 x y v u _ I2 r1 r2 q2) λc s3 ⟨z,H3,I3,r3,k,e,q3⟩=>?_) hm
 subst e;cases r3;exact Qe ⟨H3,I3,q3⟩
theorem zh1:(sizeLine:Nat)<2 ^ 63:=by rw [sizeLine_eq];decide
theorem zc0 {x:V} {us:List Value} (r:Zw [x] us):∃u,us=[u]/\YZ x u:=by
 cases r with
 |cons r1 r2=>cases r2;exact ⟨_,rfl,r1⟩
theorem zoQ {x y:V} {us:List Value} (r:Zw [x,y] us):∃u w',us=[u,w']/\YZ x u/\YZ y w':=by
 cases r with
 |cons r1 r2=>
  cases r2 with
  |cons r3 r4=>cases r4;exact ⟨_,_,rfl,r1,r3⟩
theorem zqf:Vm X (.builtin "abs") (λxs H Q=>∃i,xs=[.int i]/\Q (.int (if i<0 then -i else i)) H):=by
 intro pins s σ H xs us Q I r h;obtain ⟨i,rfl,q⟩:=h;obtain ⟨u,rfl,t,rfl⟩:=zc0 r;exact call_abs_int λu tk=>⟨.int (if i<0 then -i else i),H,I.tok _,⟨_,rfl⟩,q⟩
theorem zoq (hc:X.calm=true):Vm X (.builtin "min") (λxs H Q=>∃i j,xs=[.int i, .int j]/\Q (.int (if j<i then j else i)) H):=by
 intro pins s σ H xs us Q I r h;obtain ⟨i,j,rfl,q⟩:=h;obtain ⟨u,w',rfl,⟨t,rfl⟩,⟨t',rfl⟩⟩:=zoQ r;refine min_two_ints (I.ok.hd hc) λh' tk k=>⟨_,H,I.kept k,?_,q⟩
 by_cases hj:j<i
 ·rw [jK hj,jK hj];exact ⟨_,rfl⟩
 ·rw [jQ hj,jQ hj];exact ⟨_,rfl⟩
end
end L2
namespace L2
open PySem PySem.Spec PyProof.Rows
structure ObjM (h:Heap) (x dx C:Addr) (mA:Str->Option Value):Prop where
 obj:h.get? x=some (PySem.W.instObj C dx)
 ns:h.Ns1 dx mA
 ne:dx≠x
theorem znO {h:Heap} {dx:Addr} {mA:Str->Option Value} (n:h.Ns1 dx mA):∃od,h.get? dx=some od/\∀name,PySem.W.lookIn name od=some (mA name):=by
 obtain ⟨o,es,ep,ho,hd,hk,_,hm⟩:=n;refine ⟨o,ho,λname=>?_⟩;have e:=hm name;unfold nsFind findBy at e;rw [<-Array.find?_toList] at e;unfold PySem.W.lookIn;rw [hd];dsimp only
 split
 ·rename_i y q;rw [q] at e;exact congrArg some e
 ·rename_i q;rw [q] at e
  have a:es.toList.any (·.refKey)=false:=by
   rw [List.any_eq_false];intro y hy;obtain ⟨z,t,hkey⟩:=hk y (Array.mem_toList_iff.mp hy);simp [DictEntry.refKey,hkey]
  have a':¬es.toList.any (·.refKey)=true:=by rw [a];exact jI
  rw [jQ a'];exact congrArg some e
theorem ObjM.look {h:Heap} {x dx C:Addr} {mA:Str->Option Value} (I:ObjM h x dx C mA):∃od,PySem.W.InstAt h x (PySem.W.instObj C dx) C (some od)/\∀name,PySem.W.lookIn name od=some (mA name):=
 let ⟨od,ho,hl⟩:=znO I.ns
 ⟨od,⟨I.obj,rfl,rfl,ho⟩,hl⟩
section
variable {prog:Program} {w:World} {A:Around} {E:Value->Shared->Prop} {s:Shared} {K:PySem.W.Frag} {x dx C f:Addr} {mA:Str->Option Value} {name:Str} {v:Value}
theorem zsz {expr:Bool} {Q:Value->Shared->Prop} (X:K.In s.heap) (I:ObjM s.heap x dx C mA) (hg:PySem.W.plainGet K C name=true) (hh:PySem.W.hasDictIn K C=true)
 (ha:PySem.W.findIn K (.ref C) name=some none) (hv:mA name=some v) (hv':PySem.W.handedIn v=true) (h:Q v {s with toks:=s.toks+1}):
 wpAny (model prog w) A (getAttr (.ref x) name expr) Q E s:=by
 obtain ⟨od,J,hl⟩:=I.look;exact PySem.W.get_value X J (PySem.W.plainGet_of hg).1 (PySem.W.findObj_own hh ha rfl (by rw [hl,hv])) hv' h
theorem zqb {pl:Sem Bool} {Q:Value×List Value->Shared->Prop} (X:K.In s.heap) (I:ObjM s.heap x dx C mA) (hg:PySem.W.plainGet K C name=true)
 (hf:PySem.W.findIn K (.ref C) name=some (some (.ref f))) (ht:PySem.W.isFn K (.ref f)=true) (hv:mA name=none) (h:Q (.ref f,[.ref x]) s):
 wpAny (model prog w) A (getMethod (.ref x) name pl) Q E s:=by
 obtain ⟨od,J,hl⟩:=I.look;exact PySem.W.method_fn X J (PySem.W.plainGet_of hg).1 (PySem.W.plainGet_of hg).2 hf (beq_iff_eq.mp ht) (by show (PySem.W.lookIn name od).map (·.isSome)=some false;rw [hl,hv];rfl) h
theorem zrg {ns:List Str} {Q:Unit->Shared->Prop} (X:K.In s.heap) (I:ObjM s.heap x dx C mA)
 (hs:PySem.W.findIn K (.ref C) "__setattr__"=some (some (.builtin "object.__setattr__"))) (hp:PySem.W.plainOver K C=true) (ht:PySem.W.takerIn K C name=some none) (hh:PySem.W.hasDictIn K C=true)
 (hw:PySem.Within mA ns) (hsz:ns.length<=sizeLine)
 (h:∀h',ObjM h' x dx C (λy=>if y=name then some v else mA y)->Heap.SameBut dx s.heap h'->Q () {s with heap:=h',toks:=s.toks+2}):
 wpAny (model prog w) A (setAttr (.ref x) name v) Q E s:=by
 obtain ⟨od,J,hl⟩:=I.look;refine PySem.W.set_plain X J hs (PySem.W.osa_open (s:={s with toks:=s.toks+1}) (r:=none) X J hp ht λb=>?_);obtain ⟨cd,hc,hd'⟩:=PySem.W.any_some hh;have hx:s.heap.get? x=some ⟨.ref C,some dx, .plain,#[]⟩:=I.obj;refine jg (jr (jg (jg (wpAny_loadPart hx (jg (PySem.W.Looks.here (s:={s with toks:=s.toks+1}) (PySem.W.looks_clsIn X hc) ?_))))));rw [hd'];refine jr (a:=some dx) (jg (jr (jg ?_)));refine wpAny_nsSet1 (s:={s with toks:=s.toks+1}) I.ns λh' hn2 hs2=>?_;obtain ⟨oD,esD,epD,hoD,hdD,hcD⟩:=hn2.count (PySem.Within.cons name v hw);refine jg (wpAny_lookBehind hoD (by rw [hdD];exact pastItsLine_dict (jS hcD (by rw [jz];omega))) ?_);exact jr (h _ ⟨(hs2.2 _ (Ne.symm I.ne)).trans I.obj,hn2,I.ne⟩ hs2)
theorem zpD {R:Result->Shared->Prop} {vs:List Value} {kw:List (Str×Value)} (X:K.In s.heap) (hm:PySem.W.makesIn K C=true)
 (hi:PySem.W.findIn K (.ref C) "__init__"=some (some (.ref f))) (hf:PySem.W.typeIn K (.ref f)=some (.type "function"))
 (h:codeAny (model prog w) (A.under (.builtin "type.__call__" ⟨.ref C::vs,kw⟩)) (.call (.ref f) ⟨.ref (s.heap.objs.size+1)::vs,kw⟩) (PySem.W.InitBack (s.heap.objs.size+1) R)
  {s with heap:=(s.heap.push PySem.W.emptyDict).push (PySem.W.instObj C s.heap.objs.size)}):
 codeAny (model prog w) A (.call (.ref C) ⟨vs,kw⟩) R s:=by
 obtain ⟨hh,g,d,t,os⟩:=s;exact PySem.W.make_core (PySem.W.makes_of X hm) (PySem.W.looks_findIn X hi) (λself=>PySem.W.bind_fn X self hf) (.inl rfl) h
end
def ziA (f:Str) (v:V):List (Str×V)->List (Str×V)
 |[]=>[(f,v)]
 |(g,x)::r=>if g=f then (g,v)::r else (g,x)::ziA f v r
theorem zdO (f g:Str) (v:V):∀fs:List (Str×V),(ziA f v fs).lookup g=if g=f then some v else fs.lookup g
 |[]=>by
  show List.lookup g [(f,v)]=_
  by_cases h:g=f
  ·have hb:(g==f)=true:=beq_iff_eq.mpr h;simp only [List.lookup,hb,jK h]
  ·have hb:(g==f)=false:=wU.mpr h;simp only [List.lookup,hb,jQ h]
 |(k,x)::r=>by
  have ih:=zdO f g v r;rw [show ziA f v ((k,x)::r)=(if k=f then (k,v)::r else (k,x)::ziA f v r) from rfl]
  by_cases hk:k=f
  ·rw [jK hk]
   by_cases h:g=k
   ·have hb:(g==k)=true:=beq_iff_eq.mpr h;simp only [List.lookup,hb,jK (h.trans hk)]
   ·have hb:(g==k)=false:=wU.mpr h;simp only [List.lookup,hb,jQ (λe:g=f=>h (e.trans hk.symm))]
  ·rw [jQ hk]
   by_cases h:g=k
   ·have hb:(g==k)=true:=beq_iff_eq.mpr h;simp only [List.lookup,hb,jQ (λe:g=f=>hk (h.symm.trans e))]
   ·have hb:(g==k)=false:=wU.mpr h;simp only [List.lookup,hb];exact ih
theorem zdT (f:Str) (v:V):∀fs:List (Str×V),f∈(ziA f v fs).map (·.1)/\∀g,g∈fs.map (·.1)->g∈(ziA f v fs).map (·.1)
 |[]=>⟨by simp [ziA],λg h=>by simp at h⟩
 |(k,x)::r=>by
  obtain ⟨i1,i2⟩:=zdT f v r;rw [show ziA f v ((k,x)::r)=(if k=f then (k,v)::r else (k,x)::ziA f v r) from rfl]
  by_cases hk:k=f
  ·rw [jK hk];subst hk;exact ⟨by simp,λg h=>by simpa using h⟩
  ·rw [jQ hk];refine ⟨?_,λg h=>?_⟩
   ·rw [jq];exact jf _ i1
   ·rw [jq] at h⊢
    rcases jn.mp h with e|e
    ·exact jn.mpr (.inl e)
    ·exact jf _ (i2 g e)
theorem zdR (f:Str) (v:V):∀fs:List (Str×V),(ziA f v fs).length<=fs.length+1
 |[]=>by simp [ziA]
 |(k,x)::r=>by
  have ih:=zdR f v r;rw [show ziA f v ((k,x)::r)=(if k=f then (k,v)::r else (k,x)::ziA f v r) from rfl]
  by_cases hk:k=f
  ·rw [jK hk,jz,jz];omega
  ·rw [jQ hk,jz,jz];omega
theorem zoF.some_of {v:V} {o:Option Value} (r:zoF (some v) o):∃u,o=some u/\YZ v u:=by
 cases o with
 |none=>exact (show False from r).elim
 |some u=>exact ⟨u,rfl,r⟩
theorem zoF.none_of {o:Option Value} (r:zoF none o):o=none:=by
 cases o with
 |none=>rfl
 |some u=>exact (show False from r).elim
theorem zn4 {v:V} {u:Value} (r:YZ v u):PySem.W.handedIn u=true:=by
 cases v with
 |non=>cases (show u=Value.none from r);rfl
 |bl b=>cases (show u=Value.bool b from r);rfl
 |int i=>obtain ⟨t,e⟩:=(show ∃t,u=Value.int i t from r);cases e;rfl
 |str x=>obtain ⟨t,e⟩:=(show ∃t,u=Value.str x t from r);cases e;rfl
 |byt b=>obtain ⟨t,e⟩:=(show ∃t,u=Value.bytes b t from r);cases e;rfl
 |flt b=>obtain ⟨t,e⟩:=(show ∃t,u=Value.float b t from r);cases e;rfl
 |ref a=>cases (show u=Value.ref a from r);rfl
 |ty n=>cases (show u=Value.type n from r);rfl
section
variable {P:Program} {w:World} {H H':Hp} {h h':Heap} {a C dx:Addr} {fs fs':List (Str×V)}
theorem zgM (hok:HOk P w H h) (e:H a=some (.ins C dx fs)):∃mA,ObjM h a dx C mA/\(∀f,zoF (fs.lookup f) (mA f))/\PySem.Within mA (fs.map (·.1))/\fs.length<=1000/\H dx=some (.own a):=by
 obtain ⟨d,z,ne,ob,mA,n,r,q⟩:=(show Xi P w H h a (.ins C dx fs) from hok a _ e);exact ⟨mA,⟨ob,n,ne⟩,r,q,z,d⟩
end
structure Cls (K:PySem.W.Frag) (C:Addr):Prop where
 pg:PySem.W.plainGet K C Str.empty=true
 hd:PySem.W.hasDictIn K C=true
 po:PySem.W.plainOver K C=true
 sa:PySem.W.findIn K (.ref C) "__setattr__"=some (some (.builtin "object.__setattr__"))
theorem Cls.get {K:PySem.W.Frag} {C:Addr} (c:Cls K C) (f:Str):PySem.W.plainGet K C f=true:=c.pg
def zck (K:PySem.W.Frag) (C:Addr) (f:Str):Prop:=PySem.W.findIn K (.ref C) f=some none
theorem zck.taker {K:PySem.W.Frag} {C:Addr} {f:Str} (n:zck K C f):PySem.W.takerIn K C f=some none:=by
 unfold PySem.W.takerIn;rw [show PySem.W.findIn K (.ref C) f=some none from n];rfl
structure Meth (K:PySem.W.Frag) (C:Addr) (m:Str) (f:Addr):Prop where
 at_:PySem.W.findIn K (.ref C) m=some (some (.ref f))
 fn:PySem.W.isFn K (.ref f)=true
 kp:PySem.W.keepIn K (.ref f)=true
section
variable {X:Cx} {pins:List (Addr×Obj)} {σ:St} {H:Hp} {s:Shared} {a C dx:Addr} {fs:List (Str×V)} {f:Str} {v:V} {A:Around} {E:Value->Shared->Prop}
theorem zlR {b:Bool} {Q:Value->Shared->Prop} (I:Inv X pins σ H s) (e:H a=some (.ins C dx fs)) (c:Cls X.K C) (n:zck X.K C f) (l:fs.lookup f=some v)
 (h:∀u s',Inv X pins σ H s'->YZ v u->Q u s'):wpAny (model X.prog X.w) A (getAttr (.ref a) f b) Q E s:=by
 obtain ⟨mA,O,r,_,_,_⟩:=zgM I.hok e;obtain ⟨u,hu,ru⟩:=zoF.some_of (v:=v) (o:=mA f) (by rw [<-l];exact r f);exact zsz I.kIn O (c.get f) c.hd n hu (zn4 ru) (h u _ (I.tok _) ru)
theorem zfC {m:Str} {g:Addr} {pl:Sem Bool} {Q:Value×List Value->Shared->Prop} (I:Inv X pins σ H s) (e:H a=some (.ins C dx fs)) (c:Cls X.K C) (k:Meth X.K C m g) (l:fs.lookup m=none)
 (h:Q (.ref g,[.ref a]) s):wpAny (model X.prog X.w) A (getMethod (.ref a) m pl) Q E s:=by
 obtain ⟨mA,O,r,_,_,_⟩:=zgM I.hok e;have hn:mA m=none:=zoF.none_of (by rw [<-l];exact r m);exact zqb I.kIn O (c.get m) k.at_ k.fn hn h
theorem zk7 {y:V} {u:Value} {Q:Unit->Shared->Prop} (I:Inv X pins σ H s) (e:H a=some (.ins C dx fs)) (c:Cls X.K C) (n:zck X.K C f) (hl:fs.length<1000) (ry:YZ y u)
 (h:∀s',Inv X pins σ (upd H a (.ins C dx (ziA f y fs))) s'->Q () s'):wpAny (model X.prog X.w) A (setAttr (.ref a) f u) Q E s:=by
 obtain ⟨mA,O,r,wi,_,ho⟩:=zgM I.hok e;have hz:(fs.map (·.1)).length<=sizeLine:=by rw [ja,sizeLine_eq];omega
 refine zrg I.kIn O c.sa c.po n.taker c.hd wi hz λh' O' sb=>h _ ?_;have hd:∃o,h'.get? dx=some o:=let ⟨o,_,_,e',_⟩:=O'.ns;⟨o,e'⟩
 refine I.write (x:=a) (e:=dx) (by rw [e];exact True.intro) (.inr ho) (λb q hb z=>(sb.2 b hb).trans z) hd ?_;refine ⟨by rw [yE O.ne];exact ho,?_,O.ne,O'.obj,_,O'.ns,λg=>?_,λg hg=>?_⟩
 ·have:=zdR f y fs;omega
 ·show zoF ((ziA f y fs).lookup g) (if g=f then some u else mA g);rw [zdO]
  by_cases q:g=f
  ·rw [jK q,jK q];exact ry
  ·rw [jQ q,jQ q];exact r g
 ·by_cases q:g=f
  ·rw [q];exact (zdT f y fs).1
  ·refine (zdT f y fs).2 g (wi g λz=>hg ?_);show (if g=f then some u else mA g)=none;rw [jQ q];exact z
theorem Inv.made (I:Inv X pins σ H s):Inv X pins σ (upd (upd H s.heap.objs.size (.own (s.heap.objs.size+1))) (s.heap.objs.size+1) (.ins C s.heap.objs.size []))
 {s with heap:=(s.heap.push PySem.W.emptyDict).push (PySem.W.instObj C s.heap.objs.size)}:=by
 have e1:(s.heap.push PySem.W.emptyDict).get? s.heap.objs.size=some PySem.W.emptyDict:=jx s.heap rfl
 have e2:((s.heap.push PySem.W.emptyDict).push (PySem.W.instObj C s.heap.objs.size)).get? (s.heap.objs.size+1)=some (PySem.W.instObj C s.heap.objs.size):=by
  have:=jx (s.heap.push PySem.W.emptyDict) (o:=PySem.W.instObj C s.heap.objs.size) rfl;rwa [jT] at this
 have e3:(s.heap.push PySem.W.emptyDict).Ns s.heap.objs.size (λ_=>none):=⟨PySem.W.emptyDict,#[],_,e1,rfl,(λe he=>absurd he (by simp)),λ_=>rfl⟩;have I1:=I.laid (a:=s.heap.objs.size) (o:= .own (s.heap.objs.size+1)) (h':=s.heap.push PySem.W.emptyDict) (t':=s.toks) (λb u q=>ji _ q) (jy _) ⟨_,e1⟩;refine I1.laid (a:=s.heap.objs.size+1) (o:= .ins C s.heap.objs.size []) (t':=s.toks) (λb u q=>ji _ q) (Nat.le_of_eq (jT _ _)) ?_;have ne:s.heap.objs.size≠s.heap.objs.size+1:=jO (qj _);refine ⟨by rw [yE ne,xC],wg _,ne,e2,λ_=>none,(Heap.Ns1.of_empty e3).at λo q=>ji _ q,λ_=>True.intro,λy hy=>absurd rfl hy⟩
theorem zsP {prog:Program} {w:World} {env:Env} {e:Expr} {f:Str} {pos:Pos} {s:Shared} {Q:Value->Shared->Prop} (hb:attributeBase e f env (eval e env)=eval e env)
 (h:wpAny (model prog w) A (eval e env) (λo s₁=>wpAny (model prog w) A (getAttr o f true) Q E s₁) E s):wpAny (model prog w) A (eval (.Attribute e f pos) env) Q E s:=
 Attribute_any_ h (by rw [arm_eval_Attribute,hb])
end
def tFld (K:PySem.W.Frag) (ta:TE) (f:Str):TE:=λσ H Q=>ta σ H λx H1=>∃a C dx fs v,x= .ref a/\H1 a=some (.ins C dx fs)/\Cls K C/\zck K C f/\fs.lookup f=some v/\Q v H1
def sFld (K:PySem.W.Frag) (ta tv:TE) (f:Str):TS:=λD σ H=>tv σ H λy H1=>ta σ H1 λx H2=>∃a C dx fs,x= .ref a/\H2 a=some (.ins C dx fs)/\Cls K C/\zck K C f/\fs.length<1000/\
 D.nx σ (upd H2 a (.ins C dx (ziA f y fs)))
section
variable {X:Cx} {o e value:Expr} {f:Str} {pos pos' tpos:Pos} {ta tv:TE}
theorem zqM (he:PE X e ta) (hb:attributeBase e f X.env (eval e X.env)=eval e X.env):PE X (.Attribute e f pos) (tFld X.K ta f):=by
 intro pins s σ H Q I h;refine zsP hb (thn (he pins s σ H _ I h) λu s1 ⟨x,H1,I1,rx,a,C,dx,fs,v,ex,ea,c,n,l,q⟩=>?_);subst ex;obtain rfl:u=Value.ref a:=rx;exact zlR I1 ea c n l λu' s2 I2 ru=>⟨v,H1,I2,ru,q⟩
theorem ps_fld (ha:PE X o ta) (hv:PE X value tv) (hs:swapsWith value (some (.Attribute o f pos')) pos.line X.env=pure false):PS X (.Assign [.Attribute o f pos'] value pos) (sFld X.K ta tv f):=by
 intro pins s σ H D I h;refine plainObj_wpAny_Assign_Attribute (thn (hv pins s σ H _ I h) λu s1 ⟨y,H1,I1,ry,q⟩=>thn (ha pins s1 σ H1 _ I1 q) λov s2 ⟨x,H2,I2,rx,a,C,dx,fs,ex,ea,c,n,l,q2⟩=>?_) hs;subst ex;obtain rfl:ov=Value.ref a:=rx;exact zk7 I2 ea c n l ry λs3 I3=>⟨σ,_,I3,q2⟩
end
section
variable {X:Cx} {pins:List (Addr×Obj)} {σ:St} {H:Hp} {s:Shared} {A:Around} {E:Value->Shared->Prop} {Q:Value->Shared->Prop} {c:Value} {b:Bool}
inductive TyOf (K:PySem.W.Frag) (H:Hp):V->Value->Prop where
 |non:TyOf K H .non (.type "NoneType")
 |bl (x:Bool):TyOf K H (.bl x) (.type "bool")
 |int (i:Int):TyOf K H (.int i) (.type "int")
 |str (x:Str):TyOf K H (.str x) (.type "str")
 |flt (x:UInt64):TyOf K H (.flt x) (.type "float")
 |lst {a:Addr} {xs:List V} (e:H a=some (.lst xs)):TyOf K H (.ref a) (.type "list")
 |frz {a:Addr} {o:Obj} {xs:List V} (e:H a=some (.frz o (.lst xs))):TyOf K H (.ref a) (.type "list")
 |tup {a:Addr} {xs:List V} (e:H a=some (.tup xs)):TyOf K H (.ref a) (.type "tuple")
 |dK {a:Addr} {kvs:List (Key×V)} (e:H a=some (.dK kvs)):TyOf K H (.ref a) (.type "dict")
 |dT {a:Addr} {kvs:List (List Key×V)} (e:H a=some (.dT kvs)):TyOf K H (.ref a) (.type "dict")
 |ins {a C dx:Addr} {fs:List (Str×V)} (e:H a=some (.ins C dx fs)) (cl:Cls K C) (ha:PySem.W.findIn K (.ref C) "__class__"=some (some (.builtin "object.__class__")))
  (hn:PySem.W.specialIn K (.builtin "object.__class__") "__get__"=some (some (.builtin "getset_descriptor.__get__"))) (htk:PySem.W.takesIn K (.builtin "object.__class__")=some true)
  (hm:PySem.W.mroIn K C (.type "object")=some true):TyOf K H (.ref a) (.ref C)
theorem zh4 {x:V} {u t:Value} (I:Inv X pins σ H s) (rx:YZ x u) (ty:TyOf X.K H x t) (e:PySem.W.kitOne X.K t c=some b) (h:∀tk,Q (.bool b) {s with toks:=tk}):
 wpAny (model X.prog X.w) A (call (.builtin "isinstance") [u,c]) Q E s:=by
 cases ty with
 |non=>cases (show u=Value.none from rx);exact wq PySem.W.kitx_none I.kIn True.intro e (λz=>nomatch z) h
 |bl y=>cases (show u=Value.bool y from rx);exact wq PySem.W.kitx_bool I.kIn True.intro e (λz=>nomatch z) h
 |int i=>obtain ⟨t,q⟩:=(show ∃t,u=Value.int i t from rx);cases q;exact wq PySem.W.kitx_int I.kIn True.intro e (λz=>nomatch z) h
 |str y=>obtain ⟨t,q⟩:=(show ∃t,u=Value.str y t from rx);cases q;exact wq PySem.W.kitx_str I.kIn True.intro e (λz=>nomatch z) h
 |flt y=>obtain ⟨t,q⟩:=(show ∃t,u=Value.float y t from rx);cases q;exact wq PySem.W.kitx_float I.kIn True.intro e (λz=>nomatch z) h
 |@lst a xs ea=>
  cases (show u=Value.ref a from rx);obtain ⟨_,_,n,_,h1⟩:=(show Xi X.prog X.w H s.heap a (.lst xs) from I.hok a _ ea);exact wq PySem.W.kitx_list I.kIn ⟨_,h1,rfl⟩ e (λz=>nomatch z) h
 |@frz a ob xs ea=>
  cases (show u=Value.ref a from rx);obtain ⟨_,_,_,n,_,h1⟩:=(show Xi X.prog X.w H s.heap a (.frz ob (.lst xs)) from I.hok a _ ea);exact wq PySem.W.kitx_list I.kIn ⟨_,h1,rfl⟩ e (λz=>nomatch z) h
 |@tup a xs ea=>
  cases (show u=Value.ref a from rx);obtain ⟨_,_,_,p⟩:=(show Xi X.prog X.w H s.heap a (.tup xs) from I.hok a _ ea);obtain ⟨o,h1,h2,_⟩:=p;exact wq PySem.W.kitx_tuple I.kIn ⟨o,h1,h2⟩ e (λz=>nomatch z) h
 |@dK a kvs ea=>
  cases (show u=Value.ref a from rx);obtain ⟨_,_,vs,_,p⟩:=(show Xi X.prog X.w H s.heap a (.dK kvs) from I.hok a _ ea);obtain ⟨o,es,ep,h1,h2,_⟩:=p;exact wq PySem.W.kitx_dict I.kIn ⟨o,h1,h2.1⟩ e (λz=>nomatch z) h
 |@dT a kvs ea=>
  cases (show u=Value.ref a from rx);obtain ⟨_,_,xs,_,o,es,ep,h1,h2,_⟩:=(show Xi X.prog X.w H s.heap a (.dT kvs) from I.hok a _ ea);exact wq PySem.W.kitx_dict I.kIn ⟨o,h1,h2.1⟩ e (λz=>nomatch z) h
 |@ins a C dx fs ea cl ha hn htk hm=>
  cases (show u=Value.ref a from rx);obtain ⟨mA,O,_⟩:=zgM I.hok ea;obtain ⟨od,J,_⟩:=O.look;exact wq (PySem.W.kitx_own (cl.get _) cl.hd ha hn htk hm) I.kIn J e (λz=>nomatch z) h
end
end L2
namespace L2
open PySem PySem.Spec PyProof.Rows
structure Room (k:Nat) (A:Around):Prop where
 hd:A.handled=none
 dp:A.depth+3*k+5<recursionLimit
 un:A.units+16*k+200<cLine
theorem Room.mono {j k:Nat} {A:Around} (r:Room k A) (h:j<=k):Room j A:=⟨r.hd,by have:=r.dp;omega,by have:=r.un;omega⟩
theorem Room.deeper {k:Nat} {A:Around} (r:Room (k+1) A) (env:Env):Room k (A.deeper env):=
 ⟨r.hd,by have:=r.dp;show A.depth+1+3*k+5<_;omega,by have:=r.un;show A.units+3+16*k+200<_;omega⟩
theorem zlD {A:Around} {C:Addr} {us:List Value} {kw:List (Str×Value)}:(A.under (.builtin "type.__call__" ⟨.ref C::us,kw⟩)).depth=A.depth+1:=by
 first|rfl|simp [Around.under,Code.weight,Code.isCreation,Code.isGuard,Code.isCaller,Code.frames,Code.isFrame,guardIds]
theorem zlC {A:Around} {C:Addr} {us:List Value} {kw:List (Str×Value)}:(A.under (.builtin "type.__call__" ⟨.ref C::us,kw⟩)).units=A.units+1:=by
 first|rfl|simp [Around.under,Code.cUnits,Code.frames,Code.isFrame]
theorem Room.make {k:Nat} {A:Around} (r:Room (k+1) A) (C:Addr) (us:List Value) (kw:List (Str×Value)):Room k (A.under (.builtin "type.__call__" ⟨.ref C::us,kw⟩)):=
 ⟨r.hd,by have:=r.dp;rw [zlD];omega,by have:=r.un;rw [zlC];omega⟩
theorem Room.depth {k:Nat} {A:Around} (r:Room k A):A.depth<recursionLimit:=by have:=r.dp;omega
theorem Room.units {k:Nat} {A:Around} (r:Room k A):A.units+64<cLine:=by have:=r.un;omega
def tNil:TA:=λ_ H Q=>Q [] H
def tCons (ta:TE) (tr:TA):TA:=λσ H Q=>ta σ H λx H1=>tr σ H1 λxs H2=>Q (x::xs) H2
section
variable {X:Cx} {e:Expr} {es:List Expr} {te:TE} {t:TA} {pos:Pos}
theorem zk:PA X [] tNil:=λ_ _ _ _ H Q I h=>Calls.spliced_nil ⟨[],H,I, .nil,h⟩
theorem zg (ha:PE X e te) (hr:PA X es t) (hs:starEach (e::es) X.env=(false,eval e X.env)::starEach es X.env:=by rfl):PA X (e::es) (tCons te t):=by
 intro pos pins s σ H Q I h;rw [hs];show wpAny _ _ (spliced ((false,eval e X.env)::backTo pos (starEach es X.env))) _ _ s;refine Calls.spliced_cons (thn (ha pins s σ H _ I h) λu s1 ⟨x,H1,I1,r1,q1⟩=>?_);exact thn (hr pos pins s1 σ H1 _ I1 q1) λus s2 ⟨xs,H2,I2,r2,q2⟩=>⟨x::xs,H2,I2, .cons r1 r2,q2⟩
def tTup (t:TA):TE:=λσ H Q=>t σ H λxs H1=>xs.length<=sizeLine/\∀p,H1 p=none->Q (.ref p) (upd H1 p (.tup xs))
def tLst (t:TA):TE:=λσ H Q=>t σ H λxs H1=>xs.length<=sizeLine/\∀p,H1 p=none->Q (.ref p) (upd H1 p (.lst xs))
theorem yA {x1} (h:PA X es t):PE X (.Tuple es x1 pos) (tTup t):=by
 intro pins s σ H Q I hq;refine wpAny_Tuple_spliced (thn (h pos pins s σ H _ I hq) λus s1 ⟨xs,H1,I1,r,z,q⟩=>⟨by rw [<-r.length];exact z,?_⟩);have hf:H1 s1.heap.objs.size=none:=I1.hok.fresh (jy _);refine ⟨.ref s1.heap.objs.size,upd H1 s1.heap.objs.size (.tup xs),I1.laid (t':=s1.toks) (λb u e=>ji _ e) (jy _) ?_,rfl,q _ hf⟩;exact ⟨z,us,r,⟨_,jx _ rfl,rfl,_,rfl⟩⟩
theorem Zq (h:PA X es t):PE X (.List es pos) (tLst t):=by
 intro pins s σ H Q I hq;refine wpAny_List_spliced (thn (h pos pins s σ H _ I hq) λus s1 ⟨xs,H1,I1,r,z,q⟩=>⟨by rw [<-r.length];exact z,?_⟩);have hf:H1 s1.heap.objs.size=none:=I1.hok.fresh (jy _);refine ⟨.ref s1.heap.objs.size,upd H1 s1.heap.objs.size (.lst xs),I1.laid (t':=s1.toks) (λb u e=>ji _ e) (jy _) ?_,rfl,q _ hf⟩;exact ⟨z,us,0,r,jx _ rfl⟩
end
abbrev Sp:=List V->Hp->VK->XK->Prop
abbrev CXT:=List Env->Hp->Shared->XK->Value->Shared->Prop
structure Env0 (P:Program) (w:World) (K:PySem.W.Frag) (mg:Str->Option Value) (base:Heap) (A:Around) (outer:List Env) (s:Shared) (H:Hp):Prop where
 frames:A.frames=some outer
 mod:Mod K mg base
 bs:∀b o,base.get? b=some o->s.heap.get? b=some o/\H b=none
 bsz:base.objs.size<=s.heap.objs.size
 funs:s.heap.FunFrames base outer
 frf:∀b∈frs outer,H b=none
 hok:HOk P w H s.heap
 bare:AllBare s.gens
def CE (outer:List Env) (P:Program) (w:World) (H:Hp) (s:Shared) (Q:VK) (u:Value) (s':Shared):Prop:=
 ∃v H',s'.os=s.os/\AllBare s'.gens/\Un (frs outer) [] H H' s.heap s'.heap/\HOk P w H' s'.heap/\YZ v u/\Q v H'
def CR (CX:CXT) (outer:List Env) (P:Program) (w:World) (H:Hp) (s:Shared) (Q:VK) (E:XK) (r:Result) (s':Shared):Prop:=
 match r with
 | .ok (.ret u)=>CE outer P w H s Q u s'
 | .ok _=>False
 | .error e=>CX outer H s E e s'
structure FnOk (P:Program) (w:World) (K:PySem.W.Frag) (mg:Str->Option Value) (base:Heap) (CX:CXT) (k:Nat) (f:Addr) (fd:FuncData) (ps:List Str) (sp:Sp):Prop where
 len:∀vs H Q E,sp vs H Q E->vs.length=ps.length
 run:∀(A:Around) (outer:List Env) (s:Shared) (H:Hp) (args:Args) (us:List Value) (vs:List V) (Q:VK) (E:XK),Room k A->Env0 P w K mg base A outer s H->BindsTo s fd args (ps.zip us)->Zw vs us->sp vs H Q E->
  codeAny (model P w) A (.call (.ref f) args) (CR CX outer P w H s Q E) s
theorem FnOk.mono {P:Program} {w:World} {K:PySem.W.Frag} {mg:Str->Option Value} {base:Heap} {CX:CXT} {j k:Nat} {f:Addr} {fd:FuncData} {ps:List Str} {sp:Sp} (F:FnOk P w K mg base CX j f fd ps sp) (h:j<=k):
 FnOk P w K mg base CX k f fd ps sp:=⟨F.len,λA outer s H args us vs Q E hr=>F.run A outer s H args us vs Q E (hr.mono h)⟩
theorem Env0.make {P:Program} {w:World} {K:PySem.W.Frag} {mg:Str->Option Value} {base:Heap} {A:Around} {outer:List Env} {s:Shared} {H:Hp} (e:Env0 P w K mg base A outer s H) (C:Addr) (us:List Value) (kw:List (Str×Value)):
 Env0 P w K mg base (A.under (.builtin "type.__call__" ⟨.ref C::us,kw⟩)) outer s H:=⟨by first|exact e.frames|(simpa [Around.under,Code.envs,Code.isFrame,pushEnvs] using e.frames),e.mod,e.bs,e.bsz,e.funs,e.frf,e.hok,e.bare⟩
section
variable {X:Cx} {pins:List (Addr×Obj)} {σ:St} {H:Hp} {s s':Shared}
theorem Inv.env0 (I:Inv X pins σ H s):Env0 X.prog X.w X.K X.mg X.base X.A X.stack s H:=
 ⟨I.ok.frames,I.ok.mod,I.bs,jS I.ok.bsz I.sz,I.stack,I.stkFree,I.hok,I.bare⟩
theorem Inv.after {Q:VK} {u:Value} (I:Inv X pins σ H s) (h:CE X.stack X.prog X.w H s Q u s'):EP X pins σ Q u s':=by
 obtain ⟨v,H',os,bare,un,hok,r,q⟩:=h;obtain ⟨hh,g,d,t,os'⟩:=s';obtain rfl:os'=s.os:=os;exact ⟨v,H',I.call (h':=hh) (g':=g) (d':=d) (t':=t) (ch:=[]) un hok bare (λb z=>absurd z (by simp)),r,q⟩
end
def zk4 (sp:Sp) (dvs:List V) (E:XK) (t:TA):TE:=λσ H Q=>t σ H λvs H1=>sp (vs++dvs) H1 Q E
def zq9 (C:Addr) (sp:Sp) (dvs:List V) (E:XK) (t:TA):TE:=λσ H Q=>t σ H λvs H1=>∀x dx,H1 x=none->H1 dx=none->dx≠x->
 sp (.ref x::(vs++dvs)) (upd (upd H1 dx (.own x)) x (.ins C dx [])) (λv H2=>v= .non/\Q (.ref x) H2) E
def Zg (K:PySem.W.Frag) (fd:FuncData) (ps:List Str) (ds:List Value):Prop:=
 ∀(s:Shared) (us:List Value),K.In s.heap->(us++ds).length=ps.length->BindsTo s fd ⟨us,[]⟩ (ps.zip (us++ds))
theorem Zg.all {K:PySem.W.Frag} {fd:FuncData} {ps:List Str} (h:∀us:List Value,us.length=ps.length->bindArgs fd ⟨us,[]⟩=pure (ps.zip us)):Zg K fd ps []:=λs us _ hl=>by
 rw [wW] at hl⊢;exact .of_eq (h us hl)
def UB (CX:CXT) (X:Cx) (E:XK):Prop:=∀(pins:List (Addr×Obj)) (σ:St) (H:Hp) (s:Shared) (e:Value) (s':Shared),Inv X pins σ H s->CX X.stack H s E e s'->X.xe e s'
section
variable {X:Cx} {CX:CXT} {k:Nat} {f C:Addr} {fd:FuncData} {ps:List Str} {sp:Sp} {dvs:List V} {ds:List Value} {E:XK} {x m:Str} {p pos apos:Pos} {e o:Expr} {es:List Expr} {ta:TE} {t:TA}
theorem zj9 {pins:List (Addr×Obj)} {σ:St} {H:Hp} {s:Shared} {Q:VK} {us:List Value} {vs:List V} (F:FnOk X.prog X.w X.K X.mg X.base CX k f fd ps sp) (hr:Room k X.A) (hb:Zg X.K fd ps ds) (hd:Zw dvs ds) (hx:UB CX X E)
 (I:Inv X pins σ H s) (r:Zw vs us) (h:sp (vs++dvs) H Q E):wpAny (model X.prog X.w) X.A (call (.ref f) us) (EP X pins σ Q) X.xe s:=by
 have r2:Zw (vs++dvs) (us++ds):=r.append hd;have hl:(us++ds).length=ps.length:=by rw [<-r2.length];exact F.len _ _ _ _ h
 refine wpAny_call (Qi (F.run X.A X.stack s H ⟨us,[]⟩ (us++ds) (vs++dvs) Q E hr I.env0 (hb s us I.kIn hl) r2 h) λr s' hq=>?_)
 cases r with
 |error e=>exact hx pins σ H s e s' I hq
 |ok fl=>
  cases fl with
  |ret u=>exact I.after hq
  |next=>exact False.elim hq
  |brk=>exact False.elim hq
  |cont=>exact False.elim hq
theorem zr7 (F:FnOk X.prog X.w X.K X.mg X.base CX k f fd ps sp) (hr:Room k X.A) (hg:Gl X x) (hm:X.mg x=some (.ref f)) (hk:PySem.W.keepIn X.K (.ref f)=true) (hb:Zg X.K fd ps ds) (hd:Zw dvs ds) (hx:UB CX X E)
 (ha:PA X (e::es) t) (hdb:(x==("__debug__":Str))=false:=by decide) (he:starEach (e::es) X.env=(false,eval e X.env)::starEach es X.env:=by rfl) (hpl:(backTo pos (starEach es X.env)).any (·.1)=false:=by rfl):
 PE X (.Call (.Name x p) (e::es) [] pos) (zk4 sp dvs E t):=by
 intro pins s σ H Q I h;refine wL (zdS I hg hm ?_ hdb);refine JX (h₀:=X.base) I.ok.mod.kin hk (thn (ha pos pins s σ H _ I h) λus s1 ⟨vs,H1,I1,r,q⟩=>⟨I1.kIn,?_⟩) he hpl;exact zj9 F hr hb hd hx I1 r q
structure Mk (K:PySem.W.Frag) (C f:Addr):Prop where
 makes:PySem.W.makesIn K C=true
 init:PySem.W.findIn K (.ref C) "__init__"=some (some (.ref f))
 fn:PySem.W.isFn K (.ref f)=true
 kp:PySem.W.keepIn K (.ref C)=true
theorem zj8 {pins:List (Addr×Obj)} {σ:St} {H:Hp} {s:Shared} {Q:VK} {us:List Value} {vs:List V} (M:Mk X.K C f) (F:FnOk X.prog X.w X.K X.mg X.base CX k f fd ps sp) (hr:Room (k+1) X.A) (hb:Zg X.K fd ps ds) (hd:Zw dvs ds)
 (hx:UB CX X E) (I:Inv X pins σ H s) (r:Zw vs us)
 (h:∀x dx,H x=none->H dx=none->dx≠x->sp (.ref x::(vs++dvs)) (upd (upd H dx (.own x)) x (.ins C dx [])) (λv H2=>v= .non/\Q (.ref x) H2) E):
 wpAny (model X.prog X.w) X.A (call (.ref C) us) (EP X pins σ Q) X.xe s:=by
 have hq:=h (s.heap.objs.size+1) s.heap.objs.size (I.hok.fresh (wj _)) (I.hok.fresh (jy _)) (jO (qj _));have I2:=Inv.made (C:=C) I;have r2:Zw (V.ref (s.heap.objs.size+1)::(vs++dvs)) (Value.ref (s.heap.objs.size+1)::(us++ds)):= .cons rfl (r.append hd)
 have hl:(Value.ref (s.heap.objs.size+1)::us++ds).length=ps.length:=by
  have e:=r2.length;rw [F.len _ _ _ _ hq] at e;exact e.symm
 refine wpAny_call (zpD (f:=f) I.kIn M.makes M.init (beq_iff_eq.mp M.fn) (Qi (F.run _ X.stack _ _ ⟨Value.ref (s.heap.objs.size+1)::us,[]⟩ (Value.ref (s.heap.objs.size+1)::(us++ds)) _ _ E (hr.make C us [])
  (I2.env0.make C us []) (hb _ (Value.ref (s.heap.objs.size+1)::us) I2.kIn hl) r2 hq) λr s' hq'=>?_))
 cases r with
 |error e=>exact hx pins σ _ _ e s' I2 hq'
 |ok fl=>
  cases fl with
  |ret u=>
   obtain ⟨v,H',I3,rv,ev,q3⟩:=I2.after hq';subst ev;exact ⟨rv,⟨V.ref (s.heap.objs.size+1),H',I3,rfl,q3⟩⟩
  |next=>exact False.elim hq'
  |brk=>exact False.elim hq'
  |cont=>exact False.elim hq'
theorem zgw (M:Mk X.K C f) (F:FnOk X.prog X.w X.K X.mg X.base CX k f fd ps sp) (hr:Room (k+1) X.A) (hg:Gl X x) (hm:X.mg x=some (.ref C)) (hb:Zg X.K fd ps ds) (hd:Zw dvs ds) (hx:UB CX X E)
 (ha:PA X (e::es) t) (hdb:(x==("__debug__":Str))=false:=by decide) (he:starEach (e::es) X.env=(false,eval e X.env)::starEach es X.env:=by rfl) (hpl:(backTo pos (starEach es X.env)).any (·.1)=false:=by rfl):
 PE X (.Call (.Name x p) (e::es) [] pos) (zq9 C sp dvs E t):=by
 intro pins s σ H Q I h;refine wL (zdS I hg hm ?_ hdb);refine JX (h₀:=X.base) I.ok.mod.kin M.kp (thn (ha pos pins s σ H _ I h) λus s1 ⟨vs,H1,I1,r,q⟩=>⟨I1.kIn,?_⟩) he hpl;exact zj8 M F hr hb hd hx I1 r q
theorem zcP (M:Mk X.K C f) (F:FnOk X.prog X.w X.K X.mg X.base CX k f fd ps sp) (hr:Room (k+1) X.A) (hg:Gl X x) (hm:X.mg x=some (.ref C)) (hb:Zg X.K fd ps ds) (hd:Zw dvs ds) (hx:UB CX X E)
 (hdb:(x==("__debug__":Str))=false:=by decide):PE X (.Call (.Name x p) [] [] pos) (zq9 C sp dvs E tNil):=by
 intro pins s σ H Q I h;refine wL (zdS I hg hm ?_ hdb);exact PySem.W.callWith_K0 I.kIn M.kp (zj8 (us:=[]) M F hr hb hd hx I .nil h)
end
section
variable {X:Cx} {CX:CXT} {k:Nat} {f C:Addr} {fd:FuncData} {ps ks:List Str} {sp:Sp} {E:XK} {x m:Str} {p pos apos kpos:Pos} {e o:Expr} {es:List Expr} {kws:List Keyword} {te ta:TE} {t tk:TA} {nm:Option Str}
variable {g:List Value->List Value->List Value} {gV:List V->List V->List V}
end
structure FnScope (N P:List Str) (sc:Scope):Prop where
 kind:sc.kind= .function
 co:sc.isCoroutine=false
 gen:sc.isGenerator=false
 nd:N.Nodup
 pre:N.take P.length=P
 par:∀x∈P,sc.names.lookup x=some .local\/sc.names.lookup x=some .cell
 nofree:∀y∈sc.names,y.2≠ .free
theorem zih {kindOf:Str->Option NameKind} {x:Str}:∀{binds:List (Str×Value)} {m:Str->Option Value},(∀v,(x,v)∉binds)->bindL kindOf binds m x=m x
 |[],_,_=>rfl
 |(n,v)::r,m,h=>by
  unfold bindL;rw [zih λw hw=>h w (jf _ hw)]
  split
  ·have:x≠n:=by rintro rfl;exact h v jd
   simp [this]
  ·rfl
theorem zij {kindOf:Str->Option NameKind} {x:Str}:∀{binds:List (Str×Value)} {m:Str->Option Value},(∀v,(x,v)∉binds)->bindC kindOf binds m x=m x
 |[],_,_=>rfl
 |(n,v)::r,m,h=>by
  unfold bindC;rw [zij λw hw=>h w (jf _ hw)]
  split
  ·rfl
  ·have:x≠n:=by rintro rfl;exact h v jd
   simp [this]
theorem zii {kindOf:Str->Option NameKind} {x:Str} {v:Value}:∀{P:List Str} {vs:List Value} {i:Nat} {m:Str->Option Value},P.Nodup->P[i]? =some x->vs[i]? =some v->kindOf x=some .local->
 bindL kindOf (P.zip vs) m x=some v
 |[],_,_,_,_,h,_,_=>by simp at h
 |_::_,[],_,_,_,_,h,_=>by simp at h
 |p::P,w::vs,0,m,nd,h1,h2,hk=>by
  simp at h1 h2;subst h1;subst h2;show bindL kindOf ((p,w)::P.zip vs) m p=_;unfold bindL;rw [zih λv hv=>(qM.mp nd).1 (Jy hv).1,jK hk]
  simp
 |p::P,w::vs,i+1,m,nd,h1,h2,hk=>by
  show bindL kindOf ((p,w)::P.zip vs) m x=_;unfold bindL;exact zii (i:=i) (qM.mp nd).2 (by simpa using h1) (by simpa using h2) hk
theorem zik {kindOf:Str->Option NameKind} {x:Str} {v:Value}:∀{P:List Str} {vs:List Value} {i:Nat} {m:Str->Option Value},P.Nodup->P[i]? =some x->vs[i]? =some v->kindOf x≠some .local->
 bindC kindOf (P.zip vs) m x=some v
 |[],_,_,_,_,h,_,_=>by simp at h
 |_::_,[],_,_,_,_,h,_=>by simp at h
 |p::P,w::vs,0,m,nd,h1,h2,hk=>by
  simp at h1 h2;subst h1;subst h2;show bindC kindOf ((p,w)::P.zip vs) m p=_;unfold bindC;rw [zij λv hv=>(qM.mp nd).1 (Jy hv).1,jQ hk]
  simp
 |p::P,w::vs,i+1,m,nd,h1,h2,hk=>by
  show bindC kindOf ((p,w)::P.zip vs) m x=_;unfold bindC;exact zik (i:=i) (qM.mp nd).2 (by simpa using h1) (by simpa using h2) hk
def zhp (N:List Str) (vs:List V):St:=vs.map some++List.replicate (N.length - vs.length) none
def zsY (CX:CXT) (P:Program) (w:World) (K:PySem.W.Frag) (mg:Str->Option Value) (base:Heap) (N:List Str) (qual:Str) (scope:Scope) (f:Addr) (cd:Value) (A:Around) (outer:List Env) (s:Shared) (H:Hp) (E:XK):Cx where
 prog:=P
 w:=w
 K:=K
 mg:=mg
 base:=base
 A:=A.deeper (envOfC qual scope s.heap.objs.size f cd)
 N:=N
 s₀:=s
 H₀:=H
 env:=envOfC qual scope s.heap.objs.size f cd
 outer:=outer
 stack:=envOfC qual scope s.heap.objs.size f cd::outer
 ex:=[]
 calm:=true
 fn:=λ_=>true
 pn:=[]
 xe:=λe s'=>wpAny (model P w) (A.deeper (envOfC qual scope s.heap.objs.size f cd)) (leaving (envOfC qual scope s.heap.objs.size f cd) e) (λ_ s''=>CX outer H s E e s'') (λe' s''=>CX outer H s E e' s'') s'
theorem zkH {sc:Scope} {n:Nat} {x:Str} (h:sc.names.lookup x=some .cell):∃c,(cellsFrom n sc.names []).lookup x=some c:=by
 have q:=PySem.W.cellsFrom_some sc.names n [] (.inl h);exact wM.mp q
theorem zn0 {CX:CXT} {P:Program} {w:World} {K:PySem.W.Frag} {mg:Str->Option Value} {base:Heap} {N ps:List Str} {qual:Str} {scope:Scope} {f:Addr} {cd:Value} {A:Around} {outer:List Env} {s s1:Shared} {H:Hp} {E:XK} {us:List Value} {vs:List V}
 (S:FnScope N ps scope) (hd:A.handled=none) (e0:Env0 P w K mg base A outer s H) (hl:vs.length=ps.length) (r:Zw vs us)
 (x:InCallC s s.heap.objs.size (bindL (envOfC qual scope s.heap.objs.size f cd).kindOf (ps.zip us) λ_=>none) (cellsFrom (s.heap.objs.size+1) scope.names []) (bindC (envOfC qual scope s.heap.objs.size f cd).kindOf (ps.zip us) λ_=>none) s1):
 Inv (zsY CX P w K mg base N qual scope f cd A outer s H E) [] (zhp N vs) H s1:=by
 have hpl:ps.length<=N.length:=by have:=congrArg List.length S.pre;rw [qS] at this;omega
 obtain ⟨h1,tk,rfl,hk⟩:=x.done;have noA:∀b:Addr,b∉(zsY CX P w K mg base N qual scope f cd A outer s H E).ex:=λb z=>absurd (show b∈([]:List Addr) from z) (by simp)
 refine ⟨⟨e0.mod,S.kind,rfl,rfl,jy _,λy z c h1 h2=>?_,λy hy=>?_,λy c _ h=>?_,λ_=>hd,Around.frames_deeper e0.frames, .inr ⟨rfl,rfl⟩,λb z=>absurd z (noA b),e0.bs,e0.bsz,λb _ _=>noA b,λb z=>absurd z (noA b),e0.funs,e0.frf⟩,
  rfl,e0.bare,Un.kept hk,⟨_,x.toInCall.ns,λi y v h1 h2 h3=>?_⟩,λy c h=>⟨_,x.cell y c h⟩,e0.hok.fresh (jy _),λy c h=>?_,λp hp=>absurd (show p∈([]:List (Addr×Obj)) from hp) (by simp),e0.hok.kept hk,?_⟩
 ·exact name_of_addr x.apart (wF h1) (wF h2)
 ·have hy:scope.names.lookup y=some .cell\/scope.names.lookup y=some .free:=hy
  rcases hy with hy|hy
  ·exact zkH hy
  ·exact absurd rfl (S.nofree _ (wF hy))
 ·exact JP (x.above y c (wF h))
 ·have hi:i<vs.length:=by
   unfold zhp at h2
   by_cases hi:i<vs.length
   ·exact hi
   ·rw [qC (by simpa using hi)] at h2;rw [jU] at h2
    split at h2<;>cases h2
  have ha:vs[i]? =some v:=by
   unfold zhp at h2;rw [wt (by simpa using hi),jh] at h2
   cases e:vs[i]? with
   |none=>rw [e] at h2;cases h2
   |some a=>rw [e] at h2;cases h2;rfl
  obtain ⟨u,hu,rv⟩:=r.get ha
  have hp:ps[i]? =some y:=by
   rw [<-S.pre,List.getElem?_take_of_lt (by omega)];exact h1
  have ndP:ps.Nodup:=by rw [<-S.pre];exact S.nd.sublist (List.take_sublist _ _)
  refine ⟨u,rv,?_⟩
  rcases S.par y (jc hp) with k|k
  ·exact .inl ⟨k,zii ndP hp hu k⟩
  ·obtain ⟨c,e⟩:=zkH (n:=s.heap.objs.size+1) k;refine .inr ⟨.inl k,c,e,?_⟩;have q:=x.cell y c e;rw [zik ndP hp hu (by show scope.names.lookup y≠_;rw [k];decide)] at q;exact q
 ·exact e0.hok.fresh (JP (x.above y c (wF h)))
 ·unfold zhp;show _=N.length;rw [jJ,ja,jB];omega
theorem fn_of {CX:CXT} {P:Program} {w:World} {K:PySem.W.Frag} {mg:Str->Option Value} {base:Heap} {k:Nat} {f:Addr} {name qual:Str} {params:Arguments} {body:List Stmt} {scope:Scope} {dV kV doc pm cdv ct oc:Value} {an od:Option Addr}
 {osl:Array (Option Value)} {N ps:List Str} {sp:Sp} (lk:K.lookup f=some ⟨oc,od, .func (PySem.W.fnOf name qual params body scope dV kV doc pm an cdv ct),osl⟩) (hcd:PySem.W.codeIn K cdv qual=true) (S:FnScope N ps scope)
 (len:∀vs H Q E,sp vs H Q E->vs.length=ps.length)
 (hbody:∀(A:Around) (outer:List Env) (s:Shared) (H:Hp) (vs:List V) (Q:VK) (E:XK),Room k (A.deeper (envOfC qual scope s.heap.objs.size f cdv))->sp vs H Q E->
  ∃t,PSs (zsY CX P w K mg base N qual scope f cdv A outer s H E) body t/\t {nx:=λ_ H'=>Q .non H',rt:=Q} (zhp N vs) H):
 FnOk P w K mg base CX (k+1) f (PySem.W.fnOf name qual params body scope dV kV doc pm an cdv ct) ps sp:=by
 refine ⟨len,λA outer s H args us vs Q E hr e0 hb r hsp=>?_⟩;have hl:=len _ _ _ _ hsp;have KX:K.In s.heap:=e0.mod.kin.keeps λb o e=>(e0.bs b o e).1;have lim:s.heap.NoLimit:=e0.mod.nolimit.keeps λb o e=>(e0.bs b o e).1
 have hkind:∀y∈ps.zip us,scope.names.lookup y.1=some .local\/(scope.names.lookup y.1=some .cell/\((cellsFrom (s.heap.objs.size+1) scope.names []).lookup y.1).isSome=true):=λ⟨n,v⟩ hy=>by
  rcases S.par n (Jy hy).1 with q|q
  ·exact .inl q
  ·exact .inr ⟨q,PySem.W.cellsFrom_some _ _ _ (.inl q)⟩
 refine codeAny_call_function hr.depth (KX _ _ lk) rfl S.co S.gen rfl (PySem.W.codeRec_of KX hcd) (hb _ _ _ _ ?_);refine wpAny_newFunctionEnv_cells S.kind hkind λenv he s1 x=>?_;subst he;refine ⟨lim.keeps x.toInCall.keep,codeAny_func ?_⟩;obtain ⟨t,ht,hq⟩:=hbody A outer s H vs Q E (hr.deeper _) hsp;have I:Inv (zsY CX P w K mg base N qual scope f cdv A outer s H E) [] (zhp N vs) H s1:=zn0 S hr.hd e0 hl r x;refine wpAny_mono (ht [] s1 (zhp N vs) H _ I hq) (λfl s' hs=>?_) λe s' hs=>hs
 have fin:∀{σ':St} {H':Hp} {v:V} {u:Value},Inv (zsY CX P w K mg base N qual scope f cdv A outer s H E) [] σ' H' s'->YZ v u->Q v H'->CE outer P w H s Q u s':=
  λ{σ' H' v u} J rv q=>⟨v,H',J.os,J.bare,J.base,J.hok,rv,q⟩
 cases fl with
 |ret u=>
  obtain ⟨v,σ',H',J,rv,q⟩:=hs;exact fin J rv q
 |next=>
  obtain ⟨σ',H',J,q⟩:=hs;exact fin (v:=V.non) (u:=Value.none) J rfl q
 |brk=>
  obtain ⟨_,_,_,q⟩:=hs;exact False.elim q
 |cont=>
  obtain ⟨_,_,_,q⟩:=hs;exact False.elim q
end L2
namespace L2
open PySem PySem.Spec PyProof.Rows
section
variable {X:Cx} {x:Str} {p pos:Pos} {e:Expr} {es:List Expr} {t:TA} {id T:String} {r:List V->Hp->VK->Prop}
def tCB (r:List V->Hp->VK->Prop) (t:TA):TE:=λσ H Q=>t σ H λvs H1=>r vs H1 Q
theorem zR (hc:Vm X (.builtin id) r) (hg:Gl X x) (hm:X.mg x=none) (hv:bootBuiltins x=some (.builtin id)) (ha:PA X (e::es) t) (hn:x≠"__name__":=by decide) (hdb:(x==("__debug__":Str))=false:=by decide)
 (he:starEach (e::es) X.env=(false,eval e X.env)::starEach es X.env:=by rfl) (hpl:(backTo pos (starEach es X.env)).any (·.1)=false:=by rfl):PE X (.Call (.Name x p) (e::es) [] pos) (tCB r t):=by
 intro pins s σ H Q I h;refine wL (zaO I hg hm hv ?_ hn hdb);exact PyProof.Rows.callWith_builtin1 (thn (ha pos pins s σ H _ I h) λus s1 ⟨vs,H1,I1,r1,q1⟩=>hc pins s1 σ H1 vs us Q I1 r1 q1) he hpl
theorem YL (hc:Vm X (.type T) r) (hg:Gl X x) (hm:X.mg x=none) (hv:bootBuiltins x=some (.type T)) (ha:PA X (e::es) t) (hn:x≠"__name__":=by decide) (hdb:(x==("__debug__":Str))=false:=by decide)
 (he:starEach (e::es) X.env=(false,eval e X.env)::starEach es X.env:=by rfl) (hpl:(backTo pos (starEach es X.env)).any (·.1)=false:=by rfl):PE X (.Call (.Name x p) (e::es) [] pos) (tCB r t):=by
 intro pins s σ H Q I h;refine wL (zaO I hg hm hv ?_ hn hdb);exact wa (thn (ha pos pins s σ H _ I h) λus s1 ⟨vs,H1,I1,r1,q1⟩=>hc pins s1 σ H1 vs us Q I1 r1 q1) he hpl
end
end L2
namespace HT
open PySem PyProof.Rows
section
open PySem.SeqAt
open PySem.AutoSeq1 (wpAny_loadPart')
open PySem.MeetsSeq PySem.MeetsSeq2 PySem.MeetsSeq3
end
section
variable {prog:Program} {w:World} {A:Around} {E:Value->Shared->Prop} {s:Shared}
def sIx (n d:Nat):Option Int->Nat
 |none=>d
 |some v=>if v<0 then (v+(n:Int)).toNat else min v.toNat n
theorem sIx_none (n d:Nat):sIx n d none=d:=rfl
theorem sIx_nat (n d k:Nat):sIx n d (some (k:Int))=min k n:=by
 show (if (k:Int)<0 then ((k:Int)+(n:Int)).toNat else min (k:Int).toNat n)=min k n;rw [jQ (by omega),qf]
end
end HT
namespace L2
open PySem PySem.Spec PyProof.Rows
abbrev TO:=St->Hp->(Option Int->Hp->Prop)->Prop
def PO (X:Cx) (e:Option Expr) (t:TO):Prop:=
 ∀(pins:List (Addr×Obj)) (s:Shared) (σ:St) (H:Hp) (Q:Option Int->Hp->Prop),Inv X pins σ H s->t σ H Q->
  wpAny (model X.prog X.w) X.A (evalPart e X.env) (λu s'=>∃o H',Inv X pins σ H' s'/\IsPart u o/\Q o H') X.xe s
def zms:TO:=λ_ H Q=>Q none H
def tPart (t:TE):TO:=λσ H Q=>t σ H λx H1=>∃i,x= .int i/\Q (some i) H1
theorem Wr {ns:List Int}:∀{us:List Value},Zw (ns.map V.int) us->IntsAre us ns:=by
 induction ns with
 |nil=>intro us r;rw [wB] at r;cases r;exact .nil
 |cons n ns ih=>
  intro us r;rw [jq] at r
  cases r with
  |cons r1 r2=>
   obtain ⟨t,e⟩:=r1;subst e;exact .cons n t (ih r2)
section
variable {X:Cx} {e:Expr} {te:TE} {lo hi:Option Expr} {tl th:TO} {pos p2:Pos}
theorem zi0:PO X none zms:=by
 intro pins s σ H Q I h;rw [evalPart_none];exact jr ⟨none,H,I, .none,h⟩
theorem zdv (h:PE X e te):PO X (some e) (tPart te):=by
 intro pins s σ H Q I hw;rw [evalPart_some];refine thn (h pins s σ H _ I hw) λu s1 ⟨x,H1,I1,r1,q1⟩=>?_;obtain ⟨i,rfl,q⟩:=q1;obtain ⟨t,rfl⟩:=r1;exact ⟨some i,H1,I1, .int i t,q⟩
def SlR (X:Cx) (r:V->Option Int->Option Int->Hp->VK->Prop):Prop:=
 ∀(pins:List (Addr×Obj)) (s:Shared) (σ:St) (H:Hp) (x:V) (v vl vu:Value) (lo hi:Option Int) (sl:Addr) (Q:VK),Inv X pins σ H s->YZ x v->s.heap.IsSliceOf sl vl vu .none->IsPart vl lo->IsPart vu hi->r x lo hi H Q->
  ∃T id,typeLookup (.type T) "__getitem__"=pure (some (.builtin id))/\s.TypeIs v T/\wpAny (model X.prog X.w) X.A (getItem v (.ref sl)) (EP X pins σ Q) X.xe s
def tSl (r:V->Option Int->Option Int->Hp->VK->Prop) (te:TE) (tl th:TO):TE:=λσ H Q=>te σ H λx H1=>tl σ H1 λl H2=>th σ H2 λu H3=>r x l u H3 Q
theorem zcO {r:V->Option Int->Option Int->Hp->VK->Prop} (hr:SlR X r) (he:PE X e te) (hl:PO X lo tl) (hu:PO X hi th):PE X (.Subscript e (.Slice lo hi none p2) pos) (tSl r te tl th):=by
 intro pins s σ H Q I h;refine Subscript_ (thn (he pins s σ H _ I h) λv s1 ⟨x,H1,I1,r1,q1⟩=>?_);refine wpAny_Slice (thn (hl pins s1 σ H1 _ I1 q1) λvl s2 ⟨l,H2,I2,pl,q2⟩=>thn (hu pins s2 σ H2 _ I2 q2) λvu s3 ⟨u,H3,I3,pu,q3⟩=>?_);rw [evalPart_none];refine jr ?_;have I4:Inv X pins σ H3 {s3 with heap:=s3.heap.push {cls:= .type "slice",data:= .fields #[vl,vu, .none]}}:=I3.kept (t':=s3.toks) λb ob q=>ji _ q;obtain ⟨T,id,hT,ht,hg⟩:=hr pins {s3 with heap:=s3.heap.push {cls:= .type "slice",data:= .fields #[vl,vu, .none]}} σ H3 x v vl vu l u s3.heap.objs.size Q I4 r1 (Heap.IsSliceOf.new ..) pl pu q3;show wpAny (model X.prog X.w) X.A (subscriptTail e (.Slice lo hi none p2) v (.ref s3.heap.objs.size)) (EP X pins σ Q) X.xe {s3 with heap:=s3.heap.push {cls:= .type "slice",data:= .fields #[vl,vu, .none]}};exact tail_any (ops:=[.ref s3.heap.objs.size,v]) ht hT hg (by with_unfolding_all rfl)
def zsI (xs:List V) (lo hi:Option Int):List V:=(xs.drop (HT.sIx xs.length 0 lo)).take (HT.sIx xs.length xs.length hi - HT.sIx xs.length 0 lo)
theorem zjw (xs:List V) (lo hi:Option Int):(zsI xs lo hi).length<=xs.length:=by
 unfold zsI;rw [qS,qt];omega
end
end L2
namespace L2
open PySem PySem.Spec PyProof.Rows
def ixN (n:Nat) (i:Int):Option Nat:=if 0<=i then (if i<n then some i.toNat else none) else if -(n:Int)<=i then some (i+n).toNat else none
def atI {α:Type} (xs:List α) (i:Int):Option α:=(ixN xs.length i).bind λj=>xs[j]?
theorem znY {n:Nat} {i:Int} {j:Nat} (h:ixN n i=some j):seqIndex? i n=some j/\j<n/\ -(n:Int)<=i/\i<n:=by
 unfold ixN at h
 by_cases h0:0<=i
 ·rw [jK h0] at h
  by_cases h1:i<n
  ·rw [jK h1] at h;have e:i.toNat=j:=jL h;exact ⟨by rw [seqIndex_of h0 h1,e],by omega,by omega,h1⟩
  ·rw [jQ h1] at h;cases h
 ·rw [jQ h0] at h
  by_cases h1: -(n:Int)<=i
  ·rw [jK h1] at h;have e:(i+n).toNat=j:=jL h;exact ⟨by rw [seqIndex_neg (by omega) h1,e],by omega,h1,by omega⟩
  ·rw [jQ h1] at h;cases h
theorem zjI {α:Type} {xs:List α} {i:Int} {v:α} (h:atI xs i=some v):∃j,seqIndex? i xs.length=some j/\xs[j]? =some v/\j<xs.length/\ -(xs.length:Int)<=i/\i<xs.length:=by
 unfold atI at h
 cases e:ixN xs.length i with
 |none=>rw [e] at h;cases h
 |some j=>
  rw [e] at h;obtain ⟨h1,h2,h3,h4⟩:=znY e;exact ⟨j,h1,h,h2,h3,h4⟩
theorem xi {α:Type} {xs:List α} {j:Nat} {v:α} (h:xs[j]? =some v):atI xs (j:Int)=some v:=by
 have hj:j<xs.length:=(je.mp h).1
 have e:ixN xs.length (j:Int)=some j:=by
  unfold ixN;rw [jK (by omega),jK (by omega)];simp
 unfold atI;rw [e];exact h
theorem zqs {α:Type} (xs:List α) (v:α):atI (xs++[v]) (-1)=some v:=by
 have hl:(xs++[v]).length=xs.length+1:=by simp
 have e:ixN (xs++[v]).length (-1)=some xs.length:=by
  unfold ixN;rw [hl,jQ (by decide),jK (by omega)]
  congr 1
  omega
 unfold atI;rw [e];show (xs++[v])[xs.length]? =some v
 simp
def zsT (b:Expr):Prop:=∀o i,subscripted b false o i=operate [o,i] (getItem o i)
def IxR (X:Cx) (r:R2):Prop:=
 ∀(value slice:Expr) (pins:List (Addr×Obj)) (s:Shared) (σ:St) (H:Hp) (x y:V) (v u:Value) (Q:VK),Inv X pins σ H s->YZ x v->YZ y u->r x y H Q->
  subscripted slice false v u=operate [v,u] (getItem v u)->wpAny (model X.prog X.w) X.A (subscriptTail value slice v u) (EP X pins σ Q) X.xe s
def MtR (X:Cx) (id:String) (r:V->List V->Hp->VK->Prop):Prop:=
 ∀(pins:List (Addr×Obj)) (s:Shared) (σ:St) (H:Hp) (x:V) (xs:List V) (v:Value) (us:List Value) (Q:VK),Inv X pins σ H s->YZ x v->Zw xs us->r x xs H Q->
  wpAny (model X.prog X.w) X.A (call (.builtin id) (v::us)) (EP X pins σ Q) X.xe s
section
variable {X:Cx} {a b:Expr} {ta tb:TE} {pos:Pos}
theorem IxR.or {r r':R2} (h:IxR X r) (h':IxR X r'):IxR X (λx y H Q=>r x y H Q\/r' x y H Q):=by
 intro value slice pins s σ H x y v u Q I rx ry q hs
 rcases q with q|q
 ·exact h value slice pins s σ H x y v u Q I rx ry q hs
 ·exact h' value slice pins s σ H x y v u Q I rx ry q hs
theorem xE {r:R2} (hr:IxR X r) (ha:PE X a ta) (hb:PE X b tb) (hs:zsT b):PE X (.Subscript a b pos) (tOp r ta tb):=by
 intro pins s σ H Q I h;exact Subscript_ (binT ha hb I h λv u s2 x y H2 I2 rx ry q=>hr a b pins s2 σ H2 x y v u Q I2 rx ry q (hs _ _))
def rIxL (K:PySem.W.Frag):R2:=λx y H Q=>∃p xs i v,x= .ref p/\y= .int i/\SqL K H p xs/\atI xs i=some v/\Q v H
def rIxT (K:PySem.W.Frag):R2:=λx y H Q=>∃p xs i v,x= .ref p/\y= .int i/\SqT K H p xs/\atI xs i=some v/\Q v H
def rIxS:R2:=λx y H Q=>∃z i c,x= .str z/\y= .int i/\z.length<=sizeLine/\atI z.cps.toList i=some c/\Q (.str ⟨#[c]⟩) H
theorem zsu:IxR X (rIxL X.K):=by
 intro value slice pins s σ H x y v u Q I rx ry h hs;obtain ⟨p,xs,i,z,rfl,rfl,hq,he,q⟩:=h;cases rx;obtain ⟨t,rfl⟩:=ry;obtain ⟨its,r,pl,hz⟩:=I.list hq;obtain ⟨j,h1,h2,h3,h4,h5⟩:=zjI he;obtain ⟨w,ew,rw'⟩:=r.get h2;have hl:=r.length;have hn:=zh1;have fin:EP X pins σ Q w s:=⟨z,H,I,rw',q⟩
 by_cases h0:0<=i
 ·have hj:i.toNat=j:=by
   rw [seqIndex_of h0 h5] at h1;exact jL h1
  exact item_listR pl.isList h0 (by omega) (by rw [hj];simpa using ew) fin hs
 ·have hj:(i+(its.toArray.size:Int)).toNat=j:=by
   rw [seqIndex_neg (by omega) h4] at h1;rw [jH,<-hl];exact jL h1
  exact subscriptTail_builtinR (x:=w) pl.isList.typeIs slot_list_getitem.lookup
   (wpAny_getItem_list_neg (Q:=λr s'=>r=w/\EP X pins σ Q r s') pl.isList (by omega) (by rw [jH]<;>omega) (by omega) (by rw [hj];simpa using ew) ⟨rfl,fin⟩) hs
theorem ix_tup:IxR X (rIxT X.K):=by
 intro value slice pins s σ H x y v u Q I rx ry h hs;obtain ⟨p,xs,i,z,rfl,rfl,hq,he,q⟩:=h;cases rx;obtain ⟨t,rfl⟩:=ry;obtain ⟨its,r,pl,hz⟩:=I.tuple hq;obtain ⟨j,h1,h2,h3,h4,h5⟩:=zjI he;obtain ⟨w,ew,rw'⟩:=r.get h2;have hl:=r.length;have hn:=zh1;have fin:EP X pins σ Q w s:=⟨z,H,I,rw',q⟩
 exact subscriptTail_builtinR (x:=w) pl.typeIs slot_tuple_getitem.lookup
  (getItem_tuple (j:=j) (Q:=λr s'=>r=w/\EP X pins σ Q r s') pl (by omega) (by omega) (by rw [jH,<-hl];exact h1) (by simpa using ew) ⟨rfl,fin⟩) hs
theorem ix_str:IxR X rIxS:=by
 intro value slice pins s σ H x y v u Q I rx ry h hs;obtain ⟨z,i,c,rfl,rfl,hz,he,q⟩:=h;obtain ⟨t,rfl⟩:=rx;obtain ⟨t',rfl⟩:=ry;obtain ⟨j,h1,h2,h3,h4,h5⟩:=zjI he;have hl:z.cps.toList.length=z.length:=by simp [Str.length]
 rw [hl] at h1 h4 h5;have hn:=zh1
 exact tail_any (typeIs_str s z t) slot_str_getitem.lookup (getItem_str (c:=c) (by
  have e1:decide (i< -(2 ^ 63:Int))=false:=qm (by omega);have e2:decide (i≥2 ^ 63)=false:=qm (by omega)
  rw [e1,e2,Bool.or_false]) (by rw [h1];simpa using h2) ⟨.str ⟨#[c]⟩,H,I.tok _,⟨_,rfl⟩,q⟩) hs
def rIx (K:PySem.W.Frag):R2:=λx y H Q=>rIxL K x y H Q\/rIxT K x y H Q\/rIxS x y H Q
theorem yx:IxR X (rIx X.K):=zsu.or (ix_tup.or ix_str)
theorem zlB (its:List Value) (n j:Nat) (u:Value):Obj.mapSeq (·.setIfInBounds j u) {cls:= .type "list",data:= .seq its.toArray n}={cls:= .type "list",data:= .seq (its.set j u).toArray n}:=by
 simp [Obj.mapSeq]
theorem Inv.lst {pins:List (Addr×Obj)} {σ:St} {H:Hp} {s:Shared} {p:Addr} {xs:List V} (I:Inv X pins σ H s) (h:H p=some (.lst xs)):
 ∃(its:List Value) (n:Nat),Zw xs its/\s.heap.get? p=some {cls:= .type "list",data:= .seq its.toArray n}/\xs.length<=sizeLine:=by
 obtain ⟨z,its,n,r,e⟩:=I.hok p _ h;exact ⟨its,n,r,e,z⟩
theorem Inv.lstUpd {pins:List (Addr×Obj)} {σ:St} {H:Hp} {s:Shared} {p:Addr} {xs ys:List V} {its its':List Value} {n n':Nat} {f:Obj->Obj} (I:Inv X pins σ H s) (h:H p=some (.lst xs))
 (ho:s.heap.get? p=some {cls:= .type "list",data:= .seq its.toArray n}) (hf:f {cls:= .type "list",data:= .seq its.toArray n}={cls:= .type "list",data:= .seq its'.toArray n'}) (r:Zw ys its') (hz:ys.length<=sizeLine) (t:Nat):
 Inv X pins σ (upd H p (.lst ys)) {s with heap:=s.heap.update p f,toks:=t}:=by
 have e:(s.heap.update p f).get? p=some {cls:= .type "list",data:= .seq its'.toArray n'}:=by
  rw [wH f ho (by rw [hf]<;>rfl),hf]
 refine I.write (x:=p) (e:=p) (by rw [h];trivial) (.inl rfl) (λb u hb q=>(Jr _ _ (Ne.symm hb)).trans q) ⟨_,e⟩ ?_;exact ⟨hz,its',n',r,e⟩
def rSetL:V->V->V->Hp->(Hp->Prop)->Prop:=λo i v H Q=>∃p xs k j,o= .ref p/\i= .int k/\H p=some (.lst xs)/\ixN xs.length k=some j/\Q (upd H p (.lst (xs.set j v)))
theorem zo2:PSet X rSetL:=by
 intro pins s σ H o i v ov iv u Q I ro ri rv h;obtain ⟨p,xs,k,j,rfl,rfl,hp,hj,q⟩:=h;cases ro;obtain ⟨t,rfl⟩:=ri;obtain ⟨its,n,r,ho,hz⟩:=I.lst hp;obtain ⟨h1,h2,h3,h4⟩:=znY hj;have hl:=r.length;have hn:=zh1
 have I':Inv X pins σ (upd H p (.lst (xs.set j v))) {s with heap:=s.heap.update p (Obj.mapSeq (·.setIfInBounds j u))}:=
  I.lstUpd hp ho (zlB its n j u) (r.set rv j) (by rw [JY];exact hz) s.toks
 by_cases h0:0<=k
 ·have hk:k.toNat=j:=by
   rw [seqIndex_of h0 h4] at h1;exact jL h1
  exact PySem.W.ki_setAt ho h0 (by omega) (by rw [jH,<-hl];exact h4) (by rw [hk];exact ⟨_,I',q⟩)
 ·have hk:(k+(its.toArray.size:Int)).toNat=j:=by
   rw [seqIndex_neg (by omega) h3] at h1;rw [jH,<-hl];exact jL h1
  exact PySem.W.ki_setBack ho (by omega) (by rw [jH,<-hl];exact h3) (by omega) (by rw [hk];exact ⟨_,I',q⟩)
theorem zht (lo hi:Option Int) (n:Nat):(sliceBounds lo hi none n).1=((HT.sIx n 0 lo:Nat):Int)/\(sliceBounds lo hi none n).2.1=((HT.sIx n n hi:Nat):Int)/\(sliceBounds lo hi none n).2.2=1:=by
 refine ⟨?_,?_,rfl⟩
 ·cases lo with
  |none=>simp [sliceBounds,HT.sIx]
  |some i=>
   simp only [sliceBounds,HT.sIx,Option.getD_none,show (1:Int)>0 by decide,if_true]
   by_cases h:i<0
   ·simp only [h,if_true]<;>omega
   ·simp only [h,if_false]<;>omega
 ·cases hi with
  |none=>simp [sliceBounds,HT.sIx]
  |some i=>
   simp only [sliceBounds,HT.sIx,Option.getD_none,show (1:Int)>0 by decide,if_true]
   by_cases h:i<0
   ·simp only [h,if_true]<;>omega
   ·simp only [h,if_false]<;>omega
theorem zf6 (its:List Value) (lo hi:Option Int):slicePick its.toArray lo hi none=((its.drop (HT.sIx its.length 0 lo)).take (HT.sIx its.length its.length hi - HT.sIx its.length 0 lo)).toArray:=by
 obtain ⟨h1,h2,h3⟩:=zht lo hi its.toArray.size;unfold slicePick;rw [h1,h2,h3];simp only [sliceRange_one,pick_run,jH]<;>rfl
def rSlL (K:PySem.W.Frag):V->Option Int->Option Int->Hp->VK->Prop:=λx lo hi H Q=>∃a xs,x= .ref a/\SqL K H a xs/\∀p,H p=none->Q (.ref p) (upd H p (.lst (zsI xs lo hi)))
theorem zf7:SlR X (rSlL X.K):=by
 intro pins s σ H x v vl vu lo hi sl Q I rx hs pl pu h;obtain ⟨a,xs,rfl,hx,q⟩:=h;cases rx;obtain ⟨its,r,ht,hz⟩:=I.list hx;have hlen:=r.length;refine ⟨"list",_,slot_list_getitem.lookup,ht.isList.typeIs,?_⟩;refine wpAny_getItem_list_slice ht.isList hs pl pu .none (by simp) ?_ (by rw [jH]<;>omega);rw [zf6,<-hlen];refine ⟨.ref s.heap.objs.size,_,I.laid (t':=s.toks) (o:= .lst (zsI xs lo hi)) (λb ob q=>ji _ q) (jy _) ?_,rfl,q _ (I.hok.fresh (jy _))⟩;exact ⟨jS (zjw xs lo hi) hz,_,0,(r.drop (HT.sIx xs.length 0 lo)).take (HT.sIx xs.length xs.length hi - HT.sIx xs.length 0 lo),jx _ rfl⟩
theorem zie:Vm X (.builtin "len") (λxs H Q=>∃p ys,xs=[.ref p]/\(SqL X.K H p ys\/SqT X.K H p ys)/\Q (.int ys.length) H):=by
 intro pins s σ H xs us Q I r h;obtain ⟨p,ys,rfl,hq,q⟩:=h;obtain ⟨u,rfl,rx⟩:=zc0 r;cases rx;have hn:=zh1
 rcases hq with hq|hq
 ·obtain ⟨its,r',pl,hz⟩:=I.list hq;have hlen:=r'.length;exact Calls.call_len_list pl.isList (by simp only [jH]<;>omega) ⟨.int ys.length,H,I.tok _,⟨s.toks+1,by rw [jH,hlen]⟩,q⟩
 ·obtain ⟨its,r',pl,hz⟩:=I.tuple hq;have hlen:=r'.length;exact len_tuple pl (by simp only [jH]<;>omega) ⟨.int ys.length,H,I.tok _,⟨s.toks+1,by rw [jH,hlen]⟩,q⟩
theorem zid:Vm X (.type "list") (λxs H Q=>∃p ys,xs=[.ref p]/\(SqL X.K H p ys\/SqT X.K H p ys)/\∀l,H l=none->Q (.ref l) (upd H l (.lst ys))):=by
 intro pins s σ H xs us Q I r h;obtain ⟨p,ys,rfl,hq,q⟩:=h;obtain ⟨u,rfl,rx⟩:=zc0 r;cases rx
 have fin:∀(its:List Value),Zw ys its->ys.length<=sizeLine->∀(h':Heap) (c':Nat),(∀b o',s.heap.get? b=some o'->h'.get? b=some o')->
  h'.get? s.heap.objs.size=some {cls:= .type "list",dict:=none,data:= .seq its.toArray c',slots:=#[]}->EP X pins σ Q (.ref s.heap.objs.size) {s with heap:=h'}:=λits r' hz h' c' kp e=>
  ⟨.ref s.heap.objs.size,_,I.laid (t':=s.toks) kp (jy _) (show Xi X.prog X.w _ h' _ (.lst ys) from ⟨hz,its,c',r',e⟩),rfl,q _ (I.hok.fresh (jy _))⟩
 rcases hq with hq|hq
 ·obtain ⟨its,r',pl,hz⟩:=I.list hq;have hlen:=r'.length;obtain ⟨o,ho,hc,n,hd⟩:=pl.isList;exact call_list_seq p (.inl rfl) ho hc hd (λh' c' kp e=>fin its r' hz h' c' kp e) (by simp only [jH]<;>omega)
 ·obtain ⟨its,r',pl,hz⟩:=I.tuple hq;have hlen:=r'.length;obtain ⟨o,ho,hc,n,hd⟩:=pl;exact call_list_seq p (.inr rfl) ho hc hd (λh' c' kp e=>fin its r' hz h' c' kp e) (by simp only [jH]<;>omega)
theorem zgW:Vm X (.type "tuple") (λxs H Q=>∃p ys,xs=[.ref p]/\((SqL X.K H p ys/\∀l,H l=none->Q (.ref l) (upd H l (.tup ys)))\/(SqT X.K H p ys/\Q (.ref p) H))):=by
 intro pins s σ H xs us Q I r h;obtain ⟨p,ys,rfl,h⟩:=h;obtain ⟨u,rfl,rx⟩:=zc0 r;cases rx
 rcases h with ⟨hq,q⟩|⟨hq,q⟩
 ·obtain ⟨its,r',pl,hz⟩:=I.list hq;have hlen:=r'.length;refine call_tuple_list pl.isList (λh' kp=>?_) (by simp only [jH]<;>omega);have I1:Inv X pins σ H {s with heap:=h'}:=I.kept (t':=s.toks) kp
  have I2:Inv X pins σ (upd H h'.objs.size (.tup ys)) {s with heap:=h'.push {cls:= .type "tuple",data:= .seq its.toArray}}:=
   I1.laid (t':=s.toks) (λb o e=>ji _ e) (jy _) (show Xi X.prog X.w _ _ _ (.tup ys) from ⟨hz,its,r',IsTup.new _ _⟩)
  exact ⟨.ref h'.objs.size,_,I2,rfl,q _ (I1.hok.fresh (jy _))⟩
 ·obtain ⟨its,r',pl,hz⟩:=I.tuple hq;exact call_tuple_same pl ⟨.ref p,H,I,rfl,q⟩
def tyV (K:PySem.W.Frag) (T:String) (x:V) (H:Hp):Prop:=match x with
 | .str _=>T="str"
 | .int _=>T="int"
 | .ref p=>(T="list"/\∃xs,SqL K H p xs)\/(T="tuple"/\∃o,K.lookup p=some o/\o.cls= .type "tuple"/\o.dict=none)\/
  (T="dict"/\((∃kvs,H p=some (.dK kvs))\/∃kvs,H p=some (.dT kvs)))\/(T="set"/\∃S n,H p=some (.set S n))
 |_=>False
theorem tyV_is {pins:List (Addr×Obj)} {σ:St} {H:Hp} {s:Shared} {T:String} {x:V} {v:Value} (I:Inv X pins σ H s) (r:YZ x v) (ty:tyV X.K T x H):
 s.TypeIs v T/\∀a,v= .ref a->∃ob,s.heap.get? a=some ob/\ob.dict=none:=by
 cases x with
 |str z=>
  obtain ⟨t,rfl⟩:=r;cases (show T="str" from ty);exact ⟨typeIs_str s z t,λ_ e=>nomatch e⟩
 |int i=>
  obtain ⟨t,rfl⟩:=r;cases (show T="int" from ty);exact ⟨typeIs_int s i t,λ_ e=>nomatch e⟩
 |ref p=>
  cases r
  rcases ty with ⟨rfl,xs,hq⟩|⟨rfl,o,hk,hc,hd⟩|⟨rfl,hk⟩|⟨rfl,S,n,hk⟩
  ·obtain ⟨its,_,pl,_⟩:=I.list hq;refine ⟨pl.isList.typeIs,λa e=>?_⟩;cases e;obtain ⟨o,n,e,c,hd,_⟩:=pl;exact ⟨o,e,hd⟩
  ·refine ⟨⟨o,I.kIn p o hk,hc⟩,λa e=>?_⟩;cases e;exact ⟨o,I.kIn _ o hk,hd⟩
  ·have z:∃o,s.heap.get? p=some o/\o.ExactDict:=by
    rcases hk with ⟨kvs,hk⟩|⟨kvs,hk⟩
    ·obtain ⟨_,_,_,_,o,_,_,e,ex,_⟩:=I.hok p _ hk;exact ⟨o,e,ex⟩
    ·obtain ⟨_,_,_,_,o,_,_,e,ex,_⟩:=I.hok p _ hk;exact ⟨o,e,ex⟩
   obtain ⟨o,e,ex⟩:=z;refine ⟨⟨o,e,ex.1⟩,λa e2=>?_⟩;cases e2;exact ⟨o,e,ex.2.1⟩
  ·obtain ⟨o,_,_,_,e,ex,_⟩:=I.hok p _ hk;refine ⟨⟨o,e,ex.1⟩,λa e2=>?_⟩;cases e2;exact ⟨o,e,ex.2.1⟩
 |_=>exact False.elim ty
def tBM (K:PySem.W.Frag) (T:String) (r:V->List V->Hp->VK->Prop) (to:TE) (t:TA):TE:=λσ H Q=>to σ H λx H1=>tyV K T x H1/\t σ H1 λxs H2=>r x xs H2 Q
variable {o e:Expr} {es:List Expr} {to:TE} {t:TA} {name:Str} {apos cpos:Pos} {T id:String} {r:V->List V->Hp->VK->Prop}
theorem zey (pa:PlainAttrs T) (slot:Slot T name id) (hty:typeOf (.builtin id)=pure (.type "method_descriptor")) (hm:MtR X id r) (ho:PE X o to) (ha:PA X (e::es) t)
 (hbase:attributeBase o name X.env (eval o X.env)=eval o X.env:=by rfl)
 (hfew:((backTo cpos (starEach (e::es) X.env)).all (λx=>!x.1) && (backToKw cpos (keywordEach [] X.env)).all (λx=>x.1.isSome)
  && decide ((e::es).length+([]:List Keyword).length+(if ([]:List Keyword).isEmpty then 0 else 1)<30))=true:=by rfl)
 (hline:(apos.endLine==cpos.line)=true:=by rfl) (hs:starEach (e::es) X.env=(false,eval e X.env)::starEach es X.env:=by rfl) (hplain:(backTo cpos (starEach es X.env)).any (·.1)=false:=by rfl):
 PE X (.Call (.Attribute o name apos) (e::es) [] cpos) (tBM X.K T r to t):=by
 intro pins s σ H Q I h;refine wpAny_Call_method_late hbase hfew hline rfl (thn (ho pins s σ H _ I h) λv s1 ⟨x,H1,I1,r1,ty,q1⟩=>?_);obtain ⟨h1,h2⟩:=tyV_is I1 r1 ty;refine ⟨T,id,pa,slot,hty,h1,h2,?_⟩;have hA:=ha cpos pins s1 σ H1 _ I1 q1;rw [hs] at hA⊢;refine Calls.callWith_builtin (by show (false||(backTo cpos (starEach es X.env)).any (·.1))=false;rw [hplain]<;>rfl) (Calls.evalArgs_plain ?_);exact thn hA λus s2 ⟨vs,H2,I2,r2,q2⟩=>hm pins s2 σ H2 x vs v us Q I2 r1 r2 q2
end
end L2
namespace L2
open PySem PySem.Spec PyProof.Rows
def MtM (X:Cx) (id:String) (r:V->List V->Hp->VK->Prop):Prop:=
 ∀(pins:List (Addr×Obj)) (s:Shared) (σ:St) (H:Hp) (x:V) (xs:List V) (v:Value) (us:List Value) (Q:VK),Inv X pins σ H s->YZ x v->Zw xs us->r x xs H Q->
  wpAny (model X.prog X.w) X.A (call (.builtin id) (v::us)) (EP X pins σ Q) X.xe s
theorem Zw.one:∀{x:V} {us:List Value},Zw [x] us->∃u,us=[u]/\YZ x u
 |_,_, .cons r .nil=>⟨_,rfl,r⟩
theorem Zw.zero:∀{us:List Value},Zw [] us->us=[]
 |_, .nil=>rfl
theorem Zw.rep {xs:List V} {us:List Value} (h:Zw xs us):∀k:Nat,Zw (List.replicate k xs).flatten (List.replicate k us).flatten
 |0=> .nil
 |k+1=>by
  rw [qv,qv,qN,qN];exact Zw.append h (Zw.rep h k)
theorem zh6 (its:List Value):∀(k:Nat) (acc:List Value),
 List.foldl (λx1 x2=>x1++x2) acc.toArray (List.replicate k its.toArray)=(acc++(List.replicate k its).flatten).toArray
 |0,acc=>by simp
 |k+1,acc=>by
  have e:acc.toArray++its.toArray=(acc++its).toArray:=by simp
  have e2:(acc++its)++(List.replicate k its).flatten=acc++(List.replicate (k+1) its).flatten:=by
   rw [qv,qN,wb]
  rw [<-e2,<-zh6 its k (acc++its),<-e,qv,List.foldl_cons]
section
variable {X:Cx} {pins:List (Addr×Obj)} {σ:St} {H:Hp} {s:Shared} {l b:Addr} {xs ys zs:List V}
theorem Inv.lset {its its':List Value} {n:Nat} {f:Array Value->Array Value} {t':Nat} (I:Inv X pins σ H s) (hH:H l=some (.lst xs))
 (e:s.heap.get? l=some {cls:= .type "list",data:= .seq its.toArray n}) (hf:f its.toArray=its'.toArray) (hv:Zw ys its') (hz:ys.length<=sizeLine):
 Inv X pins σ (upd H l (.lst ys)) {s with heap:=s.heap.update l (Obj.mapSeq f),toks:=t'}:=by
 have q:=PySem.IsL.update e f;rw [hf] at q;refine I.write (x:=l) (e:=l) (by rw [hH];exact trivial) (.inl rfl) (λb' u hb hu=>(Jr s.heap (Obj.mapSeq f) (Ne.symm hb)).trans hu) ⟨_,q⟩ ?_;exact ⟨hz,its',_,hv,q⟩
theorem Inv.lnew {its:List Value} {t':Nat} (I:Inv X pins σ H s) (hv:Zw ys its) (hz:ys.length<=sizeLine):
 Inv X pins σ (upd H s.heap.objs.size (.lst ys)) {s with heap:=s.heap.push {cls:= .type "list",data:= .seq its.toArray},toks:=t'}:=
 I.laid (λ_ _ q=>ji _ q) (jy _) ⟨hz,its,0,hv,jx _ rfl⟩
theorem Inv.fresh (I:Inv X pins σ H s):H s.heap.objs.size=none:=I.hok.fresh (jy _)
theorem Inv.lstM (I:Inv X pins σ H s) (hH:H l=some (.lst xs)):xs.length<=sizeLine/\∃(its:List Value) (n:Nat),Zw xs its/\xs.length=its.length/\s.heap.get? l=some {cls:= .type "list",data:= .seq its.toArray n}:=by
 obtain ⟨z,its,n,r,e⟩:=I.hok l _ hH;exact ⟨z,its,n,r,r.length,e⟩
theorem zgB {n:Nat} (h:n<=sizeLine):Builtin.List.listTooLong n=false:=by
 unfold Builtin.List.listTooLong;exact qm (by omega)
end
section
variable {X:Cx}
def znc:V->List V->Hp->VK->Prop:=λx vs H Q=>∃l xs y,x= .ref l/\vs=[y]/\H l=some (.lst xs)/\xs.length<sizeLine/\Q .non (upd H l (.lst (xs++[y])))
theorem ZD:MtM X "list.append" znc:=by
 intro pins s σ H x vs v us Q I rx rv h;obtain ⟨l,xs,y,rfl,rfl,hH,hz,q⟩:=h;cases rx;obtain ⟨u,rfl,ru⟩:=rv.one;obtain ⟨z,its,n,r,hl,e⟩:=I.lstM hH;refine call_meets F.slot_list_append ⟨_,e,rfl⟩ F.entry_list_append (F.args_list_append_2 _ _) (PySem.list_append l its.toArray n u (by rw [jH];omega)) ⟨e,?_⟩;refine ⟨.non,_,I.lset (its':=its++[u]) hH e (by simp) (r.append (.cons ru .nil)) ?_,rfl,q⟩;rw [jJ,wI];omega
def znb:V->List V->Hp->VK->Prop:=λx vs H Q=>∃l b xs zs,x= .ref l/\vs=[.ref b]/\H l=some (.lst xs)/\H b=some (.lst zs)/\xs.length+zs.length<=sizeLine/\Q .non (upd H l (.lst (xs++zs)))
theorem znG:MtM X "list.extend" znb:=by
 intro pins s σ H x vs v us Q I rx rv h;obtain ⟨l,b,xs,zs,rfl,rfl,hH,hB,hz,q⟩:=h;cases rx;obtain ⟨u,rfl,ru⟩:=rv.one;cases ru;obtain ⟨z,its,n,r,hl,e⟩:=I.lstM hH;obtain ⟨z2,its2,n2,r2,hl2,e2⟩:=I.lstM hB;have hsz:its.toArray.size+its2.toArray.size<=sizeLine:=by rw [jH,jH];omega
 have hlong:¬(!its.toArray.isEmpty && Builtin.List.listTooLong (its.toArray.size+its2.toArray.size))=true:=by
  rw [zgB hsz,Bool.and_false];exact jI
 refine call_meets F.slot_list_extend ⟨_,e,rfl⟩ F.entry_list_extend (F.args_list_extend_2 _ _)
  (AutoSeq1.list_extend_list_list_0 l its.toArray n b its2.toArray n2 hlong (by rw [jH];omega) (by omega)) ⟨e,e2,?_⟩
 refine ⟨.non,_,I.lset (its':=its++its2) hH e (by simp) (r.append r2) ?_,rfl,q⟩;rw [jJ];omega
def rCat:R2:=λx y H Q=>∃l b xs zs,x= .ref l/\y= .ref b/\H l=some (.lst xs)/\H b=some (.lst zs)/\xs.length+zs.length<=sizeLine/\∀p,H p=none->Q (.ref p) (upd H p (.lst (xs++zs)))
theorem op_cat:OpR X (binaryOp .Add) rCat:=by
 intro pins s σ H x y v u Q I rx ry h;obtain ⟨l,b,xs,zs,rfl,rfl,hH,hB,hz,q⟩:=h;cases rx;cases ry;obtain ⟨z,its,n,r,hl,e⟩:=I.lstM hH;obtain ⟨z2,its2,n2,r2,hl2,e2⟩:=I.lstM hB;refine PySem.P.add_list e e2 ?_ (by rw [jH,jH];omega);have ea:its.toArray++its2.toArray=(its++its2).toArray:=by simp
 rw [ea];exact ⟨.ref _,_,I.lnew (t':=s.toks) (r.append r2) (by rw [jJ];omega),rfl,q _ I.fresh⟩
def rRep:R2:=λx y H Q=>∃l k xs,x= .ref l/\y= .int k/\H l=some (.lst xs)/\ -(2 ^ 63)<=k/\k<2 ^ 63/\xs.length*k.toNat<=sizeLine/\
 ∀p,H p=none->Q (.ref p) (upd H p (.lst (List.replicate k.toNat xs).flatten))
theorem zsp {α:Type} (xs:List α) (k:Nat):(List.replicate k xs).flatten.length=k*xs.length:=by
 induction k with
 |zero=>simp
 |succ k ih=>rw [qv,qN,jJ,ih,Nat.succ_mul,Nat.add_comm]
theorem zqN:OpR X (binaryOp .Mult) rRep:=by
 intro pins s σ H x y v u Q I rx ry h;obtain ⟨l,k,xs,rfl,rfl,hH,h1,h2,hz,q⟩:=h;cases rx;obtain ⟨t,rfl⟩:=ry;obtain ⟨z,its,n,r,hl,e⟩:=I.lstM hH;have hlen:its.toArray.size*k.toNat<=sizeLine:=by rw [jH,<-hl];exact hz
 have hcap:¬its.toArray.size*k.toNat>(2 ^ 63 - 1) / 8:=by
  have:(sizeLine:Nat)<=(2 ^ 63 - 1) / 8:=by decide
  omega
 have hfit:¬(!Builtin.List.listFitsIndex k)=true:=by
  rw [fitsIndex_both h1 h2];exact jI
 have hlong:¬Builtin.List.listTooLong (its.toArray.size*k.toNat)=true:=by
  rw [zgB hlen];exact jI
 have hnew:List.foldl (λx1 x2=>x1++x2) #[] (List.replicate (if its.toArray.isEmpty=true then 0 else k.toNat) its.toArray)=(List.replicate k.toNat its).flatten.toArray:=by
  have f0:∀m:Nat,List.foldl (λx1 x2=>x1++x2) #[] (List.replicate m its.toArray)=(List.replicate m its).flatten.toArray:=λm=>by
   have:=zh6 its m [];rw [wJ] at this;exact this
  rw [f0]
  cases its with
  |nil=>simp
  |cons a r'=>rw [jQ (by simp)]
 refine wpAny_binaryOp_repeat_ref (T:="list") (U:="int") (by decide) ⟨_,e,rfl⟩ (λs'=>typeIs_int s' k t) noFill_list_mul F.fills_int_mul F.slot_int_rmul repeat_list F.slot_int_index.lookup
  (call_meets F.slot_int_rmul (typeIs_int s k t) F.entry_int_rmul (F.args_int_rmul_2 _ _) (int___rmul___int_list k t l its.toArray n)
   ⟨e,rfl,⟨_,e,rfl⟩,call_meets F.slot_list_mul ⟨_,e,rfl⟩ F.entry_list_mul (F.args_list_mul_2 _ _) (AutoListH.list___mul___list_int_3 l its.toArray n k t hfit hcap hlong) ⟨e,?_⟩⟩)
 rw [hnew];exact ⟨.ref _,_,I.lnew (t':=s.toks) (r.rep k.toNat) (by rw [zsp,Nat.mul_comm];exact hz),rfl,q _ I.fresh⟩
end
section
variable {prog:Program} {w:World} {A:Around} {E:Value->Shared->Prop} {s:Shared}
set_option maxRecDepth 100000 in
end
section
variable {X:Cx}
end
end L2
namespace Att
open PySem PySem.W PySem.Calls PyProof.Rows
theorem zdV {P:Params} {h:Heap}:∀(ns:List Int) (vs:List Value),WellAll P h vs (ns.map WData.int)->IntsAre vs ns:=by
 intro ns
 induction ns with
 |nil=>
  intro vs w;rw [wB] at w;cases w;exact .nil
 |cons n ns ih=>
  intro vs w;rw [jq] at w
  cases w with
  |cons a b=>
   cases a;exact .cons _ _ (ih _ b)
theorem zmG {l:OpenLaw} {n:Nat} (hn:l.most=some n) {P:Params} {h:Heap} {args:List WData} {vals:List Value}
 (hpre:l.row.toRowW.claim.pre args=true) (hwl:WellAll P h vals args):
 ∃a vs ns,vals=[Value.ref a]/\args=[WData.list (ns.map WData.int)]/\h.get? a=some {cls:= .type "list",data:= .seq vs.toArray}/\IntsAre vs ns/\ns.length<=n:=by
 have hsh:WShape.hasAll [] args [.list .int]=true:=(pre_splitW hpre).1;have hc:l.pre.holds [] {args:=args}=true:=(pre_splitW hpre).2;obtain ⟨d,r,rfl,h1,h2⟩:=hasAllW_cons hsh;obtain rfl:=hasAllW_nil h2;obtain ⟨xs,rfl,h3⟩:=hasW_list h1;obtain ⟨ns,rfl⟩:=items_int h3
 have hlen:ns.length<=n:=by
  unfold OpenLaw.pre at hc
  have h4:(WTm.not (.lt (.lit (.int (n:Int))) (.len (.arg 0)))).holds [] {args:=[.list (ns.map .int)]}=true:=by
   have h4:=(holds_andW hc).1;rw [hn] at h4;exact h4
  have h5:=condW_of h4 (w_not (w_lt w_lit (w_len_list (w_arg rfl))));rw [ja] at h5;refine Nat.le_of_not_lt λq=>?_;have q':(n:Int)<((ns.length:Nat):Int):=by omega
  first
   |(rw [qc q'] at h5;exact absurd h5 (by decide))
   |(simp at h5;omega)
 cases hwl with
 |cons w1 w2=>
  cases w2
  cases w1 with
  |list ho hall=>exact ⟨_,_,ns,rfl,rfl,ho,zdV ns _ hall,hlen⟩
theorem zne (l:OpenLaw) (args:List WData):l.row.toRowW.claim.post args (.bool true) args=true:=
 postW_of (r:=l.row.toRowW) (X:=(true==true))
  (show WShape.has [] (.bool true) .bool=true by first|rfl|decide|simp [WShape.has,WShape.arms,WShape.armsAll])
  (show (WTm.eq .res (.lit (.bool true))).value [] {args:=args,res:=some (.bool true),after:=args}=some (.bool (true==true)) from w_eq_bool (w_res rfl) w_lit) rfl
theorem attach_call {l:OpenLaw} {n:Nat} {q:Program} {loose:List Str} {XP:(Str->Option Value)->Heap->Prop} {YP:World->Heap->Prop} {d:DefRec}
 (hn:l.most=some n) (hdf:d.params.defaults=[])
 (call:∀(w:World) (s₀ s₁:Shared) (mg mb:Str->Option Value) (fa:Addr) (o:Obj) (pm cd doc:Value) (a:Addr) (vs:List Value) (ns:List Int),
  Ground q loose [] XP w s₀ mg mb s₁.heap->YP w s₁.heap->
  s₁.heap.get? fa=some o->o.data= .func (docDef d.name d.params d.body d.scope pm cd doc)->s₁.heap.CodeRec cd d.name->mg d.name=some (.ref fa)->
  s₁.heap.get? a=some {cls:= .type "list",data:= .seq vs.toArray}->IntsAre vs ns->ns.length<=n->s₁.gens=#[]->
  codeAny (model l.prog w) callerA (.call (.ref fa) ⟨[.ref a],[]⟩) (λr s'=>r= .ok (.ret (.bool true))/\OldK s₁.heap s'.heap/\s'.os=s₁.os/\AllBare s'.gens) s₁):
 WalkO q loose XP YP l.row.toRowW d [] (λf vs=>PySem.call f vs):=by
 intro w s₀ s₁ mg mb G Y fa o pm cd doc dV kV ho hd hcd hD hmg hg args vals as hpre hlay hrd hwl hlo;obtain rfl:dV= .none:=Dflts.none hD hdf;obtain rfl:kV= .none:=Dflts.noKw hD;obtain ⟨a,vs,ns,rfl,rfl,hobj,hints,hlen⟩:=zmG hn hpre hwl;refine enter_call (Qi (call w s₀ s₁ mg mb fa o pm cd doc a vs ns G Y ho (fd_plain hd) hcd hmg hobj hints hlen hg) λr s' hq=>?_);obtain ⟨rfl,h2,h3,h4⟩:=hq;exact ⟨.inl ⟨.bool true, .bool true,[],rfl,λ_=>rfl, .bool true,zne l _,λ_=>⟨List.Pairwise.nil,λ_ hm=>(nomatch hm)⟩⟩,h2,h3,h4⟩
section
variable {prog:Program} {w:World} {A:Around} {E:Value->Shared->Prop} {s:Shared} {K:Frag}
def ledger (h:Heap) (L d:Addr):List (Addr×Obj):=(List.range h.objs.size).filterMap λa=>if a=L\/a=d then none else (h.get? a).map λo=>(a,o)
end
end Att
namespace L2
open PySem PySem.Spec PyProof.Rows
theorem zhk:∀{vs:List Value} {ns:List Int},IntsAre vs ns->Zw (ns.map V.int) vs
 |_,_, .nil=> .nil
 |_,_, .cons n t h=> .cons ⟨t,rfl⟩ (zhk h)
def Only (H:Hp):Prop:=∀b,H b=none\/∃o xs,H b=some (.frz o (.lst xs))
theorem zp0 {P:Program} {w:World} {K:PySem.W.Frag} {mg mb:Str->Option Value} {CX:CXT} {k:Nat} {fa a:Addr} {fd:FuncData} {x:Str} {sp:Sp} {s₁:Shared} {vs:List Value} {ns:List Int}
 (KX:K.In s₁.heap) (hns:s₁.heap.Ns mainGlobals mg) (hb:s₁.heap.Ns builtinsNs mb) (hbb:∀x:Str,x≠"__name__"->mb x=bootBuiltins x) (hlim:s₁.heap.NoLimit) (hg:s₁.gens=#[])
 (ha:s₁.heap.get? a=some {cls:= .type "list",data:= .seq vs.toArray}) (hi:IntsAre vs ns) (hl:ns.length<=sizeLine) (hr:Room k callerA)
 (F:∀base:Heap,K.In base->base.Ns mainGlobals mg->FnOk P w K mg base CX k fa fd [x] sp) (hbind:∀(s:Shared) (u:Value),BindsTo s fd ⟨[u],[]⟩ [(x,u)])
 (hsp:∀H:Hp,Only H->SqL K H a (ns.map V.int)->sp [.ref a] H (λv _=>v= .bl true) λ_ _ _=>False)
 (hCX:∀H e s',CX [] H s₁ (λ_ _ _=>False) e s'->False):
 codeAny (model P w) callerA (.call (.ref fa) ⟨[.ref a],[]⟩) (λr s'=>r= .ok (.ret (.bool true))/\OldK s₁.heap s'.heap/\s'.os=s₁.os/\AllBare s'.gens) s₁:=by
 have rv:=zhk hi;have lenV:=hi.length
 have core:∀H:Hp,Only H->SqL K H a (ns.map V.int)->HOk P w H s₁.heap->(∀b,H b≠none->b=a)->(H a≠none->K.lookup a=none)->
  codeAny (model P w) callerA (.call (.ref fa) ⟨[.ref a],[]⟩) (λr s'=>r= .ok (.ret (.bool true))/\OldK s₁.heap s'.heap/\s'.os=s₁.os/\AllBare s'.gens) s₁:=by
  intro H hO hS hok hA hK;have base_of:∀{b:Addr} {o:Obj},s₁.heap.get? b=some o->H b=none->(zp9 s₁.heap H).get? b=some o:=λe n=>zp8 e n
  have noA:∀{b:Addr} {o:Obj} {es:Array DictEntry} {ep:Nat},s₁.heap.get? b=some o->o.data= .dict es ep->H b=none:=λ{b o es ep} e d=>by
   cases q:H b with
   |none=>rfl
   |some u=>
    have e':b=a:=hA b (by rw [q];simp);subst e';rw [ha] at e;cases e;have d':Data.seq vs.toArray _=Data.dict es ep:=d;cases d'
  have nsK:∀{b:Addr} {m:Str->Option Value},s₁.heap.Ns b m->(zp9 s₁.heap H).Ns b m:=λ{b m} ⟨o,es,ep,e,d,r⟩=>⟨o,es,ep,base_of e (noA e d),d,r⟩
  have hKb:K.In (zp9 s₁.heap H):=λb o e=>base_of (KX b o e) (by
   cases q:H b with
   |none=>rfl
   |some u=>
    have e':b=a:=hA b (by rw [q];simp);subst e'
    rw [hK (by rw [q];simp)] at e;cases e)
  have hM:Mod K mg (zp9 s₁.heap H):=⟨hKb,nsK hns,⟨mb,nsK hb,hbb⟩,let ⟨mc,h1,h2⟩:=hlim;⟨mc,nsK h1,h2⟩⟩;have e0:Env0 P w K mg (zp9 s₁.heap H) callerA [] s₁ H:=⟨rfl,hM,λb o e=>zsg e,Nat.le_of_eq (zn2 _ _),trivial,λb hb=>absurd (show b∈([]:List Addr) from hb) (by simp),hok, .of_eq hg⟩;refine Qi ((F _ hKb (nsK hns)).run callerA [] s₁ H ⟨[.ref a],[]⟩ [.ref a] [.ref a] _ _ hr e0 (hbind s₁ (.ref a)) (.cons rfl .nil) (hsp H hO hS)) λr s' h=>?_
  cases r with
  |error e=>exact (hCX H e s' h).elim
  |ok fl=>
   cases fl with
   |next=>exact False.elim h
   |brk=>exact False.elim h
   |cont=>exact False.elim h
   |ret u=>
    obtain ⟨v,H',os,bare,un,hok',r',q⟩:=h;have q':v= .bl true:=q;subst q';obtain rfl:u=Value.bool true:=r';refine ⟨rfl,OldK.of_keep λb o e=>?_,os,bare⟩
    cases q:H b with
    |none=>exact un.keep b o e q (by intro z;exact absurd (show b∈([]:List Addr) from z) (by simp)) (by simp)
    |some u=>
     rcases hO b with z|⟨ob,xs,z⟩
     ·rw [q] at z;cases z
     ·have z2:=un.frzs b ob _ z;obtain ⟨e1,_⟩:=hok b _ z;obtain ⟨e2,_⟩:=hok' b _ z2;rw [e] at e1;cases e1;exact e2
 cases hk:K.lookup a with
 |some o=>
  have e:=KX a o hk;rw [ha] at e;cases e;refine core (λ_=>none) (λ_=> .inl rfl) (.inr ⟨_,vs.toArray,_,hk,rfl,rfl,rfl,by rw [jH,lenV];exact hl,by simpa using rv⟩) (λb u z=>by have z':(none:Option HO)=some u:=z;cases z') (λb z=>absurd rfl z) λz=>absurd rfl z
 |none=>
  refine core (λb=>if b=a then some (.frz {cls:= .type "list",data:= .seq vs.toArray} (.lst (ns.map V.int))) else none) (λb=>?_) (.inl (.inr ⟨{cls:= .type "list",data:= .seq vs.toArray},jK rfl⟩)) (λb u z=>?_) (λb z=>?_) λ_=>hk
  ·by_cases hb:b=a
   ·exact .inr ⟨_,_,jK hb⟩
   ·exact .inl (jQ hb)
  ·by_cases hb:b=a
   ·have z':=(jK hb).symm.trans z;cases z';subst hb;exact ⟨ha,by rw [ja];exact hl,vs,_,rv,ha⟩
   ·have z':=(jQ hb).symm.trans z;cases z'
  ·by_cases hb:b=a
   ·exact hb
   ·exact absurd (jQ hb) z
end L2
namespace L2
open PySem PySem.Spec PyProof.Rows
theorem zq8 {l:PySem.W.OpenLaw} {n k:Nat} {q:Program} {loose:List Str} {XP:(Str->Option Value)->Heap->Prop} {YP:World->Heap->Prop} {d:DefRec} {K:Params->PySem.W.Frag} {CX:World->CXT} {sp:World->Sp} {x:Str}
 (hn:l.most=some n) (hn2:n<=sizeLine) (hdf:d.params.defaults=[]) (hr:Room k callerA)
 (hY:∀(w:World) (h:Heap),YP w h->(K w.params).In h)
 (F:∀(w:World) (mg:Str->Option Value) (fa:Addr) (h:Heap),(K w.params).In h->h.Ns mainGlobals mg->mg d.name=some (.ref fa)->
  ∃fd:FuncData,(∀(s:Shared) (u:Value),BindsTo s fd ⟨[u],[]⟩ [(x,u)])/\
   ∀base:Heap,(K w.params).In base->base.Ns mainGlobals mg->FnOk l.prog w (K w.params) mg base (CX w) k fa fd [x] (sp w))
 (hsp:∀(w:World) (H:Hp) (a:Addr) (ns:List Int),ns.length<=n->Only H->SqL (K w.params) H a (ns.map V.int)->sp w [.ref a] H (λv _=>v= .bl true) λ_ _ _=>False)
 (hCX:∀(w:World) (H:Hp) (s:Shared) (e:Value) (s':Shared),CX w [] H s (λ_ _ _=>False) e s'->False):
 PySem.W.WalkO q loose XP YP l.row.toRowW d [] (λf vs=>PySem.call f vs):=by
 refine Att.attach_call hn hdf λw s₀ s₁ mg mb fa o pm cd doc a vs ns G Y ho hd hcd hmg hobj hints hlen hg=>?_;have KX:=hY w _ Y;obtain ⟨fd,hb,hF⟩:=F w mg fa _ KX G.T.g hmg;exact zp0 KX G.T.g G.T.b G.T.builtins G.T.nolimit hg hobj hints (jS hlen hn2) hr hF hb (λH hO hS=>hsp w H a ns hlen hO hS) λH e s'=>hCX w H s₁ e s'
end L2
namespace L2
open PySem PySem.Spec PyProof.Rows
def YC (s:Stmt) (j:Nat):Stmt:=match s with
 | .ClassDef _ _ _ body _ _ _ _ _ _ _=>body.getD j (.Pass ⟨0,0,0,0⟩)
 |_=> .Pass ⟨0,0,0,0⟩
def YU (s:Stmt):Arguments:=match s with
 | .FunctionDef _ a _ _ _ _ _ _ _ _=>a
 |_=>{posonlyargs:=[],args:=[],vararg:=none,kwonlyargs:=[],kw_defaults:=[],kwarg:=none,defaults:=[]}
def YD (s:Stmt):List Stmt:=match s with
 | .FunctionDef _ _ b _ _ _ _ _ _ _=>b
 |_=>[]
def zB (s:Stmt):Scope:=match s with
 | .FunctionDef _ _ _ _ _ _ sc _ _ _=>sc
 |_=>{kind:= .function,names:=[],isGenerator:=false,isCoroutine:=false}
abbrev CX0:CXT:=λ_ _ _ _ _ _=>False
abbrev E0:XK:=λ_ _ _=>False
theorem YS {X:Cx}:UB CX0 X E0:=λ_ _ _ _ _ _ _ h=>h.elim
structure Fun (K:PySem.W.Frag) (x qual:Str) (st:Stmt) (f:Addr) (fd:FuncData):Prop where
 ex:∃(oc:Value) (od:Option Addr) (kV doc pm:Value) (an:Option Addr) (cdv ct:Value) (osl:Array (Option Value)),
  fd=PySem.W.fnOf x qual (YU st) (YD st) (zB st) .none kV doc pm an cdv ct/\K.lookup f=some ⟨oc,od, .func fd,osl⟩/\PySem.W.codeIn K cdv qual=true
 kp:PySem.W.keepIn K (.ref f)=true
section
variable {P:Program} {w:World} {K:PySem.W.Frag} {mg:Str->Option Value} {base:Heap}
theorem Fun.ok {x qual:Str} {st:Stmt} {f:Addr} {fd:FuncData} {N ps:List Str} {k:Nat} {sp:Sp} (F:Fun K x qual st f fd) (S:FnScope N ps (zB st)) (len:∀vs H Q E,sp vs H Q E->vs.length=ps.length)
 (hbody:∀(cdv:Value) (A:Around) (outer:List Env) (s:Shared) (H:Hp) (vs:List V) (Q:VK) (E:XK),Room k (A.deeper (envOfC qual (zB st) s.heap.objs.size f cdv))->sp vs H Q E->
  ∃t,PSs (zsY CX0 P w K mg base N qual (zB st) f cdv A outer s H E).nox (YD st) t/\t {nx:=λ_ H'=>Q .non H',rt:=Q} (zhp N vs) H):FnOk P w K mg base CX0 (k+1) f fd ps sp:=by
 obtain ⟨oc,od,kV,doc,pm,an,cdv,ct,osl,rfl,lk,hcd⟩:=F.ex;refine fn_of lk hcd S len λA outer s H vs Q E hr hsp=>?_;obtain ⟨t,h,q⟩:=hbody cdv A outer s H vs Q E hr hsp;exact ⟨t,h.nox,q⟩
theorem Fun.binds {x qual:Str} {st:Stmt} {f:Addr} {fd:FuncData} {ps:List Str} (F:Fun K x qual st f fd)
 (h:∀(kV doc pm:Value) (an:Option Addr) (cdv ct:Value) (us:List Value),us.length=ps.length->bindArgs (PySem.W.fnOf x qual (YU st) (YD st) (zB st) .none kV doc pm an cdv ct) ⟨us,[]⟩=pure (ps.zip us)):Zg K fd ps []:=by
 obtain ⟨oc,od,kV,doc,pm,an,cdv,ct,osl,rfl,lk,hcd⟩:=F.ex;exact .all (h kV doc pm an cdv ct)
theorem zh5 {x qual:Str} {st:Stmt} {f:Addr} {oc:Value} {od an:Option Addr} {osl:Array (Option Value)} {kV doc pm cdv ct:Value} (l:K.lookup f=some ⟨oc,od, .func (PySem.W.fnOf x qual (YU st) (YD st) (zB st) .none kV doc pm an cdv ct),osl⟩)
 (c:PySem.W.codeIn K cdv qual=true) (k:PySem.W.keepIn K (.ref f)=true):Fun K x qual st f (PySem.W.fnOf x qual (YU st) (YD st) (zB st) .none kV doc pm an cdv ct):=⟨⟨oc,od,kV,doc,pm,an,cdv,ct,osl,rfl,l,c⟩,k⟩
end
theorem Vq {n:Nat} (h:n<=1000):n<sizeLine:=Nat.lt_of_le_of_lt h (by decide)
section
variable {X:Cx}
theorem pv (i:Nat) {x:Str} {pos:Pos} (hN:X.N[i]? =some x:=by rfl) (hv:Vis X.env.scope x:=by first|exact Or.inl rfl|exact Or.inr (Or.inl rfl)|exact Or.inr (Or.inr rfl)) (hd:(x==("__debug__":Str))=false:=by decide)
 (hcd:(x==("__classdict__":Str))=false:=by decide):PE X (.Name x pos) (tVar i):=pe_var hN hv hd hcd
end
theorem iteF {A B:Prop} (h:B):if false=true then A else B:=by
 rw [jQ jI];exact h
theorem iteT {A B:Prop} (h:A):if true=true then A else B:=by
 rw [jK rfl];exact h
theorem zp1 {c A B:Prop} [Decidable c] (hc:c) (h:B):if (!decide c)=true then A else B:=by
 rw [qc hc];exact iteF h
def yt (H H':Hp):Prop:=∀b o,H b=some o->H' b=some o
theorem yt.refl (H:Hp):yt H H:=λ_ _ h=>h
theorem yt.trans {H H1 H2:Hp} (a:yt H H1) (b:yt H1 H2):yt H H2:=λc o h=>b c o (a c o h)
theorem yt.free {H H':Hp} (e:yt H H') {l:Addr} (h:H' l=Option.none):H l=Option.none:=by
 cases q:H l with
 |none=>rfl
 |some o=>
  rw [e l o q] at h;cases h
theorem yt.seq {K:PySem.W.Frag} {H H':Hp} {a:Addr} {xs:List V} (e:yt H H') (h:SqL K H a xs):SqL K H' a xs:=by
 rcases h with (h|⟨o,h⟩)|h
 ·exact .inl (.inl (e _ _ h))
 ·exact .inl (.inr ⟨o,e _ _ h⟩)
 ·exact .inr h
end L2
namespace L2
open PySem PySem.W PySem.Spec PySem.Calls PyProof.Rows
section
variable {X:Cx} {e v1 v2:Expr} {es rest:List Expr} {te:TE} {pos p2:Pos}
theorem XJ {CX:CXT} {k:Nat} {f C:Addr} {fd:FuncData} {ps:List Str} {sp:Sp} {E:XK} {c m:Str} {p apos:Pos} {t:TA} {pl:Sem Bool} (hg:Gl X c) (hm:X.mg c=some (.ref C))
 (hs:specialIn X.K (.ref C) "__getattribute__"=some (some (.builtin "type.__getattribute__"))) (hrd:readsIn X.K C (.type "type")=true) (hf:findCls X.K (.ref C) (.type "type") m=some (.val (.ref f)))
 (F:FnOk X.prog X.w X.K X.mg X.base CX k f fd ps sp) (hr:Room k X.A) (hk:PySem.W.keepIn X.K (.ref f)=true) (hb:Zg X.K fd ps []) (hx:UB CX X E) (ha:PA X (e::es) t)
 (hd:(c==("__debug__":Str))=false:=by decide) (hst:starEach (e::es) X.env=(false,eval e X.env)::starEach es X.env:=by rfl) (hpl:(backTo pos (starEach es X.env)).any (·.1)=false:=by rfl)
 (ht:eval (.Call (.Attribute (.Name c p) m apos) (e::es) [] pos) X.env=(do
  let ov<-eval (.Name c p) X.env
  standAt apos.atName
  let (f,first)<-holding [ov] (getMethod ov m pl)
  callWith pos f first (backTo pos (starEach (e::es) X.env)) (backToKw pos (keywordEach [] X.env))):=by rfl):
 PE X (.Call (.Attribute (.Name c p) m apos) (e::es) [] pos) (zk4 sp [] E t):=by
 intro pins s σ H Q I h;refine PySem.W.methodCall_KW (pl:=pl) (zdS I hg hm ?_ hd) ht;refine method_cls I.kIn hs (cls_value I.kIn hrd hf rfl ?_);have I1:=I.tok (s.toks+1);refine JX (first:=[]) (h₀:=X.base) I.ok.mod.kin hk (thn (ha pos pins _ σ H _ I1 h) λus s2 ⟨vs,H2,I2,r,q2⟩=>⟨I2.kIn,?_⟩) hst hpl;exact zj9 (us:=us) (vs:=vs) F hr hb .nil hx I2 r q2
def zqC (K:PySem.W.Frag) (m:Str) (f:Addr) (sp:Sp) (E:XK) (ta:TE):TE:=λσ H Q=>ta σ H λx H1=>∃a C dx fs,x= .ref a/\H1 a=some (.ins C dx fs)/\Cls K C/\Meth K C m f/\fs.lookup m=none/\sp [x] H1 Q E
theorem Ue {CX:CXT} {k:Nat} {f:Addr} {fd:FuncData} {ps:List Str} {sp:Sp} {E:XK} {m:Str} {apos:Pos} {pl:Sem Bool} (he:PE X e te) (F:FnOk X.prog X.w X.K X.mg X.base CX k f fd ps sp) (hr:Room k X.A) (hb:Zg X.K fd ps []) (hx:UB CX X E)
 (ht:eval (.Call (.Attribute e m apos) [] [] pos) X.env=(do
  let ov<-eval e X.env
  standAt apos.atName
  let (f,first)<-holding [ov] (getMethod ov m pl)
  callWith pos f first (backTo pos (starEach [] X.env)) (backToKw pos (keywordEach [] X.env))):=by rfl):
 PE X (.Call (.Attribute e m apos) [] [] pos) (zqC X.K m f sp E te):=by
 intro pins s σ H Q I h;refine PySem.W.methodCall_KW (pl:=pl) (thn (he pins s σ H _ I h) λu s1 ⟨x,H1,I1,rx,a,C,dx,fs,ex,ea,c,k,l,q⟩=>?_) ht;subst ex;cases (show u=Value.ref a from rx);refine zfC I1 ea c k l ?_;exact PySem.W.callWith_K0 (first:=[.ref a]) I1.kIn k.kp (zj9 (us:=[.ref a]) (vs:=[.ref a]) F hr hb .nil hx I1 (.cons rfl .nil) q)
def rIsC (K:PySem.W.Frag):List V->Hp->VK->Prop:=λxs H Q=>∃(x:V) (c:Addr) (t:Value) (b:Bool),xs=[x, .ref c]/\TyOf K H x t/\PySem.W.kitOne K t (.ref c)=some b/\Q (.bl b) H
theorem zqe:Vm X (.builtin "isinstance") (rIsC X.K):=by
 intro pins s σ H xs us Q I r h;obtain ⟨x,c,t,b,rfl,ty,e,q⟩:=h;obtain ⟨u,w',rfl,r1,r2⟩:=zoQ r;cases (show w'=Value.ref c from r2);exact zh4 I r1 ty e λtk=>⟨.bl b,H,I.tok tk,rfl,q⟩
end
end L2
namespace S
open PySem PySem.Spec PyProof.Rows L2
def Sz (n:Nat) (x:Int):Prop:=x.natAbs<2 ^ n
theorem Sz.mono {m n:Nat} {x:Int} (h:Sz m x) (l:m<=n):Sz n x:=jY h (Nat.pow_le_pow_right (by decide) l)
theorem Sz.bits {n:Nat} {x:Int} (h:Sz n x):Builtin.Int.intBits x<=n:=intBits_le_iff.mpr h
theorem Sz.of {n:Nat} {x:Int} (h:Builtin.Int.intBits x<=n):Sz n x:=intBits_le_iff.mp h
theorem Sz.mulOk {m n:Nat} {x y:Int} (h:Sz m x) (g:Sz n y) (l:m+n<=134217728):IntMulOk x y:=IntMulOk.of_le h.bits g.bits l
theorem Sz.mul {m n:Nat} {x y:Int} (h:Sz m x) (g:Sz n y):Sz (m+n) (x*y):=Sz.of (intBits_mul_le h.bits g.bits)
theorem Sz.add {n:Nat} {x y:Int} (h:Sz n x) (g:Sz n y):Sz (n+1) (x+y):=Sz.of (jS (intBits_add_le h.bits g.bits) (by omega))
theorem Sz.sub {n:Nat} {x y:Int} (h:Sz n x) (g:Sz n y):Sz (n+1) (x - y):=Sz.of (jS (intBits_sub_le h.bits g.bits) (by omega))
theorem Sz.le {n:Nat} {x y:Int} (h:Sz n x) (l:y.natAbs<=x.natAbs):Sz n y:=Nat.lt_of_le_of_lt l h
theorem Sz.log {n:Nat} {x:Int} (h:Sz n x) (l:n<=8999):x.natAbs.log2<9000:=by
 by_cases h0:x.natAbs=0
 ·rw [h0];decide+kernel
 ·have:=(Nat.log2_lt h0).mpr (Sz.mono h l);omega
section
variable {X:Cx}
theorem yn:OpR X (binaryOp .Mult) (rI IntMulOk λi j=> .int (i*j)):=opI λ_ _ _ _ _ _ _ hc q=>mul_int q hc
def CDv (_ j:Int):Prop:=j≠0/\Sz 8999 j
theorem WW:OpR X (binaryOp .FloorDiv) (rI CDv λi j=> .int (i.fdiv j)):=opI λi j _ _ _ _ _ hc q=>
 floordiv_int hc.1 q (.inl (PyProof.noPylong_of_log2 (hc.2.log (jy _))))
end
mutual
def Is (H:Hp):PyData->V->Prop
 | .none,v=>v= .non
 | .bool b,v=>v= .bl b
 | .int i,v=>v= .int i
 | .str x,v=>v= .str x
 | .list xs,v=>∃p vs,v= .ref p/\H p=some (.lst vs)/\zX H xs vs
 | .tuple xs,v=>∃p vs,v= .ref p/\H p=some (.tup vs)/\zX H xs vs
 | .dict kvs,v=>zoG H kvs v
def zX (H:Hp):List PyData->List V->Prop
 |[],vs=>vs=[]
 |x::xs,vs=>∃v r,vs=v::r/\Is H x v/\zX H xs r
def zoG (H:Hp):List (PyData×PyData)->V->Prop
 |[(c,x)],v=>∃(p C dx:Addr) (w:V),c= .int ((C:Nat):Int)/\v= .ref p/\H p=some (.ins C dx [("form",w)])/\Is H x w
 |_,_=>False
end
mutual
theorem Is.mono {H H':Hp} (e:yt H H'):∀(d:PyData) (v:V),Is H d v->Is H' d v
 | .none,v,h=>by simpa only [Is] using h
 | .bool b,v,h=>by simpa only [Is] using h
 | .int i,v,h=>by simpa only [Is] using h
 | .str x,v,h=>by simpa only [Is] using h
 | .list xs,v,h=>by
   rw [Is] at h⊢;obtain ⟨p,vs,e1,e2,e3⟩:=h;exact ⟨p,vs,e1,e _ _ e2,zX.mono e xs vs e3⟩
 | .tuple xs,v,h=>by
   rw [Is] at h⊢;obtain ⟨p,vs,e1,e2,e3⟩:=h;exact ⟨p,vs,e1,e _ _ e2,zX.mono e xs vs e3⟩
 | .dict kvs,v,h=>by
   rw [Is] at h⊢;exact zoG.mono e kvs v h
theorem zoG.mono {H H':Hp} (e:yt H H'):∀(d:List (PyData×PyData)) (v:V),zoG H d v->zoG H' d v
 |[],v,h=>by rw [zoG] at h;exact h.elim;simp
 |[(c,x)],v,h=>by
  rw [zoG] at h⊢;obtain ⟨p,C,dx,w,e1,e2,e3,e4⟩:=h;exact ⟨p,C,dx,w,e1,e2,e _ _ e3,Is.mono e x w e4⟩
 |_::_::_,v,h=>by rw [zoG] at h;exact h.elim;simp
theorem zX.mono {H H':Hp} (e:yt H H'):∀(d:List PyData) (v:List V),zX H d v->zX H' d v
 |[],v,h=>by rw [zX] at h⊢;exact h
 |x::xs,v,h=>by
  rw [zX] at h⊢;obtain ⟨v,r,e1,e2,e3⟩:=h;exact ⟨v,r,e1,Is.mono e x v e2,zX.mono e xs r e3⟩
end
theorem yt.new {H:Hp} {p:Addr} (h:H p=none) (o:HO):yt H (upd H p o):=λb u q=>by rw [yE (yL q h)];exact q
section
variable {X:Cx} {pins:List (Addr×Obj)} {σ:L2.St} {H:Hp} {s:Shared}
mutual
theorem Is.reads (I:Inv X pins σ H s):∀(d:PyData) (v:V) (u:Value),d.canLay0=true->Is H d v->YZ v u->∃as,Reads s.heap u d as
 | .none,v,u,lay,h,r=>by rw [Is] at h;subst h;cases (show u=Value.none from r);exact ⟨_, .none⟩
 | .bool b,v,u,lay,h,r=>by rw [Is] at h;subst h;cases (show u=Value.bool b from r);exact ⟨_, .bool b⟩
 | .int i,v,u,lay,h,r=>by rw [Is] at h;subst h;obtain ⟨t,rfl⟩:=(show ∃t,u=Value.int i t from r);exact ⟨_, .int i t⟩
 | .str x,v,u,lay,h,r=>by rw [Is] at h;subst h;obtain ⟨t,rfl⟩:=(show ∃t,u=Value.str x t from r);exact ⟨_, .str x t⟩
 | .list xs,v,u,lay,h,r=>by
   rw [Is] at h;obtain ⟨p,vs,e1,e2,e3⟩:=h;subst e1;cases (show u=Value.ref p from r);obtain ⟨_,its,n,hv,hp⟩:=(show Xi X.prog X.w H s.heap p (.lst vs) from I.hok p _ e2);obtain ⟨as,q⟩:=zX.reads I xs vs its (by rw [PyData.canLay0] at lay;exact lay) e3 hv;exact ⟨_, .list hp rfl rfl (by simpa using q)⟩
 | .tuple xs,v,u,lay,h,r=>by
   rw [Is] at h;obtain ⟨p,vs,e1,e2,e3⟩:=h;subst e1;cases (show u=Value.ref p from r);obtain ⟨_,its,hv,hp⟩:=(show Xi X.prog X.w H s.heap p (.tup vs) from I.hok p _ e2);obtain ⟨o,h1,h2,n,h3⟩:=hp;obtain ⟨as,q⟩:=zX.reads I xs vs its (by rw [PyData.canLay0] at lay;exact lay) e3 hv;exact ⟨_, .tuple h1 h2 h3 (by simpa using q)⟩
 | .dict _,v,u,lay,h,r=>by rw [PyData.canLay0] at lay;cases lay
theorem zX.reads (I:Inv X pins σ H s):∀(d:List PyData) (v:List V) (u:List Value),PyData.canLayAll0 d=true->zX H d v->Zw v u->∃as,ReadsAll s.heap u d as
 |[],v,u,lay,h,r=>by rw [zX] at h;subst h;cases Zw.zero r;exact ⟨_, .nil⟩
 |x::xs,v,u,lay,h,r=>by
  rw [PyData.canLayAll0,wC] at lay;rw [zX] at h;obtain ⟨v,w,e1,e2,e3⟩:=h;subst e1
  cases r with
  |cons r1 r2=>
   obtain ⟨as,q⟩:=Is.reads I x v _ lay.1 e2 r1;obtain ⟨bs,q2⟩:=zX.reads I xs w _ lay.2 e3 r2;exact ⟨_, .cons q q2⟩
end
end
def rEqD:R2:=λx y H Q=>∃d e,Is H d x/\Is H e y/\SeqAt.shaped d=true/\SeqAt.shaped e=true/\Q (.bl (PyData.eqv d e)) H
def rNeD:R2:=λx y H Q=>∃d e,Is H d x/\Is H e y/\SeqAt.shaped d=true/\SeqAt.shaped e=true/\Q (.bl (!PyData.eqv d e)) H
section
variable {X:Cx}
theorem op_eqD (hu:X.A.units+64<cLine):OpR X (compareOp .Eq) rEqD:=by
 intro pins s σ H x y v u Q I rx ry h;obtain ⟨d,e,h1,h2,h3,h4,q⟩:=h;obtain ⟨as,r1⟩:=Is.reads I d x v (Js h3) h1 rx;obtain ⟨bs,r2⟩:=Is.reads I e y u (Js h4) h2 ry;exact eq_dataH r1 r2 h3 h4 hu ⟨.bl _,H,I,rfl,q⟩
theorem op_neD (hu:X.A.units+64<cLine):OpR X (compareOp .NotEq) rNeD:=by
 intro pins s σ H x y v u Q I rx ry h;obtain ⟨d,e,h1,h2,h3,h4,q⟩:=h;obtain ⟨as,r1⟩:=Is.reads I d x v (Js h3) h1 rx;obtain ⟨bs,r2⟩:=Is.reads I e y u (Js h4) h2 ry;exact ne_dataH r1 r2 h3 h4 hu ⟨.bl _,H,I,rfl,q⟩
end
def rIsi (K:PySem.W.Frag):List V->Hp->VK->Prop:=λxs H Q=>∃(x:V) (T:String) (t:Value) (b:Bool),xs=[x, .ty T]/\TyOf K H x t/\PySem.W.kitOne K t (.type T)=some b/\Q (.bl b) H
section
variable {X:Cx}
theorem zcU:Vm X (.builtin "isinstance") (rIsi X.K):=by
 intro pins s σ H xs us Q I r h;obtain ⟨x,T,t,b,rfl,ty,e,q⟩:=h;obtain ⟨u,w',rfl,r1,r2⟩:=zoQ r;cases (show w'=Value.type T from r2);exact zh4 I r1 ty e λtk=>⟨.bl b,H,I.tok tk,rfl,q⟩
end
structure Cal (P:Program) (w:World) (K:PySem.W.Frag) (mg:Str->Option Value) (base:Heap) (CX:CXT) (k:Nat) (x:Str) (ps:List Str) (sp:Sp):Prop where
 ex:∃(f:Addr) (fd:FuncData),FnOk P w K mg base CX k f fd ps sp/\mg x=some (.ref f)/\PySem.W.keepIn K (.ref f)=true/\Zg K fd ps []
section
variable {X:Cx} {CX:CXT} {k j:Nat} {ps:List Str} {sp:Sp} {E:XK} {x:Str} {p pos:Pos} {e:Expr} {es:List Expr} {t:TA}
theorem pe_cal (C:Cal X.prog X.w X.K X.mg X.base CX k x ps sp) (hr:Room j X.A) (hk:k<=j) (hx:UB CX X E) (hg:Gl X x)
 (ha:PA X (e::es) t) (hdb:(x==("__debug__":Str))=false:=by decide) (he:starEach (e::es) X.env=(false,eval e X.env)::starEach es X.env:=by rfl) (hpl:(backTo pos (starEach es X.env)).any (·.1)=false:=by rfl):
 PE X (.Call (.Name x p) (e::es) [] pos) (zk4 sp [] E t):=by
 obtain ⟨f,fd,F,hm,hk2,hb⟩:=C.ex;exact zr7 F (hr.mono hk) hg hm hk2 hb .nil hx ha hdb he hpl
end
theorem zJ {A:Around} {k:Nat} (hr:Room k A):A.units+64<cLine:=hr.units
def frD (q:Rat):PyData:= .tuple [.int q.num, .int (q.den:Int)]
def SzQ (n:Nat) (q:Rat):Prop:=Sz n q.num/\Sz n (q.den:Int)
theorem SzQ.mono {m n:Nat} {q:Rat} (h:SzQ m q) (l:m<=n):SzQ n q:=⟨h.1.mono l,h.2.mono l⟩
theorem den_pos (q:Rat):(0:Int)<(q.den:Int):=Int.natCast_pos.mpr q.den_pos
theorem SzQ.divInt {n:Nat} {a b:Int} (ha:Sz n a) (hb:Sz n b) (h0:b≠0):SzQ n (Rat.divInt a b):=by
 constructor
 ·refine ha.le ?_;rw [Rat.num_divInt,Int.natAbs_ediv_of_dvd ?_]
  ·rw [Int.natAbs_mul];have e:b.sign.natAbs=1:=Int.natAbs_sign_of_ne_zero h0;rw [e,Nat.one_mul];exact Nat.div_le_self _ _
  ·exact Int.dvd_trans (Int.gcd_dvd_right b a) (Int.dvd_mul_left _ _)
 ·refine hb.le ?_;rw [Rat.den_divInt,jQ h0];show b.natAbs / b.gcd a<=b.natAbs;exact Nat.div_le_self _ _
theorem ZG:bootBuiltins "len"=some (.builtin "len"):=by decide+kernel
theorem zor:bootBuiltins "abs"=some (.builtin "abs"):=by decide+kernel
theorem zif:bootBuiltins "min"=some (.builtin "min"):=by decide+kernel
theorem zq0:bootBuiltins "max"=some (.builtin "max"):=by decide+kernel
theorem Yg:bootBuiltins "isinstance"=some (.builtin "isinstance"):=by decide+kernel
theorem bt_int:bootBuiltins "int"=some (.type "int"):=by decide+kernel
theorem zsK:bootBuiltins "bool"=some (.type "bool"):=by decide+kernel
theorem Xe:bootBuiltins "tuple"=some (.type "tuple"):=by decide+kernel
theorem zsJ:bootBuiltins "list"=some (.type "list"):=by decide+kernel
theorem zig:bootBuiltins "enumerate"=some (.type "enumerate"):=by decide+kernel
theorem bt_zip:bootBuiltins "zip"=some (.type "zip"):=by decide+kernel
theorem zjz:bootBuiltins "reversed"=some (.type "reversed"):=by decide+kernel
theorem Vi:bootBuiltins "sum"=some (.builtin "sum"):=by decide+kernel
structure Bl (mg:Str->Option Value):Prop where
 len:mg "len"=none
 abs:mg "abs"=none
 min:mg "min"=none
 max:mg "max"=none
 isinstance:mg "isinstance"=none
 range:mg "range"=none
 int:mg "int"=none
 bool:mg "bool"=none
 tuple:mg "tuple"=none
 list:mg "list"=none
 enumerate:mg "enumerate"=none
 zip:mg "zip"=none
 reversed:mg "reversed"=none
 ValueError:mg "ValueError"=none
 sum:mg "sum"=none
 str:mg "str"=none
theorem zqW {c A B:Prop} [Decidable c] (h1:¬c->A) (h2:c->B):if (!decide c)=true then A else B:=by
 by_cases hc:c
 ·rw [qc hc];exact h2 hc
 ·rw [qm hc];exact h1 hc
theorem XL {c A B:Prop} [Decidable c] (h1:c->A) (h2:¬c->B):if decide c=true then A else B:=by
 by_cases hc:c
 ·rw [qc hc];exact h1 hc
 ·rw [qm hc];exact h2 hc
theorem zqt {ms:List Int} {k:Int} (h0:0<=k) (h:k<(ms.length:Int)):atI (ms.map V.int) k=some (.int (ms.getD k.toNat 0)):=by
 have hk:k.toNat<ms.length:=by omega
 have ek:k=((k.toNat:Nat):Int):=by omega
 have q:atI (ms.map V.int) ((k.toNat:Nat):Int)=some (.int (ms.getD k.toNat 0)):=xi (by rw [jh,jb hk,jm,jb hk];rfl);rwa [<-ek] at q
theorem zbB {a b:Int} (hb:0<b):(a.fdiv (Int.gcd a b:Nat)=(Rat.divInt a b).num)/\b.fdiv (Int.gcd a b:Nat)=((Rat.divInt a b).den:Int):=by
 have g0:(0:Int)<=((Int.gcd a b:Nat):Int):=Int.natCast_nonneg _;rw [qB _ g0,qB _ g0,Rat.num_divInt,Rat.den_divInt,jQ (by omega),Int.gcd_comm b a,Int.sign_eq_one_of_pos hb,Int.one_mul];refine ⟨rfl,?_⟩;have e:b=(b.natAbs:Int):=by omega
 rw [Int.natCast_ediv,<-e]
theorem znN {a b:Int} (hb:b<0):(a.fdiv (-((Int.gcd a b:Nat):Int))=(Rat.divInt a b).num)/\b.fdiv (-((Int.gcd a b:Nat):Int))=((Rat.divInt a b).den:Int):=by
 have h:=zbB (a:= -a) (b:= -b) (by omega);rw [Rat.neg_divInt_neg,Int.neg_gcd,Int.gcd_neg] at h;rw [<-h.1,<-h.2]
 constructor
 ·rw [<-Int.neg_fdiv_neg,Int.neg_neg]
 ·rw [<-Int.neg_fdiv_neg,Int.neg_neg]
theorem zjY {n:Nat} (h:1<=n) {x:Int} (h1: -2<x) (h2:x<2):Sz n x:=Sz.mono (show Sz 1 x by unfold Sz;omega) h
theorem zkA (a b:Int):Int.gcd b (a % b)=Int.gcd a b:=by
 have e:a % b=a - b*(a / b):=by have:=Int.mul_ediv_add_emod a b;omega
 rw [e,Int.gcd_sub_mul_left_right,Int.gcd_comm]
def xJ (cells:List (Str×Addr)):List (Str×NameKind)->List (Str×Addr)->List (Str×Addr)
 |[],acc=>acc
 |(n,k)::r,acc=>xJ cells r (if k== .free then (n,(cells.lookup n).getD 0)::acc else acc)
theorem WZ {scope:Scope} {env:Env} (h:∀y∈scope.names,y.2= .free->∃c,env.cells.lookup y.1=some c):closureFor scope env=pure (xJ env.cells scope.names []):=by
 have key:∀(names:List (Str×NameKind)) (acc:List (Str×Addr)),(∀y∈names,y.2= .free->∃c,env.cells.lookup y.1=some c)->
  (forIn names acc λx r=>match x with
   |(name,kind)=>if (kind==NameKind.free)=true then do
    let a<-cellOf env name
    pure (ForInStep.yield ((name,a)::r))
    else pure (ForInStep.yield r):Sem (List (Str×Addr)))=pure (xJ env.cells names acc):=by
  intro names
  induction names with
  |nil=>intro acc _;rfl
  |cons y r ih=>
   intro acc hy;obtain ⟨n,k⟩:=y;rw [List.forIn_cons,xJ];have hr:=λz hz=>hy z (jf _ hz)
   cases hk:k==NameKind.free with
   |false=>
    simp only [hk,JZ,if_false,pure_bind];exact ih acc hr
   |true=>
    obtain ⟨c,hc⟩:=hy (n,k) (jd ..) (by simpa using hk);have hc':cellOf env n=pure c:=by unfold cellOf;rw [hc]
    simp only [hk,if_true,hc',pure_bind,hc,Option.getD_some];exact ih _ hr
 simp only [closureFor];rw [key _ _ h];rfl
theorem Va {cells:List (Str×Addr)} {x:Str} {c:Addr}:∀{names:List (Str×NameKind)} {acc:List (Str×Addr)},(∀y∈names,y.2= .free->∃c,cells.lookup y.1=some c)->(∀c,acc.lookup x=some c->cells.lookup x=some c)->
 (xJ cells names acc).lookup x=some c->cells.lookup x=some c
 |[],acc,_,ha,h=>ha c h
 |(n,k)::r,acc,hn,ha,h=>by
  rw [xJ] at h;refine Va (λz hz=>hn z (jf _ hz)) (λc' hc'=>?_) h
  cases hk:k==NameKind.free with
  |false=>rw [hk] at hc';simp only [JZ,if_false] at hc';exact ha c' hc'
  |true=>
   rw [hk] at hc';simp only [if_true] at hc';obtain ⟨d,hd⟩:=hn (n,k) (jd ..) (by simpa using hk);rw [wN] at hc'
   cases hx:x==n with
   |true=>
    rw [hx] at hc';have e:x=n:=by simpa using hx
    subst e;have hd':cells.lookup x=some d:=hd;rw [hd'] at hc'⊢;exact hc'
   |false=>rw [hx] at hc';exact ha c' hc'
theorem WA {cells:List (Str×Addr)} {x:Str}:∀{names:List (Str×NameKind)} {acc:List (Str×Addr)},((x,NameKind.free)∈names\/(acc.lookup x).isSome=true)->((xJ cells names acc).lookup x).isSome=true
 |[],acc,h=>by
  rcases h with h|h
  ·exact absurd h (jp)
  ·exact h
 |(n,k)::r,acc,h=>by
  rw [xJ];refine WA ?_
  have keep:(acc.lookup x).isSome=true->((if (k==NameKind.free)=true then (n,(cells.lookup n).getD 0)::acc else acc).lookup x).isSome=true:=λz=>by
   split
   ·rw [wN];split<;>simp [z]
   ·exact z
  rcases h with h|h
  ·rcases jn.mp h with e|e
   ·cases e;refine .inr ?_
    simp
   ·exact .inl e
  ·exact .inr (keep h)
def Wz (X:Cx) (N:List Str) (scope:Scope) (C:Addr) (ex:List Addr) (s:Shared) (H:Hp):Cx where
 prog:=X.prog
 w:=X.w
 K:=X.K
 mg:=X.mg
 base:=X.base
 A:=X.A
 N:=N
 s₀:=s
 H₀:=H
 env:=compEnvC scope (xJ X.env.cells scope.names []) C X.env
 outer:=X.stack
 stack:=X.stack
 ex:=ex
 fn:=λ_=>false
 calm:=X.calm
 pn:=[]
 xe:=λ_ _=>False
def frσ (σ:L2.St) (fr:List Nat):L2.St:=fr.map λj=>(σ[j]?).getD none
structure CompOk (X:Cx) (N:List Str) (n:Nat) (fr:List Nat) (scope:Scope):Prop where
 kind:scope.kind= .function
 nd:N.Nodup
 names:(N.drop n)=fr.map (λj=>(X.N[j]?).getD ("":Str))
 own:n<=N.length
 inx:(fr.all λj=>decide (j<X.N.length))=true
 free:((N.drop n).all λx=>decide (scope.names.lookup x=some .free))=true
 nocell:(scope.names.all λy=>decide (y.2≠ .cell))=true
 loc:(scope.names.all λy=>decide (y.2= .local->scope.names.lookup y.1=some .local))=true
 seen:(scope.names.all λy=>decide (y.2= .free->(X.env.kindOf y.1=some .cell\/X.env.kindOf y.1=some .free)))=true
theorem zaA {scope:Scope} {env:Env} {x:Str} {k:NameKind} (h:(relabel scope env).names.lookup x=some k) (hk:k= .cell\/k= .free) (hc:(scope.names.all λy=>decide (y.2≠ .cell))=true):(x,NameKind.free)∈scope.names:=by
 unfold relabel at h;dsimp only at h
 have key:∀names:List (Str×NameKind),(names.all λy=>decide (y.2≠ .cell))=true->
  (names.map λ(n,k)=>if (k==NameKind.free && env.scope.kind== .function && env.kindOf n==some .cell)=true then (n,NameKind.cell) else (n,k)).lookup x=some k->(x,NameKind.free)∈names:=by
  intro names
  induction names with
  |nil=>intro _ h;simp at h
  |cons y r ih=>
   intro ha h;obtain ⟨n,j⟩:=y;rw [List.all_cons,wC] at ha;rw [jq] at h;have e1:∀(b:Bool) (k1:NameKind),((if b=true then (n,NameKind.cell) else (n,k1)):Str×NameKind)=(n,if b=true then NameKind.cell else k1):=by intro b k1;cases b<;>rfl
   dsimp only at h;rw [e1,wN] at h
   cases hx:x==n with
   |false=>rw [hx] at h;exact jf _ (ih ha.2 h)
   |true=>
    rw [hx] at h;have e:x=n:=by simpa using hx
    subst e;have h':=jL h;have hj:j≠ .cell:=by simpa using ha.1
    have:j= .free:=by
     cases hb:(j==NameKind.free && env.scope.kind== .function && env.kindOf x==some .cell) with
     |true=>
      rw [wC,wC] at hb
      simpa using hb.1.1
     |false=>
      rw [hb] at h';simp only [JZ,if_false] at h';subst h'
      rcases hk with z|z
      ·exact absurd z hj
      ·exact z
    subst this;exact jd ..
 exact key _ hc h
theorem zcg {scope:Scope} {env:Env} {x:Str} (h:scope.names.lookup x=some .free):(relabel scope env).names.lookup x=some .cell\/(relabel scope env).names.lookup x=some .free:=by
 unfold relabel;dsimp only
 have key:∀names:List (Str×NameKind),names.lookup x=some .free->
  (names.map λ(n,k)=>if (k==NameKind.free && env.scope.kind== .function && env.kindOf n==some .cell)=true then (n,NameKind.cell) else (n,k)).lookup x=some .cell\/(names.map λ(n,k)=>if (k==NameKind.free && env.scope.kind== .function && env.kindOf n==some .cell)=true then (n,NameKind.cell) else (n,k)).lookup x=some .free:=by
  intro names
  induction names with
  |nil=>intro h;simp at h
  |cons y r ih=>
   intro h;obtain ⟨n,j⟩:=y;have e1:∀(b:Bool) (k1:NameKind),((if b=true then (n,NameKind.cell) else (n,k1)):Str×NameKind)=(n,if b=true then NameKind.cell else k1):=by intro b k1;cases b<;>rfl
   rw [jq];dsimp only;rw [e1,wN];rw [wN] at h
   cases hx:x==n with
   |false=>rw [hx] at h;exact ih h
   |true=>
    rw [hx] at h;cases jL h;dsimp only
    split
    ·exact .inl rfl
    ·exact .inr rfl
 exact key _ h
section
variable {X:Cx} {N:List Str} {n:Nat} {fr:List Nat} {scope:Scope} {pins:List (Addr×Obj)} {σ:L2.St} {H:Hp} {s:Shared}
theorem CompOk.cells (O:CompOk X N n fr scope) (I:Inv X pins σ H s):∀y∈scope.names,y.2= .free->∃c,X.env.cells.lookup y.1=some c:=λy hy hf=>I.ok.has y.1 (jD (qL.mp O.seen y hy) hf)
theorem zlV {fp:List Addr} {h':Heap} {tk:Nat} {m:Str->Option Value} (O:CompOk X N n fr scope) (I:Inv X pins σ H s) (hf:∀b∈fp,zjP X pins H b) (hfl:∀b∈fp,b<s.heap.objs.size)
 (hns:h'.Ns s.heap.objs.size m) (keep:∀b o,s.heap.get? b=some o->h'.get? b=some o):
 Inv (Wz X N scope s.heap.objs.size fp s H) [] (List.replicate n none++frσ σ fr) H {s with heap:=h',toks:=tk}:=by
 have hcl:=O.cells I;have lk:∀x c,(xJ X.env.cells scope.names []).lookup x=some c->X.env.cells.lookup x=some c:=λx c h=>Va hcl (λc h=>by simp at h) h;have cne:∀x c,(xJ X.env.cells scope.names []).lookup x=some c->∃v,s.heap.IsCell c v:=λx c h=>I.cell x c (lk x c h)
 have clt:∀x c,(xJ X.env.cells scope.names []).lookup x=some c->c<s.heap.objs.size:=λx c h=>by
  obtain ⟨v,o,ho,_⟩:=cne x c h;exact jv ho
 refine ⟨⟨I.mod,O.kind,I.ok.glob,I.ok.blt,jy _,λx y c h1 h2=>I.ok.inj x y c (lk x c h1) (lk y c h2),λx hx=>?_,λx c h=>(by cases h),I.ok.hd,I.ok.frames, .inl rfl,λb hb=>⟨jO (hfl b hb),λx c h=>(hf b hb).2.2.2.2.1 x c (lk x c h)⟩,I.bs,jS I.ok.bsz I.sz,λb o e hb=>?_,λb hb z=>?_,I.stack,I.stkFree⟩,
  rfl,I.bare,Un.kept keep,⟨m,hns,λi x v h1 h2 h3=>?_⟩,λx c h=>?_,I.hok.fresh (jy _),λx c h=>I.freeC x c (lk x c h),λp hp=>absurd hp (by simp [Wz]),I.hok.kept keep,?_⟩
 ·have hx':(x,NameKind.free)∈scope.names:=by
   rcases hx with hx|hx
   ·exact zaA hx (.inl rfl) O.nocell
   ·exact zaA hx (.inr rfl) O.nocell
  exact wM.mp (WA (.inl hx'))
 ·rcases (hf b hb).2.2.2.1 with z|z
  ·exact I.ok.noex b o e z
  ·exact absurd (jY (jv (I.ok.bs b o e).1) z) (wv _)
 ·rcases jn.mp (I.stkSub b z) with q|q
  ·exact (hf b hb).2.1 q
  ·exact (hf b hb).2.2.1 q
 ·by_cases hi:i<n
  ·rw [wt (by simpa using hi),jU,jK hi] at h2;cases h2
  ·have h1':(N.drop n)[i - n]? =some x:=by rw [wm,show n+(i - n)=i by omega];exact h1
   rw [qC (by simpa using hi),jB] at h2;unfold frσ at h2;rw [jh] at h2;rw [O.names,jh] at h1'
   cases ej:fr[i - n]? with
   |none=>rw [ej] at h2;cases h2
   |some j=>
    rw [ej] at h2 h1';have hjl:j<X.N.length:=jD (qL.mp O.inx j (jc ej))
    have hx:X.N[j]? =some x:=by
     have e:=jL h1';dsimp only at e;rw [jb hjl] at e⊢;exact congrArg some e
    have hv:σ[j]? =some (some v):=by
     have e:=jL h2;dsimp only at e
     cases es:σ[j]? with
     |none=>rw [es] at e;cases e
     |some o=>rw [es] at e;rw [show o=some v from e]
    have hfl':scope.names.lookup x=some .free:=by
     refine jD (qL.mp O.free x ?_);exact jc (i:=i - n) (by rw [wm,show n+(i - n)=i by omega];exact h1)
    have hfx:(x,NameKind.free)∈scope.names:=wF hfl';have hkX:=jD (qL.mp O.seen _ hfx) rfl;obtain ⟨mX,hnX,hlX⟩:=I.loc;obtain ⟨u,ru,lu⟩:=hlX j x v hx hv (hkX.elim (λz=> .inr (.inl z)) λz=> .inr (.inr z));refine ⟨u,ru, .inr ⟨?_,?_⟩⟩
    ·exact zcg hfl'
    ·obtain ⟨c,hc⟩:=wM.mp (WA (cells:=X.env.cells) (acc:=[]) (.inl hfx));refine ⟨c,hc,?_⟩
     rcases lu with ⟨k,_⟩|⟨_,c',hc',z⟩
     ·rcases hkX with q|q
      ·rw [show X.env.kindOf x=_ from k] at q;cases q
      ·rw [show X.env.kindOf x=_ from k] at q;cases q
     ·have:=lk x c hc;rw [hc'] at this;cases this;obtain ⟨o,ho,hd⟩:=z;exact ⟨o,keep _ _ ho,hd⟩
 ·obtain ⟨v,o,ho,hd⟩:=cne x c h;exact ⟨v,o,keep _ _ ho,hd⟩
 ·rw [jJ,jB];unfold frσ;have e:=congrArg List.length O.names;rw [qt,ja] at e;have:=O.own;show _=N.length;rw [ja];omega
end
def PIf (Y:Cx) (ifs:List Expr) (tt:TT):Prop:=
 ∀(pins:List (Addr×Obj)) (s:Shared) (σ:L2.St) (H:Hp) (Q:Bool->Hp->Prop),Inv Y pins σ H s->tt σ H Q->
  wpAny (model Y.prog Y.w) Y.A (forIn ifs true λc r=>if r=true then do let ok<-isTrue c Y.env (eval c Y.env);pure (ForInStep.yield ok) else pure (ForInStep.yield r)) (TP Y pins σ Q) Y.xe s
def tTrue:TT:=λ_ H Q=>Q true H
theorem yd {Y:Cx}:PIf Y [] tTrue:=λpins s σ H Q I h=>wpAny_tests_nil ⟨H,I,h⟩
theorem zdx {Y:Cx} {c:Expr} {tt:TT} (h:PT Y c tt):PIf Y [c] tt:=λpins s σ H Q I q=>wpAny_tests_one (h pins s σ H Q I q)
abbrev Blk (α:Type):=Addr->List Addr->Shared->Hp->α
def zoT (n:Nat) (fr:List Nat) (wi:TI) (g:Blk TG) (tt:Blk TT) (te:Blk TE):TE:=λσ H Q=>wi σ H λJ H1=>∀D,H1 D=none->∀C ex s0 H0,
 ∃W:Nat->Nat->List V->Hp->Prop,(∃m,W 0 m [] (upd H1 D (.lst [])))/\∀i m ys H2,W i m ys H2->H2 D=some (.lst ys)/\
  ((J.stop i H2/\Q (.ref D) H2)\/(J.go i H2/\∀x H3,J.yld i H2 x H3->g C ex s0 H0 x (List.replicate n none++frσ σ fr) H3 λσ4 H4=>σ4.drop n=frσ σ fr/\tt C ex s0 H0 σ4 H4 λb H5=>
    if b=true then te C ex s0 H0 σ4 H5 λy H6=>H6 D=some (.lst ys)/\ys.length<sizeLine/\∃m',m'<m/\W (i+1) m' (ys++[y]) (upd H6 D (.lst (ys++[y])))
    else ∃m',m'<m/\W (i+1) m' ys H5))
structure Side (X:Cx) (pins:List (Addr×Obj)) (H:Hp) (C:Addr):Prop where
 nt:H C=none
 nl:C≠X.env.locals
 ab:X.s₀.heap.objs.size<=C
 nc:∀x c,X.env.cells.lookup x=some c->c≠C
 np:∀p∈X.pn++pins,p.1≠C
section
variable {X:Cx} {N:List Str} {n:Nat} {fr:List Nat} {scope:Scope}
theorem xH {α:Type} {M:Model} {A:Around} {m:Sem α} {Q:α->Shared->Prop} {E:Value->Shared->Prop} {s:Shared} (h:wpAny M A m Q (λ_ _=>False) s):wpAny M A m Q E s:=wpAny_mono h (λ_ _ q=>q) λ_ _ z=>z.elim
theorem zkG {tg iter elt:Expr} {ifs:List Expr} {pos:Pos} {g:Blk TG} {tt:Blk TT} {te:Blk TE} {pins:List (Addr×Obj)} {σ:L2.St} {H2:Hp} {s2:Shared} {it:Addr} {fp:List Addr} {tn:Nat->Heap->Prop} {J:It} {Q:VK}
 {RR:Value->Addr->Result->Shared->Prop} {E:Value->Shared->Prop}
 (hc:X.calm=true) (O:CompOk X N n fr scope)
 (hg:∀C ex s H,PG (Wz X N scope C ex s H) tg (g C ex s H)) (ht:∀C ex s H,PIf (Wz X N scope C ex s H) ifs (tt C ex s H)) (he:∀C ex s H,PE (Wz X N scope C ex s H) elt (te C ex s H))
 (I2:Inv X pins σ H2 s2) (T:Turn X.prog X.w X.K tg J fp it tn) (st2:tn 0 s2.heap) (f2:∀b∈fp,zjP X pins H2 b)
 (hW:∀D,H2 D=none->∀C ex s0 H0,∃W:Nat->Nat->List V->Hp->Prop,(∃m,W 0 m [] (upd H2 D (.lst [])))/\∀i m ys H2,W i m ys H2->H2 D=some (.lst ys)/\
  ((J.stop i H2/\Q (.ref D) H2)\/(J.go i H2/\∀x H3,J.yld i H2 x H3->g C ex s0 H0 x (List.replicate n none++frσ σ fr) H3 λσ4 H4=>σ4.drop n=frσ σ fr/\tt C ex s0 H0 σ4 H4 λb H5=>
    if b=true then te C ex s0 H0 σ4 H5 λy H6=>H6 D=some (.lst ys)/\ys.length<sizeLine/\∃m',m'<m/\W (i+1) m' (ys++[y]) (upd H6 D (.lst (ys++[y])))
    else ∃m',m'<m/\W (i+1) m' ys H5)))
 (hR:∀(D C:Addr) (H':Hp) (s':Shared),Q (.ref D) H'->(∃m,s'.heap.Ns C m)->Side X pins H' C->Inv X pins σ H' s'->RR (.ref D) C (.ok .next) s'):
 wpAny (model X.prog X.w) X.A (newList []) (λacc s₃=>wpAny (model X.prog X.w) X.A (newFunctionEnv scope X.env.globals (xJ X.env.cells scope.names []) [] X.env.qual none .none (some X.env)) (λcenv s₄=>
  codeAny (model X.prog X.w) X.A (.compStart (.ListComp elt [⟨tg,iter,ifs,0⟩] scope pos) 0 (.ref it) acc {cenv with scope:=relabel scope X.env}) (RR acc cenv.locals) s₄) E s₃) E s2:=by
 have nocell:∀y∈scope.names,y.2≠ .cell:=λy hy=>jD (qL.mp O.nocell y hy);refine qU (wpAny_newFunctionEnv nocell (by intro y hy;simp at hy) (λh₁ hns₁ hsb₁=>?_) O.kind);have hDn:H2 s2.heap.objs.size=none:=I2.fresh;have I3:Inv X pins σ (upd H2 s2.heap.objs.size (.lst [])) {s2 with heap:=s2.heap.push {cls:= .type "list",data:= .seq ([]:List Value).toArray},toks:=s2.toks}:=I2.lnew (its:=[]) .nil (wg _);generalize hD:s2.heap.objs.size=D at*;dsimp only at hns₁ hsb₁⊢;generalize hs3:s2.heap.push {cls:= .type "list",dict:=none,data:= .seq ([]:List Value).toArray}=hp3 at*;have k23:∀b o,s2.heap.get? b=some o->hp3.get? b=some o:=λb o e=>by rw [<-hs3];exact ji _ e
 have sz3:hp3.objs.size=D+1:=by rw [<-hs3,jT,hD]
 have keep:∀b o,hp3.get? b=some o->h₁.get? b=some o:=λb o e=>hsb₁.extBut b o (jO (jv e)) (ji _ e)
 have flt:∀b∈fp,b<D:=λb hb=>by
  obtain ⟨o,ho,_⟩:=T.obj _ _ st2 b hb;rw [<-hD];exact jv ho
 have f3:∀b∈fp,zjP X pins (upd H2 D (.lst [])) b:=λb hb=>⟨by rw [yE (jO (flt b hb))];exact (f2 b hb).1,(f2 b hb).2⟩;have IY:=zlV (tk:=s2.toks+([]:List (Str×Value)).length) O I3 f3 (λb hb=>by show b<hp3.objs.size;rw [sz3];exact qD (flt b hb)) hns₁ keep;obtain ⟨W,⟨m0,w0⟩,turn⟩:=hW _ hDn hp3.objs.size fp {s2 with heap:=hp3,toks:=s2.toks} (upd H2 D (.lst []));have st4:tn 0 h₁:=T.keep _ _ _ st2 λb hb o e=>keep b o (k23 b o e);generalize hY:Wz X N scope hp3.objs.size fp {s2 with heap:=hp3,toks:=s2.toks} (upd H2 D (.lst []))=Y at*;have eEnv:Y.env=compEnvC scope (xJ X.env.cells scope.names []) hp3.objs.size X.env:=by rw [<-hY];rfl
 have hgY:=hg hp3.objs.size fp {s2 with heap:=hp3,toks:=s2.toks} (upd H2 D (.lst []));have htY:=ht hp3.objs.size fp {s2 with heap:=hp3,toks:=s2.toks} (upd H2 D (.lst []));have heY:=he hp3.objs.size fp {s2 with heap:=hp3,toks:=s2.toks} (upd H2 D (.lst []));rw [hY] at hgY htY heY;have eP:Y.prog=X.prog:=by rw [<-hY];rfl
 have eW:Y.w=X.w:=by rw [<-hY];rfl
 have eK:Y.K=X.K:=by rw [<-hY];rfl
 have eA:Y.A=X.A:=by rw [<-hY];rfl
 have eC:Y.calm=true:=by rw [<-hY];exact hc
 have eX:Y.xe=λ_ _=>False:=by rw [<-hY];rfl
 have fY:∀{H':Hp},(∀b∈fp,H' b=none)->∀b∈fp,zjP Y [] H' b:=λ{H'} hn b hb=>by
  have h1:=IY.ok.exf b (by rw [<-hY];exact hb);refine ⟨hn b hb,h1.1,IY.ok.exfs b (by rw [<-hY];exact hb), .inl (by rw [<-hY];exact hb),h1.2,λp hp=>absurd hp (by rw [<-hY];simp [Wz])⟩
 have loop:codeAny (model X.prog X.w) X.A (.compLoop (.ListComp elt [⟨tg,iter,ifs,0⟩] scope pos) 0 (.ref it) (.ref D) (compEnvC scope (xJ X.env.cells scope.names []) hp3.objs.size X.env))
  (RR (.ref D) hp3.objs.size) {s2 with heap:=h₁,toks:=s2.toks+([]:List (Str×Value)).length}:=by
  refine codeAny_loop rfl (λk s'=>∃i ys H',Inv Y [] (List.replicate n none++frσ σ fr) H' s'/\tn i s'.heap/\(∀b∈fp,H' b=none)/\W i k ys H') (λk s5 hI=>?_) m0 ⟨0,[],_,IY,st4,λb hb=>(f3 b hb).1,w0⟩;obtain ⟨i,ys,H5,I5,st5,fr5,w5⟩:=hI;show wpAny _ X.A ((compTurn (.ListComp elt [⟨tg,iter,ifs,0⟩] scope pos) 0 (.ref it) (.ref D) _).onRaise (λx=>do noteFrame x _;theTreesLotGoes x)) _ _ s5;refine wpAny_noted ?_;rw [compTurn_list,<-eEnv];refine jg (wpAny_standAt (jg ?_));obtain ⟨hDl,step⟩:=turn i k ys H5 w5
  rcases step with ⟨stop,qn⟩|⟨go,step⟩
  ·have d:=T.done Y eP eW eK eC i [] s5 _ H5 (λ_ _=>False) I5 (fY fr5) st5 stop;rw [eA] at d;refine xH (thn d λr s6 ⟨hr,I6⟩=>?_);subst hr;refine jr ?_;have hC:H5 hp3.objs.size=none:=by have:=I6.free;rw [eEnv] at this;exact this
   have hns6:∃m,s6.heap.Ns hp3.objs.size m:=by
    have:=I6.loc;rw [eEnv] at this;obtain ⟨m,hm,_⟩:=this;exact ⟨m,hm⟩
   have sd:Side X pins H5 hp3.objs.size:=⟨hC,Jd I3.lt,I3.sz,λx c e=>jO (let ⟨v,o,ho,_⟩:=I3.cell x c e;jv ho),λp hp=>jO (jv (I3.pin p hp).1)⟩;refine hR D hp3.objs.size H5 s6 qn hns6 sd ?_;have un:=I6.base;have e0:Y.s₀.heap=hp3:=by rw [<-hY];rfl
   have eH0:Y.H₀=upd H2 D (.lst []):=by rw [<-hY];rfl
   have eF:Y.fs=frs X.stack:=by rw [<-hY];rfl
   have eEx:Y.ex=fp:=by rw [<-hY];rfl
   rw [e0,eH0,eF,eEx] at un;have hok':HOk X.prog X.w H5 s6.heap:=by have:=I6.hok;rw [eP,eW] at this;exact this
   have os6:s6.os=s2.os:=I6.os.trans (by rw [<-hY];rfl);exact I3.call' (s':=s6) (ch:=fp) os6 un hok' I6.bare λb hb=>⟨(f2 b hb).2.2.2.1,(f2 b hb).2.1,(f2 b hb).2.2.2.2.1,(f2 b hb).2.2.2.2.2⟩
  ·have d:=T.item Y eP eW eK eC i [] s5 _ H5 (λ_ _=>False) I5 (fY fr5) st5 go;rw [eA] at d;refine xH (thn d λr s6 ⟨u,hr,h6⟩=>?_);subst hr;refine jg (xH (thn h6 λ_ s7 ⟨x,H7,I7,r7,y7,st7,fr7⟩=>?_));have I7':=I7.pinned (fY fr7) (T.obj _ _ st7);have g7:=hgY _ s7 _ H7 x u _ I7' r7 (step x H7 y7);rw [eA,eP,eW,eX] at g7;refine jg (xH (thn g7 λ_ s8 ⟨σ8,H8,I8,ed,q8⟩=>?_));have t8:=htY _ s8 σ8 H8 _ I8 q8;rw [eA,eP,eW,eX] at t8;refine jg (xH (thn t8 λb s9 ⟨H9,I9,q9⟩=>?_))
   have back:∀{s':Shared} {H':Hp} {ys':List V} {m':Nat},Inv Y ([]++zfq fp s7.heap) σ8 H' s'->m'<k->W (i+1) m' ys' H'->∃m,m<k/\∃i ys H',Inv Y [] (List.replicate n none++frσ σ fr) H' s'/\tn i s'.heap/\(∀b∈fp,H' b=none)/\W i m ys H':=λ{s' H' ys' m'} I' hm w'=>by
    refine ⟨m',hm,i+1,ys',H',?_,T.keep _ _ _ st7 λb hb o e=>(I'.pin (b,o) (jG _ (jG _ (Xl hb e)))).1,λb hb=>?_,w'⟩
    ·refine (Inv.unpinned I').weak ?_ λj v hj=>?_
     ·exact IY.len.trans I'.len.symm
     ·by_cases hjn:j<n
      ·rw [wt (by simpa using hjn),jU,jK hjn] at hj;cases hj
      ·rw [qC (by simpa using hjn),jB,<-ed,wm,show n+(j - n)=j by omega] at hj;exact hj
    ·obtain ⟨o,e,d⟩:=T.obj _ _ st7 b hb;exact (I'.pin (b,o) (jG _ (jG _ (Xl hb e)))).2.1
   cases b with
   |false=>
    obtain ⟨m',hm,w9⟩:=q9;exact jr ⟨rfl,back I9 hm w9⟩
   |true=>
    have e9:=heY _ s9 σ8 H9 _ I9 q9;rw [eA,eP,eW,eX] at e9;refine jg (jg (xH (thn e9 λv s10 ⟨y,H10,I10,r10,hD10,hz,m',hm,w10⟩=>?_)));have a10:=ZD _ s10 σ8 H10 (.ref D) [y] (.ref D) [v] (λ_ H'=>H'=upd H10 D (.lst (ys++[y]))) I10 rfl (.cons r10 .nil) ⟨D,ys,y,rfl,rfl,hD10,hz,rfl⟩;rw [eA,eP,eW,eX] at a10;refine jg (xH (thn a10 λ_ s11 ⟨_,H11,I11,_,e11⟩=>?_));subst e11;exact jr (jr ⟨rfl,back I11 hm w10⟩)
 exact codeAny_compStart_list loop (T.self _ _ _ _ _ st4 loop)
theorem yq {tg iter elt:Expr} {ifs:List Expr} {pos:Pos} {wi:TI} {g:Blk TG} {tt:Blk TT} {te:Blk TE}
 (hc:X.calm=true) (O:CompOk X N n fr scope) (hi:PI X tg iter wi)
 (hg:∀C ex s H,PG (Wz X N scope C ex s H) tg (g C ex s H)) (ht:∀C ex s H,PIf (Wz X N scope C ex s H) ifs (tt C ex s H)) (he:∀C ex s H,PE (Wz X N scope C ex s H) elt (te C ex s H))
 (hs:∀x,foldedSetIterable iter X.env x=pure x:=by intro _;rfl):
 PE X (.ListComp elt [⟨tg,iter,ifs,0⟩] scope pos) (zoT n fr wi g tt te):=by
 intro pins s σ H Q I h;rw [eval_ListComp];refine JQ (use:=none) rfl hs (WZ (O.cells I)) O.kind (λy hy=>jD (qL.mp O.loc y hy)) (thn (hi pins s σ H _ I h) λv s1 h1=>thn h1 λitv s2 h2=>?_);obtain ⟨it,fp,tn,J,H2,e,I2,T,st2,f2,hW⟩:=h2;subst e;refine zkG (RR:=λacc C=>compPost (model X.prog X.w) X.A X.xe none (EP X pins σ Q) acc C) hc O hg ht he I2 T st2 f2 hW ?_;intro D C H' s' q ⟨m,hm⟩ sd inv;exact ⟨m,hm,λh' hs'=>⟨.ref D,H',inv.turned (t':=s'.toks) (it:=C) (λb o hb e=>hs'.extBut b o hb e) sd.nt sd.nl (.inr sd.ab) sd.nc sd.np,rfl,q⟩⟩
theorem xx {i:Nat} {x:Str} {px:Pos} {tg iter elt:Expr} {ifs:List Expr} {pos spos:Pos} {wi:TI} {g:Blk TG} {tt:Blk TT} {te:Blk TE}
 (hN:X.N.Nodup) (hx:X.N[i]? =some x) (hk:X.env.scope.names.lookup x=some .local)
 (hc:X.calm=true) (O:CompOk X N n fr scope) (hi:PI X tg iter wi)
 (hg:∀C ex s H,PG (Wz X N scope C ex s H) tg (g C ex s H)) (ht:∀C ex s H,PIf (Wz X N scope C ex s H) ifs (tt C ex s H)) (he:∀C ex s H,PE (Wz X N scope C ex s H) elt (te C ex s H))
 (hsw:swapsWith (.ListComp elt [⟨tg,iter,ifs,0⟩] scope pos) (some (.Name x px)) spos.line X.env=pure true:=by rfl)
 (hs:∀x,foldedSetIterable iter X.env x=pure x:=by intro _;rfl):
 PS X (.Assign [.Name x px] (.ListComp elt [⟨tg,iter,ifs,0⟩] scope pos) spos) (tAsg (zoT n fr wi g tt te) (zjn i)):=by
 intro pins s σ H D I h;rw [exec_Assign_Name_used _ _ _ _ hsw];refine jg (wpAny_standAt (jg ?_));show wpAny _ X.A (do let _<-comprehension (.ListComp elt [⟨tg,iter,ifs,0⟩] scope pos) scope X.env _ (newList []) false (eval iter X.env) (some (assign (.Name x px) X.env))) _ _ s
 refine jg (wpAny_mono (JQ (use:=some (assign (.Name x px) X.env)) (Q:=λ_ s'=>SP X pins D .next s') rfl hs (WZ (O.cells I)) O.kind (λy hy=>jD (qL.mp O.loc y hy))
  (thn (hi pins s σ H _ I h) λv s1 h1=>thn h1 λitv s2 h2=>?_)) (λ_ s' hq=>jr (jr hq)) λ_ _ e=>e)
 obtain ⟨it,fp,tn,J,H2,e,I2,T,st2,f2,hW⟩:=h2;subst e;refine zkG (Q:=λx H1=>zjn i x σ H1 D.nx) (RR:=λacc C=>compPost (model X.prog X.w) X.A X.xe (some (assign (.Name x px) X.env)) (λ_ s'=>SP X pins D .next s') acc C) hc O hg ht he I2 T st2 f2 hW ?_;intro Dl C H' s' q ⟨m,hm⟩ sd inv;show wpAny _ X.A (assign (.Name x px) X.env (.ref Dl)) _ _ _;refine wpAny_assign_Name (zho (i:=i) (v:= .ref Dl) inv hN hx (.inl hk) rfl (λs6 I6 ⟨a,hsb,ha⟩=>?_) (.inr hk))
 have hCa:C≠a:=by
  rcases ha with z|z
  ·rw [z];exact sd.nl
  ·exact λe=>sd.nc x a z e.symm
 refine ⟨m,hm.sameBut hsb hCa,λh' hs'=>?_⟩;refine ⟨_,H',I6.turned (t':=s6.toks) (it:=C) (λb o hb e=>hs'.extBut b o hb e) sd.nt sd.nl (.inr sd.ab) sd.nc sd.np,q⟩
end
open PySem.AutoSeq1 (wpAny_loadPart')
def ItB (b:Bool) (h:Heap) (it a:Addr) (i:Nat):Prop:=match b with|true=>h.IsListIter it a i|false=>h.IsTupleIter it a i
def SeB (b:Bool) (h:Heap) (a:Addr) (items:Array Value):Prop:=match b with|true=>h.IsList a items|false=>h.IsTuple a items
def SqB (b:Bool) (K:PySem.W.Frag) (H:Hp) (a:Addr) (xs:List V):Prop:=match b with|true=>SqL K H a xs|false=>SqT K H a xs
theorem ItB.at {b:Bool} {h h':Heap} {it a:Addr} {i:Nat} (x:ItB b h it a i) (k:∀o,h.get? it=some o->h'.get? it=some o):ItB b h' it a i:=by
 cases b with
 |true=>obtain ⟨o,ho,r⟩:=x;exact ⟨o,k o ho,r⟩
 |false=>obtain ⟨o,ho,r⟩:=x;exact ⟨o,k o ho,r⟩
theorem ItB.obj {b:Bool} {h:Heap} {it a:Addr} {i:Nat} (x:ItB b h it a i):∃o,h.get? it=some o/\∀v,o.data≠ .cell v:=by
 cases b with
 |true=>obtain ⟨o,ho,c,d⟩:=x;exact ⟨o,ho,λv z=>by rw [d] at z;cases z⟩
 |false=>obtain ⟨o,ho,c,d⟩:=x;exact ⟨o,ho,λv z=>by rw [d] at z;cases z⟩
theorem SeB.at {b:Bool} {h h':Heap} {a:Addr} {items:Array Value} (x:SeB b h a items) (k:∀o,h.get? a=some o->h'.get? a=some o):SeB b h' a items:=by
 cases b with
 |true=>obtain ⟨o,ho,r⟩:=x;exact ⟨o,k o ho,r⟩
 |false=>obtain ⟨o,ho,r⟩:=x;exact ⟨o,k o ho,r⟩
theorem SeB.obj {b:Bool} {h:Heap} {a:Addr} {items:Array Value} (x:SeB b h a items):∃o,h.get? a=some o:=by
 cases b with
 |true=>obtain ⟨o,ho,r⟩:=x;exact ⟨o,ho⟩
 |false=>obtain ⟨o,ho,r⟩:=x;exact ⟨o,ho⟩
section
variable {X:Cx} {pins:List (Addr×Obj)} {σ:L2.St} {H:Hp} {s:Shared} {a:Addr} {xs ys:List V} {b:Bool}
theorem seB (I:Inv X pins σ H s) (h:SqB b X.K H a xs):∃its:List Value,Zw xs its/\SeB b s.heap a its.toArray/\xs.length<=sizeLine:=by
 cases b with
 |true=>obtain ⟨its,r,p,z⟩:=I.list h;exact ⟨its,r,p.isList,z⟩
 |false=>obtain ⟨its,r,p,z⟩:=I.tuple h;exact ⟨its,r,p,z⟩
theorem ziQ (I:Inv X pins σ H s) (h:SqB b X.K H a xs) (h':SqB b X.K H a ys):xs=ys:=by
 cases b with
 |true=>exact I.list_inj h h'
 |false=>exact I.tuple_inj h h'
end
section
variable {prog:Program} {w:World} {A:Around} {E:Value->Shared->Prop} {s:Shared}
theorem zbu {it t:Addr} {i:Nat} {items} {x:Value} {Q:Value->Shared->Prop} (hit:s.heap.IsTupleIter it t i)
 (ht:s.heap.IsTuple t items) (hx:items[i]? =some x)
 (hQ:∀h',h'.IsTupleIter it t (i+1)->Heap.SameBut it s.heap h'->Q x {s with heap:=h'}):
 wpAny (model prog w) A (Builtin.SmallTypes.nextOf (.ref it)) Q E s:=by
 obtain ⟨o,ho,hc,hd⟩:=id hit;obtain ⟨ol,hol,_,nl,hdl⟩:=ht;unfold Builtin.SmallTypes.nextOf
 refine jg (qF (name:=Str.ofString "__next__") hit.typeIs Jb
  (qT Jb hit.typeIs F.entry_tuple_iterator_next ?_ (F.args_tuple_iterator_next_1 _)))
 show wpAny _ _ (field (.ref it) 0>>=_) _ _ s;refine jg (wO ho hd (x:= .ref t) rfl ?_);show wpAny _ _ (if (Value.ref t==Value.none)=true then _ else _) _ _ s;rw [jQ (show ¬((Value.ref t==Value.none)=true) from jI)];show wpAny _ _ (field (.ref it) 1>>=_) _ _ s;refine jg (wO ho hd (x:= .int i 0) rfl ?_);show wpAny _ _ (seqItems? (.ref t)>>=_) _ _ s;refine jg (Jh hol hdl ?_);simp only [qf,hx];refine jg (Ji ho hd (by simp) (jr ⟨x,rfl,jr (hQ _ ?_ (qR ..))⟩))
 exact ⟨_,wH _ ho (Obj.isFreed_of_fields (Qa hd _)),(Obj.cls_mapFields ..).trans hc,by
  rw [Qa hd];simp [rawInt]⟩
theorem zcr {it t:Addr} {i:Nat} {items} {Q:Value->Shared->Prop} (hh:A.handled=none)
 (hit:s.heap.IsTupleIter it t i) (ht:s.heap.IsTuple t items) (hx:items[i]? =none)
 (hE:∀h' e,Heap.ExtBut it s.heap h'->(∃o,h'.get? e=some o/\o.cls= .type "StopIteration")->E (.ref e) {s with heap:=h'}):
 wpAny (model prog w) A (Builtin.SmallTypes.nextOf (.ref it)) Q E s:=by
 obtain ⟨o,ho,hc,hd⟩:=id hit;obtain ⟨ol,hol,_,nl,hdl⟩:=ht;unfold Builtin.SmallTypes.nextOf
 refine jg (qF (name:=Str.ofString "__next__") hit.typeIs Jb
  (qT Jb hit.typeIs F.entry_tuple_iterator_next ?_ (F.args_tuple_iterator_next_1 _)))
 show wpAny _ _ (field (.ref it) 0>>=_) _ _ s;refine jg (wO ho hd (x:= .ref t) rfl ?_);show wpAny _ _ (if (Value.ref t==Value.none)=true then _ else _) _ _ s;rw [jQ (show ¬((Value.ref t==Value.none)=true) from jI)];show wpAny _ _ (field (.ref it) 1>>=_) _ _ s;refine jg (wO ho hd (x:= .int i 0) rfl ?_);show wpAny _ _ (seqItems? (.ref t)>>=_) _ _ s;refine jg (Jh hol hdl ?_);simp only [qf,hx];refine jg (Qj (jg (Ji ho hd (by simp) ?_)));show wpAny _ _ (newExc (.type "StopIteration") []>>=_) _ _ _;refine jg ?_;simp only [newExc,newTuple];refine jg (qU ?_ (by size_fits));refine jg (m:=firstArgMember _ _) (wpAny_of_eq (a:=Value.none) (by first|rfl|(simp only [firstArgMember];rfl)) ?_);refine qU ?_ (by size_fits);simp only [raiseNew];refine jg (wpAny_handled ?_)
 first|rw [show A.in1.handled=none from hh]|rw [hh]
 refine jg (jr (wpAny_throw ?_));exact hE _ _ (((qR ..).extBut.push _).push _) ⟨_,jx _ rfl,rfl⟩
theorem Uf {b:Bool} {it a:Addr} {i:Nat} {items} {x:Value} {Q:Value->Shared->Prop} (hit:ItB b s.heap it a i) (hl:SeB b s.heap a items) (hx:items[i]? =some x)
 (hQ:∀h',ItB b h' it a (i+1)->Heap.SameBut it s.heap h'->Q x {s with heap:=h'}):wpAny (model prog w) A (Builtin.SmallTypes.nextOf (.ref it)) Q E s:=by
 cases b with
 |true=>exact wpAny_nextOf_list_item hit hl hx hQ
 |false=>exact zbu hit hl hx hQ
theorem zaJ {b:Bool} {it a:Addr} {i:Nat} {items} {Q:Value->Shared->Prop} (hh:A.handled=none) (hit:ItB b s.heap it a i) (hl:SeB b s.heap a items) (hx:items[i]? =none)
 (hE:∀h' e,Heap.ExtBut it s.heap h'->(∃o,h'.get? e=some o/\o.cls= .type "StopIteration")->E (.ref e) {s with heap:=h'}):
 wpAny (model prog w) A (Builtin.SmallTypes.nextOf (.ref it)) Q E s:=by
 cases b with
 |true=>exact wpAny_nextOf_list_end hh hit hl hx hE
 |false=>exact zcr hh hit hl hx hE
end
theorem drawsB {prog:Program} {w:World} {A:Around} (hh:A.handled=none) (b:Bool) (it a:Addr) (hne:a≠it) (items:Array Value):
 Draws prog w A it [it,a] items.size (λi x=>items[i]? =some x) (λi h=>ItB b h it a i/\SeB b h a items) where
 live:=λi h hst=>by obtain ⟨o,ho,_⟩:=hst.1.obj;exact ⟨o,ho⟩
 frame:=λi h h' hst hk=>⟨hst.1.at λo e=>hk _ (by simp) o e,hst.2.at λo e=>hk _ (by simp) o e⟩
 item:=λi s Q E hi hst hQ=>Uf hst.1 hst.2 (Array.getElem?_eq_getElem hi) λh' hit' hs'=>hQ _ h' s.toks (Array.getElem?_eq_getElem hi) ⟨hit',hst.2.at λo e=>(hs'.2 _ hne).trans e⟩ hs'
 done:=λs Q E hst hE=>zaJ hh hst.1 hst.2 (by simp) hE
theorem zaU {X:Cx} {pins:List (Addr×Obj)} {σ:L2.St} {H:Hp} {s:Shared} {h':Heap} {t':Nat} {ch:List Addr} {a:Addr} {o:HO} (I:Inv X pins σ H s) (hf:∀b∈ch,zjP X pins H b)
 (k:∀b o,b∉ch->s.heap.get? b=some o->h'.get? b=some o) (th:∀b∈ch,∃o,h'.get? b=some o) (ha:s.heap.objs.size<=a) (new:Xi X.prog X.w (upd H a o) h' a o):
 Inv X pins σ (upd H a o) {s with heap:=h',toks:=t'}:=by
 have hna:H a=none:=I.hok.fresh ha;have same:yt H (upd H a o):=yt.new hna o
 refine I.step (g':=s.gens) (d':=s.drawn) (ch:=ch) (λb hb=>⟨(hf b hb).2.2.2.1,(hf b hb).2.1,(hf b hb).2.2.2.2.1,(hf b hb).2.2.2.2.2⟩) (λb u _ _ hc e _=>k b u hc e) (λb u _ _ hc e _=>⟨u.slots,k b u hc e⟩)
  (λb u hc e n=>by rw [yE (jO (jY (jv e) ha))];exact n) (λb u hc e=>⟨u,k b u hc e⟩) (λb xs e=>same _ _ e) (λb u v e=>same _ _ e) (λb ps e=>⟨#[],by rw [same _ _ e];simp⟩) (λm hm=>?_) (λb u e=>?_) I.bare
 ·obtain ⟨ob,es,ep,ho,r⟩:=hm;exact ⟨ob,es,ep,k _ ob (λz=>(hf _ z).2.1 rfl) ho,r⟩
 ·by_cases hb:b=a
  ·subst hb;rw [xC] at e;cases e;exact new
  ·rw [yE hb] at e;refine (I.hok b u e).stay (λc v hc q=>k c v ?_ q) (λ_ q=>same _ _ q) λ_ _ q=>same _ _ q;intro z
   rcases hc with q|q
   ·rw [q] at z;rw [(hf b z).1] at e;cases e
   ·rw [(hf c z).1] at q;cases q
def ItE (b:Bool) (K:PySem.W.Frag) (a:Addr):It:=
 ⟨λi H=>∃xs x,SqB b K H a xs/\xs[i]? =some x,λi H v H'=>∃p x,(∀xs,SqB b K H a xs->xs[i]? =some x)/\H p=none/\v= .ref p/\H'=upd H p (.tup [.int i,x]),λi H=>∃xs,SqB b K H a xs/\xs.length<=i⟩
theorem zhq:(2:Nat)<=sizeLine:=by decide
theorem zmq {P:Program} {w:World} {K:PySem.W.Frag} {elts:List Expr} {k:Nat} {pos:Pos} (b:Bool) (a e it:Addr) (hae:a≠it) (hei:e≠it) (hea:e≠a):
 Turn P w K (.Tuple elts k pos) (ItE b K a) [e,it] e (λi h=>(∃old,IsEnum h e it i old)/\ItB b h it a i) where
 mem:=by simp
 obj:=λi h st c hc=>by
  rcases jn.mp hc with rfl|hc
  ·obtain ⟨old,z⟩:=st.1;exact ⟨_,z,λv q=>by cases q⟩
  ·obtain rfl:c=it:=by simpa using hc
   exact st.2.obj
 keep:=λi h h' st kk=>by
  obtain ⟨⟨old,z⟩,y⟩:=st;exact ⟨⟨old,kk e (by simp) _ z⟩,y.at λo q=>kk it (by simp) o q⟩
 item:=by
  intro X hP hw hK hc i pins s σ H E I hf st hg;subst hP hw hK;obtain ⟨⟨old,he⟩,hit⟩:=st;obtain ⟨xs,x,hq,hx⟩:=hg;obtain ⟨its,rv,p,hz⟩:=seB I hq;obtain ⟨u,hu,ru⟩:=rv.get hx;have hh:=I.ok.hd hc;have hi:i<its.toArray.size:=by have:=(je.mp hu).1;simpa using this
  refine wpAny_pyNext_enum_itemD (drawsB (A:=X.A.in1) hh b it a hae its.toArray) he ⟨hit,p⟩ hi hei (by simp only [jn,jp,or_false,not_or];exact ⟨hei,hea⟩) λx' h' tk hP ho hst hT hsz hk=>?_
  have ex:x'=u:=by
   have hP':its[i]? =some x':=by simpa using hP
   rw [hu] at hP';exact (jL hP').symm
  subst ex;refine ⟨_,rfl,wpAny_letOwnedTupleGo_enum ho λh'' he'' hs''=>?_⟩;have helt:e<s.heap.objs.size:=jv he;have hilt:it<s.heap.objs.size:=by obtain ⟨o,z,_⟩:=hit.obj;exact jv z
  have hT'':h''.get? s.heap.objs.size=some {cls:= .type "tuple",data:= .seq #[.int i tk,x']}:=(hs''.2 _ (Jd helt)).trans hT;refine ⟨.ref s.heap.objs.size,upd H s.heap.objs.size (.tup [.int i,x]),?_,rfl,⟨_,x,λys hy=>by rw [ziQ I hy hq];exact hx,I.fresh,rfl,rfl⟩,⟨⟨x',by simpa using he''⟩,hst.1.at λo q=>(hs''.2 _ hei.symm).trans q⟩,λc hc=>?_⟩
  ·refine zaU (s:=s) (t':=tk+1) (ch:=[e,it]) I hf (λc o hcn q=>(hs''.2 c (λz=>hcn (by simp [z]))).trans (hk c o (λz=>hcn (by simp [z])) (λz=>hcn (by simp [z])) q)) (λc hc=>?_) (jy _) ⟨zhq,[.int i tk,x'], .cons ⟨tk,rfl⟩ (.cons ru .nil),⟨_,hT'',rfl,_,rfl⟩⟩
   rcases jn.mp hc with rfl|hc
   ·exact ⟨_,he''⟩
   ·obtain rfl:c=it:=by simpa using hc
    obtain ⟨o,z,_⟩:=hst.1.obj;exact ⟨o,(hs''.2 _ hei.symm).trans z⟩
  ·have hlt:c<s.heap.objs.size:=by
    rcases jn.mp hc with rfl|hc
    ·exact helt
    ·obtain rfl:c=it:=by simpa using hc
     exact hilt
   rw [yE (jO hlt)];exact (hf c hc).1
 done:=by
  intro X hP hw hK hc i pins s σ H E I hf st hg;subst hP hw hK;obtain ⟨⟨old,he⟩,hit⟩:=st;obtain ⟨xs,hq,hx⟩:=hg;obtain ⟨its,rv,p,hz⟩:=seB I hq;have hh:=I.ok.hd hc;have hl:=rv.length;obtain ⟨f0,f1,f2,f3,f4,f5⟩:=hf it (by simp);have hT:s.TypeIs (.ref e) "enumerate":=⟨_,he,rfl⟩;unfold pyNext;refine jg (JF (qF (name:=Str.ofString "__next__") hT F.slot_enumerate_next (qT F.slot_enumerate_next hT F.entry_enumerate_next ?_ (F.args_enumerate_next_1 _))));show wpAny _ _ (field (.ref e) 2>>=_) _ _ _;refine jg (wO he rfl (x:= .ref it) rfl ?_);refine jg (zaJ (A:=X.A.in1) hh hit p (by simp;omega) λh' y he' hx'=>?_);obtain ⟨o,ho,hcl⟩:=hx';refine jg (wpAny_isInstance (T:="StopIteration") (b:=true) ⟨o,ho,hcl⟩ isSubtype_stop ?_);exact jr ⟨rfl,I.turned (t':=s.toks) (λc o hb e=>he' c o hb e) f0 f1 f3 f4 f5⟩
 self:=λ_ _ _ _ _ st h=>by
  obtain ⟨⟨old,he⟩,_⟩:=st;exact wpAny_pyIter_enum he h
theorem zhX (l:Addr) (items:Array Value) (n:Nat) (dct:Option Addr) (sl:Array (Option Value)):
 Meets (Builtin.«enumerate.__new__» ⟨[.type "enumerate", .ref l],[]⟩) (λ_ R s=>s.heap.get? l=some {cls:= .type "tuple",dict:=dct,data:= .seq items n,slots:=sl}/\
  R (.ok (.ret (.ref (s.heap.push {cls:= .type "tuple_iterator",data:= .fields #[.ref l, .int 0 0]}).objs.size)))
    {s with heap:=(s.heap.push {cls:= .type "tuple_iterator",data:= .fields #[.ref l, .int 0 0]}).push {cls:= .type "enumerate",data:= .fields #[.none, .bool false, .ref s.heap.objs.size,rawInt 0, .none, .none]}}):=
 .of_wp λprog w A R s h=>by
  obtain ⟨hp,g,d,tk,os⟩:=s;obtain ⟨hl,h⟩:=h;have hsub:=sub_enumerate;have hL:Heap.IsTuple (Shared.heap ⟨hp,g,d,tk,os⟩) l items:=⟨_,hl,rfl,n,rfl⟩
  wp_walk using Jz hl
  refine wpAny_stack_any λst=>jr ?_
  split
  ·rename_i c _ _ _ _ _;cases (c==Value.type "enumerate")
   ·wp_walk using Jz hl,wl hL
    exact ⟨_,rfl,h⟩
   ·wp_walk using Jz hl,wl hL
    exact ⟨_,rfl,h⟩
  ·wp_walk using Jz hl,wl hL
   exact ⟨_,rfl,h⟩
theorem zl2 {prog:Program} {w:World} {A:Around} {E:Value->Shared->Prop} {s:Shared} {b:Bool} {l:Addr} {items:Array Value} {Q:Value->Shared->Prop} (hL:SeB b s.heap l items)
 (h:∀h',IsEnum h' (s.heap.objs.size+1) s.heap.objs.size 0 .none->ItB b h' s.heap.objs.size l 0->h'.objs.size=s.heap.objs.size+2->
  (∀b o,s.heap.get? b=some o->h'.get? b=some o)->Q (.ref (s.heap.objs.size+1)) {s with heap:=h'}):
 wpAny (model prog w) A (call (.type "enumerate") [.ref l]) Q E s:=by
 cases b with
 |true=>exact call_enumerate_list hL h
 |false=>
  obtain ⟨⟨c,dct,dt,sl⟩,hl,hc,n,hd⟩:=hL
  replace hc:c= .type "tuple":=hc
  replace hd:dt= .seq items n:=hd
  subst hc hd
  refine callType_new F.called_enumerate (by decide) (F.typeCall_enumerate_1 _) (F.newCall_enumerate_1 _) (λobj=>F.args_object_init_2 obj _) F.entry_enumerate_new
   (zhX l items n dct sl) ⟨hl,?_⟩
  have hz:(s.heap.push {cls:= .type "tuple_iterator",data:= .fields #[.ref l, .int 0 0]}).objs.size=s.heap.objs.size+1:=jT ..;show _/\_;rw [hz]
  have he:IsEnum ((s.heap.push {cls:= .type "tuple_iterator",data:= .fields #[.ref l, .int 0 0]}).push
   {cls:= .type "enumerate",data:= .fields #[.none, .bool false, .ref s.heap.objs.size,rawInt 0, .none, .none]}) (s.heap.objs.size+1) s.heap.objs.size 0 .none:=by
   have:=jx (s.heap.push {cls:= .type "tuple_iterator",data:= .fields #[.ref l, .int 0 0]})
    (o:={cls:= .type "enumerate",data:= .fields #[.none, .bool false, .ref s.heap.objs.size,rawInt 0, .none, .none]}) rfl
   rw [hz] at this;exact this
  refine ⟨⟨_,he,rfl⟩,h _ he ⟨_,ji _ (jx _ rfl),rfl,rfl⟩ (by rw [jT,hz]) λb o x=>ji _ (ji _ x)⟩
section
variable {X:Cx}
def iEnum (b:Bool) (K:PySem.W.Frag) (ta:TA):TI:=λσ H R=>ta σ H λvs H1=>∃a,vs=[.ref a]/\(∃xs,SqB b K H1 a xs)/\R (ItE b K a) H1
theorem zdA (b:Bool) {elts:List Expr} {k:Nat} {tpos:Pos} {a:Expr} {ta:TA} {p pos:Pos} (hg:Gl X "enumerate") (hm:X.mg "enumerate"=none) (ha:PA X [a] ta) (hs:starEach [a] X.env=[(false,eval a X.env)]:=by rfl):
 PI X (.Tuple elts k tpos) (.Call (.Name "enumerate" p) [a] [] pos) (iEnum b X.K ta):=by
 intro pins s σ H R I h;refine Call_ (zaO I hg hm zig (wa (thn (ha pos pins s σ H _ I h) λus s1 ⟨vs,H1,I1,r1,q1⟩=>?_) hs rfl));obtain ⟨l,e,⟨xs,hq⟩,q⟩:=q1;subst e;obtain ⟨u,rfl,ru⟩:=zc0 r1;cases (show u=Value.ref l from ru);obtain ⟨its,rv,p1,hz⟩:=seB I1 hq;refine zl2 p1 λh' he hit hsz hk=>wpAny_pyIter_enum he ?_;have I2:Inv X pins σ H1 {s1 with heap:=h'}:=I1.kept (t':=s1.toks) hk;have hl:l<s1.heap.objs.size:=by obtain ⟨o,z⟩:=p1.obj;exact jv z
 refine ⟨s1.heap.objs.size+1,[s1.heap.objs.size+1,s1.heap.objs.size],_,_,H1,rfl,I2,zmq b l _ _ (jO hl) (Nat.succ_ne_self _) (Jd (qD hl)),⟨⟨_,he⟩,hit⟩,λc hc=>?_,q⟩
 rcases jn.mp hc with rfl|hc
 ·exact I1.fpOk (wj _) (I1.hok.fresh (wj _))
 ·obtain rfl:c=s1.heap.objs.size:=by simpa using hc
  exact I1.fpOk (jy _) (I1.hok.fresh (jy _))
end
theorem ItB.extBut {b:Bool} {h h':Heap} {it a c:Addr} {i:Nat} (x:ItB b h it a i) (hs:Heap.ExtBut c h h') (hne:it≠c):ItB b h' it a i:=x.at λo e=>hs _ o hne e
theorem SeB.extBut {b:Bool} {h h':Heap} {a c:Addr} {items:Array Value} (x:SeB b h a items) (hs:Heap.ExtBut c h h') (hne:a≠c):SeB b h' a items:=x.at λo e=>hs _ o hne e
section
variable {prog:Program} {w:World} {A:Around} {E:Value->Shared->Prop} {s:Shared}
open PySem
theorem zmg {c1 c2:Bool} {z TI TO i1 i2 l1 l2:Addr} {k1 k2:Nat} {xs ys:Array Value} {x y a b:Value} {Q:Value->Shared->Prop} (D:ZipApart z TI TO i1 i2 l1 l2)
 (hz:IsZip s.heap z TI TO .none) (hTI:IsPair s.heap TI (.ref i1) (.ref i2)) (hTO:IsPair s.heap TO a b)
 (h1:ItB c1 s.heap i1 l1 k1) (h2:ItB c2 s.heap i2 l2 k2) (hl1:SeB c1 s.heap l1 xs) (hl2:SeB c2 s.heap l2 ys) (hx:xs[k1]? =some x) (hy:ys[k2]? =some y)
 (hQ:∀h',IsZip h' z TI TO (rawInt s.heap.objs.size)->IsPair h' TO x y->ItB c1 h' i1 l1 (k1+1)->ItB c2 h' i2 l2 (k2+1)->IsPair h' s.heap.objs.size x y->h'.objs.size=s.heap.objs.size+1->
  (∀c o,c≠z->c≠TO->c≠i1->c≠i2->s.heap.get? c=some o->h'.get? c=some o)->Q (.ref s.heap.objs.size) {s with heap:=h'}):
 wpAny (model prog w) A (Builtin.«zip.__next__» ⟨[.ref z],[]⟩) (λfin s'=>∃v,fin= .done (.ret v)/\Q v s') E s:=by
 show wpAny _ _ (field (.ref z) 2>>=_) _ _ _;refine jg (wO hz rfl (x:= .bool false) rfl ?_);show wpAny _ _ (field (.ref z) 3>>=_) _ _ _;refine jg (wO hz rfl (x:= .ref TI) rfl ?_);refine jg (Jh hTI rfl ?_);show wpAny _ _ (Builtin.SmallTypes.ownedTupleIsFree (.ref z)>>=_) _ _ _;refine jg ?_;unfold Builtin.SmallTypes.ownedTupleIsFree;refine jg (wO hz rfl (x:= .none) rfl (jr ?_));simp only [if_true];refine jg (Qj ?_);refine jg (wO hz rfl (x:= .ref TO) rfl ?_);refine jg (Je hz (by simp) λh₁ hz₁ hs₁=>?_)
 replace hz₁:IsZip h₁ z TI TO .ellipsis:=hz₁
 refine jg ?_;simp only [List.zipIdx_cons,List.zipIdx_nil,List.forIn_cons,List.forIn_nil];refine jg (jg (wpAny_onRaise ?_));show wpAny _ _ (Builtin.SmallTypes.nextOf (.ref i1)>>=_) _ _ _;refine jg (Uf (h1.extBut hs₁.extBut D.i1z) (hl1.extBut hs₁.extBut D.l1z) hx λh₂ h1₂ hs₂=>jr ?_);have hTO₂:IsPair h₂ TO a b:=hs₂.extBut _ _ D.TOi1 (hs₁.extBut _ _ D.TOz hTO);refine jg (Jh hTO₂ rfl ?_);refine jg (wpAny_updateSeq_pair hTO₂ λh₃ hTO₃ hs₃=>?_)
 replace hTO₃:IsPair h₃ TO x b:=hTO₃
 refine jg (wpAny_letGo (jr ?_));refine jg (jg (wpAny_onRaise ?_));show wpAny _ _ (Builtin.SmallTypes.nextOf (.ref i2)>>=_) _ _ _
 refine jg (Uf (((h2.extBut hs₁.extBut D.i2z).extBut hs₂.extBut D.i12.symm).extBut hs₃.extBut D.TOi2.symm)
  (((hl2.extBut hs₁.extBut D.l2z).extBut hs₂.extBut D.l2i1).extBut hs₃.extBut D.l2TO) hy λh₄ h2₄ hs₄=>jr ?_)
 have hTO₄:IsPair h₄ TO x b:=hs₄.extBut _ _ D.TOi2 hTO₃;refine jg (Jh hTO₄ rfl ?_);refine jg (wpAny_updateSeq_pair hTO₄ λh₅ hTO₅ hs₅=>?_)
 replace hTO₅:IsPair h₅ TO x y:=hTO₅
 refine jg (wpAny_letGo (jr (jr ?_)));refine jg (Jh hTO₅ rfl ?_);refine jg (wpAny_newTuple ?_);have hsz:h₅.objs.size=s.heap.objs.size:=by rw [hs₅.1,hs₄.1,hs₃.1,hs₂.1,hs₁.1]
 have hz₅:IsZip h₅ z TI TO .ellipsis:=hs₅.extBut _ _ D.TOz.symm (hs₄.extBut _ _ D.i2z.symm (hs₃.extBut _ _ D.TOz.symm (hs₂.extBut _ _ D.i1z.symm hz₁)))
 have hk₅:∀c o,c≠z->c≠TO->c≠i1->c≠i2->s.heap.get? c=some o->h₅.get? c=some o:=λc o c1 c2 c3 c4 e=>
  hs₅.extBut _ _ c2 (hs₄.extBut _ _ c4 (hs₃.extBut _ _ c2 (hs₂.extBut _ _ c3 (hs₁.extBut _ _ c1 e))))
 have h1₅:ItB c1 h₅ i1 l1 (k1+1):=((h1₂.extBut hs₃.extBut D.TOi1.symm).extBut hs₄.extBut D.i12).extBut hs₅.extBut D.TOi1.symm;have h2₅:ItB c2 h₅ i2 l2 (k2+1):=h2₄.extBut hs₅.extBut D.TOi2.symm;have hzlt:z<h₅.objs.size:=jv hz₅;have hTOlt:TO<h₅.objs.size:=jv hTO₅;have hi1lt:i1<h₅.objs.size:=by obtain ⟨_,e,_⟩:=h1₅.obj;exact jv e
 have hi2lt:i2<h₅.objs.size:=by obtain ⟨_,e,_⟩:=h2₅.obj;exact jv e
 show wpAny _ _ (Builtin.SmallTypes.ownedTupleHandOut (.ref z) (.ref h₅.objs.size)>>=_) _ _ _;refine jg ?_;unfold Builtin.SmallTypes.ownedTupleHandOut;have hz₆:IsZip (h₅.push {cls:= .type "tuple",data:= .seq #[x,y]}) z TI TO .ellipsis:=ji _ hz₅;refine jg (Je hz₆ (by simp) λh₇ hz₇ hs₇=>?_)
 replace hz₇:IsZip h₇ z TI TO (rawInt h₅.objs.size):=hz₇
 refine Je hz₇ (by simp) λh₈ hz₈ hs₈=>?_
 replace hz₈:IsZip h₈ z TI TO (rawInt h₅.objs.size):=hz₈
 have up:∀c o,c≠z->h₅.get? c=some o->h₈.get? c=some o:=λc o c1 e=>hs₈.extBut _ _ c1 (hs₇.extBut _ _ c1 (ji _ e));have hT₈:IsPair h₈ h₅.objs.size x y:=hs₈.extBut _ _ (Jd hzlt) (hs₇.extBut _ _ (Jd hzlt) (jx _ rfl));have hz8:h₈.objs.size=h₅.objs.size+1:=by rw [hs₈.1,hs₇.1,jT]
 rw [hsz] at hz₈ hT₈ hz8;refine jr ⟨_,rfl,?_⟩;show Q (.ref h₅.objs.size) _;rw [hsz];exact hQ h₈ hz₈ (up _ _ D.TOz hTO₅) (h1₅.at λo e=>up _ o D.i1z e) (h2₅.at λo e=>up _ o D.i2z e) hT₈ hz8 λc o c1 c2 c3 c4 e=>up c o c1 (hk₅ c o c1 c2 c3 c4 e)
theorem zoH {c1 c2:Bool} {z TI TO i1 i2 l1 l2:Addr} {k1 k2:Nat} {xs ys:Array Value} {a b:Value} {Q:Fin->Shared->Prop} (hh:A.handled=none) (D:ZipApart z TI TO i1 i2 l1 l2)
 (hz:IsZip s.heap z TI TO .none) (hTI:IsPair s.heap TI (.ref i1) (.ref i2)) (hTO:IsPair s.heap TO a b)
 (h1:ItB c1 s.heap i1 l1 k1) (h2:ItB c2 s.heap i2 l2 k2) (hl1:SeB c1 s.heap l1 xs) (hl2:SeB c2 s.heap l2 ys) (hend:xs[k1]? =none\/ys[k2]? =none)
 (hE:∀h' e,(∀c o,c≠z->c≠TO->c≠i1->c≠i2->s.heap.get? c=some o->h'.get? c=some o)->(∃o,h'.get? e=some o/\o.cls= .type "StopIteration")->E (.ref e) {s with heap:=h'}):
 wpAny (model prog w) A (Builtin.«zip.__next__» ⟨[.ref z],[]⟩) Q E s:=by
 show wpAny _ _ (field (.ref z) 2>>=_) _ _ _;refine jg (wO hz rfl (x:= .bool false) rfl ?_);show wpAny _ _ (field (.ref z) 3>>=_) _ _ _;refine jg (wO hz rfl (x:= .ref TI) rfl ?_);refine jg (Jh hTI rfl ?_);show wpAny _ _ (Builtin.SmallTypes.ownedTupleIsFree (.ref z)>>=_) _ _ _;refine jg ?_;unfold Builtin.SmallTypes.ownedTupleIsFree;refine jg (wO hz rfl (x:= .none) rfl (jr ?_));simp only [if_true];refine jg (Qj ?_);refine jg (wO hz rfl (x:= .ref TO) rfl ?_);refine jg (Je hz (by simp) λh₁ hz₁ hs₁=>?_)
 replace hz₁:IsZip h₁ z TI TO .ellipsis:=hz₁
 refine jg ?_;simp only [List.zipIdx_cons,List.zipIdx_nil,List.forIn_cons,List.forIn_nil];refine jg (jg (wpAny_onRaise ?_));show wpAny _ _ (Builtin.SmallTypes.nextOf (.ref i1)>>=_) _ _ _
 cases hx:xs[k1]? with
 |none=>
  refine jg (zaJ hh (h1.extBut hs₁.extBut D.i1z) (hl1.extBut hs₁.extBut D.l1z) hx λh₂ e hs₂ he=>?_);obtain ⟨oe,hoe,hce⟩:=he;have hz₂:IsZip h₂ z TI TO .ellipsis:=hs₂ _ _ D.i1z.symm hz₁;have hez:e≠z:=λx=>by subst x;rw [hz₂] at hoe;cases hoe;simp at hce
  refine Je hz₂ (by simp) λh₃ _ hs₃=>hE h₃ e (λc o c1 _ c3 _ x=>hs₃.extBut _ _ c1 (hs₂ _ _ c3 (hs₁.extBut _ _ c1 x))) ⟨oe,hs₃.extBut _ _ hez hoe,hce⟩
 |some x=>
  have hy:ys[k2]? =none:=by rcases hend with h|h;rw [hx] at h;cases h;exact h
  refine jg (Uf (h1.extBut hs₁.extBut D.i1z) (hl1.extBut hs₁.extBut D.l1z) hx λh₂ h1₂ hs₂=>jr ?_);have hTO₂:IsPair h₂ TO a b:=hs₂.extBut _ _ D.TOi1 (hs₁.extBut _ _ D.TOz hTO);refine jg (Jh hTO₂ rfl ?_);refine jg (wpAny_updateSeq_pair hTO₂ λh₃ hTO₃ hs₃=>?_);refine jg (wpAny_letGo (jr ?_));refine jg (jg (wpAny_onRaise ?_));show wpAny _ _ (Builtin.SmallTypes.nextOf (.ref i2)>>=_) _ _ _
  refine jg (zaJ hh (((h2.extBut hs₁.extBut D.i2z).extBut hs₂.extBut D.i12.symm).extBut hs₃.extBut D.TOi2.symm)
   (((hl2.extBut hs₁.extBut D.l2z).extBut hs₂.extBut D.l2i1).extBut hs₃.extBut D.l2TO) hy λh₄ e hs₄ he=>?_)
  obtain ⟨oe,hoe,hce⟩:=he;have hz₄:IsZip h₄ z TI TO .ellipsis:=hs₄ _ _ D.i2z.symm (hs₃.extBut _ _ D.TOz.symm (hs₂.extBut _ _ D.i1z.symm hz₁));have hez:e≠z:=λx=>by subst x;rw [hz₄] at hoe;cases hoe;simp at hce
  refine Je hz₄ (by simp) λh₅ _ hs₅=>hE h₅ e (λc o c1 c2 c3 c4 x=>hs₅.extBut _ _ c1 (hs₄ _ _ c4 (hs₃.extBut _ _ c2 (hs₂.extBut _ _ c3 (hs₁.extBut _ _ c1 x))))) ⟨oe,hs₅.extBut _ _ hez hoe,hce⟩
end
def ItZ (c1 c2:Bool) (K:PySem.W.Frag) (a1 a2:Addr):It:=
 ⟨λi H=>∃xs ys x y,SqB c1 K H a1 xs/\SqB c2 K H a2 ys/\xs[i]? =some x/\ys[i]? =some y,
  λi H v H'=>∃p x y,(∀xs,SqB c1 K H a1 xs->xs[i]? =some x)/\(∀ys,SqB c2 K H a2 ys->ys[i]? =some y)/\H p=none/\v= .ref p/\H'=upd H p (.tup [x,y]),
  λi H=>∃xs ys,SqB c1 K H a1 xs/\SqB c2 K H a2 ys/\(xs.length<=i\/ys.length<=i)⟩
theorem zoR {P:Program} {w:World} {K:PySem.W.Frag} {elts:List Expr} {k:Nat} {pos:Pos} (c1 c2:Bool) (z TI TO i1 i2 l1 l2:Addr) (D:ZipApart z TI TO i1 i2 l1 l2):
 Turn P w K (.Tuple elts k pos) (ItZ c1 c2 K l1 l2) [z,TI,TO,i1,i2] z (λi h=>IsZip h z TI TO .none/\IsPair h TI (.ref i1) (.ref i2)/\(∃a b,IsPair h TO a b)/\ItB c1 h i1 l1 i/\ItB c2 h i2 l2 i) where
 mem:=by simp
 obj:=λi h st c hc=>by
  obtain ⟨hz,hTI,⟨a,b,hTO⟩,h1,h2⟩:=st;simp only [jn,jp,or_false] at hc
  rcases hc with rfl|rfl|rfl|rfl|rfl
  ·exact ⟨_,hz,λv q=>by cases q⟩
  ·exact ⟨_,hTI,λv q=>by cases q⟩
  ·exact ⟨_,hTO,λv q=>by cases q⟩
  ·exact h1.obj
  ·exact h2.obj
 keep:=λi h h' st kk=>by
  obtain ⟨hz,hTI,⟨a,b,hTO⟩,h1,h2⟩:=st;exact ⟨kk z (by simp) _ hz,kk TI (by simp) _ hTI,⟨a,b,kk TO (by simp) _ hTO⟩,h1.at λo e=>kk i1 (by simp) o e,h2.at λo e=>kk i2 (by simp) o e⟩
 item:=by
  intro X hP hw hK hc i pins s σ H E I hf st hg;subst hP hw hK;obtain ⟨hz,hTI,⟨a,b,hTO⟩,h1,h2⟩:=st;obtain ⟨xs,ys,x,y,hq1,hq2,hx,hy⟩:=hg;obtain ⟨its1,rv1,p1,_⟩:=seB I hq1;obtain ⟨its2,rv2,p2,_⟩:=seB I hq2;obtain ⟨u1,hu1,ru1⟩:=rv1.get hx;obtain ⟨u2,hu2,ru2⟩:=rv2.get hy;have hT:s.TypeIs (.ref z) "zip":=⟨_,hz,rfl⟩;unfold pyNext
  refine jg (JF (qF (name:=Str.ofString "__next__") hT F.slot_zip_next (qT F.slot_zip_next hT F.entry_zip_next
   (zmg D hz hTI hTO h1 h2 p1 p2 (x:=u1) (y:=u2) (by simpa using hu1) (by simpa using hu2) λh' a1 a2 a3 a4 a5 a6 hk=>jr ?_) (F.args_zip_next_1 _))))
  refine ⟨_,rfl,wpAny_letOwnedTupleGo_zip a1 λh'' hz'' hs''=>?_⟩;have lt:∀{c o},s.heap.get? c=some o->c<s.heap.objs.size:=λe=>jv e;have i1lt:i1<s.heap.objs.size:=by obtain ⟨_,e,_⟩:=h1.obj;exact lt e
  have i2lt:i2<s.heap.objs.size:=by obtain ⟨_,e,_⟩:=h2.obj;exact lt e
  have hTI':IsPair h' TI (.ref i1) (.ref i2):=hk _ _ D.TIz D.TITO D.TIi1 D.TIi2 hTI;have up:∀c o,c≠z->h'.get? c=some o->h''.get? c=some o:=λc o hc e=>(hs''.2 c hc).trans e;have hT'':h''.get? s.heap.objs.size=some {cls:= .type "tuple",data:= .seq #[u1,u2]}:=up _ _ (Jd (lt hz)) a5
  have st'':IsZip h'' z TI TO .none/\IsPair h'' TI (.ref i1) (.ref i2)/\(∃a b,IsPair h'' TO a b)/\ItB c1 h'' i1 l1 (i+1)/\ItB c2 h'' i2 l2 (i+1):=
   ⟨hz'',up _ _ D.TIz hTI',⟨u1,u2,up _ _ D.TOz a2⟩,a3.at λo e=>up _ o D.i1z e,a4.at λo e=>up _ o D.i2z e⟩
  refine ⟨.ref s.heap.objs.size,upd H s.heap.objs.size (.tup [x,y]),?_,rfl,⟨_,x,y,λzs hy=>by rw [ziQ I hy hq1];exact hx,λzs hy'=>by rw [ziQ I hy' hq2];exact hy,I.fresh,rfl,rfl⟩,st'',λc hc=>?_⟩
  ·refine zaU (s:=s) (t':=s.toks) (ch:=[z,TI,TO,i1,i2]) I hf (λc o hcn q=>?_) (λc hc=>?_) (jy _) ⟨zhq,[u1,u2], .cons ru1 (.cons ru2 .nil),⟨_,hT'',rfl,_,rfl⟩⟩
   ·have n1:c≠z:=λe=>hcn (by simp [e]);exact up c o n1 (hk c o n1 (λe=>hcn (by simp [e])) (λe=>hcn (by simp [e])) (λe=>hcn (by simp [e])) q)
   ·obtain ⟨z1,z2,⟨_,_,z3⟩,z4,z5⟩:=st'';simp only [jn,jp,or_false] at hc
    rcases hc with rfl|rfl|rfl|rfl|rfl
    ·exact ⟨_,z1⟩
    ·exact ⟨_,z2⟩
    ·exact ⟨_,z3⟩
    ·obtain ⟨o,e,_⟩:=z4.obj;exact ⟨o,e⟩
    ·obtain ⟨o,e,_⟩:=z5.obj;exact ⟨o,e⟩
  ·have hlt:c<s.heap.objs.size:=by
    simp only [jn,jp,or_false] at hc
    rcases hc with rfl|rfl|rfl|rfl|rfl
    ·exact lt hz
    ·exact lt hTI
    ·exact lt hTO
    ·exact i1lt
    ·exact i2lt
   rw [yE (jO hlt)];exact (hf c hc).1
 done:=by
  intro X hP hw hK hc i pins s σ H E I hf st hg;subst hP hw hK;obtain ⟨hz,hTI,⟨a,b,hTO⟩,h1,h2⟩:=st;obtain ⟨xs,ys,hq1,hq2,hend⟩:=hg;obtain ⟨its1,rv1,p1,_⟩:=seB I hq1;obtain ⟨its2,rv2,p2,_⟩:=seB I hq2;have e1:=rv1.length;have e2:=rv2.length;have hh:=I.ok.hd hc;have hT:s.TypeIs (.ref z) "zip":=⟨_,hz,rfl⟩;unfold pyNext
  refine jg (JF (qF (name:=Str.ofString "__next__") hT F.slot_zip_next (qT F.slot_zip_next hT F.entry_zip_next
   (zoH (A:=X.A.in1) hh D hz hTI hTO h1 h2 p1 p2 (by simp only [List.getElem?_toArray];rcases hend with q|q;exact .inl (jE (by omega));exact .inr (jE (by omega))) λh' e hk he=>?_) (F.args_zip_next_1 _))))
  obtain ⟨o,ho,hcl⟩:=he;refine jg (wpAny_isInstance (T:="StopIteration") (b:=true) ⟨o,ho,hcl⟩ isSubtype_stop ?_);refine jr ⟨rfl,?_⟩
  refine I.step (g':=s.gens) (d':=s.drawn) (t':=s.toks) (H':=H) (ch:=[z,TO,i1,i2]) (λb hb=>?_) (λb u _ _ hcn e _=>hk b u (λq=>hcn (by simp [q])) (λq=>hcn (by simp [q])) (λq=>hcn (by simp [q])) (λq=>hcn (by simp [q])) e)
   (λb u _ _ hcn e _=>⟨u.slots,hk b u (λq=>hcn (by simp [q])) (λq=>hcn (by simp [q])) (λq=>hcn (by simp [q])) (λq=>hcn (by simp [q])) e⟩) (λ_ _ _ _ n=>n)
   (λb u hcn e=>⟨u,hk b u (λq=>hcn (by simp [q])) (λq=>hcn (by simp [q])) (λq=>hcn (by simp [q])) (λq=>hcn (by simp [q])) e⟩) (λ_ _ e=>e) (λ_ _ _ e=>e) (λb ps e=>⟨#[],by rw [e];simp⟩) (λm hm=>?_) (λb u e=>?_) I.bare
  ·have hb':b∈[z,TI,TO,i1,i2]:=by
    simp only [jn,jp,or_false] at hb⊢
    rcases hb with q|q|q|q<;>simp [q]
   exact ⟨(hf b hb').2.2.2.1,(hf b hb').2.1,(hf b hb').2.2.2.2.1,(hf b hb').2.2.2.2.2⟩
  ·obtain ⟨ob,es,ep,ho,r⟩:=hm;exact ⟨ob,es,ep,hk _ ob (λq=>(hf z (by simp)).2.1 q.symm) (λq=>(hf TO (by simp)).2.1 q.symm) (λq=>(hf i1 (by simp)).2.1 q.symm) (λq=>(hf i2 (by simp)).2.1 q.symm) ho,r⟩
  ·refine (I.hok b u e).stay (λc v hcc q=>?_) (λ_ q=>q) λ_ _ q=>q
   have nf:∀d∈[z,TI,TO,i1,i2],c≠d:=λd hd z=>by
    subst z
    rcases hcc with q|q
    ·rw [<-q,(hf _ hd).1] at e;cases e
    ·rw [(hf _ hd).1] at q;cases q
   exact hk c v (nf z (by simp)) (nf TO (by simp)) (nf i1 (by simp)) (nf i2 (by simp)) q
 self:=λ_ _ _ _ _ st h=>wpAny_pyIter_zip st.1 h
def zp2 (b:Bool) (l:Addr):Obj:={cls:= .type (match b with|true=>"list_iterator"|false=>"tuple_iterator"),data:= .fields #[.ref l, .int 0 0]}
abbrev zB1 (c1:Bool) (h:Heap) (l1:Addr):Heap:=h.push (zp2 c1 l1)
abbrev zB2 (c1 c2:Bool) (h:Heap) (l1 l2:Addr):Heap:=(zB1 c1 h l1).push (zp2 c2 l2)
abbrev zB3 (c1 c2:Bool) (h:Heap) (l1 l2:Addr):Heap:=(zB2 c1 c2 h l1 l2).push {cls:= .type "tuple",data:= .seq #[.ref h.objs.size, .ref (zB1 c1 h l1).objs.size]}
abbrev zB4 (c1 c2:Bool) (h:Heap) (l1 l2:Addr):Heap:=(zB3 c1 c2 h l1 l2).push {cls:= .type "tuple",data:= .seq #[.none, .none]}
abbrev zB5 (c1 c2:Bool) (h:Heap) (l1 l2:Addr):Heap:=(zB4 c1 c2 h l1 l2).push {cls:= .type "zip",data:= .fields #[.none, .bool false, .bool false, .ref (zB2 c1 c2 h l1 l2).objs.size, .ref (zB3 c1 c2 h l1 l2).objs.size]}
theorem SeB.push {b:Bool} {h:Heap} {a:Addr} {items:Array Value} (x:SeB b h a items) (o:Obj):SeB b (h.push o) a items:=x.at λ_ e=>ji _ e
theorem zlA (c1 c2:Bool) (l1 l2:Addr) (xs ys:Array Value):
 Meets (Builtin.«zip.__new__» ⟨[.type "zip", .ref l1, .ref l2],[]⟩) (λ_ R s=>SeB c1 s.heap l1 xs/\SeB c2 s.heap l2 ys/\
  R (.ok (.ret (.ref (zB4 c1 c2 s.heap l1 l2).objs.size))) {s with heap:=zB5 c1 c2 s.heap l1 l2}):=
 .of_wp λprog w A R s h=>by
  obtain ⟨hp,g,d,tk,os⟩:=s;obtain ⟨hl1,hl2,h⟩:=h;have hsub:=sub_zip
  cases c1 with
  |true=>
   have hL1:Heap.IsList (Shared.heap ⟨hp,g,d,tk,os⟩) l1 xs:=hl1
   cases c2 with
   |true=>
    have hL2:Heap.IsList (Shared.heap ⟨hp.push {cls:= .type "list_iterator",data:= .fields #[.ref l1, .int 0 0]},g,d,tk,os⟩) l2 ys:=SeB.push (b:=true) hl2 _
    wp_walk using wE hL1,wE hL2
    exact ⟨_,rfl,h⟩
   |false=>
    have hL2:Heap.IsTuple (Shared.heap ⟨hp.push {cls:= .type "list_iterator",data:= .fields #[.ref l1, .int 0 0]},g,d,tk,os⟩) l2 ys:=SeB.push (b:=false) hl2 _
    wp_walk using wE hL1,wl hL2
    exact ⟨_,rfl,h⟩
  |false=>
   have hL1:Heap.IsTuple (Shared.heap ⟨hp,g,d,tk,os⟩) l1 xs:=hl1
   cases c2 with
   |true=>
    have hL2:Heap.IsList (Shared.heap ⟨hp.push {cls:= .type "tuple_iterator",data:= .fields #[.ref l1, .int 0 0]},g,d,tk,os⟩) l2 ys:=SeB.push (b:=true) hl2 _
    wp_walk using wl hL1,wE hL2
    exact ⟨_,rfl,h⟩
   |false=>
    have hL2:Heap.IsTuple (Shared.heap ⟨hp.push {cls:= .type "tuple_iterator",data:= .fields #[.ref l1, .int 0 0]},g,d,tk,os⟩) l2 ys:=SeB.push (b:=false) hl2 _
    wp_walk using wl hL1,wl hL2
    exact ⟨_,rfl,h⟩
theorem zkx {b:Bool} {h:Heap} {it l:Addr} (e:h.get? it=some (zp2 b l)):ItB b h it l 0:=by
 cases b with
 |true=>exact ⟨_,e,rfl,rfl⟩
 |false=>exact ⟨_,e,rfl,rfl⟩
theorem zfB (b:Bool) (l:Addr):(zp2 b l).isFreed=false:=by cases b<;>rfl
theorem zoo {prog:Program} {w:World} {A:Around} {E:Value->Shared->Prop} {s:Shared} {c1 c2:Bool} {l1 l2:Addr} {xs ys:Array Value} {Q:Value->Shared->Prop} (hl1:SeB c1 s.heap l1 xs) (hl2:SeB c2 s.heap l2 ys)
 (h:∀h',IsZip h' (s.heap.objs.size+4) (s.heap.objs.size+2) (s.heap.objs.size+3) .none->IsPair h' (s.heap.objs.size+2) (.ref s.heap.objs.size) (.ref (s.heap.objs.size+1))->
  IsPair h' (s.heap.objs.size+3) .none .none->ItB c1 h' s.heap.objs.size l1 0->ItB c2 h' (s.heap.objs.size+1) l2 0->
  (∀c o,s.heap.get? c=some o->h'.get? c=some o)->Q (.ref (s.heap.objs.size+4)) {s with heap:=h'}):
 wpAny (model prog w) A (call (.type "zip") [.ref l1, .ref l2]) Q E s:=by
 refine callType_new F.called_zip (by decide) (F.typeCall_zip_2 _ _) (F.newCall_zip_2 _ _) (λobj=>F.args_object_init_3 obj _ _) F.entry_zip_new
  (zlA c1 c2 l1 l2 xs ys) ⟨hl1,hl2,?_⟩
 have z1:(zB1 c1 s.heap l1).objs.size=s.heap.objs.size+1:=jT ..;have z2:(zB2 c1 c2 s.heap l1 l2).objs.size=s.heap.objs.size+2:=by rw [jT,z1]
 have z3:(zB3 c1 c2 s.heap l1 l2).objs.size=s.heap.objs.size+3:=by rw [jT,z2]
 have z4:(zB4 c1 c2 s.heap l1 l2).objs.size=s.heap.objs.size+4:=by rw [jT,z3]
 have g5:(zB5 c1 c2 s.heap l1 l2).get? (zB4 c1 c2 s.heap l1 l2).objs.size=some _:=jx _ rfl;have g4:(zB5 c1 c2 s.heap l1 l2).get? (zB3 c1 c2 s.heap l1 l2).objs.size=some _:=ji _ (jx _ rfl);have g3:(zB5 c1 c2 s.heap l1 l2).get? (zB2 c1 c2 s.heap l1 l2).objs.size=some _:=ji _ (ji _ (jx _ rfl));have g2:(zB5 c1 c2 s.heap l1 l2).get? (zB1 c1 s.heap l1).objs.size=some _:=ji _ (ji _ (ji _ (jx _ (zfB c2 l2))));have g1:(zB5 c1 c2 s.heap l1 l2).get? s.heap.objs.size=some _:=ji _ (ji _ (ji _ (ji _ (jx _ (zfB c1 l1)))));show _/\_;rw [z2,z3,z4] at g5;rw [z1,z2] at g3;rw [z3] at g4;rw [z1] at g2;rw [z4];exact ⟨⟨_,g5,rfl⟩,h _ g5 g3 g4 (zkx g1) (zkx g2) λc o x=>ji _ (ji _ (ji _ (ji _ (ji _ x))))⟩
section
variable {X:Cx}
def iZip (c1 c2:Bool) (K:PySem.W.Frag) (ta:TA):TI:=λσ H R=>ta σ H λvs H1=>∃a1 a2,vs=[.ref a1, .ref a2]/\(∃xs,SqB c1 K H1 a1 xs)/\(∃ys,SqB c2 K H1 a2 ys)/\R (ItZ c1 c2 K a1 a2) H1
theorem UA (c1 c2:Bool) {elts:List Expr} {k:Nat} {tpos:Pos} {a b:Expr} {ta:TA} {p pos:Pos} (hg:Gl X "zip") (hm:X.mg "zip"=none) (ha:PA X [a,b] ta) (hs:starEach [a,b] X.env=[(false,eval a X.env),(false,eval b X.env)]:=by rfl) (hs2:starEach [b] X.env=[(false,eval b X.env)]:=by rfl):
 PI X (.Tuple elts k tpos) (.Call (.Name "zip" p) [a,b] [] pos) (iZip c1 c2 X.K ta):=by
 intro pins s σ H R I h;refine Call_ (zaO I hg hm bt_zip (wa (thn (ha pos pins s σ H _ I h) λus s1 ⟨vs,H1,I1,r1,q1⟩=>?_) (by rw [hs,hs2]) (by rw [hs2];rfl)));obtain ⟨l1,l2,e,⟨xs,hq1⟩,⟨ys,hq2⟩,q⟩:=q1;subst e;obtain ⟨u1,u2,rfl,ru1,ru2⟩:=zoQ r1;cases (show u1=Value.ref l1 from ru1);cases (show u2=Value.ref l2 from ru2);obtain ⟨its1,rv1,p1,_⟩:=seB I1 hq1;obtain ⟨its2,rv2,p2,_⟩:=seB I1 hq2;have lt1:l1<s1.heap.objs.size:=by obtain ⟨o,z⟩:=p1.obj;exact jv z
 have lt2:l2<s1.heap.objs.size:=by obtain ⟨o,z⟩:=p2.obj;exact jv z
 refine zoo p1 p2 λh' a1 a2 a3 a4 a5 hk=>wpAny_pyIter_zip a1 ?_;have I2:Inv X pins σ H1 {s1 with heap:=h'}:=I1.kept (t':=s1.toks) hk;refine ⟨s1.heap.objs.size+4,[s1.heap.objs.size+4,s1.heap.objs.size+2,s1.heap.objs.size+3,s1.heap.objs.size,s1.heap.objs.size+1],_,_,H1,rfl,I2,zoR c1 c2 _ _ _ _ _ l1 l2 (zipApart_new lt1 lt2),⟨a1,a2,⟨_,_,a3⟩,a4,a5⟩,λc hc=>?_,q⟩
 have hle:s1.heap.objs.size<=c:=by
  simp only [jn,jp,or_false] at hc
  rcases hc with z|z|z|z|z<;>rw [z]<;>first|exact Nat.le_add_right _ _|exact jy _
 exact I1.fpOk hle (I1.hok.fresh hle)
end
end S
namespace S
open PySem PySem.Spec PyProof.Rows L2
theorem zq1 {α:Type} {xs:List α} {k:Int} {v:α} (h0:0<=k) (h:xs[k.toNat]? =some v):atI xs k=some v:=by
 have ek:k=((k.toNat:Nat):Int):=by omega
 rw [ek];exact xi h
theorem eqv_fr (p q:Rat):PyData.eqv (frD p) (frD q)=decide (p=q):=by
 unfold frD;simp only [PyData.eqv,PyData.eqvAll,Bool.and_true]
 by_cases h:p=q
 ·subst h;simp
 ·rw [qm h]
  by_cases h1:p.num=q.num
  ·have h2:p.den≠q.den:=λz=>h (Rat.ext h1 z);have h3:((p.den:Int)==(q.den:Int))=false:=wU.mpr (λz=>h2 (Int.ofNat.inj z));rw [h3,Bool.and_false]
  ·have h3:(p.num==q.num)=false:=wU.mpr h1;rw [h3,Bool.false_and]
abbrev zh:=Rat×List Rat
section
variable {H H':Hp} {qs:List Rat} {c:zh} {cs:List zh} {v:V} {vs:List V} {l:Addr} {xs:List V} {o:HO}
end
def xr (qs:List Rat):PyData:= .tuple (qs.map frD)
def ya (c:zh):PyData:= .tuple [frD c.1,xr c.2]
def yX (cs:List zh):PyData:= .list (cs.map ya)
theorem zky {H:Hp} {α:Type} {R:α->V->Prop} {f:α->PyData} (hR:∀a v,R a v->Is H (f a) v):∀{xs:List α} {vs:List V},xs.length=vs.length->(∀(i:Nat) (x:α) (v:V),xs[i]? =some x->vs[i]? =some v->R x v)->zX H (xs.map f) vs
 |[],[],_,_=>by rw [wB,zX]
 |[],_::_,h,_=>by simp at h
 |_::_,[],h,_=>by simp at h
 |x::xs,v::vs,hl,h=>by
  rw [jq,zX];exact ⟨v,vs,rfl,hR x v (h 0 x v rfl rfl),zky hR (by simpa using hl) λi a b ha hb=>h (i+1) a b (by simpa using ha) (by simpa using hb)⟩
theorem znS {α:Type} {f:α->PyData} (h:∀a,(f a).canLay0=true):∀xs:List α,PyData.canLayAll0 (xs.map f)=true
 |[]=>rfl
 |x::xs=>by rw [jq,PyData.canLayAll0,h x,znS h xs];rfl
theorem zog {α:Type} {f:α->PyData} {n:Nat} (h:∀a,(f a).depth<=n):∀xs:List α,PyData.depthAll (xs.map f)<=n
 |[]=>by rw [wB,PyData.depthAll];exact wg _
 |x::xs=>by rw [jq,PyData.depthAll];exact Nat.max_le.mpr ⟨h x,zog h xs⟩
theorem lay_fr (q:Rat):(frD q).canLay0=true:=by unfold frD;simp [PyData.canLay0,PyData.canLayAll0]
theorem dep_fr (q:Rat):(frD q).depth<=2:=by unfold frD;simp [PyData.depth,PyData.depthAll]
def yh (c0 c1 c2:zh):Prop:=∀(i:Nat) (a b c:Rat),c0.2[i]? =some a->c1.2[i]? =some b->c2.2[i]? =some c->(b - a)*(c2.1 - c0.1)=(c - a)*(c1.1 - c0.1)
theorem zgN (p q:Rat):Rat.divInt (q.num*p.den - p.num*q.den) (p.den*q.den)=q - p:=by
 rw [Rat.sub_def',Int.mul_comm (p.den:Int),<-Int.natCast_mul,Rat.divInt_ofNat]
theorem zol {rn rd nn nd wn wd fn fd:Int} (h1:rd≠0) (h2:nd≠0) (h3:wd≠0) (h4:fd≠0):
 Rat.divInt rn rd*Rat.divInt fn fd=Rat.divInt wn wd*Rat.divInt nn nd↔rn*nd*wd*fn=wn*fd*rd*nn:=by
 rw [Jf,Jf,JR (Int.mul_ne_zero h1 h4) (Int.mul_ne_zero h3 h2)];have e1:rn*fn*(wd*nd)=rn*nd*wd*fn:=by grind
 have e2:wn*nn*(rd*fd)=wn*fd*rd*nn:=by grind
 rw [e1,e2]
abbrev xq:=List (Addr×List PyData)
abbrev Dat:=List (PyData×V)
def WG (G:Hp) (ds:Dat):Prop:=∀p∈ds,Is G p.1 p.2
def Has (ds:Dat) (x:PyData) (v:V):Prop:=∀G,WG G ds->Is G x v
def xj (ds:Dat) (xs:List PyData) (vs:List V):Prop:=∀G,WG G ds->zX G xs vs
def zsR (B G0 H:Hp) (cs:xq) (ds:Dat) (G:Hp):Prop:=
 yt G0 G/\yt G H/\yt B H/\(∀p,B p≠none->G p=G0 p)/\(∀c∈cs,B c.1=none/\G c.1=none/\∃vs,H c.1=some (.lst vs)/\zX G c.2 vs)/\(cs.map (·.1)).Nodup/\WG G ds
def Sta (B G0 H:Hp) (cs:xq) (ds:Dat):Prop:=∃G,zsR B G0 H cs ds G
structure Grow (G H G' H':Hp):Prop where
 h:yt H H'
 g:yt G G'
 sub:yt G' H'
 old:∀p,H p≠none->G' p=G p
theorem WG.mono {G G':Hp} {ds:Dat} (h:WG G ds) (e:yt G G'):WG G' ds:=λp hp=>Is.mono e _ _ (h p hp)
theorem WG.cons {G:Hp} {ds:Dat} {x:PyData} {v:V} (h:WG G ds) (g:Is G x v):WG G ((x,v)::ds):=λp hp=>by
 rcases jn.mp hp with rfl|hp
 ·exact g
 ·exact h p hp
theorem Has.int {ds:Dat} {i:Int}:Has ds (.int i) (.int i):=λ_ _=>by rw [Is]
theorem Has.str {ds:Dat} {i:Str}:Has ds (.str i) (.str i):=λ_ _=>by rw [Is]
theorem Has.mem {ds:Dat} {x:PyData} {v:V} (h:(x,v)∈ds):Has ds x v:=λ_ a=>a _ h
theorem Has.weak {ds ds':Dat} {x:PyData} {v:V} (h:Has ds x v) (k:∀p∈ds,Has ds' p.1 p.2):Has ds' x v:=λG a=>h G λp hp=>k p hp G a
theorem Has.tail {ds:Dat} {x:PyData} {v:V} {p:PyData×V} (h:Has ds x v):Has (p::ds) x v:=h.weak λq hq=> .mem (jf _ hq)
theorem xj.nil {ds:Dat}:xj ds [] []:=λ_ _=>by rw [zX]
theorem xj.cons {ds:Dat} {x:PyData} {v:V} {xs:List PyData} {vs:List V} (h:Has ds x v) (g:xj ds xs vs):xj ds (x::xs) (v::vs):=λG a=>by
 rw [zX];exact ⟨v,vs,rfl,h G a,g G a⟩
theorem zX.len {H:Hp}:∀{xs:List PyData} {vs:List V},zX H xs vs->xs.length=vs.length
 |[],vs,h=>by rw [zX] at h;subst h;rfl
 |x::xs,vs,h=>by
  rw [zX] at h;obtain ⟨v,r,rfl,_,g⟩:=h;rw [jz,jz,zX.len g]
theorem zX.at {H:Hp}:∀{xs:List PyData} {vs:List V} {i:Nat} {x:PyData},zX H xs vs->xs[i]? =some x->∃v,vs[i]? =some v/\Is H x v
 |[],_,_,_,_,e=>by simp at e
 |y::xs,vs,i,x,h,e=>by
  rw [zX] at h;obtain ⟨v,r,rfl,h1,g⟩:=h
  cases i with
  |zero=>simp at e;subst e;exact ⟨v,rfl,h1⟩
  |succ i=>simpa using zX.at g (by simpa using e)
theorem zX.app {H:Hp}:∀{xs ys:List PyData} {vs ws:List V},zX H xs vs->zX H ys ws->zX H (xs++ys) (vs++ws)
 |[],ys,vs,ws,h,g=>by rw [zX] at h;subst h;exact g
 |x::xs,ys,vs,ws,h,g=>by
  rw [zX] at h;obtain ⟨v,r,rfl,h1,h2⟩:=h;rw [qE,qE,zX];exact ⟨v,_,rfl,h1,zX.app h2 g⟩
theorem Yf {H:Hp} {xs:List PyData} {vs:List V}:zX H xs vs↔xs.length=vs.length/\∀(i:Nat) (x:PyData) (v:V),xs[i]? =some x->vs[i]? =some v->Is H x v:=by
 constructor
 ·intro h;refine ⟨h.len,λi x v hx hv=>?_⟩;obtain ⟨w,hw,g⟩:=h.at hx;rw [hv] at hw;cases hw;exact g
 ·rintro ⟨h1,h2⟩
  have:=zky (R:=λ(a:PyData) v=>Is H a v) (f:=id) (λ_ _ z=>z) h1 h2
  simpa using this
theorem zX.take {H:Hp} {xs:List PyData} {vs:List V} (h:zX H xs vs) (n:Nat):zX H (xs.take n) (vs.take n):=by
 rw [Yf] at h⊢;refine ⟨by rw [qS,qS,h.1],λi x v hx hv=>?_⟩;rw [List.getElem?_take] at hx hv
 split at hx
 ·rename_i c;rw [jK c] at hv;exact h.2 i x v hx hv
 ·cases hx
theorem zX.drop {H:Hp} {xs:List PyData} {vs:List V} (h:zX H xs vs) (n:Nat):zX H (xs.drop n) (vs.drop n):=by
 rw [Yf] at h⊢;refine ⟨by rw [qt,qt,h.1],λi x v hx hv=>?_⟩;rw [wm] at hx hv;exact h.2 _ x v hx hv
theorem zX.set {H:Hp} {xs:List PyData} {vs:List V} {x:PyData} {v:V} (h:zX H xs vs) (g:Is H x v) (n:Nat):zX H (xs.set n x) (vs.set n v):=by
 rw [Yf] at h⊢;refine ⟨by rw [JY,JY,h.1],λi y w hx hv=>?_⟩;rw [List.getElem?_set] at hx hv;rw [<-h.1] at hv
 split at hx
 ·rename_i c;rw [jK c] at hv
  split at hx
  ·rename_i c2;rw [jK c2] at hv;cases hx;cases hv;exact g
  ·cases hx
 ·rename_i c;rw [jQ c] at hv;exact h.2 i y w hx hv
section
variable {B G0 H H':Hp} {cs cs':xq} {ds ds':Dat} {x y:PyData} {v w:V} {xs ys:List PyData} {vs:List V} {D:Addr} {p:Addr}
theorem Sta.enter {G:Hp} (e:yt G H) (h:WG G ds):Sta H G H [] ds:=
 ⟨G,yt.refl _,e,yt.refl _,λ_ _=>rfl,λc hc=>absurd hc (jp),List.nodup_nil,h⟩
theorem Sta.base (S:Sta B G0 H cs ds):yt B H:=let ⟨_,_,_,b,_⟩:=S;b
theorem Sta.push (S:Sta B G0 H cs ds) (h:Has ds x v):Sta B G0 H cs ((x,v)::ds):=
 let ⟨G,a,b,c,d,e,f,g⟩:=S;⟨G,a,b,c,d,e,f,g.cons (h G g)⟩
theorem Sta.weak (S:Sta B G0 H cs ds) (hc:cs'.Sublist cs) (hd:∀p∈ds',Has ds p.1 p.2):Sta B G0 H cs' ds':=
 let ⟨G,a,b,c,d,e,f,g⟩:=S;⟨G,a,b,c,d,λq hq=>e q (hc.subset hq),f.sublist (hc.map _),λp hp=>hd p hp G g⟩
theorem Sta.dat (S:Sta B G0 H cs ds) (hd:∀p∈ds',Has ds p.1 p.2):Sta B G0 H cs ds':=S.weak (wT _) hd
theorem Sta.drop1 {q:PyData×V} (S:Sta B G0 H cs (q::ds)):Sta B G0 H cs ds:=S.dat λp hp=> .mem (jf _ hp)
theorem Sta.dropC {q:Addr×List PyData} (S:Sta B G0 H (q::cs) ds):Sta B G0 H cs ds:=S.weak (List.sublist_cons_self _ _) λp hp=> .mem hp
theorem Sta.permC (S:Sta B G0 H cs ds) (h:cs.Perm cs'):Sta B G0 H cs' ds:=
 let ⟨G,a,b,c,d,e,f,g⟩:=S;⟨G,a,b,c,d,λq hq=>e q (h.mem_iff.mpr hq),(h.map _).nodup_iff.mp f,g⟩
theorem Sta.swap {c1 c2:Addr×List PyData} (S:Sta B G0 H (c1::c2::cs) ds):Sta B G0 H (c2::c1::cs) ds:=S.permC (List.Perm.swap _ _ _)
theorem Sta.same (S:Sta B G0 H cs ds) (h:yt H H'):Sta B G0 H' cs ds:=
 let ⟨G,a,b,c,d,e,f,g⟩:=S;⟨G,a,b.trans h,c.trans h,d,λq hq=>let ⟨x,y,vs,z,u⟩:=e q hq;⟨x,y,vs,h _ _ z,u⟩,f,g⟩
theorem zsR.grow {G G':Hp} (S:zsR B G0 H cs ds G) (h:Grow G H G' H'):zsR B G0 H' cs ds G':=by
 obtain ⟨a,b,c,d,e,f,g⟩:=S;refine ⟨a.trans h.g,h.sub,c.trans h.h,λp hp=>?_,λq hq=>?_,f,g.mono h.g⟩
 ·rw [h.old p λz=>?_,d p hp]
  cases hb:B p with
  |none=>exact hp hb
  |some o=>rw [c _ _ hb] at z;cases z
 ·obtain ⟨x,y,vs,z,u⟩:=e q hq;exact ⟨x,by rw [h.old q.1 (by rw [z];simp)];exact y,vs,h.h _ _ z,zX.mono h.g _ _ u⟩
theorem Sta.leave {G:Hp} (S:Sta H G H' cs ds):∃G',Grow G H G' H'/\WG G' ds:=
 let ⟨G',a,b,c,d,_,_,g⟩:=S;⟨G',⟨c,a,b,d⟩,g⟩
theorem Sta.newT (S:Sta B G0 H cs ds) (hp:H p=none) (h:xj ds xs vs):Sta B G0 (upd H p (.tup vs)) cs ((.tuple xs, .ref p)::ds):=by
 obtain ⟨G,a,b,c,d,e,f,g⟩:=S;have hG:G p=none:=b.free hp;have eG:=yt.new hG (.tup vs);refine ⟨upd G p (.tup vs),a.trans eG,λq o hq=>?_,c.trans (yt.new hp _),λq hq=>?_,λq hq=>?_,f,(g.mono eG).cons ?_⟩
 ·by_cases hqp:q=p
  ·subst hqp;rw [xC] at hq⊢;exact hq
  ·rw [yE hqp] at hq⊢;exact b _ _ hq
 ·have hqp:q≠p:=λz=>by subst z;exact hq (c.free hp)
  rw [yE hqp];exact d q hq
 ·obtain ⟨x,y,ws,z,u⟩:=e q hq;have hqp:q.1≠p:=yL z hp;exact ⟨x,by rw [yE hqp];exact y,ws,by rw [yE hqp];exact z,zX.mono eG _ _ u⟩
 ·rw [Is];exact ⟨p,vs,rfl,xC,zX.mono eG _ _ (h G g)⟩
theorem Sta.newL (S:Sta B G0 H cs ds) (hp:H p=none) (h:xj ds xs vs):Sta B G0 (upd H p (.lst vs)) ((p,xs)::cs) ds:=by
 obtain ⟨G,a,b,c,d,e,f,g⟩:=S;have hG:G p=none:=b.free hp;refine ⟨G,a,b.trans (yt.new hp _),c.trans (yt.new hp _),d,λq hq=>?_,?_,g⟩
 ·rcases jn.mp hq with rfl|hq
  ·exact ⟨c.free hp,hG,vs,xC,h G g⟩
  ·obtain ⟨x,y,ws,z,u⟩:=e q hq;have hqp:q.1≠p:=yL z hp;exact ⟨x,y,ws,by rw [yE hqp];exact z,u⟩
 ·rw [jq,qM];refine ⟨λz=>?_,f⟩;obtain ⟨q,hq,hqp⟩:=jk.mp z;obtain ⟨_,_,ws,z,_⟩:=e q hq;rw [hqp,hp] at z;cases z
theorem Sta.freeze (S:Sta B G0 H ((D,xs)::cs) ds):Sta B G0 H cs ((.list xs, .ref D)::ds):=by
 obtain ⟨G,a,b,c,d,e,f,g⟩:=S;obtain ⟨x,y,vs,z,u⟩:=e _ (jd ..);have eG:=yt.new y (.lst vs);rw [jq,qM] at f;refine ⟨upd G D (.lst vs),a.trans eG,λq o hq=>?_,c,λq hq=>?_,λq hq=>?_,f.2,(g.mono eG).cons ?_⟩
 ·by_cases hqp:q=D
  ·subst hqp;rw [xC] at hq;rw [<-hq];exact z
  ·rw [yE hqp] at hq;exact b _ _ hq
 ·have hqp:q≠D:=λz=>by subst z;exact hq x
  rw [yE hqp];exact d q hq
 ·obtain ⟨x',y',ws,z',u'⟩:=e q (jf _ hq);have hqp:q.1≠D:=λz=>f.1 (jk.mpr ⟨q,hq,z⟩);exact ⟨x',by rw [yE hqp];exact y',ws,z',zX.mono eG _ _ u'⟩
 ·rw [Is];exact ⟨D,vs,rfl,xC,zX.mono eG _ _ u⟩
theorem Sta.cell (S:Sta B G0 H cs ds) (h:(D,xs)∈cs):∃vs,H D=some (.lst vs)/\xs.length=vs.length/\∀(i:Nat) (x:PyData),xs[i]? =some x->∃v,vs[i]? =some v/\Sta B G0 H cs ((x,v)::ds):=by
 obtain ⟨G,a,b,c,d,e,f,g⟩:=S;obtain ⟨_,_,vs,z,u⟩:=e _ h;refine ⟨vs,z,u.len,λi x hx=>?_⟩;obtain ⟨v,hv,k⟩:=u.at hx;exact ⟨v,hv,G,a,b,c,d,e,f,g.cons k⟩
theorem Sta.put (S:Sta B G0 H ((D,xs)::cs) ds):∃vs,H D=some (.lst vs)/\xs.length=vs.length/\∀ys ws,(∀G,WG G ds->zX G xs vs->zX G ys ws)->Sta B G0 (upd H D (.lst ws)) ((D,ys)::cs) ds:=by
 obtain ⟨G,a,b,c,d,e,f,g⟩:=S;obtain ⟨x,y,vs,z,u⟩:=e _ (jd ..);refine ⟨vs,z,u.len,λys ws h=>?_⟩
 have key:∀{A:Hp},yt A H->A D=none->yt A (upd H D (.lst ws)):=λ{A} s n q o hq=>by
  rw [yE (yL hq n)];exact s _ _ hq
 have f':=f;rw [jq,qM] at f';refine ⟨G,a,key b y,key c x,d,λq hq=>?_,f,g⟩
 rcases jn.mp hq with rfl|hq
 ·exact ⟨x,y,ws,xC,h G g u⟩
 ·obtain ⟨x',y',ws',z',u'⟩:=e q (jf _ hq);have hqp:q.1≠D:=λz=>f'.1 (jk.mpr ⟨q,hq,z⟩);exact ⟨x',y',ws',by rw [yE hqp];exact z',u'⟩
theorem Sta.tup (S:Sta B G0 H cs ds) (h:Has ds (.tuple xs) v):∃p vs,v= .ref p/\H p=some (.tup vs)/\xs.length=vs.length/\∀(i:Nat) (x:PyData),xs[i]? =some x->∃w,vs[i]? =some w/\Sta B G0 H cs ((x,w)::ds):=by
 obtain ⟨G,a,b,c,d,e,f,g⟩:=S;have q:=h G g;rw [Is] at q;obtain ⟨p,vs,hv,hp,u⟩:=q;refine ⟨p,vs,hv,b _ _ hp,u.len,λi x hx=>?_⟩;obtain ⟨v,hv,k⟩:=u.at hx;exact ⟨v,hv,G,a,b,c,d,e,f,g.cons k⟩
theorem Sta.lst (S:Sta B G0 H cs ds) (h:Has ds (.list xs) v):∃p vs,v= .ref p/\H p=some (.lst vs)/\xs.length=vs.length/\∀(i:Nat) (x:PyData),xs[i]? =some x->∃w,vs[i]? =some w/\Sta B G0 H cs ((x,w)::ds):=by
 obtain ⟨G,a,b,c,d,e,f,g⟩:=S;have q:=h G g;rw [Is] at q;obtain ⟨p,vs,hv,hp,u⟩:=q;refine ⟨p,vs,hv,b _ _ hp,u.len,λi x hx=>?_⟩;obtain ⟨v,hv,k⟩:=u.at hx;exact ⟨v,hv,G,a,b,c,d,e,f,g.cons k⟩
theorem Sta.tupAll (S:Sta B G0 H cs ds) (h:Has ds (.tuple xs) v):∃p vs,v= .ref p/\H p=some (.tup vs)/\xs.length=vs.length/\Sta B G0 H cs (xs.zip vs++ds)/\∀G,WG G (xs.zip vs++ds)->zX G xs vs:=by
 obtain ⟨G,a,b,c,d,e,f,g⟩:=S;have q:=h G g;rw [Is] at q;obtain ⟨p,vs,hv,hp,u⟩:=q;refine ⟨p,vs,hv,b _ _ hp,u.len,⟨G,a,b,c,d,e,f,λq hq=>?_⟩,λG' hG=>?_⟩
 ·rcases jV.mp hq with hq|hq
  ·obtain ⟨i,hi⟩:=jw.mp hq;rw [qq] at hi;exact (Yf.mp u).2 i _ _ hi.1 hi.2
  ·exact g q hq
 ·refine Yf.mpr ⟨u.len,λi x v hx hv=>?_⟩;exact hG (x,v) (qW _ (jw.mpr ⟨i,qq.mpr ⟨hx,hv⟩⟩))
theorem Sta.lstAll (S:Sta B G0 H cs ds) (h:Has ds (.list xs) v):∃p vs,v= .ref p/\H p=some (.lst vs)/\xs.length=vs.length/\Sta B G0 H cs (xs.zip vs++ds)/\∀G,WG G (xs.zip vs++ds)->zX G xs vs:=by
 obtain ⟨G,a,b,c,d,e,f,g⟩:=S;have q:=h G g;rw [Is] at q;obtain ⟨p,vs,hv,hp,u⟩:=q;refine ⟨p,vs,hv,b _ _ hp,u.len,⟨G,a,b,c,d,e,f,λq hq=>?_⟩,λG' hG=>?_⟩
 ·rcases jV.mp hq with hq|hq
  ·obtain ⟨i,hi⟩:=jw.mp hq;rw [qq] at hi;exact (Yf.mp u).2 i _ _ hi.1 hi.2
  ·exact g q hq
 ·refine Yf.mpr ⟨u.len,λi x v hx hv=>?_⟩;exact hG (x,v) (qW _ (jw.mpr ⟨i,qq.mpr ⟨hx,hv⟩⟩))
theorem Sta.cellAll (S:Sta B G0 H cs ds) (h:(D,xs)∈cs):∃vs,H D=some (.lst vs)/\xs.length=vs.length/\Sta B G0 H cs (xs.zip vs++ds)/\∀G,WG G (xs.zip vs++ds)->zX G xs vs:=by
 obtain ⟨G,a,b,c,d,e,f,g⟩:=S;obtain ⟨_,_,vs,z,u⟩:=e _ h;refine ⟨vs,z,u.len,⟨G,a,b,c,d,e,f,λq hq=>?_⟩,λG' hG=>?_⟩
 ·rcases jV.mp hq with hq|hq
  ·obtain ⟨i,hi⟩:=jw.mp hq;rw [qq] at hi;exact (Yf.mp u).2 i _ _ hi.1 hi.2
  ·exact g q hq
 ·refine Yf.mpr ⟨u.len,λi x v hx hv=>?_⟩;exact hG (x,v) (qW _ (jw.mpr ⟨i,qq.mpr ⟨hx,hv⟩⟩))
theorem Sta.hp (S:Sta B G0 H cs ds) (h:Has ds x v):Is H x v:=by
 obtain ⟨G,a,b,c,d,e,f,g⟩:=S;exact Is.mono b _ _ (h G g)
theorem Sta.hpC (S:Sta B G0 H cs ds) (h:(D,xs)∈cs):Is H (.list xs) (.ref D):=by
 obtain ⟨G,a,b,c,d,e,f,g⟩:=S;obtain ⟨_,_,vs,z,u⟩:=e _ h;rw [Is];exact ⟨D,vs,rfl,z,zX.mono b _ _ u⟩
end
def mkD (D:Ends) (u:L2.St->Hp->Prop):Ends:={D with nx:=u}
def mkL (D:Ends) (u:L2.St->Hp->Prop):Ends:={D with nx:=u,ct:=u,bk:=D.nx}
def endD (Q:VK):Ends:={nx:=λ_ H'=>Q .non H',rt:=Q}
section
variable {B G0 H:Hp} {cs:xq} {ds:Dat} {D:Ends} {σ:L2.St} {Q:VK} {x y:PyData} {v w:V} {xs:List PyData} {vs:List V} {K:PySem.W.Frag} {X:Cx}
theorem rd_seq {t u:TS} (h:t (mkD D (u D)) σ H):tSeq t u D σ H:=h
theorem rd_asg {te:TE} {g:TG} (h:te σ H λx H1=>g x σ H1 D.nx):tAsg te g D σ H:=h
theorem zN {i:Nat} {N:L2.St->Hp->Prop} (h:N (σ.set i (some v)) H):zjn i v σ H N:=h
theorem zC {t:TS} (h:t (endD Q) σ H):t {nx:=λ_ H'=>Q .non H',rt:=Q} σ H:=h
theorem rd_nx {u:L2.St->Hp->Prop} (h:u σ H):Ends.nx (mkD D u) σ H:=h
theorem rd_rt {u:L2.St->Hp->Prop} (h:Ends.rt D v H):Ends.rt (mkD D u) v H:=h
theorem zmT (h:Q v H):Ends.rt (endD Q) v H:=h
theorem rd_nxL {u:L2.St->Hp->Prop} (h:u σ H):Ends.nx (mkL D u) σ H:=h
theorem rd_rtL {u:L2.St->Hp->Prop} (h:Ends.rt D v H):Ends.rt (mkL D u) v H:=h
theorem zrw (h:D.nx σ H):tNext D σ H:=h
theorem zqH {te:TE} (h:te σ H D.rt):tRet te D σ H:=h
theorem zrS {te:TE} (h:te σ H λ_ H1=>D.nx σ H1):tDrop te D σ H:=h
theorem rd_if {c:TT} {t u:TS} (h:c σ H λb H1=>if b=true then t D σ H1 else u D σ H1):tIfS c t u D σ H:=h
theorem rd_var {i:Nat} (e:σ[i]? =some (some v)) (h:Q v H):tVar i σ H Q:=⟨v,e,h⟩
theorem rd_c (h:Q v H):tC v σ H Q:=h
theorem rd_op {r:R2} {ta tb:TE} (h:ta σ H λx H1=>tb σ H1 λy H2=>r x y H2 Q):tOp r ta tb σ H Q:=h
theorem rd_un {r:V->Hp->VK->Prop} {ta:TE} (h:ta σ H λx H1=>r x H1 Q):tUn r ta σ H Q:=h
theorem rd_rI0 {g:Int->Int->V} {i j:Int} (h:Q (g i j) H):rI0 g (.int i) (.int j) H Q:=⟨i,j,rfl,rfl,h⟩
theorem zrx {i j:Int} (c:IntMulOk i j) (h:Q (.int (i*j)) H):rI IntMulOk (λi j=> .int (i*j)) (.int i) (.int j) H Q:=⟨i,j,rfl,rfl,c,h⟩
theorem zrz {i j:Int} (c:0<j) (h:Q (.int (i % j)) H):rI (λ_ j=>0<j) (λi j=> .int (i % j)) (.int i) (.int j) H Q:=⟨i,j,rfl,rfl,c,h⟩
theorem zry {i j:Int} (c:j≠0) (h:Q (.int (i.fmod j)) H):rI (λ_ j=>j≠0) (λi j=> .int (i.fmod j)) (.int i) (.int j) H Q:=⟨i,j,rfl,rfl,c,h⟩
theorem zpg {i j:Int} (c:CDiv i j) (h:Q (.int (i / j)) H):rI CDiv (λi j=> .int (i / j)) (.int i) (.int j) H Q:=⟨i,j,rfl,rfl,c,h⟩
theorem zph {i j:Int} (c:CDv i j) (h:Q (.int (i.fdiv j)) H):rI CDv (λi j=> .int (i.fdiv j)) (.int i) (.int j) H Q:=⟨i,j,rfl,rfl,c,h⟩
theorem rd_pow {i j:Int} (c:CPow i j) (h:Q (.int (i ^ j.toNat)) H):rI CPow (λi j=> .int (i ^ j.toNat)) (.int i) (.int j) H Q:=⟨i,j,rfl,rfl,c,h⟩
theorem rd_rU {g:Int->V} {i:Int} (h:Q (g i) H):rU g (.int i) H Q:=⟨i,rfl,h⟩
theorem zro {t:TE} {R:Bool->Hp->Prop} (h:t σ H λx H'=>∃k,x= .bl k/\R k H'):tTest t σ H R:=h
theorem rd_tB {t:TE} {R:Bool->Hp->Prop} (h:t σ H λx H'=>∃k,x= .bl k/\R k H'):tB t σ H R:=h
theorem zrO {k:Bool} {R:Bool->Prop} (h:R k):∃k',V.bl k= .bl k'/\R k':=⟨k,rfl,h⟩
theorem rd_not {t:TT} {R:Bool->Hp->Prop} (h:t σ H λc H1=>R (!c) H1):tNot t σ H R:=h
theorem rd_and {t u:TT} {R:Bool->Hp->Prop} (h:t σ H λc H1=>if c=true then u σ H1 R else R false H1):tAnd t u σ H R:=h
theorem rd_or {t u:TT} {R:Bool->Hp->Prop} (h:t σ H λc H1=>if c=true then R true H1 else u σ H1 R):tOr t u σ H R:=h
theorem zrY {ta tb:TE} (h:ta σ H λx H1=>∃c,x= .bl c/\if c=true then tb σ H1 Q else Q (.bl false) H1):tAndV ta tb σ H Q:=h
theorem zrv {ta:TE} (h:ta σ H λx H1=>∃c,x= .bl c/\Q (.bl (!c)) H1):tNotV ta σ H Q:=h
theorem rd_nil {R:List V->Hp->Prop} (h:R [] H):tNil σ H R:=h
theorem zrU {ta:TE} {tr:TA} {R:List V->Hp->Prop} (h:ta σ H λx H1=>tr σ H1 λxs H2=>R (x::xs) H2):tCons ta tr σ H R:=h
theorem zrX {sp:Sp} {E:XK} {t:TA} (h:t σ H λvs H1=>sp vs H1 Q E):zk4 sp [] E t σ H Q:=by
 unfold zk4
 simpa only [wW] using h
theorem rd_cb {r:List V->Hp->VK->Prop} {t:TA} (h:t σ H λvs H1=>r vs H1 Q):tCB r t σ H Q:=h
theorem rd_aug {i:Nat} {te:TE} {ti:TIp} (e:σ[i]? =some (some v)) (h:te σ H λy H1=>ti v y H1 λz H2=>D.nx (σ.set i (some z)) H2):tAug i te ti D σ H:=⟨v,e,h⟩
theorem rd_ipI {f:Int->Int->Int} {i j:Int} (h:Q (.int (f i j)) H):ipI f (.int i) (.int j) H Q:=⟨i,j,rfl,rfl,h⟩
theorem rd_par {i j:Nat} {ta:TA} (h:ta σ H λvs H1=>∃v w,vs=[v,w]/\D.nx ((σ.set i (some v)).set j (some w)) H1):tPar i j ta D σ H:=h
theorem rd_is2 {R:V->V->Prop} (h:R v w):∃v' w',[v,w]=[v',w']/\R v' w':=⟨v,w,rfl,h⟩
def rEqA:R2:=λx y H Q=>rEq x y H Q\/rEqD x y H Q
def rNeA:R2:=λx y H Q=>rNe x y H Q\/rNeD x y H Q
theorem yu (hu:X.A.units+64<cLine):OpR X (compareOp .Eq) rEqA:=op_eq.or (op_eqD hu)
theorem zdH (hu:X.A.units+64<cLine):OpR X (compareOp .NotEq) rNeA:=op_ne.or (op_neD hu)
theorem zaQ {a b:Prop} [Decidable a] [Decidable b] (h:a↔b):decide a=decide b:=by
 by_cases ha:a
 ·rw [qc ha,qc (h.mp ha)]
 ·rw [qm ha,qm (λz=>ha (h.mpr z))]
theorem rd_eqI {i j:Int} (h:Q (.bl (decide (i=j))) H):rEqA (.int i) (.int j) H Q:= .inl ⟨rfl,by
 rw [zaQ (show V.int i=V.int j↔i=j from ⟨V.int.inj,congrArg _⟩)];exact h⟩
theorem rd_neI {i j:Int} (h:Q (.bl (!decide (i=j))) H):rNeA (.int i) (.int j) H Q:= .inl ⟨rfl,by
 rw [zaQ (show V.int i=V.int j↔i=j from ⟨V.int.inj,congrArg _⟩)];exact h⟩
theorem zm5 (h1:Is H x v) (h2:Is H y w) (s1:SeqAt.shaped x=true) (s2:SeqAt.shaped y=true) (h:Q (.bl (PyData.eqv x y)) H):rEqA v w H Q:= .inr ⟨x,y,h1,h2,s1,s2,h⟩
def kTup (Q:VK) (xs:List V) (H:Hp):Prop:=xs.length<=sizeLine/\∀p,H p=none->Q (.ref p) (upd H p (.tup xs))
def kLst (Q:VK) (xs:List V) (H:Hp):Prop:=xs.length<=sizeLine/\∀p,H p=none->Q (.ref p) (upd H p (.lst xs))
theorem rd_tup {t:TA} (h:t σ H (kTup Q)):tTup t σ H Q:=h
theorem rd_lst {t:TA} (h:t σ H (kLst Q)):tLst t σ H Q:=h
theorem zrH (S:Sta B G0 H cs ds) (h:xj ds xs vs) (hl:vs.length<=1000) (k:∀p H',yt H H'->Sta B G0 H' cs ((.tuple xs, .ref p)::ds)->Q (.ref p) H'):kTup Q vs H:=
 ⟨JP (Vq hl),λp hp=>k p _ (yt.new hp _) (S.newT hp h)⟩
theorem zrJ (S:Sta B G0 H cs ds) (h:xj ds xs vs) (hl:vs.length<=1000) (k:∀p H',yt H H'->Sta B G0 H' ((p,xs)::cs) ds->Q (.ref p) H'):kLst Q vs H:=
 ⟨JP (Vq hl),λp hp=>k p _ (yt.new hp _) (S.newL hp h)⟩
theorem zov {α β:Type} {xs:List α} {ys:List β} {i:Int} {x:α} (hl:xs.length=ys.length) (h:atI xs i=some x):∃j:Nat,xs[j]? =some x/\∀y,ys[j]? =some y->atI ys i=some y:=by
 unfold atI at h⊢;rw [<-hl]
 cases e:ixN xs.length i with
 |none=>rw [e] at h;cases h
 |some j=>rw [e] at h;exact ⟨j,h,λy hy=>hy⟩
theorem zfm {i:Int} (S:Sta B G0 H cs ds) (hx:Has ds (.tuple xs) v) (hi:atI xs i=some x) (k:∀w,Sta B G0 H cs ((x,w)::ds)->Q w H):rIx K v (.int i) H Q:=by
 obtain ⟨p,vs,rfl,hp,hl,z⟩:=S.tup hx;obtain ⟨j,hj,hy⟩:=zov hl hi;obtain ⟨w,hw,S'⟩:=z j x hj;exact .inr (.inl ⟨p,vs,i,w,rfl,rfl,SqT.of hp,hy _ hw,k w S'⟩)
theorem Sta.top {n:PyData} (S:Sta B G0 H cs ((n,v)::ds)):Is H n v:=S.hp (.mem (jd ..))
theorem zrM {i n:Int} (S:Sta B G0 H cs ds) (hx:Has ds (.tuple xs) v) (hi:atI xs i=some (.int n)) (k:Q (.int n) H):rIx K v (.int i) H Q:=
 zfm S hx hi λw S'=>by have:=S'.top;rw [Is] at this;subst this;exact k
theorem xR {i:Int} (S:Sta B G0 H cs ds) (hx:Has ds (.list xs) v) (hi:atI xs i=some x) (k:∀w,Sta B G0 H cs ((x,w)::ds)->Q w H):rIx K v (.int i) H Q:=by
 obtain ⟨p,vs,rfl,hp,hl,z⟩:=S.lst hx;obtain ⟨j,hj,hy⟩:=zov hl hi;obtain ⟨w,hw,S'⟩:=z j x hj;exact .inl ⟨p,vs,i,w,rfl,rfl,SqL.of hp,hy _ hw,k w S'⟩
theorem YR {i n:Int} (S:Sta B G0 H cs ds) (hx:Has ds (.list xs) v) (hi:atI xs i=some (.int n)) (k:Q (.int n) H):rIx K v (.int i) H Q:=
 xR S hx hi λw S'=>by have:=S'.top;rw [Is] at this;subst this;exact k
theorem zkf {i:Int} {L:Addr} (S:Sta B G0 H cs ds) (hx:(L,xs)∈cs) (hi:atI xs i=some x) (k:∀w,Sta B G0 H cs ((x,w)::ds)->Q w H):rIx K (.ref L) (.int i) H Q:=by
 obtain ⟨vs,hp,hl,z⟩:=S.cell hx;obtain ⟨j,hj,hy⟩:=zov hl hi;obtain ⟨w,hw,S'⟩:=z j x hj;exact .inl ⟨L,vs,i,w,rfl,rfl,SqL.of hp,hy _ hw,k w S'⟩
theorem zrN {i n:Int} {L:Addr} (S:Sta B G0 H cs ds) (hx:(L,xs)∈cs) (hi:atI xs i=some (.int n)) (k:Q (.int n) H):rIx K (.ref L) (.int i) H Q:=
 zkf S hx hi λw S'=>by have:=S'.top;rw [Is] at this;subst this;exact k
theorem rd_ixS {i:Int} {a:Addr} {ns:List Int} (hS:SqL K H a (ns.map V.int)) (h0:0<=i) (h1:i<(ns.length:Int)) (k:Q (.int (ns.getD i.toNat 0)) H):rIx K (.ref a) (.int i) H Q:=
 .inl ⟨a,_,i,_,rfl,rfl,hS,zqt h0 h1,k⟩
def rLen (K:PySem.W.Frag):List V->Hp->VK->Prop:=λxs H Q=>∃p ys,xs=[.ref p]/\(SqL K H p ys\/SqT K H p ys)/\Q (.int ys.length) H
theorem yB:Vm X (.builtin "len") (rLen X.K):=zie
theorem zrE (S:Sta B G0 H cs ds) (hx:Has ds (.tuple xs) v) (k:Q (.int xs.length) H):rLen K [v] H Q:=by
 obtain ⟨p,vs,rfl,hp,hl,_⟩:=S.tup hx;exact ⟨p,vs,rfl, .inr (SqT.of hp),by rw [<-hl];exact k⟩
theorem zrG (S:Sta B G0 H cs ds) (hx:Has ds (.list xs) v) (k:Q (.int xs.length) H):rLen K [v] H Q:=by
 obtain ⟨p,vs,rfl,hp,hl,_⟩:=S.lst hx;exact ⟨p,vs,rfl, .inl (SqL.of hp),by rw [<-hl];exact k⟩
theorem zrF {a:Addr} {ns:List Int} (hS:SqL K H a (ns.map V.int)) (k:Q (.int ns.length) H):rLen K [.ref a] H Q:=
 ⟨a,_,rfl, .inl hS,by rw [ja];exact k⟩
def rAbs:List V->Hp->VK->Prop:=λxs H Q=>∃i,xs=[.int i]/\Q (.int (if i<0 then -i else i)) H
theorem zd3:Vm X (.builtin "abs") rAbs:=zqf
theorem rd_abs {i:Int} (k:Q (.int (i.natAbs:Int)) H):rAbs [.int i] H Q:=⟨i,rfl,by
 rw [show (if i<0 then -i else i)=(i.natAbs:Int) by split<;>omega];exact k⟩
def rMin:List V->Hp->VK->Prop:=λxs H Q=>∃i j,xs=[.int i, .int j]/\Q (.int (if j<i then j else i)) H
theorem zib (hc:X.calm=true):Vm X (.builtin "min") rMin:=zoq hc
theorem rd_min {i j:Int} (k:Q (.int (min i j)) H):rMin [.int i, .int j] H Q:=⟨i,j,rfl,by
 rw [show (if j<i then j else i)=min i j by split<;>omega];exact k⟩
def zna (K:PySem.W.Frag):List V->Hp->VK->Prop:=λxs H Q=>∃p ys,xs=[.ref p]/\(SqL K H p ys\/SqT K H p ys)/\∀l,H l=none->Q (.ref l) (upd H l (.lst ys))
theorem zl0:Vm X (.type "list") (zna X.K):=zid
def zkg (K:PySem.W.Frag):List V->Hp->VK->Prop:=λxs H Q=>∃p ys,xs=[.ref p]/\((SqL K H p ys/\∀l,H l=none->Q (.ref l) (upd H l (.tup ys)))\/(SqT K H p ys/\Q (.ref p) H))
theorem ZO:Vm X (.type "tuple") (zkg X.K):=zgW
theorem zpc (S:Sta B G0 H cs ds) (hx:Has ds (.list xs) v) (k:∀l H',yt H H'->Sta B G0 H' ((l,xs)::cs) ds->Q (.ref l) H'):zna K [v] H Q:=by
 obtain ⟨p,vs,rfl,hp,hl,S',hA⟩:=S.lstAll hx;exact ⟨p,vs,rfl, .inl (SqL.of hp),λl hl=>k l _ (yt.new hl _) ((S'.newL hl hA).dat λq hq=> .mem (jG _ hq))⟩
theorem zmS {L:Addr} (S:Sta B G0 H cs ds) (hx:(L,xs)∈cs) (k:∀l H',yt H H'->Sta B G0 H' cs ((.tuple xs, .ref l)::ds)->Q (.ref l) H'):zkg K [.ref L] H Q:=by
 obtain ⟨vs,hp,hl,S',hA⟩:=S.cellAll hx
 exact ⟨L,vs,rfl, .inl ⟨SqL.of hp,λl hl=>k l _ (yt.new hl _) ((S'.newT hl hA).dat λq hq=> .mem (by
  rcases jn.mp hq with rfl|hq
  ·exact jd ..
  ·exact jf _ (jG _ hq)))⟩⟩
def kBM (K:PySem.W.Frag) (T:String) (r:V->List V->Hp->VK->Prop) (t:TA) (σ:L2.St) (Q:VK):VK:=λx H1=>tyV K T x H1/\t σ H1 λxs H2=>r x xs H2 Q
theorem rd_bm {T:String} {r:V->List V->Hp->VK->Prop} {to:TE} {t:TA} (h:to σ H (kBM K T r t σ Q)):tBM K T r to t σ H Q:=h
theorem rd_kBM {L:Addr} {r:V->List V->Hp->VK->Prop} {t:TA} (S:Sta B G0 H cs ds) (hx:(L,xs)∈cs) (h:t σ H λys H2=>r (.ref L) ys H2 Q):kBM K "list" r t σ Q (.ref L) H:=by
 obtain ⟨vs,hp,hl,_⟩:=S.cell hx;exact ⟨.inl ⟨rfl,_,SqL.of hp⟩,h⟩
theorem Zh {L:Addr} (S:Sta B G0 H ((L,xs)::cs) ds) (hy:Has ds y w) (hz:xs.length<=1000) (k:∀H',Sta B G0 H' ((L,xs++[y])::cs) ds->Q .non H'):znc (.ref L) [w] H Q:=by
 obtain ⟨vs,hp,hl,put⟩:=S.put;exact ⟨L,vs,w,rfl,rfl,hp,Vq (by omega),k _ (put _ _ λG a u=>u.app (by rw [zX];exact ⟨w,[],rfl,hy G a,by rw [zX]⟩))⟩
theorem zrr {L:Addr} {i:Int} {j:Nat} {R:Hp->Prop} (S:Sta B G0 H ((L,xs)::cs) ds) (hy:Has ds y w) (hi:ixN xs.length i=some j) (k:∀H',Sta B G0 H' ((L,xs.set j y)::cs) ds->R H'):rSetL (.ref L) (.int i) w H R:=by
 obtain ⟨vs,hp,hl,put⟩:=S.put;exact ⟨L,vs,i,j,rfl,rfl,hp,by rw [<-hl];exact hi,k _ (put _ _ λG a u=>u.set (hy G a) j)⟩
def zs0 (xs:List PyData) (lo hi:Option Int):List PyData:=(xs.drop (HT.sIx xs.length 0 lo)).take (HT.sIx xs.length xs.length hi - HT.sIx xs.length 0 lo)
theorem zhL {lo hi:Option Int} (S:Sta B G0 H cs ds) (hx:Has ds (.list xs) v) (k:∀l H',yt H H'->Sta B G0 H' ((l,zs0 xs lo hi)::cs) ds->Q (.ref l) H'):rSlL K v lo hi H Q:=by
 obtain ⟨p,vs,rfl,hp,hl,S',hA⟩:=S.lstAll hx;refine ⟨p,vs,rfl,SqL.of hp,λl hn=>k l _ (yt.new hn _) ((S'.newL hn λG a=>?_).dat λq hq=> .mem (jG _ hq))⟩;unfold zs0 zsI;rw [hl];exact ((hA G a).drop _).take _
end
theorem zpB {a b m n:Int} (h:(0<m/\m<2 ^ 64)/\(0<n/\n<2 ^ 64)):IntMulOk (a % m) (b % n):=by
 have h1:=wy a (show m≠0 by omega);have h2:=qZ a h.1.1;have h3:=wy b (show n≠0 by omega);have h4:=qZ b h.2.1;have e:(2:Nat) ^ 64=18446744073709551616:=by decide
 have e':(2:Int) ^ 64=18446744073709551616:=by decide
 rw [e'] at h;exact Sz.mulOk (m:=64) (n:=64) (by unfold Sz;rw [e];omega) (by unfold Sz;rw [e];omega) (by decide)
theorem iteNT {A B:Prop} (h:B):if (!true)=true then A else B:=h
section
variable {B G0 H:Hp} {cs:xq} {ds:Dat} {Q:VK} {v:V} {xs zs:List PyData} {K:PySem.W.Frag} {X:Cx} {L M:Addr}
def zr1:R2:=λx y H Q=>rI0 (λi j=> .int (i+j)) x y H Q\/rCat x y H Q
theorem xo:OpR X (binaryOp .Add) zr1:=op_add.or op_cat
theorem zrZ {i j:Int} (h:Q (.int (i+j)) H):zr1 (.int i) (.int j) H Q:= .inl ⟨i,j,rfl,rfl,h⟩
def Vw (B G0 H:Hp) (cs:xq) (ds:Dat) (L:Addr) (xs:List PyData):Prop:=∃vs,H L=some (.lst vs)/\∀G,zsR B G0 H cs ds G->zX G xs vs
theorem Sta.vwL (S:Sta B G0 H cs ds) (h:Has ds (.list xs) (.ref L)):Vw B G0 H cs ds L xs:=by
 obtain ⟨G,S⟩:=S;have q:=h G S.2.2.2.2.2.2;rw [Is] at q;obtain ⟨p,vs,e,hp,u⟩:=q;cases e;have hp':=S.2.1 _ _ hp;refine ⟨vs,hp',λG' S'=>?_⟩;have q:=h G' S'.2.2.2.2.2.2;rw [Is] at q;obtain ⟨p,vs',e,hp2,u'⟩:=q;cases e;have:=S'.2.1 _ _ hp2;rw [hp'] at this;cases this;exact u'
theorem Sta.vwC (S:Sta B G0 H cs ds) (h:(L,xs)∈cs):Vw B G0 H cs ds L xs:=by
 obtain ⟨G,S⟩:=S;obtain ⟨_,_,vs,z,u⟩:=S.2.2.2.2.1 _ h;refine ⟨vs,z,λG' S'=>?_⟩;obtain ⟨_,_,vs',z',u'⟩:=S'.2.2.2.2.1 _ h;rw [z] at z';cases z';exact u'
theorem WR (S:Sta B G0 H cs ds) (v1:Vw B G0 H cs ds L xs) (v2:Vw B G0 H cs ds M zs) (hz:xs.length+zs.length<=1000)
 (k:∀p H',yt H H'->Sta B G0 H' ((p,xs++zs)::cs) ds->Q (.ref p) H'):zr1 (.ref L) (.ref M) H Q:=by
 obtain ⟨us,h1,u1⟩:=v1;obtain ⟨ws,h2,u2⟩:=v2;obtain ⟨G,S'⟩:=id S;refine .inr ⟨L,M,us,ws,rfl,rfl,h1,h2,JP (Vq (by rw [<-(u1 G S').len,<-(u2 G S').len];exact hz)),λp hp=>k p _ (yt.new hp _) ?_⟩;obtain ⟨a,b,c,d,e,f,g⟩:=id S';have hG:G p=none:=b.free hp;refine ⟨G,a,b.trans (yt.new hp _),c.trans (yt.new hp _),d,λq hq=>?_,?_,g⟩
 ·rcases jn.mp hq with rfl|hq
  ·exact ⟨c.free hp,hG,_,xC,(u1 G S').app (u2 G S')⟩
  ·obtain ⟨x,y,ws,z,u⟩:=e q hq;have hqp:q.1≠p:=yL z hp;exact ⟨x,y,ws,by rw [yE hqp];exact z,u⟩
 ·rw [jq,qM];refine ⟨λz=>?_,f⟩;obtain ⟨q,hq,hqp⟩:=jk.mp z;obtain ⟨_,_,ws,z,_⟩:=e q hq;rw [hqp,hp] at z;cases z
def rSum (K:PySem.W.Frag):List V->Hp->VK->Prop:=λxs H Q=>∃(p:Addr) (ns:List Int),xs=[.ref p]/\SqL K H p (ns.map V.int)/\Q (.int ns.sum) H
theorem Zi (hc:X.calm=true):Vm X (.builtin "sum") (rSum X.K):=by
 intro pins s σ H xs us Q I r h;obtain ⟨p,ns,rfl,hq,q⟩:=h;obtain ⟨u,rfl,rx⟩:=zc0 r;cases rx;obtain ⟨its,rv,pl,_⟩:=I.list hq;have hi:=Wr rv;obtain ⟨ys,e⟩:=hi.allInts.items;have hl:s.heap.IsList p (intItems ys):=e▸pl.isList;have en:ys.toList.map (·.1)=ns:=by rw [<-nums_intItems,<-e];exact hi.numsOf
 refine sum_intListG (I.ok.hd hc) hl λh' tk t' hk=>?_;refine ⟨.int ns.sum,H,I.kept (t':=tk) hk,⟨t',?_⟩,q⟩;rw [preSum_eq,en,qy (by rw [<-en];simp)]
theorem xz {G:Hp}:∀{ns:List Int} {vs:List V},zX G (ns.map PyData.int) vs->vs=ns.map V.int
 |[],vs,h=>by rw [wB,zX] at h;exact h
 |n::ns,vs,h=>by
  rw [jq,zX] at h;obtain ⟨v,r,rfl,h1,h2⟩:=h;rw [Is] at h1;subst h1;rw [xz h2,jq]
theorem zrq {ns:List Int} (S:Sta B G0 H cs ds) (h:(L,ns.map PyData.int)∈cs) (k:Q (.int ns.sum) H):rSum K [.ref L] H Q:=by
 obtain ⟨vs,hp,u⟩:=S.vwC h;obtain ⟨G,S'⟩:=id S;rw [xz (u G S')] at hp;exact ⟨L,ns,rfl,SqL.of hp,k⟩
theorem zrp {ns:List Int} (S:Sta B G0 H cs ds) (h:Has ds (.list (ns.map PyData.int)) v) (k:Q (.int ns.sum) H):rSum K [v] H Q:=by
 obtain ⟨p,vs,rfl,_⟩:=S.lst h;obtain ⟨vs,hp,u⟩:=S.vwL h;obtain ⟨G,S'⟩:=id S;rw [xz (u G S')] at hp;exact ⟨_,ns,rfl,SqL.of hp,k⟩
end
def Ro (B G0:Hp) (L:Addr) (xs:List PyData):Prop:=G0 L=none/\∃vs,B L=some (.lst vs)/\zX G0 xs vs
def Src (B G0:Hp) (b:Bool) (K:PySem.W.Frag) (a:Addr) (xs:List PyData) (P:xq->Dat->Prop):Prop:=∀{H:Hp} {cs:xq} {ds:Dat},Sta B G0 H cs ds->P cs ds->
 ∃vs,SqB b K H a vs/\xs.length=vs.length/\∀(i:Nat) (x:PyData),xs[i]? =some x->∃v,vs[i]? =some v/\Sta B G0 H cs ((x,v)::ds)
structure Wk (B G0:Hp) (J:It) (xs:List PyData) (P:xq->Dat->Prop):Prop where
 go:∀{H:Hp} {cs:xq} {ds:Dat} {i:Nat},Sta B G0 H cs ds->P cs ds->i<xs.length->J.go i H
 stop:∀{H:Hp} {cs:xq} {ds:Dat} {i:Nat},Sta B G0 H cs ds->P cs ds->xs.length<=i->J.stop i H
 yld:∀{H H':Hp} {cs:xq} {ds:Dat} {i:Nat} {x:PyData} {v:V},Sta B G0 H cs ds->P cs ds->xs[i]? =some x->J.yld i H v H'->yt H H'/\Sta B G0 H' cs ((x,v)::ds)
section
variable {B G0 H:Hp} {cs:xq} {ds:Dat} {K:PySem.W.Frag} {a:Addr} {xs ys:List PyData} {P P':xq->Dat->Prop} {b c:Bool} {v:V}
theorem VY:Src B G0 true K a xs (λ_ ds=>Has ds (.list xs) (.ref a)):=λS h=>by
 obtain ⟨p,vs,e,hp,hl,z⟩:=S.lst h;cases e;exact ⟨vs,SqL.of hp,hl,z⟩
theorem zc6:Src B G0 false K a xs (λ_ ds=>Has ds (.tuple xs) (.ref a)):=λS h=>by
 obtain ⟨p,vs,e,hp,hl,z⟩:=S.tup h;cases e;exact ⟨vs,SqT.of hp,hl,z⟩
theorem zoV:Src B G0 true K a xs (λcs _=>(a,xs)∈cs):=λS h=>by
 obtain ⟨vs,hp,hl,z⟩:=S.cell h;exact ⟨vs,SqL.of hp,hl,z⟩
theorem zmi (s:Src B G0 true K a xs P):Wk B G0 (Itl K a) xs P where
 go:=λ{H cs ds i} S h hi=>by
  obtain ⟨vs,q,hl,_⟩:=s S h;exact ⟨vs,vs[i]'(by omega),q,jb _⟩
 stop:=λ{H cs ds i} S h hi=>by
  obtain ⟨vs,q,hl,_⟩:=s S h;exact ⟨vs,q,by omega⟩
 yld:=λ{H H' cs ds i x v} S h hx y=>by
  obtain ⟨e,y⟩:=y;subst e;obtain ⟨vs,q,hl,z⟩:=s S h;obtain ⟨w,hw,S'⟩:=z i x hx;have:=y vs q;rw [hw] at this;cases this;exact ⟨yt.refl _,S'⟩
theorem wk_tup (s:Src B G0 false K a xs P):Wk B G0 (Itt K a) xs P where
 go:=λ{H cs ds i} S h hi=>by
  obtain ⟨vs,q,hl,_⟩:=s S h;exact ⟨vs,vs[i]'(by omega),q,jb _⟩
 stop:=λ{H cs ds i} S h hi=>by
  obtain ⟨vs,q,hl,_⟩:=s S h;exact ⟨vs,q,by omega⟩
 yld:=λ{H H' cs ds i x v} S h hx y=>by
  obtain ⟨e,y⟩:=y;subst e;obtain ⟨vs,q,hl,z⟩:=s S h;obtain ⟨w,hw,S'⟩:=z i x hx;have:=y vs q;rw [hw] at this;cases this;exact ⟨yt.refl _,S'⟩
def zfn (lo:Int) (n:Nat):List PyData:=(List.range n).map λi=> .int (lo+(i:Nat))
theorem ZR (lo:Int) (n:Nat):(zfn lo n).length=n:=by unfold zfn;rw [ja,Qg]
theorem zaF {lo:Int} {n i:Nat} {x:PyData} (h:(zfn lo n)[i]? =some x):i<n/\x= .int (lo+(i:Nat)):=by
 have hi:i<n:=by have:=(je.mp h).1;rwa [ZR] at this
 unfold zfn at h;rw [jh,List.getElem?_range hi] at h;exact ⟨hi,(jL h).symm⟩
theorem zoP {lo:Int} {n:Nat}:Wk B G0 (Itr lo n) (zfn lo n) (λ_ _=>True) where
 go:=λ{H cs ds i} S h hi=>by rw [ZR] at hi;exact hi
 stop:=λ{H cs ds i} S h hi=>by rw [ZR] at hi;exact hi
 yld:=λ{H H' cs ds i x v} S h hx y=>by
  obtain ⟨e,y⟩:=y;obtain ⟨_,rfl⟩:=zaF hx;subst e y;exact ⟨yt.refl _,S.push Has.int⟩
def zjq (xs:List PyData):List PyData:=xs.mapIdx λi x=> .tuple [.int (i:Nat),x]
theorem ZF (xs:List PyData):(zjq xs).length=xs.length:=by unfold zjq;rw [List.length_mapIdx]
theorem Uj {xs:List PyData} {i:Nat} {y:PyData} (h:(zjq xs)[i]? =some y):∃x,xs[i]? =some x/\y= .tuple [.int (i:Nat),x]:=by
 unfold zjq at h;rw [List.getElem?_mapIdx] at h
 cases e:xs[i]? with
 |none=>rw [e] at h;cases h
 |some x=>rw [e] at h;exact ⟨x,rfl,(jL h).symm⟩
theorem zmj (s:Src B G0 b K a xs P):Wk B G0 (ItE b K a) (zjq xs) P where
 go:=λ{H cs ds i} S h hi=>by
  rw [ZF] at hi;obtain ⟨vs,q,hl,_⟩:=s S h;exact ⟨vs,vs[i]'(by omega),q,jb _⟩
 stop:=λ{H cs ds i} S h hi=>by
  rw [ZF] at hi;obtain ⟨vs,q,hl,_⟩:=s S h;exact ⟨vs,q,by omega⟩
 yld:=λ{H H' cs ds i x v} S h hx y=>by
  obtain ⟨x0,hx0,rfl⟩:=Uj hx;obtain ⟨p,u,hu,hp,rfl,rfl⟩:=y;obtain ⟨vs,q,hl,z⟩:=s S h;obtain ⟨w,hw,S'⟩:=z i x0 hx0;have:=hu vs q;rw [hw] at this;cases this;refine ⟨yt.new hp _,(S'.newT hp (xs:=[.int (i:Nat),x0]) (vs:=[.int (i:Nat),u]) (.cons Has.int (.cons (.mem (jd ..)) .nil))).dat λr hr=> .mem ?_⟩
  rcases jn.mp hr with rfl|hr
  ·exact jd ..
  ·exact jf _ (jf _ hr)
def zqy (xs ys:List PyData):List PyData:=List.zipWith (λx y=> .tuple [x,y]) xs ys
theorem xL (xs ys:List PyData):(zqy xs ys).length=min xs.length ys.length:=by unfold zqy;rw [jA]
theorem Xn {xs ys:List PyData} {i:Nat} {z:PyData} (h:(zqy xs ys)[i]? =some z):∃x y,xs[i]? =some x/\ys[i]? =some y/\z= .tuple [x,y]:=by
 unfold zqy at h;rw [jt] at h
 cases e:xs[i]? with
 |none=>rw [e] at h;cases h
 |some x=>
  cases e2:ys[i]? with
  |none=>rw [e,e2] at h;cases h
  |some y=>rw [e,e2] at h;exact ⟨x,y,rfl,rfl,(jL h).symm⟩
theorem zmh {a2:Addr} (s:Src B G0 b K a xs P) (s2:Src B G0 c K a2 ys P'):Wk B G0 (ItZ b c K a a2) (zqy xs ys) (λcs ds=>P cs ds/\(∀x v,P' cs ds->P' cs ((x,v)::ds))/\P' cs ds) where
 go:=λ{H cs ds i} S h hi=>by
  rw [xL] at hi;obtain ⟨vs,q,hl,_⟩:=s S h.1;obtain ⟨ws,q2,hl2,_⟩:=s2 S h.2.2;exact ⟨vs,ws,vs[i]'(by omega),ws[i]'(by omega),q,q2,jb _,jb _⟩
 stop:=λ{H cs ds i} S h hi=>by
  rw [xL] at hi;obtain ⟨vs,q,hl,_⟩:=s S h.1;obtain ⟨ws,q2,hl2,_⟩:=s2 S h.2.2;exact ⟨vs,ws,q,q2,by omega⟩
 yld:=λ{H H' cs ds i x v} S h hx y=>by
  obtain ⟨x0,y0,hx0,hy0,rfl⟩:=Xn hx;obtain ⟨p,u,u2,hu,hu2,hp,rfl,rfl⟩:=y;obtain ⟨vs,q,hl,z⟩:=s S h.1;obtain ⟨w,hw,S'⟩:=z i x0 hx0;obtain ⟨ws,q2,hl2,z2⟩:=s2 S' (h.2.1 _ _ h.2.2);obtain ⟨w2,hw2,S''⟩:=z2 i y0 hy0;have:=hu vs q;rw [hw] at this;cases this;have:=hu2 ws q2;rw [hw2] at this;cases this;refine ⟨yt.new hp _,(S''.newT hp (xs:=[x0,y0]) (vs:=[u,u2]) (.cons (.mem (jf _ (jd ..))) (.cons (.mem (jd ..)) .nil))).dat λr hr=> .mem ?_⟩
  rcases jn.mp hr with rfl|hr
  ·exact jd ..
  ·exact jf _ (jf _ (jf _ hr))
def kIL (K:PySem.W.Frag) (R:It->Hp->Prop):VK:=λx H1=>∃a,x= .ref a/\(∃xs,SqL K H1 a xs)/\R (Itl K a) H1
def kIT (K:PySem.W.Frag) (R:It->Hp->Prop):VK:=λx H1=>∃a,x= .ref a/\(∃xs,SqT K H1 a xs)/\R (Itt K a) H1
def kR1 (R:It->Hp->Prop):List V->Hp->Prop:=λvs H1=>∃j:Int,vs=[.int j]/\ -(2 ^ 62)<=j/\j<2 ^ 62/\R (Itr 0 j.toNat) H1
def kEn (b:Bool) (K:PySem.W.Frag) (R:It->Hp->Prop):List V->Hp->Prop:=λvs H1=>∃a,vs=[.ref a]/\(∃xs,SqB b K H1 a xs)/\R (ItE b K a) H1
def kZi (b c:Bool) (K:PySem.W.Frag) (R:It->Hp->Prop):List V->Hp->Prop:=λvs H1=>∃a1 a2,vs=[.ref a1, .ref a2]/\(∃xs,SqB b K H1 a1 xs)/\(∃ys,SqB c K H1 a2 ys)/\R (ItZ b c K a1 a2) H1
section
variable {σ:L2.St} {R:It->Hp->Prop} {tl:TE} {ta:TA}
theorem zpf (h:tl σ H (kIL K R)):iList K tl σ H R:=h
theorem zrP (h:tl σ H (kIT K R)):iTup K tl σ H R:=h
theorem rd_iR1 (h:ta σ H (kR1 R)):iRng1 ta σ H R:=h
theorem rd_iEn (h:ta σ H (kEn b K R)):iEnum b K ta σ H R:=h
theorem rd_iZi (h:ta σ H (kZi b c K R)):iZip b c K ta σ H R:=h
theorem zm1 {j:Int} (B G0:Hp) (h1: -1000<=j) (h2:j<=1000000) (k:∀J,Wk B G0 J (zfn 0 j.toNat) (λ_ _=>True)->R J H):kR1 R [.int j] H:=⟨j,rfl,by omega,by omega,k _ zoP⟩
end
def kGT (K:PySem.W.Frag) (n:Nat) (t:TGs) (σ:L2.St) (N:L2.St->Hp->Prop):VK:=λv H=>∃a xs,v= .ref a/\SqT K H a xs/\xs.length=n/\t xs σ H N
theorem Zp {n:Nat} {t:TGs} {σ:L2.St} {N:L2.St->Hp->Prop} (h:kGT K n t σ N v H):gTup K n t v σ H N:=h
theorem rd_kGT {n:Nat} {t:TGs} {σ:L2.St} {N:L2.St->Hp->Prop} (S:Sta B G0 H cs ds) (h:Has ds (.tuple xs) v) (hn:xs.length=n) (k:∀vs,xs.length=vs.length->Sta B G0 H cs (xs.zip vs++ds)->t vs σ H N):kGT K n t σ N v H:=by
 obtain ⟨p,vs,rfl,hp,hl,S',_⟩:=S.tupAll h;exact ⟨p,vs,rfl,SqT.of hp,by omega,k vs hl S'⟩
theorem Zo {t:TGs} {σ:L2.St} {N:L2.St->Hp->Prop} {x y:PyData} (S:Sta B G0 H cs ds) (h:Has ds (.tuple [x,y]) v) (k:∀w1 w2,Sta B G0 H cs ((x,w1)::(y,w2)::ds)->t [w1,w2] σ H N):kGT K 2 t σ N v H:=by
 refine rd_kGT S h rfl λvs hl S'=>?_
 match vs,hl with
 |[w1,w2],_=>exact k w1 w2 S'
theorem xu {t:TG} {u:TGs} {σ:L2.St} {N:L2.St->Hp->Prop} {vs:List V} (h:t v σ H λσ' H'=>u vs σ' H' N):gCons t u (v::vs) σ H N:=⟨v,vs,rfl,h⟩
theorem Wb {σ:L2.St} {N:L2.St->Hp->Prop} (h:N σ H):gNil [] σ H N:=⟨rfl,h⟩
def kFor (g:TG) (tb:TS) (D:Ends) (σ:L2.St):It->Hp->Prop:=λJ H1=>∃W:Nat->Nat->L2.St->Hp->Prop,(∃m,W 0 m σ H1)/\∀i m σ H,W i m σ H->
 (J.stop i H/\D.nx σ H)\/(J.go i H/\∃N:L2.St->Hp->Prop,(∀σ' H',N σ' H'->∃m',m'<m/\W (i+1) m' σ' H')/\∀x H',J.yld i H x H'->g x σ H' λσ2 H2=>tb {D with nx:=N,ct:=N,bk:=D.nx} σ2 H2)
theorem rd_for {wi:TI} {g:TG} {tb:TS} {D:Ends} {σ:L2.St} (h:wi σ H (kFor g tb D σ)):tFor wi g tb D σ H:=h
def AtP (B G0:Hp) (Pv:L2.St->xq->Dat->Prop):L2.St->Hp->Prop:=λσ H=>∃cs ds,Sta B G0 H cs ds/\Pv σ cs ds
theorem VE {Pv:L2.St->xq->Dat->Prop} {σ:L2.St} (S:Sta B G0 H cs ds) (h:Pv σ cs ds):AtP B G0 Pv σ H:=⟨cs,ds,S,h⟩
theorem XC {J:It} {g:TG} {tb:TS} {D:Ends} {σ:L2.St} (w:Wk B G0 J xs P) (Pv:Nat->L2.St->xq->Dat->Prop) (S:Sta B G0 H cs ds) (h0:Pv 0 σ cs ds) (hP:∀i σ cs ds,Pv i σ cs ds->P cs ds)
 (hs:∀(i:Nat) (x:PyData) (v:V) (σ:L2.St) (H:Hp) (cs:xq) (ds:Dat),xs[i]? =some x->Pv i σ cs ds->Sta B G0 H cs ((x,v)::ds)->g v σ H λσ2 H2=>tb (mkL D (AtP B G0 (Pv (i+1)))) σ2 H2)
 (hd:∀(σ:L2.St) (H:Hp) (cs:xq) (ds:Dat),Pv xs.length σ cs ds->Sta B G0 H cs ds->D.nx σ H):kFor g tb D σ J H:=by
 refine ⟨λi m σ H=>m=xs.length - i/\i<=xs.length/\AtP B G0 (Pv i) σ H,⟨xs.length,by simp,wg _,cs,ds,S,h0⟩,?_⟩
 rintro i m σ H ⟨rfl,hi,cs,ds,S,p⟩
 by_cases hlt:i<xs.length
 ·refine .inr ⟨w.go S (hP _ _ _ _ p) hlt,AtP B G0 (Pv (i+1)),λσ' H' p'=>⟨xs.length - (i+1),by omega,rfl,hlt,p'⟩,λx H' y=>?_⟩;exact hs i _ x σ H' cs ds (jb hlt) p (w.yld S (hP _ _ _ _ p) (jb hlt) y).2
 ·have e:i=xs.length:=by omega
  subst e;exact .inl ⟨w.stop S (hP _ _ _ _ p) (jy _),hd σ H cs ds p S⟩
def WP (B G0:Hp) (Pv:Nat->L2.St->xq->Dat->Prop):Nat->L2.St->Hp->Prop:=λm σ H=>AtP B G0 (Pv m) σ H
def kWh (W:Nat->L2.St->Hp->Prop) (tb:TS) (D:Ends) (m:Nat) (σ:L2.St):Bool->Hp->Prop:=λb H1=>if b=true then ∃N:L2.St->Hp->Prop,(∀σ' H',N σ' H'->∃m',m'<m/\W m' σ' H')/\tb {D with nx:=N,ct:=N,bk:=D.nx} σ H1 else D.nx σ H1
theorem zmQ {tb:TS} {D:Ends} {m:Nat} {σ:L2.St} {b:Bool} {W:Nat->L2.St->Hp->Prop} (h1:b=true->tb (mkL D (λσ' H'=>∃m',m'<m/\W m' σ' H')) σ H)
 (h2:b=false->D.nx σ H):kWh W tb D m σ b H:=by
 cases b with
 |true=>exact ⟨_,λσ' H' q=>q,h1 rfl⟩
 |false=>exact h2 rfl
theorem ziC {c:TT} {tb:TS} {D:Ends} {σ:L2.St} (W:Nat->L2.St->Hp->Prop) (m:Nat) (h0:W m σ H) (hs:∀(m:Nat) (σ:L2.St) (H:Hp),W m σ H->c σ H (kWh W tb D m σ)):zmr c tb D σ H:=⟨W,⟨m,h0⟩,hs⟩
theorem zmk {c:TT} {tb:TS} {D:Ends} {σ:L2.St} (Pv:Nat->L2.St->xq->Dat->Prop) (m:Nat) (S:Sta B G0 H cs ds) (h0:Pv m σ cs ds)
 (hs:∀(m:Nat) (σ:L2.St) (H:Hp) (cs:xq) (ds:Dat),Pv m σ cs ds->Sta B G0 H cs ds->c σ H (kWh (WP B G0 Pv) tb D m σ)):zmr c tb D σ H:=
 ⟨WP B G0 Pv,⟨m,cs,ds,S,h0⟩,λm σ H ⟨cs,ds,S,p⟩=>hs m σ H cs ds p S⟩
def zst (n:Nat) (fr:List Nat) (g:Blk TG) (tt:Blk TT) (te:Blk TE) (σ:L2.St) (Q:VK):It->Hp->Prop:=λJ H1=>∀D,H1 D=none->∀C ex s0 H0,
 ∃W:Nat->Nat->List V->Hp->Prop,(∃m,W 0 m [] (upd H1 D (.lst [])))/\∀i m ys H2,W i m ys H2->H2 D=some (.lst ys)/\
  ((J.stop i H2/\Q (.ref D) H2)\/(J.go i H2/\∀x H3,J.yld i H2 x H3->g C ex s0 H0 x (List.replicate n none++frσ σ fr) H3 λσ4 H4=>σ4.drop n=frσ σ fr/\tt C ex s0 H0 σ4 H4 λb H5=>
    if b=true then te C ex s0 H0 σ4 H5 λy H6=>H6 D=some (.lst ys)/\ys.length<sizeLine/\∃m',m'<m/\W (i+1) m' (ys++[y]) (upd H6 D (.lst (ys++[y])))
    else ∃m',m'<m/\W (i+1) m' ys H5))
theorem zrV {n:Nat} {fr:List Nat} {wi:TI} {g:Blk TG} {tt:Blk TT} {te:Blk TE} {σ:L2.St} {Q:VK} (h:wi σ H (zst n fr g tt te σ Q)):zoT n fr wi g tt te σ H Q:=h
structure Turn1 (B G0:Hp) (cs:xq) (B' G':Hp):Prop where
 b:yt B B'
 ro:∀c∈cs,Ro B' G' c.1 c.2
 old:∀{L:Addr} {xs:List PyData},Ro B G0 L xs->Ro B' G' L xs
theorem zbK {J:It} {n:Nat} {fr:List Nat} {g:Blk TG} {tt:Blk TT} {te:Blk TE} {σ:L2.St} {Q:VK} (w:Wk B G0 J xs P) (f:Nat->Option PyData) (S:Sta B G0 H cs ds) (hPm:∀D ys,P ((D,ys)::cs) ds) (hn:xs.length<=1000)
 (hs:∀(i:Nat) (x:PyData) (v:V) (B' G':Hp) (Kd:VK) (Kn:Hp->Prop),xs[i]? =some x->Turn1 B G0 cs B' G'->Sta B' G' B' [] ((x,v)::ds)->
  (∀{z:PyData} {y:V} {H6:Hp} {cs':xq} {ds':Dat},f i=some z->Sta B' G' H6 cs' ds'->Has ds' z y->Kd y H6)->(∀{H5:Hp} {cs':xq} {ds':Dat},f i=none->Sta B' G' H5 cs' ds'->Kn H5)->
  ∀C ex s0 H0,g C ex s0 H0 v (List.replicate n none++frσ σ fr) B' λσ4 H4=>σ4.drop n=frσ σ fr/\tt C ex s0 H0 σ4 H4 λb H5=>if b=true then te C ex s0 H0 σ4 H5 Kd else Kn H5)
 (k:∀D H',yt H H'->Sta B G0 H' ((D,(List.range xs.length).filterMap f)::cs) ds->Q (.ref D) H'):zst n fr g tt te σ Q J H:=by
 intro D hD C ex s0 H0;have len:∀i,((List.range i).filterMap f).length<=i:=λi=>jS (Jm _ _) (by rw [Qg];exact jy _);refine ⟨λi m ys H2=>m=xs.length - i/\i<=xs.length/\H2 D=some (.lst ys)/\yt H H2/\Sta B G0 H2 ((D,(List.range i).filterMap f)::cs) ds,⟨xs.length,by simp,wg _,xC,yt.new hD _,S.newL hD .nil⟩,?_⟩
 rintro i m ys H2 ⟨rfl,hi,hDl,hS,S2⟩
 refine ⟨hDl,?_⟩
 by_cases hlt:i<xs.length
 ·refine .inr ⟨w.go S2 (hPm _ _) hlt,λv H3 y=>?_⟩;obtain ⟨e3,G3,S3⟩:=w.yld S2 (hPm _ _) (jb hlt) y;obtain ⟨a,b,c,d,e,f',g'⟩:=id S3;have h3D:H3 D=some (.lst ys):=e3 _ _ hDl
  have t1:Turn1 B G0 cs H3 G3:=by
   refine ⟨c,λq hq=>?_,λ{L zs} ⟨r1,vs,r2,r3⟩=>?_⟩
   ·obtain ⟨_,y',vs,z',u'⟩:=e q (jf _ hq);exact ⟨y',vs,z',u'⟩
   ·exact ⟨by rw [d L (by rw [r2];simp)];exact r1,vs,c _ _ r2,zX.mono a _ _ r3⟩
  have up:∀{H6:Hp} {cs':xq} {ds':Dat} {o:HO},yt H H3->H D=none->yt H H6->yt H (upd H6 D o):=λ{H6 cs' ds' o} _ hn h q u hq=>by
   rw [yE (yL hq hn)];exact h _ _ hq
  refine hs i _ v H3 G3 _ _ (jb hlt) t1 (Sta.enter b g') ?_ ?_ C ex s0 H0
  ·intro z y6 H6 cs' ds' fz S6 hz;obtain ⟨G6,gr,al⟩:=S6.leave;have h6D:H6 D=some (.lst ys):=gr.h _ _ h3D;have S6':zsR B G0 H6 ((D,(List.range i).filterMap f)::cs) ((xs[i],v)::ds) G6:=S3.grow gr
   have S7:Sta B G0 H6 ((D,(List.range i).filterMap f)::cs) ((z,y6)::ds):=by
    obtain ⟨a',b',c',d',e',f'',g''⟩:=S6';exact ⟨G6,a',b',c',d',e',f'',WG.cons (λp hp=>g'' p (jf _ hp)) (hz G6 al)⟩
   obtain ⟨vs,hv,hl,put⟩:=S7.put;rw [h6D] at hv;cases hv;refine ⟨h6D,Vq (by have:=len i;omega),xs.length - (i+1),by omega,rfl,hlt,xC,up (cs':=cs') (ds':=ds') (hS.trans e3) hD ((hS.trans e3).trans gr.h),?_⟩
   have er:(List.range (i+1)).filterMap f=(List.range i).filterMap f++[z]:=by
    rw [List.range_succ,List.filterMap_append];simp [fz]
   rw [er];exact (put _ _ λG a u=>u.app (by rw [zX];exact ⟨y6,[],rfl,a _ (jd ..),by rw [zX]⟩)).drop1
  ·intro H5 cs' ds' fz S5;obtain ⟨G5,gr,al⟩:=S5.leave;have S5':Sta B G0 H5 ((D,(List.range i).filterMap f)::cs) ((xs[i],v)::ds):=⟨G5,S3.grow gr⟩
   have er:(List.range (i+1)).filterMap f=(List.range i).filterMap f:=by
    rw [List.range_succ,List.filterMap_append];simp [fz]
   exact ⟨xs.length - (i+1),by omega,rfl,hlt,gr.h _ _ h3D,(hS.trans e3).trans gr.h,by rw [er];exact S5'.drop1⟩
 ·have e:i=xs.length:=by omega
  subst e;exact .inl ⟨w.stop S2 (hPm _ _) (jy _),k D H2 hS S2⟩
theorem zsA {α β:Type} (g:α->β) (l:List α):l.filterMap (λi=>some (g i))=l.map g:=by
 induction l with
 |nil=>rfl
 |cons a l ih=>simp [ih]
theorem zS {J:It} {n:Nat} {fr:List Nat} {g:Blk TG} {tt:Blk TT} {te:Blk TE} {σ:L2.St} {Q:VK} (w:Wk B G0 J xs P) (f:Nat->PyData) (hy:(List.range xs.length).map f=ys) (S:Sta B G0 H cs ds) (hPm:∀D ys,P ((D,ys)::cs) ds) (hn:xs.length<=1000)
 (hs:∀(i:Nat) (x:PyData) (v:V) (B' G':Hp) (Kd:VK) (Kn:Hp->Prop),xs[i]? =some x->Turn1 B G0 cs B' G'->Sta B' G' B' [] ((x,v)::ds)->
  (∀{y:V} {H6:Hp} {cs':xq} {ds':Dat},Sta B' G' H6 cs' ds'->Has ds' (f i) y->Kd y H6)->
  ∀C ex s0 H0,g C ex s0 H0 v (List.replicate n none++frσ σ fr) B' λσ4 H4=>σ4.drop n=frσ σ fr/\tt C ex s0 H0 σ4 H4 λb H5=>if b=true then te C ex s0 H0 σ4 H5 Kd else Kn H5)
 (k:∀D H',yt H H'->Sta B G0 H' ((D,ys)::cs) ds->Q (.ref D) H'):zst n fr g tt te σ Q J H:=by
 refine zbK w (λi=>some (f i)) S hPm hn (λi x v B' G' Kd Kn hx t1 S' hd _=>hs i x v B' G' Kd Kn hx t1 S' λ{y H6 cs' ds'} a b=>hd rfl a b) λD H' e S'=>k D H' e ?_;rw [zsA,hy] at S';exact S'
theorem yf {R:It->Hp->Prop} (S:Sta B G0 H cs ds) (h:Has ds (.list xs) v) (k:∀J,Wk B G0 J xs (λ_ ds=>Has ds (.list xs) v)->R J H):kIL K R v H:=by
 obtain ⟨p,vs,rfl,hp,_⟩:=S.lst h;exact ⟨p,rfl,⟨_,SqL.of hp⟩,k _ (zmi VY)⟩
theorem ziZ {R:It->Hp->Prop} (S:Sta B G0 H cs ds) (h:Has ds (.tuple xs) v) (k:∀J,Wk B G0 J xs (λ_ ds=>Has ds (.tuple xs) v)->R J H):kIT K R v H:=by
 obtain ⟨p,vs,rfl,hp,_⟩:=S.tup h;exact ⟨p,rfl,⟨_,SqT.of hp⟩,k _ (wk_tup zc6)⟩
theorem zm2 {R:It->Hp->Prop} {L:Addr} (S:Sta B G0 H cs ds) (h:(L,xs)∈cs) (k:∀J,Wk B G0 J xs (λcs _=>(L,xs)∈cs)->R J H):kIL K R (.ref L) H:=by
 obtain ⟨vs,hp,_⟩:=S.cell h;exact ⟨L,rfl,⟨_,SqL.of hp⟩,k _ (zmi zoV)⟩
theorem zrK {R:It->Hp->Prop} (S:Sta B G0 H cs ds) (h:Has ds (.tuple xs) v) (k:∀J,Wk B G0 J (zjq xs) (λ_ ds=>Has ds (.tuple xs) v)->R J H):kEn false K R [v] H:=by
 obtain ⟨p,vs,rfl,hp,_⟩:=S.tup h;exact ⟨p,rfl,⟨_,SqT.of hp⟩,k _ (zmj zc6)⟩
theorem zgt {R:It->Hp->Prop} (S:Sta B G0 H cs ds) (h:Has ds (.list xs) v) (k:∀J,Wk B G0 J (zjq xs) (λ_ ds=>Has ds (.list xs) v)->R J H):kEn true K R [v] H:=by
 obtain ⟨p,vs,rfl,hp,_⟩:=S.lst h;exact ⟨p,rfl,⟨_,SqL.of hp⟩,k _ (zmj VY)⟩
theorem zgs {R:It->Hp->Prop} {w:V} (S:Sta B G0 H cs ds) (h:Has ds (.tuple xs) v) (h2:Has ds (.tuple ys) w) (k:∀J,Wk B G0 J (zqy xs ys) (λcs ds=>Has ds (.tuple xs) v/\(∀x u,Has ds (.tuple ys) w->Has ((x,u)::ds) (.tuple ys) w)/\Has ds (.tuple ys) w)->R J H):kZi false false K R [v,w] H:=by
 obtain ⟨p,vs,rfl,hp,_⟩:=S.tup h;obtain ⟨q,ws,rfl,hq,_⟩:=S.tup h2;exact ⟨p,q,rfl,⟨_,SqT.of hp⟩,⟨_,SqT.of hq⟩,k _ (zmh zc6 zc6)⟩
theorem Sta.refL (S:Sta B G0 H cs ds) (h:Has ds (.list xs) v):∃a,v= .ref a:=let ⟨p,_,e,_⟩:=S.lst h;⟨p,e⟩
section
variable {α:Type}
def spT (enc:α->List PyData) (dom:α->Prop) (res:α->PyData):Sp:=λvs H Q _=>∃(G:Hp) (a:α),yt G H/\zX G (enc a) vs/\dom a/\∀v H' G',Grow G H G' H'->Is G' (res a) v->Q v H'
def spL (enc:α->List PyData) (dom:α->Prop) (res:α->List PyData):Sp:=λvs H Q _=>∃(G:Hp) (a:α),yt G H/\zX G (enc a) vs/\dom a/\∀p H' G' us,Grow G H G' H'->H p=none->G' p=none->H' p=some (.lst us)->zX G' (res a) us->Q (.ref p) H'
def spB (enc:α->List PyData) (dom:α->Prop) (res:α->V):Sp:=λvs H Q _=>∃(a:α),zX H (enc a) vs/\dom a/\∀H',yt H H'->Q (res a) H'
variable {enc:α->List PyData} {dom:α->Prop} {res:α->PyData} {resL:α->List PyData} {resB:α->V} {Q:VK} {E:XK} {vs:List V}
theorem YW (a:α) (S:Sta B G0 H cs ds) (hx:xj ds (enc a) vs) (hd:dom a) (k:∀v H',yt H H'->Sta B G0 H' cs ((res a,v)::ds)->Q v H'):spT enc dom res vs H Q E:=by
 obtain ⟨G,S⟩:=S;refine ⟨G,a,S.2.1,hx G S.2.2.2.2.2.2,hd,λv H' G' gr hv=>k v H' gr.h ?_⟩;obtain ⟨a',b',c',d',e',f',g'⟩:=S.grow gr;exact ⟨G',a',b',c',d',e',f',g'.cons hv⟩
theorem Yl (a:α) (S:Sta B G0 H cs ds) (hx:xj ds (enc a) vs) (hd:dom a) (k:∀p H',yt H H'->Sta B G0 H' ((p,resL a)::cs) ds->Q (.ref p) H'):spL enc dom resL vs H Q E:=by
 obtain ⟨G,S⟩:=S;refine ⟨G,a,S.2.1,hx G S.2.2.2.2.2.2,hd,λp H' G' us gr hp hg hu hv=>k p H' gr.h ?_⟩;have hc:=S.2.2.1.free hp;obtain ⟨_,_,_,_,e0,_,_⟩:=id S;obtain ⟨a',b',c',d',e',f',g'⟩:=S.grow gr;refine ⟨G',a',b',c',d',λq hq=>?_,?_,g'⟩
 ·rcases jn.mp hq with rfl|hq
  ·exact ⟨hc,hg,us,hu,hv⟩
  ·exact e' q hq
 ·rw [jq,qM];refine ⟨λz=>?_,f'⟩;obtain ⟨q,hq,hqp⟩:=jk.mp z;obtain ⟨_,_,ws,z,_⟩:=e0 q hq;rw [hqp,hp] at z;cases z
theorem zaB (a:α) (hx:zX H (enc a) vs) (hd:dom a) (k:∀H',yt H H'->Q (resB a) H'):spB enc dom resB vs H Q E:=⟨a,hx,hd,k⟩
theorem Sta.hpAll (S:Sta B G0 H cs ds) {xs:List PyData} (h:xj ds xs vs):zX H xs vs:=by
 obtain ⟨G,a,b,c,d,e,f,g⟩:=S;exact zX.mono b _ _ (h G g)
theorem Yb {G H':Hp} {r:PyData} {v:V} (S:Sta H G H' cs ds) (k:∀v H' G',Grow G H G' H'->Is G' r v->Q v H') (h:Has ds r v):Q v H':=
 let ⟨G',gr,al⟩:=S.leave;k v H' G' gr (h G' al)
theorem Zy {G H':Hp} {r:List PyData} {p:Addr} (S:Sta H G H' ((p,r)::cs) ds) (k:∀p H' G' us,Grow G H G' H'->H p=none->G' p=none->H' p=some (.lst us)->zX G' r us->Q (.ref p) H'):Q (.ref p) H':=by
 obtain ⟨G',a,b,c,d,e,f,g⟩:=S;obtain ⟨x,y,us,z,u⟩:=e _ (jd ..);exact k p H' G' us ⟨c,a,b,d⟩ x y z u
theorem ret_B {G H':Hp} {r:V} (S:Sta H G H' cs ds) (k:∀H',yt H H'->Q r H'):Q r H':=k H' S.base
theorem Wq {G:Hp} {x:PyData} {vs:List V} (h:zX G [x] vs):∃v,vs=[v]/\WG G [(x,v)]:=by
 simp only [zX] at h;obtain ⟨v,_,rfl,h1,rfl⟩:=h;exact ⟨v,rfl,λp hp=>by simp at hp;subst hp;exact h1⟩
theorem Zv {G:Hp} {x y:PyData} {vs:List V} (h:zX G [x,y] vs):∃v w,vs=[v,w]/\WG G [(x,v),(y,w)]:=by
 simp only [zX] at h;obtain ⟨v,_,rfl,h1,w,_,rfl,h2,rfl⟩:=h;exact ⟨v,w,rfl,λp hp=>by simp at hp;rcases hp with rfl|rfl<;>assumption⟩
theorem YY {G:Hp} {x y z:PyData} {vs:List V} (h:zX G [x,y,z] vs):∃v w u,vs=[v,w,u]/\WG G [(x,v),(y,w),(z,u)]:=by
 simp only [zX] at h;obtain ⟨v,_,rfl,h1,w,_,rfl,h2,u,_,rfl,h3,rfl⟩:=h;exact ⟨v,w,u,rfl,λp hp=>by simp at hp;rcases hp with rfl|rfl|rfl<;>assumption⟩
theorem Is.int_of {G:Hp} {i:Int} {v:V} (h:Is G (.int i) v):v= .int i:=by rw [Is] at h;exact h
end
end
theorem zly {M:Model} {A:Around} {E:Value->Shared->Prop} {s:Shared} {scope:Scope} {globals:Addr} {closure:List (Str×Addr)} {qual y:Str} {func:Option Addr} {code:Value} {env:Env} {builtins:Addr} {Q:Env->Shared->Prop}
 (one:∀n acc,cellsFrom n scope.names acc=(y,n)::acc) (push:∀h,pushCells h scope.names=h.push {cls:= .type "cell",data:= .cell none})
 (hQ:Q (newEnv scope s.heap.objs.size globals ((y,s.heap.objs.size+1)::closure) qual func code (some env) builtins) {s with heap:=(s.heap.push {cls:= .type "dict",data:= .dict #[]}).push {cls:= .type "cell",data:= .cell none}}):
 wpAny M A (newFunctionEnv scope globals closure [] qual func code (some env) builtins) Q E s:=by
 simp only [newFunctionEnv,Option.isSome_some,if_true];refine jg (wpAny_alloc ?_);refine jg (wpAny_layCells _ (λname kind cells=>by cases hkc:kind==NameKind.cell<;>simp [hkc]) _ _ _ _ ?_);rw [one,push,show ({s with heap:=s.heap.push {cls:= .type "dict",data:= .dict #[]}}:Shared).heap.objs.size=s.heap.objs.size+1 from jT ..];refine jg ?_;rw [List.forIn_nil];exact jr (jr hQ)
def Wf (X:Cx) (N:List Str) (scope:Scope) (y:Str) (C:Addr) (ex:List Addr) (s:Shared) (H:Hp):Cx where
 prog:=X.prog
 w:=X.w
 K:=X.K
 mg:=X.mg
 base:=X.base
 A:=X.A
 N:=N
 s₀:=s
 H₀:=H
 env:=compEnvC scope ((y,C+1)::xJ X.env.cells scope.names []) C X.env
 outer:=X.stack
 stack:=X.stack
 ex:=ex
 fn:=λx=>x==y
 calm:=X.calm
 pn:=[]
 xe:=λ_ _=>False
structure CompOk1 (X:Cx) (N:List Str) (n:Nat) (fr:List Nat) (scope:Scope) (y:Str):Prop where
 kind:scope.kind= .function
 nd:N.Nodup
 names:(N.drop n)=fr.map (λj=>(X.N[j]?).getD ("":Str))
 own:n<=N.length
 inx:(fr.all λj=>decide (j<X.N.length))=true
 free:((N.drop n).all λx=>decide (scope.names.lookup x=some .free))=true
 one:∀n acc,cellsFrom n scope.names acc=(y,n)::acc
 push:∀h,pushCells h scope.names=h.push {cls:= .type "cell",data:= .cell none}
 oth:(scope.names.all λz=>decide (z.2= .cell->z.1=y))=true
 yfree:(scope.names.all λz=>decide (z.2= .free->z.1≠y))=true
 loc:(scope.names.all λy=>decide (y.2= .local->scope.names.lookup y.1=some .local))=true
 seen:(scope.names.all λy=>decide (y.2= .free->(X.env.kindOf y.1=some .cell\/X.env.kindOf y.1=some .free)))=true
theorem Uy {scope:Scope} {env:Env} {x y:Str} {k:NameKind} (h:(relabel scope env).names.lookup x=some k) (hk:k= .cell\/k= .free) (hc:(scope.names.all λz=>decide (z.2= .cell->z.1=y))=true):x=y\/(x,NameKind.free)∈scope.names:=by
 unfold relabel at h;dsimp only at h
 have key:∀names:List (Str×NameKind),(names.all λz=>decide (z.2= .cell->z.1=y))=true->
  (names.map λ(n,k)=>if (k==NameKind.free && env.scope.kind== .function && env.kindOf n==some .cell)=true then (n,NameKind.cell) else (n,k)).lookup x=some k->x=y\/(x,NameKind.free)∈names:=by
  intro names
  induction names with
  |nil=>intro _ h;simp at h
  |cons z r ih=>
   intro ha h;obtain ⟨n,j⟩:=z;rw [List.all_cons,wC] at ha;rw [jq] at h;have e1:∀(b:Bool) (k1:NameKind),((if b=true then (n,NameKind.cell) else (n,k1)):Str×NameKind)=(n,if b=true then NameKind.cell else k1):=by intro b k1;cases b<;>rfl
   dsimp only at h;rw [e1,wN] at h
   cases hx:x==n with
   |false=>
    rw [hx] at h;exact (ih ha.2 h).imp id (jf _)
   |true=>
    rw [hx] at h;have e:x=n:=by simpa using hx
    subst e;have h':=jL h;have hj:j= .cell->x=y:=jD ha.1
    cases hb:(j==NameKind.free && env.scope.kind== .function && env.kindOf x==some .cell) with
    |true=>
     rw [wC,wC] at hb;have:j= .free:=by simpa using hb.1.1
     subst this;exact .inr (jd ..)
    |false=>
     rw [hb] at h';simp only [JZ,if_false] at h';subst h'
     rcases hk with z|z
     ·exact .inl (hj z)
     ·subst z;exact .inr (jd ..)
 exact key _ hc h
section
variable {X:Cx} {N:List Str} {n:Nat} {fr:List Nat} {scope:Scope} {pins:List (Addr×Obj)} {σ:L2.St} {H:Hp} {s:Shared} {y:Str}
theorem CompOk1.cells (O:CompOk1 X N n fr scope y) (I:Inv X pins σ H s):∀y∈scope.names,y.2= .free->∃c,X.env.cells.lookup y.1=some c:=λy hy hf=>I.ok.has y.1 (jD (qL.mp O.seen y hy) hf)
theorem zcR {y x:Str} {a:Addr} {l:List (Str×Addr)}:((y,a)::l).lookup x=if x=y then some a else l.lookup x:=by
 rw [wN]
 cases h:x==y with
 |true=>rw [jK (by simpa using h)]
 |false=>rw [jQ (by simpa using h)]
theorem zjx {fp:List Addr} {h':Heap} {tk:Nat} {m:Str->Option Value} (O:CompOk1 X N n fr scope y) (I:Inv X pins σ H s) (hf:∀b∈fp,zjP X pins H b) (hfl:∀b∈fp,b<s.heap.objs.size)
 (hns:h'.Ns s.heap.objs.size m) (hcl1:h'.IsCell (s.heap.objs.size+1) none) (keep:∀b o,s.heap.get? b=some o->h'.get? b=some o):
 Inv (Wf X N scope y s.heap.objs.size fp s H) [] (List.replicate n none++frσ σ fr) H {s with heap:=h',toks:=tk}:=by
 have hcl:=O.cells I;have lk:∀x c,(xJ X.env.cells scope.names []).lookup x=some c->X.env.cells.lookup x=some c:=λx c h=>Va hcl (λc h=>by simp at h) h;have cne:∀x c,(xJ X.env.cells scope.names []).lookup x=some c->∃v,s.heap.IsCell c v:=λx c h=>I.cell x c (lk x c h)
 have clt:∀x c,(xJ X.env.cells scope.names []).lookup x=some c->c<s.heap.objs.size:=λx c h=>by
  obtain ⟨v,o,ho,_⟩:=cne x c h;exact jv ho
 have cases1:∀x c,((y,s.heap.objs.size+1)::xJ X.env.cells scope.names []).lookup x=some c->(x=y/\c=s.heap.objs.size+1)\/(xJ X.env.cells scope.names []).lookup x=some c:=λx c h=>by
  rw [zcR] at h
  by_cases e:x=y
  ·rw [jK e] at h;exact .inl ⟨e,(jL h).symm⟩
  ·rw [jQ e] at h;exact .inr h
 have injY:∀x x' c,((y,s.heap.objs.size+1)::xJ X.env.cells scope.names []).lookup x=some c->((y,s.heap.objs.size+1)::xJ X.env.cells scope.names []).lookup x'=some c->x=x':=λx x' c h1 h2=>by
  rcases cases1 x c h1 with ⟨a,b⟩|a
  ·rcases cases1 x' c h2 with ⟨a',_⟩|a'
   ·rw [a,a']
   ·have:=clt x' c a';rw [b] at this;exact absurd (Nat.lt_trans (qj _) this) (wv _)
  ·rcases cases1 x' c h2 with ⟨_,b⟩|a'
   ·have:=clt x c a;rw [b] at this;exact absurd (Nat.lt_trans (qj _) this) (wv _)
   ·exact I.ok.inj x x' c (lk x c a) (lk x' c a')
 have cabY:∀x c,(x==y)=true->((y,s.heap.objs.size+1)::xJ X.env.cells scope.names []).lookup x=some c->s.heap.objs.size<=c:=λx c hx h=>by
  rcases cases1 x c h with ⟨_,b⟩|a
  ·rw [b];exact wj _
  ·rw [zcR,jK (by simpa using hx)] at h;cases h;exact wj _
 refine ⟨⟨I.mod,O.kind,I.ok.glob,I.ok.blt,jy _,injY,λx hx=>?_,cabY,I.ok.hd,I.ok.frames, .inl rfl,λb hb=>⟨jO (hfl b hb),λx c h=>by
  rcases cases1 x c h with ⟨_,z⟩|z
  ·rw [z];exact λe=>absurd (hfl b hb) (by rw [<-e];exact Nat.not_lt.mpr (wj _))
  ·exact (hf b hb).2.2.2.2.1 x c (lk x c z)⟩,I.bs,jS I.ok.bsz I.sz,λb o e hb=>?_,λb hb z=>?_,I.stack,I.stkFree⟩,
  rfl,I.bare,Un.kept keep,⟨m,hns,λi x v h1 h2 h3=>?_⟩,λx c h=>?_,I.hok.fresh (jy _),λx c h=>by
   rcases cases1 x c h with ⟨_,z⟩|z
   ·rw [z];exact I.hok.fresh (wj _)
   ·exact I.freeC x c (lk x c z),λp hp=>absurd hp (by simp [Wf]),I.hok.kept keep,?_⟩
 ·have hx':x=y\/(x,NameKind.free)∈scope.names:=by
   rcases hx with hx|hx
   ·exact Uy hx (.inl rfl) O.oth
   ·exact Uy hx (.inr rfl) O.oth
  show ∃c,((y,s.heap.objs.size+1)::xJ X.env.cells scope.names []).lookup x=some c;rw [zcR]
  by_cases e:x=y
  ·exact ⟨_,jK e⟩
  ·rw [jQ e];exact wM.mp (WA (.inl (hx'.resolve_left e)))
 ·rcases (hf b hb).2.2.2.1 with z|z
  ·exact I.ok.noex b o e z
  ·exact absurd (jY (jv (I.ok.bs b o e).1) z) (wv _)
 ·rcases jn.mp (I.stkSub b z) with q|q
  ·exact (hf b hb).2.1 q
  ·exact (hf b hb).2.2.1 q
 ·by_cases hi:i<n
  ·rw [wt (by simpa using hi),jU,jK hi] at h2;cases h2
  ·have h1':(N.drop n)[i - n]? =some x:=by rw [wm,show n+(i - n)=i by omega];exact h1
   rw [qC (by simpa using hi),jB] at h2;unfold frσ at h2;rw [jh] at h2;rw [O.names,jh] at h1'
   cases ej:fr[i - n]? with
   |none=>rw [ej] at h2;cases h2
   |some j=>
    rw [ej] at h2 h1';have hjl:j<X.N.length:=jD (qL.mp O.inx j (jc ej))
    have hx:X.N[j]? =some x:=by
     have e:=jL h1';dsimp only at e;rw [jb hjl] at e⊢;exact congrArg some e
    have hv:σ[j]? =some (some v):=by
     have e:=jL h2;dsimp only at e
     cases es:σ[j]? with
     |none=>rw [es] at e;cases e
     |some o=>rw [es] at e;rw [show o=some v from e]
    have hfl':scope.names.lookup x=some .free:=by
     refine jD (qL.mp O.free x ?_);exact jc (i:=i - n) (by rw [wm,show n+(i - n)=i by omega];exact h1)
    have hfx:(x,NameKind.free)∈scope.names:=wF hfl';have hkX:=jD (qL.mp O.seen _ hfx) rfl;obtain ⟨mX,hnX,hlX⟩:=I.loc;obtain ⟨u,ru,lu⟩:=hlX j x v hx hv (hkX.elim (λz=> .inr (.inl z)) λz=> .inr (.inr z));refine ⟨u,ru, .inr ⟨?_,?_⟩⟩
    ·exact zcg hfl'
    ·obtain ⟨c,hc⟩:=wM.mp (WA (cells:=X.env.cells) (acc:=[]) (.inl hfx))
     refine ⟨c,(by
      show ((y,s.heap.objs.size+1)::xJ X.env.cells scope.names []).lookup x=some c;rw [zcR,jQ (jD (qL.mp O.yfree _ hfx) rfl)]
      exact hc),?_⟩
     rcases lu with ⟨k,_⟩|⟨_,c',hc',z⟩
     ·rcases hkX with q|q
      ·rw [show X.env.kindOf x=_ from k] at q;cases q
      ·rw [show X.env.kindOf x=_ from k] at q;cases q
     ·have:=lk x c hc;rw [hc'] at this;cases this;obtain ⟨o,ho,hd⟩:=z;exact ⟨o,keep _ _ ho,hd⟩
 ·rcases cases1 x c h with ⟨_,z⟩|z
  ·rw [z];exact ⟨_,hcl1⟩
  ·obtain ⟨v,o,ho,hd⟩:=cne x c z;exact ⟨v,o,keep _ _ ho,hd⟩
 ·rw [jJ,jB];unfold frσ;have e:=congrArg List.length O.names;rw [qt,ja] at e;have:=O.own;show _=N.length;rw [ja];omega
end
section
variable {X:Cx} {N:List Str} {n:Nat} {fr:List Nat} {scope:Scope} {y:Str}
theorem zom {tg iter elt:Expr} {ifs:List Expr} {pos:Pos} {g:Blk TG} {tt:Blk TT} {te:Blk TE} {pins:List (Addr×Obj)} {σ:L2.St} {H2:Hp} {s2:Shared} {it:Addr} {fp:List Addr} {tn:Nat->Heap->Prop} {J:It} {Q:VK}
 {RR:Value->Addr->Result->Shared->Prop} {E:Value->Shared->Prop}
 (hc:X.calm=true) (O:CompOk1 X N n fr scope y)
 (hg:∀C ex s H,PG (Wf X N scope y C ex s H) tg (g C ex s H)) (ht:∀C ex s H,PIf (Wf X N scope y C ex s H) ifs (tt C ex s H)) (he:∀C ex s H,PE (Wf X N scope y C ex s H) elt (te C ex s H))
 (I2:Inv X pins σ H2 s2) (T:Turn X.prog X.w X.K tg J fp it tn) (st2:tn 0 s2.heap) (f2:∀b∈fp,zjP X pins H2 b)
 (hW:∀D,H2 D=none->∀C ex s0 H0,∃W:Nat->Nat->List V->Hp->Prop,(∃m,W 0 m [] (upd H2 D (.lst [])))/\∀i m ys H2,W i m ys H2->H2 D=some (.lst ys)/\
  ((J.stop i H2/\Q (.ref D) H2)\/(J.go i H2/\∀x H3,J.yld i H2 x H3->g C ex s0 H0 x (List.replicate n none++frσ σ fr) H3 λσ4 H4=>σ4.drop n=frσ σ fr/\tt C ex s0 H0 σ4 H4 λb H5=>
    if b=true then te C ex s0 H0 σ4 H5 λy H6=>H6 D=some (.lst ys)/\ys.length<sizeLine/\∃m',m'<m/\W (i+1) m' (ys++[y]) (upd H6 D (.lst (ys++[y])))
    else ∃m',m'<m/\W (i+1) m' ys H5)))
 (hR:∀(D C:Addr) (H':Hp) (s':Shared),Q (.ref D) H'->(∃m,s'.heap.Ns C m)->Side X pins H' C->Inv X pins σ H' s'->RR (.ref D) C (.ok .next) s'):
 wpAny (model X.prog X.w) X.A (newList []) (λacc s₃=>wpAny (model X.prog X.w) X.A (newFunctionEnv scope X.env.globals (xJ X.env.cells scope.names []) [] X.env.qual none .none (some X.env)) (λcenv s₄=>
  codeAny (model X.prog X.w) X.A (.compStart (.ListComp elt [⟨tg,iter,ifs,0⟩] scope pos) 0 (.ref it) acc {cenv with scope:=relabel scope X.env}) (RR acc cenv.locals) s₄) E s₃) E s2:=by
 refine qU (zly O.one O.push ?_);have hDn:H2 s2.heap.objs.size=none:=I2.fresh;have I3:Inv X pins σ (upd H2 s2.heap.objs.size (.lst [])) {s2 with heap:=s2.heap.push {cls:= .type "list",data:= .seq ([]:List Value).toArray},toks:=s2.toks}:=I2.lnew (its:=[]) .nil (wg _);generalize hD:s2.heap.objs.size=D at*;dsimp only;generalize hs3:s2.heap.push {cls:= .type "list",dict:=none,data:= .seq ([]:List Value).toArray}=hp3 at*;have k23:∀b o,s2.heap.get? b=some o->hp3.get? b=some o:=λb o e=>by rw [<-hs3];exact ji _ e
 have sz3:hp3.objs.size=D+1:=by rw [<-hs3,jT,hD]
 have hns₁:((hp3.push {cls:= .type "dict",dict:=none,data:= .dict #[],slots:=#[]}).push {cls:= .type "cell",dict:=none,data:= .cell none,slots:=#[]}).Ns hp3.objs.size (λ_=>none):=(Heap.Ns.new hp3 (.type "dict")).keeps λb o e=>ji _ e
 have hcl₁:((hp3.push {cls:= .type "dict",dict:=none,data:= .dict #[],slots:=#[]}).push {cls:= .type "cell",dict:=none,data:= .cell none,slots:=#[]}).IsCell (hp3.objs.size+1) none:=⟨_,by
  have:=jx (hp3.push {cls:= .type "dict",dict:=none,data:= .dict #[],slots:=#[]}) (o:={cls:= .type "cell",dict:=none,data:= .cell none,slots:=#[]}) rfl;rw [jT] at this
  exact this,rfl⟩
 have keep:∀b o,hp3.get? b=some o->((hp3.push {cls:= .type "dict",dict:=none,data:= .dict #[],slots:=#[]}).push {cls:= .type "cell",dict:=none,data:= .cell none,slots:=#[]}).get? b=some o:=λb o e=>ji _ (ji _ e);generalize (hp3.push {cls:= .type "dict",dict:=none,data:= .dict #[],slots:=#[]}).push {cls:= .type "cell",dict:=none,data:= .cell none,slots:=#[]}=h₁ at*
 have flt:∀b∈fp,b<D:=λb hb=>by
  obtain ⟨o,ho,_⟩:=T.obj _ _ st2 b hb;rw [<-hD];exact jv ho
 have f3:∀b∈fp,zjP X pins (upd H2 D (.lst [])) b:=λb hb=>⟨by rw [yE (jO (flt b hb))];exact (f2 b hb).1,(f2 b hb).2⟩;have IY:=zjx (tk:=s2.toks) O I3 f3 (λb hb=>by show b<hp3.objs.size;rw [sz3];exact qD (flt b hb)) hns₁ hcl₁ keep;obtain ⟨W,⟨m0,w0⟩,turn⟩:=hW _ hDn hp3.objs.size fp {s2 with heap:=hp3,toks:=s2.toks} (upd H2 D (.lst []));have st4:tn 0 h₁:=T.keep _ _ _ st2 λb hb o e=>keep b o (k23 b o e);generalize hY:Wf X N scope y hp3.objs.size fp {s2 with heap:=hp3,toks:=s2.toks} (upd H2 D (.lst []))=Y at*;have eEnv:Y.env=compEnvC scope ((y,hp3.objs.size+1)::xJ X.env.cells scope.names []) hp3.objs.size X.env:=by rw [<-hY];rfl
 have hgY:=hg hp3.objs.size fp {s2 with heap:=hp3,toks:=s2.toks} (upd H2 D (.lst []));have htY:=ht hp3.objs.size fp {s2 with heap:=hp3,toks:=s2.toks} (upd H2 D (.lst []));have heY:=he hp3.objs.size fp {s2 with heap:=hp3,toks:=s2.toks} (upd H2 D (.lst []));rw [hY] at hgY htY heY;have eP:Y.prog=X.prog:=by rw [<-hY];rfl
 have eW:Y.w=X.w:=by rw [<-hY];rfl
 have eK:Y.K=X.K:=by rw [<-hY];rfl
 have eA:Y.A=X.A:=by rw [<-hY];rfl
 have eC:Y.calm=true:=by rw [<-hY];exact hc
 have eX:Y.xe=λ_ _=>False:=by rw [<-hY];rfl
 have fY:∀{H':Hp},(∀b∈fp,H' b=none)->∀b∈fp,zjP Y [] H' b:=λ{H'} hn b hb=>by
  have h1:=IY.ok.exf b (by rw [<-hY];exact hb);refine ⟨hn b hb,h1.1,IY.ok.exfs b (by rw [<-hY];exact hb), .inl (by rw [<-hY];exact hb),h1.2,λp hp=>absurd hp (by rw [<-hY];simp [Wf])⟩
 have loop:codeAny (model X.prog X.w) X.A (.compLoop (.ListComp elt [⟨tg,iter,ifs,0⟩] scope pos) 0 (.ref it) (.ref D) (compEnvC scope ((y,hp3.objs.size+1)::xJ X.env.cells scope.names []) hp3.objs.size X.env))
  (RR (.ref D) hp3.objs.size) {s2 with heap:=h₁,toks:=s2.toks}:=by
  refine codeAny_loop rfl (λk s'=>∃i ys H',Inv Y [] (List.replicate n none++frσ σ fr) H' s'/\tn i s'.heap/\(∀b∈fp,H' b=none)/\W i k ys H') (λk s5 hI=>?_) m0 ⟨0,[],_,IY,st4,λb hb=>(f3 b hb).1,w0⟩;obtain ⟨i,ys,H5,I5,st5,fr5,w5⟩:=hI;show wpAny _ X.A ((compTurn (.ListComp elt [⟨tg,iter,ifs,0⟩] scope pos) 0 (.ref it) (.ref D) _).onRaise (λx=>do noteFrame x _;theTreesLotGoes x)) _ _ s5;refine wpAny_noted ?_;rw [compTurn_list,<-eEnv];refine jg (wpAny_standAt (jg ?_));obtain ⟨hDl,step⟩:=turn i k ys H5 w5
  rcases step with ⟨stop,qn⟩|⟨go,step⟩
  ·have d:=T.done Y eP eW eK eC i [] s5 _ H5 (λ_ _=>False) I5 (fY fr5) st5 stop;rw [eA] at d;refine xH (thn d λr s6 ⟨hr,I6⟩=>?_);subst hr;refine jr ?_;have hC:H5 hp3.objs.size=none:=by have:=I6.free;rw [eEnv] at this;exact this
   have hns6:∃m,s6.heap.Ns hp3.objs.size m:=by
    have:=I6.loc;rw [eEnv] at this;obtain ⟨m,hm,_⟩:=this;exact ⟨m,hm⟩
   have sd:Side X pins H5 hp3.objs.size:=⟨hC,Jd I3.lt,I3.sz,λx c e=>jO (let ⟨v,o,ho,_⟩:=I3.cell x c e;jv ho),λp hp=>jO (jv (I3.pin p hp).1)⟩;refine hR D hp3.objs.size H5 s6 qn hns6 sd ?_;have un:=I6.base;have e0:Y.s₀.heap=hp3:=by rw [<-hY];rfl
   have eH0:Y.H₀=upd H2 D (.lst []):=by rw [<-hY];rfl
   have eF:Y.fs=frs X.stack:=by rw [<-hY];rfl
   have eEx:Y.ex=fp:=by rw [<-hY];rfl
   rw [e0,eH0,eF,eEx] at un;have hok':HOk X.prog X.w H5 s6.heap:=by have:=I6.hok;rw [eP,eW] at this;exact this
   have os6:s6.os=s2.os:=I6.os.trans (by rw [<-hY];rfl);exact I3.call' (s':=s6) (ch:=fp) os6 un hok' I6.bare λb hb=>⟨(f2 b hb).2.2.2.1,(f2 b hb).2.1,(f2 b hb).2.2.2.2.1,(f2 b hb).2.2.2.2.2⟩
  ·have d:=T.item Y eP eW eK eC i [] s5 _ H5 (λ_ _=>False) I5 (fY fr5) st5 go;rw [eA] at d;refine xH (thn d λr s6 ⟨u,hr,h6⟩=>?_);subst hr;refine jg (xH (thn h6 λ_ s7 ⟨x,H7,I7,r7,y7,st7,fr7⟩=>?_));have I7':=I7.pinned (fY fr7) (T.obj _ _ st7);have g7:=hgY _ s7 _ H7 x u _ I7' r7 (step x H7 y7);rw [eA,eP,eW,eX] at g7;refine jg (xH (thn g7 λ_ s8 ⟨σ8,H8,I8,ed,q8⟩=>?_));have t8:=htY _ s8 σ8 H8 _ I8 q8;rw [eA,eP,eW,eX] at t8;refine jg (xH (thn t8 λb s9 ⟨H9,I9,q9⟩=>?_))
   have back:∀{s':Shared} {H':Hp} {ys':List V} {m':Nat},Inv Y ([]++zfq fp s7.heap) σ8 H' s'->m'<k->W (i+1) m' ys' H'->∃m,m<k/\∃i ys H',Inv Y [] (List.replicate n none++frσ σ fr) H' s'/\tn i s'.heap/\(∀b∈fp,H' b=none)/\W i m ys H':=λ{s' H' ys' m'} I' hm w'=>by
    refine ⟨m',hm,i+1,ys',H',?_,T.keep _ _ _ st7 λb hb o e=>(I'.pin (b,o) (jG _ (jG _ (Xl hb e)))).1,λb hb=>?_,w'⟩
    ·refine (Inv.unpinned I').weak ?_ λj v hj=>?_
     ·exact IY.len.trans I'.len.symm
     ·by_cases hjn:j<n
      ·rw [wt (by simpa using hjn),jU,jK hjn] at hj;cases hj
      ·rw [qC (by simpa using hjn),jB,<-ed,wm,show n+(j - n)=j by omega] at hj;exact hj
    ·obtain ⟨o,e,d⟩:=T.obj _ _ st7 b hb;exact (I'.pin (b,o) (jG _ (jG _ (Xl hb e)))).2.1
   cases b with
   |false=>
    obtain ⟨m',hm,w9⟩:=q9;exact jr ⟨rfl,back I9 hm w9⟩
   |true=>
    have e9:=heY _ s9 σ8 H9 _ I9 q9;rw [eA,eP,eW,eX] at e9;refine jg (jg (xH (thn e9 λv s10 ⟨y,H10,I10,r10,hD10,hz,m',hm,w10⟩=>?_)));have a10:=ZD _ s10 σ8 H10 (.ref D) [y] (.ref D) [v] (λ_ H'=>H'=upd H10 D (.lst (ys++[y]))) I10 rfl (.cons r10 .nil) ⟨D,ys,y,rfl,rfl,hD10,hz,rfl⟩;rw [eA,eP,eW,eX] at a10;refine jg (xH (thn a10 λ_ s11 ⟨_,H11,I11,_,e11⟩=>?_));subst e11;exact jr (jr ⟨rfl,back I11 hm w10⟩)
 exact codeAny_compStart_list loop (T.self _ _ _ _ _ st4 loop)
theorem zpm {tg iter elt:Expr} {ifs:List Expr} {pos:Pos} {wi:TI} {g:Blk TG} {tt:Blk TT} {te:Blk TE}
 (hc:X.calm=true) (O:CompOk1 X N n fr scope y) (hi:PI X tg iter wi)
 (hg:∀C ex s H,PG (Wf X N scope y C ex s H) tg (g C ex s H)) (ht:∀C ex s H,PIf (Wf X N scope y C ex s H) ifs (tt C ex s H)) (he:∀C ex s H,PE (Wf X N scope y C ex s H) elt (te C ex s H))
 (hs:∀x,foldedSetIterable iter X.env x=pure x:=by intro _;rfl):
 PE X (.ListComp elt [⟨tg,iter,ifs,0⟩] scope pos) (zoT n fr wi g tt te):=by
 intro pins s σ H Q I h;rw [eval_ListComp];refine JQ (use:=none) rfl hs (WZ (O.cells I)) O.kind (λy hy=>jD (qL.mp O.loc y hy)) (thn (hi pins s σ H _ I h) λv s1 h1=>thn h1 λitv s2 h2=>?_);obtain ⟨it,fp,tn,J,H2,e,I2,T,st2,f2,hW⟩:=h2;subst e;refine zom (RR:=λacc C=>compPost (model X.prog X.w) X.A X.xe none (EP X pins σ Q) acc C) hc O hg ht he I2 T st2 f2 hW ?_;intro D C H' s' q ⟨m,hm⟩ sd inv;exact ⟨m,hm,λh' hs'=>⟨.ref D,H',inv.turned (t':=s'.toks) (it:=C) (λb o hb e=>hs'.extBut b o hb e) sd.nt sd.nl (.inr sd.ab) sd.nc sd.np,rfl,q⟩⟩
end
end S
namespace S
def par (c t:List Int):Prop:=c.map (·*t.sum)=t.map (·*c.sum)
instance (c t:List Int):Decidable (par c t):=inferInstanceAs (Decidable (_=_))
open Classical in
noncomputable def yD (a:Rat×List Rat):List (Rat×List Rat)->List (Rat×List Rat)
 |[]=>[]
 |[b]=>[b]
 |b::c::r=>if yh a b c then yD b (c::r) else b::yD b (c::r)
open Classical in
noncomputable def XA (cs:List zh) (i:Nat):Bool:=decide (i=0\/i+1=cs.length\/¬∀(a b c:zh),cs[i - 1]? =some a->cs[i]? =some b->cs[i+1]? =some c->yh a b c)
open Classical in
theorem Wp {cs:List zh} {i:Nat} (h:i=0\/i+1=cs.length\/¬∀(a b c:zh),cs[i - 1]? =some a->cs[i]? =some b->cs[i+1]? =some c->yh a b c):XA cs i=true:=by
 unfold XA;exact qc h
open Classical in
theorem zfA {cs:List zh} {i:Nat} (h:¬(i=0\/i+1=cs.length\/¬∀(a b c:zh),cs[i - 1]? =some a->cs[i]? =some b->cs[i+1]? =some c->yh a b c)):XA cs i=false:=by
 unfold XA;exact qm h
noncomputable def yR:List zh->List zh
 |[]=>[]
 |c::r=>c::yD c r
theorem zkw:∀(r pre:List zh) (a:zh),(List.range' (pre.length+1) r.length).filterMap (λj=>if XA (pre++a::r) j then (pre++a::r)[j]? else none)=yD a r
 |[],pre,a=>by simp [yD]
 |[b],pre,a=>by
  have hk:XA (pre++[a,b]) (pre.length+1)=true:=Wp (.inr (.inl (by simp)));simp [yD,hk]
 |b::c::r,pre,a=>by
  have ih:=zkw (c::r) (pre++[a]) b;rw [jJ,wI,wb,List.singleton_append] at ih;rw [jz,List.range'_succ,wV,yD]
  have g0:(pre++a::b::c::r)[pre.length+1 - 1]? =some a:=by
   rw [Nat.add_sub_cancel,qC (jy _),Nat.sub_self];rfl
  have g1:(pre++a::b::c::r)[pre.length+1]? =some b:=by
   rw [qC (by omega),show pre.length+1 - pre.length=1 by omega];rfl
  have g2:(pre++a::b::c::r)[pre.length+1+1]? =some c:=by
   rw [qC (by omega),show pre.length+1+1 - pre.length=2 by omega];rfl
  by_cases hs:yh a b c
  ·have hk:XA (pre++a::b::c::r) (pre.length+1)=false:=by
    refine zfA ?_
    rintro (q|q|q)
    ·omega
    ·simp at q;omega
    ·refine q λx y z hx hy hz=>?_;rw [g0] at hx;rw [g1] at hy;rw [g2] at hz;cases hx;cases hy;cases hz;exact hs
   rw [hk,jK hs]
   simpa using ih
  ·have hk:XA (pre++a::b::c::r) (pre.length+1)=true:=Wp (.inr (.inr λq=>hs (q a b c g0 g1 g2)));rw [hk,jQ hs,jK rfl,g1];dsimp only;rw [ih]
theorem zlI {β:Type} (cs:List zh) (g:zh->β):(List.range cs.length).filterMap (λj=>if XA cs j then (cs[j]?).map g else none)=(yR cs).map g:=by
 have e:(List.range cs.length).filterMap (λj=>if XA cs j then (cs[j]?).map g else none)=((List.range cs.length).filterMap (λj=>if XA cs j then cs[j]? else none)).map g:=by
  rw [List.map_filterMap]
  congr 1
  funext j
  split<;>rfl
 rw [e]
 congr 1
 cases cs with
 |nil=>rfl
 |cons c r=>
  rw [jz,List.range_eq_range',List.range'_succ,wV];have hk:XA (c::r) 0=true:=Wp (.inl rfl);rw [hk,jK rfl];have:=zkw r [] c;simp only [List.length_nil,wJ,JS] at this;simp only [List.getElem?_cons_zero,JS];rw [this,yR]
end S
namespace S
open PySem PySem.Spec PyProof.Rows L2
section
variable {α:Type} {enc:α->List PyData} {dom:α->Prop} {res:α->V} {B G0 H:Hp} {cs:xq} {ds:Dat} {Q:VK} {E:XK} {vs:List V} {v w:V}
def spP (enc:α->List PyData) (dom:α->Prop) (res:α->V):Sp:=λvs H Q _=>∃(a:α),zX H (enc a) vs/\dom a/\Q (res a) H
theorem rd_spP (a:α) (S:Sta B G0 H cs ds) (hx:xj ds (enc a) vs) (hd:dom a) (k:Q (res a) H):spP enc dom res vs H Q E:=⟨a,S.hpAll hx,hd,k⟩
theorem SzQ.of_div {n:Nat} {q:Rat} {a b:Int} (e:q=Rat.divInt a b) (ha:Sz n a) (hb:Sz n b) (h0:b≠0):SzQ n q:=by rw [e];exact SzQ.divInt ha hb h0
theorem Zk (p q:Rat):(p.den:Int)*(q.den:Int)≠0:=Int.ne_of_gt (Int.mul_pos (den_pos p) (den_pos q))
theorem zoy (p q:Rat):Rat.divInt (p.num*(q.den:Int)+q.num*(p.den:Int)) ((p.den:Int)*(q.den:Int))=p+q:=by
 rw [Rat.add_def',<-Int.natCast_mul,Rat.divInt_ofNat]
theorem zmv (p q:Rat):Rat.divInt (p.num*(q.den:Int) - q.num*(p.den:Int)) ((p.den:Int)*(q.den:Int))=p - q:=by
 rw [Rat.sub_def',<-Int.natCast_mul,Rat.divInt_ofNat]
theorem znF (p q:Rat):Rat.divInt (p.num*q.num) ((p.den:Int)*(q.den:Int))=p*q:=by
 rw [Rat.mul_def',<-Int.natCast_mul,Rat.divInt_ofNat]
theorem zqO {q:Rat} (h:q≠0):q.num≠0:=λz=>h (Rat.num_eq_zero.mp z)
theorem zof (p q:Rat) (h:q≠0):Rat.divInt (p.num*(q.den:Int)) ((p.den:Int)*q.num)=p / q:=by
 rw [<-Jf,Qb,qY,Rat.inv_def]
section
variable {m n:Nat} {p q:Rat}
theorem SzQ.add (hp:SzQ m p) (hq:SzQ n q):SzQ (m+n+1) (p+q):=
 SzQ.of_div (zoy p q).symm (((hp.1.mul hq.2).add ((hq.1.mul hp.2).mono (Nat.le_of_eq (Nat.add_comm n m))))) ((hp.2.mul hq.2).mono (wj _)) (Zk p q)
theorem SzQ.sub (hp:SzQ m p) (hq:SzQ n q):SzQ (m+n+1) (p - q):=
 SzQ.of_div (zmv p q).symm (((hp.1.mul hq.2).sub ((hq.1.mul hp.2).mono (Nat.le_of_eq (Nat.add_comm n m))))) ((hp.2.mul hq.2).mono (wj _)) (Zk p q)
theorem SzQ.mul (hp:SzQ m p) (hq:SzQ n q):SzQ (m+n) (p*q):=
 SzQ.of_div (znF p q).symm (hp.1.mul hq.1) (hp.2.mul hq.2) (Zk p q)
theorem SzQ.div (hp:SzQ m p) (hq:SzQ n q):SzQ (m+n) (p / q):=by
 by_cases h:q=0
 ·subst h;rw [qY,Rat.inv_zero,Rat.mul_zero]
  have hm:1<=m:=by
   cases m with
   |zero=>
    have h1:(p.den:Int).natAbs<2 ^ 0:=hp.2;have h2:=den_pos p;simp at h1;omega
   |succ m=>omega
  exact ⟨zjY (n:=m+n) (by omega) (show (-2:Int)<0 by decide) (show (0:Int)<2 by decide),zjY (n:=m+n) (by omega) (show (-2:Int)<1 by decide) (show (1:Int)<2 by decide)⟩
 ·exact SzQ.of_div (zof p q h).symm (hp.1.mul hq.2) (hp.2.mul hq.1) (Int.mul_ne_zero (Int.ne_of_gt (den_pos p)) (zqO h))
end
def VZ:Sp:=spT (α:=Int×Int) (λa=>[.int a.1, .int a.2]) (λa=>a.2≠0/\Sz 8999 a.2) (λa=>frD (Rat.divInt a.1 a.2))
theorem zaC {i j:Int} (S:Sta B G0 H cs ds) (h0:j≠0) (hz:Sz 8999 j) (k:∀r H',yt H H'->Sta B G0 H' cs ((frD (Rat.divInt i j),r)::ds)->Q r H'):VZ [.int i, .int j] H Q E:=
 YW (i,j) S (.cons Has.int (.cons Has.int .nil)) ⟨h0,hz⟩ k
def spQ2 (dom:Rat->Rat->Prop) (g:Rat->Rat->Rat):Sp:=spT (α:=Rat×Rat) (λa=>[frD a.1,frD a.2]) (λa=>(∃m n,SzQ m a.1/\SzQ n a.2/\m+n<=8999)/\dom a.1 a.2) (λa=>frD (g a.1 a.2))
theorem zhN {dm:Rat->Rat->Prop} {g:Rat->Rat->Rat} {p q:Rat} {m n:Nat} (S:Sta B G0 H cs ds) (h1:Has ds (frD p) v) (h2:Has ds (frD q) w) (s1:SzQ m p) (s2:SzQ n q) (hmn:m+n<=8999) (hd:dm p q)
 (k:∀r H',yt H H'->Sta B G0 H' cs ((frD (g p q),r)::ds)->Q r H'):spQ2 dm g [v,w] H Q E:=
 YW (p,q) S (.cons h1 (.cons h2 .nil)) ⟨⟨m,n,s1,s2,hmn⟩,hd⟩ k
abbrev domT:Rat->Rat->Prop:=λ_ _=>True
abbrev zj4:Sp:=spQ2 domT λp q=>p+q
abbrev zbd:Sp:=spQ2 domT λp q=>p - q
abbrev ziL:Sp:=spQ2 domT λp q=>p*q
abbrev zqG:Sp:=spQ2 (λ_ q=>q≠0) λp q=>p / q
def zcJ:Sp:=spP (α:=Rat×Rat) (λa=>[frD a.1,frD a.2]) (λa=>∃m n,SzQ m a.1/\SzQ n a.2/\m+n<=100000000) (λa=> .bl (decide (a.1<a.2)))
theorem zds {p q:Rat} {m n:Nat} (S:Sta B G0 H cs ds) (h1:Has ds (frD p) v) (h2:Has ds (frD q) w) (s1:SzQ m p) (s2:SzQ n q) (hmn:m+n<=100000000) (k:Q (.bl (decide (p<q))) H):zcJ [v,w] H Q E:=
 rd_spP (p,q) S (.cons h1 (.cons h2 .nil)) ⟨m,n,s1,s2,hmn⟩ k
def zd2 (ns:List Int) (k:Int):Int:=if k<(ns.length:Int) then ns.getD k.toNat 0 else 0
def zj6 (K:PySem.W.Frag):Sp:=λvs H Q _=>∃(a:Addr) (ns:List Int) (k:Int),vs=[.ref a, .int k]/\SqL K H a (ns.map V.int)/\0<=k/\Q (.int (zd2 ns k)) H
theorem zrW {K:PySem.W.Frag} {a:Addr} {ns:List Int} {k:Int} (hS:SqL K H a (ns.map V.int)) (h0:0<=k) (h:Q (.int (zd2 ns k)) H):zj6 K [.ref a, .int k] H Q E:=⟨a,ns,k,rfl,hS,h0,h⟩
def zhs:Sp:=λvs H Q _=>∃a b:Int,vs=[.int a, .int b]/\0<=b/\Q (.int (Int.gcd a b:Nat)) H
theorem zrT {a b:Int} (h0:0<=b) (h:Q (.int (Int.gcd a b:Nat)) H):zhs [.int a, .int b] H Q E:=⟨a,b,rfl,h0,h⟩
def zf5:Sp:=spT (α:=Int×Int) (λa=>[.int a.1, .int a.2]) (λa=>0<a.2/\Sz 8999 a.2) (λa=>frD (Rat.divInt a.1 a.2))
theorem zaD {i j:Int} (S:Sta B G0 H cs ds) (h0:0<j) (hz:Sz 8999 j) (k:∀r H',yt H H'->Sta B G0 H' cs ((frD (Rat.divInt i j),r)::ds)->Q r H'):zf5 [.int i, .int j] H Q E:=
 YW (i,j) S (.cons Has.int (.cons Has.int .nil)) ⟨h0,hz⟩ k
def mixV (c p:Int):Int:=(((c % 2147483629*16807+69621*p+11) % 2147483629)*((c % 2147483629*16807+69621*p+11) % 2147483629)+48271*p+7) % 2147483629*69621 % 2147483587
def zrd:Sp:=λvs H Q _=>∃c p:Int,vs=[.int c, .int p]/\Q (.int (mixV c p)) H
theorem rd_mix {c p:Int} (h:Q (.int (mixV c p)) H):zrd [.int c, .int p] H Q E:=⟨c,p,rfl,h⟩
def Ya (r:List Int):PyData:= .list (r.map PyData.int)
theorem Sta.put_call {G G' H':Hp} {p:Addr} {us:List V} {xs:List PyData} (S:zsR B G0 H cs ds G) (gr:Grow G H G' H') (hp:H p=none) (hg:G' p=none) (hu:H' p=some (.lst us)) (hv:zX G' xs us):Sta B G0 H' ((p,xs)::cs) ds:=by
 have hc:=S.2.2.1.free hp;obtain ⟨_,_,_,_,e0,_,_⟩:=id S;obtain ⟨a',b',c',d',e',f',g'⟩:=S.grow gr;refine ⟨G',a',b',c',d',λq hq=>?_,?_,g'⟩
 ·rcases jn.mp hq with rfl|hq
  ·exact ⟨hc,hg,us,hu,hv⟩
  ·exact e' q hq
 ·rw [jq,qM];refine ⟨λz=>?_,f'⟩;obtain ⟨q,hq,hqp⟩:=jk.mp z;obtain ⟨_,_,ws,z,_⟩:=e0 q hq;rw [hqp,hp] at z;cases z
theorem zrn {σ:L2.St} {R:Bool->Hp->Prop} (h:R true H):tTrue σ H R:=h
def Xa (m:Nat):List Int:=List.replicate m 0
theorem zaf (m:Nat):(Xa m).length=m:=jB
theorem zfF {β:Type} [DecidableEq β] {f:β->PyData} (hf:∀a b,PyData.eqv (f a) (f b)=decide (a=b)):∀xs ys:List β,PyData.eqvAll (xs.map f) (ys.map f)=decide (xs=ys)
 |[],[]=>by rw [wB,PyData.eqvAll];rfl
 |[],_::_=>by rw [wB,jq,PyData.eqvAll,qm (by simp)]
 |_::_,[]=>by rw [wB,jq,PyData.eqvAll,qm (by simp)]
 |x::xs,y::ys=>by
  rw [jq,jq,PyData.eqvAll,hf,zfF hf xs ys,<-Bool.decide_and];exact zaQ (by simp)
theorem zsE (a b:Int):PyData.eqv (.int a) (.int b)=decide (a=b):=by rw [PyData.eqv];rfl
theorem zod (a b:List Int):PyData.eqv (Ya a) (Ya b)=decide (a=b):=by unfold Ya;rw [PyData.eqv];exact zfF zsE a b
theorem zsF (p q:Rat):PyData.eqv (frD p) (frD q)=decide (p=q):=eqv_fr p q
theorem zsr (a:Int):(PyData.int a).canLay0=true:=by rw [PyData.canLay0]
theorem zsH (a:Int):(PyData.int a).depth<=1:=by rw [PyData.depth];exact wg _
theorem zsq (a:List Int):(Ya a).canLay0=true:=by unfold Ya;rw [PyData.canLay0];exact znS zsr a
theorem zsG (a:List Int):(Ya a).depth<=2:=by unfold Ya;rw [PyData.depth];exact Nat.succ_le_succ (zog zsH a)
theorem zhu {d:PyData} {n:Nat} (h:d.canLay0=true) (g:d.depth<=n) (l:n<=64):SeqAt.shaped d=true:=by
 unfold SeqAt.shaped;rw [h,qc (jS g l)];rfl
theorem Ua (a:List Int):SeqAt.shaped (Ya a)=true:=zhu (zsq a) (zsG a) (by decide)
theorem zfc (a:Rat):SeqAt.shaped (frD a)=true:=zhu (lay_fr a) (dep_fr a) (by decide)
def tyD:PyData->String
 | .none=>"NoneType"
 | .bool _=>"bool"
 | .int _=>"int"
 | .str _=>"str"
 | .list _=>"list"
 | .tuple _=>"tuple"
 | .dict _=>"dict"
def noIns:PyData->Bool
 | .dict _=>false
 |_=>true
theorem Is.ty {K:PySem.W.Frag} {d:PyData} (h:Is H d v) (nd:noIns d=true):TyOf K H v (.type (tyD d)):=by
 cases d with
 |none=>rw [Is] at h;subst h;exact .non
 |bool b=>rw [Is] at h;subst h;exact .bl b
 |int b=>rw [Is] at h;subst h;exact .int b
 |str b=>rw [Is] at h;subst h;exact .str b
 |list xs=>rw [Is] at h;obtain ⟨p,vs,rfl,e,_⟩:=h;exact .lst e
 |tuple xs=>rw [Is] at h;obtain ⟨p,vs,rfl,e,_⟩:=h;exact .tup e
 |dict _=>cases nd
theorem zqJ {K:PySem.W.Frag} {d:PyData} {T:String} {b:Bool} (h:Is H d v) (e:PySem.W.kitOne K (.type (tyD d)) (.type T)=some b) (k:Q (.bl b) H) (nd:noIns d=true):rIsi K [v, .ty T] H Q:=⟨v,T,_,b,rfl,h.ty nd,e,k⟩
section
variable {K:PySem.W.Frag}
theorem zqS:PySem.W.kitOne K (.type "tuple") (.type "tuple")=some true:=by rfl
theorem zqU:PySem.W.kitOne K (.type "int") (.type "bool")=some false:=by rfl
theorem zqT:PySem.W.kitOne K (.type "int") (.type "int")=some true:=by rfl
end
theorem zZ {α β:Type} {f:α->β} {l:List α} {i:Nat} {x:β} (h:(l.map f)[i]? =some x):∃n,l[i]? =some n/\x=f n:=by
 rw [jh] at h
 cases e:l[i]? with
 |none=>rw [e] at h;cases h
 |some n=>rw [e] at h;exact ⟨n,rfl,(jL h).symm⟩
theorem zE {α β:Type} (g:α->β) (d:α):∀l:List α,(List.range l.length).map (λi=>g (l.getD i d))=l.map g:=by
 intro l
 apply qg
 intro i;rw [jh,jh]
 by_cases h:i<l.length
 ·rw [List.getElem?_range h,jb h];simp [h]
 ·rw [jE (by simpa using Nat.le_of_not_lt h),jE (by omega)];rfl
theorem zQ {α:Type} {l:List α} {i:Nat} {n d:α} (h:l[i]? =some n):l.getD i d=n:=by rw [jm,h];rfl
theorem Sta.int1 {n:Int} (S:Sta B G0 H cs ((.int n,v)::ds)):v= .int n:=S.top.int_of
theorem zrQ {to ti:TE} {t:TSet} {σ:L2.St} {N:L2.St->Hp->Prop} (h:to σ H λo H1=>ti σ H1 λi H2=>t o i v H2 λH3=>N σ H3):gSub to ti t v σ H N:=h
theorem zkL {α:Type} {xs:List α} {x:α} (h:xs.getLast? =some x):atI xs (-1)=some x:=by
 obtain ⟨ys,rfl⟩:∃ys,xs=ys++[x]:=by
  have hne:xs≠[]:=by intro e;subst e;simp at h
  refine ⟨xs.dropLast,?_⟩;rw [qd hne] at h;rw [<-jL h,Jv]
 exact zqs ys x
theorem Dats.nil:∀p∈([]:Dat),Has ds p.1 p.2:=λp hp=>absurd hp jp
theorem Dats.cons {x:PyData} {r:Dat} (h:Has ds x v) (g:∀p∈r,Has ds p.1 p.2):∀p∈(x,v)::r,Has ds p.1 p.2:=λp hp=>by
 rcases jn.mp hp with rfl|hp
 ·exact h
 ·exact g p hp
theorem zpe {p q:Bool} {A X Y:Prop} (hA:(if q=true then X else Y)->A) (h1:(p && q)=true->X) (h2:(p && q)=false->Y):if p=true then A else (if false=true then X else Y):=by
 cases p with
 |false=>exact h2 rfl
 |true=>
  refine hA ?_
  cases q with
  |false=>exact h2 rfl
  |true=>exact h1 rfl
theorem zoU (c:Int):∀l:List Int,(l.map (c*·)).sum=c*l.sum
 |[]=>by simp
 |x::l=>by rw [jq,jM,jM,zoU c l];grind
def zsX (p q:Rat):PyData:= .tuple [.int (q.num*(p.den:Int) - p.num*(q.den:Int)), .int ((p.den:Int)*(q.den:Int))]
def zrf:Sp:=spT (α:=Rat×Rat) (λa=>[frD a.1,frD a.2]) (λa=>SzQ 2000 a.1/\SzQ 2000 a.2) (λa=>zsX a.1 a.2)
theorem rd_gap {p q:Rat} (S:Sta B G0 H cs ds) (h1:Has ds (frD p) v) (h2:Has ds (frD q) w) (s1:SzQ 2000 p) (s2:SzQ 2000 q) (k:∀r H',yt H H'->Sta B G0 H' cs ((zsX p q,r)::ds)->Q r H'):zrf [v,w] H Q E:=
 YW (p,q) S (.cons h1 (.cons h2 .nil)) ⟨s1,s2⟩ k
def SzC (n:Nat) (c:zh):Prop:=SzQ n c.1/\∀q∈c.2,SzQ n q
theorem zkB {p q:Rat} (hp:SzQ 2000 p) (hq:SzQ 2000 q):Sz 4001 (q.num*(p.den:Int) - p.num*(q.den:Int))/\Sz 4001 ((p.den:Int)*(q.den:Int)):=
 ⟨(hq.1.mul hp.2).sub (hp.1.mul hq.2),(hp.2.mul hq.2).mono (by decide)⟩
open Classical in
noncomputable def zrb:Sp:=spB (α:=zh×zh×zh) (λa=>[ya a.1,ya a.2.1,ya a.2.2]) (λa=>SzC 2000 a.1/\SzC 2000 a.2.1/\SzC 2000 a.2.2/\a.2.1.2.length=a.1.2.length/\a.2.2.2.length=a.1.2.length/\a.1.2.length<=1000) (λa=> .bl (decide (yh a.1 a.2.1 a.2.2)))
open Classical in
theorem rd_str {a b c:zh} {u:V} (S:Sta B G0 H cs ds) (h1:Has ds (ya a) v) (h2:Has ds (ya b) w) (h3:Has ds (ya c) u) (sa:SzC 2000 a) (sb:SzC 2000 b) (sc:SzC 2000 c) (l1:b.2.length=a.2.length) (l2:c.2.length=a.2.length) (l3:a.2.length<=1000)
 (k:∀H',Sta B G0 H' cs ds->Q (.bl (decide (yh a b c))) H'):zrb [v,w,u] H Q E:=
 zaB (a,b,c) (S.hpAll (.cons h1 (.cons h2 (.cons h3 .nil)))) ⟨sa,sb,sc,l1,l2,l3⟩ λH' e=>k H' (S.same e)
structure PathOk (m:Nat) (cs:List zh):Prop where
 sz:∀c∈cs,SzC 2000 c
 len:∀c∈cs,c.2.length=m
 m:m<=1000
 few:cs.length<=900
noncomputable def zc8:Sp:=spL (α:=List zh) (λa=>[yX a]) (λa=>∃m,PathOk m a) (λa=>(yR a).map ya)
theorem zld {a:List zh} {m:Nat} (S:Sta B G0 H cs ds) (h:Has ds (yX a) v) (ok:PathOk m a) (k:∀p H',yt H H'->Sta B G0 H' ((p,(yR a).map ya)::cs) ds->Q (.ref p) H'):zc8 [v] H Q E:=
 Yl a S (.cons h .nil) ⟨m,ok⟩ k
def kPart (R:Option Int->Hp->Prop):VK:=λx H1=>∃i,x= .int i/\R (some i) H1
section
variable {σ:L2.St} {R:Option Int->Hp->Prop} {K:PySem.W.Frag}
theorem rd_sl {r:V->Option Int->Option Int->Hp->VK->Prop} {te:TE} {tl th:TO} (h:te σ H λx H1=>tl σ H1 λl H2=>th σ H2 λu H3=>r x l u H3 Q):tSl r te tl th σ H Q:=h
theorem zmX (h:R none H):zms σ H R:=h
theorem zru {t:TE} (h:t σ H (kPart R)):tPart t σ H R:=h
theorem zpd {i:Int} (h:R (some i) H):kPart R (.int i) H:=⟨i,rfl,h⟩
def zsZ (ns:List Int) (lo hi:Option Int):List Int:=(ns.drop (HT.sIx ns.length 0 lo)).take (HT.sIx ns.length ns.length hi - HT.sIx ns.length 0 lo)
theorem Xc {G:Hp}:∀ns:List Int,zX G (ns.map PyData.int) (ns.map V.int)
 |[]=>by rw [wB,wB,zX]
 |n::ns=>by rw [jq,jq,zX];exact ⟨_,_,rfl,by rw [Is],Xc ns⟩
theorem rd_slS {a:Addr} {ns:List Int} {lo hi:Option Int} (S:Sta B G0 H cs ds) (hS:SqL K H a (ns.map V.int)) (k:∀l H',yt H H'->Sta B G0 H' ((l,(zsZ ns lo hi).map PyData.int)::cs) ds->Q (.ref l) H'):rSlL K (.ref a) lo hi H Q:=by
 refine ⟨a,_,rfl,hS,λl hl=>k l _ (yt.new hl _) ?_⟩
 have e:zsI (ns.map V.int) lo hi=(zsZ ns lo hi).map V.int:=by
  unfold zsI zsZ;rw [ja,<-List.map_drop,<-List.map_take]
 rw [e];exact S.newL hl λG _=>Xc _
end
end
end S
namespace S
open PySem PySem.Spec PyProof.Rows L2
inductive Rl where
 |shares|evenly|losses|halves
 |other (r:Rl)|ranks (r:Rl)|groups (a b:Rl)|upto (t b:Int) (x y:Rl)
def itS (i:Int):Str:=Str.ofString (toString i)
def Rl.shape:Rl->PyData
 | .shares=> .tuple [.str "shares"]
 | .evenly=> .tuple [.str "evenly"]
 | .losses=> .tuple [.str "losses"]
 | .halves=> .tuple [.str "halves"]
 | .other r=> .tuple [.str "other",r.shape]
 | .ranks r=> .tuple [.str "ranks",r.shape]
 | .groups a b=> .tuple [.str "groups",a.shape,b.shape]
 | .upto t b x y=> .tuple [.str "upto", .tuple [.int t, .int b],x.shape,y.shape]
def Rl.text:Rl->Str
 | .shares=>"shares"
 | .evenly=>"evenly"
 | .losses=>"losses"
 | .halves=>"halves"
 | .other r=>("other(":Str)++r.text++(")":Str)
 | .ranks r=>("ranks(":Str)++r.text++(")":Str)
 | .groups a b=>("groups(":Str)++a.text++(", ":Str)++b.text++(")":Str)
 | .upto t b x y=>("upto(":Str)++itS t++("/":Str)++itS b++(", ":Str)++x.text++(", ":Str)++y.text++(")":Str)
def Rl.size:Rl->Nat
 | .other r=>r.size+1
 | .ranks r=>r.size+1
 | .groups a b=>a.size+b.size+1
 | .upto _ _ x y=>x.size+y.size+1
 |_=>1
def Rl.deep:Rl->Nat
 | .other r=>r.deep+1
 | .ranks r=>r.deep+1
 | .groups a b=>max a.deep b.deep+1
 | .upto _ _ x y=>max x.deep y.deep+1
 |_=>1
def zit (t b:Int):Prop:=(Sz 210 t/\Sz 210 b)/\0<t/\t<b/\Int.gcd t b=1
structure RAd where
 (sh ev lo ha ot ra gr up:Addr)
def RAd.cls (A:RAd):Rl->Addr
 | .shares=>A.sh
 | .evenly=>A.ev
 | .losses=>A.lo
 | .halves=>A.ha
 | .other _=>A.ot
 | .ranks _=>A.ra
 | .groups _ _=>A.gr
 | .upto _ _ _ _=>A.up
def zoE (C:Addr) (form:PyData):PyData:= .dict [(.int ((C:Nat):Int),form)]
def Rl.ins (A:RAd) (r:Rl):PyData:=zoE (A.cls r) r.shape
structure ROk (K:PySem.W.Frag) (fS fT Ru C:Addr):Prop where
 cl:Cls K C
 na:zck K C "form"
 ms:Meth K C "shape" fS
 mt:Meth K C "text" fT
 ha:PySem.W.findIn K (.ref C) "__class__"=some (some (.builtin "object.__class__"))
 hn:PySem.W.specialIn K (.builtin "object.__class__") "__get__"=some (some (.builtin "getset_descriptor.__get__"))
 htk:PySem.W.takesIn K (.builtin "object.__class__")=some true
 hm:PySem.W.mroIn K C (.type "object")=some true
 kit:PySem.W.kitOne K (.ref C) (.ref Ru)=some true
section
variable {B G0 H:Hp} {cs:xq} {ds:Dat} {Q:VK} {E:XK} {v w u:V} {K:PySem.W.Frag} {α:Type} {C:Addr} {x:PyData} {vs:List V}
theorem is_ins {G:Hp} (h:Is G (zoE C x) v):∃p dx w,v= .ref p/\G p=some (.ins C dx [("form",w)])/\Is G x w:=by
 unfold zoE at h;rw [Is,zoG] at h;obtain ⟨p,C',dx,w,e,h1,h2,h3⟩:=h;have:C=C':=Int.ofNat.inj (PyData.int.inj e);subst this;exact ⟨p,dx,w,h1,h2,h3⟩
theorem Sta.ins (S:Sta B G0 H cs ds) (h:Has ds (zoE C x) v):∃p dx w,v= .ref p/\H p=some (.ins C dx [("form",w)])/\Sta B G0 H cs ((x,w)::ds):=by
 obtain ⟨G,a,b,c,d,e,f,g⟩:=S;obtain ⟨p,dx,w,h1,h2,h3⟩:=is_ins (h G g);exact ⟨p,dx,w,h1,b _ _ h2,G,a,b,c,d,e,f,g.cons h3⟩
def kFld (K:PySem.W.Frag) (f:Str) (Q:VK):VK:=λx H1=>∃a C dx fs v,x= .ref a/\H1 a=some (.ins C dx fs)/\Cls K C/\zck K C f/\fs.lookup f=some v/\Q v H1
theorem zqK {ta:TE} {f:Str} {σ:L2.St} (h:ta σ H (kFld K f Q)):tFld K ta f σ H Q:=h
theorem zm3 {fS fT Ru:Addr} (S:Sta B G0 H cs ds) (h:Has ds (zoE C x) v) (ok:ROk K fS fT Ru C) (k:∀w,Sta B G0 H cs ((x,w)::ds)->Q w H):kFld K "form" Q v H:=by
 obtain ⟨p,dx,w,rfl,hp,S'⟩:=S.ins h;exact ⟨p,C,dx,_,w,rfl,hp,ok.cl,ok.na,rfl,k w S'⟩
def kMA (K:PySem.W.Frag) (m:Str) (f:Addr) (sp:Sp) (E:XK) (Q:VK):VK:=λx H1=>∃a C dx fs,x= .ref a/\H1 a=some (.ins C dx fs)/\Cls K C/\Meth K C m f/\fs.lookup m=none/\sp [x] H1 Q E
theorem zpb {m:Str} {f:Addr} {sp:Sp} {ta:TE} {σ:L2.St} (h:ta σ H (kMA K m f sp E Q)):zqC K m f sp E ta σ H Q:=h
theorem zfl {fS fT Ru:Addr} {sp:Sp} (S:Sta B G0 H cs ds) (h:Has ds (zoE C x) v) (ok:ROk K fS fT Ru C) (k:sp [v] H Q E):kMA K "shape" fS sp E Q v H:=by
 obtain ⟨p,dx,w,rfl,hp,S'⟩:=S.ins h;exact ⟨p,C,dx,_,rfl,hp,ok.cl,ok.ms,rfl,k⟩
theorem rd_isC {fS fT Ru:Addr} (S:Sta B G0 H cs ds) (h:Has ds (zoE C x) v) (ok:ROk K fS fT Ru C) (k:Q (.bl true) H):rIsC K [v, .ref Ru] H Q:=by
 obtain ⟨p,dx,w,rfl,hp,S'⟩:=S.ins h;exact ⟨_,Ru,_,true,rfl, .ins hp ok.cl ok.ha ok.hn ok.htk ok.hm,ok.kit,k⟩
def xW (C:Addr) (enc:α->List PyData) (form:α->PyData):Sp:=λvs H Q _=>∃(G:Hp) (a:α) (x dx:Addr) (us:List V),vs= .ref x::us/\yt G H/\G x=none/\H x=some (.ins C dx [])/\zX G (enc a) us/\
 ∀H' G' w,(∀p o,p≠x->H p=some o->H' p=some o)->yt G G'->yt G' H'->(∀p,H p≠none->G' p=G p)->H' x=some (.ins C dx [("form",w)])->Is G' (form a) w->Q .non H'
def kMake (C:Addr) (sp:Sp) (E:XK) (Q:VK) (vs:List V) (H1:Hp):Prop:=∀x dx,H1 x=none->H1 dx=none->dx≠x->sp (.ref x::(vs++[])) (upd (upd H1 dx (.own x)) x (.ins C dx [])) (λv H2=>v= .non/\Q (.ref x) H2) E
theorem zrD {sp:Sp} {t:TA} {σ:L2.St} (h:t σ H (kMake C sp E Q)):zq9 C sp [] E t σ H Q:=h
theorem XG {enc:α->List PyData} {form:α->PyData} (a:α) (S:Sta B G0 H cs ds) (hx:xj ds (enc a) vs) (k:∀x H',yt H H'->Sta B G0 H' cs ((zoE C (form a), .ref x)::ds)->Q (.ref x) H'):kMake C (xW C enc form) E Q vs H:=by
 intro x dx hx0 hd0 hne;obtain ⟨G,s1,s2,s3,s4,s5,s6,s7⟩:=S;have gx:G x=none:=s2.free hx0;have gd:G dx=none:=s2.free hd0
 have old:∀p o,H p=some o->upd (upd H dx (.own x)) x (.ins C dx []) p=some o:=λp o hp=>by
  rw [yE (yL hp hx0),yE (yL hp hd0)];exact hp
 refine ⟨G,a,x,dx,vs,by rw [wW],λp o hp=>old p o (s2 p o hp),gx,xC,hx G s7,λH' G' w h1 h2 h3 h4 h5 h6=>⟨rfl,?_⟩⟩;have keep:∀p o,H p=some o->H' p=some o:=λp o hp=>h1 p o (yL hp hx0) (old p o hp);have gx':G' x=none:=by rw [h4 x (by rw [xC];simp)];exact gx
 have eG:=yt.new gx' (.ins C dx [("form",w)]);refine k x H' keep ⟨upd G' x (.ins C dx [("form",w)]),(s1.trans h2).trans eG,λp o hp=>?_,λp o hp=>keep p o (s3 p o hp),λp hp=>?_,λc hc=>?_,s6,(s7.mono (h2.trans eG)).cons ?_⟩
 ·by_cases hpx:p=x
  ·subst hpx;rw [xC] at hp;rw [<-hp];exact h5
  ·rw [yE hpx] at hp;exact h3 p o hp
 ·cases hb:B p with
  |none=>exact absurd hb hp
  |some o=>
   have hH:=s3 p o hb;rw [yE (yL hH hx0),h4 p (by rw [old p o hH];simp),s4 p hp]
 ·obtain ⟨z1,z2,us,z3,z4⟩:=s5 c hc;have hcx:=yL z3 hx0;exact ⟨z1,by rw [yE hcx,h4 c.1 (by rw [old _ _ z3];simp)];exact z2,us,keep _ _ z3,zX.mono (h2.trans eG) _ _ z4⟩
 ·unfold zoE;rw [Is,zoG];exact ⟨x,C,dx,w,rfl,rfl,xC,Is.mono eG _ _ h6⟩
def XU (K:PySem.W.Frag) (fS fT Ru:Addr):Sp:=λvs H Q E=>∃C,ROk K fS fT Ru C/\xW C (α:=PyData) (λd=>[d]) (λd=>d) vs H Q E
theorem XF {fS fT Ru y dx:Addr} {G H1:Hp} {d:PyData} (S:Sta H G H1 [] ds) (gx:G y=none) (hx:H y=some (.ins C dx [])) (ok:ROk K fS fT Ru C) (hd:Has ds d v)
 (k:∀H' G' w,(∀p o,p≠y->H p=some o->H' p=some o)->yt G G'->yt G' H'->(∀p,H p≠none->G' p=G p)->H' y=some (.ins C dx [("form",w)])->Is G' d w->Q .non H'):XU K fS fT Ru [.ref y,v] H1 Q E:=by
 obtain ⟨G1,a1,b1,c1,d1,_,_,g1⟩:=S;refine ⟨C,ok,G1,d,y,dx,[v],rfl,b1,by rw [d1 y (by rw [hx];simp)];exact gx,c1 _ _ hx,(xj.cons hd xj.nil) G1 g1,λH' G' w h1 h2 h3 h4 h5 h6=>k H' G' w (λp o hp ho=>h1 p o hp (c1 p o ho)) (a1.trans h2) h3 (λp hp=>?_) h5 h6⟩;rw [h4 p ?_,d1 p hp]
 cases hb:H p with
 |none=>exact absurd hb hp
 |some o=>rw [c1 p o hb];simp
theorem rd_eqS {i j:Str} (h:Q (.bl (decide (i=j))) H):rEqA (.str i) (.str j) H Q:= .inl ⟨rfl,by
 rw [zaQ (show V.str i=V.str j↔i=j from ⟨V.str.inj,congrArg _⟩)];exact h⟩
theorem zrL {i:Int} {n:Str} {xs:List PyData} (S:Sta B G0 H cs ds) (hx:Has ds (.tuple xs) v) (hi:atI xs i=some (.str n)) (k:Q (.str n) H):rIx K v (.int i) H Q:=
 zfm S hx hi λw S'=>by have:=S'.top;rw [Is] at this;subst this;exact k
def zbb (A:RAd):Sp:=spT (α:=Rl) (λr=>[r.ins A]) (λ_=>True) (λr=>r.shape)
theorem Ud {A:RAd} {r:Rl} (S:Sta B G0 H cs ds) (h:Has ds (r.ins A) v) (k:∀w H',yt H H'->Sta B G0 H' cs ((r.shape,w)::ds)->Q w H'):zbb A [v] H Q E:=YW (α:=Rl) r S (xj.cons h xj.nil) trivial k
theorem zsw {G:Hp} {x y z t:PyData} {vs:List V} (h:zX G [x,y,z,t] vs):∃v w u r,vs=[v,w,u,r]/\WG G [(x,v),(y,w),(z,u),(t,r)]:=by
 simp only [zX] at h;obtain ⟨v,_,rfl,h1,w,_,rfl,h2,u,_,rfl,h3,r,_,rfl,h4,rfl⟩:=h;exact ⟨v,w,u,r,rfl,λp hp=>by simp at hp;rcases hp with rfl|rfl|rfl|rfl<;>assumption⟩
end
def Uw (P:Program) (w:World) (K:PySem.W.Frag) (mg:Str->Option Value) (base:Heap) (x:Str) (C:Addr) (ps:List Str) (sp:Sp):Prop:=∃f fd,Mk K C f/\FnOk P w K mg base CX0 2 f fd ps sp/\Zg K fd ps []/\mg x=some (.ref C)
def zqv (K:PySem.W.Frag) (a:Addr) (n:Nat):It:=
 ⟨λi H=>i<n/\∃xs x,SqL K H a xs/\xs[n - 1 - i]? =some x,λi H x H'=>H'=H/\∀xs,SqL K H a xs->xs[n - 1 - i]? =some x,λi _=>n<=i⟩
theorem zoS {P:Program} {w:World} {K:PySem.W.Frag} {tg:Expr} (a it:Addr) (n:Nat):Turn P w K tg (zqv K a n) [it] it (λi h=>i<=n/\h.IsRevIter it a ((n:Int) - 1 - (i:Nat))) where
 mem:=by simp
 obj:=λi h st b hb=>by
  have e:b=it:=by simpa using hb
  subst e;obtain ⟨_,o,e,c,d⟩:=st;exact ⟨o,e,λv z=>by rw [d] at z;cases z⟩
 keep:=λi h h' st k=>⟨st.1,st.2.at λo e=>k it (by simp) o e⟩
 item:=by
  intro X hP hw hK hc i pins s σ H E I hf st hg;subst hP hw hK;obtain ⟨hi,xs,x,hq,hx⟩:=hg;obtain ⟨its,rv,p,hz⟩:=I.list hq;obtain ⟨u,hu,ru⟩:=rv.get hx;obtain ⟨f0,f1,f2,f3,f4,f5⟩:=hf it (by simp);have ek:(n:Int) - 1 - (i:Nat)=((n - 1 - i:Nat):Int):=by omega
  have st2:=st.2;rw [ek] at st2;refine wpAny_pyNext_rev_item st2 p.isList (x:=u) (by simpa using hu) λh' st' sb=>?_;have I1:Inv X pins σ H {s with heap:=h'}:=I.turned (t':=s.toks) (λb o hb e=>(sb.2 b hb).trans e) f0 f1 f3 f4 f5;obtain ⟨o,e,c,d⟩:=id st'
  exact ⟨u,rfl,zqa (s:={s with heap:=h'}) e c d (by decide) ⟨x,H,I1,ru,⟨rfl,λys hy=>by rw [I.list_inj hy hq];exact hx⟩,⟨by omega,by
   rw [show (n:Int) - 1 - ((i+1:Nat):Int)=((n - 1 - i:Nat):Int) - 1 by omega];exact st'⟩,λb hb=>(hf b hb).1⟩⟩
 done:=by
  intro X hP hw hK hc i pins s σ H E I hf st hg;subst hP hw hK;obtain ⟨f0,f1,f2,f3,f4,f5⟩:=hf it (by simp);have hg':n<=i:=hg;have st2:=st.2;rw [show (n:Int) - 1 - (i:Nat)= -1 by have:=st.1;omega] at st2;exact wpAny_pyNext_rev_end (I.ok.hd hc) st2 λh' eb=>⟨rfl,I.turned (t':=s.toks) (λb o hb e=>eb b o hb e) f0 f1 f3 f4 f5⟩
 self:=λ_ _ _ _ _ st h=>wpAny_pyIter_revIter st.2 h
def iRev (K:PySem.W.Frag) (ta:TA):TI:=λσ H R=>ta σ H λvs H1=>∃a xs,vs=[.ref a]/\SqL K H1 a xs/\R (zqv K a xs.length) H1
section
variable {X:Cx}
theorem pi_rev {tg a:Expr} {ta:TA} {p pos:Pos} (hg:Gl X "reversed") (hm:X.mg "reversed"=none) (ha:PA X [a] ta) (hs:starEach [a] X.env=[(false,eval a X.env)]:=by rfl):
 PI X tg (.Call (.Name "reversed" p) [a] [] pos) (iRev X.K ta):=by
 intro pins s σ H R I h;refine Call_ (zaO I hg hm zjz (wa (thn (ha pos pins s σ H _ I h) λus s1 ⟨vs,H1,I1,r1,q1⟩=>?_) hs rfl));obtain ⟨l,xs,e,hq,q⟩:=q1;subst e;obtain ⟨u,rfl,ru⟩:=zc0 r1;cases (show u=Value.ref l from ru);obtain ⟨its,rv,p1,hz⟩:=I1.list hq;have hl:=rv.length;refine call_reversed_list p1.isList ?_
 have hit:Heap.IsRevIter (s1.heap.push (revObj l ((its.toArray.size:Int) - 1))) s1.heap.objs.size l ((xs.length:Int) - 1 - ((0:Nat):Int)):=⟨_,jx _ rfl,rfl,by
  show Data.fields #[.ref l,rawInt ((its.toArray.size:Int) - 1)]=_
  rw [jH,<-hl];simp⟩
 refine wpAny_pyIter_revIter (s:={s1 with heap:=s1.heap.push (revObj l ((its.toArray.size:Int) - 1))}) hit ?_;have I2:Inv X pins σ H1 {s1 with heap:=s1.heap.push (revObj l ((its.toArray.size:Int) - 1))}:=I1.kept (t':=s1.toks) λb o e=>ji _ e;refine ⟨s1.heap.objs.size,[s1.heap.objs.size],_,_,H1,rfl,I2,zoS l _ xs.length,⟨wg _,hit⟩,λb hb=>?_,q⟩;have e:b=s1.heap.objs.size:=by simpa using hb
 subst e;exact I1.fpOk (jy _) (I1.hok.fresh (jy _))
end
def kRv (K:PySem.W.Frag) (R:It->Hp->Prop):List V->Hp->Prop:=λvs H1=>∃a xs,vs=[.ref a]/\SqL K H1 a xs/\R (zqv K a xs.length) H1
section
variable {B G0 H:Hp} {cs:xq} {ds:Dat} {K:PySem.W.Frag} {a:Addr} {xs ys:List PyData} {P:xq->Dat->Prop} {v:V} {σ:L2.St} {R:It->Hp->Prop} {ta:TA}
theorem rd_iRv (h:ta σ H (kRv K R)):iRev K ta σ H R:=h
theorem wk_rev (s:Src B G0 true K a xs P):Wk B G0 (zqv K a xs.length) xs.reverse P where
 go:=λ{H cs ds i} S h hi=>by
  rw [qw] at hi;obtain ⟨vs,q,hl,_⟩:=s S h;exact ⟨hi,vs,vs[xs.length - 1 - i]'(by omega),q,jb _⟩
 stop:=λ{H cs ds i} S h hi=>by rw [qw] at hi;exact hi
 yld:=λ{H H' cs ds i x v} S h hx y=>by
  obtain ⟨e,y⟩:=y;subst e;obtain ⟨vs,q,hl,z⟩:=s S h;have hi:i<xs.length:=by have:=(je.mp hx).1;rwa [qw] at this
  rw [List.getElem?_reverse hi] at hx;obtain ⟨w,hw,S'⟩:=z _ x hx;have:=y vs q;rw [hw] at this;cases this;exact ⟨yt.refl _,S'⟩
theorem zrI (S:Sta B G0 H cs ds) (h:Has ds (.list xs) v) (k:∀J,Wk B G0 J xs.reverse (λ_ ds=>Has ds (.list xs) v)->R J H):kRv K R [v] H:=by
 obtain ⟨p,vs,rfl,hp,hl,_⟩:=S.lst h;refine ⟨p,vs,rfl,SqL.of hp,?_⟩;rw [<-hl];exact k _ (wk_rev VY)
end
def UI (l c:zh):zh:=(l.1 - c.1,List.zipWith (· - ·) l.2 c.2)
def Uv (l c:zh):zh:=(l.1+c.1,List.zipWith (·+·) l.2 c.2)
def lastC (a:List zh):zh:=a.getLast?.getD (0,[])
def yW (a:List zh):List zh:=a.reverse.map (UI (lastC a))
def yj (p:Rat) (a:List zh):List zh:=a.map λc=>(c.1*p,c.2.map (·*p))
def xn (a b:List zh):List zh:=b.tail.map (Uv (lastC a))
section
variable {B G0 H:Hp} {cs:xq} {ds:Dat} {Q:VK} {E:XK} {v w:V}
def zhr (g:Rat->Rat->Rat):Sp:=spT (α:=List Rat×List Rat) (λa=>[xr a.1,xr a.2]) (λa=>(∀q∈a.1,SzQ 4000 q)/\(∀q∈a.2,SzQ 4000 q)/\a.1.length<=1000) (λa=>xr (List.zipWith g a.1 a.2))
theorem zm6 {g:Rat->Rat->Rat} {p q:List Rat} (S:Sta B G0 H cs ds) (h1:Has ds (xr p) v) (h2:Has ds (xr q) w) (s1:∀x∈p,SzQ 4000 x) (s2:∀x∈q,SzQ 4000 x) (hl:p.length<=1000)
 (k:∀r H',yt H H'->Sta B G0 H' cs ((xr (List.zipWith g p q),r)::ds)->Q r H'):zhr g [v,w] H Q E:=
 YW (p,q) S (.cons h1 (.cons h2 .nil)) ⟨s1,s2,hl⟩ k
structure PathIn (a:List zh):Prop where
 ne:a≠[]
 sz:∀c∈a,SzC 4000 c
 len:∀c∈a,c.2.length<=1000
 few:a.length<=450
theorem PathIn.last {a:List zh} (h:PathIn a):a.getLast? =some (lastC a)/\lastC a∈a:=by
 obtain ⟨l,hl⟩:∃l,a.getLast? =some l:=⟨_,qd h.ne⟩;have e:lastC a=l:=by unfold lastC;rw [hl];rfl
 rw [e];exact ⟨hl,qX hl⟩
theorem SzC.mono {m n:Nat} {c:zh} (h:SzC m c) (l:m<=n):SzC n c:=⟨h.1.mono l,λq hq=>(h.2 q hq).mono l⟩
def zcI:Sp:=spL (α:=List zh) (λa=>[yX a]) PathIn (λa=>(yW a).map ya)
theorem zhJ {a:List zh} (S:Sta B G0 H cs ds) (h:Has ds (yX a) v) (ok:PathIn a) (k:∀p H',yt H H'->Sta B G0 H' ((p,(yW a).map ya)::cs) ds->Q (.ref p) H'):zcI [v] H Q E:=
 Yl a S (.cons h .nil) ok k
def zfZ:Sp:=spL (α:=List zh×Rat) (λa=>[yX a.1,frD a.2]) (λa=>PathIn a.1/\SzQ 4000 a.2) (λa=>(yj a.2 a.1).map ya)
theorem zhM {a:List zh} {p:Rat} (S:Sta B G0 H cs ds) (h:Has ds (yX a) v) (h2:Has ds (frD p) w) (ok:PathIn a) (sp:SzQ 4000 p) (k:∀q H',yt H H'->Sta B G0 H' ((q,(yj p a).map ya)::cs) ds->Q (.ref q) H'):zfZ [v,w] H Q E:=
 Yl (a,p) S (.cons h (.cons h2 .nil)) ⟨ok,sp⟩ k
noncomputable def zan:Sp:=spL (α:=List zh×List zh) (λa=>[yX a.1,yX a.2]) (λa=>PathIn a.1/\PathIn a.2/\∃m,PathOk m (a.1++xn a.1 a.2)) (λa=>(yR (a.1++xn a.1 a.2)).map ya)
theorem zhP {a b:List zh} {m:Nat} (S:Sta B G0 H cs ds) (h:Has ds (yX a) v) (h2:Has ds (yX b) w) (ok:PathIn a) (ok2:PathIn b) (ok3:PathOk m (a++xn a b))
 (k:∀p H',yt H H'->Sta B G0 H' ((p,(yR (a++xn a b)).map ya)::cs) ds->Q (.ref p) H'):zan [v,w] H Q E:=
 Yl (a,b) S (.cons h (.cons h2 .nil)) ⟨ok,ok2,m,ok3⟩ k
end
def ZE (t x y:Rat):Rat:=x+t*(y - x)
def WH (c d:zh) (E:Rat):List Rat:=List.zipWith (ZE ((E - c.1) / (d.1 - c.1))) c.2 d.2
def zo:List zh->Rat->List Rat
 |[],_=>[]
 |[c],_=>c.2
 |c::d::r,E=>if E<d.1 then WH c d E else zo (d::r) E
def yU (a:List zh):Prop:=a.Pairwise λc d=>c.1<d.1
theorem Yd {E:Rat}:∀{a:List zh} {i:Nat} {c:zh},yU a->a[i]? =some c->c.1<=E->(i+1=a.length\/∃d,a[i+1]? =some d/\E<d.1)->zo a E=match a[i+1]? with|none=>c.2|some d=>WH c d E
 |[],i,c,_,h,_,_=>by simp at h
 |[b],i,c,_,h,_,_=>by
  cases i with
  |zero=>cases h;rfl
  |succ i=>simp at h
 |b::d::r,i,c,hr,h,hc,hE=>by
  cases i with
  |zero=>
   cases h
   rcases hE with hE|⟨d',hd',hE⟩
   ·simp at hE
   ·cases hd';rw [zo,jK hE];rfl
  |succ i=>
   have hr':yU (d::r):=(jo.mp hr).2;have h':(d::r)[i]? =some c:=by simpa using h
   have hd:d.1<=c.1:=by
    cases i with
    |zero=>cases h';exact jP
    |succ i=>exact jC ((jo.mp hr').1 c (jc (by simpa using h')))
   have hnd:¬E<d.1:=qh.mpr (qG hd hc);rw [zo,jQ hnd]
   have:=Yd (a:=d::r) (i:=i) (c:=c) hr' h' hc (by
    rcases hE with hE|⟨d',hd',hE⟩
    ·left;simpa using hE
    ·right;exact ⟨d',by simpa using hd',hE⟩)
   rw [this]
   simp
theorem znH (x y:Rat):ZE 0 x y=x:=by unfold ZE;grind
theorem zkm (x y:Rat):ZE 1 x y=y:=by unfold ZE;grind
theorem zhi {f:Rat->Rat->Rat} (hf:∀x y,f x y=x):∀{l r:List Rat},l.length=r.length->List.zipWith f l r=l
 |[],[],_=>rfl
 |x::l,y::r,h=>by rw [wo,hf,zhi hf (by simpa using h)]
 |[],_::_,h=>by simp at h
 |_::_,[],h=>by simp at h
theorem zfa {f:Rat->Rat->Rat} (hf:∀x y,f x y=y):∀{l r:List Rat},l.length=r.length->List.zipWith f l r=r
 |[],[],_=>rfl
 |x::l,y::r,h=>by rw [wo,hf,zfa hf (by simpa using h)]
 |[],_::_,h=>by simp at h
 |_::_,[],h=>by simp at h
theorem WB {c d:zh} (h:c.2.length=d.2.length):WH c d c.1=c.2:=by
 unfold WH;have:(c.1 - c.1) / (d.1 - c.1)=0:=by rw [Rat.sub_self,qY,JT]
 rw [this];exact zhi znH h
theorem zkJ {c d:zh} (h:c.2.length=d.2.length) (hlt:c.1<d.1):WH c d d.1=d.2:=by
 unfold WH
 have hne:d.1 - c.1≠0:=λz=>by
  have:d.1=c.1:=by grind
  rw [this] at hlt;exact wQ hlt
 have:(d.1 - c.1) / (d.1 - c.1)=1:=by rw [qY];exact qQ _ hne
 rw [this];exact zfa zkm h
section
variable {B G0 H:Hp} {cs:xq} {ds:Dat} {Q:VK} {E:XK} {v w u:V}
def zj5:Sp:=λvs H Q _=>∃(qs:List Rat) (e:Rat) (n:Nat),zX H [.list (qs.map frD),frD e] vs/\(0<qs.length/\qs.length<=1000000/\(∀q∈qs,SzQ n q)/\SzQ n e/\n<=40000000/\∀q,qs[0]? =some q->q<=e)/\
 ∀(i:Nat) (q:Rat),qs[i]? =some q->q<=e->(i+1=qs.length\/∃r,qs[i+1]? =some r/\e<r)->Q (.int (i:Nat)) H
theorem zm0 {qs:List Rat} {e:Rat} {n:Nat} (S:Sta B G0 H cs ds) (h1:Is H (.list (qs.map frD)) v) (h2:Is H (frD e) w) (hd:0<qs.length/\qs.length<=1000000/\(∀q∈qs,SzQ n q)/\SzQ n e/\n<=40000000/\∀q,qs[0]? =some q->q<=e)
 (k:∀(i:Nat) (q:Rat),qs[i]? =some q->q<=e->(i+1=qs.length\/∃r,qs[i+1]? =some r/\e<r)->Q (.int (i:Nat)) H):zj5 [v,w] H Q E:=
 ⟨qs,e,n,by simp only [zX];exact ⟨_,_,rfl,h1,_,_,rfl,h2,rfl⟩,hd,k⟩
def zal:Sp:=spT (α:=Rat×Rat×Rat) (λa=>[frD a.1,frD a.2.1,frD a.2.2]) (λa=>(∃m n,SzQ n a.1/\SzQ n a.2.1/\SzQ m a.2.2/\m+3*n+2<=8999)/\a.2.1≠a.1) (λa=>frD ((a.2.2 - a.1) / (a.2.1 - a.1)))
theorem zfj {s e x:Rat} {m n:Nat} (S:Sta B G0 H cs ds) (h1:Has ds (frD s) v) (h2:Has ds (frD e) w) (h3:Has ds (frD x) u) (z1:SzQ n s) (z2:SzQ n e) (z3:SzQ m x) (hz:m+3*n+2<=8999) (hne:e≠s)
 (k:∀r H',yt H H'->Sta B G0 H' cs ((frD ((x - s) / (e - s)),r)::ds)->Q r H'):zal [v,w,u] H Q E:=
 YW (s,e,x) S (.cons h1 (.cons h2 (.cons h3 .nil))) ⟨⟨m,n,z1,z2,z3,hz⟩,hne⟩ k
def zcK:Sp:=spT (α:=Rat×Rat×Rat) (λa=>[frD a.1,frD a.2.1,frD a.2.2]) (λa=>∃m n,SzQ n a.1/\SzQ n a.2.1/\SzQ m a.2.2/\m+3*n+2<=8999) (λa=>frD (ZE a.2.2 a.1 a.2.1))
theorem zhQ {s e t:Rat} {m n:Nat} (S:Sta B G0 H cs ds) (h1:Has ds (frD s) v) (h2:Has ds (frD e) w) (h3:Has ds (frD t) u) (z1:SzQ n s) (z2:SzQ n e) (z3:SzQ m t) (hz:m+3*n+2<=8999)
 (k:∀r H',yt H H'->Sta B G0 H' cs ((frD (ZE t s e),r)::ds)->Q r H'):zcK [v,w,u] H Q E:=
 YW (s,e,t) S (.cons h1 (.cons h2 (.cons h3 .nil))) ⟨m,n,z1,z2,z3,hz⟩ k
def zde:Sp:=spT (α:=zh×zh×Rat) (λa=>[ya a.1,ya a.2.1,frD a.2.2]) (λa=>(∃m n,SzC n a.1/\SzC n a.2.1/\SzQ m a.2.2/\m+6*n+4<=8999)/\a.1.1<a.2.1.1/\a.1.2.length<=1000) (λa=>xr (WH a.1 a.2.1 a.2.2))
theorem zlk {c d:zh} {e:Rat} {m n:Nat} (S:Sta B G0 H cs ds) (h1:Has ds (ya c) v) (h2:Has ds (ya d) w) (h3:Has ds (frD e) u) (z1:SzC n c) (z2:SzC n d) (z3:SzQ m e) (hz:m+6*n+4<=8999) (hlt:c.1<d.1) (hl:c.2.length<=1000)
 (k:∀r H',yt H H'->Sta B G0 H' cs ((xr (WH c d e),r)::ds)->Q r H'):zde [v,w,u] H Q E:=
 YW (c,d,e) S (.cons h1 (.cons h2 (.cons h3 .nil))) ⟨⟨m,n,z1,z2,z3,hz⟩,hlt,hl⟩ k
structure PathR (n:Nat) (a:List zh):Prop where
 ne:a≠[]
 sz:∀c∈a,SzC n c
 len:∀c∈a,c.2.length<=1000
 few:a.length<=900
 rise:yU a
 zero:∀c,a[0]? =some c->c.1=0
def zam:Sp:=spT (α:=List zh×Rat) (λa=>[yX a.1,frD a.2]) (λa=>∃m n,PathR n a.1/\SzQ m a.2/\m+6*n+4<=8999/\0<=a.2) (λa=>xr (zo a.1 a.2))
theorem zbp {a:List zh} {e:Rat} {m n:Nat} (S:Sta B G0 H cs ds) (h1:Has ds (yX a) v) (h2:Has ds (frD e) w) (ok:PathR n a) (z:SzQ m e) (hz:m+6*n+4<=8999) (h0:0<=e)
 (k:∀r H',yt H H'->Sta B G0 H' cs ((xr (zo a e),r)::ds)->Q r H'):zam [v,w] H Q E:=
 YW (a,e) S (.cons h1 (.cons h2 .nil)) ⟨m,n,ok,z,hz,h0⟩ k
end
theorem yl {a b:Rat} (h:a*b=0) (hb:b≠0):a=0:=by
 have h1:=qQ b hb;have:a=a*b*b⁻¹:=by rw [Rat.mul_assoc,h1,Rat.mul_one]
 rw [this,h,JT]
theorem ZB {a b:Rat} (h:a<b):b - a≠0:=λz=>by
 have:b=a:=by grind
 rw [this] at h;exact wQ h
theorem xS {s e x y E:Rat} (h:s<e):(ZE ((E - s) / (e - s)) x y - x)*(e - s)=(E - s)*(y - x):=by
 have h1:=qQ _ (ZB h);unfold ZE;rw [qY];generalize (e - s)⁻¹=i at*
 grind
theorem Xf {c d:zh} {E:Rat} {i:Nat} {z:Rat} (h:(WH c d E)[i]? =some z):∃x y,c.2[i]? =some x/\d.2[i]? =some y/\z=ZE ((E - c.1) / (d.1 - c.1)) x y:=by
 unfold WH at h;rw [jt] at h
 cases hx:c.2[i]? with
 |none=>rw [hx] at h;cases h
 |some x=>
  cases hy:d.2[i]? with
  |none=>rw [hx,hy] at h;cases h
  |some y=>rw [hx,hy] at h;exact ⟨x,y,rfl,rfl,(jL h).symm⟩
structure PathT (m:Nat) (a:List zh):Prop where
 rise:yU a
 len:∀c∈a,c.2.length=m
 thin:∀(i:Nat) (x y z:zh),a[i]? =some x->a[i+1]? =some y->a[i+2]? =some z->¬yh x y z
theorem PathT.tail {m:Nat} {c:zh} {a:List zh} (h:PathT m (c::a)):PathT m a:=
 ⟨(jo.mp h.rise).2,λx hx=>h.len x (jf _ hx),λi x y z hx hy hz=>h.thin (i+1) x y z (by simpa using hx) (by simpa using hy) (by simpa using hz)⟩
theorem ym {c d:zh} {r:List zh} {E:Rat} (h:d.1<=E):zo (c::d::r) E=zo (d::r) E:=by
 rw [zo,jQ (qh.mpr h)]
theorem Yz {m:Nat} {c:zh} {r:List zh} (h:PathT m (c::r)):zo (c::r) c.1=c.2:=by
 cases r with
 |nil=>rfl
 |cons d r=>
  rw [zo,jK ((jo.mp h.rise).1 d (jd ..)),WB];rw [h.len c (jd ..),h.len d (jf _ (jd ..))]
theorem znT {m:Nat}:∀{c:zh} {r:List zh},PathT m (c::r)->c.1<=(lastC (c::r)).1
 |c,[],_=>jP
 |c,d::r,h=>by
  have h1:=(jo.mp h.rise).1 d (jd ..);have h2:=znT h.tail;have e:lastC (c::d::r)=lastC (d::r):=by unfold lastC;rw [qH]
  rw [e];exact qG (jC h1) h2
theorem YA (c d:zh) (r:List zh):lastC (c::d::r)=lastC (d::r):=by unfold lastC;rw [qH]
theorem Yy {m:Nat} {u v E:Rat} (huE:u<=E) (hEv:E<=v) (huv:u<v):∀{c:zh} {r:List zh},PathT m (c::r)->c.1<=u->(∀x∈r,¬(u<x.1/\x.1<v))->
 ∀(i:Nat) (x y z:Rat),(zo (c::r) u)[i]? =some x->(zo (c::r) v)[i]? =some y->(zo (c::r) E)[i]? =some z->(z - x)*(v - u)=(y - x)*(E - u)
 |c,[],_,_,_,i,x,y,z,hx,hy,hz=>by
  have e1:c.2[i]? =some x:=hx;have e2:c.2[i]? =some y:=hy;have e3:c.2[i]? =some z:=hz;rw [e1] at e2 e3;cases e2;cases e3
  grind
 |c,d::r,h,hc,hno,i,x,y,z,hx,hy,hz=>by
  have hcd:=(jo.mp h.rise).1 d (jd ..)
  by_cases hd:d.1<=u
  ·rw [ym hd] at hx;rw [ym (qG hd (jC huv))] at hy;rw [ym (qG hd huE)] at hz;exact Yy huE hEv huv h.tail hd (λx hx=>hno x (jf _ hx)) i x y z hx hy hz
  ·have hud:u<d.1:=we.mp hd;have hvd:v<=d.1:=qh.mp λhlt=>hno d (jd ..) ⟨hud,hlt⟩
   have key:∀t:Rat,t<=d.1->zo (c::d::r) t=WH c d t:=by
    intro t ht
    by_cases h1:t<d.1
    ·rw [zo,jK h1]
    ·have e:t=d.1:=wK ht (qh.mp h1);rw [e,ym jP,Yz h.tail,zkJ (by rw [h.len c (jd ..),h.len d (jf _ (jd ..))]) hcd]
   rw [key u (jC hud)] at hx;rw [key v hvd] at hy;rw [key E (qG hEv hvd)] at hz;obtain ⟨p,q,hp,hq,ex⟩:=Xf hx;obtain ⟨p',q',hp',hq',ey⟩:=Xf hy;obtain ⟨p'',q'',hp'',hq'',ez⟩:=Xf hz;rw [hp] at hp' hp'';rw [hq] at hq' hq'';cases hp';cases hp'';cases hq';cases hq'';have l1:=xS (x:=p) (y:=q) (E:=u) hcd;have l2:=xS (x:=p) (y:=q) (E:=v) hcd;have l3:=xS (x:=p) (y:=q) (E:=E) hcd;rw [<-ex] at l1;rw [<-ey] at l2;rw [<-ez] at l3;have k:((z - x)*(v - u) - (y - x)*(E - u))*(d.1 - c.1)=0:=by grind
   have:=yl k (ZB hcd)
   grind
theorem Xj {m:Nat} {E:Rat}:∀{c:zh} {r:List zh},(∀x∈c::r,x.2.length=m)->(zo (c::r) E).length=m
 |c,[],h=>h c (jd ..)
 |c,d::r,h=>by
  rw [zo]
  split
  ·unfold WH;rw [jA,h c (jd ..),h d (jf _ (jd ..)),qI]
  ·exact Xj λx hx=>h x (jf _ hx)
def yY:List Rat->List Rat->List Rat
 |[],ys=>ys
 |x::xs,[]=>x::xs
 |x::xs,y::ys=>if x<y then x::yY xs (y::ys) else if x=y then y::yY xs ys else y::yY (x::xs) ys
termination_by xs ys=>xs.length+ys.length
theorem zdL:∀xs:List Rat,yY xs []=xs
 |[]=>by rw [yY]
 |x::xs=>by rw [yY]
theorem Xz {e:Rat}:∀{xs ys:List Rat},e∈yY xs ys↔e∈xs\/e∈ys
 |[],ys=>by rw [yY];simp
 |x::xs,[]=>by rw [yY];simp
 |x::xs,y::ys=>by
  rw [yY]
  split
  ·rw [jn,Xz (xs:=xs) (ys:=y::ys),jn,jn]
   constructor<;>intro h<;>grind
  ·split
   ·rename_i h1 h2;subst h2;rw [jn,Xz (xs:=xs) (ys:=ys),jn,jn]
    constructor<;>intro h<;>grind
   ·rw [jn,Xz (xs:=x::xs) (ys:=ys),jn,jn]
    constructor<;>intro h<;>grind
termination_by xs ys=>xs.length+ys.length
theorem xX {a b c:Rat} (h:a<b) (g:b<c):a<c:=by grind
def UZ (l:List Rat):Prop:=l.Pairwise (·<·)
theorem Uc:∀{xs ys:List Rat},UZ xs->UZ ys->UZ (yY xs ys)
 |[],ys,_,hy=>by rw [yY];exact hy
 |x::xs,[],hx,_=>by rw [yY];exact hx
 |x::xs,y::ys,hx,hy=>by
  obtain ⟨hx1,hx2⟩:=jo.mp hx;obtain ⟨hy1,hy2⟩:=jo.mp hy;rw [yY]
  split
  ·rename_i h;refine jo.mpr ⟨λe he=>?_,Uc hx2 hy⟩
   rcases Xz.mp he with h1|h1
   ·exact hx1 e h1
   ·rcases jn.mp h1 with rfl|h1
    ·exact h
    ·exact xX h (hy1 e h1)
  ·split
   ·rename_i h1 h2;subst h2;refine jo.mpr ⟨λe he=>?_,Uc hx2 hy2⟩
    rcases Xz.mp he with h|h
    ·exact hx1 e h
    ·exact hy1 e h
   ·rename_i h1 h2
    have hyx:y<x:=by
     rcases Rat.le_iff_lt_or_eq.mp (qh.mp h1) with h|h
     ·exact h
     ·exact absurd h.symm h2
    refine jo.mpr ⟨λe he=>?_,Uc hx hy2⟩
    rcases Xz.mp he with h|h
    ·rcases jn.mp h with rfl|h
     ·exact hyx
     ·exact xX hyx (hx1 e h)
    ·exact hy1 e h
termination_by xs ys=>xs.length+ys.length
theorem zaK:∀(xs ys:List Rat),(yY xs ys).length<=xs.length+ys.length
 |[],ys=>by rw [yY];simp
 |x::xs,[]=>by rw [yY];simp
 |x::xs,y::ys=>by
  rw [yY]
  split
  ·have:=zaK xs (y::ys);simp only [jz] at*;omega
  ·split
   ·have:=zaK xs ys;simp only [jz] at*;omega
   ·have:=zaK (x::xs) ys;simp only [jz] at*;omega
termination_by xs ys=>xs.length+ys.length
section
variable {B G0 H:Hp} {cs:xq} {ds:Dat} {Q:VK} {E:XK} {v w u:V}
def zf4:Sp:=spL (α:=List Rat×List Rat) (λa=>[.list (a.1.map frD), .list (a.2.map frD)]) (λa=>(∃n,(∀q∈a.1,SzQ n q)/\(∀q∈a.2,SzQ n q)/\n<=40000000)/\a.1.length<=450/\a.2.length<=450) (λa=>(yY a.1 a.2).map frD)
theorem zmZ {p q:List Rat} {n:Nat} (S:Sta B G0 H cs ds) (h1:Has ds (.list (p.map frD)) v) (h2:Has ds (.list (q.map frD)) w) (z1:∀x∈p,SzQ n x) (z2:∀x∈q,SzQ n x) (hn:n<=40000000) (l1:p.length<=450) (l2:q.length<=450)
 (k:∀r H',yt H H'->Sta B G0 H' ((r,(yY p q).map frD)::cs) ds->Q (.ref r) H'):zf4 [v,w] H Q E:=
 Yl (p,q) S (.cons h1 (.cons h2 .nil)) ⟨⟨n,z1,z2,hn⟩,l1,l2⟩ k
def yr (a:List zh):List Rat:=a.map λc=>c.1
end
theorem zhj (m:Nat):(Xa m).sum=0:=by
 unfold Xa
 induction m with
 |zero=>rfl
 |succ m ih=>rw [qv,jM,ih];rfl
theorem zdK {M:List Rat} (hM:UZ M) {j:Nat} {u v e:Rat} (hu:M[j]? =some u) (hv:M[j+1]? =some v) (he:e∈M):¬(u<e/\e<v):=by
 rintro ⟨h1,h2⟩
 obtain ⟨i,hi⟩:=jw.mp he;obtain ⟨li,ei⟩:=je.mp hi;obtain ⟨lu,eu⟩:=je.mp hu;obtain ⟨lv,ev⟩:=je.mp hv;have pw:=jN.mp hM
 by_cases c:i<=j
 ·rcases Nat.lt_or_eq_of_le c with c|c
  ·have:=pw i j li lu c;rw [ei,eu] at this
   grind
  ·subst c;rw [ei] at eu;subst eu
   grind
 ·by_cases c2:i=j+1
  ·subst c2;rw [ei] at ev;subst ev
   grind
  ·have:=pw (j+1) i lv li (by omega);rw [ei,ev] at this
   grind
theorem WT {a:List zh} (h:yU a):UZ (yr a):=by
 unfold UZ yr;rw [qi];exact h
section
variable {B G0 H:Hp} {cs:xq} {ds:Dat} {Q:VK} {E:XK} {v w u:V}
def ziK:Sp:=λvs H Q _=>∃n:Int,vs=[.int n]/\Q (.bl true) H
theorem zo6 {n:Int} (k:Q (.bl true) H):ziK [.int n] H Q E:=⟨n,rfl,k⟩
def zmA:Sp:=spB (α:=Rat) (λa=>[frD a]) (λ_=>True) (λ_=> .bl true)
theorem zrR {q:Rat} (S:Sta B G0 H cs ds) (h:Has ds (frD q) v) (k:∀H',Sta B G0 H' cs ds->Q (.bl true) H'):zmA [v] H Q E:=
 zaB q (S.hpAll (.cons h .nil)) trivial λH' e=>k H' (S.same e)
end
def yb:List Rat->Rat
 |[]=>0
 |x::r=>x+yb r
theorem zc5:∀x y:List Rat,yb (x++y)=yb x+yb y
 |[],y=>by rw [wJ,yb];grind
 |a::x,y=>by rw [qE,yb,yb,zc5 x y];grind
theorem Wj (m:Nat):yb (List.replicate m 0)=0:=by
 induction m with
 |zero=>rfl
 |succ m ih=>rw [qv,yb,ih];grind
theorem zfX (t:Rat):∀x y:List Rat,x.length=y.length->yb (List.zipWith (ZE t) x y)=ZE t (yb x) (yb y)
 |[],[],_=>by rw [List.zipWith_nil_left,yb];unfold ZE;grind
 |a::x,b::y,h=>by
  rw [wo,yb,yb,yb,zfX t x y (by simpa using h)];unfold ZE;grind
 |[],_::_,h=>by simp at h
 |_::_,[],h=>by simp at h
def LeV (x y:List Rat):Prop:=∀(i:Nat) (a b:Rat),x[i]? =some a->y[i]? =some b->a<=b
structure PathM (m:Nat) (a:List zh):Prop where
 t:PathT m a
 sums:∀c∈a,yb c.2=c.1
 mono:a.Pairwise λc d=>LeV c.2 d.2
theorem PathM.tail {m:Nat} {c:zh} {a:List zh} (h:PathM m (c::a)):PathM m a:=
 ⟨h.t.tail,λx hx=>h.sums x (jf _ hx),(jo.mp h.mono).2⟩
theorem zkl {s e x y u v:Rat} (h:s<e) (huv:u<=v) (hxy:x<=y):ZE ((u - s) / (e - s)) x y<=ZE ((v - s) / (e - s)) x y:=by
 have l1:=xS (x:=x) (y:=y) (E:=u) h;have l2:=xS (x:=x) (y:=y) (E:=v) h;have hp:0<e - s:=by grind
 have h0:0<=(v - u)*(y - x):=jW (by grind) (by grind);refine Rat.le_of_mul_le_mul_left (c:=e - s) ?_ hp
 grind
theorem WU {m:Nat} {u v:Rat} (huv:u<=v):∀{c:zh} {r:List zh},PathM m (c::r)->c.1<=u->LeV (zo (c::r) u) (zo (c::r) v)
 |c,[],_,_=>λi a b ha hb=>by
  have e1:c.2[i]? =some a:=ha;have e2:c.2[i]? =some b:=hb;rw [e1] at e2;cases e2;exact jP
 |c,d::r,h,hc=>λi a b ha hb=>by
  have hcd:=(jo.mp h.t.rise).1 d (jd ..);have hm:=(jo.mp h.mono).1 d (jd ..)
  by_cases hd:d.1<=u
  ·rw [ym hd] at ha;rw [ym (qG hd huv)] at hb;exact WU huv h.tail hd i a b ha hb
  ·have hud:u<d.1:=we.mp hd;rw [zo,jK hud] at ha;obtain ⟨x,y,hx,hy,ea⟩:=Xf ha;have hxy:=hm i x y hx hy
   by_cases hv:v<d.1
   ·rw [zo,jK hv] at hb;obtain ⟨x',y',hx',hy',eb⟩:=Xf hb;rw [hx] at hx';cases hx';rw [hy] at hy';cases hy';rw [ea,eb];exact zkl hcd huv hxy
   ·have hdv:d.1<=v:=qh.mp hv;rw [ym hdv] at hb;have h2:=WU hdv h.tail jP i y b (by rw [Yz h.t.tail];exact hy) hb;have h1:=zkl (x:=x) (y:=y) hcd (jC hud) hxy;rw [<-ea] at h1
    have e1:ZE ((d.1 - c.1) / (d.1 - c.1)) x y=y:=by
     rw [qY,qQ _ (ZB hcd),zkm]
    rw [e1] at h1;exact qG h1 h2
theorem zbt {m:Nat} {e:Rat}:∀{c:zh} {r:List zh},PathM m (c::r)->c.1<=e->e<=(lastC (c::r)).1->yb (zo (c::r) e)=e
 |c,[],h,hc,hl=>by
  have e1:e=c.1:=wK hl hc;rw [e1];exact h.sums c (jd ..)
 |c,d::r,h,hc,hl=>by
  have hcd:=(jo.mp h.t.rise).1 d (jd ..)
  by_cases hd:d.1<=e
  ·rw [ym hd];exact zbt h.tail hd (by rw [<-YA c];exact hl)
  ·have hud:e<d.1:=we.mp hd;rw [zo,jK hud];unfold WH;rw [zfX _ _ _ (by rw [h.t.len c (jd ..),h.t.len d (jf _ (jd ..))]),h.sums c (jd ..),h.sums d (jf _ (jd ..))];have l1:=xS (x:=c.1) (y:=d.1) (E:=e) hcd;have:=yl (a:=ZE ((e - c.1) / (d.1 - c.1)) c.1 d.1 - e) (b:=d.1 - c.1) (by grind) (ZB hcd)
   grind
theorem zdG {m:Nat}:∀{c:zh} {r:List zh},PathT m (c::r)->zo (c::r) (lastC (c::r)).1=(lastC (c::r)).2
 |c,[],h=>rfl
 |c,d::r,h=>by
  rw [YA,ym (znT h.tail)];exact zdG h.tail
def xQ:List zh->Nat->Rat->Option Rat
 |c::d::r,k,L=>if L<d.2.getD k 0 then some (ZE ((L - c.2.getD k 0) / (d.2.getD k 0 - c.2.getD k 0)) c.1 d.1) else xQ (d::r) k L
 |_,_,_=>none
theorem UU {m:Nat} {k:Nat} {L e:Rat} (hk:k<m):∀{c:zh} {r:List zh},PathM m (c::r)->c.2.getD k 0<=L->xQ (c::r) k L=some e->
 ∃(i:Nat) (a b:zh) (x y:Rat),(c::r)[i]? =some a/\(c::r)[i+1]? =some b/\a.2[k]? =some x/\b.2[k]? =some y/\x<=L/\L<y/\e=ZE ((L - x) / (y - x)) a.1 b.1/\a.1<=e/\e<b.1/\(e - a.1) / (b.1 - a.1)=(L - x) / (y - x)/\zo (c::r) e=List.zipWith (ZE ((L - x) / (y - x))) a.2 b.2
 |c,[],_,_,h=>by simp [xQ] at h
 |c,d::r,h,hc,hr=>by
  have hcd:=(jo.mp h.t.rise).1 d (jd ..);have lc:k<c.2.length:=by rw [h.t.len c (jd ..)];exact hk
  have ld:k<d.2.length:=by rw [h.t.len d (jf _ (jd ..))];exact hk
  have gc:c.2[k]? =some (c.2.getD k 0):=by rw [jm,jb lc];rfl
  have gd:d.2[k]? =some (d.2.getD k 0):=by rw [jm,jb ld];rfl
  rw [xQ] at hr
  by_cases hL:L<d.2.getD k 0
  ·rw [jK hL] at hr;cases hr;generalize c.2.getD k 0=x at*;generalize d.2.getD k 0=y at*;have hxy:x<y:=by grind
   have l1:=xS (x:=c.1) (y:=d.1) (E:=L) hxy;have hp:0<y - x:=by grind
   have hq:0<d.1 - c.1:=by grind
   have h1:0<=(L - x)*(d.1 - c.1):=jW (by grind) (by grind);have h2:0<(y - L)*(d.1 - c.1):=JA (by grind) hq;have ge1:c.1<=ZE ((L - x) / (y - x)) c.1 d.1:=Rat.le_of_mul_le_mul_left (c:=y - x) (by grind) hp
   have lt1:ZE ((L - x) / (y - x)) c.1 d.1<d.1:=by
    refine we.mp λhle=>?_;have h3:0<=(ZE ((L - x) / (y - x)) c.1 d.1 - d.1)*(y - x):=jW (by grind) (by grind)
    grind
   have et:(ZE ((L - x) / (y - x)) c.1 d.1 - c.1) / (d.1 - c.1)=(L - x) / (y - x):=by
    unfold ZE;generalize (L - x) / (y - x)=t;have hi:=qQ _ (ZB hcd);rw [qY];generalize (d.1 - c.1)⁻¹=j at*
    grind
   refine ⟨0,c,d,x,y,rfl,rfl,gc,gd,hc,hL,rfl,ge1,lt1,et,?_⟩;rw [zo,jK lt1];unfold WH;rw [et]
  ·rw [jQ hL] at hr;obtain ⟨i,a,b,x,y,h1,h2,h3,h4,h5,h6,h7,h8,h9,h10,h11⟩:=UU hk h.tail (qh.mp hL) hr;refine ⟨i+1,a,b,x,y,by simpa using h1,by simpa using h2,h3,h4,h5,h6,h7,h8,h9,h10,?_⟩
   have hda:d.1<=a.1:=by
    cases i with
    |zero=>cases h1;exact jP
    |succ i=>exact jC ((jo.mp h.t.tail.rise).1 a (jc (by simpa using h1)))
   rw [ym (qG hda h8)];exact h11
theorem zdr {m:Nat} {k:Nat} {L:Rat} (hk:k<m):∀{c:zh} {r:List zh},PathM m (c::r)->c.2.getD k 0<=L->xQ (c::r) k L=none->(lastC (c::r)).2.getD k 0<=L
 |c,[],_,hc,h=>hc
 |c,d::r,h,hc,hr=>by
  rw [xQ] at hr
  by_cases hL:L<d.2.getD k 0
  ·rw [jK hL] at hr;cases hr
  ·rw [jQ hL] at hr;rw [YA];exact zdr hk h.tail (qh.mp hL) hr
theorem zhI {m:Nat} {k:Nat} {L:Rat} (hk:k<m):∀{c:zh} {r:List zh} {i:Nat} {a b:zh},PathM m (c::r)->(c::r)[i]? =some a->(c::r)[i+1]? =some b->a.2.getD k 0<=L->L<b.2.getD k 0->
 xQ (c::r) k L=some (ZE ((L - a.2.getD k 0) / (b.2.getD k 0 - a.2.getD k 0)) a.1 b.1)
 |c,[],i,a,b,_,_,hb,_,_=>by simp at hb
 |c,d::r,0,a,b,_,ha,hb,_,hL=>by
  cases ha;cases hb;rw [xQ,jK hL]
 |c,d::r,i+1,a,b,h,ha,hb,hLa,hL=>by
  have ha':(d::r)[i]? =some a:=by simpa using ha
  have hda:d.2.getD k 0<=a.2.getD k 0:=by
   cases i with
   |zero=>cases ha';exact jP
   |succ i=>
    have hm:=(jo.mp h.tail.mono).1 a (jc (by simpa using ha'));have ld:k<d.2.length:=by rw [h.t.len d (jf _ (jd ..))];exact hk
    have la:k<a.2.length:=by rw [h.t.len a (jc ha)];exact hk
    exact hm k _ _ (by rw [jm,jb ld];rfl) (by rw [jm,jb la];rfl)
  rw [xQ,jQ (qh.mpr (qG hda hLa))];exact zhI hk h.tail ha' (by simpa using hb) hLa hL
theorem zfi {m:Nat} {k:Nat} {L:Rat} (hk:k<m):∀{c:zh} {r:List zh},PathM m (c::r)->(∀l,(c::r).getLast? =some l->l.2.getD k 0<=L)->xQ (c::r) k L=none
 |c,[],_,_=>rfl
 |c,d::r,h,hl=>by
  have hd:d.2.getD k 0<=L:=by
   obtain ⟨l,hl1⟩:∃l,(c::d::r).getLast? =some l:=⟨_,qd (by simp)⟩;have hle:=hl l hl1;rw [qH] at hl1
   cases r with
   |nil=>cases hl1;exact hle
   |cons f r=>
    rw [qH] at hl1;have hm:=(jo.mp h.tail.mono).1 l (qX hl1);have ld:k<d.2.length:=by rw [h.t.len d (jf _ (jd ..))];exact hk
    have la:k<l.2.length:=by rw [h.t.len l (jf _ (jf _ (qX hl1)))];exact hk
    exact qG (hm k _ _ (by rw [jm,jb ld];rfl) (by rw [jm,jb la];rfl)) hle
  rw [xQ,jQ (qh.mpr hd)];exact zfi hk h.tail λl hl'=>hl l (by rw [qH];exact hl')
theorem yC {m:Nat} {a:zh}:∀{c:zh} {r:List zh},PathT m (c::r)->a∈c::r->zo (c::r) a.1=a.2
 |c,[],_,ha=>by
  rcases jn.mp ha with rfl|h
  ·rfl
  ·simp at h
 |c,d::r,h,ha=>by
  rcases jn.mp ha with rfl|h'
  ·exact Yz h
  ·have:d.1<=a.1:=by
    rcases jn.mp h' with rfl|h2
    ·exact jP
    ·exact jC ((jo.mp h.tail.rise).1 a h2)
   rw [ym this];exact yC h.tail h'
theorem zaL {m:Nat}:∀{c:zh} {r:List zh},PathT m (c::r)->lastC (c::r)∈c::r/\∀x∈c::r,x.1<=(lastC (c::r)).1
 |c,[],_=>⟨jd ..,λx hx=>by
  rcases jn.mp hx with rfl|h
  ·exact jP
  ·simp at h⟩
 |c,d::r,h=>by
  have ih:=zaL h.tail;rw [YA];refine ⟨jf _ ih.1,λx hx=>?_⟩
  rcases jn.mp hx with rfl|h'
  ·exact qG (jC ((jo.mp h.rise).1 d (jd ..))) (ih.2 d (jd ..))
  ·exact ih.2 x h'
theorem zcT {m:Nat} {c:zh} {r:List zh} (h:PathT m (c::r)):∀x∈c::r,c.1<=x.1:=λx hx=>by
 rcases jn.mp hx with rfl|h'
 ·exact jP
 ·exact jC ((jo.mp h.rise).1 x h')
theorem zgC {a:List zh} (h:yU a) {i:Nat} {x y z:zh} (hx:a[i]? =some x) (hy:a[i+1]? =some y) (hz:z∈a):¬(x.1<z.1/\z.1<y.1):=
 zdK (M:=yr a) (WT h) (j:=i) (by unfold yr;rw [jh,hx];rfl) (by unfold yr;rw [jh,hy];rfl) (by unfold yr;exact jk.mpr ⟨z,hz,rfl⟩)
def zlH (x y z:List Rat) (a b:Rat):Prop:=∀(i:Nat) (p q r:Rat),x[i]? =some p->y[i]? =some q->z[i]? =some r->(r - p)*b=(q - p)*a
theorem zdQ {x y z:List Rat} {p q r a b:Rat}:zlH (p::x) (q::y) (r::z) a b↔(r - p)*b=(q - p)*a/\zlH x y z a b:=by
 constructor
 ·intro h;exact ⟨h 0 p q r rfl rfl rfl,λi p' q' r' h1 h2 h3=>h (i+1) p' q' r' (by simpa using h1) (by simpa using h2) (by simpa using h3)⟩
 ·rintro ⟨h0,h⟩ i p' q' r' h1 h2 h3
  cases i with
  |zero=>cases h1;cases h2;cases h3;exact h0
  |succ i=>exact h i p' q' r' (by simpa using h1) (by simpa using h2) (by simpa using h3)
theorem zkr {a b:Rat} {x' y' z':List Rat}:∀{x y z:List Rat},x.length=y.length->x.length=z.length->(zlH (x++x') (y++y') (z++z') a b↔zlH x y z a b/\zlH x' y' z' a b)
 |[],[],[],_,_=>by
  simp only [wJ];exact ⟨λh=>⟨λi p q r h1=>by simp at h1,h⟩,λh=>h.2⟩
 |p::x,q::y,r::z,h1,h2=>by
  rw [qE,qE,qE,zdQ,zdQ,zkr (by simpa using h1) (by simpa using h2),and_assoc]
 |[],_::_,_,h,_=>by simp at h
 |_::_,[],_,h,_=>by simp at h
 |[],[],_::_,_,h=>by simp at h
 |_::_,_::_,[],_,h=>by simp at h
theorem zkq {a b:Rat}:∀{x y z:List Rat},x.length=y.length->x.length=z.length->zlH x y z a b->(yb z - yb x)*b=(yb y - yb x)*a
 |[],[],[],_,_,_=>by simp only [yb];grind
 |p::x,q::y,r::z,h1,h2,h=>by
  rw [zdQ] at h;have:=zkq (by simpa using h1) (by simpa using h2) h.2;have h0:=h.1;simp only [yb]
  grind
 |[],_::_,_,h,_,_=>by simp at h
 |_::_,[],_,h,_,_=>by simp at h
 |[],[],_::_,_,h,_=>by simp at h
 |_::_,_::_,[],_,h,_=>by simp at h
theorem zkN {x y:List Rat} {p q:Rat}:LeV (p::x) (q::y)↔p<=q/\LeV x y:=by
 constructor
 ·intro h;exact ⟨h 0 p q rfl rfl,λi p' q' h1 h2=>h (i+1) p' q' (by simpa using h1) (by simpa using h2)⟩
 ·rintro ⟨h0,h⟩ i p' q' h1 h2
  cases i with
  |zero=>cases h1;cases h2;exact h0
  |succ i=>exact h i p' q' (by simpa using h1) (by simpa using h2)
theorem zoA {x' y':List Rat}:∀{x y:List Rat},x.length=y.length->LeV x y->LeV x' y'->LeV (x++x') (y++y')
 |[],[],_,_,h=>h
 |p::x,q::y,hl,h,h'=>by
  rw [zkN] at h;rw [qE,qE,zkN];exact ⟨h.1,zoA (by simpa using hl) h.2 h'⟩
 |[],_::_,h,_,_=>by simp at h
 |_::_,[],h,_,_=>by simp at h
def xF (Qs:List (List zh)) (ps:List Rat):List Rat:=(List.zipWith zo Qs ps).flatten
theorem Zj (Q:List zh) (Qs:List (List zh)) (p:Rat) (ps:List Rat):xF (Q::Qs) (p::ps)=zo Q p++xF Qs ps:=by
 unfold xF;rw [wo,qN]
def Wid (Q:List zh):Prop:=∃(m:Nat) (c:zh) (r:List zh),Q=c::r/\∀x∈c::r,x.2.length=m
theorem Wid.len {Q:List zh} (h:Wid Q) (p q:Rat):(zo Q p).length=(zo Q q).length:=by
 obtain ⟨m,c,r,rfl,h⟩:=h;rw [Xj h,Xj h]
theorem zgH {a b:Rat}:∀{Qs:List (List zh)} {pu pv pE:List Rat},pu.length=Qs.length->pv.length=Qs.length->pE.length=Qs.length->(∀Q∈Qs,Wid Q)->
 (zlH (xF Qs pu) (xF Qs pv) (xF Qs pE) a b↔∀(k:Nat) (Q:List zh) (p q r:Rat),Qs[k]? =some Q->pu[k]? =some p->pv[k]? =some q->pE[k]? =some r->zlH (zo Q p) (zo Q q) (zo Q r) a b)
 |[],[],[],[],_,_,_,_=>⟨λ_ k Q p q r h=>by simp at h,λ_ i p q r h=>by simp [xF] at h⟩
 |Q::Qs,p::pu,q::pv,r::pE,h1,h2,h3,hw=>by
  have w:=hw Q (jd ..);rw [Zj,Zj,Zj,zkr (w.len _ _) (w.len _ _),zgH (by simpa using h1) (by simpa using h2) (by simpa using h3) λQ hQ=>hw Q (jf _ hQ)]
  constructor
  ·rintro ⟨h,h'⟩ k Q' p' q' r' a1 a2 a3 a4
   cases k with
   |zero=>cases a1;cases a2;cases a3;cases a4;exact h
   |succ k=>exact h' k Q' p' q' r' (by simpa using a1) (by simpa using a2) (by simpa using a3) (by simpa using a4)
  ·intro h;exact ⟨h 0 Q p q r rfl rfl rfl rfl,λk Q' p' q' r' a1 a2 a3 a4=>h (k+1) Q' p' q' r' (by simpa using a1) (by simpa using a2) (by simpa using a3) (by simpa using a4)⟩
 |[],_::_,_,_,h,_,_,_=>by simp at h
 |[],[],_::_,_,_,h,_,_=>by simp at h
 |[],[],[],_::_,_,_,h,_=>by simp at h
 |_::_,[],_,_,h,_,_,_=>by simp at h
 |_::_,_::_,[],_,_,h,_,_=>by simp at h
 |_::_,_::_,_::_,[],_,_,h,_=>by simp at h
theorem znR:∀{Qs:List (List zh)} {pu pv:List Rat},pu.length=Qs.length->pv.length=Qs.length->(∀Q∈Qs,Wid Q)->
 (∀(k:Nat) (Q:List zh) (p q:Rat),Qs[k]? =some Q->pu[k]? =some p->pv[k]? =some q->LeV (zo Q p) (zo Q q))->LeV (xF Qs pu) (xF Qs pv)
 |[],[],[],_,_,_,_=>λi p q h=>by simp [xF] at h
 |Q::Qs,p::pu,q::pv,h1,h2,hw,h=>by
  rw [Zj,Zj];exact zoA ((hw Q (jd ..)).len _ _) (h 0 Q p q rfl rfl rfl) (znR (by simpa using h1) (by simpa using h2) (λQ hQ=>hw Q (jf _ hQ)) λk Q' p' q' a1 a2 a3=>h (k+1) Q' p' q' (by simpa using a1) (by simpa using a2) (by simpa using a3))
 |[],_::_,_,h,_,_,_=>by simp at h
 |[],[],_::_,_,h,_,_=>by simp at h
 |_::_,[],_,h,_,_,_=>by simp at h
 |_::_,_::_,[],_,h,_,_=>by simp at h
theorem zj1:∀{Qs:List (List zh)} {ps:List Rat},ps.length=Qs.length->(∀(k:Nat) (Q:List zh) (p:Rat),Qs[k]? =some Q->ps[k]? =some p->yb (zo Q p)=p)->yb (xF Qs ps)=yb ps
 |[],[],_,_=>rfl
 |Q::Qs,p::ps,h,g=>by
  rw [Zj,zc5,g 0 Q p rfl rfl,yb,zj1 (by simpa using h) λk Q' p' a1 a2=>g (k+1) Q' p' (by simpa using a1) (by simpa using a2)]
 |[],_::_,h,_=>by simp at h
 |_::_,[],h,_=>by simp at h
theorem zku:∀{Qs:List (List zh)} {pu pv:List Rat},pu.length=Qs.length->pv.length=Qs.length->(∀Q∈Qs,Wid Q)->(xF Qs pu).length=(xF Qs pv).length
 |[],[],[],_,_,_=>rfl
 |Q::Qs,p::pu,q::pv,h1,h2,hw=>by
  rw [Zj,Zj,jJ,jJ,(hw Q (jd ..)).len p q,zku (by simpa using h1) (by simpa using h2) λQ hQ=>hw Q (jf _ hQ)]
 |[],_::_,_,h,_,_=>by simp at h
 |[],[],_::_,_,h,_=>by simp at h
 |_::_,[],_,h,_,_=>by simp at h
 |_::_,_::_,[],_,h,_=>by simp at h
theorem zko {x:Rat}:∀{Qs:List (List zh)} {ps:List Rat},x∈xF Qs ps->∃(k:Nat) (Q:List zh) (p:Rat),Qs[k]? =some Q/\ps[k]? =some p/\x∈zo Q p
 |[],ps,h=>by simp [xF] at h
 |Q::Qs,[],h=>by simp [xF] at h
 |Q::Qs,p::ps,h=>by
  rw [Zj,jV] at h
  rcases h with h|h
  ·exact ⟨0,Q,p,rfl,rfl,h⟩
  ·obtain ⟨k,Q',p',a,b,c⟩:=zko h;exact ⟨k+1,Q',p',by simpa using a,by simpa using b,c⟩
theorem bend {m:Nat} {c:zh} {r:List zh} (h:PathM m (c::r)) {u v w:Rat} {y:zh} (hy:y∈c::r) (ev:y.1=v) (huv:u<v) (hvw:v<w) (hc:c.1<=u) (hw:w<=(lastC (c::r)).1)
 (n1:∀x∈c::r,¬(u<x.1/\x.1<v)) (n2:∀x∈c::r,¬(v<x.1/\x.1<w)) (hl:zlH (zo (c::r) u) (zo (c::r) w) (zo (c::r) v) (v - u) (w - u)):False:=by
 obtain ⟨j,hj,ej⟩:=jR hy;have gy:(c::r)[j]? =some y:=by rw [jb hj,ej]
 have hj1:j≠0:=λz=>by
  subst z;cases gy;rw [<-ev] at huv;exact qh.mpr hc huv
 obtain ⟨i,rfl⟩:∃i,j=i+1:=⟨j - 1,by omega⟩;have hR:=h.t.rise;unfold yU at hR;rw [jN] at hR
 have hj2:i+2<(c::r).length:=by
  refine Nat.lt_of_not_le λhle=>?_
  have e1:lastC (c::r)=y:=by
   unfold lastC;rw [wu,show (c::r).length - 1=i+1 by omega,gy];rfl
  rw [e1,ev] at hw;exact qh.mpr hw hvw
 have gx:(c::r)[i]? =some (c::r)[i]:=jb (by omega);have gz:(c::r)[i+2]? =some (c::r)[i+2]:=jb hj2;have xy:=hR i (i+1) (by omega) hj (by omega);have yz:=hR (i+1) (i+2) hj hj2 (by omega);rw [ej] at xy yz;generalize (c::r)[i]=x at*;generalize (c::r)[i+2]=z at*;have mx:=jc gx;have mz:=jc gz;rw [ev] at xy yz;have hxu:x.1<=u:=qh.mp λhlt=>n1 x mx ⟨hlt,xy⟩;have hwz:w<=z.1:=qh.mp λhlt=>n2 z mz ⟨yz,hlt⟩;have px:=yC h.t mx;have py:=yC h.t hy;have pz:=yC h.t mz;rw [ev] at py;have hcx:=zcT h.t x mx
 have no1:∀s∈r,¬(x.1<s.1/\s.1<v):=λs hs=>by
  have:=zgC h.t.rise gx gy (jf c hs);rw [ev] at this;exact this
 have no2:∀s∈r,¬(v<s.1/\s.1<z.1):=λs hs=>by
  have:=zgC h.t.rise gy gz (jf c hs);rw [ev] at this;exact this
 refine h.t.thin i x y z gx gy gz λk a b d ha hb hd=>?_;have lk:k<m:=by rw [<-h.t.len x mx];exact (je.mp ha).1
 have g:∀e,∃q,(zo (c::r) e)[k]? =some q:=λe=>⟨_,jb (by rw [Xj h.t.len];exact lk)⟩;obtain ⟨pu,hpu⟩:=g u;obtain ⟨pw,hpw⟩:=g w;have l1:=Yy hxu (jC huv) xy h.t hcx no1 k a b pu (by rw [px];exact ha) (by rw [py];exact hb) hpu;have l2:=Yy (jC hvw) hwz yz h.t (qG hc (jC huv)) no2 k b d pw (by rw [py];exact hb) (by rw [pz];exact hd) hpw;have l3:=hl k pu pw b hpu hpw (by rw [py];exact hb);rw [ev];have nuv:=ZB huv;have nvw:=ZB hvw;have nuw:w - u≠0:=ZB (xX huv hvw);have e1:((b - a)*(v - u) - (b - pu)*(v - x.1))*1=0:=by grind
 have e2:(pw - b)*(v - u)=(b - pu)*(w - v):=by grind
 have e3:((d - b)*(w - v) - (pw - b)*(z.1 - v))=0:=by grind
 have e4:((d - b)*(v - u) - (b - pu)*(z.1 - v))*(w - v)=0:=by grind
 have e5:=yl e4 nvw;have e6:((b - a)*(z.1 - x.1) - (d - a)*(v - x.1))*(v - u)=0:=by grind
 have:=yl e6 nuv
 grind
def Xu (P:List zh) (k:Nat) (Q:List zh):List Rat:=(yr Q).filterMap (xQ P k)
def wpF (P:List zh):Nat->List (List zh)->List Rat->List Rat
 |_,[],M=>M
 |k,Q::Qs,M=>wpF P (k+1) Qs (yY M (Xu P k Q))
theorem zjV (P Q:List zh):∀(Qs:List (List zh)) (k:Nat) (M:List Rat),wpF P k (Qs++[Q]) M=yY (wpF P k Qs M) (Xu P (k+Qs.length) Q)
 |[],k,M=>by rw [wJ,wpF,wpF,wpF];rfl
 |Q'::Qs,k,M=>by rw [qE,wpF,wpF,zjV P Q Qs (k+1),jz];congr 2;omega
theorem zbv {P:List zh} {e:Rat}:∀{Qs:List (List zh)} {k:Nat} {M:List Rat},e∈wpF P k Qs M↔e∈M\/∃(j:Nat) (Q:List zh),Qs[j]? =some Q/\e∈Xu P (k+j) Q
 |[],k,M=>by
  rw [wpF];exact ⟨.inl,λh=>h.elim id λ⟨j,Q,h,_⟩=>by simp at h⟩
 |Q::Qs,k,M=>by
  rw [wpF,zbv,Xz]
  constructor
  ·rintro ((h|h)|⟨j,Q',h1,h2⟩)
   ·exact .inl h
   ·exact .inr ⟨0,Q,rfl,h⟩
   ·exact .inr ⟨j+1,Q',by simpa using h1,by rw [show k+(j+1)=k+1+j by omega];exact h2⟩
  ·rintro (h|⟨j,Q',h1,h2⟩)
   ·exact .inl (.inl h)
   ·cases j with
    |zero=>cases h1;exact .inl (.inr h2)
    |succ j=>exact .inr ⟨j,Q',by simpa using h1,by rw [show k+1+j=k+(j+1) by omega];exact h2⟩
theorem zkc {P:List zh}:∀{Qs:List (List zh)} {k:Nat} {M:List Rat},UZ M->(∀(j:Nat) (Q:List zh),Qs[j]? =some Q->UZ (Xu P (k+j) Q))->UZ (wpF P k Qs M)
 |[],_,_,h,_=>by rw [wpF];exact h
 |Q::Qs,k,M,h,g=>by
  rw [wpF];exact zkc (Uc h (g 0 Q rfl)) λj Q' hj=>by rw [show k+1+j=k+(j+1) by omega];exact g (j+1) Q' (by simpa using hj)
structure Nest (P:List zh) (Qs:List (List zh)):Prop where
 pm:PathM Qs.length P
 p0:∃r,P=(0,List.replicate Qs.length 0)::r
 q:∀(k:Nat) (Q:List zh),Qs[k]? =some Q->∃(m:Nat) (r:List zh),Q=((0:Rat),List.replicate m 0)::r/\PathM m Q/\(lastC P).2[k]? =some (lastC Q).1
section
variable {P:List zh} {Qs:List (List zh)}
theorem Nest.wid (h:Nest P Qs):∀Q∈Qs,Wid Q:=λQ hQ=>by
 obtain ⟨k,hk⟩:=jw.mp hQ;obtain ⟨m,r,rfl,pm,_⟩:=h.q k Q hk;exact ⟨m,_,r,rfl,pm.t.len⟩
theorem Nest.plen (h:Nest P Qs) (e:Rat):(zo P e).length=Qs.length:=by
 obtain ⟨r,rfl⟩:=h.p0;exact Xj h.pm.t.len
theorem Nest.get (h:Nest P Qs) (e:Rat) {k:Nat} {Q:List zh} (hk:Qs[k]? =some Q):∃p,(zo P e)[k]? =some p:=
 ⟨_,jb (by rw [h.plen];exact (je.mp hk).1)⟩
theorem Nest.mono (h:Nest P Qs) {u v:Rat} (h0:0<=u) (huv:u<=v):LeV (zo P u) (zo P v):=by
 obtain ⟨r,rfl⟩:=h.p0;exact WU huv h.pm h0
theorem Nest.range (h:Nest P Qs) {e p:Rat} {k:Nat} {Q:List zh} (h0:0<=e) (hl:e<=(lastC P).1) (hk:Qs[k]? =some Q) (hp:(zo P e)[k]? =some p):0<=p/\p<=(lastC Q).1:=by
 obtain ⟨m,rq,eQ,pq,hq⟩:=h.q k Q hk;have m1:=h.mono jP h0;have m2:=h.mono h0 hl;obtain ⟨r,eP⟩:=h.p0;subst eP;have e0:zo ((0,List.replicate Qs.length 0)::r) 0=List.replicate Qs.length 0:=Yz h.pm.t;rw [e0] at m1;rw [zdG h.pm.t] at m2;refine ⟨m1 k 0 p ?_ hp,m2 k p _ hp hq⟩;rw [jU,jK (je.mp hk).1]
theorem Nest.reach (h:Nest P Qs) {k:Nat} {Q:List zh} {L e:Rat} (hk:Qs[k]? =some Q) (hL:0<=L) (hr:xQ P k L=some e):
 (0<=e/\e<(lastC P).1)/\(zo P e)[k]? =some L/\∀e' q,e<e'->(zo P e')[k]? =some q->L<q:=by
 have hkn:k<Qs.length:=(je.mp hk).1;obtain ⟨r,eP⟩:=h.p0;have pm:=h.pm;have mon:=λ(u v:Rat) (a:0<=u) (b:u<=v)=>h.mono a b;have plen:=h.plen;rw [eP] at hr pm mon plen⊢
 obtain ⟨i,a,b,x,y,g1,g2,g3,g4,hxL,hLy,ee,hae,heb,et,ep⟩:=UU hkn pm (by
  rw [jm,jU,jK hkn];exact hL) hr
 have ma:=jc g1;have mb:=jc g2;have ha0:(0:Rat)<=a.1:=zcT pm.t a ma;have hbl:=(zaL pm.t).2 b mb;have hxy:x<y:=by grind
 have eL:ZE ((L - x) / (y - x)) x y=L:=by
  have l:=xS (x:=x) (y:=y) (E:=L) hxy;have:=yl (a:=ZE ((L - x) / (y - x)) x y - L) (b:=y - x) (by grind) (ZB hxy)
  grind
 have pe:(zo ((0,List.replicate Qs.length 0)::r) e)[k]? =some L:=by
  rw [ep,jt,g3,g4];show some (ZE _ x y)=_;rw [eL]
 refine ⟨⟨qG ha0 hae,by grind⟩,pe,λe' q he' hq=>?_⟩;have hab:a.1<b.1:=by grind
 have no:∀s∈r,¬(a.1<s.1/\s.1<b.1):=λs hs=>zgC pm.t.rise g1 g2 (jf _ hs)
 have key:∀e2 q2,e<e2->e2<=b.1->(zo ((0,List.replicate Qs.length 0)::r) e2)[k]? =some q2->L<q2:=by
  intro e2 q2 h1 h2 h3;have l1:=Yy (jC (by grind:a.1<e2)) h2 hab pm.t ha0 no k x y q2 (by rw [yC pm.t ma];exact g3) (by rw [yC pm.t mb];exact g4) h3;have l2:=Yy hae (jC heb) hab pm.t ha0 no k x y L (by rw [yC pm.t ma];exact g3) (by rw [yC pm.t mb];exact g4) pe;refine we.mp λhle=>?_;have p1:0<(y - x)*(e2 - e):=JA (by grind) (by grind);have p2:0<=(L - q2)*(b.1 - a.1):=jW (by grind) (by grind)
  grind
 by_cases hb:e'<=b.1
 ·exact key e' q he' hb hq
 ·have h1:=key b.1 y heb jP (by rw [yC pm.t mb];exact g4);have h2:=mon b.1 e' (by grind) (by grind) k y q (by rw [yC pm.t mb];exact g4) hq
  grind
theorem Nest.reach_none (h:Nest P Qs) {k:Nat} {Q:List zh} {L:Rat} (hk:Qs[k]? =some Q) (hL:0<=L) (hr:xQ P k L=none):(lastC Q).1<=L:=by
 have hkn:k<Qs.length:=(je.mp hk).1;obtain ⟨m,rq,eQ,pq,hq⟩:=h.q k Q hk;obtain ⟨r,eP⟩:=h.p0;have pm:=h.pm;rw [eP] at hr pm hq;have:=zdr hkn pm (by rw [jm,jU,jK hkn];exact hL) hr;rw [jm,hq] at this;exact this
theorem Nest.qpos (h:Nest P Qs) {k:Nat} {Q:List zh} (hk:Qs[k]? =some Q):∀c∈Q,0<=c.1/\c.1<=(lastC Q).1:=λc hc=>by
 obtain ⟨m,rq,eQ,pq,hq⟩:=h.q k Q hk;subst eQ;exact ⟨zcT pq.t c hc,(zaL pq.t).2 c hc⟩
def wpV (P:List zh) (Qs:List (List zh)):List Rat:=wpF P 0 Qs (yr P)
def yV (P:List zh) (Qs:List (List zh)):List zh:=(wpV P Qs).map λe=>(e,xF Qs (zo P e))
theorem Nest.rise (h:Nest P Qs):UZ (wpV P Qs):=by
 refine zkc (WT h.pm.t.rise) λk Q hk=>?_;rw [JS];obtain ⟨m,rq,eQ,pq,hq⟩:=h.q k Q hk;have hr:=WT pq.t.rise;unfold UZ Xu;rw [List.pairwise_filterMap];unfold UZ at hr;refine hr.imp_of_mem λ{L L'} hL hL' hlt e he e' he'=>?_;obtain ⟨c,hc,rfl⟩:=jk.mp hL;obtain ⟨c',hc',rfl⟩:=jk.mp hL';have r1:=h.reach hk (h.qpos hk c hc).1 he;have r2:=h.reach hk (h.qpos hk c' hc').1 he';refine we.mp λhle=>?_;have:=h.mono r2.1.1 hle k _ _ r2.2.1 r1.2.1
 grind
theorem Nest.mem (h:Nest P Qs) {e:Rat}:e∈wpV P Qs↔(∃c∈P,c.1=e)\/∃(k:Nat) (Q:List zh),Qs[k]? =some Q/\∃c∈Q,xQ P k c.1=some e:=by
 unfold wpV;rw [zbv]
 constructor
 ·rintro (h1|⟨j,Q,h1,h2⟩)
  ·obtain ⟨c,hc,rfl⟩:=jk.mp h1;exact .inl ⟨c,hc,rfl⟩
  ·rw [JS] at h2;unfold Xu at h2;obtain ⟨L,hL,hr⟩:=JV.mp h2;obtain ⟨c,hc,rfl⟩:=jk.mp hL;exact .inr ⟨j,Q,h1,c,hc,hr⟩
 ·rintro (⟨c,hc,rfl⟩|⟨k,Q,h1,c,hc,hr⟩)
  ·exact .inl (jk.mpr ⟨c,hc,rfl⟩)
  ·refine .inr ⟨k,Q,h1,?_⟩;rw [JS];exact JV.mpr ⟨c.1,jk.mpr ⟨c,hc,rfl⟩,hr⟩
theorem Nest.in_range (h:Nest P Qs) {e:Rat} (he:e∈wpV P Qs):0<=e/\e<=(lastC P).1:=by
 rcases h.mem.mp he with ⟨c,hc,rfl⟩|⟨k,Q,hk,c,hc,hr⟩
 ·have pm:=h.pm;obtain ⟨r,eP⟩:=h.p0;subst eP;exact ⟨zcT pm.t c hc,(zaL pm.t).2 c hc⟩
 ·have:=(h.reach hk (h.qpos hk c hc).1 hr).1;exact ⟨this.1,jC this.2⟩
theorem Nest.no_level (h:Nest P Qs) {j k:Nat} {u v p q:Rat} {Q:List zh} (hu:(wpV P Qs)[j]? =some u) (hv:(wpV P Qs)[j+1]? =some v) (hk:Qs[k]? =some Q) (hp:(zo P u)[k]? =some p) (hq:(zo P v)[k]? =some q):
 ∀x∈Q,¬(p<x.1/\x.1<q):=by
 rintro x hx ⟨h1,h2⟩
 have ru:=h.in_range (jc hu);have rv:=h.in_range (jc hv);have hx0:=(h.qpos hk x hx).1
 cases hr:xQ P k x.1 with
 |none=>
  have:=h.reach_none hk hx0 hr;have:=(h.range rv.1 rv.2 hk hq).2
  grind
 |some e=>
  have re:=h.reach hk hx0 hr;have me:e∈wpV P Qs:=h.mem.mpr (.inr ⟨k,Q,hk,x,hx,hr⟩);refine zdK h.rise hu hv me ⟨we.mp λhle=>?_,we.mp λhle=>?_⟩
  ·have:=h.mono re.1.1 hle k _ _ re.2.1 hp
   grind
  ·have:=h.mono rv.1 hle k _ _ hq re.2.1
   grind
theorem zdq {M:List Rat} (hM:UZ M) {j:Nat} {u v:Rat} (hu:M[j]? =some u) (hv:M[j+1]? =some v):u<v:=by
 obtain ⟨lu,eu⟩:=je.mp hu;obtain ⟨lv,ev⟩:=je.mp hv;have:=jN.mp hM j (j+1) lu lv (by omega);rw [eu,ev] at this;exact this
theorem Nest.pgap (h:Nest P Qs) {j:Nat} {u v:Rat} (hu:(wpV P Qs)[j]? =some u) (hv:(wpV P Qs)[j+1]? =some v):∀x∈P,¬(u<x.1/\x.1<v):=λx hx=>
 zdK h.rise hu hv (h.mem.mpr (.inl ⟨x,hx,rfl⟩))
theorem Nest.line (h:Nest P Qs) {j:Nat} {u v E:Rat} (hu:(wpV P Qs)[j]? =some u) (hv:(wpV P Qs)[j+1]? =some v) (huE:u<=E) (hEv:E<=v):
 zlH (xF Qs (zo P u)) (xF Qs (zo P v)) (xF Qs (zo P E)) (E - u) (v - u):=by
 have huv:=zdq h.rise hu hv;have ru:=h.in_range (jc hu);have rv:=h.in_range (jc hv);rw [zgH (h.plen u) (h.plen v) (h.plen E) h.wid];intro k Q p q r hk hp hq hr
 have lP:(r - p)*(v - u)=(q - p)*(E - u):=by
  have gap:=h.pgap hu hv;obtain ⟨rP,eP⟩:=h.p0;have pm:=h.pm;rw [eP] at hp hq hr pm gap;exact Yy huE hEv huv pm.t ru.1 (λx hx=>gap x (jf _ hx)) k p q r hp hq hr
 have hpr:=h.mono ru.1 huE k p r hp hr;have hrq:=h.mono (qG ru.1 huE) hEv k r q hr hq;have lev:=h.no_level hu hv hk hp hq;have rp:=h.range ru.1 ru.2 hk hp;obtain ⟨m,rq,eQ,pq,_⟩:=h.q k Q hk;subst eQ;intro i x y z hx hy hz
 by_cases hpq:p=q
 ·have:r=p:=by grind
  subst this;subst hpq;rw [hx] at hy hz;cases hy;cases hz
  grind
 ·have hlt:p<q:=by grind
  have lQ:=Yy hpr hrq hlt pq.t rp.1 (λs hs=>lev s (jf _ hs)) i x y z hx hy hz;have k0:((z - x)*(v - u) - (y - x)*(E - u))*(q - p)=0:=by grind
  have:=yl k0 (ZB hlt)
  grind
theorem Nest.qsum (h:Nest P Qs) {e:Rat} (h0:0<=e) (hl:e<=(lastC P).1) {k:Nat} {Q:List zh} {p:Rat} (hk:Qs[k]? =some Q) (hp:(zo P e)[k]? =some p):yb (zo Q p)=p:=by
 have rp:=h.range h0 hl hk hp;obtain ⟨m,rq,eQ,pq,_⟩:=h.q k Q hk;subst eQ;exact zbt pq rp.1 rp.2
theorem Nest.sum (h:Nest P Qs) {e:Rat} (h0:0<=e) (hl:e<=(lastC P).1):yb (xF Qs (zo P e))=e:=by
 rw [zj1 (h.plen e) λk Q p hk hp=>h.qsum h0 hl hk hp];have pm:=h.pm;obtain ⟨r,eP⟩:=h.p0;rw [eP] at pm hl⊢;exact zbt pm h0 hl
theorem Nest.rises (h:Nest P Qs) {u v:Rat} (h0:0<=u) (huv:u<=v) (hl:v<=(lastC P).1):LeV (xF Qs (zo P u)) (xF Qs (zo P v)):=by
 refine znR (h.plen u) (h.plen v) h.wid λk Q p q hk hp hq=>?_;have hpq:=h.mono h0 huv k p q hp hq;have rp:=h.range h0 (qG huv hl) hk hp;obtain ⟨m,rq,eQ,pq,_⟩:=h.q k Q hk;subst eQ;exact WU hpq pq rp.1
theorem Nest.thin (h:Nest P Qs) {j:Nat} {u v w:Rat} (hu:(wpV P Qs)[j]? =some u) (hv:(wpV P Qs)[j+1]? =some v) (hw:(wpV P Qs)[j+2]? =some w)
 (hl:zlH (xF Qs (zo P u)) (xF Qs (zo P w)) (xF Qs (zo P v)) (v - u) (w - u)):False:=by
 have huv:=zdq h.rise hu hv;have hvw:=zdq h.rise hv hw;have ru:=h.in_range (jc hu);have rv:=h.in_range (jc hv);have rw':=h.in_range (jc hw);rw [zgH (h.plen u) (h.plen w) (h.plen v) h.wid] at hl
 have each:∀(k:Nat) (Q:List zh) (p q r:Rat),Qs[k]? =some Q->(zo P u)[k]? =some p->(zo P w)[k]? =some q->(zo P v)[k]? =some r->(r - p)*(w - u)=(q - p)*(v - u):=by
  intro k Q p q r hk hp hq hr;have wd:=h.wid Q (jc hk);have:=zkq (wd.len _ _) (wd.len _ _) (hl k Q p q r hk hp hq hr);rw [h.qsum ru.1 ru.2 hk hp,h.qsum rw'.1 rw'.2 hk hq,h.qsum rv.1 rv.2 hk hr] at this;exact this
 rcases h.mem.mp (jc hv) with ⟨y,hy,ey⟩|⟨k,Q,hk,y,hy,hr⟩
 ·have g1:=h.pgap hu hv;have g2:=h.pgap hv hw;have pl:=λe=>h.plen e
  have lin:zlH (zo P u) (zo P w) (zo P v) (v - u) (w - u):=λk p q r hp hq hr=>by
   have lk:k<Qs.length:=by rw [<-h.plen u];exact (je.mp hp).1
   exact each k _ p q r (jb lk) hp hq hr
  obtain ⟨r,eP⟩:=h.p0;have pm:=h.pm;rw [eP] at g1 g2 lin pm hy rw';exact bend pm hy ey huv hvw ru.1 rw'.2 g1 g2 lin
 ·have re:=h.reach hk (h.qpos hk y hy).1 hr;obtain ⟨p,hp⟩:=h.get u hk;obtain ⟨q,hq⟩:=h.get w hk;have e1:=each k Q p q y.1 hk hp hq re.2.1;have hq1:=re.2.2 w q hvw hq;have hp1:=h.mono ru.1 (jC huv) k p y.1 hp re.2.1
  have hp2:p<y.1:=by
   refine we.mp λhle=>?_;have e:p=y.1:=wK hp1 hle;have p1:0<(q - p)*(v - u):=JA (by grind) (by grind)
   grind
  have lv1:=h.no_level hu hv hk hp re.2.1;have lv2:=h.no_level hv hw hk re.2.1 hq;have lin:=hl k Q p q y.1 hk hp hq re.2.1;have rp:=h.range ru.1 ru.2 hk hp;have rq:=h.range rw'.1 rw'.2 hk hq;obtain ⟨m,r,eQ,pq,_⟩:=h.q k Q hk;subst eQ;refine bend pq hy rfl hp2 hq1 rp.1 rq.2 lv1 lv2 λi a b c ha hb hc=>?_;have l0:=lin i a b c ha hb hc;have k0:((c - a)*(q - p) - (b - a)*(y.1 - p))*(w - u)=0:=by grind
  have:=yl k0 (ZB (xX huv hvw))
  grind
end
end S
namespace S
open PySem PySem.Spec PyProof.Rows PyProof L2
section
variable {X:Cx}
theorem zdP (l:Addr) (items:Array Value) (n:Nat) (b:Addr) (o2:Obj) (items2:Array Value) (n2:Nat) (hc2:o2.cls= .type "tuple") (hd2:o2.data= .seq items2 n2) (hs0:¬(!items.isEmpty && Builtin.List.listTooLong (items.size+items2.size))=true) (hs1:items.size<=sizeLine) (hs2:items.size+items2.size<=sizeLine+1):
 Meets (Builtin.«list.extend» ⟨[.ref l, .ref b],[]⟩) (λ_ R s=>s.heap.get? l=some {cls:= .type "list",dict:=none,data:= .seq items n,slots:=#[]}/\s.heap.get? b=some o2/\R (.ok (.ret Value.none)) {s with heap:=s.heap.update l (Obj.mapSeq λx=>x++items2),toks:=s.toks}):=
 .of_wp λprog w A R s h=>by
  obtain ⟨cls,dict,data,slots⟩:=o2;dsimp only at hc2 hd2;subst hc2;subst hd2;have g1:=AutoSeq1.idx_int;have g2:=AutoSeq1.sub_tuple_tuple;have g3:=AutoSeq1.sub_list_list;have g4:=AutoSeq1.sub_tuple_list;have g5:=AutoSeq1.sub_list_tuple;obtain ⟨hp,g,d,tk,os⟩:=s;obtain ⟨hA,hT,hR⟩:=h;have fits:(items++items2).size<=sizeLine+1:=by simpa using hs2
  wp_walk using (wpAny_updateSeq hA rfl (hz:=hs1) (_hz':=fits)),AutoSeq1.wpAny_loadPart' hA,AutoSeq1.wpAny_loadPart' hT
  exact ⟨_,rfl,hR⟩
def zkh (K:PySem.W.Frag):V->List V->Hp->VK->Prop:=λx vs H Q=>∃l b xs zs,x= .ref l/\vs=[.ref b]/\H l=some (.lst xs)/\H b=some (.tup zs)/\xs.length+zs.length<=sizeLine/\Q .non (upd H l (.lst (xs++zs)))
theorem zlz:MtM X "list.extend" (zkh X.K):=by
 intro pins s σ H x vs v us Q I rx rv h;obtain ⟨l,b,xs,zs,rfl,rfl,hH,hB,hz,q⟩:=h;cases rx;have ⟨u,eu,ru⟩:=rv.one;subst eu;cases ru;have ⟨z,its,n,r,hl,e⟩:=I.lstM hH;have ⟨its2,r2,ht,hz2⟩:=I.tuple (SqT.of hB);have hl2:=r2.length;have ⟨o2,e2,hc2,n2,hd2⟩:=ht
 have room:its.toArray.size+its2.toArray.size<=sizeLine:=by
  rw [jH,jH,<-hl,<-hl2];exact hz
 have ok:¬(!its.toArray.isEmpty && Builtin.List.listTooLong (its.toArray.size+its2.toArray.size))=true:=by
  rw [zgB room,Bool.and_false];decide
 refine call_meets F.slot_list_extend ⟨_,e,rfl⟩ F.entry_list_extend (F.args_list_extend_2 _ _) (zdP l its.toArray n b o2 its2.toArray n2 hc2 hd2 ok (by rw [jH,<-hl];exact z) (by omega)) ⟨e,e2, .non,_,I.lset (its':=its++its2) hH e (by simp) (r.append r2) ?_,rfl,q⟩
 simpa using hz
end
section
variable {B G0 H:Hp} {cs:xq} {ds:Dat} {Q:VK} {v w:V} {xs zs:List PyData} {K:PySem.W.Frag} {L M:Addr}
theorem zlg {ys:List PyData} (S:Sta B G0 H ((L,xs)::cs) ds) (hy:Has ds (.tuple ys) w) (hz:xs.length+ys.length<=1000) (k:∀H',Sta B G0 H' ((L,xs++ys)::cs) ds->Q .non H'):zkh K (.ref L) [w] H Q:=by
 have ⟨p,us,e,hp,hl,S2,al⟩:=S.tupAll hy;have ⟨vs,hL,hl2,put⟩:=S2.put;subst e;refine ⟨L,p,vs,us,rfl,rfl,hL,hp,?_,k _ ((put (xs++ys) (vs++us) λG a b=>b.app (al G a)).weak (wT _) λq hq=> .mem (jG _ hq))⟩;rw [<-hl,<-hl2];exact jS hz (JB rfl)
end
end S
namespace S
open PySem PySem.Spec PyProof.Rows L2
theorem zgU {E:Rat}:∀{M:List Rat} {z:Rat},M[0]? =some z->z<=E->∃(i:Nat) (q:Rat),M[i]? =some q/\q<=E/\(i+1=M.length\/∃r,M[i+1]? =some r/\E<r)
 |[],z,h,_=>by simp at h
 |[a],z,h,hz=>by
  cases h;exact ⟨0,a,rfl,hz, .inl rfl⟩
 |a::b::M,z,h,hz=>by
  cases h
  by_cases hb:b<=E
  ·obtain ⟨i,q,h1,h2,h3⟩:=zgU (M:=b::M) (z:=b) rfl hb;refine ⟨i+1,q,by simpa using h1,h2,?_⟩
   rcases h3 with h3|⟨r,h3,h4⟩
   ·left;simp only [jz] at h3⊢;omega
   ·right;exact ⟨r,by simpa using h3,h4⟩
  ·exact ⟨0,a,rfl,hz, .inr ⟨b,rfl,we.mp hb⟩⟩
theorem zla {M:List Rat} (h:UZ M) {z:Rat} (hz:z∈M) (hle:∀e∈M,z<=e):M[0]? =some z:=by
 cases M with
 |nil=>simp at hz
 |cons a M=>
  have h1:=hle a (jd ..)
  rcases jn.mp hz with e|e
  ·rw [e];rfl
  ·have:=(jo.mp h).1 z e
   grind
theorem zhG {M:List Rat} (h:UZ M) {z:Rat} (hz:z∈M) (hle:∀e∈M,e<=z) {i:Nat} {q:Rat} (hq:M[i]? =some q) (hi:i+1=M.length):q=z:=by
 obtain ⟨j,hj,ej⟩:=jR hz;obtain ⟨li,ei⟩:=je.mp hq;have h1:=hle q (jc hq)
 by_cases c:j=i
 ·subst c;rw [<-ei,<-ej]
 ·have:=jN.mp h j i hj li (by omega);rw [ej,ei] at this
  grind
theorem UX {c d:zh} {E:Rat} {w:List Rat} (hlt:c.1<d.1) (l1:c.2.length=d.2.length) (l2:c.2.length=w.length) (h:zlH c.2 d.2 w (E - c.1) (d.1 - c.1)):WH c d E=w:=by
 apply qg
 intro i
 by_cases hi:i<c.2.length
 ·have e1:=jb hi;have e2:=jb (l:=d.2) (i:=i) (by omega);have e3:=jb (l:=w) (i:=i) (by omega);have:=h i _ _ _ e1 e2 e3;unfold WH;rw [jt,e1,e2,e3];show some (ZE _ _ _)=_;have l:=xS (x:=c.2[i]) (y:=d.2[i]) (E:=E) hlt;have k:=yl (a:=ZE ((E - c.1) / (d.1 - c.1)) c.2[i] d.2[i] - w[i]) (b:=d.1 - c.1) (by grind) (ZB hlt);have:ZE ((E - c.1) / (d.1 - c.1)) c.2[i] d.2[i]=w[i]:=by grind
  rw [this]
 ·unfold WH;rw [jE (by rw [jA];omega),jE (by omega)]
def zn3:List zh->Nat
 |[]=>0
 |c::_=>c.2.length
def nQ:List (List zh)->Nat
 |[]=>0
 |Q::Qs=>zn3 Q+nQ Qs
theorem zdY:∀{Qs:List (List zh)},(∀Q∈Qs,∃(m:Nat) (r:List zh),Q=((0:Rat),List.replicate m 0)::r/\PathM m Q)->xF Qs (List.replicate Qs.length 0)=List.replicate (nQ Qs) 0
 |[],_=>rfl
 |Q::Qs,h=>by
  obtain ⟨m,r,e,pm⟩:=h Q (jd ..);rw [jz,qv,Zj,zdY λQ' hQ=>h Q' (jf _ hQ),nQ,<-List.replicate_append_replicate]
  congr 1
  subst e;have:=Yz pm.t;dsimp only at this;rw [this,zn3,jB]
structure PathR0 (n:Nat) (a:List zh):Prop where
 ne:a≠[]
 sz:∀c∈a,SzC n c
 len:∀c∈a,c.2.length<=1000
 few:a.length<=900
 rise:yU a
section
variable {P:List zh} {Qs:List (List zh)}
theorem Nest.zeroM (h:Nest P Qs):(wpV P Qs)[0]? =some 0:=by
 refine zla h.rise (h.mem.mpr (.inl ?_)) λe he=>(h.in_range he).1;obtain ⟨r,eP⟩:=h.p0;rw [eP];exact ⟨_,jd ..,rfl⟩
theorem Nest.last_mem (h:Nest P Qs):(lastC P).1∈wpV P Qs:=by
 refine h.mem.mpr (.inl ⟨lastC P,?_,rfl⟩);have pm:=h.pm;obtain ⟨r,eP⟩:=h.p0;rw [eP] at pm⊢;exact (zaL pm.t).1
theorem Nest.flen (h:Nest P Qs) (e:Rat):(xF Qs (zo P e)).length=nQ Qs:=by
 rw [zku (h.plen e) (pv:=List.replicate Qs.length 0) jB h.wid,zdY λQ hQ=>?_,jB];obtain ⟨k,hk⟩:=jw.mp hQ;obtain ⟨m,r,e,pm,_⟩:=h.q k Q hk;exact ⟨m,r,e,pm⟩
theorem Nest.flat0 (h:Nest P Qs):xF Qs (zo P 0)=List.replicate (nQ Qs) 0:=by
 have e0:zo P 0=List.replicate Qs.length 0:=by
  have pm:=h.pm;obtain ⟨r,eP⟩:=h.p0;rw [eP] at pm⊢;exact Yz pm.t
 rw [e0,zdY λQ hQ=>?_];obtain ⟨k,hk⟩:=jw.mp hQ;obtain ⟨m,r,e,pm,_⟩:=h.q k Q hk;exact ⟨m,r,e,pm⟩
theorem Nest.F_at {i:Nat} {c:zh} (hc:(yV P Qs)[i]? =some c):(wpV P Qs)[i]? =some c.1/\c.2=xF Qs (zo P c.1):=by
 unfold yV at hc;obtain ⟨e,he,rfl⟩:=zZ hc;exact ⟨he,rfl⟩
theorem Nest.F_of {i:Nat} {e:Rat} (he:(wpV P Qs)[i]? =some e):(yV P Qs)[i]? =some (e,xF Qs (zo P e)):=by
 unfold yV;rw [jh,he];rfl
theorem Nest.riseF (h:Nest P Qs):yU (yV P Qs):=by
 unfold yU yV;rw [qi];exact h.rise
theorem Nest.at (h:Nest P Qs) {E:Rat} (h0:0<=E) (hl:E<=(lastC P).1):zo (yV P Qs) E=xF Qs (zo P E):=by
 obtain ⟨i,q,hq,hqE,nx⟩:=zgU h.zeroM h0;have hlen:(yV P Qs).length=(wpV P Qs).length:=by unfold yV;rw [ja]
 have key:=Yd (E:=E) h.riseF (Nest.F_of hq) hqE (by
  rcases nx with nx|⟨r,hr,hE⟩
  ·left;rw [hlen];exact nx
  ·right;exact ⟨_,Nest.F_of hr,hE⟩)
 rw [key]
 rcases nx with nx|⟨r,hr,hE⟩
 ·rw [jE (by rw [hlen];omega)];have e1:=zhG h.rise h.last_mem (λe he=>(h.in_range he).2) hq nx;have:q=E:=by grind
  rw [this]
 ·rw [Nest.F_of hr];exact UX (zdq h.rise hq hr) (by rw [h.flen,h.flen]) (by rw [h.flen,h.flen]) (h.line hq hr hqE (jC hE))
theorem Nest.getLast (h:Nest P Qs):(yV P Qs).getLast? =some ((lastC P).1,xF Qs (zo P (lastC P).1)):=by
 have ne:0<(wpV P Qs).length:=Ja h.last_mem;have hlen:(yV P Qs).length=(wpV P Qs).length:=by unfold yV;rw [ja]
 rw [wu,hlen];have hq:=jb (l:=wpV P Qs) (i:=(wpV P Qs).length - 1) (by omega);rw [Nest.F_of hq,zhG h.rise h.last_mem (λe he=>(h.in_range he).2) hq (by omega)]
theorem SzQ.mix {m n:Nat} {t x y:Rat} (ht:SzQ m t) (hx:SzQ n x) (hy:SzQ n y):SzQ (m+3*n+2) (ZE t x y):=by
 unfold ZE;exact (hx.add (ht.mul (hy.sub hx))).mono (by omega)
theorem SzQ.port {m n:Nat} {L x y:Rat} (hL:SzQ m L) (hx:SzQ n x) (hy:SzQ n y):SzQ (m+3*n+2) ((L - x) / (y - x)):=((hL.sub hx).div (hy.sub hx)).mono (by omega)
theorem zhS {m n:Nat} {e:Rat} (he:SzQ m e):∀{a:List zh},(∀c∈a,SzC n c)->∀x∈zo a e,SzQ (m+6*n+4) x
 |[],_,x,hx=>by simp [zo] at hx
 |[c],h,x,hx=>((h c (jd ..)).2 x hx).mono (by omega)
 |c::d::r,h,x,hx=>by
  rw [zo] at hx
  split at hx
  ·obtain ⟨i,hi⟩:=jw.mp hx;obtain ⟨p,q,hp,hq,rfl⟩:=Xf hi;have hc:=h c (jd ..);have hd:=h d (jf _ (jd ..));exact (SzQ.mix (SzQ.port he hc.1 hd.1) (hc.2 p (jc hp)) (hd.2 q (jc hq))).mono (by omega)
  ·exact zhS he (λc hc=>h c (jf _ hc)) x hx
end
theorem zfY {m:Nat} {a b p c:zh} (hbc:b.1<c.1) (lb:b.2.length=m) (lc:c.2.length=m) (h1:yh b p c) (h2:yh a b c):yh a b p:=λi A B P hA hB hP=>by
 have hi:i<m:=by rw [<-lb];exact (je.mp hB).1
 have hC:=jb (l:=c.2) (i:=i) (by omega);have e1:=h1 i B P _ hB hP hC;have e2:=h2 i A B _ hA hB hC;generalize c.2[i]=C at*;have e3:(B - A)*(c.1 - b.1)=(C - B)*(b.1 - a.1):=by grind
 have e4:((B - A)*(p.1 - a.1) - (P - A)*(b.1 - a.1))*(c.1 - b.1)=0:=by
  have:((B - A)*(p.1 - a.1) - (P - A)*(b.1 - a.1))*(c.1 - b.1)=((B - A)*(c.1 - b.1))*(p.1 - b.1) - ((P - B)*(c.1 - b.1))*(b.1 - a.1):=by grind
  rw [this,e3,e1];grind
 have:=yl e4 (ZB hbc)
 grind
def Thn (F:List zh):Prop:=∀(i:Nat) (x y z:zh),F[i]? =some x->F[i+1]? =some y->F[i+2]? =some z->¬yh x y z
section
variable {C F G D:List zh} {c x y:zh} {m:Nat}
end
end S
namespace S
open PySem
def Ris (xs:Array Nat):Prop:=xs.toList.Pairwise (·<·)
theorem Ris.lt {xs:Array Nat} (h:Ris xs) {i k a b:Nat} (hik:i<k) (ha:xs[i]? =some a) (hb:xs[k]? =some b):a<b:=by
 have ha':xs.toList[i]? =some a:=by simpa using ha
 have hb':xs.toList[k]? =some b:=by simpa using hb
 obtain ⟨la,ea⟩:=je.mp ha';obtain ⟨lb,eb⟩:=je.mp hb';have:=jN.mp h i k la lb hik;rw [ea,eb] at this;exact this
theorem zgX {xs:Array Nat} {j:Nat} (h:Ris xs):∀(fuel lo hi:Nat),hi - lo<=fuel->lo<=hi->hi<=xs.size->(∀k a,k<lo->xs[k]? =some a->a<j)->(∀k a,hi<=k->xs[k]? =some a->j<=a)->
 SetTable.below.go xs j fuel lo hi<=xs.size/\(∀k a,k<SetTable.below.go xs j fuel lo hi->xs[k]? =some a->a<j)/\(∀k a,SetTable.below.go xs j fuel lo hi<=k->xs[k]? =some a->j<=a)
 |0,lo,hi,hf,hl,hs,h1,h2=>by
  rw [SetTable.below.go];have e:lo=hi:=by omega
  subst e;exact ⟨hs,h1,h2⟩
 |fuel+1,lo,hi,hf,hl,hs,h1,h2=>by
  rw [SetTable.below.go]
  by_cases c:lo<hi
  ·rw [jK c];dsimp only;have hm:(lo+hi) / 2<xs.size:=by omega
   have em:xs[(lo+hi) / 2]? =some xs[(lo+hi) / 2]:=by simp [hm]
   have eg:xs.getD ((lo+hi) / 2) j=xs[(lo+hi) / 2]:=by simp [Array.getD,hm]
   rw [eg]
   by_cases c2:xs[(lo+hi) / 2]<j
   ·rw [jK c2];refine zgX h fuel _ hi (by omega) (by omega) hs (λk a hk ha=>?_) h2
    by_cases ek:k=(lo+hi) / 2
    ·subst ek;rw [em] at ha;cases ha;exact c2
    ·have:=h.lt (show k<(lo+hi) / 2 by omega) ha em;omega
   ·rw [jQ c2];refine zgX h fuel lo _ (by omega) (by omega) (by omega) h1 λk a hk ha=>?_
    by_cases ek:k=(lo+hi) / 2
    ·subst ek;rw [em] at ha;cases ha;omega
    ·have:=h.lt (show (lo+hi) / 2<k by omega) em ha;omega
  ·rw [jQ c];have e:lo=hi:=by omega
   subst e;exact ⟨hs,h1,h2⟩
theorem Uq {xs:Array Nat} (h:Ris xs) (j:Nat):SetTable.below xs j<=xs.size/\(∀k a,k<SetTable.below xs j->xs[k]? =some a->a<j)/\(∀k a,SetTable.below xs j<=k->xs[k]? =some a->j<=a):=
 zgX h _ 0 xs.size (by omega) (wg _) (jy _) (λk a hk=>absurd hk (Nat.not_lt_zero _)) λk a hk ha=>by
  have:k<xs.size:=by
   have:=Jc.mp ha;exact this.1
  omega
theorem zlO {xs:Array Nat} (h:Ris xs) {j:Nat} (hj:∀a∈xs.toList,a≠j):Ris (SetTable.insertAt xs (SetTable.below xs j) j):=by
 obtain ⟨b1,b2,b3⟩:=Uq h j;unfold Ris;rw [SetTable.toList_insertAt]
 have hlo:∀a∈xs.toList.take (SetTable.below xs j),a<j:=λa ha=>by
  obtain ⟨i,hi⟩:=jw.mp ha;rw [List.getElem?_take] at hi
  split at hi
  ·rename_i hlt;exact b2 i a hlt (by simpa using hi)
  ·cases hi
 have hhi:∀a∈xs.toList.drop (SetTable.below xs j),j<a:=λa ha=>by
  obtain ⟨i,hi⟩:=jw.mp ha;rw [wm] at hi;have:=b3 _ a (Nat.le_add_right _ i) (by simpa using hi);have ne:=hj a (List.mem_of_mem_drop ha);omega
 have h':=h;unfold Ris at h';rw [<-List.take_append_drop (SetTable.below xs j) xs.toList] at h';obtain ⟨p1,p2,p3⟩:=qJ.mp h';refine qJ.mpr ⟨p1,jo.mpr ⟨hhi,p2⟩,λa ha b hb=>?_⟩
 rcases jn.mp hb with rfl|hb
 ·exact hlo a ha
 ·exact p3 a ha b hb
theorem zmC {t:SetTable} (h:Ris t.place) {j:Nat} (hs:∀i,t.slot j≠ .live i):∀a∈t.place.toList,a≠j:=λa ha e=>by
 subst e;obtain ⟨i,hi⟩:=jw.mp ha;have hi':t.place[i]? =some a:=by simpa using hi
 obtain ⟨b1,b2,b3⟩:=Uq h a
 have e:SetTable.below t.place a=i:=by
  rcases Nat.lt_trichotomy (SetTable.below t.place a) i with c|c|c
  ·have hk:t.place[SetTable.below t.place a]? =some (t.place[SetTable.below t.place a]'(by have:=(Jc.mp hi').1;omega)):=by simp
   have h1:=h.lt c hk hi';have h2:=b3 _ _ (jy _) hk;omega
  ·exact c
  ·have:=b2 i a c hi';omega
 refine hs i ?_;unfold SetTable.slot;dsimp only;rw [e,hi']
 simp
theorem zbs {t:SetTable} {hashAt:Nat->Int} {h:Int}:∀{fuel:Nat} {p:SetTable.Probe} {j:Nat} {d:Option Nat},(∀x,p.dummy=some x->∀i,t.slot x≠ .live i)->SetTable.probe.go t hashAt h fuel p=some (.empty j d)->(∀i,t.slot j≠ .live i)/\∀x,d=some x->∀i,t.slot x≠ .live i
 |0,p,j,d,_,e=>by rw [SetTable.probe.go] at e;cases e
 |fuel+1,p,j,d,hd,e=>by
  rw [SetTable.probe.go] at e
  cases hs:t.slot p.j with
  |empty=>
   rw [hs] at e;cases e;exact ⟨λi z=>(by rw [hs] at z;cases z),hd⟩
  |dummy=>
   rw [hs] at e;refine zbs (fuel:=fuel) (λx hx=>?_) e
   have:x=p.j:=by
    unfold SetTable.advance at hx;dsimp only at hx
    split at hx<;>(cases hx;rfl)
   subst this;intro i z;rw [hs] at z;cases z
  |live i=>
   rw [hs] at e;dsimp only at e
   split at e
   ·cases e
   ·refine zbs (fuel:=fuel) (λx hx=>hd x ?_) e;unfold SetTable.advance at hx;dsimp only at hx
    split at hx<;>exact hx
theorem zn8 {t:SetTable} {h:Int} {j:Nat} {b:Bool} (e:t.freeSlot h=some (j,b)):∀i,t.slot j≠ .live i:=by
 unfold SetTable.freeSlot SetTable.probe at e
 split at e
 ·rename_i j' dm hp;have:=zbs (λx hx=>by unfold SetTable.probeStart at hx;cases hx) hp
  cases dm with
  |none=>cases e;exact this.1
  |some d=>cases e;exact this.2 d rfl
 ·cases e
def zjJ (b:Bool) (t:SetTable):Prop:=Ris t.place/\t.led=b
theorem zm7 (n:Nat):Ris (Array.range n):=by
 unfold Ris;rw [Array.toList_range];exact List.pairwise_lt_range
theorem XE {b:Bool} {t:SetTable} (h:t.led=b) (n:Nat):zjJ b (t.standIn n):=⟨zm7 n,h⟩
theorem zje {b:Bool} {t:SetTable} (hg:zjJ b t) (es:Array (Int×Value)) (h:Int) (x:Value):zjJ b (layNew t es h x).2.1:=by
 unfold layNew
 split
 ·rename_i slot wd hf;dsimp only;unfold SetTable.orStandIn
  split
  ·exact ⟨zlO hg.1 (zmC hg.1 (zn8 hf)),hg.2⟩
  ·exact XE hg.2 _
 ·exact XE hg.2 _
theorem zpV {mask:Nat} {owner:Array (Option Nat)}:(((List.range (mask+1)).filterMap λj=>(owner.getD j none).map (j,·)).map (·.1)).Pairwise (·<·):=by
 rw [qi,List.pairwise_filterMap];refine List.pairwise_lt_range.imp λ{i k} hik a ha b hb=>?_;obtain ⟨_,_,rfl⟩:=Option.map_eq_some_iff.mp ha;obtain ⟨_,_,rfl⟩:=Option.map_eq_some_iff.mp hb;exact hik
theorem zgq {b:Bool} {t:SetTable} (hg:zjJ b t) (es:Array (Int×Value)) (wanted:Nat):zjJ b (relayAll t es wanted).2.1:=by
 unfold relayAll
 split
 ·rename_i t' order hr;dsimp only
  split
  ·unfold SetTable.relaid SetTable.laid at hr;obtain ⟨owner,_,hr⟩:=Option.bind_eq_some_iff.mp hr;cases hr;refine ⟨?_,hg.2⟩;show (List.toArray _).toList.Pairwise _;exact zpV
  ·exact XE hg.2 _
 ·exact XE hg.2 _
def za2:Value->Int
 | .int n _=>n
 |_=>0
def zeZ (prog:Program) (w:World) (h:Heap) (a:Addr) (b:Bool) (ns:List Int):Prop:=
 ∃(o:Obj) (es:Array (Int×Value)) (ep:Nat) (t:SetTable),(h.get? a=some o/\o.ExactSet/\o.data= .set es ep t)/\ElemsOf (intKind prog w) es.toList/\(t.fits es.size=true/\zjJ b t)/\ns=es.toList.map (λe=>za2 e.2)/\ns.Nodup
section
variable {prog:Program} {w:World} {A:Around} {E:Value->Shared->Prop} {s:Shared}
theorem zqz {v:Value} {k:Int} (h:(intKind prog w).is k v=true):za2 v=k:=by
 obtain ⟨t,ht⟩:=Value.isInt_shape h;rw [ht];rfl
theorem zeZ.kept {h h':Heap} {a:Addr} {b:Bool} {ns:List Int} (T:zeZ prog w h a b ns) (k:∀o,h.get? a=some o->h'.get? a=some o):zeZ prog w h' a b ns:=by
 obtain ⟨o,es,ep,t,⟨gets,ex,data⟩,rest⟩:=T;exact ⟨o,es,ep,t,⟨k o gets,ex,data⟩,rest⟩
theorem zqE {h:Heap} {a:Addr} {o:Obj} {es es1:Array (Int×Value)} {ep:Nat} {t t1:SetTable} (gets:h.get? a=some o) (data:o.data= .set es ep t):(h.update a (Obj.putSet es1 t1)).get? a=some {o with data:= .set es1 (ep+1) t1}:=by
 have z:=wH (Obj.putSet es1 t1) gets (by rw [putSet_of es1 t1 data];rfl);rwa [putSet_of es1 t1 data] at z
theorem add_T {a:Addr} {b:Bool} {ns:List Int} {k:Int} {tk:Tok} {Q:Bool->Shared->Prop} (T:zeZ prog w s.heap a b ns) (few:ns.length<1000)
 (h:∀(r:Bool) (h':Heap) (ns':List Int),Heap.SameBut a s.heap h'->zeZ prog w h' a b ns'->(∀x,x∈ns'↔x∈ns\/x=k)->ns'.length<=ns.length+1->Q r {s with heap:=h'}):
 wpAny (model prog w) A (setAddHashed a (.int k tk) ((intKind prog w).hash k)) Q E s:=by
 obtain ⟨o,es,ep,t,⟨gets,ex,data⟩,elems,⟨fit,good⟩,rfl,nd⟩:=T;have sz:es.size=(es.toList.map λe=>za2 e.2).length:=by simp
 have e4:scanBound=4096:=rfl;have bound:es.size<scanBound:=by omega
 have isk:=intKind_is prog w k tk;unfold setAddHashed setAddHashedIn;refine Jp (jg (JG gets data fit ?_));dsimp only;rw [byScan_of (knd:=intKind prog w) (x:= .int k tk) rfl bound elems,jK rfl];unfold setAddByScan;refine jg (jg (Qj (jg (wpAny_setScan_of isk gets data fit elems ?_))))
 cases found:List.findIdx? (λe=>(intKind prog w).is k e.2) es.toList with
 |some j=>
  dsimp only;obtain ⟨hj,pj,_⟩:=List.findIdx?_eq_some_iff_getElem.mp found;have mem:k∈es.toList.map λe=>za2 e.2:=jk.mpr ⟨es.toList[j],qa hj,zqz pj⟩;refine jr (jr ?_);exact h false s.heap _ (Heap.SameBut.refl a s.heap) ⟨o,es,ep,t,⟨gets,ex,data⟩,elems,⟨fit,good⟩,rfl,nd⟩ (λx=>⟨.inl,λz=>z.elim id λe=>e▸mem⟩) (wj _)
 |none=>
  dsimp only
  have new:k∉es.toList.map λe=>za2 e.2:=λz=>by
   obtain ⟨e,he,hv⟩:=jk.mp z;obtain ⟨⟨k',hk',_⟩,_⟩:=elems e he;have ek:k'=k:=(zqz hk').symm.trans hv;subst ek;have:=List.findIdx?_eq_none_iff.mp found e he;rw [hk'] at this;cases this
  have perm:=layNew_perm t es ((intKind prog w).hash k) (.int k tk);have fits:=layNew_fits t es ((intKind prog w).hash k) (.int k tk);have good1:=zje good es ((intKind prog w).hash k) (.int k tk);generalize layNew t es ((intKind prog w).hash k) (.int k tk)=L at perm fits good1⊢;obtain ⟨es1,t1,wasDummy,gave⟩:=L;dsimp only at perm fits good1⊢;rw [Array.toList_push] at perm;have elems1:ElemsOf (intKind prog w) es1.toList:=(elems.push isk rfl).perm perm
  have pm:(es1.toList.map λe=>za2 e.2).Perm ((es.toList.map λe=>za2 e.2)++[k]):=by
   have:=perm.map λe=>za2 e.2;rwa [qx] at this
  have nd1:(es1.toList.map λe=>za2 e.2).Nodup:=by
   refine (pm.nodup_iff).mpr (List.nodup_append.mpr ⟨nd,by simp,λx hx y hy=>?_⟩);rw [ju.mp hy];exact λe=>new (e▸hx)
  have len1:=pm.length_eq;rw [jJ,wI] at len1;have sz1:es1.size=(es1.toList.map λe=>za2 e.2).length:=by simp
  have bound1:es1.size<scanBound:=by omega
  have mem1:∀x,x∈(es1.toList.map λe=>za2 e.2)↔x∈(es.toList.map λe=>za2 e.2)\/x=k:=λx=>by
   rw [pm.mem_iff,jV,ju]
  have g1:=zqE (es1:=es1) (t1:=t1) gets data;have sb1:=qR s.heap a (Obj.putSet es1 t1);have perm2:=relayAll_perm t1 es1 (SetTable.grown es1.size);have fits2:=relayAll_fits t1 es1 (SetTable.grown es1.size);have good2:=zgq good1 es1 (SetTable.grown es1.size)
  have tail:∀{g:Bool->Sem Unit} {R:Option Bool->Shared->Prop},(∀(b:Bool) (s₁:Shared) (Q':Unit->Shared->Prop),Q' () s₁->wpAny (model prog w) A (g b) Q' E s₁)->
   (∀(h':Heap) (ns':List Int),Heap.SameBut a s.heap h'->zeZ prog w h' a b ns'->(∀x,x∈ns'↔x∈(es.toList.map λe=>za2 e.2)\/x=k)->ns'.length<=(es.toList.map λe=>za2 e.2).length+1->R (some true) {s with heap:=h'})->
   wpAny (model prog w) A (do
    storeSet a es1 t1
    if (!wasDummy && t1.tooFull)=true then do
        g (relayAll t1 es1 (SetTable.grown es1.size)).2.2
        storeSet a (relayAll t1 es1 (SetTable.grown es1.size)).1 (relayAll t1 es1 (SetTable.grown es1.size)).2.1
        pure (some true)
     else pure (some true)) R E s:=λ{g R} hg hR=>by
   refine jg (wpAny_storeSet_of gets data ?_ (fits_of_scanBound bound1))
   split
   ·generalize relayAll t1 es1 (SetTable.grown es1.size)=L2 at perm2 fits2 good2⊢;obtain ⟨es2,t2,gave2⟩:=L2;dsimp only at perm2 fits2 good2⊢;have p2:(es2.toList.map λe=>za2 e.2).Perm (es1.toList.map λe=>za2 e.2):=perm2.map _;have sz2:es2.size=es1.size:=by rw [<-ww,perm2.length_eq,ww]
    have bound2:es2.size<scanBound:=by omega
    refine jg (hg _ _ _ (jg (wpAny_storeSet_of g1 rfl (jr ?_) (fits_of_scanBound bound2))));refine hR _ _ (sb1.trans (qR _ a _)) ⟨_,es2,_,t2,⟨zqE g1 rfl,ex,rfl⟩,elems1.perm perm2,⟨fits2,good2⟩,rfl,p2.nodup_iff.mpr nd1⟩ (λx=>by rw [p2.mem_iff];exact mem1 x) (by rw [p2.length_eq,len1];exact jy _)
   ·exact jr (hR _ _ sb1 ⟨_,es1,_,t1,⟨g1,ex,rfl⟩,elems1,⟨fits,good1⟩,rfl,nd1⟩ mem1 (by rw [len1];exact jy _))
  have fin:∀(h':Heap) (ns':List Int),Heap.SameBut a s.heap h'->zeZ prog w h' a b ns'->(∀x,x∈ns'↔x∈(es.toList.map λe=>za2 e.2)\/x=k)->ns'.length<=(es.toList.map λe=>za2 e.2).length+1->Q true {s with heap:=h'}:=h true
  have pass:∀(c:Bool) (s₁:Shared) (Q':Unit->Shared->Prop),Q' () s₁->wpAny (model prog w) A (match c with|true=>rule "set.scan.the-table-gave-way"|false=>pure ()) Q' E s₁:=λc s₁ Q' q=>by
   cases c
   ·exact jr q
   ·exact Qj q
  refine jg (pass _ _ _ ?_);have hv:hashByValue 8 (.int k tk)=pure true:=rfl
  split
  ·refine jg ?_;rw [hv];refine jr ?_;exact tail (λc s₁ Q' q=>pass c s₁ Q' q) λh' ns' x1 x2 x3 x4=>jr (fin h' ns' x1 x2 x3 x4)
  ·refine jg (jr ?_);exact tail (λc s₁ Q' q=>pass c s₁ Q' q) λh' ns' x1 x2 x3 x4=>jr (fin h' ns' x1 x2 x3 x4)
def zmb (w:World):Bool:=!(w.params.followText "set-order")
def Vf (w:World):Obj:={cls:= .type "set",dict:=none,data:= .set #[] 0 (.fresh 0 0 (zmb w))}
theorem zsh (x:Value) {R:Value->Shared->Prop} (k:R (.ref s.heap.objs.size) {s with heap:=s.heap.push (Vf w)}):
 codeAny (model prog w) A (.call (.builtin "set.__new__") ⟨[.type "set",x],[]⟩) (wants R E) s:=by
 refine codeAny_of_tree (show wpAny _ A.in1 (do checkBuiltinCall "set.__new__" ⟨[.type "set",x],[]⟩;again (.builtin "set.__new__" ⟨[.type "set",x],[]⟩)) _ _ s from ?_)
 refine jg (wpAny_of_eq (F.newCall_set_1 x) (jr ⟨plainId_quiet F.plain_set_new _,JC F.entry_set_new (by
  rw [Jk F.plain_set_new _];unfold Builtin.«set.__new__» Builtin.Frozenset.newClass;have sub:=sub_set_self;obtain ⟨hp,g,d,tk,os⟩:=s;dsimp only
  wp_walk
  refine wpAny_askSetting (jr ?_);dsimp only;simp only [newObj]
  exact jg (wpAny_alloc (jr (jr k))))⟩))
theorem zeZ.fresh {h:Heap} {a:Addr} (gets:h.get? a=some (Vf w)):zeZ prog w h a (zmb w) []:=
 ⟨_,#[],0,_,⟨gets,⟨rfl,rfl,rfl⟩,rfl⟩,λe he=>by simp at he,⟨rfl,by unfold Ris SetTable.fresh;exact List.Pairwise.nil,rfl⟩,rfl,List.nodup_nil⟩
theorem upd_T {I:Addr} {fp wr:List Addr} {G:Array GenState->Array GenState->Prop} {n:Nat} {P:Nat->Value->Prop} {St:Nat->Shared->Prop} {R:Result->Shared->Prop} {b:Bool}
 (W:WalksS prog w A.in1 I fp wr G n P St) (a:Addr) (out:a∉fp) (ns:List Int) (val:∀i v,P i v->∃k t,ns[i]? =some k/\v= .int k t) (few:n<900):
 ∀(m i:Nat) (s:Shared) (T:List Int),n - i=m->i<=n->St i s->zeZ prog w s.heap a b T->(∀x,x∈T↔x∈ns.take i)->T.length<=i->
  (∀s' T',Moved (a::wr) G s s'->zeZ prog w s'.heap a b T'->(∀x,x∈T'↔x∈ns.take n)->T'.length<=n->R (.ok (.ret .none)) s')->
  codeAny (model prog w) A (.builtin "set.update.loop" ⟨[.ref a, .ref I],[]⟩) R s:=by
 have outW:a∉wr:=λz=>out (W.sub _ z);have more:∀c∈wr,c∈a::wr:=λc hc=>jf _ hc;intro m
 induction m with
 |zero=>
  intro i s T hm hi st hT hx hl hR;have e:i=n:=by omega
  subst e;refine JC PyProof.Rows.F.entry_set_update_loop ?_;rw [Jk wS _];show wpAny _ A.in1 (pyNext (.ref I)>>=_) _ _ s;exact jg (W.done s _ _ st λs' mv=>jr (hR s' T (mv.mono more) (hT.kept λo=>mv.heap a o outW) hx hl))
 |succ m ih=>
  intro i s T hm hi st hT hx hl hR;have lt:i<n:=by omega
  refine JC PyProof.Rows.F.entry_set_update_loop ?_;rw [Jk wS _];show wpAny _ A.in1 (pyNext (.ref I)>>=_) _ _ s;refine jg (W.item i s _ _ lt st λv s' hP st' mv=>?_);obtain ⟨k,tk,hk,rfl⟩:=val i v hP;show wpAny _ A.in1 (holding [Value.int k tk] (setAdd a (.int k tk))>>=_) _ _ s';refine jg (Jp ?_);unfold setAdd;refine Jp (jg ((intKind prog w).pyHash (k:=k) (intKind_is _ _ _ _) ?_));refine add_T (b:=b) (ns:=T) (s:={s' with toks:=s'.toks+1}) (hT.kept λo=>mv.heap a o outW) (by omega) λr h' T' sb hT' hx' hl'=>?_;refine jr ⟨plainId_quiet wS _,ih (i+1) _ T' (by omega) lt (W.frame _ s' _ _ st' (wj _) λc hc o e=>?_) hT' (λx=>?_) (by omega) λs'' T'' mv'' hT'' hx'' hl''=>?_⟩
  ·rw [sb.2 c (λz:c=a=>out (by rw [<-z];exact hc))];exact e
  ·rw [hx' x,hx x,qV,hk]
   simp
  ·refine hR s'' T'' (Moved.trans W.gtrans ((mv.mono more).then_heap (wj _) λc o hc e=>?_) mv'') hT'' hx'' hl'';rw [sb.2 c (λz:c=a=>hc (by rw [z];exact jd))];exact e
set_option maxHeartbeats 8000000 in
theorem zlZ {l:Addr} {items:Array Value} {ns:List Int} {Q:Value->Shared->Prop} (quiet:A.handled=none) (hl:s.heap.IsList l items) (hi:PyProof.Rows.IntsAre items.toList ns) (few:items.size<900)
 (k:∀(h':Heap) (tk:Nat) (T:List Int),zeZ prog w h' s.heap.objs.size (zmb w) T->(∀x,x∈T↔x∈ns)->T.length<=ns.length->(∀b o,b<s.heap.objs.size->s.heap.get? b=some o->h'.get? b=some o)->Q (.ref s.heap.objs.size) {s with heap:=h',toks:=tk}):
 wpAny (model prog w) A (call (.type "set") [.ref l]) Q E s:=by
 have lenN:items.size=ns.length:=by have:=hi.length;simpa using this
 obtain ⟨c1,tl1,mro1⟩:=JD.mro;have made1:=JD.made;have sub1:=JD.sub;refine wpAny_call (codeAny_of_tree (show wpAny _ _ (callAny (.type "set") _) _ _ _ from ?_));refine jr ⟨Code.quiet_builtin _ (by decide+kernel),JC F.entry_type_call ?_⟩;rw [Around.under_plain (weight_type_call_type "set" [.ref l] []) rfl];have nt1:=JD.notType;have cc1:=JD.canCreate;have ct1:=F.typeCall_set_1 (.ref l)
 repeat any_goals (first|wp_step|assumption)
 refine Qi (zsh (.ref l) (E:=E) (R:=λobj s₁=>obj= .ref s.heap.objs.size/\s₁={s with heap:=s.heap.push (Vf w)}) ⟨rfl,rfl⟩) λr s₁ hr=>?_
 cases r with
 |error e=>exact hr
 |ok fl=>
  cases fl with
  |ret obj=>
   obtain ⟨rfl,rfl⟩:=hr;have gets:(s.heap.push (Vf w)).get? s.heap.objs.size=some (Vf w):=jx _ rfl;have ty:Shared.TypeIs {s with heap:=s.heap.push (Vf w)} (.ref s.heap.objs.size) "set":=⟨_,gets,rfl⟩;have lk1:=JD.init.lookup;have bd1:=JD.init.bind (.ref s.heap.objs.size)
   repeat any_goals (first|wp_step|assumption)
   refine Qi (codeAny_call_builtin (R:=wants (λr s₂=>r= .none/\∃h' tk T,s₂={s with heap:=h',toks:=tk}/\zeZ prog w h' s.heap.objs.size (zmb w) T/\(∀x,x∈T↔x∈ns)/\T.length<=ns.length/\
    (∀b o,b<s.heap.objs.size->s.heap.get? b=some o->h'.get? b=some o)) E) JD.init.plain F.entry_set_init (check_set_init_1 ty ?_)) λr₂ s₂ hr₂=>?_
   ·obtain ⟨ol,gol,clsl,nl,datl⟩:=hl;obtain ⟨ocls,odict,odata,oslots⟩:=ol;simp only at clsl datl;subst clsl;subst datl;have gol1:(s.heap.push (Vf w)).get? l=some {cls:= .type "list",dict:=odict,data:= .seq items nl,slots:=oslots}:=ji _ gol;have sls:=F.sub_list_set;have slf:=F.sub_list_frozenset;have nd1:(Value.type "list"==Value.type "dict")=false:=by decide
    have il1:(s.heap.push (Vf w)).IsList l items:=⟨_,gol1,rfl,nl,rfl⟩;have fr1:=gets;unfold Vf at fr1 gol1;unfold Builtin.«set.__init__» noKeywords Builtin.Frozenset.updateFrom;generalize hPI:pyIter=PI
    wp_walk
    subst hPI;refine wE il1 (jg (wpAny_runValue ?_));have lts:l<s.heap.objs.size:=jv gol;have q3:A.in1.in1.in1.handled=none:=by simp [quiet]
    have szp:(s.heap.push (Vf w)).objs.size=s.heap.objs.size+1:=jT ..;have neI:l≠(s.heap.push (Vf w)).objs.size:=by rw [szp];exact jO (qD lts)
    have out:s.heap.objs.size∉[(s.heap.push (Vf w)).objs.size,l]:=by
     rw [szp];intro z
     rcases jn.mp z with z|z
     ·exact absurd z (jO (qj _))
     ·exact absurd (ju.mp z) (Jd lts)
    refine upd_T (b:=zmb w) ((Walks.list q3 _ l neI items).toS) s.heap.objs.size out ns (λi v hv=>?_) few (items.size - 0) 0 _ [] (by omega) (wg _) ⟨⟨_,jx _ rfl,rfl,rfl⟩,il1.push _⟩ (zeZ.fresh (ji _ gets)) (λx=>by simp) (wg _) λs' T' mv hT' hx' hl'=>?_
    ·have hv':items.toList[i]? =some v:=by rw [Array.getElem?_toList];exact hv
     obtain ⟨t,ht⟩:=PyProof.Rows.IntsAre.int_at hi i v hv'
     have lt:i<ns.length:=by
      have:=(je.mp hv').1;rw [ww] at this;omega
     refine ⟨ns.getD i 0,t,?_,ht⟩;rw [jm,jb lt];rfl
    ·obtain ⟨h',g',d',tk',os'⟩:=s';have eg:g'=s.gens:=mv.gens;have ed:d'=s.drawn:=mv.drawn;have eo:os'=s.os:=mv.os;subst eg;subst ed;subst eo;show wpAny _ _ _ _ _ _;refine jr (show wpAny _ _ (ret Value.none) _ _ _ from jr ⟨rfl,h',tk',T',rfl,hT',λx=>?_,by omega,λb o hb e=>?_⟩)
     ·rw [hx' x,qy (by omega)]
     ·refine mv.heap b o (λz=>?_) (ji _ (ji _ e))
      rcases jn.mp z with z|z
      ·exact absurd z (jO hb)
      ·rw [ju.mp z,szp] at hb;exact absurd hb (Nat.not_lt.mpr (wj _))
   ·cases r₂ with
    |error e=>exact hr₂
    |ok fl₂=>
     cases fl₂ with
     |ret r=>
      obtain ⟨rfl,h',tk,T,rfl,hT,hx,hlT,keep⟩:=hr₂
      repeat any_goals (first|wp_step|assumption)
      exact k _ _ T hT hx hlT keep
     |_=>exact hr₂.elim
  |_=>exact hr.elim
end
theorem znk:Manifest.owners.lookup (String.ofList ['r','o','t','a','r','e','t','i','_','t','e','s'].reverse)=some Manifest.sig_set_iterator:=by kernel_rfl
theorem Xg (x:Value):argsOk "set_iterator.__next__" ⟨[x],[]⟩:=by
 unfold argsOk;rw [signature?_of (id:="set_iterator.__next__") (n:=['_','_','t','x','e','n','_','_']) (o:=['r','o','t','a','r','e','t','i','_','t','e','s']) (by kernel_rfl) znk]
 kernel_rfl
theorem yM:Slot "set_iterator" "__next__" "set_iterator.__next__":= .of (owner:="set_iterator") (n:="__next__") (by rw [typeLookup_type,builtinLookup_eq_fast];kernel_rfl) (by decide+kernel) (by decide+kernel) (by decide+kernel) (by first|exact .inl (by decide+kernel)|exact .inr (by decide+kernel)) (by rw [isSubtype_type];kernel_rfl)
theorem YI:entryFor table "set_iterator.__next__"=some Builtin.«set_iterator.__next__»:=entryFor_of_tree (by kernel_rfl)
theorem zao:Slot "set_iterator" "__iter__" "set_iterator.__iter__":= .of (owner:="set_iterator") (n:="__iter__") (by rw [typeLookup_type,builtinLookup_eq_fast];kernel_rfl) (by decide+kernel) (by decide+kernel) (by decide+kernel) (by first|exact .inl (by decide+kernel)|exact .inr (by decide+kernel)) (by rw [isSubtype_type];kernel_rfl)
theorem zg3 (x:Value):argsOk "set_iterator.__iter__" ⟨[x],[]⟩:=by
 unfold argsOk;rw [signature?_of (id:="set_iterator.__iter__") (n:=['_','_','r','e','t','i','_','_']) (o:=['r','o','t','a','r','e','t','i','_','t','e','s']) (by kernel_rfl) znk]
 kernel_rfl
theorem zeL:entryFor table "set_iterator.__iter__"=some Builtin.«dict_keyiterator.__iter__»:=entryFor_alias (id':="dict_keyiterator.__iter__") (by kernel_rfl) rfl (by decide+kernel) (by kernel_rfl)
theorem zeM:entryFor table "set.__iter__"=some Builtin.«frozenset.__iter__»:=entryFor_alias (id':="frozenset.__iter__") (by kernel_rfl) rfl (by decide+kernel) (by kernel_rfl)
theorem zbE {α:Type}:∀{xs:List α} {i:Nat} (h:i<xs.length),(xs[i]::xs.eraseIdx i).Perm xs
 |[],i,h=>by simp at h
 |x::xs,0,h=>List.Perm.refl _
 |x::xs,i+1,h=>by
  have ih:=zbE (xs:=xs) (i:=i) (by simpa using h);exact (List.Perm.swap _ _ _).trans (ih.cons x)
section
variable {prog:Program} {w:World} {A:Around} {E:Value->Shared->Prop} {s:Shared}
theorem zlW {src:Source} {n:Nat} {Q:Nat->Shared->Prop} (hn:n≠0) (k:∀i d,i<n->Q i {s with drawn:=d}):wpAny (model prog w) A (choose src n) Q E s:=λΓ p hΓ=>by
 show Sem.wp _ _ (Sem.choose src n _) _ _ _ _;rw [Sem.wp_choose];exact ⟨hn,k _ _ (Nat.mod_lt _ (by omega))⟩
theorem zqY {α:Type}:∀(n:Nat) (xs:List α) (s:Shared) (Q:List α->Shared->Prop),xs.length=n->(∀d ys,ys.Perm xs->Q ys {s with drawn:=d})->wpAny (model prog w) A (drawOrder n xs) Q E s
 |0,[],s,Q,_,k=>by rw [drawOrder];exact jr (k s.drawn [] (List.Perm.refl _))
 |n+1,x::xs,s,Q,hl,k=>by
  rw [drawOrder]
  ·refine jg (zlW (by simp) λi d hi=>?_);have e:(x::xs)[i]? =some (x::xs)[i]:=jb hi;rw [e];dsimp only;refine jg (zqY n _ _ _ (by rw [List.length_eraseIdx,jK hi,hl];rfl) λd2 ys hp=>jr (k d2 _ ?_));have hc:=List.Perm.cons (x::xs)[i] hp;refine hc.trans ?_;exact zbE hi
  ·intro z;cases z
 |0,_::_,s,Q,h,_=>by simp at h
 |_+1,[],s,Q,h,_=>by simp at h
structure SetD (prog:Program) (w:World) (oS:Obj) (es:Array (Int×Value)) (ep:Nat) (t:SetTable):Prop where
 ex:oS.ExactSet
 data:oS.data= .set es ep t
 elems:ElemsOf (intKind prog w) es.toList
 fit:t.fits es.size=true
 good:zjJ (zmb w) t
theorem zl4 {xs:Array Nat} (h:Ris xs):SetTable.below xs 0=0:=by
 obtain ⟨b1,b2,b3⟩:=Uq h 0
 rcases Nat.eq_zero_or_pos (SetTable.below xs 0) with z|z
 ·exact z
 ·have:xs[0]? =some (xs[0]'(by omega)):=by simp
  exact absurd (b2 0 _ z this) (Nat.not_lt_zero _)
theorem zl5 {xs:Array Nat} (h:Ris xs) {i j:Nat} (hj:xs[i]? =some j):SetTable.below xs (j+1)=i+1:=by
 obtain ⟨b1,b2,b3⟩:=Uq h (j+1);have li:i<xs.size:=(Jc.mp hj).1
 rcases Nat.lt_trichotomy (SetTable.below xs (j+1)) (i+1) with z|z|z
 ·have:=b3 i j (by omega) hj;omega
 ·exact z
 ·have l2:i+1<xs.size:=by omega
  have h2:xs[i+1]? =some xs[i+1]:=by simp [l2]
  have:=b2 (i+1) _ z h2;have:=h.lt (qj i) hj h2;omega
def byT (w:World):Bool:=w.params.followText "set-order"
def zhh (w:World) (a:Addr) (ep:Nat) (es:Array (Int×Value)):Array (Int×Value):=if byT w=true then pickOrder (w.params.setOrder a ep) es else es
def stT (w:World) (t:SetTable) (i slot:Nat):Prop:=byT w=true\/SetTable.below t.place slot=i
theorem zhR {α:Type} (f:Nat->Nat):∀(n k:Nat) (left:List α) (out:Array α),left.length=n->(pickOrder.go f n k left out).toList.Perm (out.toList++left)
 |0,k,[],out,_=>by rw [pickOrder.go];simp
 |0,k,_::_,out,h=>by simp at h
 |n+1,k,[],out,h=>by simp at h
 |n+1,k,x::left,out,h=>by
  rw [pickOrder.go];have hi:f k % (x::left).length<(x::left).length:=Nat.mod_lt _ (by simp);rw [jb hi];dsimp only;have ih:=zhR f n (k+1) ((x::left).eraseIdx (f k % (x::left).length)) (out.push (x::left)[f k % (x::left).length]) (by rw [List.length_eraseIdx,jK hi,h];rfl);refine ih.trans ?_;rw [Array.toList_push,wb];exact (zbE hi).append_left _
theorem zaI (w:World) (a:Addr) (ep:Nat) (es:Array (Int×Value)):(zhh w a ep es).toList.Perm es.toList:=by
 unfold zhh
 split
 ·unfold pickOrder;have:=zhR (w.params.setOrder a ep) es.size 0 es.toList #[] (by simp)
  simpa using this
 ·exact List.Perm.refl _
section
variable {a:Addr} {oS:Obj} {es:Array (Int×Value)} {ep:Nat} {t:SetTable} {slot i:Nat}
theorem zjy {Q:Bool->Shared->Prop} (k:Q (byT w) s):wpAny (model prog w) A setsByText Q E s:=by
 unfold setsByText;exact jg (wpAny_askSetting (jr k))
theorem zmm {Q:Array (Int×Value)->Shared->Prop} (gets:s.heap.get? a=some oS) (D:SetD prog w oS es ep t) (hb:byT w=true) (k:Q (pickOrder (w.params.setOrder a ep) es) s):wpAny (model prog w) A (setWalk a) Q E s:=by
 unfold setWalk;refine jg (JG gets D.data D.fit ?_);dsimp only;refine jg (zjy ?_);rw [hb,jK rfl];exact jg (wpAny_askSetting (jr k))
theorem zqP {Q:Option (Value×Nat)->Shared->Prop} (gets:s.heap.get? a=some oS) (D:SetD prog w oS es ep t) (pl:byT w=true\/(t.plain=true\/es.size<=1)) (st:stT w t i slot)
 (k1:∀e slot',(zhh w a ep es)[i]? =some e->stT w t (i+1) slot'->Q (some (e.2,slot')) s) (k2:es.size<=i->Q none s):wpAny (model prog w) A (setNext a slot i ep) Q E s:=by
 have osz:(zhh w a ep es).size=es.size:=by
  have:=(zaI w a ep es).length_eq
  simpa using this
 unfold setNext;refine jg (JG gets D.data D.fit ?_);dsimp only;refine jg (zjy ?_)
 cases hb:byT w with
 |true=>
  rw [jK rfl,jQ (by simp)];refine jg (zmm gets D hb (jr ?_));have eo:zhh w a ep es=pickOrder (w.params.setOrder a ep) es:=by unfold zhh;rw [jK hb]
  rw [<-eo]
  by_cases c:i<(zhh w a ep es).size
  ·have e:(zhh w a ep es)[i]? =some (zhh w a ep es)[i]:=by simp [c]
   rw [e];exact k1 _ slot e (.inl hb)
  ·rw [Array.getElem?_eq_none (by omega)];exact k2 (by omega)
 |false=>
  have st':SetTable.below t.place slot=i:=st.resolve_left (by rw [hb];exact jI);have pl':=pl.resolve_left (by rw [hb];exact jI);rw [jQ jI]
  split
  ·rename_i z
   exfalso
   have z':(!t.plain && decide (es.size>1))=true:=z;rw [wC,decide_eq_true_eq] at z'
   rcases pl' with p|p
   ·rw [p] at z';exact jI z'.1
   ·omega
  have led:t.led=true:=by
   have:=D.good.2;unfold zmb at this;rw [this,show w.params.followText "set-order"=false from hb];rfl
  refine jg (show wpAny _ _ (if (!t.led && !es.isEmpty)=true then unsupported "set:maker-not-led" else pure ()) _ _ s from ?_);rw [led,jQ (by simp)];refine jr (jr ?_);rw [st'];have eo:zhh w a ep es=es:=by unfold zhh;rw [jQ (by rw [hb];exact jI)]
  have psz:t.place.size=es.size:=by
   have:=D.fit;unfold SetTable.fits at this;rw [wC] at this
   simpa using this.1
  by_cases c:i<es.size
  ·have e:es[i]? =some es[i]:=by simp [c]
   have ep':t.place[i]? =some (t.place[i]'(by omega)):=by simp
   rw [e,ep'];exact k1 es[i] _ (by rw [eo];exact e) (.inr (zl5 D.good.1 ep'))
  ·rw [Array.getElem?_eq_none (show es.size<=i by omega)];exact k2 (by omega)
end
end
section
variable {prog:Program} {w:World} {A:Around} {E:Value->Shared->Prop} {s:Shared} {a I:Addr} {oS:Obj} {es:Array (Int×Value)} {ep:Nat} {t:SetTable} {slot i:Nat}
def ItF (h:Heap) (I:Addr) (vs:Array Value):Prop:=∃o,h.get? I=some o/\o.cls= .type "set_iterator"/\o.data= .fields vs
theorem ItF.ty {vs:Array Value} (x:ItF s.heap I vs):s.TypeIs (.ref I) "set_iterator":=let ⟨_,e,c,_⟩:=x;⟨_,e,c⟩
theorem ItF.set {h:Heap} {vs:Array Value} (x:ItF h I vs) (j:Nat) (v:Value):ItF (h.update I (Obj.mapFields (·.setIfInBounds j v))) I (vs.setIfInBounds j v):=by
 obtain ⟨o,e,c,d⟩:=x;exact ⟨_,wH _ e (Obj.isFreed_of_fields (Qa d _)),(Obj.cls_mapFields ..).trans c,Qa d _⟩
theorem zoZ {Q:Option Value->Shared->Prop} (x:ItF s.heap I #[.int slot 0, .int i 0, .ref a, .int es.size 0, .int ep 0]) (ne:a≠I) (gets:s.heap.get? a=some oS) (D:SetD prog w oS es ep t) (pl:byT w=true\/(t.plain=true\/es.size<=1)) (st:stT w t i slot) (hi:i<es.size)
 (k1:∀e slot' h',(zhh w a ep es)[i]? =some e->stT w t (i+1) slot'->ItF h' I #[.int slot' 0, .int (i+1:Nat) 0, .ref a, .int es.size 0, .int ep 0]->Heap.SameBut I s.heap h'->Q (some e.2) {s with heap:=h'}):wpAny (model prog w) A (pyNext (.ref I)) Q E s:=by
 have x':=x;obtain ⟨o,go,gc,gd⟩:=x';unfold pyNext;refine jg (JF (qF (name:=Str.ofString "__next__") x.ty yM (qT yM x.ty YI ?_ (Xg _))));unfold Builtin.«set_iterator.__next__»;refine jg (jr ?_);refine jg (wpAny_fieldsOf go gd ?_);dsimp only;refine jg (Jq gets D.data D.fit ?_);rw [jQ (by simp)];refine jg (zqP (slot:=slot) (i:=i) gets D pl st (λe slot' he hst=>?_) (λz=>absurd hi (by omega)));dsimp only;refine jg (Ji go gd (by simp) ?_);have x1:=x.set 0 (rawInt (slot':Nat));have x2:=x1.set 1 (rawInt ((i:Int)+1));obtain ⟨o1,go1,gc1,gd1⟩:=x1;refine jg (Ji go1 gd1 (by simp) ?_);refine jr ⟨_,rfl,jr (k1 e slot' _ he hst ?_ ((qR ..).trans (qR ..)))⟩
 simpa [rawInt] using x2
theorem zqF {j:Nat} {x:Value} {h1:Heap} {Q:Option Value->Shared->Prop} (quiet:A.handled=none) (k:∀h',(∀b o,h1.get? b=some o->h'.get? b=some o)->Q none {s with heap:=h'}):
 wpAny (model prog w) A.in1 (newExc (.type "StopIteration") []>>=λe=>(raiseNew e:Sem Fin)) (λfin s'=>∃v,fin=Fin.done (Flow.ret v)/\wpAny (model prog w) A (pure (some v)) Q E s')
  (λe s'=>wpAny (model prog w) A (isInstance e (Value.type "StopIteration")>>=λb=>if b=true then pure none else throw e) Q E s') {s with heap:=h1}:=by
 refine jg ?_;simp only [newExc,newTuple];refine jg (qU (jg (m:=firstArgMember _ _) (wpAny_of_eq (a:=Value.none) (by first|rfl|(simp only [firstArgMember];rfl)) (qU ?_ (by size_fits)))) (by size_fits));simp only [raiseNew];refine jg (wpAny_handled ?_);rw [show A.in1.handled=none from quiet];refine' jg (jr (wpAny_throw ?told))
 case told=>
  refine' jg (wpAny_isInstance (T:="StopIteration") (b:=true) ⟨_,jx _ rfl,rfl⟩ isSubtype_stop ?yes)
  case yes=>exact jr (k _ λb o e=>ji _ (ji _ e))
theorem zo0 {Q:Option Value->Shared->Prop} (quiet:A.handled=none) (x:ItF s.heap I #[.int slot 0, .int i 0, .ref a, .int es.size 0, .int ep 0]) (gets:s.heap.get? a=some oS) (D:SetD prog w oS es ep t) (pl:byT w=true\/(t.plain=true\/es.size<=1)) (st:stT w t i slot) (hi:es.size<=i)
 (k:∀h',(∀b o,b≠I->s.heap.get? b=some o->h'.get? b=some o)->Q none {s with heap:=h'}):wpAny (model prog w) A (pyNext (.ref I)) Q E s:=by
 have osz:(zhh w a ep es).size=es.size:=by
  have:=(zaI w a ep es).length_eq
  simpa using this
 have x':=x;obtain ⟨o,go,gc,gd⟩:=x';unfold pyNext;refine jg (JF (qF (name:=Str.ofString "__next__") x.ty yM (qT yM x.ty YI ?_ (Xg _))));unfold Builtin.«set_iterator.__next__»;refine jg (jr (jg (wpAny_fieldsOf go gd ?_)));dsimp only;refine jg (Jq gets D.data D.fit ?_);rw [jQ (by simp)];refine jg (zqP (slot:=slot) (i:=i) gets D pl st (λe slot' he hst=>?_) (λ_=>?_))
 ·have:=(Jc.mp he).1
  exact absurd this (by have z:(zhh w a ep es).size=es.size:=osz
                        show ¬i<(zhh w a ep es).size
                        omega)
 dsimp only;refine jg (Ji go gd (by simp) ?_);exact zqF (j:=0) (x:= .none) quiet λh' keep=>k h' λb o hb e=>keep b o ((qR s.heap I _).extBut b o hb e)
theorem zj7 {vs:Array Value} {Q:Value->Shared->Prop} (x:ItF s.heap I vs) (k:Q (.ref I) s):wpAny (model prog w) A (pyIter (.ref I)) Q E s:=by
 refine wpAny_pyIter_slot x.ty zao (qT zao x.ty zeL (show wpAny _ _ (ret (.ref I)) _ _ s from ?_) (zg3 _));exact jr ⟨_,rfl,"set_iterator",_,x.ty,yM.lookup,k⟩
theorem zmD {tp:Addr} {pls:List Nat} {oT:Obj} {nT p:Nat} {e:Int×Value} {Q:Option Value->Shared->Prop} (x:ItF s.heap I #[.ref tp, .int i 0, .ref a, .int es.size 0, .int ep 0]) (gt:s.heap.get? tp=some oT) (gtd:oT.data= .seq (pls.map λ(p:Nat)=>rawInt p).toArray nT)
 (gets:s.heap.get? a=some oS) (D:SetD prog w oS es ep t) (hp:pls[i]? =some p) (he:es[p]? =some e)
 (k1:∀h',ItF h' I #[.ref tp, .int (i+1:Nat) 0, .ref a, .int es.size 0, .int ep 0]->Heap.SameBut I s.heap h'->Q (some e.2) {s with heap:=h'}):wpAny (model prog w) A (pyNext (.ref I)) Q E s:=by
 have x':=x;obtain ⟨o,go,gc,gd⟩:=x';unfold pyNext;refine jg (JF (qF (name:=Str.ofString "__next__") x.ty yM (qT yM x.ty YI ?_ (Xg _))));unfold Builtin.«set_iterator.__next__»;refine jg (jr (jg (wpAny_fieldsOf go gd ?_)));dsimp only;refine jg (Jq gets D.data D.fit ?_);rw [jQ (by simp)];refine jg (show wpAny _ _ (load tp>>=_) _ _ s from jg (wpAny_load gt ?_));rw [gtd];refine jr ?_;dsimp only
 have ei:(pls.map λ(p:Nat)=>rawInt p).toArray[(i:Int).toNat]? =some (rawInt p):=by
  rw [qf,List.getElem?_toArray,jh,hp];rfl
 rw [ei];show wpAny _ _ (setNextDrawn a (p:Int).toNat (ep:Int).toNat>>=_) _ _ s;refine jg ?_;unfold setNextDrawn;refine jg (JG gets D.data D.fit ?_);dsimp only;rw [qf,qf,jQ (by simp),he];refine jg (jr (jr ?_));refine jg (Ji go gd (by simp) ?_);have x2:=x.set 1 (rawInt ((i:Int)+1));refine jr ⟨_,rfl,jr (k1 _ ?_ (qR ..))⟩
 simpa [rawInt] using x2
theorem zmE {tp:Addr} {pls:List Nat} {oT:Obj} {nT:Nat} {Q:Option Value->Shared->Prop} (quiet:A.handled=none) (x:ItF s.heap I #[.ref tp, .int i 0, .ref a, .int es.size 0, .int ep 0]) (gt:s.heap.get? tp=some oT) (gtd:oT.data= .seq (pls.map λ(p:Nat)=>rawInt p).toArray nT)
 (gets:s.heap.get? a=some oS) (D:SetD prog w oS es ep t) (hp:pls.length<=i)
 (k:∀h',(∀b o,b≠I->s.heap.get? b=some o->h'.get? b=some o)->Q none {s with heap:=h'}):wpAny (model prog w) A (pyNext (.ref I)) Q E s:=by
 have x':=x;obtain ⟨o,go,gc,gd⟩:=x';unfold pyNext;refine jg (JF (qF (name:=Str.ofString "__next__") x.ty yM (qT yM x.ty YI ?_ (Xg _))));unfold Builtin.«set_iterator.__next__»;refine jg (jr (jg (wpAny_fieldsOf go gd ?_)));dsimp only;refine jg (Jq gets D.data D.fit ?_);rw [jQ (by simp)];refine jg (show wpAny _ _ (load tp>>=_) _ _ s from jg (wpAny_load gt ?_));rw [gtd];refine jr ?_;dsimp only
 have ei:(pls.map λ(p:Nat)=>rawInt p).toArray[(i:Int).toNat]? =none:=by
  rw [qf,List.getElem?_toArray,jh,jE hp];rfl
 rw [ei];dsimp only;refine jg (Ji go gd (by simp) ?_);have x1:=x.set 0 (rawInt 0);obtain ⟨o1,go1,gc1,gd1⟩:=x1;refine jg (Ji go1 gd1 (by simp) ?_);exact zqF (j:=0) (x:= .none) quiet λh' keep=>k h' λb o hb e=>keep b o (((qR s.heap I _).trans (qR _ I _)).extBut b o hb e)
end
section
variable {prog:Program} {w:World} {A:Around} {E:Value->Shared->Prop} {s:Shared} {a I:Addr} {oS:Obj} {es:Array (Int×Value)} {ep:Nat} {t:SetTable} {slot i:Nat}
theorem ItF.at {h h':Heap} {vs:Array Value} (x:ItF h I vs) (k:∀o,h.get? I=some o->h'.get? I=some o):ItF h' I vs:=let ⟨o,e,r⟩:=x;⟨o,k o e,r⟩
theorem zml (quiet:A.handled=none) (ne:a≠I) (D:SetD prog w oS es ep t) (pl:byT w=true\/(t.plain=true\/es.size<=1)):
 Walks prog w A I [I,a] [I] es.size (λi v=>∃e,(zhh w a ep es)[i]? =some e/\v=e.2) (λi h=>(∃slot,stT w t i slot/\ItF h I #[.int (slot:Nat) 0, .int (i:Nat) 0, .ref a, .int es.size 0, .int ep 0])/\h.get? a=some oS) where
 sub:=λb hb=>by rw [ju.mp hb];exact jd
 frame:=λi h h' st keep=>⟨let ⟨sl,h1,h2⟩:=st.1;⟨sl,h1,h2.at λo e=>keep I jd o e⟩,keep a (by simp) _ st.2⟩
 item:=λi s Q E hi st k=>by
  obtain ⟨⟨sl,h1,h2⟩,h3⟩:=st;refine zoZ h2 ne h3 D pl h1 hi λe slot' h' he hst x sb=>?_;exact k e.2 h' s.toks ⟨e,he,rfl⟩ ⟨⟨slot',hst,x⟩,sb.extBut a _ ne h3⟩ λb o hb e=>sb.extBut b o (λz=>hb (by rw [z];exact ju.mpr rfl)) e
 done:=λs Q E st k=>by
  obtain ⟨⟨sl,h1,h2⟩,h3⟩:=st;exact zo0 quiet h2 h3 D pl h1 (jy _) λh' keep=>k h' s.toks λb o hb e=>keep b o (λz=>hb (by rw [z];exact ju.mpr rfl)) e
 self:=λi s Q E st k=>let ⟨sl,h1,h2⟩:=st.1;zj7 h2 k
theorem ziD {tp:Addr} {pls:List Nat} {oT:Obj} {nT:Nat} (quiet:A.handled=none) (ne:a≠I) (ne2:tp≠I) (D:SetD prog w oS es ep t) (gtd:oT.data= .seq (pls.map λ(p:Nat)=>rawInt p).toArray nT) (hp:∀p∈pls,p<es.size):
 Walks prog w A I [I,a,tp] [I] pls.length (λi v=>∃p e,pls[i]? =some p/\es[p]? =some e/\v=e.2) (λi h=>ItF h I #[.ref tp, .int (i:Nat) 0, .ref a, .int es.size 0, .int ep 0]/\h.get? a=some oS/\h.get? tp=some oT) where
 sub:=λb hb=>by rw [ju.mp hb];exact jd
 frame:=λi h h' st keep=>⟨st.1.at λo e=>keep I jd o e,keep a (by simp) _ st.2.1,keep tp (by simp) _ st.2.2⟩
 item:=λi s Q E hi st k=>by
  have e1:=jb hi;have lt:=hp _ (qa hi);have e2:es[pls[i]]? =some es[pls[i]]:=by simp [lt]
  refine zmD st.1 st.2.2 gtd st.2.1 D e1 e2 λh' x sb=>?_;exact k _ h' s.toks ⟨_,_,e1,e2,rfl⟩ ⟨x,sb.extBut a _ ne st.2.1,sb.extBut tp _ ne2 st.2.2⟩ λb o hb e=>sb.extBut b o (λz=>hb (by rw [z];exact ju.mpr rfl)) e
 done:=λs Q E st k=>zmE quiet st.1 st.2.2 gtd st.2.1 D (jy _) λh' keep=>k h' s.toks λb o hb e=>keep b o (λz=>hb (by rw [z];exact ju.mpr rfl)) e
 self:=λi s Q E st k=>zj7 st.1 k
def WalkOk (prog:Program) (w:World) (h:Heap) (I a:Addr) (lo:Nat) (ns:List Int):Prop:=
 ∃(fp:List Addr) (n:Nat) (P:Nat->Value->Prop) (St:Nat->Heap->Prop) (os:List Int),St 0 h/\I∈fp/\(∀b∈fp,b<h.objs.size/\(b=a\/lo<=b))/\n=os.length/\os.Perm ns/\(∀i v,P i v->∃tk k,os[i]? =some k/\v= .int k tk)/\∀A':Around,A'.handled=none->Walks prog w A' I fp [I] n P St
theorem zkF (D:SetD prog w oS es ep t) {e:Int×Value} (he:e∈es.toList):∃tk,e.2= .int (za2 e.2) tk:=by
 obtain ⟨⟨k,hk,_⟩,_⟩:=D.elems e he;obtain ⟨tk,h⟩:=Value.isInt_shape hk;exact ⟨tk,by rw [h];rfl⟩
theorem zm8 {α β:Type} (g:α->β) (d:α) (l:List α):(List.range l.length).map (λi=>g (l.getD i d))=l.map g:=by
 apply qu
 ·simp
 ·intro i h1 h2;simp at h1;simp [h1]
theorem iter_T {ns:List Int} {Q:Value->Shared->Prop} (T:zeZ prog w s.heap a (zmb w) ns) (few:ns.length<1000)
 (k:∀(h':Heap) (d) (I:Addr),(∀b o,s.heap.get? b=some o->h'.get? b=some o)->s.heap.objs.size<=I->I<h'.objs.size->h'.objs.size<=s.heap.objs.size+2->WalkOk prog w h' I a s.heap.objs.size ns->Q (.ref I) {s with heap:=h',drawn:=d}):
 wpAny (model prog w) A (pyIter (.ref a)) Q E s:=by
 obtain ⟨o,es,ep,t,⟨gets,ex,data⟩,elems,⟨fit,good⟩,rfl,nd⟩:=T;have D:SetD prog w o es ep t:=⟨ex,data,elems,fit,good⟩;have ty:s.TypeIs (.ref a) "set":=⟨_,gets,ex.1⟩;have la:a<s.heap.objs.size:=jv gets;refine wpAny_pyIter_slot ty F.slot_set_iter (qT F.slot_set_iter ty zeM ?_ (F.args_set_iter_1 _));unfold Builtin.«frozenset.__iter__» Builtin.Frozenset.slot0 Builtin.Frozenset.sizeOf;refine jg (jg (jr (show wpAny _ _ (pure a) _ _ s from jr ?_)));refine jg (jg (Jq gets data fit (jr ?_)));unfold setDrawn;refine jg (jg (JG gets data fit ?_));dsimp only;refine jg (zjy (jr ?_));have vals:∀l:List (Int×Value),l.Perm es.toList->(l.map λe=>za2 e.2).Perm (es.toList.map λe=>za2 e.2):=λl p=>p.map _;have szn:es.size<1000:=by simpa using few
 split
 ·refine jg (zqY es.size (List.range es.size) _ _ Qg λd ys hp=>?_);have ly:ys.length=es.size:=by rw [hp.length_eq,Qg]
  simp only [newTuple]
  refine jg (qU ?_ (by
   show (List.map _ ys).toArray.size<=sizeLine
   rw [sizeLine_eq,jH,ja];omega))
  dsimp only;have g1:(s.heap.push {cls:= .type "tuple",data:= .seq (ys.map λ(p:Nat)=>rawInt p).toArray}).get? a=some o:=ji _ gets;have gt:(s.heap.push {cls:= .type "tuple",data:= .seq (ys.map λ(p:Nat)=>rawInt p).toArray}).get? s.heap.objs.size=some {cls:= .type "tuple",data:= .seq (ys.map λ(p:Nat)=>rawInt p).toArray}:=jx _ rfl;have sz1:(s.heap.push {cls:= .type "tuple",data:= .seq (ys.map λ(p:Nat)=>rawInt p).toArray}).objs.size=s.heap.objs.size+1:=jT ..;generalize hh1:s.heap.push {cls:= .type "tuple",data:= .seq (ys.map λ(p:Nat)=>rawInt p).toArray}=h1 at g1 gt sz1⊢;have k1:∀b o,s.heap.get? b=some o->h1.get? b=some o:=λb o e=>by rw [<-hh1];exact ji _ e
  refine jg (wpAny_setEpoch_of (s:={s with heap:=h1,drawn:=d}) g1 data fit ?_);simp only [newFields];refine jg (qU (jr ⟨_,rfl,"set_iterator",_,⟨_,jx _ rfl,rfl⟩,yM.lookup,?_⟩));refine k _ d _ (λb o e=>ji _ (k1 b o e)) (by show _<=h1.objs.size;rw [sz1];exact wj _) (by rw [jT];exact qj _) (by rw [jT,sz1];exact jy _) ?_;have nea:a≠h1.objs.size:=by rw [sz1];exact jO (qD la)
  have net:s.heap.objs.size≠h1.objs.size:=by rw [sz1];exact jO (qj _)
  have hpl:∀p∈ys,p<es.size:=λp hp'=>by
   have:=hp.mem_iff.mp hp';exact Qh.mp this
  refine ⟨[h1.objs.size,a,s.heap.objs.size],ys.length,_,_,ys.map λp=>za2 (es.toList.getD p (0, .none)).2,⟨⟨_,jx _ rfl,rfl,rfl⟩,ji _ g1,ji _ gt⟩,jd,λb hb=>?_,(ja ..).symm,?_,λi v hv=>?_,λA' q=>ziD q nea net D rfl hpl⟩
  ·rw [jT]
   rcases jn.mp hb with z|hb
   ·rw [z];exact ⟨qj _, .inr (by rw [sz1];exact wj _)⟩
   rcases jn.mp hb with z|hb
   ·rw [z,sz1];exact ⟨qD (qD la), .inl rfl⟩
   ·rw [ju.mp hb,sz1];exact ⟨qD (qj _), .inr (jy _)⟩
  ·have p1:=hp.map λp=>za2 (es.toList.getD p (0, .none)).2;have e:=zm8 (λe:Int×Value=>za2 e.2) (0, .none) es.toList;rw [ww] at e;rw [e] at p1;exact p1
  ·obtain ⟨p,e,h1',h2',rfl⟩:=hv;have me:e∈es.toList:=jc (i:=p) (by simpa using h2');obtain ⟨tk,ht⟩:=zkF D me;refine ⟨tk,za2 e.2,?_,ht⟩;have eg:es.toList.getD p (0, .none)=e:=by rw [jm,Array.getElem?_toList,h2'];rfl
   rw [jh,h1'];show some (za2 (es.toList.getD p (0, .none)).2)=_;rw [eg]
 ·rename_i z
  have pl:byT w=true\/(t.plain=true\/es.size<=1):=by
   have z':¬(!byT w && (!t.plain && decide (es.size>1)))=true:=z
   cases h1:byT w with
   |true=>exact .inl rfl
   |false=>
    cases h2:t.plain with
    |true=>exact .inr (.inl rfl)
    |false=>
     right;right
     rw [h1,h2] at z';simp at z';exact z'
  refine jg (jr (jg (wpAny_setEpoch_of gets data fit ?_)));simp only [newFields];refine jg (qU (jr ⟨_,rfl,"set_iterator",_,⟨_,jx _ rfl,rfl⟩,yM.lookup,?_⟩));refine k _ s.drawn _ (λb o e=>ji _ e) (jy _) (by rw [jT];exact qj _) (by rw [jT];exact wj _) ?_
  have osz:(zhh w a ep es).size=es.size:=by
   have:=(zaI w a ep es).length_eq
   simpa using this
  refine ⟨[s.heap.objs.size,a],es.size,_,_,(zhh w a ep es).toList.map λe=>za2 e.2,⟨⟨0,Or.inr (zl4 good.1),_,jx _ rfl,rfl,rfl⟩,ji _ gets⟩,jd,λb hb=>?_,by rw [ja,ww,osz],vals _ (zaI w a ep es),λi v hv=>?_,λA' q=>zml q (jO la) D pl⟩
  ·rw [jT]
   rcases jn.mp hb with z|hb
   ·rw [z];exact ⟨qj _, .inr (jy _)⟩
   ·rw [ju.mp hb];exact ⟨qD la, .inl rfl⟩
  ·obtain ⟨e,he,rfl⟩:=hv;have me:e∈es.toList:=(zaI w a ep es).mem_iff.mp (jc (i:=i) (by simpa using he));obtain ⟨tk,ht⟩:=zkF D me;refine ⟨tk,za2 e.2,?_,ht⟩;rw [jh,Array.getElem?_toList,he];rfl
end
section
variable {prog:Program} {w:World} {A:Around} {E:Value->Shared->Prop} {s:Shared} {a I:Addr}
theorem hint_T {ns:List Int} {Q:Bool->Shared->Prop} (ty:s.TypeIs (.ref a) "set") (k:Q false s):wpAny (model prog w) A (Builtin.List.listLengthHint (.ref a)) Q E s:=by
 unfold Builtin.List.listLengthHint;refine jg (wpAny_specialOf ty F.slot_set_len.lookup ?_);dsimp only;rw [show splitId "set.__len__"=some ("set","__len__") by decide+kernel];dsimp only;refine jg (wpAny_isInstance ty sub_set_self ?_);rw [jQ (by simp),jK (by decide+kernel)];exact jg (wpAny_typeOf ty (jr k))
theorem zn1:∀{vs:List Value} {os:List Int},vs.length=os.length->(∀(j:Nat) (v:Value),vs[j]? =some v->∃tk k,os[j]? =some k/\v=Value.int k tk)->PyProof.Rows.IntsAre vs os
 |[],[],_,_=> .nil
 |v::vs,k::os,hl,h=>by
  obtain ⟨tk,k',h1,rfl⟩:=h 0 v rfl;cases h1
  exact .cons k tk (zn1 (by simpa using hl) λj v hv=>by
   obtain ⟨tk,k,h1,h2⟩:=h (j+1) v (by simpa using hv)
   exact ⟨tk,k,by simpa using h1,h2⟩)
 |[],_::_,h,_=>by simp at h
 |_::_,[],h,_=>by simp at h
theorem zon {ns:List Int} {Q:List Value->Shared->Prop} (quiet:A.handled=none) (T:zeZ prog w s.heap a (zmb w) ns) (few:ns.length<1000)
 (k:∀(h':Heap) (d) (tk:Nat) (vs:List Value) (os:List Int),(∀b o,s.heap.get? b=some o->h'.get? b=some o)->s.heap.objs.size<h'.objs.size->PyProof.Rows.IntsAre vs os->os.Perm ns->Q vs {s with heap:=h',drawn:=d,toks:=tk}):wpAny (model prog w) A (collect (.ref a)) Q E s:=by
 have la:a<s.heap.objs.size:=let ⟨_,_,_,_,⟨g,_⟩,_⟩:=T;jv g
 unfold collect;refine jg (wpAny_runValue (JC PySem.F.entry_proto_collect ?_));rw [Jk PySem.F.plain_proto_collect _];show wpAny _ A.in1 (newList []>>=λl=>again (.builtin "list.__iadd__" ⟨[l, .ref a],[]⟩)) _ _ s;refine jg (qU (jr ⟨plainId_quiet PySem.F.plain_list_iadd _,JC PySem.F.entry_list_iadd ?_⟩));rw [Jk PySem.F.plain_list_iadd _];show wpAny _ A.in1 (Builtin.List.listExtendWith (.ref s.heap.objs.size) (.ref a) (.ref s.heap.objs.size)) _ _ _;unfold Builtin.List.listExtendWith;generalize hh1:s.heap.push {cls:= .type "list",data:= .seq ([]:List Value).toArray}=h1;have g1:h1.get? s.heap.objs.size=some {cls:= .type "list",data:= .seq ([]:List Value).toArray}:=by rw [<-hh1];exact jx _ rfl
 have sz1:h1.objs.size=s.heap.objs.size+1:=by rw [<-hh1];exact jT ..
 have k1:∀b o,s.heap.get? b=some o->h1.get? b=some o:=λb o e=>by rw [<-hh1];exact ji _ e
 have T1:zeZ prog w h1 a (zmb w) ns:=T.kept λo e=>k1 a o e;have ty1:Shared.TypeIs {s with heap:=h1} (.ref a) "set":=let ⟨_,_,_,_,⟨g,x,_⟩,_⟩:=T1;⟨_,g,x.1⟩
 have ne:s.heap.objs.size≠a:=Jd la;refine jg (wpAny_typeOf (s:={s with heap:=h1}) ty1 ?_);have c1:Builtin.List.listSameRef (.ref s.heap.objs.size) (.ref a)=false:=by unfold Builtin.List.listSameRef;simpa using ne
 rw [c1,show (Value.type "set"==Value.type "list")=false by decide,show (Value.type "set"==Value.type "tuple")=false by decide,jQ (by simp)];refine jg (iter_T (s:={s with heap:=h1}) T1 few λh2 d I k2 lI hI sz2 W=>?_);dsimp only at k2 lI sz2;have T2:zeZ prog w h2 a (zmb w) ns:=T1.kept λo e=>k2 a o e;have ty2:Shared.TypeIs {s with heap:=h2,drawn:=d} (.ref a) "set":=let ⟨_,_,_,_,⟨g,x,_⟩,_⟩:=T2;⟨_,g,x.1⟩
 refine jg (Jp (hint_T (ns:=ns) (s:={s with heap:=h2,drawn:=d}) ty2 ?_));rw [jK (by decide+kernel)];refine jg (Qj ?_);have g2:=k2 _ _ g1;have g3:=wH (Obj.mapSeq (·.push Value.none)) g2 rfl;have g4:=wH (Obj.mapSeq (·.pop)) g3 rfl;refine jg (show wpAny _ A.in1 (updateSeq s.heap.objs.size (·.push .none)>>=λ_=>updateSeq s.heap.objs.size (·.pop)) _ _ _ from jg (wpAny_updateSeq g2 rfl (wpAny_updateSeq g3 rfl ?_)));obtain ⟨fp,n,P,St,os,st0,mI,bfp,hn,perm,val,Wk⟩:=W
 have out:s.heap.objs.size∉fp:=λz=>by
  rcases (bfp _ z).2 with e|e
  ·exact ne e
  ·dsimp only at e;rw [sz1] at e;exact absurd e (Nat.not_le.mpr (qj _))
 have nsz:n<=sizeLine:=by
  have:=perm.length_eq;rw [sizeLine_eq];omega
 have oth:∀b o,b≠s.heap.objs.size->h2.get? b=some o->((h2.update s.heap.objs.size (Obj.mapSeq (·.push Value.none))).update s.heap.objs.size (Obj.mapSeq (·.pop))).get? b=some o:=
  λb o hb e=>(Jr _ _ (Ne.symm hb)).trans ((Jr _ _ (Ne.symm hb)).trans e)
 have WS:=(Wk A.in1 (by simp [quiet])).toS;refine jr ⟨plainId_quiet PySem.F.plain_extend_loop _,codeAny_extend_loopS WS nsz _ out _ n 0 _ _ _ rfl (wg _) ((Wk A.in1 (by simp [quiet])).frame 0 h2 _ st0 λb hb o e=>oth b o (λz=>out (z▸hb)) e) g4 (ItemsOf.nil P) λs' acc c mv gS items=>?_⟩;refine (show wpAny _ A (load s.heap.objs.size>>=_) _ _ s' from jg (wpAny_load gS (jr ?_)));obtain ⟨h',g',d',tk',os'⟩:=s';have eg:g'=s.gens:=mv.gens;have ed:d'=d:=mv.drawn;have eo:os'=s.os:=mv.os;subst eg;subst ed;subst eo;refine k h' d' tk' acc.toList os (λb o e=>?_) (jv gS) (zn1 ?_ λj v hv=>?_) perm
 ·have hb:b<s.heap.objs.size:=jv e;refine mv.heap b o (λz=>?_) (oth b o (jO hb) (k2 b o (k1 b o e)))
  rcases jn.mp z with z|z
  ·exact absurd hb (by rw [z];exact wv _)
  ·rw [ju.mp z] at hb;rw [sz1] at lI;exact absurd hb (Nat.not_lt.mpr (jS (wj _) lI))
 ·rw [ww,items.1,hn]
 ·obtain ⟨tk,kk,h1',h2'⟩:=val j v (items.2 j v (by simpa using hv));exact ⟨tk,kk,h1',h2'⟩
theorem zoY {ns:List Int} {Q:Value->Shared->Prop} (quiet:A.handled=none) (T:zeZ prog w s.heap a (zmb w) ns) (few:ns.length<64)
 (k:∀(h':Heap) (d) (tk:Nat) (L:Addr) (out:Array Value) (os:List Int) (e:Nat),(∀b o,s.heap.get? b=some o->h'.get? b=some o)->s.heap.objs.size<=L->h'.get? L=some (PyProof.Rows.seqObj "list" out e)->PyProof.Rows.IntsAre out.toList os->os.Perm ns->os.Pairwise (·<=·)->Q (.ref L) {s with heap:=h',drawn:=d,toks:=tk}):
 wpAny (model prog w) A (call (.builtin "sorted") [.ref a]) Q E s:=by
 refine Calls.call_function_entry PyProof.Rows.kind_sorted PyProof.Rows.plain_sorted PyProof.Rows.entry_sorted (PyProof.Rows.args_sorted1 _) ?_;unfold Builtin.«sorted»;refine jg (m:=checkCount "sorted" 1 1 _) (jr (jg (zon (by simp [quiet]) T (by omega) λh1 d tk vs os keep lt isI perm=>jg (wpAny_newList ?_ (by rw [sizeLine_eq,isI.length,perm.length_eq];omega)))));have gL:(h1.push (PyProof.Rows.seqObj "list" vs.toArray 0)).get? h1.objs.size=some (PyProof.Rows.seqObj "list" vs.toArray 0):=jx _ rfl
 have lv:vs.length<64:=by
  have e1:=isI.length;have e2:=perm.length_eq;omega
 show wpAny _ _ _ _ _ {s with heap:=h1.push (PyProof.Rows.seqObj "list" vs.toArray 0),drawn:=d,toks:=tk};refine jg (Jp (qT PyProof.Rows.slot_list_sort ⟨_,gL,rfl⟩ PyProof.Rows.entry_list_sort (PyProof.Rows.list_sort_tree (s:={s with heap:=h1.push (PyProof.Rows.seqObj "list" vs.toArray 0),drawn:=d,toks:=tk}) gL isI lv λout os' a1 a2 a3=>⟨_,rfl,?_⟩) (PyProof.Rows.args_list_sort _)));obtain ⟨e,he⟩:=PyProof.Rows.sortedHeap_at (out:=out) gL;refine jr ⟨_,rfl,k _ d tk _ out os' e (λb o g=>?_) (JP lt) he a1 (a2.trans perm) a3⟩;have lb:b<h1.objs.size:=jv (keep b o g);rw [PyProof.Rows.sortedHeap_old (jO lb) (by rw [jT];exact qD lb)];exact ji _ (keep b o g)
end
end S
namespace S
open PySem PySem.Spec PyProof.Rows L2
theorem zeZ.nodup {prog:Program} {w:World} {h:Heap} {a:Addr} {b:Bool} {ns:List Int} (T:zeZ prog w h a b ns):ns.Nodup:=let ⟨_,_,_,_,_,_,_,_,nd⟩:=T;nd
theorem bt_set:bootBuiltins "set"=some (.type "set"):=by decide+kernel
theorem zl3:bootBuiltins "sorted"=some (.builtin "sorted"):=by decide+kernel
theorem le_lt:∀{l:List Int},l.Pairwise (·<=·)->l.Nodup->l.Pairwise (·<·)
 |[],_,_=>List.Pairwise.nil
 |x::l,h,nd=>by
  obtain ⟨h1,h2⟩:=jo.mp h;obtain ⟨n1,n2⟩:=qM.mp nd;refine jo.mpr ⟨λy hy=>?_,le_lt h2 n2⟩;have:=h1 y hy;have:x≠y:=λe=>n1 (e▸hy);omega
section
variable {X:Cx}
theorem Inv.redrawn {pins:List (Addr×Obj)} {σ:L2.St} {H:Hp} {s:Shared} {d:Drawn} (I:Inv X pins σ H s):Inv X pins σ H {s with drawn:=d}:=⟨I.ok,I.os,I.bare,I.base,I.loc,I.cell,I.free,I.freeC,I.pin,I.hok,I.len⟩
def zm9 (K:PySem.W.Frag):V->Hp->VK->Prop:=λx H1 Q=>∃(p:Addr) (ns:List Int),x= .ref p/\SqL K H1 p (ns.map V.int)/\ns.length<60/\∀(os:List Int) (l:Addr),os.Pairwise (·<·)->(∀k,k∈os↔k∈ns)->H1 l=none->Q (.ref l) (upd H1 l (.lst (os.map V.int)))
def zqA (K:PySem.W.Frag) (te:TE):TE:=λσ H Q=>te σ H λx H1=>zm9 K x H1 Q
theorem zcb:∀{ns:List Int} {us:List Value},IntsAre us ns->Zw (ns.map V.int) us
 |[],_, .nil=> .nil
 |n::ns,_, .cons _ t r=> .cons ⟨t,rfl⟩ (zcb r)
theorem zaH {e:Expr} {te:TE} {p1 p2 q1 q2:Pos} (hc:X.calm=true) (g1:Gl X "sorted") (m1:X.mg "sorted"=none) (g2:Gl X "set") (m2:X.mg "set"=none) (he:PE X e te)
 (st1:starEach [.Call (.Name "set" p2) [e] [] q2] X.env=[(false,eval (.Call (.Name "set" p2) [e] [] q2) X.env)]:=by rfl) (st2:starEach [e] X.env=[(false,eval e X.env)]:=by rfl):
 PE X (.Call (.Name "sorted" p1) [.Call (.Name "set" p2) [e] [] q2] [] q1) (zqA X.K te):=by
 intro pins s σ H Q I h;refine wL (zaO I g1 m1 zl3 ?_ (by decide) (by decide));refine PyProof.Rows.callWith_builtin1 ?_ st1 (by rfl);rw [st1];show wpAny _ _ (spliced ((false,eval (.Call (.Name "set" p2) [e] [] q2) X.env)::backTo q1 (starEach [] X.env))) _ _ s;refine Calls.spliced_cons ?_;refine wL (zaO I g2 m2 bt_set ?_ (by decide) (by decide));refine wa (thn ((zg he zk st2) q2 pins s σ H (λvs H1=>match vs with|[x]=>zm9 X.K x H1 Q|_=>False) I h) λus s1 ⟨vs,H1,I1,r1,r2⟩=>?_) st2 (by rfl)
 match vs,r1,r2 with
 |[x],r1,r2=>
  obtain ⟨p,ns,rfl,hq,few,k⟩:=r2;obtain ⟨u,rfl,rx⟩:=zc0 r1;cases rx;obtain ⟨its,rv,pl,_⟩:=I1.list hq;have hi:=Wr rv;have hl:=hi.length;have quiet:=I1.ok.hd hc;refine zlZ quiet pl.isList (by simpa using hi) (by simpa using (by omega:its.length<900)) λh2 tk2 T hT hx hlT keep2=>?_;refine Calls.spliced_nil ?_;have kp2:∀b o,s1.heap.get? b=some o->h2.get? b=some o:=λb o e=>keep2 b o (jv e) e;have I2:Inv X pins σ H1 {s1 with heap:=h2,toks:=tk2}:=I1.kept (t':=tk2) kp2;refine zoY (s:={s1 with heap:=h2,toks:=tk2}) quiet hT (by omega) λh3 d tk3 L out os e keep3 le gL isO perm sorted=>?_;have I3:=Inv.redrawn (d:=d) I2;have nd:os.Nodup:=perm.nodup_iff.mpr hT.nodup;have lo:=isO.length;have po:=perm.length_eq;have I4:Inv X pins σ (upd H1 L (.lst (os.map V.int))) {s1 with heap:=h3,drawn:=d,toks:=tk3}:=I3.laid (t':=tk3) keep3 le (show Xi X.prog X.w _ _ _ (.lst (os.map V.int)) from ⟨?_,out.toList,e,zcb isO,?_⟩)
  ·exact ⟨.ref L,_,I4,rfl,k os L (le_lt sorted nd) (λx=>by rw [perm.mem_iff];exact hx x) (I2.hok.fresh le)⟩
  ·rw [ja,sizeLine_eq];omega
  ·simpa using gL
end
section
variable {X:Cx}
def rMinT (K:PySem.W.Frag):List V->Hp->VK->Prop:=λxs H Q=>∃(p:Addr) (ns:List Int),xs=[.ref p]/\SqT K H p (ns.map V.int)/\0<ns.length/\∀m,m∈ns->(∀x∈ns,m<=x)->Q (.int m) H
def zr0 (K:PySem.W.Frag):List V->Hp->VK->Prop:=λxs H Q=>∃(p:Addr) (ns:List Int),xs=[.ref p]/\SqL K H p (ns.map V.int)/\0<ns.length/\∀m,m∈ns->(∀x∈ns,x<=m)->Q (.int m) H
theorem Ug {its:List Value} {ns:List Int} (hi:IntsAre its ns):∀(i:Nat) (v:Value),its.toArray[i]? =some v->∃t,v= .int ((λi=>ns.getD i 0) i) t:=λi v hv=>PyProof.Rows.IntsAre.int_at hi i v (by simpa using hv)
theorem zop (hc:X.calm=true):Vm X (.builtin "min") (rMinT X.K):=by
 intro pins s σ H xs us Q I r h;obtain ⟨p,ns,rfl,hq,hne,q⟩:=h;obtain ⟨u,rfl,rx⟩:=zc0 r;cases rx;obtain ⟨its,rv,ht,hz⟩:=I.tuple hq;have hi:=Wr rv;have hl:=hi.length;have below:p≠s.heap.objs.size:=let ⟨_,e,_⟩:=ht;jO (jv e)
 refine call_min_walk (wl ht ⟨_,_,_,_,_,_,_,rfl,Walks.tuple (A:=X.A.in1) (I.ok.hd hc) _ p below its.toArray,⟨⟨_,jx _ rfl,rfl,rfl⟩,ht.push _⟩,λb hb=>?_,by simpa using (by omega:0<its.length),CmpOf.ints_lt (λi=>ns.getD i 0) (Ug hi),λv h' tk hP hk=>?_⟩)
 ·rw [jT]
  rcases jn.mp hb with z|z
  ·rw [z];exact qj _
  ·rw [ju.mp z];obtain ⟨_,e,_⟩:=ht;exact qD (jv e)
 ·obtain ⟨t,rfl⟩:=Ug hi _ v hP;obtain ⟨h1,h2⟩:=argBest_lt (λi=>ns.getD i 0) (its.toArray.size - 1);have szn:its.toArray.size=ns.length:=by simpa using hl
  rw [szn] at h1 h2;rw [szn];refine ⟨.int _,H,I.kept (t':=tk) λb o e=>hk b o (λz=>?_) (ji _ e),⟨t,rfl⟩,q _ ?_ λx hx=>?_⟩
  ·rw [ju.mp z] at e;exact absurd (jv e) (wv _)
  ·dsimp only;rw [jm,jb (by omega)];exact qa _
  ·obtain ⟨j,hj,rfl⟩:=jR hx;have:=h2 j (by omega);rwa [show ns.getD j 0=ns[j] by rw [jm,jb hj];rfl] at this
theorem zic (hc:X.calm=true):Vm X (.builtin "max") (zr0 X.K):=by
 intro pins s σ H xs us Q I r h;obtain ⟨p,ns,rfl,hq,hne,q⟩:=h;obtain ⟨u,rfl,rx⟩:=zc0 r;cases rx;obtain ⟨its,rv,pl,hz⟩:=I.list hq;have ht:=pl.isList;have hi:=Wr rv;have hl:=hi.length;have below:p≠s.heap.objs.size:=let ⟨_,e,_⟩:=ht;jO (jv e)
 refine call_max_walk (wE ht ⟨_,_,_,_,_,_,_,rfl,Walks.list (A:=X.A.in1) (I.ok.hd hc) _ p below its.toArray,⟨⟨_,jx _ rfl,rfl,rfl⟩,ht.push _⟩,λb hb=>?_,by simpa using (by omega:0<its.length),CmpOf.ints_gt (λi=>ns.getD i 0) (Ug hi),λv h' tk hP hk=>?_⟩)
 ·rw [jT]
  rcases jn.mp hb with z|z
  ·rw [z];exact qj _
  ·rw [ju.mp z];obtain ⟨_,e,_⟩:=ht;exact qD (jv e)
 ·obtain ⟨t,rfl⟩:=Ug hi _ v hP;obtain ⟨h1,h2⟩:=argBest_gt (λi=>ns.getD i 0) (its.toArray.size - 1);have szn:its.toArray.size=ns.length:=by simpa using hl
  rw [szn] at h1 h2;rw [szn];refine ⟨.int _,H,I.kept (t':=tk) λb o e=>hk b o (λz=>?_) (ji _ e),⟨t,rfl⟩,q _ ?_ λx hx=>?_⟩
  ·rw [ju.mp z] at e;exact absurd (jv e) (wv _)
  ·dsimp only;rw [jm,jb (by omega)];exact qa _
  ·obtain ⟨j,hj,rfl⟩:=jR hx;have:=h2 j (by omega);rwa [show ns.getD j 0=ns[j] by rw [jm,jb hj];rfl] at this
end
theorem zcd {m:Nat} {k a b c:zh} (hab:a.1<b.1) (lk:k.2.length=m) (la:a.2.length=m) (h1:yh k a b) (h2:yh a b c):yh k b c:=λi K B C hK hB hC=>by
 have hi:i<m:=by rw [<-lk];exact (je.mp hK).1
 have hA:=jb (l:=a.2) (i:=i) (by omega);have e1:=h1 i K _ B hK hA hB;have e2:=h2 i _ B C hA hB hC;generalize a.2[i]=A at*;have e3:(B - K)*(b.1 - a.1)=(B - A)*(b.1 - k.1):=by grind
 have e4:(C - K)*(b.1 - a.1)=(B - A)*(c.1 - k.1):=by grind
 have e5:((B - K)*(c.1 - k.1) - (C - K)*(b.1 - k.1))*(b.1 - a.1)=0:=by
  have:((B - K)*(c.1 - k.1) - (C - K)*(b.1 - k.1))*(b.1 - a.1)=((B - K)*(b.1 - a.1))*(c.1 - k.1) - ((C - K)*(b.1 - a.1))*(b.1 - k.1):=by grind
  rw [this,e3,e4];grind
 have:=yl e5 (ZB hab)
 grind
theorem zcV {m:Nat} {c d:zh} {e:Rat} (lc:c.2.length=m) (ld:d.2.length=m):(WH c d e).length=m:=by
 unfold WH;rw [jA,lc,ld];exact qI _
theorem zi2 {m:Nat} {a b c:zh} {r:List zh} {e:Rat} (hab:a.1<b.1) (hbc:b.1<c.1) (la:a.2.length=m) (lb:b.2.length=m) (lc:c.2.length=m) (st:yh a b c) (hae:a.1<=e):zo (a::b::c::r) e=zo (a::c::r) e:=by
 have hac:=xX hab hbc
 by_cases h1:e<b.1
 ·rw [zo,jK h1,zo,jK (xX h1 hbc)];refine (UX hac (by rw [la,lc]) (by rw [la,zcV la lb]) λi p q z hp hq hz=>?_).symm;obtain ⟨p',b',hp',hb',ez⟩:=Xf hz;rw [hp] at hp';cases hp';have l1:=xS (x:=p) (y:=b') (E:=e) hab;rw [<-ez] at l1;have s:=st i p b' q hp hb' hq
  have:((z - p)*(c.1 - a.1) - (q - p)*(e - a.1))*(b.1 - a.1)=0:=by
   have:((z - p)*(c.1 - a.1) - (q - p)*(e - a.1))*(b.1 - a.1)=((z - p)*(b.1 - a.1))*(c.1 - a.1) - ((q - p)*(b.1 - a.1))*(e - a.1):=by grind
   rw [this,l1,<-s];grind
  have:=yl this (ZB hab)
  grind
 ·rw [ym (qh.mp h1)]
  by_cases h2:e<c.1
  ·rw [zo,jK h2,zo,jK h2];refine (UX hac (by rw [la,lc]) (by rw [la,zcV lb lc]) λi p q z hp hq hz=>?_).symm;obtain ⟨b',q',hb',hq',ez⟩:=Xf hz;rw [hq] at hq';cases hq';have l1:=xS (x:=b') (y:=q) (E:=e) hbc;rw [<-ez] at l1;have s:=st i p b' q hp hb' hq;have s1:(b' - p)*(c.1 - b.1)=(q - b')*(b.1 - a.1):=by grind
   have:((z - p)*(c.1 - a.1) - (q - p)*(e - a.1))*(c.1 - b.1)=0:=by
    have k1:(z - p)*(c.1 - b.1)=(e - b.1)*(q - b')+(b' - p)*(c.1 - b.1):=by grind
    have k2:((z - p)*(c.1 - a.1) - (q - p)*(e - a.1))*(c.1 - b.1)=((z - p)*(c.1 - b.1))*(c.1 - a.1) - (q - p)*(e - a.1)*(c.1 - b.1):=by grind
    rw [k2,k1,s1]
    grind
   have:=yl this (ZB hbc)
   grind
  ·rw [ym (qh.mp h2),ym (qh.mp h2)]
theorem zbC {m:Nat} {e:Rat}:∀(r:List zh) (k a b:zh),yU (k::b::r)->(∀x∈k::b::r,x.2.length=m)->k.1<=e->(a=k\/(k.1<a.1/\a.1<b.1/\a.2.length=m/\yh k a b))->
 zo (k::yD a (b::r)) e=zo (k::b::r) e
 |[],k,a,b,_,_,_,_=>by rw [yD]
 |c::r,k,a,b,hr,hl,hk,ha=>by
  obtain ⟨h1,h2⟩:=jo.mp hr;obtain ⟨h3,h4⟩:=jo.mp h2;have hkb:=h1 b (jd ..);have hbc:=h3 c (jd ..);have lk:=hl k (jd ..);have lb:=hl b (jf _ (jd ..));have lc:=hl c (jf _ (jf _ (jd ..)));rw [yD]
  split
  ·rename_i st
   have st':yh k b c:=by
    rcases ha with rfl|⟨_,hab,la,s0⟩
    ·exact st
    ·exact zcd hab lk la s0 st
   have rk:yU (k::c::r):=jo.mpr ⟨λx hx=>h1 x (jf _ hx),h4⟩
   rw [zbC r k b c rk (λx hx=>hl x (by
    rcases jn.mp hx with rfl|hx
    ·exact jd ..
    ·exact jf _ (jf _ hx))) hk (.inr ⟨hkb,hbc,lb,st'⟩),zi2 hkb hbc lk lb lc st' hk]
  ·by_cases h5:e<b.1
   ·rw [zo,jK h5,zo,jK h5]
   ·rw [ym (qh.mp h5),ym (qh.mp h5)];exact zbC r b b c h2 (λx hx=>hl x (jf _ hx)) (qh.mp h5) (.inl rfl)
theorem zgL {m:Nat} {e:Rat} {c:zh} {r:List zh} (hr:yU (c::r)) (hl:∀x∈c::r,x.2.length=m) (hc:c.1<=e):zo (yR (c::r)) e=zo (c::r) e:=by
 rw [yR]
 cases r with
 |nil=>rw [yD]
 |cons b r=>exact zbC r c c b hr hl hc (.inl rfl)
theorem VL {e:Rat} {M:List zh}:∀{c:zh} {r:List zh},c.1<=e->e<(lastC (c::r)).1->zo (c::r++M) e=zo (c::r) e
 |c,[],hc,he=>absurd he (qh.mpr hc)
 |c,d::r,hc,he=>by
  rw [qE,qE,zo,zo]
  by_cases h:e<d.1
  ·rw [jK h,jK h]
  ·rw [jQ h,jQ h];rw [YA] at he;exact VL (c:=d) (r:=r) (qh.mp h) he
theorem YT {e:Rat} {M:List zh}:∀{c:zh} {r:List zh},yU (c::r)->(lastC (c::r)).1<=e->zo (c::r++M) e=zo (lastC (c::r)::M) e
 |c,[],_,_=>rfl
 |c,d::r,hr,he=>by
  have h2:=(jo.mp hr).2;rw [YA] at he⊢
  have hd:d.1<=e:=by
   refine qG ?_ he
   have m:lastC (d::r)∈d::r:=by
    unfold lastC;rw [qd (by simp)];exact List.getLast_mem _
   rcases jn.mp m with z|z
   ·rw [z];exact jP
   ·exact jC ((jo.mp h2).1 _ z)
  rw [qE,qE,ym hd];exact YT h2 he
theorem zos {m:Nat} {c q d:zh} {e:Rat} (lc:c.2.length=m) (lq:q.2.length=m) (ld:d.2.length=m):WH (Uv c q) (Uv c d) e=List.zipWith (·+·) c.2 (WH q d (e - c.1)):=by
 have et:(e - (Uv c q).1) / ((Uv c d).1 - (Uv c q).1)=(e - c.1 - q.1) / (d.1 - q.1):=by
  show (e - (c.1+q.1)) / ((c.1+d.1) - (c.1+q.1))=_;rw [show e - (c.1+q.1)=e - c.1 - q.1 by grind,show c.1+d.1 - (c.1+q.1)=d.1 - q.1 by grind]
 unfold WH;rw [et];generalize (e - c.1 - q.1) / (d.1 - q.1)=t;show List.zipWith (ZE t) (List.zipWith (·+·) c.2 q.2) (List.zipWith (·+·) c.2 d.2)=_
 apply qu
 ·simp only [jA];omega
 ·intro i h1 h2;simp only [jX];unfold ZE
  grind
theorem zdD {m:Nat} {c:zh} {e:Rat} (lc:c.2.length=m):∀{q:zh} {r:List zh},(∀x∈q::r,x.2.length=m)->zo ((q::r).map (Uv c)) e=List.zipWith (·+·) c.2 (zo (q::r) (e - c.1))
 |q,[],_=>rfl
 |q,d::r,h=>by
  rw [jq,jq,zo,zo]
  have hd:e<(Uv c d).1↔e - c.1<d.1:=by
   show e<c.1+d.1↔_
   constructor<;>intro h<;>grind
  by_cases h1:e - c.1<d.1
  ·rw [jK h1,jK (hd.mpr h1)];exact zos lc (h q (jd ..)) (h d (jf _ (jd ..)))
  ·rw [jQ h1,jQ λz=>h1 (hd.mp z)];have:=zdD (e:=e) lc (q:=d) (r:=r) λx hx=>h x (jf _ hx);rw [jq] at this;exact this
theorem zoe {a b p:Rat} (hp:0<p):a<b*p↔a / p<b:=by
 have hne:p≠0:=λz=>by rw [z] at hp;exact wQ hp
 have hc:a=a / p*p:=by rw [qY,Rat.mul_assoc,Rat.inv_mul_cancel _ hne,Rat.mul_one]
 constructor
 ·intro h;refine we.mp λhle=>?_;have:=Rat.mul_le_mul_of_nonneg_right hle (jC hp);rw [<-hc] at this;exact qh.mpr this h
 ·intro h;have:=Rat.mul_lt_mul_of_pos_right h hp;rwa [<-hc] at this
theorem VJ {p e:Rat} (hp:0<p):∀{a:List zh},zo (yj p a) e=(zo a (e / p)).map (·*p)
 |[]=>rfl
 |[c]=>rfl
 |c::d::r=>by
  have ih:=VJ (e:=e) hp (a:=d::r);unfold yj at*;rw [jq,jq,zo,zo]
  by_cases h:e / p<d.1
  ·rw [jK h,jK ((zoe hp).mpr h)];have hne:p≠0:=λz=>by rw [z] at hp;exact wQ hp
   have et:(e - c.1*p) / (d.1*p - c.1*p)=(e / p - c.1) / (d.1 - c.1):=by
    have i1:=qQ p hne
    have k1:e - c.1*p=(e / p - c.1)*p:=by
     rw [qY];generalize p⁻¹=j at*;grind
    have k2:d.1*p - c.1*p=(d.1 - c.1)*p:=by grind
    rw [k1,k2]
    by_cases z:d.1 - c.1=0
    ·rw [z,JT,qY,Rat.inv_zero,Rat.mul_zero,qY,Rat.inv_zero,Rat.mul_zero]
    ·have z2:(d.1 - c.1)*p≠0:=λh=>z (yl h hne);have i2:=qQ _ z;have i3:=qQ _ z2;rw [qY,qY ((e / p - c.1))];generalize (d.1 - c.1)⁻¹=j at*;generalize ((d.1 - c.1)*p)⁻¹=l at*;generalize e / p - c.1=u at*;generalize d.1 - c.1=v at*;have:u*p*l=u*p*l*(v*j):=by rw [i2,Rat.mul_one]
     rw [this];have:u*p*l*(v*j)=u*j*(v*p*l):=by grind
     rw [this,i3,Rat.mul_one]
   unfold WH;dsimp only;rw [et];generalize (e / p - c.1) / (d.1 - c.1)=t
   apply qu
   ·simp
   ·intro i h1 h2;simp only [jX,wD];unfold ZE
    grind
  ·rw [jQ h,jQ λz=>h ((zoe hp).mp z)];rw [jq] at ih;exact ih
def mn (a l:Rat):Rat:=if a<=l then a else l
theorem zqQ (a l:Int):((min a l:Int):Rat)=mn (a:Rat) (l:Rat):=by
 unfold mn
 by_cases h:a<=l
 ·rw [jK (qb.mpr h),Int.min_eq_left h]
 ·rw [jQ λz=>h (qb.mp z),Int.min_eq_right (by omega)]
theorem mn_mix {a x y t:Rat} (t0:0<=t) (t1:t<=1) (h:(a<=x/\a<=y)\/(x<=a/\y<=a)):ZE t (mn a x) (mn a y)=mn a (ZE t x y):=by
 rcases h with ⟨h1,h2⟩|⟨h1,h2⟩
 ·have e1:mn a x=a:=by unfold mn;rw [jK h1]
  have e2:mn a y=a:=by unfold mn;rw [jK h2]
  have r:a<=ZE t x y:=by
   have a1:=jW t0 (show 0<=y - a by grind);have a2:=jW (show 0<=1 - t by grind) (show 0<=x - a by grind);unfold ZE;grind
  have e3:mn a (ZE t x y)=a:=by unfold mn;rw [jK r]
  rw [e1,e2,e3];unfold ZE;grind
 ·have m:∀z,z<=a->mn a z=z:=λz hz=>by
   unfold mn
   split
   ·exact wK (by assumption) hz
   ·rfl
  have r:ZE t x y<=a:=by
   have a1:=jW t0 (show 0<=a - y by grind);have a2:=jW (show 0<=1 - t by grind) (show 0<=a - x by grind);unfold ZE;grind
  rw [m x h1,m y h2,m _ r]
theorem zll {s d e:Rat} (h:s<d) (h1:s<=e) (h2:e<d):0<=(e - s) / (d - s)/\(e - s) / (d - s)<=1:=by
 have hp:0<d - s:=by grind
 have hi:=qQ _ (ZB h);have ip:0<(d - s)⁻¹:=Rat.inv_pos.mpr hp;rw [qY];have a1:=jW (show 0<=e - s by grind) (jC ip);have a2:=jW (show 0<=d - e by grind) (jC ip);generalize (d - s)⁻¹=j at*
 constructor
 ·exact a1
 ·grind
theorem zmF {as ls:List Int} {G:Rat->Rat->Rat} {C:Int->zh} (hC:∀l,(C l).2=as.map λ(a:Int)=>G (a:Rat) (l:Rat)) (rise:yU (ls.map C)) (nn:∀l∈ls,0<=l)
 (mix:∀(i:Nat) (l l':Int),ls[i]? =some l->ls[i+1]? =some l'->∀a∈as,∀t:Rat,0<=t->t<=1->ZE t (G (a:Rat) (l:Rat)) (G (a:Rat) (l':Rat))=G (a:Rat) (ZE t (l:Rat) (l':Rat)))
 {e:Rat} {l0:Int} (h0:ls[0]? =some l0) (he:(C l0).1<=e):∃z:Rat,0<=z/\zo (ls.map C) e=as.map λ(a:Int)=>G (a:Rat) z:=by
 obtain ⟨i,q,hq,hqe,nx⟩:=zgU (M:=yr (ls.map C)) (z:=(C l0).1) (by unfold yr;rw [js,jh,h0];rfl) he;unfold yr at hq nx;obtain ⟨c,hc,rfl⟩:=zZ hq;obtain ⟨l,hl,rfl⟩:=zZ hc;have l0':(0:Rat)<=(l:Rat):=by exact_mod_cast Rat.intCast_nonneg.mpr (nn l (jc hl))
 have key:=Yd (E:=e) rise hc hqe (by
  rcases nx with h|⟨r,hr,h⟩
  ·left;simpa using h
  ·obtain ⟨d,hd,rfl⟩:=zZ hr
   exact .inr ⟨d,hd,h⟩)
 rcases nx with h|⟨r,hr,h⟩
 ·rw [jE (by simp only [ja] at h⊢;omega)] at key;refine ⟨l,l0',?_⟩;rw [key];exact hC l
 ·obtain ⟨d,hd,rfl⟩:=zZ hr;obtain ⟨l',hl',rfl⟩:=zZ hd;rw [hd] at key;have l1':(0:Rat)<=(l':Rat):=by exact_mod_cast Rat.intCast_nonneg.mpr (nn l' (jc hl'))
  have hlt:(C l).1<(C l').1:=by
   have:=zdq (M:=yr (ls.map C)) (WT rise) (j:=i) (by unfold yr;rw [jh,hc];rfl) (by unfold yr;rw [jh,hd];rfl);exact this
  obtain ⟨t0,t1⟩:=zll hlt hqe h;refine ⟨ZE ((e - (C l).1) / ((C l').1 - (C l).1)) l l',?_,?_⟩
  ·have a1:=jW t0 l1';have a2:=jW (show 0<=1 - (e - (C l).1) / ((C l').1 - (C l).1) by grind) l0';unfold ZE;grind
  ·rw [key];show WH (C l) (C l') e=_;unfold WH;generalize (e - (C l).1) / ((C l').1 - (C l).1)=t at*;rw [hC,hC]
   apply qu
   ·simp
   ·intro j h1 h2;simp only [jX,wD];exact mix i l l' hl hl' _ (qa _) t t0 t1
theorem zdC {m:Nat} {e:Rat}:∀{c:zh} {r:List zh},yU (c::r)->(∀x∈c::r,x.2.length=m/\yb x.2=x.1)->c.1<=e->e<=(lastC (c::r)).1->yb (zo (c::r) e)=e
 |c,[],_,h,hc,hl=>by
  have e1:e=c.1:=wK hl hc;rw [e1];exact (h c (jd ..)).2
 |c,d::r,hr,h,hc,hl=>by
  have hcd:=(jo.mp hr).1 d (jd ..);have hc':=h c (jd ..);have hd':=h d (jf _ (jd ..))
  by_cases hd:d.1<=e
  ·rw [ym hd];exact zdC (jo.mp hr).2 (λx hx=>h x (jf _ hx)) hd (by rw [<-YA c];exact hl)
  ·have hud:e<d.1:=we.mp hd;rw [zo,jK hud];unfold WH;rw [zfX _ _ _ (by rw [hc'.1,hd'.1]),hc'.2,hd'.2];have l1:=xS (x:=c.1) (y:=d.1) (E:=e) hcd;have:=yl (a:=ZE ((e - c.1) / (d.1 - c.1)) c.1 d.1 - e) (b:=d.1 - c.1) (by grind) (ZB hcd)
   grind
theorem zdE {c:zh} {r:List zh} {e:Rat} (hr:yU (c::r)) (he:(lastC (c::r)).1<=e):zo (c::r) e=(lastC (c::r)).2:=by
 have:=YT (M:=[]) hr he;rw [wW] at this;rw [this];rfl
def yp (h:List Int):zh:=((h.sum:Int),h.map λ(x:Int)=>(x:Rat))
theorem zag:∀h:List Int,yb (h.map λ(x:Int)=>(x:Rat))=((h.sum:Int):Rat)
 |[]=>rfl
 |x::h=>by rw [jq,yb,zag h,jM,Rat.intCast_add]
theorem za7 {f g:Int->Int}:∀{as:List Int},(∀a∈as,f a<=g a)->(as.map f).sum<=(as.map g).sum
 |[],_=>JO _
 |a::as,h=>by
  have ih:=za7 λx hx=>h x (jf _ hx);have:=h a (jd ..);rw [jq,jq,jM,jM];omega
theorem za6 {f g:Int->Int}:∀{as:List Int} {b:Int},(∀a∈as,f a<=g a)->b∈as->f b<g b->(as.map f).sum<(as.map g).sum
 |[],b,_,hb,_=>by simp at hb
 |a::as,b,h,hb,hlt=>by
  rw [jq,jq,jM,jM];have ha:=h a (jd ..)
  rcases jn.mp hb with rfl|hb
  ·have:=za7 λx hx=>h x (jf _ hx);omega
  ·have:=za6 (λx hx=>h x (jf _ hx)) hb hlt;omega
structure LvOk (as ls:List Int):Prop where
 rise:ls.Pairwise (·<·)
 mem:∀k,k∈ls↔k=0\/k∈as
 nn:∀a∈as,0<=a
def Vn (as:List Int) (l:Int):List Int:=as.map λa=>min a l
def zaP (as:List Int) (l:Int):List Int:=as.map λa=>a - min a l
def evP (as ls:List Int):List zh:=ls.map λl=>yp (Vn as l)
def loP (as ls:List Int):List zh:=ls.reverse.map λl=>yp (zaP as l)
section
variable {as ls:List Int}
theorem LvOk.nnL (h:LvOk as ls):∀l∈ls,0<=l:=λl hl=>by
 rcases (h.mem l).mp hl with rfl|z
 ·exact JO _
 ·exact h.nn l z
theorem LvOk.zero (h:LvOk as ls):ls[0]? =some 0:=by
 have m0:(0:Int)∈ls:=(h.mem 0).mpr (.inl rfl)
 cases ls with
 |nil=>simp at m0
 |cons a l=>
  have ha:=h.nnL a (jd ..)
  rcases jn.mp m0 with e|e
  ·rw [e];rfl
  ·have:=(jo.mp h.rise).1 0 e;omega
theorem LvOk.gap (h:LvOk as ls) {i:Nat} {l l' a:Int} (hl:ls[i]? =some l) (hl':ls[i+1]? =some l') (ha:a∈as):a<=l\/l'<=a:=by
 have m:=(h.mem a).mpr (.inr ha);obtain ⟨j,hj,ej⟩:=jR m;obtain ⟨li,ei⟩:=je.mp hl;obtain ⟨li',ei'⟩:=je.mp hl';have P:=jN.mp h.rise
 rcases Nat.lt_or_ge j (i+1) with c|c
 ·left
  by_cases e:j=i
  ·subst e;rw [<-ej,<-ei];exact JO _
  ·have:=P j i hj li (by omega);rw [ej,ei] at this;omega
 ·right
  by_cases e:j=i+1
  ·subst e;rw [<-ej,<-ei'];exact JO _
  ·have:=P (i+1) j li' hj (by omega);rw [ej,ei'] at this;omega
theorem LvOk.sumlt (h:LvOk as ls) {l l':Int} (hl:l∈ls) (hl':l'∈ls) (lt:l<l'):(Vn as l).sum<(Vn as l').sum:=by
 have m:l'∈as:=((h.mem l').mp hl').resolve_left (by have:=h.nnL l hl;omega);exact za6 (λa _=>by omega) m (by omega)
theorem zkv:∀(as:List Int) (l:Int),(zaP as l).sum=as.sum - (Vn as l).sum
 |[],_=>rfl
 |a::as,l=>by
  have:=zkv as l;unfold zaP Vn at*;rw [jq,jq,jM,jM,jM,this];omega
theorem LvOk.riseE (h:LvOk as ls):yU (evP as ls):=by
 unfold yU evP;rw [qi];exact h.rise.imp_of_mem λ{a b} ha hb lt=>Jt.mpr (h.sumlt ha hb lt)
theorem LvOk.top (h:LvOk as ls):∃t,ls.getLast? =some t/\∀a∈as,a<=t:=by
 have ne:ls≠[]:=λe=>by have:=h.zero;rw [e] at this;simp at this
 refine ⟨_,qd ne,λa ha=>?_⟩;have m:=(h.mem a).mpr (.inr ha);rw [<-Jv ne] at m;have R:=h.rise;rw [<-Jv ne] at R
 rcases jV.mp m with z|z
 ·exact Jn ((qJ.mp R).2.2 a z _ (by simp))
 ·rw [ju.mp z];exact JO _
theorem zsj {t:Int} (h:∀a∈as,a<=t):Vn as t=as:=by
 unfold Vn
 conv=>rhs;rw [<-List.map_id as]
 exact jF λa ha=>by show min a t=a;have:=h a ha;omega
theorem zkn (h:∀a∈as,0<=a):Vn as 0=Xa as.length:=by
 unfold Vn Xa;rw [<-wX];exact jF λa ha=>by have:=h a ha;omega
theorem LvOk.evenly (h:LvOk as ls) {e:Rat} (h0:0<=e):∃z:Rat,0<=z/\zo (evP as ls) e=as.map λ(a:Int)=>mn (a:Rat) z:=by
 refine zmF (G:=mn) (C:=λl=>yp (Vn as l)) (λl=>?_) h.riseE h.nnL (λi l l' hl hl' a ha t t0 t1=>mn_mix t0 t1 ?_) h.zero ?_
 ·unfold yp Vn;rw [js];exact jF λa _=>zqQ a l
 ·obtain ⟨li,ei⟩:=je.mp hl;obtain ⟨li',ei'⟩:=je.mp hl';have lt:=jN.mp h.rise i (i+1) li li' (by omega);rw [ei,ei'] at lt
  rcases h.gap hl hl' ha with z|z
  ·exact .inl ⟨qb.mpr z,qb.mpr (by omega)⟩
  ·exact .inr ⟨qb.mpr (by omega),qb.mpr z⟩
 ·show ((Vn as 0).sum:Rat)<=e;rw [zkn h.nn,zhj];exact h0
end
section
variable {as ls:List Int}
theorem zoc (h:LvOk as ls):∃r,evP as ls=yp (Xa as.length)::r:=by
 have z:=h.zero
 cases ls with
 |nil=>simp at z
 |cons a l=>
  have:a=0:=by simpa using z
  subst this;exact ⟨_,by unfold evP;rw [jq,zkn h.nn]⟩
theorem zkE (h:LvOk as ls):lastC (evP as ls)=yp as:=by
 obtain ⟨t,ht,top⟩:=h.top;unfold lastC evP;rw [wG,ht];show yp (Vn as t)=_;rw [zsj top]
theorem zk1:∀(as:List Int) (l:Int),UI (yp as) (yp (Vn as l))=yp (zaP as l):=λas l=>by
 unfold UI yp;refine Prod.ext ?_ ?_
 ·show ((as.sum:Int):Rat) - ((Vn as l).sum:Int)=((zaP as l).sum:Int);rw [zkv,wY]
 ·show List.zipWith (· - ·) (as.map λ(x:Int)=>(x:Rat)) ((Vn as l).map λ(x:Int)=>(x:Rat))=(zaP as l).map λ(x:Int)=>(x:Rat);unfold Vn zaP
  apply qu
  ·simp
  ·intro i h1 h2;simp only [jX,wD];rw [wY]
theorem zc2 (h:LvOk as ls):yW (evP as ls)=loP as ls:=by
 unfold yW;rw [zkE h];unfold evP loP;rw [<-List.map_reverse,js];exact jF λl _=>zk1 as l
theorem loP_ne (h:LvOk as ls):∃r,loP as ls=yp (Xa as.length)::r:=by
 obtain ⟨t,ht,top⟩:=h.top;have ne:ls≠[]:=λe=>by rw [e] at ht;simp at ht
 obtain ⟨ini,ei⟩:=List.getLast?_eq_some_iff.mp ht;refine ⟨ini.reverse.map λl=>yp (zaP as l),?_⟩;unfold loP;rw [ei,List.reverse_append,List.reverse_singleton,List.singleton_append,jq]
 congr 2
 unfold zaP Xa;rw [<-wX];exact jF λa ha=>by have:=top a ha;omega
theorem WI (h:List Int):(yp h).2.length=h.length/\yb (yp h).2=(yp h).1:=⟨ja _,zag h⟩
theorem zkD (as ls:List Int):∀c∈evP as ls,c.2.length=as.length/\yb c.2=c.1:=λc hc=>by
 obtain ⟨l,_,rfl⟩:=jk.mp hc;have:=WI (Vn as l);rwa [show (Vn as l).length=as.length by unfold Vn;rw [ja]] at this
theorem znP (as ls:List Int):∀c∈loP as ls,c.2.length=as.length/\yb c.2=c.1:=λc hc=>by
 obtain ⟨l,_,rfl⟩:=jk.mp hc;have:=WI (zaP as l);rwa [show (zaP as l).length=as.length by unfold zaP;rw [ja]] at this
theorem Vd (m:Nat):yp (Xa m)=(0,List.replicate m 0):=by
 unfold yp;rw [zhj];unfold Xa;rw [Jw];rfl
theorem zj0 {P:List zh} {m:Nat} {e:Rat} (r:List zh) (hP:P=(0,List.replicate m 0)::r) (rise:yU P) (ok:∀c∈P,c.2.length=m/\yb c.2=c.1) (h0:0<=e):yb (zo P e)=mn e (lastC P).1:=by
 subst hP;unfold mn
 split
 ·exact zdC rise ok h0 (by assumption)
 ·rename_i z;have hl:=we.mp z;rw [zdE rise (jC hl)]
  have m:lastC ((0,List.replicate m 0)::r)∈((0:Rat),List.replicate m (0:Rat))::r:=by
   unfold lastC;rw [qd (by simp)];exact List.getLast_mem _
  exact (ok _ m).2
def hfA (as ls:List Int):List zh:=yj (1 / 2) (evP as ls)
def hfB (as ls:List Int):List zh:=yj (1 / 2) (loP as ls)
theorem zkz:(0:Rat)<1 / 2:=by decide+kernel
theorem ziR {a:List zh} {p:Rat} (hp:0<p) (h:yU a):yU (yj p a):=by
 unfold yU yj;rw [qi];exact h.imp λ{x y} lt=>Rat.mul_lt_mul_of_pos_right lt hp
theorem hf_len (as ls:List Int):∀x∈hfA as ls++xn (hfA as ls) (hfB as ls),lastC (hfA as ls)∈hfA as ls->x.2.length=as.length:=λx hx hm=>by
 have lA:∀x∈hfA as ls,x.2.length=as.length:=λx hx=>by
  obtain ⟨c,hc,rfl⟩:=jk.mp hx;rw [ja];exact (zkD as ls c hc).1
 rcases jV.mp hx with z|z
 ·exact lA x z
 ·obtain ⟨d,hd,rfl⟩:=jk.mp z
  have ld:d.2.length=as.length:=by
   have:=qK hd;obtain ⟨c,hc,rfl⟩:=jk.mp this;rw [ja];exact (znP as ls c hc).1
  show (List.zipWith _ _ _).length=_;rw [jA,lA _ hm,ld];exact qI _
theorem zjg (h:LvOk as ls):lastC (hfA as ls)∈hfA as ls:=by
 obtain ⟨r,er⟩:=zoc h;have ne:hfA as ls≠[]:=by unfold hfA yj;rw [er];simp
 unfold lastC;rw [qd ne];exact List.getLast_mem _
def hvP (as ls:List Int):List zh:=hfA as ls++xn (hfA as ls) (hfB as ls)
theorem xN (p:Rat):∀l:List Rat,yb (l.map (·*p))=yb l*p
 |[]=>by rw [wB,yb,JT]
 |x::l=>by rw [jq,yb,yb,xN p l];grind
theorem zcH:∀{x y:List Rat},x.length=y.length->yb (List.zipWith (·+·) x y)=yb x+yb y
 |[],[],_=>by rw [List.zipWith_nil_left,yb];grind
 |a::x,b::y,h=>by rw [wo,yb,yb,yb,zcH (by simpa using h)];grind
 |[],_::_,h=>by simp at h
 |_::_,[],h=>by simp at h
theorem zqX (as ls:List Int):∀c∈hfA as ls,c.2.length=as.length/\yb c.2=c.1:=λc hc=>by
 obtain ⟨d,hd,rfl⟩:=jk.mp hc;have:=zkD as ls d hd;exact ⟨by rw [ja];exact this.1,by rw [xN,this.2]⟩
theorem hfB_ok (as ls:List Int):∀c∈hfB as ls,c.2.length=as.length/\yb c.2=c.1:=λc hc=>by
 obtain ⟨d,hd,rfl⟩:=jk.mp hc;have:=znP as ls d hd;exact ⟨by rw [ja];exact this.1,by rw [xN,this.2]⟩
theorem hv_ok (h:LvOk as ls):∀c∈hvP as ls,c.2.length=as.length/\yb c.2=c.1:=λc hc=>by
 refine ⟨hf_len as ls c hc (zjg h),?_⟩
 rcases jV.mp hc with z|z
 ·exact (zqX as ls c z).2
 ·obtain ⟨d,hd,rfl⟩:=jk.mp z;have a:=zqX as ls _ (zjg h);have b:=hfB_ok as ls d (qK hd);show yb (List.zipWith (·+·) _ _)=_+_;rw [zcH (by rw [a.1,b.1]),a.2,b.2]
def shP (as:List Int):List zh:=if as.sum=0 then [yp (Xa as.length)] else [yp (Xa as.length),yp as]
theorem zfV:∀n:Nat,(List.replicate n (0:Int)).sum=0
 |0=>rfl
 |n+1=>by rw [qv,jM,zfV n];rfl
theorem zcc {as:List Int} (h:∀a∈as,0<=a):0<=as.sum:=by
 have:=za7 (f:=λ_=>0) (g:=id) (as:=as) λa ha=>h a ha;rw [List.map_id,wX,zfV] at this
 simpa using this
theorem zjZ {as:List Int} (h:∀a∈as,0<=a) (z:as.sum=0):∀a∈as,a=0:=λa ha=>by
 rcases Int.lt_or_eq_of_le (h a ha) with lt|e
 ·have:=za6 (f:=λ_=>0) (g:=id) (as:=as) (λa ha=>h a ha) ha lt;rw [List.map_id,wX,zfV,z] at this;simp at this
 ·exact e.symm
theorem zo1 {as:List Int} (nn:∀a∈as,0<=a) {e:Rat} (h0:0<=e):∃z:Rat,(0<=z/\z<=1)/\zo (shP as) e=(as.map λ(a:Int)=>(a:Rat)*z)/\yb (zo (shP as) e)=mn e ((as.sum:Int):Rat):=by
 have s0:=zcc nn;unfold shP
 by_cases c:as.sum=0
 ·have az:=zjZ nn c;rw [jK c,c]
  have k:zo [yp (Xa as.length)] e=as.map λ(a:Int)=>(a:Rat)*0:=by
   rw [Vd];show List.replicate as.length (0:Rat)=_;rw [<-wX];exact jF λa ha=>by rw [Rat.mul_zero]
  refine ⟨0,⟨jP,by decide+kernel⟩,k,?_⟩;rw [Vd];show yb (List.replicate as.length 0)=_;rw [Wj];unfold mn
  split
  ·exact wK h0 (by assumption)
  ·rfl
 ·rw [jQ c];have sp:(0:Rat)<((as.sum:Int):Rat):=by exact_mod_cast Jt.mpr (show 0<as.sum by omega)
  have rise:yU [yp (Xa as.length),yp as]:=by
   refine jo.mpr ⟨λd hd=>?_,wf _ _⟩;rw [ju.mp hd,Vd];exact sp
  have ok:∀x∈[yp (Xa as.length),yp as],x.2.length=as.length/\yb x.2=x.1:=λx hx=>by
   rcases jn.mp hx with rfl|hx
   ·have:=WI (Xa as.length);rwa [zaf] at this
   ·rw [ju.mp hx];exact WI as
  have sm:=zj0 (P:=[yp (Xa as.length),yp as]) [yp as] (by rw [Vd]) rise ok h0;have eT:(lastC [yp (Xa as.length),yp as]).1=((as.sum:Int):Rat):=rfl;rw [eT] at sm
  by_cases c2:e<((as.sum:Int):Rat)
  ·have hi:=qQ _ (show ((as.sum:Int):Rat)≠0 from λz=>by rw [z] at sp;exact wQ sp);have ip:0<(((as.sum:Int):Rat))⁻¹:=Rat.inv_pos.mpr sp;refine ⟨e*(((as.sum:Int):Rat))⁻¹,⟨jW h0 (jC ip),?_⟩,?_,sm⟩
   ·have:=jW (show 0<=((as.sum:Int):Rat) - e by grind) (jC ip);generalize (((as.sum:Int):Rat))⁻¹=j at*
    grind
   ·rw [zo,jK (show e<(yp as).1 from c2),Vd];unfold WH
    have et:(e - (0:Rat)) / ((yp as).1 - (0:Rat))=e*(((as.sum:Int):Rat))⁻¹:=by
     show (e - 0) / (((as.sum:Int):Rat) - 0)=_;rw [show e - 0=e by grind,show ((as.sum:Int):Rat) - 0=((as.sum:Int):Rat) by grind,qY]
    dsimp only;rw [et];unfold yp
    apply qu
    ·simp
    ·intro i h1 h2;simp only [jX,wD,qA];unfold ZE
     grind
  ·refine ⟨1,⟨by decide+kernel,jP⟩,?_,sm⟩;rw [ym (show (yp as).1<=e from qh.mp c2)];show (as.map λ(x:Int)=>(x:Rat))=_;exact jF λa _=>by rw [Rat.mul_one]
end
def InB (am tk:List Int):Prop:=tk.length=am.length/\∀(i:Nat) (a p:Int),am[i]? =some a->tk[i]? =some p->0<=p/\p<=a
def ziy (am tk:List Int):Prop:=tk.length=am.length/\∀(i:Nat) (a p:Int),am[i]? =some a->tk[i]? =some p->0<=p/\p<=a/\(p<a->∀q∈tk,q<=p)
def ZN (am tk:List Int):List Int:=List.zipWith (· - ·) am tk
section
variable {as tk:List Int} {B:Int} {f:Rat->Rat} {z:Rat}
theorem VS {a b:Int} (h:(a:Rat)<=(b:Rat)):a<=b:=qb.mp h
theorem zgV {a b:Int} (h:a<b):(a:Rat)<(b:Rat):=Jt.mpr h
theorem zbL {a:Int} (h:0<=a):(0:Rat)<=(a:Rat):=by have:=qb.mpr h;exact this
theorem XO {a:Int} (h:0<a):(0:Rat)<(a:Rat):=by have:=Jt.mpr h;exact this
theorem Ye {x y b:Rat} (h:x<=y) (hb:0<=b):x*b<=y*b:=by
 have:=jW (show 0<=y - x by grind) hb
 grind
theorem VO {am tk:List Int} (h:tk.length=am.length):(ZN am tk).length=am.length:=by
 unfold ZN;rw [jA,h,qI]
theorem mn_nn {a z:Rat} (a0:0<=a) (z0:0<=z):0<=mn a z/\mn a z<=a:=by
 unfold mn
 split<;>grind
noncomputable def zsB (as ls:List Int):Nat->List zh
 |0=>shP as
 |1=>evP as ls
 |2=>loP as ls
 |_=>yR (hvP as ls)
theorem zpC {e t b:Rat} (hb:0<b):mn e t*b=mn (e*b) (t*b):=by
 unfold mn
 by_cases c:e<=t
 ·rw [jK c,jK (Ye c (jC hb))]
 ·rw [jQ c,jQ];intro h;have lt:=we.mp c;have:=JA (show 0<e - t by grind) hb
  grind
end
structure Bl3 (mg:Str->Option Value):Prop where
 sorted:mg "sorted"=none
 set:mg "set"=none
section
variable {X:Cx} {e o:Expr} {es:List Expr} {ta:TE} {t:TA}
def zqB (K:PySem.W.Frag) (m:Str) (f:Addr) (sp:Sp) (E:XK) (ta:TE) (t:TA):TE:=λσ H Q=>ta σ H λx H1=>∃a C dx fs,x= .ref a/\H1 a=some (.ins C dx fs)/\Cls K C/\Meth K C m f/\fs.lookup m=none/\t σ H1 λvs H2=>sp (x::vs) H2 Q E
theorem zkj {CX:CXT} {k:Nat} {f:Addr} {fd:FuncData} {ps:List Str} {sp:Sp} {E:XK} {m:Str} {apos pos:Pos} {pl:Sem Bool} (he:PE X o ta) (F:FnOk X.prog X.w X.K X.mg X.base CX k f fd ps sp) (hr:Room k X.A) (hb:Zg X.K fd ps []) (hx:UB CX X E) (ha:PA X (e::es) t)
 (hst:starEach (e::es) X.env=(false,eval e X.env)::starEach es X.env:=by rfl) (hpl:(backTo pos (starEach es X.env)).any (·.1)=false:=by rfl)
 (ht:eval (.Call (.Attribute o m apos) (e::es) [] pos) X.env=(do
  let ov<-eval o X.env
  standAt apos.atName
  let (f,first)<-holding [ov] (getMethod ov m pl)
  callWith pos f first (backTo pos (starEach (e::es) X.env)) (backToKw pos (keywordEach [] X.env))):=by rfl):
 PE X (.Call (.Attribute o m apos) (e::es) [] pos) (zqB X.K m f sp E ta t):=by
 intro pins s σ H Q I h;refine PySem.W.methodCall_KW (pl:=pl) (thn (he pins s σ H _ I h) λu s1 ⟨x,H1,I1,rx,a,C,dx,fs,ex,ea,c,hm,l,q⟩=>?_) ht;subst ex;obtain rfl:u=Value.ref a:=rx;refine zfC I1 ea c hm l ?_;refine JX (first:=[.ref a]) (h₀:=X.base) I.ok.mod.kin hm.kp (thn (ha pos pins s1 σ H1 _ I1 q) λus s2 ⟨vs,H2,I2,r,q2⟩=>⟨I2.kIn,?_⟩) hst hpl;exact zj9 (us:= .ref a::us) (vs:= .ref a::vs) F hr hb .nil hx I2 (.cons rfl r) (by rw [wW];exact q2)
end
section
variable {B G0 H:Hp} {cs:xq} {ds:Dat} {Q:VK} {E:XK} {v w u:V} {K:PySem.W.Frag} {C L:Addr} {x:PyData} {σ:L2.St}
def kMB (K:PySem.W.Frag) (m:Str) (f:Addr) (sp:Sp) (E:XK) (t:TA) (σ:L2.St) (Q:VK):VK:=λx H1=>∃a C dx fs,x= .ref a/\H1 a=some (.ins C dx fs)/\Cls K C/\Meth K C m f/\fs.lookup m=none/\t σ H1 λvs H2=>sp (x::vs) H2 Q E
theorem zkd {m:Str} {f:Addr} {sp:Sp} {ta:TE} {t:TA} (h:ta σ H (kMB K m f sp E t σ Q)):zqB K m f sp E ta t σ H Q:=h
theorem zqI {m:Str} {f:Addr} {sp:Sp} {t:TA} (S:Sta B G0 H cs ds) (h:Has ds (zoE C x) v) (cl:Cls K C) (me:Meth K C m f) (hm:(m==("form":Str))=false) (k:t σ H λvs H2=>sp (v::vs) H2 Q E):kMB K m f sp E t σ Q v H:=by
 obtain ⟨p,dx,w,rfl,hp,S'⟩:=S.ins h;exact ⟨p,C,dx,_,rfl,hp,cl,me,by rw [wN,hm];rfl,k⟩
def zqV (K:PySem.W.Frag) (Q:VK):VK:=λx H1=>zm9 K x H1 Q
theorem zo7 {te:TE} (h:te σ H (zqV K Q)):zqA K te σ H Q:=h
theorem VD {ns:List Int} (S:Sta B G0 H cs ds) (h:(L,ns.map PyData.int)∈cs) (few:ns.length<60) (k:∀(os:List Int) (l:Addr) (H':Hp),os.Pairwise (·<·)->(∀z,z∈os↔z∈ns)->yt H H'->Sta B G0 H' ((l,os.map PyData.int)::cs) ds->Q (.ref l) H'):zqV K Q (.ref L) H:=by
 obtain ⟨vs,hp,u⟩:=S.vwC h;obtain ⟨G,S'⟩:=id S;rw [xz (u G S')] at hp;exact ⟨L,ns,rfl,SqL.of hp,few,λos l h1 h2 hl=>k os l _ h1 h2 (yt.new hl _) (S.newL hl λG _=>Xc os)⟩
theorem zrA {ns:List Int} (S:Sta B G0 H cs ds) (h:Has ds (.tuple (ns.map PyData.int)) v) (hn:0<ns.length) (k:∀m,m∈ns->(∀x∈ns,m<=x)->Q (.int m) H):rMinT K [v] H Q:=by
 obtain ⟨p,vs,rfl,hp,hl,S',al⟩:=S.tupAll h;obtain ⟨G,S2⟩:=id S';rw [xz (al G S2.2.2.2.2.2.2)] at hp;exact ⟨p,ns,rfl,SqT.of hp,hn,k⟩
theorem zrC {ns:List Int} (S:Sta B G0 H cs ds) (h:(L,ns.map PyData.int)∈cs) (hn:0<ns.length) (k:∀m,m∈ns->(∀x∈ns,x<=m)->Q (.int m) H):zr0 K [.ref L] H Q:=by
 obtain ⟨vs,hp,u⟩:=S.vwC h;obtain ⟨G,S'⟩:=id S;rw [xz (u G S')] at hp;exact ⟨L,ns,rfl,SqL.of hp,hn,k⟩
theorem ziX {α:Type} (a:α):∀n:Nat,(List.replicate n [a]).flatten=List.replicate n a
 |0=>rfl
 |n+1=>by rw [qv,qN,ziX a n];rfl
theorem zrt {i:Int} {n:Nat} (S:Sta B G0 H cs ds) (h:(L,[PyData.int i])∈cs) (hn:n<=1000) (k:∀l H',yt H H'->Sta B G0 H' ((l,(List.replicate n i).map PyData.int)::cs) ds->Q (.ref l) H'):rRep (.ref L) (.int (n:Int)) H Q:=by
 obtain ⟨vs,hp,u⟩:=S.vwC h;obtain ⟨G,S'⟩:=id S;have e:=xz (ns:=[i]) (u G S');subst e;refine ⟨L,(n:Int),_,rfl,rfl,hp,by omega,by omega,?_,λp hp'=>?_⟩
 ·show 1*n<=sizeLine;have:1000<=sizeLine:=by decide
  omega
 ·rw [qf];show Q (.ref p) (upd H p (.lst (List.replicate n [V.int i]).flatten));rw [ziX];refine k p _ (yt.new hp' _) ?_;have:=S.newL (vs:=(List.replicate n i).map V.int) hp' λG _=>Xc (List.replicate n i);rw [Jw] at this;rw [Jw] at this⊢;exact this
end
abbrev Cl:=Int×Int×Int
def zP (c:Cl):PyData:= .tuple [.int c.1, .int c.2.1, .int c.2.2]
def zH (l:List Cl):PyData:= .list (l.map zP)
def amV (l:List Cl):List Int:=l.map λc=>c.1
structure ClOk (n:Nat) (l:List Cl):Prop where
 pos:0<l.length
 few:l.length<=8
 nn:∀c∈l,0<=c.1/\0<=c.2.1/\0<=c.2.2
 sz:∀c∈l,Sz n c.1
theorem yJ (l:List Cl):(amV l).length=l.length:=ja _
theorem zbA:∀as:List Int,∃ls:List Int,ls.Pairwise (·<·)/\∀k,k∈ls↔k∈as
 |[]=>⟨[],List.Pairwise.nil,λ_=>Iff.rfl⟩
 |a::as=>by
  obtain ⟨ls,h1,h2⟩:=zbA as;refine ⟨ls.filter (·<a)++a::ls.filter (a<·),?_,λk=>?_⟩
  ·refine qJ.mpr ⟨h1.filter _,jo.mpr ⟨λy hy=>?_,h1.filter _⟩,λx hx y hy=>?_⟩
   ·simpa using (qo.mp hy).2
   ·have hxa:x<a:=by simpa using (qo.mp hx).2
    rcases jn.mp hy with rfl|hy
    ·exact hxa
    ·have:a<y:=by simpa using (qo.mp hy).2
     omega
  ·rw [jV,jn,qo,qo,jn,h2];simp only [decide_eq_true_eq]
   constructor
   ·rintro (⟨h,_⟩|h|⟨h,_⟩)
    ·exact .inr h
    ·exact .inl h
    ·exact .inr h
   ·rintro (h|h)
    ·exact .inr (.inl h)
    ·rcases Int.lt_trichotomy k a with c|c|c
     ·exact .inl ⟨h,c⟩
     ·exact .inr (.inl c)
     ·exact .inr (.inr ⟨h,c⟩)
theorem YJ:∀{x y:List Int},x.Pairwise (·<·)->y.Pairwise (·<·)->(∀k,k∈x↔k∈y)->x=y
 |[],[],_,_,_=>rfl
 |[],b::y,_,_,h=>absurd ((h b).mpr (jd ..)) jp
 |a::x,[],_,_,h=>absurd ((h a).mp (jd ..)) jp
 |a::x,b::y,h1,h2,h=>by
  obtain ⟨a1,a2⟩:=jo.mp h1;obtain ⟨b1,b2⟩:=jo.mp h2
  have e:a=b:=by
   rcases jn.mp ((h a).mp (jd ..)) with e|e
   ·exact e
   ·rcases jn.mp ((h b).mpr (jd ..)) with e'|e'
    ·exact e'.symm
    ·have:=b1 a e;have:=a1 b e';omega
  subst e;rw [YJ a2 b2 λk=>?_];have hk:=h k;rw [jn,jn] at hk
  constructor
  ·intro m
   rcases hk.mp (.inr m) with e|e
   ·subst e;exact absurd (a1 k m) (Int.lt_irrefl _)
   ·exact e
  ·intro m
   rcases hk.mpr (.inr m) with e|e
   ·subst e;exact absurd (b1 k m) (Int.lt_irrefl _)
   ·exact e
noncomputable def lvV (as:List Int):List Int:=(zbA (0::as)).choose
theorem VN {as:List Int} (nn:∀a∈as,0<=a):LvOk as (lvV as):=
 ⟨(zbA (0::as)).choose_spec.1,λk=>by rw [lvV,(zbA (0::as)).choose_spec.2 k,jn],nn⟩
theorem lvV_eq {as os:List Int} (h1:os.Pairwise (·<·)) (h2:∀z,z∈os↔z∈0::as):os=lvV as:=
 YJ h1 (zbA (0::as)).choose_spec.1 λk=>by rw [h2,lvV,(zbA (0::as)).choose_spec.2 k]
theorem zqR:∀{ls as:List Int},ls.Nodup->(∀k∈ls,k∈as)->ls.length<=as.length
 |[],_,_,_=>wg _
 |a::ls,as,nd,h=>by
  obtain ⟨n1,n2⟩:=qM.mp nd;have:=zqR (ls:=ls) (as:=as.erase a) n2 λk hk=>(List.mem_erase_of_ne (λ(e:k=a)=>n1 (e▸hk))).mpr (h k (jf _ hk));have hl:=List.length_erase_of_mem (h a (jd ..));have:=Ja (h a (jd ..));rw [jz];omega
theorem LvOk.few {as ls:List Int} (h:LvOk as ls):ls.length<=as.length+1:=by
 have:=zqR (ls:=ls) (as:=0::as) (h.rise.imp λ{a b} (hab:a<b)=>by omega) λk hk=>by rw [jn];exact (h.mem k).mp hk
 simpa using this
theorem zhm {n:Nat} {x y:Int} (h0:0<=x) (h:x<=y) (z:Sz n y):Sz n x:=by unfold Sz at*;omega
theorem zc4 {b:Int} (hb:0<=b):∀{l:List Int},(∀x∈l,0<=x/\x<=b)->0<=l.sum/\l.sum<=l.length*b
 |[],_=>by simp
 |x::l,h=>by
  have h1:=h x (jd ..);have h2:=zc4 hb (l:=l) λy hy=>h y (jf _ hy);rw [jM,jz];have e:(((l.length+1:Nat):Int))*b=l.length*b+b:=by rw [Int.natCast_add,Int.add_mul];omega
  omega
def zaV (l:List Int):Prop:=l.length<=8/\∀x∈l,0<=x/\Sz 160 x
theorem zaV.sum {l:List Int} (h:zaV l):0<=l.sum/\Sz 170 l.sum:=by
 have h1:=zc4 (b:=2 ^ 160) (by decide) (l:=l) λx hx=>⟨(h.2 x hx).1,by
  have:=(h.2 x hx).2;unfold Sz at this;have:=(h.2 x hx).1
  omega⟩
 refine ⟨h1.1,?_⟩;have l8:=h.1;have:(l.length:Int)*2 ^ 160<=8*2 ^ 160:=Jo (by omega) (by decide);unfold Sz;have e:(8:Int)*2 ^ 160<2 ^ 170:=by decide+kernel
 omega
theorem zjW {l:List Int} (h:zaV l):SzC 170 (yp l):=by
 refine ⟨⟨h.sum.2,by show Sz 170 1;unfold Sz;decide⟩,λq hq=>?_⟩;obtain ⟨x,hx,rfl⟩:=jk.mp hq;exact ⟨Sz.mono (h.2 x hx).2 (by decide),by show Sz 170 1;unfold Sz;decide⟩
theorem ClOk.am {l:List Cl} (h:ClOk 160 l):zaV (amV l):=by
 refine ⟨by rw [yJ];exact h.few,λx hx=>?_⟩;obtain ⟨c,hc,rfl⟩:=jk.mp hx;exact ⟨(h.nn c hc).1,h.sz c hc⟩
theorem zaV.min {as:List Int} {l:Int} (h:zaV as) (hl:0<=l):zaV (Vn as l)/\zaV (zaP as l):=by
 refine ⟨⟨by unfold Vn;rw [ja];exact h.1,λx hx=>?_⟩,⟨by unfold zaP;rw [ja];exact h.1,λx hx=>?_⟩⟩
 ·obtain ⟨a,ha,rfl⟩:=jk.mp hx;have:=h.2 a ha;exact ⟨by omega,zhm (by omega) (by omega) this.2⟩
 ·obtain ⟨a,ha,rfl⟩:=jk.mp hx;have:=h.2 a ha;exact ⟨by omega,zhm (by omega) (by omega) this.2⟩
section
variable {as ls:List Int}
theorem LvOk.szE (h:LvOk as ls) (i:zaV as):∀c∈evP as ls,SzC 170 c:=λc hc=>by
 obtain ⟨l,hl,rfl⟩:=jk.mp hc;exact zjW (i.min (h.nnL l hl)).1
theorem LvOk.szL (h:LvOk as ls) (i:zaV as):∀c∈loP as ls,SzC 170 c:=λc hc=>by
 obtain ⟨l,hl,rfl⟩:=jk.mp hc;exact zjW (i.min (h.nnL l (JK.mp hl))).2
theorem LvOk.inE (h:LvOk as ls) (i:zaV as):PathIn (evP as ls):=by
 obtain ⟨r,er⟩:=zoc h;have f:=h.few;have i1:=i.1;exact ⟨by rw [er];simp,λc hc=>(h.szE i c hc).mono (by decide),λc hc=>by rw [(zkD as ls c hc).1];omega,by unfold evP;rw [ja];omega⟩
theorem LvOk.inL (h:LvOk as ls) (i:zaV as):PathIn (loP as ls):=by
 obtain ⟨r,er⟩:=loP_ne h;have f:=h.few;have i1:=i.1;exact ⟨by rw [er];simp,λc hc=>(h.szL i c hc).mono (by decide),λc hc=>by rw [(znP as ls c hc).1];omega,by unfold loP;rw [ja,qw];omega⟩
theorem zjh:SzQ 2 ((1:Rat) / 2):=by unfold SzQ Sz;decide+kernel
theorem zdg {a:List zh} (h:∀c∈a,SzC 170 c):∀c∈yj (1 / 2) a,SzC 172 c:=λc hc=>by
 obtain ⟨d,hd,rfl⟩:=jk.mp hc;have:=h d hd;refine ⟨(this.1.mul zjh).mono (by decide),λq hq=>?_⟩;obtain ⟨x,hx,rfl⟩:=jk.mp hq;exact ((this.2 x hx).mul zjh).mono (by decide)
theorem zhv {a:List zh} (ok:PathIn a) (h:∀c∈a,SzC 170 c):PathIn (yj (1 / 2) a):=by
 refine ⟨λe=>ok.ne (List.map_eq_nil_iff.mp e),λc hc=>(zdg h c hc).mono (by decide),λc hc=>?_,by unfold yj;rw [ja];exact ok.few⟩;obtain ⟨d,hd,rfl⟩:=jk.mp hc;rw [ja];exact ok.len d hd
theorem LvOk.szH (h:LvOk as ls) (i:zaV as):∀c∈hvP as ls,SzC 400 c:=λc hc=>by
 have sA:=zdg (h.szE i);have sB:=zdg (h.szL i)
 rcases jV.mp hc with z|z
 ·exact (sA c z).mono (by decide)
 ·obtain ⟨d,hd,rfl⟩:=jk.mp z;have x:=sA _ (zjg h);have y:=sB d (qK hd);refine ⟨(x.1.add y.1).mono (by decide),λq hq=>?_⟩;obtain ⟨j,hj,e⟩:=jR hq;have hj':=hj;simp only [Uv,jA] at hj'
  have e2:q=(lastC (hfA as ls)).2[j]'(by omega)+d.2[j]'(by omega):=by
   rw [<-e];simp only [Uv,jX]
  rw [e2];exact ((x.2 _ (qa _)).add (y.2 _ (qa _))).mono (by decide)
theorem LvOk.okH (h:LvOk as ls) (i:zaV as):PathOk as.length (hvP as ls):=by
 have f:=h.few;have i1:=i.1;refine ⟨λc hc=>(h.szH i c hc).mono (by decide),λc hc=>(hv_ok h c hc).1,by omega,?_⟩;unfold hvP hfA hfB xn yj evP loP;simp only [jJ,ja,wP,qw];omega
end
theorem VP:∀(a:zh) (r:List zh),(yD a r).Sublist r
 |a,[]=>by rw [yD];exact wT _
 |a,[b]=>by rw [yD];exact wT _
 |a,b::c::r=>by
  rw [yD]
  split
  ·exact List.Sublist.cons _ (VP b (c::r))
  ·exact List.Sublist.cons₂ _ (VP b (c::r))
theorem YB:∀r:List zh,(yR r).Sublist r
 |[]=>wT _
 |c::r=>List.Sublist.cons₂ _ (VP c r)
section
variable {as ls:List Int}
end
theorem iteSY {a b:Str} {X Y:Prop} (hc:a=b) (h:X):if decide (a=b)=true then X else Y:=XL (λ_=>h) λn=>absurd hc n
theorem iteSN {a b:Str} {X Y:Prop} (hc:¬a=b) (h:Y):if decide (a=b)=true then X else Y:=XL (λy=>absurd y hc) λ_=>h
section
variable {B G0 H:Hp} {cs:xq} {ds:Dat} {Q:VK} {E:XK} {v w u:V} {K:PySem.W.Frag}
def Xd:Nat->Rl
 |0=> .shares
 |1=> .evenly
 |2=> .losses
 |_=> .halves
def ziP:Sp:=spB (α:=List Cl) (λl=>[zH l]) (ClOk 160) (λ_=> .non)
theorem zpi {l:List Cl} (S:Sta B G0 H cs ds) (h:Has ds (zH l) v) (ok:ClOk 160 l) (k:∀H',yt H H'->Sta B G0 H' cs ds->Q .non H'):ziP [v] H Q E:=zaB l (S.hpAll (.cons h .nil)) ok λH' e=>k H' e (S.same e)
def spWC:Sp:=spT (α:=List Int) (λl=>[.list (l.map PyData.int)]) (λl=>l.length<=8) (λl=>ya (yp l))
theorem zrm {l:List Int} (S:Sta B G0 H cs ds) (h:Has ds (.list (l.map PyData.int)) v) (ok:l.length<=8) (k:∀w H',yt H H'->Sta B G0 H' cs ((ya (yp l),w)::ds)->Q w H'):spWC [v] H Q E:=YW l S (.cons h .nil) ok k
def Vp:Sp:=spL (α:=Nat) (λn=>[.int (n:Int)]) (λn=>n<=8) (λn=>[yp (Xa n)].map ya)
theorem zbq {n:Nat} (S:Sta B G0 H cs ds) (ok:n<=8) (k:∀p H',yt H H'->Sta B G0 H' ((p,[yp (Xa n)].map ya)::cs) ds->Q (.ref p) H'):Vp [.int (n:Int)] H Q E:=Yl n S (.cons Has.int .nil) ok k
noncomputable def flV (k:Nat) (l:List Cl):List zh:=zsB (amV l) (lvV (amV l)) k
noncomputable def zcf (k:Nat):Sp:=spL (α:=List Cl) (λl=>[zH l]) (ClOk 160) (λl=>(flV k l).map ya)
theorem zbr {n:Nat} {l:List Cl} (S:Sta B G0 H cs ds) (h:Has ds (zH l) v) (ok:ClOk 160 l) (k:∀p H',yt H H'->Sta B G0 H' ((p,(flV n l).map ya)::cs) ds->Q (.ref p) H'):zcf n [v] H Q E:=Yl l S (.cons h .nil) ok k
theorem ClOk.lv {l:List Cl} (h:ClOk 160 l):LvOk (amV l) (lvV (amV l)):=VN λa ha=>(h.am.2 a ha).1
noncomputable def Vk (p:Rat) (a b:List zh):List zh:=yR (yj p a++xn (yj p a) (yj (1 - p) b))
structure UpOk (p:Rat) (a b:List zh):Prop where
 sz:SzQ 1000 p
 pa:PathIn a
 pb:PathIn b
 sa:PathIn (yj p a)
 sb:PathIn (yj (1 - p) b)
 m:∃m,PathOk m (yj p a++xn (yj p a) (yj (1 - p) b))
noncomputable def zmz:Sp:=spL (α:=Rat×List zh×List zh) (λa=>[frD a.1,yX a.2.1,yX a.2.2]) (λa=>UpOk a.1 a.2.1 a.2.2) (λa=>(Vk a.1 a.2.1 a.2.2).map ya)
theorem zmR {p:Rat} {a b:List zh} (S:Sta B G0 H cs ds) (h1:Has ds (frD p) u) (h2:Has ds (yX a) v) (h3:Has ds (yX b) w) (ok:UpOk p a b) (k:∀q H',yt H H'->Sta B G0 H' ((q,(Vk p a b).map ya)::cs) ds->Q (.ref q) H'):zmz [u,v,w] H Q E:=Yl (p,a,b) S (.cons h1 (.cons h2 (.cons h3 .nil))) ok k
theorem up_ok {l:List Cl} (h:ClOk 160 l):UpOk (1 / 2) (flV 1 l) (flV 2 l):=by
 have L:=h.lv;have e:(1:Rat) - 1 / 2=1 / 2:=by decide+kernel
 refine ⟨zjh.mono (by decide),L.inE h.am,L.inL h.am,zhv (L.inE h.am) (L.szE h.am),?_,(amV l).length,?_⟩
 ·rw [e];exact zhv (L.inL h.am) (L.szL h.am)
 ·rw [e];exact L.okH h.am
theorem zmn (l:List Cl):Vk (1 / 2) (flV 1 l) (flV 2 l)=flV 3 l:=by
 have e:(1:Rat) - 1 / 2=1 / 2:=by decide+kernel
 unfold Vk;rw [e];rfl
end
def InS (n:Nat) (l:List Int):Prop:=l.length<=8/\∀x∈l,0<=x/\Sz n x
theorem InS.sum {n:Nat} {l:List Int} (h:InS n l):0<=l.sum/\Sz (n+4) l.sum:=by
 have p:(0:Int)<2 ^ n:=Int.pow_pos (by decide)
 have h1:=zc4 (b:=2 ^ n) (Jn p) (l:=l) λx hx=>⟨(h.2 x hx).1,by
  have z:=(h.2 x hx).2;have z0:=(h.2 x hx).1;unfold Sz at z;have:(x.natAbs:Int)<((2 ^ n:Nat):Int):=Int.ofNat_lt.mpr z;rw [Qc] at this;have e:((2:Nat):Int)=2:=rfl;rw [e] at this
  omega⟩
 refine ⟨h1.1,?_⟩;have l8:=h.1;have le:(l.length:Int)*2 ^ n<=8*2 ^ n:=Jo (by omega) (Jn p);unfold Sz;have e:(2:Nat) ^ (n+4)=2 ^ n*16:=by rw [Nat.pow_add]
 rw [e];have e2:((2 ^ n:Nat):Int)=2 ^ n:=by rw [Qc];rfl
 omega
theorem InB.inS {n:Nat} {am tk:List Int} (h:InB am tk) (l:am.length<=8) (z:∀x∈am,Sz n x):InS n tk/\InS n am:=by
 refine ⟨⟨by rw [h.1];exact l,λx hx=>?_⟩,⟨l,λx hx=>?_⟩⟩
 ·obtain ⟨i,hi,rfl⟩:=jR hx;have hi':i<am.length:=by rw [<-h.1];exact hi
  have b:=h.2 i _ _ (jb hi') (jb hi);exact ⟨b.1,zhm b.1 b.2 (z _ (qa _))⟩
 ·obtain ⟨i,hi,rfl⟩:=jR hx;have hi':i<tk.length:=by rw [h.1];exact hi
  have b:=h.2 i _ _ (jb hi) (jb hi');exact ⟨by omega,z _ (qa _)⟩
section
variable {B G0 H:Hp} {cs:xq} {ds:Dat} {Q:VK} {E:XK} {v w u:V} {K:PySem.W.Frag} {xs ys:List PyData} {R:It->Hp->Prop}
theorem zaE (S:Sta B G0 H cs ds) (h:Has ds (.list xs) v) (h2:Has ds (.list ys) w) (k:∀J,Wk B G0 J (zqy xs ys) (λcs ds=>Has ds (.list xs) v/\(∀x u,Has ds (.list ys) w->Has ((x,u)::ds) (.list ys) w)/\Has ds (.list ys) w)->R J H):kZi true true K R [v,w] H:=by
 obtain ⟨p,vs,rfl,hp,_⟩:=S.lst h;obtain ⟨q,ws,rfl,hq,_⟩:=S.lst h2;exact ⟨p,q,rfl,⟨_,SqL.of hp⟩,⟨_,SqL.of hq⟩,k _ (zmh VY VY)⟩
def zmB:Sp:=spB (α:=List Int×List Int) (λa=>[Ya a.1,Ya a.2]) (λa=>a.1.length<=8/\ziy a.1 a.2) (λ_=> .bl true)
theorem zm4 {am tk:List Int} (S:Sta B G0 H cs ds) (h1:Has ds (Ya am) v) (h2:Has ds (Ya tk) w) (l:am.length<=8) (ok:ziy am tk) (k:∀H',yt H H'->Sta B G0 H' cs ds->Q (.bl true) H'):zmB [v,w] H Q E:=zaB (am,tk) (S.hpAll (.cons h1 (.cons h2 .nil))) ⟨l,ok⟩ λH' e=>k H' e (S.same e)
def ziN:Sp:=λvs H Q _=>∃(G:Hp) (wh c:Int),vs=[.int wh, .int c]/\yt G H/\(0<=wh/\Sz 180 wh)/\∀v H' G' (e:Rat),Grow G H G' H'->Is G' (frD e) v->0<=e/\SzQ 300 e->Q v H'
theorem zo9 {wh c:Int} (S:Sta B G0 H cs ds) (hb:0<=wh/\Sz 180 wh) (k:∀v H' (e:Rat),0<=e/\SzQ 300 e->yt H H'->Sta B G0 H' cs ((frD e,v)::ds)->Q v H'):ziN [.int wh, .int c] H Q E:=by
 obtain ⟨G,S⟩:=S;refine ⟨G,wh,c,rfl,S.2.1,hb,λv H' G' e gr hv good=>k v H' e good gr.h ?_⟩;obtain ⟨a',b',c',d',e',f',g'⟩:=S.grow gr;exact ⟨G',a',b',c',d',e',f',g'.cons hv⟩
theorem zhH {G H':Hp} {e:Rat} (S:Sta H G H' cs ds) (k:∀v H' G' (e:Rat),Grow G H G' H'->Is G' (frD e) v->0<=e/\SzQ 300 e->Q v H') (h:Has ds (frD e) v) (hg:0<=e/\SzQ 300 e):Q v H':=
 let ⟨G',gr,al⟩:=S.leave;k v H' G' e gr (h G' al) hg
end
theorem zpY {b d:Int} (hb:0<b) (hd:0<d):0<b.fdiv (Int.gcd b d:Nat)*d/\b∣b.fdiv (Int.gcd b d:Nat)*d/\d∣b.fdiv (Int.gcd b d:Nat)*d:=by
 have gp:0<Int.gcd b d:=Int.gcd_pos_of_ne_zero_left d (by omega);have g0:(0:Int)<((Int.gcd b d:Nat):Int):=by omega
 rw [qB _ (Jn g0)];obtain ⟨x,hx⟩:=Int.gcd_dvd_left b d;obtain ⟨y,hy⟩:=Int.gcd_dvd_right b d
 have ex:b / ((Int.gcd b d:Nat):Int)=x:=by
  conv=>lhs;arg 1;rw [hx]
  exact Int.mul_ediv_cancel_left x (by omega)
 rw [ex]
 have x0:0<x:=by
  rcases Int.lt_or_le 0 x with h|h
  ·exact h
  ·have:=Int.mul_nonpos_of_nonneg_of_nonpos (Jn g0) h;omega
 refine ⟨Int.mul_pos x0 hd,⟨y,?_⟩,⟨x,Int.mul_comm ..⟩⟩
 conv=>rhs;rw [hx,Int.mul_comm ((Int.gcd b d:Nat):Int) x,Int.mul_assoc,<-hy]
theorem zhl {p:Rat} {B:Int} (hB:0<B) (hd:(p.den:Int)∣B):((p.num*B.fdiv (p.den:Int):Int):Rat)=p*(B:Rat):=by
 rw [qB _ (Int.natCast_nonneg _)];obtain ⟨x,rfl⟩:=hd;have d0:(p.den:Int)≠0:=by have:=p.den_pos;omega
 rw [Int.mul_ediv_cancel_left _ d0,jZ,jZ,<-Rat.mul_assoc]
 congr 1
 have h1:p=Rat.divInt p.num (p.den:Int):=(Qb p).symm;have h3:∀z:Int,(z:Rat)=Rat.divInt z 1:=λz=>by rw [<-Qb (z:Rat)];rfl
 have h2:=h3 (p.den:Int)
 conv=>rhs;arg 1;rw [h1]
 rw [h2,Jf,h3,Qf];exact ((JR d0 (by decide)).mpr (by rw [Qf])).symm
noncomputable def tkV (B:Int) (v:List Rat):List Int:=v.map λp=>p.num*B.fdiv (p.den:Int)
theorem zhT {m:Nat} {P:List zh} {j:Nat} {c d:zh} {e:Rat} (hr:yU P) (hl:∀x∈P,x.2.length=m) (hc:P[j]? =some c) (hd:P[j+1]? =some d) (h1:c.1<=e) (h2:e<=d.1):zo P e=WH c d e:=by
 by_cases lt:e<d.1
 ·have:=Yd (E:=e) hr hc h1 (.inr ⟨d,hd,lt⟩);rw [hd] at this;exact this
 ·have e1:e=d.1:=wK h2 (qh.mp lt);subst e1;have lc:=hl c (jc hc);have ld:=hl d (jc hd)
  have hcd:c.1<d.1:=by
   have:=jN.mp hr j (j+1) (je.mp hc).1 (je.mp hd).1 (by omega);rw [(je.mp hc).2,(je.mp hd).2] at this;exact this
  rw [zkJ (by rw [lc,ld]) hcd]
  cases hn:P[j+1+1]? with
  |none=>
   have:=Yd (E:=d.1) hr hd jP (.inl (by
    have h1:=(je.mp hd).1;have h2:=Jj.mp hn
    omega))
   rw [hn] at this;exact this
  |some f=>
   have hdf:d.1<f.1:=by
    have:=jN.mp hr (j+1) (j+1+1) (je.mp hd).1 (je.mp hn).1 (by omega);rw [(je.mp hd).2,(je.mp hn).2] at this;exact this
   have:=Yd (E:=d.1) hr hd jP (.inr ⟨f,hn,hdf⟩);rw [hn] at this;rw [this];exact WB (by rw [ld,hl f (jc hn)])
def ziF (x y:List Rat):List Rat:=List.zipWith (· - ·) x y
def za3 (p:Rat) (x:List Rat):List Rat:=x.map (·*p)
theorem zj3 {x y:List Rat} (h:y.length=x.length):(ziF x y).length=x.length:=by unfold ziF;rw [jA,h,qI]
theorem zmx {x y:List Rat} {i:Nat} {z:Rat} (h:(ziF x y)[i]? =some z):∃a b,x[i]? =some a/\y[i]? =some b/\z=a - b:=by
 unfold ziF at h;rw [jt] at h
 cases e:x[i]? with
 |none=>rw [e] at h;cases h
 |some a=>
  cases e2:y[i]? with
  |none=>rw [e,e2] at h;cases h
  |some b=>rw [e,e2] at h;exact ⟨a,b,rfl,rfl,(jL h).symm⟩
theorem zah {x y:List Rat} {i:Nat} {a b:Rat} (h1:x[i]? =some a) (h2:y[i]? =some b):(ziF x y)[i]? =some (a - b):=by
 unfold ziF;rw [jt,h1,h2]
theorem zmw {x y:List Rat} (h:y.length=x.length):ziF x (ziF x y)=y:=by
 apply qg
 intro i
 by_cases hi:i<x.length
 ·have e1:=jb hi;have e2:=jb (l:=y) (i:=i) (by omega);rw [zah e1 (zah e1 e2),e2]
  congr 1
  grind
 ·rw [jE (by rw [zj3 (by rw [zj3 h])];omega),jE (by omega)]
structure Std (m:Nat) (T:Rat) (as:List Rat) (P:List zh):Prop where
 rise:yU P
 ok:∀c∈P,c.2.length=m/\yb c.2=c.1
 head:P[0]? =some (0,List.replicate m 0)
 last:P.getLast? =some (T,as)
section
variable {m:Nat} {T:Rat} {as:List Rat} {P:List zh} {e:Rat}
theorem Std.lastC (h:Std m T as P):lastC P=(T,as):=by unfold S.lastC;rw [h.last];rfl
theorem Std.ne (h:Std m T as P):P≠[]:=λz=>by have:=h.head;rw [z] at this;cases this
theorem Std.cons (h:Std m T as P):∃r,P=(0,List.replicate m 0)::r:=by
 cases P with
 |nil=>exact absurd rfl h.ne
 |cons c r=>have:=h.head;cases this;exact ⟨r,rfl⟩
theorem Std.lenA (h:Std m T as P):as.length=m:=(h.ok _ (qX h.last)).1
theorem Std.T0 (h:Std m T as P):0<=T:=by
 obtain ⟨r,rfl⟩:=h.cons;have hl:=h.last
 cases r with
 |nil=>cases hl;exact jP
 |cons d r=>
  have:(T,as)∈d::r:=by
   rw [qH] at hl;exact qX hl
  exact jC ((jo.mp h.rise).1 _ this)
theorem Std.sum (h:Std m T as P) (h0:0<=e):yb (zo P e)=mn e T:=by
 obtain ⟨r,er⟩:=h.cons;have:=zj0 r er h.rise h.ok h0;rw [h.lastC] at this;exact this
theorem Std.len (h:Std m T as P):(zo P e).length=m:=by
 obtain ⟨r,er⟩:=h.cons;have:=h.ok;rw [er] at this⊢;exact Xj λx hx=>(this x hx).1
theorem Std.past (h:Std m T as P) (he:T<=e):zo P e=as:=by
 obtain ⟨r,er⟩:=h.cons;have l:=h.lastC;have rr:=h.rise;rw [er] at l rr⊢;rw [zdE rr (by rw [l];exact he),l]
theorem Std.zero (h:Std m T as P):zo P 0=List.replicate m 0:=by
 obtain ⟨r,er⟩:=h.cons
 cases r with
 |nil=>rw [er];rfl
 |cons d r=>
  have rr:=h.rise;have ok:=h.ok;rw [er] at rr ok⊢;have lt:=(jo.mp rr).1 d (jd ..);rw [zo,jK lt];have:=WB (c:=((0:Rat),List.replicate m (0:Rat))) (d:=d) (by rw [jB,(ok d (jf _ (jd ..))).1]);exact this
theorem Std.turned (h:Std m T as P) (h0:0<=e) (h1:e<=T):zo (yW P) e=ziF as (zo P (T - e)):=by
 have hl:=h.lastC;have lens:∀x∈P,x.2.length=m:=λx hx=>(h.ok x hx).1
 have rise:yU (yW P):=by
  unfold yW yU;rw [qi,List.pairwise_reverse]
  exact h.rise.imp λ{c d} hcd=>by
   show (S.lastC P).1 - d.1<(S.lastC P).1 - c.1
   grind
 have lensT:∀x∈yW P,x.2.length=m:=λx hx=>by
  obtain ⟨c,hc,rfl⟩:=jk.mp hx;show (List.zipWith _ (S.lastC P).2 c.2).length=m;rw [jA,hl,lens c (JK.mp hc),h.lenA,qI]
 have lp:0<P.length:=wZ.mpr h.ne;obtain ⟨j,q,hj,hqe,hnx⟩:=zgU (E:=T - e) (M:=P.map λc=>c.1) (z:=0) (by rw [jh,h.head];rfl) (by grind);rw [ja] at hnx;obtain ⟨c,hc,rfl⟩:=zZ hj;have jl:j<P.length:=(je.mp hc).1
 have tget:∀(k:Nat) (x:zh),P[k]? =some x->(yW P)[P.length - 1 - k]? =some (UI (T,as) x):=λk x hx=>by
  have kl:k<P.length:=(je.mp hx).1;unfold yW;rw [jh,List.getElem?_reverse (by omega),show P.length - 1 - (P.length - 1 - k)=k by omega,hx,hl];rfl
 by_cases lastj:j+1=P.length
 ·
  have ec:c=(T,as):=by
   have:=h.last;rw [wu,show P.length - 1=j by omega,hc] at this;exact jL this
  have e0:e=0:=by
   rw [ec] at hqe;have:T<=T - e:=hqe;exact wK (by grind) h0
  subst e0;rw [show T - (0:Rat)=T by grind,h.past jP];have ht:=tget j c hc;rw [show P.length - 1 - j=0 by omega,ec] at ht
  have hz:UI (T,as) (T,as)=(0,List.replicate m 0):=by
   unfold UI;rw [show T - T=(0:Rat) by grind]
   congr 1
   apply qu
   ·rw [jA,h.lenA,jB,qI]
   ·intro i _ _;rw [jX,qA]
    grind
  have e2:ziF as as=List.replicate m 0:=(congrArg Prod.snd hz);rw [e2];rw [hz] at ht
  cases hT:yW P with
  |nil=>rw [hT] at ht;cases ht
  |cons x r=>
   rw [hT] at ht rise lensT;cases ht
   cases r with
   |nil=>rfl
   |cons d r=>
    have lt:=(jo.mp rise).1 d (jd ..);rw [zo,jK lt];have:=WB (c:=((0:Rat),List.replicate m (0:Rat))) (d:=d) (by rw [jB,lensT d (jf _ (jd ..))]);exact this
 ·rcases hnx with z|⟨r,hr,hlt⟩
  ·exact absurd z lastj
  obtain ⟨d,hd,rfl⟩:=zZ hr;have lc:=lens c (jc hc);have ld:=lens d (jc hd);have hcd:c.1<d.1:=by grind
  rw [zhT h.rise lens hc hd hqe (jC hlt)];have t1:=tget (j+1) d hd;have t2:=tget j c hc;have dl:j+1<P.length:=(je.mp hd).1;rw [show P.length - 1 - j=P.length - 1 - (j+1)+1 by omega] at t2;rw [zhT rise lensT t1 t2 (by show T - d.1<=e;grind) (by show e<=T - c.1;grind)];unfold WH ziF
  apply qg
  intro i
  by_cases hi:i<m
  ·have ia:i<as.length:=by rw [h.lenA];exact hi
   have ic:i<c.2.length:=by omega
   have id':i<d.2.length:=by omega
   have a1:=jb ia;have c1:=jb ic;have d1:=jb id';unfold UI;dsimp only;rw [jt,jt,jt,jt,jt,a1,c1,d1]
   congr 1
   generalize as[i]=A;generalize c.2[i]=C;generalize d.2[i]=D;unfold ZE;have hi2:=qQ _ (ZB hcd);rw [qY,qY,show T - c.1 - (T - d.1)=d.1 - c.1 by grind];generalize (d.1 - c.1)⁻¹=v at*
   grind
  ·rw [jE,jE]
   ·simp only [jA,h.lenA,lc,ld];omega
   ·simp only [UI,jA,h.lenA,lc,ld];omega
end
structure Row where
 am:Rat
 rank:Int
 group:Int
 part:Rat
def ziE (L:List Row):Rat:=yb (L.map (·.am))
def zma (L:List Row):Rat:=yb (L.map (·.part))
def Row.flip (x:Row):Row:={x with part:=x.am - x.part}
def Row.first (p:Rat) (x:Row):Row:={x with am:=x.am*p}
def Row.rest (p:Rat) (x:Row):Row:={x with am:=x.am*(1 - p),part:=x.part - x.am*p}
def Row.scale (c:Rat) (x:Row):Row:={x with am:=x.am*c,part:=x.part*c}
def InQ (L:List Row):Prop:=∀x∈L,0<=x.part/\x.part<=x.am
def zsS (L:List Row):Prop:=∀x∈L,x.part*ziE L=x.am*zma L
def zix (L:List Row):Prop:=InQ L/\∀x∈L,x.part<x.am->∀y∈L,y.part<=x.part
noncomputable def Wc (L:List Row):List Int:=(zbA (L.map (·.group))).choose
def ziB:List Int->Int
 |[]=>0
 |[a]=>a
 |a::l=>min a (ziB l)
noncomputable def zfU (L:List Row):List Row:=(Wc L).map λg=>
 ⟨ziE (L.filter (·.group=g)),ziB ((L.filter (·.group=g)).map (·.rank)),g,zma (L.filter (·.group=g))⟩
def zbX (p:Rat) (X Y:List Row->Prop) (L:List Row):Prop:=if zma L<=ziE L*p then X (L.map (Row.first p)) else Y (L.map (Row.rest p))
noncomputable def ZH:Rl->List Row->Prop
 | .shares,L=>InQ L/\zsS L
 | .evenly,L=>InQ L/\zix L
 | .losses,L=>InQ L/\zix (L.map Row.flip)
 | .halves,L=>InQ L/\zbX (1 / 2) (λL=>InQ L/\zix L) (λL=>InQ L/\zix (L.map Row.flip)) L
 | .other r,L=>InQ L/\ZH r (L.map Row.flip)
 | .ranks r,L=>InQ L/\(∀k,ZH r (L.filter (·.rank=k)))/\∀x∈L,∀y∈L,x.rank<y.rank->0<y.part->x.part=x.am
 | .groups a b,L=>InQ L/\(∀g,ZH b (L.filter (·.group=g)))/\ZH a (zfU L)
 | .upto t b x y,L=>InQ L/\zbX (Rat.divInt t b) (ZH x) (ZH y) L
theorem ZH.inQ:∀{r:Rl} {L:List Row},ZH r L->InQ L
 | .shares,_,h=>h.1
 | .evenly,_,h=>h.1
 | .losses,_,h=>h.1
 | .halves,_,h=>h.1
 | .other _,_,h=>h.1
 | .ranks _,_,h=>h.1
 | .groups _ _,_,h=>h.1
 | .upto _ _ _ _,_,h=>h.1
section
variable {c:Rat} {L:List Row}
theorem zba:ziE (L.map (Row.scale c))=ziE L*c:=by
 unfold ziE;rw [<-xN,js,js];rfl
theorem za9:zma (L.map (Row.scale c))=zma L*c:=by
 unfold zma;rw [<-xN,js,js];rfl
theorem zfz {x y:Rat} (hc:0<c):x*c<=y*c↔x<=y:=by
 constructor
 ·intro h
  by_cases z:x<=y
  ·exact z
  ·have:=JA (show 0<x - y by grind) hc
   grind
 ·intro h;exact Ye h (jC hc)
theorem InQ.scale (hc:0<c) (h:InQ L):InQ (L.map (Row.scale c)):=λx hx=>by
 obtain ⟨y,hy,rfl⟩:=jk.mp hx;have:=h y hy;exact ⟨jW this.1 (jC hc),Ye this.2 (jC hc)⟩
theorem zix.scale (hc:0<c) (h:zix L):zix (L.map (Row.scale c)):=by
 refine ⟨h.1.scale hc,λx hx lt y hy=>?_⟩;obtain ⟨x',hx',rfl⟩:=jk.mp hx;obtain ⟨y',hy',rfl⟩:=jk.mp hy
 have lt':x'.part<x'.am:=by
  rcases we.mp (λz=>absurd ((zfz (c:=c) hc).mpr z) (we.mpr lt)) with z
  exact z
 exact Ye (h.2 x' hx' lt' y' hy') (jC hc)
theorem zbD:(L.map (Row.scale c)).map Row.flip=(L.map Row.flip).map (Row.scale c):=by
 rw [js,js];refine jF λx _=>?_;simp only [Function.comp,Row.flip,Row.scale]
 congr 1
 grind
theorem zjo {p:Rat}:(L.map (Row.scale c)).map (Row.first p)=(L.map (Row.first p)).map (Row.scale c):=by
 rw [js,js];refine jF λx _=>?_;simp only [Function.comp,Row.first,Row.scale]
 congr 1
 grind
theorem zlb {p:Rat}:(L.map (Row.scale c)).map (Row.rest p)=(L.map (Row.rest p)).map (Row.scale c):=by
 rw [js,js];refine jF λx _=>?_;simp only [Function.comp,Row.rest,Row.scale]
 congr 1<;>grind
theorem zbX.scale {p:Rat} {X Y:List Row->Prop} (hc:0<c) (hX:∀L,X L->X (L.map (Row.scale c))) (hY:∀L,Y L->Y (L.map (Row.scale c))) (h:zbX p X Y L):zbX p X Y (L.map (Row.scale c)):=by
 unfold zbX at h⊢;rw [za9,zba,show ziE L*c*p=ziE L*p*c by grind]
 by_cases z:zma L<=ziE L*p
 ·rw [jK z] at h;rw [jK ((zfz hc).mpr z),zjo];exact hX _ h
 ·rw [jQ z] at h;rw [jQ (λw=>z ((zfz hc).mp w)),zlb];exact hY _ h
theorem zjp {k:Int}:(L.map (Row.scale c)).filter (·.rank=k)=(L.filter (·.rank=k)).map (Row.scale c):=by
 rw [List.filter_map];rfl
theorem zch {k:Int}:(L.map (Row.scale c)).filter (·.group=k)=(L.filter (·.group=k)).map (Row.scale c):=by
 rw [List.filter_map];rfl
theorem zk5:zfU (L.map (Row.scale c))=(zfU L).map (Row.scale c):=by
 have e:Wc (L.map (Row.scale c))=Wc L:=by
  unfold Wc
  congr 2
  rw [js];rfl
 unfold zfU;rw [e,js];refine jF λg _=>?_;simp only [Function.comp,zch,zba,za9,Row.scale]
 congr 2
 rw [js];rfl
theorem ZH.scale (hc:0<c):∀{r:Rl} {L:List Row},ZH r L->ZH r (L.map (Row.scale c))
 | .shares,L,h=>⟨h.1.scale hc,λx hx=>by
  obtain ⟨y,hy,rfl⟩:=jk.mp hx;have:=h.2 y hy;rw [zba,za9];show y.part*c*(ziE L*c)=y.am*c*(zma L*c)
  grind⟩
 | .evenly,L,h=>⟨h.1.scale hc,h.2.scale hc⟩
 | .losses,L,h=>⟨h.1.scale hc,by rw [zbD];exact h.2.scale hc⟩
 | .halves,L,h=>⟨h.1.scale hc,zbX.scale hc (λL z=>⟨z.1.scale hc,z.2.scale hc⟩) (λL z=>⟨z.1.scale hc,by rw [zbD];exact z.2.scale hc⟩) h.2⟩
 | .other r,L,h=>⟨h.1.scale hc,by rw [zbD];exact ZH.scale hc h.2⟩
 | .ranks r,L,h=>⟨h.1.scale hc,λk=>by rw [zjp];exact ZH.scale hc (h.2.1 k),λx hx y hy lt pos=>by
  obtain ⟨x',hx',rfl⟩:=jk.mp hx;obtain ⟨y',hy',rfl⟩:=jk.mp hy
  have py:0<y'.part:=by
   rcases we.mp (λz:y'.part<=0=>absurd (by have:=(zfz (c:=c) (y:=0) hc).mpr z;rwa [JT] at this) (we.mpr pos)) with z
   exact z
  show x'.part*c=x'.am*c
  rw [h.2.2 x' hx' y' hy' lt py]⟩
 | .groups a b,L,h=>⟨h.1.scale hc,λg=>by rw [zch];exact ZH.scale hc (h.2.1 g),by rw [zk5];exact ZH.scale hc h.2.2⟩
 | .upto t b x y,L,h=>⟨h.1.scale hc,zbX.scale hc (λL z=>ZH.scale hc z) (λL z=>ZH.scale hc z) h.2⟩
end
def Zn (c:Cl) (p:Rat):Row:=⟨(c.1:Rat),c.2.1,c.2.2,p⟩
def zL (l:List Cl) (v:List Rat):List Row:=List.zipWith Zn l v
def amQ (l:List Cl):List Rat:=l.map λc=>(c.1:Rat)
section
variable {l:List Cl} {v:List Rat}
theorem Xb {x:Row} (h:x∈zL l v):∃(i:Nat) (c:Cl) (p:Rat),l[i]? =some c/\v[i]? =some p/\x=Zn c p:=by
 obtain ⟨i,hi,e⟩:=jR h;have hi':=hi;unfold zL at hi';rw [jA] at hi';refine ⟨i,l[i]'(by omega),v[i]'(by omega),jb _,jb _,?_⟩;rw [<-e];exact jX (f:=Zn) (l:=l) (l':=v) (h:=hi)
theorem WO {i:Nat} {c:Cl} {p:Rat} (hc:l[i]? =some c) (hp:v[i]? =some p):Zn c p∈zL l v:=by
 apply jc (i:=i)
 unfold zL;rw [jt,hc,hp]
theorem Wn:∀{l:List Cl} {v:List Rat},v.length=l.length->ziE (zL l v)=yb (amQ l)
 |[],[],_=>rfl
 |[],_::_,h=>by simp at h
 |_::_,[],h=>by simp at h
 |c::l,p::v,h=>by
  have:=Wn (l:=l) (v:=v) (by simpa using h);unfold ziE at this⊢;show yb ((c.1:Rat)::(zL l v).map (·.am))=yb ((c.1:Rat)::amQ l);rw [yb,yb,this]
theorem Xt:∀{l:List Cl} {v:List Rat},v.length=l.length->zma (zL l v)=yb v
 |[],[],_=>rfl
 |[],_::_,h=>by simp at h
 |_::_,[],h=>by simp at h
 |c::l,p::v,h=>by
  have:=Xt (l:=l) (v:=v) (by simpa using h);unfold zma at this⊢;show yb (p::(zL l v).map (·.part))=yb (p::v);rw [yb,yb,this]
theorem zaz:∀{l:List Cl} {v:List Rat},(zL l v).map Row.flip=zL l (ziF (amQ l) v)
 |[],_=>rfl
 |_::_,[]=>rfl
 |c::l,p::v=>by
  show _::(zL l v).map Row.flip=_::zL l (ziF (amQ l) v);rw [zaz];rfl
theorem zfh (p:Rat):∀{l:List Cl} {v:List Rat},(zL l (za3 p v)).map (Row.first p)=(zL l v).map (Row.scale p)
 |[],_=>rfl
 |_::_,[]=>rfl
 |c::l,q::v=>by
  show _::(zL l (za3 p v)).map (Row.first p)=_::(zL l v).map (Row.scale p);rw [zfh];rfl
def zbo (p:Rat) (as v:List Rat):List Rat:=List.zipWith (λa x=>a*p+x*(1 - p)) as v
theorem zhE (p:Rat):∀{l:List Cl} {v:List Rat},(zL l (zbo p (amQ l) v)).map (Row.rest p)=(zL l v).map (Row.scale (1 - p))
 |[],_=>rfl
 |_::_,[]=>rfl
 |c::l,q::v=>by
  show Row.rest p (Zn c ((c.1:Rat)*p+q*(1 - p)))::(zL l (zbo p (amQ l) v)).map (Row.rest p)=Row.scale (1 - p) (Zn c q)::(zL l v).map (Row.scale (1 - p));rw [zhE]
  congr 1
  simp only [Row.rest,Row.scale,Zn]
  congr 1
  grind
theorem Vb (l:List Cl):(amQ l).length=l.length:=ja _
end
structure Good (r:Rl) (l:List Cl) (P:List zh):Prop where
 std:Std l.length (yb (amQ l)) (amQ l) P
 fit:∀e:Rat,0<=e->ZH r (zL l (zo P e))
section
variable {r x y:Rl} {l:List Cl} {P P':List zh}
theorem Std.clip {m:Nat} {T:Rat} {as:List Rat} (h:Std m T as P) {e:Rat}:zo P e=zo P (mn e T):=by
 unfold mn
 split
 ·rfl
 ·rename_i c;rw [h.past (jC (we.mp c)),h.past jP]
theorem zgT {m:Nat} {T:Rat} {as:List Rat} (h:Std m T as P):Std m T as (yW P):=by
 have hl:=h.lastC;have lA:=h.lenA;obtain ⟨r,er⟩:=h.cons
 have tz:UI (T,as) (T,as)=(0,List.replicate m 0):=by
  unfold UI;rw [show T - T=(0:Rat) by grind]
  congr 1
  apply qu
  ·rw [jA,lA,jB,qI]
  ·intro i _ _;rw [jX,qA]
   grind
 have t0:UI (T,as) (0,List.replicate m 0)=(T,as):=by
  unfold UI;dsimp only;rw [show T - (0:Rat)=T by grind]
  congr 1
  apply qu
  ·rw [jA,lA,jB,qI]
  ·intro i _ _;rw [jX,qA]
   grind
 have sub:∀{x y:List Rat},x.length=y.length->yb (List.zipWith (· - ·) x y)=yb x - yb y:=by
  intro x
  induction x with
  |nil=>intro y h;cases y with
   |nil=>rw [List.zipWith_nil_left,yb];grind
   |cons _ _=>simp at h
  |cons a x ih=>intro y h;cases y with
   |nil=>simp at h
   |cons b y=>rw [wo,yb,yb,yb,ih (by simpa using h)];grind
 have sT:yb as=T:=(h.ok _ (qX h.last)).2;refine ⟨?_,λc hc=>?_,?_,?_⟩
 ·unfold yW yU;rw [qi,List.pairwise_reverse]
  exact h.rise.imp λ{c d} hcd=>by
   show (S.lastC P).1 - d.1<(S.lastC P).1 - c.1
   grind
 ·obtain ⟨d,hd,rfl⟩:=jk.mp hc;have ok:=h.ok d (JK.mp hd);rw [hl];refine ⟨?_,?_⟩
  ·show (List.zipWith _ as d.2).length=m;rw [jA,lA,ok.1,qI]
  ·show yb (List.zipWith _ as d.2)=T - d.1;rw [sub (by rw [lA,ok.1]),sT,ok.2]
 ·unfold yW;rw [jh,<-List.head?_eq_getElem?,List.head?_reverse,h.last,hl,<-tz];rfl
 ·unfold yW;rw [wG,List.getLast?_reverse,hl,List.head?_eq_getElem?,h.head];show some (UI (T,as) (0,List.replicate m 0))=_;rw [t0]
theorem Good.other (h:Good r l P):Good (.other r) l (yW P):=by
 have st:=h.std;refine ⟨zgT st,λe h0=>?_⟩;have st':=zgT st;rw [st'.clip]
 have m0:0<=mn e (yb (amQ l)):=by
  have:=st.T0;unfold mn
  split<;>grind
 have m1:mn e (yb (amQ l))<=yb (amQ l):=by unfold mn;split<;>grind
 rw [st.turned m0 m1];have f:=h.fit (yb (amQ l) - mn e (yb (amQ l))) (by grind);have ln:=st.len (e:=yb (amQ l) - mn e (yb (amQ l)));generalize zo P (yb (amQ l) - mn e (yb (amQ l)))=w at*;refine ⟨?_,by rw [zaz,zmw (by rw [Vb];exact ln)];exact f⟩;intro x hx;rw [<-zaz] at hx;obtain ⟨z,hz,rfl⟩:=jk.mp hx;have:=f.inQ z hz;show 0<=z.am - z.part/\z.am - z.part<=z.am
 grind
theorem Vr {m:Nat} {T:Rat} {as:List Rat} {p:Rat} (hp:0<p) (h:Std m T as P):Std m (T*p) (za3 p as) (yj p P):=by
 refine ⟨ziR hp h.rise,λc hc=>?_,?_,?_⟩
 ·obtain ⟨d,hd,rfl⟩:=jk.mp hc;have:=h.ok d hd;exact ⟨by rw [ja];exact this.1,by rw [xN,this.2]⟩
 ·unfold yj;rw [jh,h.head];show some ((0:Rat)*p,(List.replicate m (0:Rat)).map (·*p))=_;rw [JT,Jw,JT]
 ·unfold yj;rw [wG,h.last];rfl
theorem zd8 {m:Nat} {T T':Rat} {as as':List Rat} (h:Std m T as P) (h':Std m T' as' P'):Std m (T+T') (List.zipWith (·+·) as as') (P++xn P P'):=by
 have hl:=h.lastC;obtain ⟨r',er'⟩:=h'.cons;have lA:=h.lenA;have mem:(T,as)∈P:=qX h.last;have sT:=(h.ok _ mem).2;refine ⟨?_,λc hc=>?_,?_,?_⟩
 ·refine qJ.mpr ⟨h.rise,?_,λc hc d hd=>?_⟩
  ·unfold xn;rw [qi];refine JH (λ{a b} hab=>?_) (Jg (List.tail_sublist P') h'.rise);show (S.lastC P).1+a.1<(S.lastC P).1+b.1
   grind
  ·obtain ⟨d',hd',rfl⟩:=jk.mp hd
   have c1:c.1<=T:=by
    obtain ⟨i,hi,rfl⟩:=jR hc;have hlast:=h.last;rw [wu] at hlast;obtain ⟨hi2,e2⟩:=je.mp hlast
    by_cases z:i=P.length - 1
    ·subst z;rw [e2];exact jP
    ·have:=jN.mp h.rise i (P.length - 1) hi hi2 (by omega);rw [e2] at this;exact jC this
   have d1:0<d'.1:=by
    have rr:=h'.rise;rw [er'] at rr hd';exact (jo.mp rr).1 d' hd'
   show c.1<(S.lastC P).1+d'.1;rw [hl];show c.1<T+d'.1
   grind
 ·rcases jV.mp hc with z|z
  ·exact h.ok c z
  ·obtain ⟨d,hd,rfl⟩:=jk.mp z;have ok:=h'.ok d (qK hd);rw [hl];refine ⟨?_,?_⟩
   ·show (List.zipWith _ as d.2).length=m;rw [jA,lA,ok.1,qI]
   ·show yb (List.zipWith (·+·) as d.2)=T+d.1;rw [zcH (by rw [lA,ok.1]),ok.2];rw [show yb as=T from sT]
 ·rw [wt (wZ.mpr h.ne),h.head]
 ·unfold xn
  have hz:List.zipWith (·+·) as (List.replicate m (0:Rat))=as:=by
   apply qu
   ·rw [jA,lA,jB,qI]
   ·intro i _ _;rw [jX,qA]
    grind
  cases r' with
  |nil=>
   have hl':=h'.last;rw [er'] at hl'⊢;cases hl';rw [List.tail_cons,wB,wW,h.last,hz,Rat.add_zero]
  |cons d t=>
   have hl':=h'.last;rw [er',qH] at hl';rw [er',List.tail_cons,List.getLast?_append,wG,hl',hl];rfl
theorem zgK {m:Nat} {T:Rat} {as:List Rat} (h:Std m T as P):Std m T as (yR P)/\∀e:Rat,0<=e->zo (yR P) e=zo P e:=by
 obtain ⟨r,er⟩:=h.cons;have sub:=YB P
 have kl:(yR P).getLast? =P.getLast? :=by
  rw [er];show ((0,List.replicate m 0)::yD (0,List.replicate m 0) r).getLast? =((0,List.replicate m 0)::r).getLast?
  have:∀(r:List zh) (a:zh),(yD a r).getLast? =r.getLast? :=by
   intro r
   induction r with
   |nil=>intro a;rw [yD]
   |cons b r ih=>
    intro a
    cases r with
    |nil=>rw [yD]
    |cons c r=>
     rw [yD]
     split
     ·rw [ih b,qH]
     ·rw [Qd,ih b,qH,Qd];rfl
  rw [Qd,this,<-Qd]
 refine ⟨⟨Jg sub h.rise,λc hc=>h.ok c (sub.subset hc),by rw [er];rfl,by rw [kl];exact h.last⟩,λe h0=>?_⟩;have rr:=h.rise;have ok:=h.ok;rw [er] at rr ok⊢;exact zgL rr (λx hx=>(ok x hx).1) h0
theorem zcj {m:Nat} {T T':Rat} {as as':List Rat} {P P':List zh} (h:Std m T as P) (h':Std m T' as' P') {e:Rat} (h0:0<=e):zo (yR (P++xn P P')) e=if e<T then zo P e else List.zipWith (·+·) as (zo P' (e - T)):=by
 have s:=zd8 h h';obtain ⟨_,k2⟩:=zgK s;rw [k2 e h0];obtain ⟨r1,er1⟩:=h.cons;obtain ⟨r2,er2⟩:=h'.cons;have l1:=h.lastC
 split
 ·rename_i c;have lt:e<(S.lastC P).1:=by rw [l1];exact c
  generalize hM:xn P P'=M;rw [er1] at lt⊢;exact VL h0 lt
 ·rename_i c;have ge:T<=e:=qh.mp c;have le:(S.lastC P).1<=e:=by rw [l1];exact ge
  have rr:=h.rise
  have ev:zo (P++xn P P') e=zo (S.lastC P::xn P P') e:=by
   generalize hM:xn P P'=M;rw [er1] at le rr⊢;exact YT rr le
  rw [ev,l1]
  have em:((T,as):zh)::xn P P'=P'.map (Uv (T,as)):=by
   unfold xn;rw [l1]
   conv=>rhs;rw [er2]
   rw [jq]
   congr 1
   ·unfold Uv;dsimp only;rw [Rat.add_zero]
    congr 1
    apply qu
    ·rw [jA,jB,h.lenA,qI]
    ·intro i _ _;rw [jX,qA]
     grind
   ·rw [er2];rfl
  rw [em];have pp:=zdD (m:=m) (c:=(T,as)) (e:=e) h.lenA (q:=(0,List.replicate m 0)) (r:=r2) (by rw [<-er2];exact λz hz=>(h'.ok z hz).1);rw [<-er2] at pp;exact pp
theorem Good.upto {p:Rat} {t b:Int} (ep:p=Rat.divInt t b) (p0:0<p) (p1:p<1) (nn:∀c∈l,0<=c.1) (hx:Good x l P) (hy:Good y l P'):Good (.upto t b x y) l (Vk p P P'):=by
 have q0:0<1 - p:=by grind
 have s1:=Vr p0 hx.std;have s2:=Vr q0 hy.std;have s3:=zd8 s1 s2;have eT:yb (amQ l)*p+yb (amQ l)*(1 - p)=yb (amQ l):=by grind
 have eA:List.zipWith (·+·) (za3 p (amQ l)) (za3 (1 - p) (amQ l))=amQ l:=by
  unfold za3
  apply qu
  ·simp
  ·intro i _ _;simp only [jX,wD]
   grind
 rw [eT,eA] at s3;obtain ⟨k1,_⟩:=zgK s3;refine ⟨k1,λe h0=>?_⟩;unfold Vk;rw [zcj s1 s2 h0];have lenE:∀e:Rat,(zo P e).length=l.length:=λe=>hx.std.len;have lenE':∀e:Rat,(zo P' e).length=l.length:=λe=>hy.std.len;have T0:=hx.std.T0;have amn:∀(i:Nat) (c:Cl),l[i]? =some c->(0:Rat)<=(c.1:Rat):=λi c hc=>zbL (nn c (jc hc));have sA:∀v:List Rat,v.length=l.length->ziE (zL l v)=yb (amQ l):=λv hv=>Wn hv
 have low:∀w:List Rat,w.length=l.length->ZH x (zL l w)->yb w<=yb (amQ l)->ZH (.upto t b x y) (zL l (za3 p w)):=λw hw fw hs=>by
  have lw:(za3 p w).length=l.length:=by unfold za3;rw [ja];exact hw
  refine ⟨λz hz=>?_,?_⟩
  ·obtain ⟨i,c,q,hc,hq,rfl⟩:=Xb hz;unfold za3 at hq;rw [jh] at hq
   cases e1:w[i]? with
   |none=>rw [e1] at hq;cases hq
   |some q'=>
    rw [e1] at hq;cases hq;have:=fw.inQ _ (WO hc e1);have a0:=amn i c hc;have t1:0<=q'/\q'<=(c.1:Rat):=this;show 0<=q'*p/\q'*p<=(c.1:Rat);refine ⟨jW t1.1 (jC p0),?_⟩;have u1:=Ye t1.2 (jC p0);have u2:=jW a0 (jC q0)
    grind
  ·rw [<-ep];unfold zbX;rw [sA _ lw,Xt lw];have:yb (za3 p w)=yb w*p:=xN p w;rw [this,jK ((zfz p0).mpr hs),zfh];exact ZH.scale p0 fw
 have high:∀w:List Rat,w.length=l.length->ZH y (zL l w)->0<yb w->ZH (.upto t b x y) (zL l (zbo p (amQ l) w)):=λw hw fw hs=>by
  have lw:(zbo p (amQ l) w).length=l.length:=by unfold zbo;rw [jA,Vb,hw,qI]
  have es:yb (zbo p (amQ l) w)=yb (amQ l)*p+yb w*(1 - p):=by
   have e1:zbo p (amQ l) w=List.zipWith (·+·) (za3 p (amQ l)) (za3 (1 - p) w):=by
    unfold zbo za3;rw [JL]
   rw [e1,zcH (by unfold za3;rw [ja,ja,Vb,hw])];show yb ((amQ l).map (·*p))+yb (w.map (·*(1 - p)))=_;rw [xN,xN]
  refine ⟨λz hz=>?_,?_⟩
  ·obtain ⟨i,c,q,hc,hq,rfl⟩:=Xb hz;unfold zbo at hq;rw [jt] at hq;have ea:(amQ l)[i]? =some (c.1:Rat):=by unfold amQ;rw [jh,hc];rfl
   rw [ea] at hq
   cases e1:w[i]? with
   |none=>rw [e1] at hq;cases hq
   |some q'=>
    rw [e1] at hq;cases hq;have:=fw.inQ _ (WO hc e1);have a0:=amn i c hc;have t1:0<=q'/\q'<=(c.1:Rat):=this;show 0<=(c.1:Rat)*p+q'*(1 - p)/\(c.1:Rat)*p+q'*(1 - p)<=(c.1:Rat);have u0:=jW a0 (jC p0);have u1:=Ye t1.2 (jC q0);have u2:=jW t1.1 (jC q0)
    grind
  ·rw [<-ep];unfold zbX;rw [sA _ lw,Xt lw,es];have pos:=JA hs q0;rw [jQ (by grind),zhE];exact ZH.scale q0 fw
 split
 ·rw [VJ p0];have e0:0<=e / p:=by rw [qY];exact jW h0 (jC (Rat.inv_pos.mpr p0))
  refine low _ (lenE _) (hx.fit _ e0) ?_;rw [hx.std.sum e0];unfold mn
  split<;>grind
 ·rename_i c;have ge:yb (amQ l)*p<=e:=qh.mp c
  have k:List.zipWith (·+·) (za3 p (amQ l)) (zo (yj (1 - p) P') (e - yb (amQ l)*p))=zbo p (amQ l) (zo P' ((e - yb (amQ l)*p) / (1 - p))):=by
   rw [VJ q0];unfold zbo za3;rw [JL]
  rw [k];have d0:0<=(e - yb (amQ l)*p) / (1 - p):=by rw [qY];exact jW (by grind) (jC (Rat.inv_pos.mpr q0))
  have fw:=hy.fit _ d0;have sw:=hy.std.sum d0;have lw:=lenE' ((e - yb (amQ l)*p) / (1 - p));generalize zo P' ((e - yb (amQ l)*p) / (1 - p))=w at*
  by_cases pos:0<yb w
  ·exact high w lw fw pos
  ·
   have w0:∀q∈w,q=0:=by
    have nnw:∀q∈w,0<=q:=λq hq=>by
     obtain ⟨i,hi,rfl⟩:=jR hq;have:=fw.inQ _ (WO (jb (l:=l) (i:=i) (by omega)) (jb hi));exact this.1
    have:∀{w:List Rat},(∀q∈w,0<=q)->0<=yb w/\(yb w<=0->∀q∈w,q=0):=by
     intro w
     induction w with
     |nil=>intro _;exact ⟨by rw [yb];exact jP,λ_ q hq=>absurd hq jp⟩
     |cons a w ih=>
      intro h;have ha:=h a (jd ..);obtain ⟨i1,i2⟩:=ih λq hq=>h q (jf _ hq);rw [yb];refine ⟨by grind,λhs q hq=>?_⟩
      rcases jn.mp hq with rfl|hq
      ·exact wK (by grind) ha
      ·exact i2 (by grind) q hq
    exact (this nnw).2 (qh.mp pos)
   have ew:zbo p (amQ l) w=za3 p (amQ l):=by
    unfold zbo za3
    apply qu
    ·rw [jA,ja,Vb,lw,qI]
    ·intro i h1 h2;rw [jX,wD,w0 _ (qa _)]
     grind
   rw [ew];have full:=hx.fit _ hx.std.T0;rw [hx.std.past jP] at full;exact low _ (Vb l) full jP
end
theorem zaT (l:List Cl):amQ l=(amV l).map λ(a:Int)=>(a:Rat):=by unfold amQ amV;rw [js];rfl
theorem ZU (l:List Cl):yb (amQ l)=(((amV l).sum:Int):Rat):=by rw [zaT,zag]
theorem zcZ (l:List Cl):yp (amV l)=(yb (amQ l),amQ l):=by rw [ZU,zaT];rfl
theorem zss {P:List zh} {c:zh} (ne:P≠[]) (h:lastC P=c):P.getLast? =some c:=by
 rw [<-h];unfold lastC;rw [qd ne];rfl
section
variable {l:List Cl} {ls:List Int}
theorem WY (h:LvOk (amV l) ls):Good .evenly l (evP (amV l) ls):=by
 obtain ⟨r,er⟩:=zoc h;refine ⟨⟨h.riseE,λc hc=>by rw [<-yJ];exact zkD _ _ c hc,by rw [er,Vd,yJ];rfl,zss (by rw [er];simp) (by rw [zkE h,zcZ])⟩,λe h0=>?_⟩;obtain ⟨z,z0,hz⟩:=h.evenly h0;rw [hz]
 have row:∀x∈zL l ((amV l).map λ(a:Int)=>mn (a:Rat) z),0<=x.am/\x.part=mn x.am z:=λx hx=>by
  obtain ⟨i,c,p,hc,hp,rfl⟩:=Xb hx;unfold amV at hp;rw [js,jh,hc] at hp;cases hp;exact ⟨zbL (h.nn _ (jk.mpr ⟨c,jc hc,rfl⟩)),rfl⟩
 have inq:InQ (zL l ((amV l).map λ(a:Int)=>mn (a:Rat) z)):=λx hx=>by
  obtain ⟨a0,e⟩:=row x hx;rw [e];exact mn_nn a0 z0
 refine ⟨inq,inq,λx hx lt y hy=>?_⟩;obtain ⟨a0,ex⟩:=row x hx;obtain ⟨b0,ey⟩:=row y hy;rw [ex] at lt⊢;rw [ey];unfold mn at lt⊢
 split at lt
 ·exact absurd lt wQ
 ·rename_i c;rw [jQ c]
  split<;>grind
theorem zdX (h:LvOk (amV l) ls):Good .losses l (loP (amV l) ls):=by
 have g:=(WY h).other;rw [zc2 h] at g;exact ⟨g.std,λe h0=>⟨(g.fit e h0).1,(g.fit e h0).2.2⟩⟩
theorem zdW (nn:∀a∈amV l,0<=a):Good .shares l (shP (amV l)):=by
 have s0:=zcc nn
 have std:Std l.length (yb (amQ l)) (amQ l) (shP (amV l)):=by
  have az:(amV l).sum=0->amQ l=List.replicate l.length 0:=λc=>by
   have:=zjZ nn c;rw [zaT,<-yJ,<-wX];exact jF λa ha=>by rw [this a ha];rfl
  unfold shP
  by_cases c:(amV l).sum=0
  ·rw [jK c];refine ⟨wf _ _,λx hx=>?_,by rw [Vd,yJ];rfl,?_⟩
   ·rw [ju.mp hx];have:=WI (Xa (amV l).length);rw [zaf,yJ] at this;rw [yJ];exact this
   ·show some _=some _;rw [Vd,yJ,az c,Wj];rfl
  ·rw [jQ c];refine ⟨?_,λx hx=>?_,by rw [Vd,yJ];rfl,?_⟩
   ·refine jo.mpr ⟨λd hd=>?_,wf _ _⟩;rw [ju.mp hd,Vd];exact XO (show 0<(amV l).sum by omega)
   ·rcases jn.mp hx with rfl|hx
    ·have:=WI (Xa (amV l).length);rw [zaf,yJ] at this;rw [yJ];exact this
    ·rw [ju.mp hx,<-yJ];exact WI _
   ·show some _=some _;rw [zcZ];rfl
 refine ⟨std,λe h0=>?_⟩;have ln:=std.len (e:=e);obtain ⟨z,⟨z0,z1⟩,hz,_⟩:=zo1 nn h0;have sP:=Xt (l:=l) ln;have sA:=Wn (l:=l) ln
 have es:yb (zo (shP (amV l)) e)=yb (amQ l)*z:=by
  rw [hz,zaT,<-xN,js];rfl
 rw [es] at sP;rw [hz] at sP sA⊢
 have row:∀x∈zL l ((amV l).map λ(a:Int)=>(a:Rat)*z),0<=x.am/\x.part=x.am*z:=λx hx=>by
  obtain ⟨i,c,p,hc,hp,rfl⟩:=Xb hx;unfold amV at hp;rw [js,jh,hc] at hp;cases hp;exact ⟨zbL (nn _ (jk.mpr ⟨c,jc hc,rfl⟩)),rfl⟩
 refine ⟨λx hx=>?_,λx hx=>?_⟩
 ·obtain ⟨a0,e⟩:=row x hx;rw [e];refine ⟨jW a0 z0,?_⟩;have:=jW a0 (show 0<=1 - z by grind)
  grind
 ·rw [sA,sP,(row x hx).2]
  grind
theorem zjj (h:LvOk (amV l) ls):Good .halves l (yR (hvP (amV l) ls)):=by
 have e2:Rat.divInt 1 2=(1:Rat) / 2:=by decide+kernel
 have g:=Good.upto (p:=1 / 2) (t:=1) (b:=2) e2.symm zkz (by decide+kernel) (λc hc=>h.nn _ (jk.mpr ⟨c,hc,rfl⟩)) (WY h) (zdX h)
 have eu:Vk (1 / 2) (evP (amV l) ls) (loP (amV l) ls)=yR (hvP (amV l) ls):=by
  unfold Vk;rw [show (1:Rat) - 1 / 2=1 / 2 by decide+kernel];rfl
 rw [eu] at g;refine ⟨g.std,λe h0=>?_⟩;have f:=g.fit e h0;refine ⟨f.1,?_⟩;have f2:=f.2;rw [e2] at f2;exact f2
end
theorem xg {t b:Int} (b0:b≠0):Rat.divInt t b*(b:Rat)=(t:Rat):=by
 have h3:∀z:Int,(z:Rat)=Rat.divInt z 1:=λz=>by rw [<-Qb (z:Rat)];rfl
 rw [h3 b,h3 t,Jf,Qf];exact (JR b0 (by decide)).mpr (by rw [Qf])
theorem zdu {t b:Int} (h:zit t b):0<Rat.divInt t b/\Rat.divInt t b<1:=by
 obtain ⟨_,t0,tb,_⟩:=h;have b0:(0:Rat)<(b:Rat):=XO (by omega);have e:=xg (t:=t) (b:=b) (by omega);have t0':=XO t0;have tb':=zgV tb;generalize Rat.divInt t b=q at*
 constructor
 ·by_cases z:0<q
  ·exact z
  ·have:=Ye (qh.mp z) (jC b0)
   grind
 ·by_cases z:q<1
  ·exact z
  ·have:=Ye (qh.mp z) (jC b0)
   grind
def Xh (D:Int) (x:Rat):Prop:=∃k:Int,x*(D:Rat)=(k:Rat)
section
variable {D D':Int} {x y:Rat} {P P':List zh}
theorem Xh.mul (h:Xh D x) (n:Int):Xh (D*n) x:=by
 obtain ⟨k,hk⟩:=h;exact ⟨k*n,by rw [jZ,jZ,<-Rat.mul_assoc,hk]⟩
theorem Xh.mulL (h:Xh D x) (n:Int):Xh (n*D) x:=by rw [Int.mul_comm];exact h.mul n
theorem Xh.add (h:Xh D x) (g:Xh D y):Xh D (x+y):=by
 obtain ⟨k,hk⟩:=h;obtain ⟨j,hj⟩:=g;exact ⟨k+j,by rw [Rat.intCast_add,<-hk,<-hj];grind⟩
theorem Xh.sub (h:Xh D x) (g:Xh D y):Xh D (x - y):=by
 obtain ⟨k,hk⟩:=h;obtain ⟨j,hj⟩:=g;exact ⟨k - j,by rw [wY,<-hk,<-hj];grind⟩
theorem Xh.port {t b:Int} (b0:b≠0) (h:Xh D x):Xh (b*D) (x*Rat.divInt t b):=by
 obtain ⟨k,hk⟩:=h;refine ⟨k*t,?_⟩;have e:=xg (t:=t) b0;rw [jZ,jZ,<-hk,<-e]
 grind
theorem Xh.int (n:Int) (D:Int):Xh D (n:Rat):=⟨n*D,by rw [jZ]⟩
theorem Xh.sz {m n:Nat} {T:Rat} (h:Xh D x) (d0:0<D) (zD:Sz m D) (x0:0<=x) (xT:x<=T) (zT:∃k:Int,T=(k:Rat)/\Sz n k):SzQ (n+m) x:=by
 obtain ⟨k,hk⟩:=h;obtain ⟨t,rfl,zt⟩:=zT;have dp:=XO d0
 have e:x=Rat.divInt k D:=by
  have h2:=xg (t:=k) (b:=D) (by omega);have:(x - Rat.divInt k D)*(D:Rat)=0:=by grind
  rcases Rat.mul_eq_zero.mp this with z|z
  ·grind
  ·rw [z] at dp;exact absurd dp wQ
 have k0:0<=k:=VS (by rw [<-hk];exact jW x0 (jC dp));have kT:k<=t*D:=VS (by rw [<-hk,jZ];exact Ye xT (jC dp));rw [e];exact SzQ.divInt (zhm k0 kT (zt.mul zD)) (zD.mono (by omega)) (by omega)
theorem zcY {f:Rat->Rat->Rat} {u v:List Rat} {z:Rat} (h:z∈List.zipWith f u v):∃a∈u,∃b∈v,z=f a b:=by
 obtain ⟨i,hi,e⟩:=jR h;have hi':=hi;rw [jA] at hi';rw [jX] at e;exact ⟨_,qa (by omega),_,qa (by omega),e.symm⟩
theorem zh2 (ne:P≠[]):lastC P∈P:=by
 unfold lastC;rw [qd ne];exact List.getLast_mem ne
theorem zr8 {t b:Int} (b0:b≠0):1 - Rat.divInt t b=Rat.divInt (b - t) b:=by
 have e1:=xg (t:=t) b0;have e2:=xg (t:=b - t) b0;have bn:((b:Int):Rat)≠0:=λz=>b0 (Rat.intCast_inj.mp (by rw [z];rfl))
 have:(1 - Rat.divInt t b - Rat.divInt (b - t) b)*(b:Rat)=0:=by
  rw [wY] at e2
  grind
 rcases Rat.mul_eq_zero.mp this with z|z
 ·grind
 ·exact absurd z bn
end
section
variable {r x y:Rl} {l:List Cl} {P P':List zh}
theorem Std.at_corner {m:Nat} {T:Rat} {as:List Rat} (h:Std m T as P) {c:zh} (hc:c∈P):zo P c.1=c.2:=by
 obtain ⟨i,hi,rfl⟩:=jR hc;have e1:=jb hi
 cases hn:P[i+1]? with
 |none=>
  have:=Yd (E:=P[i].1) h.rise e1 jP (.inl (by have:=Jj.mp hn;omega));rw [hn] at this;exact this
 |some d=>
  have hd:=je.mp hn;have lt:=jN.mp h.rise i (i+1) hi hd.1 (by omega);rw [hd.2] at lt;have:=Yd (E:=P[i].1) h.rise e1 jP (.inr ⟨d,hn,lt⟩);rw [hn] at this;rw [this];exact WB (by rw [(h.ok _ (qa hi)).1,(h.ok d (jc hn)).1])
theorem Std.range {m:Nat} {T:Rat} {as:List Rat} (h:Std m T as P) {c:zh} (hc:c∈P):0<=c.1/\c.1<=T:=by
 have h0:0<=c.1:=by
  obtain ⟨r,er⟩:=h.cons;have rr:=h.rise;rw [er] at rr hc
  rcases jn.mp hc with rfl|hc
  ·exact jP
  ·exact jC ((jo.mp rr).1 c hc)
 refine ⟨h0,?_⟩;have s:=h.sum h0;rw [h.at_corner hc,(h.ok c hc).2] at s;unfold mn at s
 split at s
 ·assumption
 ·rw [s];exact jP
theorem Xy:∀{v:List Rat},(∀q∈v,0<=q)->0<=yb v/\∀q∈v,q<=yb v
 |[],_=>⟨by rw [yb];exact jP,λq hq=>absurd hq jp⟩
 |a::v,h=>by
  have ha:=h a (jd ..);obtain ⟨i1,i2⟩:=Xy (v:=v) λq hq=>h q (jf _ hq);rw [yb];refine ⟨by grind,λq hq=>?_⟩
  rcases jn.mp hq with rfl|hq
  ·grind
  ·have:=i2 q hq;grind
theorem Good.parts (h:Good r l P) {e:Rat} (h0:0<=e):∀q∈zo P e,0<=q/\q<=yb (amQ l):=by
 have nn:∀q∈zo P e,0<=q:=λq hq=>by
  obtain ⟨i,hi,rfl⟩:=jR hq;have ln:=h.std.len (e:=e);exact ((h.fit e h0).inQ _ (WO (jb (l:=l) (i:=i) (by omega)) (jb hi))).1
 obtain ⟨_,le⟩:=Xy nn;have s:=h.std.sum h0;have m1:mn e (yb (amQ l))<=yb (amQ l):=by unfold mn;split<;>grind
 intro q hq;have:=le q hq;exact ⟨nn q hq,by grind⟩
end
def xt (tk:List Int):List Rat:=tk.map λ(p:Int)=>(p:Rat)
structure FitG (r:Rl) (l:List Cl) (tk:List Int):Prop where
 len:tk.length=l.length
 fit:ZH r (zL l (xt tk))
def yw (n:Int) (l:List Cl):List Cl:=l.map λc=>(n*c.1,c.2)
def xA (n:Int) (tk:List Int):List Int:=tk.map (n*·)
section
variable {r x y:Rl} {l:List Cl} {tk:List Int}
theorem VT (tk:List Int):(xt tk).length=tk.length:=ja _
theorem FitG.row (h:FitG r l tk) {i:Nat} {a p:Int} (ha:(amV l)[i]? =some a) (hp:tk[i]? =some p):∃c:Cl,l[i]? =some c/\c.1=a/\Zn c (p:Rat)∈zL l (xt tk):=by
 unfold amV at ha;rw [jh] at ha
 cases e:l[i]? with
 |none=>rw [e] at ha;cases ha
 |some c=>
  rw [e] at ha;cases ha;exact ⟨c,rfl,rfl,WO e (by unfold xt;rw [jh,hp];rfl)⟩
theorem FitG.inB (h:FitG r l tk):InB (amV l) tk:=⟨by rw [yJ];exact h.len,λi a p ha hp=>by
 obtain ⟨c,_,rfl,hm⟩:=h.row ha hp;have:=h.fit.inQ _ hm
 exact ⟨VS this.1,VS this.2⟩⟩
theorem zob {L:List Row} {l:List Cl} {tk:List Int} (hl:tk.length=l.length) (e:L=zL l (xt tk)) (h:zix L):ziy (amV l) tk:=by
 refine ⟨by rw [yJ];exact hl,λi a p ha hp=>?_⟩;unfold amV at ha;rw [jh] at ha
 cases e1:l[i]? with
 |none=>rw [e1] at ha;cases ha
 |some c=>
  rw [e1] at ha;cases ha;have hm:Zn c (p:Rat)∈L:=by rw [e];exact WO e1 (by unfold xt;rw [jh,hp];rfl)
  have b:=h.1 _ hm;refine ⟨VS b.1,VS b.2,λlt q hq=>?_⟩;obtain ⟨j,hj,rfl⟩:=jR hq
  have hm2:Zn (l[j]'(by omega)) ((tk[j]:Int):Rat)∈L:=by
   rw [e];exact WO (jb _) (by unfold xt;rw [jh,jb hj];rfl)
  exact VS (h.2 _ hm (zgV lt) _ hm2)
theorem zlY {am tk:List Int}:xt (ZN am tk)=ziF (xt am) (xt tk):=by
 unfold xt ZN ziF;rw [JM,JL]
 congr 1
 funext a b
 rw [wY]
theorem zqd (l:List Cl):xt (amV l)=amQ l:=(zaT l).symm
theorem zhF:zL l (xt (ZN (amV l) tk))=(zL l (xt tk)).map Row.flip:=by
 rw [zlY,zqd,zaz]
theorem zks (h:tk.length=l.length):(ZN (amV l) tk).length=l.length:=by rw [VO (by rw [yJ];exact h),yJ]
theorem FitG.evenly (h:FitG .evenly l tk):ziy (amV l) tk:=zob h.len rfl h.fit.2
theorem FitG.losses (h:FitG .losses l tk):ziy (amV l) (ZN (amV l) tk):=zob (zks h.len) zhF.symm h.fit.2
theorem FitG.other (h:FitG (.other r) l tk):FitG r l (ZN (amV l) tk):=⟨zks h.len,by rw [zhF];exact h.fit.2⟩
theorem za8 (tk:List Int):yb (xt tk)=((tk.sum:Int):Rat):=zag tk
theorem FitG.sums (h:FitG r l tk):ziE (zL l (xt tk))=(((amV l).sum:Int):Rat)/\zma (zL l (xt tk))=((tk.sum:Int):Rat):=
 ⟨by rw [Wn (by rw [VT];exact h.len),ZU],by rw [Xt (by rw [VT];exact h.len),za8]⟩
theorem FitG.shares (h:FitG .shares l tk):tk.map (·*(amV l).sum)=(amV l).map (·*tk.sum):=by
 have s:=h.sums;have f:=h.fit.2
 apply qu
 ·rw [ja,ja,yJ,h.len]
 ·intro i h1 h2;rw [ja] at h1 h2;obtain ⟨c,_,e,hm⟩:=h.row (jb h2) (jb h1);have:=f _ hm;rw [s.1,s.2] at this;rw [wD,wD]
  apply Rat.intCast_inj.mp
  rw [jZ,jZ,<-e];exact this
theorem FitG.halves (h:FitG .halves l tk):FitG (.upto 1 2 .evenly .losses) l tk:=by
 refine ⟨h.len,h.fit.1,?_⟩;have e2:Rat.divInt 1 2=(1:Rat) / 2:=by decide+kernel
 rw [e2];exact h.fit.2
theorem ZT (n:Int) (l:List Cl):(yw n l).length=l.length:=ja _
theorem Wi (n:Int) (tk:List Int):(xA n tk).length=tk.length:=ja _
theorem VV (n:Int) (l:List Cl):amV (yw n l)=xA n (amV l):=by
 unfold amV yw xA;rw [js,js];rfl
theorem za5 (n:Int):∀tk:List Int,(xA n tk).sum=n*tk.sum
 |[]=>by show (0:Int)=n*0;rw [Int.mul_zero]
 |a::tk=>by
  show (n*a::xA n tk).sum=_;rw [jM,jM,za5 n tk,Int.mul_add]
theorem zk9 (B:Int):∀{l:List Cl} {tk:List Int},zL (yw B l) (xt (xA B tk))=(zL l (xt tk)).map (Row.scale (B:Rat))
 |[],_=>rfl
 |_::_,[]=>rfl
 |c::l,p::tk=>by
  show Zn (B*c.1,c.2) ((B*p:Int):Rat)::zL (yw B l) (xt (xA B tk))=Row.scale (B:Rat) (Zn c (p:Rat))::(zL l (xt tk)).map (Row.scale (B:Rat));rw [zk9]
  congr 1
  simp only [Zn,Row.scale,jZ]
  congr 1<;>grind
theorem zkb {t b:Int} (b0:b≠0):∀{l:List Cl} {tk:List Int},zL (yw t l) (xt (xA b tk))=((zL l (xt tk)).map (Row.first (Rat.divInt t b))).map (Row.scale (b:Rat))
 |[],_=>rfl
 |_::_,[]=>rfl
 |c::l,p::tk=>by
  show Zn (t*c.1,c.2) ((b*p:Int):Rat)::zL (yw t l) (xt (xA b tk))=Row.scale (b:Rat) (Row.first (Rat.divInt t b) (Zn c (p:Rat)))::((zL l (xt tk)).map (Row.first (Rat.divInt t b))).map (Row.scale (b:Rat));rw [zkb b0];have e:=xg (t:=t) b0
  congr 1
  simp only [Zn,Row.scale,Row.first,jZ]
  congr 1<;>grind
theorem zka {t b:Int} (b0:b≠0):∀{l:List Cl} {tk:List Int},zL (yw (b - t) l) (xt (ZN (xA b tk) (xA t (amV l))))=((zL l (xt tk)).map (Row.rest (Rat.divInt t b))).map (Row.scale (b:Rat))
 |[],[]=>rfl
 |[],_::_=>rfl
 |_::_,[]=>rfl
 |c::l,p::tk=>by
  show Zn ((b - t)*c.1,c.2) ((b*p - t*c.1:Int):Rat)::zL (yw (b - t) l) (xt (ZN (xA b tk) (xA t (amV l))))=Row.scale (b:Rat) (Row.rest (Rat.divInt t b) (Zn c (p:Rat)))::((zL l (xt tk)).map (Row.rest (Rat.divInt t b))).map (Row.scale (b:Rat));rw [zka b0];have e:=xg (t:=t) b0
  congr 1
  simp only [Zn,Row.scale,Row.rest,jZ,wY]
  congr 1<;>grind
theorem FitG.upto {t b:Int} (b0:0<b) (h:FitG (.upto t b x y) l tk):
 if (xA b tk).sum<=(amV (yw t l)).sum then FitG x (yw t l) (xA b tk) else FitG y (yw (b - t) l) (ZN (xA b tk) (amV (yw t l))):=by
 have s:=h.sums;have f:=h.fit.2;have bp:=XO b0;have bn:b≠0:=by omega
 have e:=xg (t:=t) bn;unfold zbX at f;rw [s.1,s.2] at f
 have iff:((tk.sum:Int):Rat)<=(((amV l).sum:Int):Rat)*Rat.divInt t b↔(xA b tk).sum<=(amV (yw t l)).sum:=by
  rw [VV,za5,za5,<-zfz bp,<-qb,jZ,jZ,<-e]
  constructor<;>intro z<;>grind
 by_cases c:(xA b tk).sum<=(amV (yw t l)).sum
 ·rw [jK (iff.mpr c)] at f;rw [jK c];exact ⟨by rw [Wi,ZT];exact h.len,by rw [zkb bn];exact ZH.scale bp f⟩
 ·rw [jQ (λz=>c (iff.mp z))] at f;rw [jQ c];refine ⟨?_,by rw [VV,zka bn];exact ZH.scale bp f⟩;rw [VV,ZT,VO (by rw [Wi,Wi,yJ,h.len]),Wi];exact h.len
theorem zlP {P:List zh} {B:Int} {e:Rat} (g:Good r l P) (hB:0<B) (e0:0<=e) (de:(e.den:Int)∣B) (hd:∀p∈zo P e,(p.den:Int)∣B):
 (tkV B (zo P e)).sum=min (e.num*B.fdiv (e.den:Int)) (B*(amV l).sum)/\FitG r (yw B l) (tkV B (zo P e)):=by
 have bp:=XO hB;have ln:=g.std.len (e:=e)
 have ec:xt (tkV B (zo P e))=za3 (B:Rat) (zo P e):=by
  unfold xt tkV za3;rw [js];exact jF λp hp=>zhl hB (hd p hp)
 have lt:(tkV B (zo P e)).length=l.length:=by unfold tkV;rw [ja];exact ln
 refine ⟨?_,by rw [ZT];exact lt,?_⟩
 ·apply Rat.intCast_inj.mp
  rw [<-za8,ec,zqQ,zhl hB de,jZ,Rat.mul_comm (B:Rat),<-zpC bp,<-ZU];have:=g.std.sum e0;rw [<-this];exact xN _ _
 ·rw [ec]
  have:∀{l:List Cl} {v:List Rat},zL (yw B l) (za3 (B:Rat) v)=(zL l v).map (Row.scale (B:Rat)):=by
   intro l
   induction l with
   |nil=>intro v;rfl
   |cons c l ih=>
    intro v
    cases v with
    |nil=>rfl
    |cons q v=>
     show Zn (B*c.1,c.2) (q*(B:Rat))::zL (yw B l) (za3 (B:Rat) v)=Row.scale (B:Rat) (Zn c q)::(zL l v).map (Row.scale (B:Rat));rw [ih]
     congr 1
     simp only [Zn,Row.scale,jZ]
     congr 1
     grind
  rw [this];exact ZH.scale bp (g.fit e e0)
end
section
variable {r x y:Rl} {t b:Int} {l:List Cl}
theorem zpl (h:zit t b):PyData.tuple [.int t, .int b]=frD (Rat.divInt t b):=by
 have b0:0<b:=by have:=h.2.1;have:=h.2.2.1;omega
 have l:=zbB (a:=t) b0;unfold frD;rw [<-l.1,<-l.2,h.2.2.2];rw [show (((1:Nat):Int))=1 from rfl,Int.fdiv_one,Int.fdiv_one]
theorem zr3 (h:zit t b):SzQ 210 (Rat.divInt t b):=SzQ.divInt h.1.1 h.1.2 (by have:=h.2.1;have:=h.2.2.1;omega)
theorem zbf {P:List zh} {m n:Nat} {p:Rat} (h:∀c∈P,SzC n c) (hp:SzQ m p):∀c∈yj p P,SzC (n+m) c:=λc hc=>by
 obtain ⟨d,hd,rfl⟩:=jk.mp hc;have:=h d hd;refine ⟨this.1.mul hp,λq hq=>?_⟩;obtain ⟨x,hx,rfl⟩:=jk.mp hq;exact (this.2 x hx).mul hp
end
section
variable {B G0 H:Hp} {cs:xq} {ds:Dat} {Q:VK} {E:XK} {v w u:V} {K:PySem.W.Frag}
end
def zci:Rl->Nat
 | .halves=>3
 | .other r=>zci r+1
 | .upto _ _ x y=>max (zci x) (zci y)+1
 | .ranks r=>zci r+1
 | .groups a b=>max (zci a) (zci b)+1
 |_=>1
theorem zqc:∀r:Rl,1<=zci r
 | .shares=>jy _
 | .evenly=>jy _
 | .losses=>jy _
 | .halves=>by decide
 | .other r=>by simp [zci]
 | .ranks r=>by simp [zci]
 | .groups a b=>by simp [zci]
 | .upto _ _ x y=>by simp [zci]
section
variable {B G0 H:Hp} {cs:xq} {ds:Dat} {Q:VK} {E:XK} {v w u:V} {K:PySem.W.Frag} {n:Nat} {r x y:Rl} {l:List Cl} {tk:List Int} {t b:Int}
theorem port12:zit 1 2:=⟨⟨by unfold Sz;decide,by unfold Sz;decide⟩,by decide,by decide,by decide⟩
theorem zjX {c:Int} {m:Nat} (hc:Sz 211 c) (h:∀x∈amV l,Sz m x):∀x∈amV (yw c l),Sz (m+300) x:=λx hx=>by
 rw [VV] at hx;obtain ⟨a,ha,rfl⟩:=jk.mp hx;exact (hc.mul (h a ha)).mono (by omega)
end
section
variable {B G0 H:Hp} {cs:xq} {ds:Dat} {Q:VK} {E:XK} {v w u:V} {K:PySem.W.Frag} {r:Rl} {l:List Cl} {e:Rat}
end
section
variable {B G0 H:Hp} {cs:xq} {ds:Dat} {Q:VK} {E:XK} {v w u:V} {K:PySem.W.Frag}
end
theorem ziG {m:Nat} {a b c y:zh} (hbc:b.1<c.1) (lb:b.2.length=m) (lc:c.2.length=m) (h1:yh a b c) (h2:yh b c y):yh a b y:=λi A B Y hA hB hY=>by
 have hi:i<m:=by rw [<-lb];exact (je.mp hB).1
 have hC:=jb (l:=c.2) (i:=i) (by omega);have e1:=h1 i A B _ hA hB hC;have e2:=h2 i B _ Y hB hC hY;generalize c.2[i]=C at*;have e3:(B - A)*(c.1 - b.1)=(C - B)*(b.1 - a.1):=by grind
 have e5:((B - A)*(y.1 - a.1) - (Y - A)*(b.1 - a.1))*(c.1 - b.1)=0:=by
  have:((B - A)*(y.1 - a.1) - (Y - A)*(b.1 - a.1))*(c.1 - b.1)=((B - A)*(c.1 - b.1))*(y.1 - a.1) - ((Y - B)*(c.1 - b.1))*(b.1 - a.1) - ((B - A)*(c.1 - b.1))*(b.1 - a.1):=by grind
  rw [this,e3,<-e2];grind
 have:=yl e5 (ZB hbc)
 grind
theorem zhn {m:Nat} {k a b c:zh} (hkb:k.1<b.1) (la:a.2.length=m) (lk:k.2.length=m) (h1:yh k a b) (h2:yh k b c):yh a b c:=λi A B C hA hB hC=>by
 have hi:i<m:=by rw [<-la];exact (je.mp hA).1
 have hK:=jb (l:=k.2) (i:=i) (by omega);have e1:=h1 i _ A B hK hA hB;have e2:=h2 i _ B C hK hB hC;generalize k.2[i]=K at*;have e3:(B - A)*(b.1 - k.1)=(B - K)*(b.1 - a.1):=by grind
 have e4:(C - A)*(b.1 - k.1)=(B - K)*(c.1 - a.1):=by grind
 have e5:((B - A)*(c.1 - a.1) - (C - A)*(b.1 - a.1))*(b.1 - k.1)=0:=by
  have:((B - A)*(c.1 - a.1) - (C - A)*(b.1 - a.1))*(b.1 - k.1)=((B - A)*(b.1 - k.1))*(c.1 - a.1) - ((C - A)*(b.1 - k.1))*(b.1 - a.1):=by grind
  rw [this,e3,e4];grind
 have:=yl e5 (ZB hkb)
 grind
theorem Thn.cons {k:zh} {F:List zh} (h:Thn F) (h0:∀y z t,F=y::z::t->¬yh k y z):Thn (k::F)
 |0,x,y,z,hx,hy,hz=>by
  match F,h0,hy,hz with
  |[],_,hy,_=>simp at hy
  |[_],_,_,hz=>simp at hz
  |a::b::t,h0,hy,hz=>
   simp at hx hy hz;subst hx;subst hy;subst hz;exact h0 _ _ t rfl
 |i+1,x,y,z,hx,hy,hz=>h i x y z (by simpa using hx) (by simpa using hy) (by simpa using hz)
theorem zdU {m:Nat}:∀(r:List zh) (k a b:zh),yU (k::b::r)->(∀x∈k::b::r,x.2.length=m)->(a=k\/(k.1<a.1/\a.1<b.1/\a.2.length=m/\yh k a b))->
 Thn (k::yD a (b::r))/\∃y t,yD a (b::r)=y::t/\(y=b\/(b.1<y.1/\y.2.length=m/\yh a b y))
 |[],k,a,b,_,_,_=>by
  rw [yD];exact ⟨λi x y z _ _ hz=>by simp at hz,b,[],rfl, .inl rfl⟩
 |c::r,k,a,b,hr,hl,ha=>by
  obtain ⟨h1,h2⟩:=jo.mp hr;obtain ⟨h3,h4⟩:=jo.mp h2;have hkb:=h1 b (jd ..);have hbc:=h3 c (jd ..);have lk:=hl k (jd ..);have lb:=hl b (jf _ (jd ..));have lc:=hl c (jf _ (jf _ (jd ..)));rw [yD]
  split
  ·rename_i st
   have st':yh k b c:=by
    rcases ha with rfl|⟨_,hab,la,s0⟩
    ·exact st
    ·exact zcd hab lk la s0 st
   have rk:yU (k::c::r):=jo.mpr ⟨λx hx=>h1 x (jf _ hx),h4⟩
   obtain ⟨i1,y,t,e,i2⟩:=zdU r k b c rk (λx hx=>hl x (by
    rcases jn.mp hx with rfl|hx
    ·exact jd ..
    ·exact jf _ (jf _ hx))) (.inr ⟨hkb,hbc,lb,st'⟩)
   refine ⟨i1,y,t,e, .inr ?_⟩
   rcases i2 with rfl|⟨hcy,ly,s⟩
   ·exact ⟨hbc,lc,st⟩
   ·exact ⟨xX hbc hcy,ly,ziG hbc lb lc st s⟩
  ·rename_i st;obtain ⟨i1,y,t,e,i2⟩:=zdU r b b c h2 (λx hx=>hl x (jf _ hx)) (.inl rfl);refine ⟨i1.cons λy' z t' ez=>?_,b,_,rfl, .inl rfl⟩;rw [e] at ez;cases ez;intro s
   have s1:yh k b c:=by
    rcases i2 with rfl|⟨hcy,ly,s2⟩
    ·exact s
    ·exact zfY (xX hbc hcy) lb ly s2 s
   rcases ha with rfl|⟨_,hab,la,s0⟩
   ·exact st s1
   ·exact st (zhn hkb la lk s0 s1)
theorem zh3 {m:Nat} {L:List zh} (hr:yU L) (hl:∀x∈L,x.2.length=m):Thn (yR L):=by
 match L,hr,hl with
 |[],_,_=>exact λi x y z hx=>by simp [yR] at hx
 |[c],_,_=>exact λi x y z _ hy=>by simp [yR,yD] at hy
 |c::b::r,hr,hl=>exact (zdU r c c b hr hl (.inl rfl)).1
def Mon (P:List zh):Prop:=P.Pairwise λc d=>LeV c.2 d.2
structure Ful (m:Nat) (T:Rat) (as:List Rat) (P:List zh):Prop where
 std:Std m T as P
 mono:Mon P
 thin:Thn P
section
variable {m:Nat} {T T':Rat} {as as':List Rat} {P P':List zh}
theorem Ful.pm (h:Ful m T as P):PathM m P:=⟨⟨h.std.rise,λc hc=>(h.std.ok c hc).1,h.thin⟩,λc hc=>(h.std.ok c hc).2,h.mono⟩
theorem LeV.refl (x:List Rat):LeV x x:=λi a b ha hb=>by rw [ha] at hb;cases hb;exact jP
theorem Std.le_last (h:Std m T as P) (mo:Mon P):∀c∈P,LeV c.2 as:=λc hc=>by
 obtain ⟨i,hi,rfl⟩:=jR hc;have hlast:=h.last;rw [wu] at hlast;obtain ⟨hi2,e2⟩:=je.mp hlast
 by_cases z:i=P.length - 1
 ·subst z;rw [e2];exact LeV.refl _
 ·have:=jN.mp mo i (P.length - 1) hi hi2 (by omega);rw [e2] at this;exact this
theorem Std.nn (h:Std m T as P) (mo:Mon P):∀c∈P,∀(i:Nat) (a:Rat),c.2[i]? =some a->0<=a:=λc hc i a ha=>by
 obtain ⟨r,er⟩:=h.cons;have hl:=(h.ok c hc).1;rw [er] at hc mo
 rcases jn.mp hc with rfl|hc
 ·have:=(je.mp ha).2;rw [qA] at this;rw [<-this];exact jP
 ·refine (jo.mp mo).1 c hc i 0 a ?_ ha;have:=(je.mp ha).1;rw [jU,jK (by omega)]
theorem Ful.turned (h:Ful m T as P):Ful m T as (yW P):=by
 have hl:=h.std.lastC;have lA:=h.std.lenA;refine ⟨zgT h.std,?_,λi x y z hx hy hz st=>?_⟩
 ·unfold Mon yW;rw [qi,List.pairwise_reverse];refine JH (λ{c d} hcd=>?_) h.mono;intro i a b ha hb;obtain ⟨a1,a2,e1,e2,rfl⟩:=zmx (x:=(lastC P).2) (y:=d.2) ha;obtain ⟨b1,b2,f1,f2,rfl⟩:=zmx (x:=(lastC P).2) (y:=c.2) hb;rw [e1] at f1;cases f1;have:=hcd i b2 a2 f2 e2
  grind
 ·unfold yW at hx hy hz;obtain ⟨x,hx',rfl⟩:=zZ hx;obtain ⟨y,hy',rfl⟩:=zZ hy;obtain ⟨z,hz',rfl⟩:=zZ hz;have iz:=(je.mp hz').1;rw [qw] at iz;rw [List.getElem?_reverse (by omega)] at hx' hy' hz';have lx:=(h.std.ok x (jc hx')).1;refine h.thin (P.length - 1 - (i+2)) z y x hz' (by rw [<-hy'];congr 1;omega) (by rw [<-hx'];congr 1;omega) ?_;rw [hl] at st;intro j c b a hc hb ha;have hj:j<as.length:=by rw [lA,<-lx];exact (je.mp ha).1
  have hA:=jb hj;have:=st j (as[j] - a) (as[j] - b) (as[j] - c) (zah hA ha) (zah hA hb) (zah hA hc);generalize as[j]=A at*;have e:(A - b - (A - a))*(T - z.1 - (T - x.1))=(A - c - (A - a))*(T - y.1 - (T - x.1)):=this
  grind
theorem Ful.scaled {p:Rat} (hp:0<p) (h:Ful m T as P):Ful m (T*p) (za3 p as) (yj p P):=by
 have mget:∀{x:List Rat} {i:Nat} {a:Rat},(x.map (·*p))[i]? =some a->∃b,x[i]? =some b/\a=b*p:=λ{x i a} ha=>by
  rw [jh] at ha
  cases e:x[i]? with
  |none=>rw [e] at ha;cases ha
  |some b=>rw [e] at ha;cases ha;exact ⟨b,rfl,rfl⟩
 refine ⟨Vr hp h.std,?_,λi x y z hx hy hz st=>?_⟩
 ·unfold Mon yj;rw [qi];refine JH (λ{c d} hcd=>?_) h.mono;intro i a b ha hb;obtain ⟨a',ha',rfl⟩:=mget ha;obtain ⟨b',hb',rfl⟩:=mget hb;exact Ye (hcd i a' b' ha' hb') (jC hp)
 ·unfold yj at hx hy hz;obtain ⟨x,hx',rfl⟩:=zZ hx;obtain ⟨y,hy',rfl⟩:=zZ hy;obtain ⟨z,hz',rfl⟩:=zZ hz;refine h.thin i x y z hx' hy' hz' ?_;intro j a b c ha hb hc;have g:∀{x:List Rat} {a:Rat},x[j]? =some a->(x.map (·*p))[j]? =some (a*p):=λ{x a} h=>by rw [jh,h];rfl
  have:=st j (a*p) (b*p) (c*p) (g ha) (g hb) (g hc);have e:(b*p - a*p)*(z.1*p - x.1*p)=(c*p - a*p)*(y.1*p - x.1*p):=this
  have pn:p*p≠0:=λz=>by
   have:=JA hp hp;rw [z] at this;exact absurd this wQ
  have:=yl (a:=(b - a)*(z.1 - x.1) - (c - a)*(y.1 - x.1)) (b:=p*p) (by grind) pn
  grind
theorem zqu (h:Std m T as P) (mo:Mon P) (h':Std m T' as' P') (mo':Mon P'):Mon (P++xn P P'):=by
 have hl:=h.lastC;refine qJ.mpr ⟨mo,?_,λc hc d hd=>?_⟩
 ·unfold xn;rw [qi];refine JH (λ{a b} hab=>?_) (Jg (List.tail_sublist P') mo');intro i x y hx hy;unfold Uv at hx hy;dsimp only at hx hy;rw [jt] at hx hy
  cases e0:(lastC P).2[i]? with
  |none=>rw [e0] at hx;cases hx
  |some q=>
   cases e1:a.2[i]? with
   |none=>rw [e0,e1] at hx;cases hx
   |some u=>
    cases e2:b.2[i]? with
    |none=>rw [e0,e2] at hy;cases hy
    |some v=>
     rw [e0,e1] at hx;rw [e0,e2] at hy;cases hx;cases hy;have:=hab i u v e1 e2
     grind
 ·obtain ⟨d',hd',rfl⟩:=jk.mp hd;have dm:=qK hd';intro i x y hx hy;unfold Uv at hy;dsimp only at hy;rw [hl,jt] at hy
  cases e0:as[i]? with
  |none=>dsimp only at hy;rw [e0] at hy;cases hy
  |some q=>
   cases e1:d'.2[i]? with
   |none=>dsimp only at hy;rw [e0,e1] at hy;cases hy
   |some u=>
    dsimp only at hy;rw [e0,e1] at hy;cases hy;have h1:=h.le_last mo c hc i x q hx e0;have h2:=h'.nn mo' d' dm i u e1
    grind
theorem zfI (h:Std m T as P) (mo:Mon P) (h':Std m T' as' P') (mo':Mon P'):Ful m (T+T') (List.zipWith (·+·) as as') (yR (P++xn P P')):=by
 have s:=zd8 h h';obtain ⟨k1,_⟩:=zgK s;exact ⟨k1,Jg (YB _) (zqu h mo h' mo'),zh3 s.rise λx hx=>(s.ok x hx).1⟩
end
section
variable {l:List Cl} {ls as:List Int}
theorem zsD (as:List Int) {ls:List Int} (h:ls.Pairwise (·<·)):Mon (evP as ls):=by
 unfold Mon evP;rw [qi];refine JH (λ{a b} hab=>?_) h;intro i x y hx hy;unfold yp Vn at hx hy;simp only [js,jh] at hx hy
 cases e:as[i]? with
 |none=>rw [e] at hx;cases hx
 |some q=>
  rw [e] at hx hy;cases hx;cases hy;show ((min q a:Int):Rat)<=((min q b:Int):Rat);exact qb.mpr (by omega)
theorem zsC (h:LvOk as ls):Thn (evP as ls):=λi x y z hx hy hz st=>by
 unfold evP at hx hy hz;obtain ⟨a,ha,rfl⟩:=zZ hx;obtain ⟨b,hb,rfl⟩:=zZ hy;obtain ⟨c,hc,rfl⟩:=zZ hz
 have lt:∀{i j:Nat} {a b:Int},ls[i]? =some a->ls[j]? =some b->i<j->a<b:=λ{i j a b} ha hb hij=>by
  obtain ⟨l1,rfl⟩:=je.mp ha;obtain ⟨l2,rfl⟩:=je.mp hb;exact jN.mp h.rise i j l1 l2 hij
 have ab:=lt ha hb (by omega);have bc:=lt hb hc (by omega);have a0:=h.nnL a (jc ha)
 have bm:b∈as:=by
  rcases (h.mem b).mp (jc hb) with z|z
  ·omega
  ·exact z
 obtain ⟨j,hj⟩:=jw.mp bm
 have g:∀q:Int,(yp (Vn as q)).2[j]? =some ((min b q:Int):Rat):=λq=>by
  unfold yp Vn;simp only [js,jh,hj];rfl
 have e:=st j _ _ _ (g a) (g b) (g c);have s1:=h.sumlt (jc hb) (jc hc) bc;rw [show min b a=a by omega,show min b b=b by omega,show min b c=b by omega] at e;have e':((b:Rat) - (a:Rat))*((((Vn as c).sum:Int):Rat) - (((Vn as a).sum:Int):Rat))=((b:Rat) - (a:Rat))*((((Vn as b).sum:Int):Rat) - (((Vn as a).sum:Int):Rat)):=e;have ab':=zgV ab;have s1':=zgV s1;have:=JA (show (0:Rat)<(b:Rat) - (a:Rat) by grind) (show (0:Rat)<(((Vn as c).sum:Int):Rat) - (((Vn as b).sum:Int):Rat) by grind)
 grind
theorem Ui (h:LvOk (amV l) ls):Ful l.length (yb (amQ l)) (amQ l) (evP (amV l) ls):=⟨(WY h).std,zsD _ h.rise,zsC h⟩
theorem zfD (h:LvOk (amV l) ls):Ful l.length (yb (amQ l)) (amQ l) (loP (amV l) ls):=by
 have:=(Ui h).turned;rwa [zc2 h] at this
theorem zlS (nn:∀a∈amV l,0<=a):Ful l.length (yb (amQ l)) (amQ l) (shP (amV l)):=by
 have s:=(zdW nn).std;refine ⟨s,?_,λi x y z _ _ hz=>?_⟩
 ·obtain ⟨r,er⟩:=s.cons;have ok:=s.ok;unfold shP at er ok⊢
  split
  ·exact wf _ _
  ·refine jo.mpr ⟨λd hd=>?_,wf _ _⟩;rw [ju.mp hd,Vd];intro i a b ha hb;have e1:=(je.mp ha).2;rw [qA] at e1;unfold yp at hb;simp only [jh] at hb
   cases e:(amV l)[i]? with
   |none=>rw [e] at hb;cases hb
   |some q=>
    rw [e] at hb;cases hb;rw [<-e1];exact zbL (nn q (jc e))
 ·unfold shP at hz
  split at hz<;>simp at hz
theorem zkC {P P':List zh} {p:Rat} (p0:0<p) (p1:p<1) (hx:Ful l.length (yb (amQ l)) (amQ l) P) (hy:Ful l.length (yb (amQ l)) (amQ l) P'):Ful l.length (yb (amQ l)) (amQ l) (Vk p P P'):=by
 have s1:=hx.scaled p0;have s2:=hy.scaled (p:=1 - p) (by grind);have:=zfI s1.std s1.mono s2.std s2.mono;have eT:yb (amQ l)*p+yb (amQ l)*(1 - p)=yb (amQ l):=by grind
 have eA:List.zipWith (·+·) (za3 p (amQ l)) (za3 (1 - p) (amQ l))=amQ l:=by
  unfold za3
  apply qu
  ·simp
  ·intro i _ _;simp only [jX,wD]
   grind
 rw [eT,eA] at this;exact this
theorem zlT (h:LvOk (amV l) ls):Ful l.length (yb (amQ l)) (amQ l) (yR (hvP (amV l) ls)):=by
 have g:=zkC (p:=1 / 2) zkz (by decide+kernel) (Ui h) (zfD h)
 have eu:Vk (1 / 2) (evP (amV l) ls) (loP (amV l) ls)=yR (hvP (amV l) ls):=by
  unfold Vk;rw [show (1:Rat) - 1 / 2=1 / 2 by decide+kernel];rfl
 rw [eu] at g;exact g
end
def ZC:List (Rat×Nat)->List Rat->List Rat
 |[],w=>w
 |(p,i)::r,w=>ZC r (w.set i p)
def yv (pl:List Nat) (n:Nat) (v:List Rat):List Rat:=ZC (v.zip pl) (List.replicate n 0)
theorem zbe:∀(z:List (Rat×Nat)) (w:List Rat),(ZC z w).length=w.length
 |[],w=>rfl
 |(p,i)::r,w=>by rw [ZC,zbe r,JY]
theorem UK {j:Nat}:∀(z:List (Rat×Nat)) (w:List Rat),(∀x∈z,x.2≠j)->(ZC z w)[j]? =w[j]?
 |[],w,_=>rfl
 |(p,i)::r,w,h=>by
  rw [ZC,UK r _ λx hx=>h x (jf _ hx),JI (h (p,i) (jd ..))]
theorem zfe {p:Rat} {j:Nat}:∀(z:List (Rat×Nat)) (w:List Rat),(z.map (·.2)).Nodup->(p,j)∈z->j<w.length->(ZC z w)[j]? =some p
 |[],w,_,h,_=>absurd h jp
 |(q,i)::r,w,nd,h,hj=>by
  rw [jq,qM] at nd;rw [ZC]
  rcases jn.mp h with e|h
  ·cases e;rw [UK r _ λx hx e=>nd.1 (jk.mpr ⟨x,hx,e⟩),List.getElem?_set_self hj]
  ·exact zfe r _ nd.2 h (by rw [JY];exact hj)
theorem zmf {v:List Rat} {pl:List Nat} (h:v.length=pl.length):(v.zip pl).map (·.2)=pl:=by
 have:(v.zip pl).map Prod.snd=pl:=List.map_snd_zip (by omega);exact this
structure Pls (n:Nat) (pl:List Nat):Prop where
 nd:pl.Nodup
 lt:∀i∈pl,i<n
section
variable {n m:Nat} {pl:List Nat} {v u:List Rat}
theorem xv (pl:List Nat) (n:Nat) (v:List Rat):(yv pl n v).length=n:=by unfold yv;rw [zbe,jB]
theorem zfb (h:Pls n pl) (hv:v.length=pl.length) {p:Rat} {i:Nat} (hm:(p,i)∈v.zip pl):(yv pl n v)[i]? =some p:=
 zfe _ _ (by rw [zmf hv];exact h.nd) hm (by rw [jB];exact h.lt i (Jy hm).2)
theorem ZV (h:Pls n pl) (hv:v.length=pl.length) {i j:Nat} {p:Rat} (hj:pl[j]? =some i) (hp:v[j]? =some p):(yv pl n v)[i]? =some p:=
 zfb h hv (jc (i:=j) (by rw [qq];exact ⟨hp,hj⟩))
theorem ZL {i:Nat} (hi:i<n) (hm:i∉pl):(yv pl n v)[i]? =some 0:=by
 unfold yv;rw [UK _ _ λx hx e=>hm (by rw [<-e];exact (Jy (a:=x.1) (b:=x.2) hx).2),jU,jK hi]
theorem ZP (h:Pls n pl) (hv:v.length=pl.length) {i:Nat} {p:Rat} (hp:(yv pl n v)[i]? =some p):(∃j:Nat,pl[j]? =some i/\v[j]? =some p)\/(i∉pl/\p=0):=by
 have hi:i<n:=by have:=(je.mp hp).1;rwa [xv] at this
 by_cases c:i∈pl
 ·obtain ⟨j,hj⟩:=jw.mp c;have jl:=(je.mp hj).1;have e:=jb (l:=v) (i:=j) (by omega);have:=ZV h hv hj e;rw [hp] at this;cases this;exact .inl ⟨j,hj,e⟩
 ·rw [ZL hi c] at hp;cases hp;exact .inr ⟨c,rfl⟩
theorem zj2:∀{w:List Rat} {i:Nat} {q p:Rat},w[i]? =some q->yb (w.set i p)=yb w - q+p
 |[],_,_,_,h=>by simp at h
 |a::w,0,q,p,h=>by
  cases h;rw [List.set_cons_zero,yb,yb];grind
 |a::w,i+1,q,p,h=>by
  rw [List.set_cons_succ,yb,yb,zj2 (w:=w) (i:=i) (q:=q) (p:=p) (by simpa using h)];grind
theorem zfd:∀(z:List (Rat×Nat)) (w:List Rat),(z.map (·.2)).Nodup->(∀x∈z,w[x.2]? =some 0)->yb (ZC z w)=yb w+yb (z.map (·.1))
 |[],w,_,_=>by rw [ZC,wB,yb];grind
 |(p,i)::r,w,nd,h=>by
  rw [jq,qM] at nd;have h0:=h (p,i) (jd ..)
  rw [ZC,zfd r _ nd.2 λx hx=>by
   rw [JI (λe=>nd.1 (jk.mpr ⟨x,hx,e.symm⟩))]
   exact h x (jf _ hx),zj2 h0,jq,yb]
  grind
theorem zk6 (h:Pls n pl) (hv:v.length=pl.length):yb (yv pl n v)=yb v:=by
 unfold yv
 rw [zfd _ _ (by rw [zmf hv];exact h.nd) λx hx=>by
  rw [jU,jK (h.lt _ (Jy (a:=x.1) (b:=x.2) hx).2)],Wj]
 have:(v.zip pl).map Prod.fst=v:=List.map_fst_zip (by omega);have e:(v.zip pl).map (·.1)=v:=this;rw [e];grind
theorem ziH (h:Pls n pl):yv pl n (List.replicate pl.length 0)=List.replicate n 0:=by
 apply qg
 intro i
 by_cases hi:i<n
 ·rw [jU,jK hi];have e:=jb (l:=yv pl n (List.replicate pl.length 0)) (i:=i) (by rw [xv];exact hi)
  rcases ZP h (by rw [jB]) e with ⟨j,hj,hp⟩|⟨_,hp⟩
  ·rw [e];have:=(je.mp hp).2;rw [qA] at this;rw [<-this]
  ·rw [e,hp]
 ·rw [jE (by rw [xv];omega),jE (by rw [jB];omega)]
def XT (pl:List Nat) (n:Nat) (c:zh):zh:=(c.1,yv pl n c.2)
def yS (pl:List Nat) (n:Nat) (P:List zh):List zh:=P.map (XT pl n)
theorem zsi (t:Rat):ZE t 0 0=0:=by unfold ZE;grind
theorem ziJ {c d:zh} {e:Rat} (h:Pls n pl) (lc:c.2.length=pl.length) (ld:d.2.length=pl.length):WH (XT pl n c) (XT pl n d) e=yv pl n (WH c d e):=by
 have lb:(WH c d e).length=pl.length:=zcV lc ld
 apply qg
 intro i
 by_cases hi:i<n
 ·have e1:=jb (l:=yv pl n c.2) (i:=i) (by rw [xv];exact hi);have e2:=jb (l:=yv pl n d.2) (i:=i) (by rw [xv];exact hi);unfold WH XT;dsimp only;rw [jt,e1,e2]
  by_cases hm:i∈pl
  ·obtain ⟨j,hj⟩:=jw.mp hm;have jl:=(je.mp hj).1;have f1:=jb (l:=c.2) (i:=j) (by omega);have f2:=jb (l:=d.2) (i:=j) (by omega);have g1:=ZV h lc hj f1;have g2:=ZV h ld hj f2;rw [e1] at g1;rw [e2] at g2
   have f3:(WH c d e)[j]? =some (ZE ((e - c.1) / (d.1 - c.1)) c.2[j] d.2[j]):=by
    unfold WH;rw [jt,f1,f2]
   have g3:=ZV h lb hj f3;unfold WH at g3;rw [g3,jL g1,jL g2]
  ·have g1:=ZL (v:=c.2) hi hm;have g2:=ZL (v:=d.2) hi hm;have g3:=ZL (v:=WH c d e) hi hm;rw [e1] at g1;rw [e2] at g2;unfold WH at g3;rw [g3,jL g1,jL g2];show some (ZE _ 0 0)=_;rw [zsi]
 ·rw [jE,jE (by rw [xv];omega)];rw [zcV (m:=n) (xv ..) (xv ..)];omega
theorem zce {e:Rat} (h:Pls n pl):∀{c:zh} {r:List zh},(∀x∈c::r,x.2.length=pl.length)->zo (yS pl n (c::r)) e=yv pl n (zo (c::r) e)
 |c,[],_=>rfl
 |c,d::r,hl=>by
  have lc:=hl c (jd ..);have ld:=hl d (jf _ (jd ..));show zo (XT pl n c::XT pl n d::yS pl n r) e=_;rw [zo,zo]
  by_cases he:e<d.1
  ·rw [jK he,jK (show e<(XT pl n d).1 from he),ziJ h lc ld]
  ·rw [jQ he,jQ (show ¬e<(XT pl n d).1 from he)];exact zce h (c:=d) (r:=r) λx hx=>hl x (jf _ hx)
theorem Std.spread {T:Rat} {as:List Rat} {P:List zh} (h:Std m T as P) (hp:Pls n pl) (hm:pl.length=m):Std n T (yv pl n as) (yS pl n P):=by
 subst hm;refine ⟨?_,λc hc=>?_,?_,?_⟩
 ·unfold yS yU;rw [qi];exact h.rise
 ·obtain ⟨d,hd,rfl⟩:=jk.mp hc;have:=h.ok d hd;exact ⟨xv ..,by show yb (yv pl n d.2)=d.1;rw [zk6 hp this.1,this.2]⟩
 ·unfold yS;rw [jh,h.head];show some (0,yv pl n _)=_;rw [ziH hp]
 ·unfold yS;rw [wG,h.last];rfl
theorem Std.spreadE {T:Rat} {as:List Rat} {P:List zh} (h:Std m T as P) (hp:Pls n pl) (hm:pl.length=m) (e:Rat):zo (yS pl n P) e=yv pl n (zo P e):=by
 obtain ⟨r,er⟩:=h.cons;have ok:=h.ok;rw [er] at ok⊢;exact zce hp λx hx=>by rw [(ok x hx).1,hm]
theorem Ful.spread {T:Rat} {as:List Rat} {P:List zh} (h:Ful m T as P) (hp:Pls n pl) (hm:pl.length=m):Ful n T (yv pl n as) (yS pl n P):=by
 have ls:∀c∈P,c.2.length=pl.length:=λc hc=>by rw [(h.std.ok c hc).1,hm]
 refine ⟨h.std.spread hp hm,?_,λi x y z hx hy hz st=>?_⟩
 ·unfold yS Mon;rw [qi];refine List.Pairwise.imp_of_mem (λ{c d} hc hd hcd=>?_) h.mono;intro i a b ha hb
  rcases ZP hp (ls c hc) ha with ⟨j,hj,ha'⟩|⟨hn,rfl⟩
  ·rcases ZP hp (ls d hd) hb with ⟨j',hj',hb'⟩|⟨hn,rfl⟩
   ·have jj:j=j':=(List.getElem?_inj (by exact (je.mp hj).1) hp.nd).mp (by rw [hj,hj']);subst jj;exact hcd j a b ha' hb'
   ·exact absurd (jc hj) hn
  ·rcases ZP hp (ls d hd) hb with ⟨j',hj',hb'⟩|⟨_,rfl⟩
   ·exact absurd (jc hj') hn
   ·exact jP
 ·unfold yS at hx hy hz;obtain ⟨x,hx',rfl⟩:=zZ hx;obtain ⟨y,hy',rfl⟩:=zZ hy;obtain ⟨z,hz',rfl⟩:=zZ hz;refine h.thin i x y z hx' hy' hz' λj a b c ha hb hc=>?_;have jl:j<pl.length:=by rw [<-ls x (jc hx')];exact (je.mp ha).1
  have hj:=jb jl;exact st (pl[j]) a b c (ZV hp (ls x (jc hx')) hj ha) (ZV hp (ls y (jc hy')) hj hb) (ZV hp (ls z (jc hz')) hj hc)
end
def yc (p:Cl->Bool) (l:List Cl):List Nat:=(List.range l.length).filter λi=>p (l.getD i (0,0,0))
def yP {α:Type} (d:α) (pl:List Nat) (v:List α):List α:=pl.map λi=>v.getD i d
section
variable {p:Cl->Bool} {l:List Cl} {v:List Rat}
theorem XI (p:Cl->Bool) (l:List Cl):Pls l.length (yc p l):=⟨List.Pairwise.filter _ List.nodup_range,λi hi=>Qh.mp (qo.mp hi).1⟩
theorem Xx {i:Nat} {c:Cl} (hc:l[i]? =some c):i∈yc p l↔p c=true:=by
 unfold yc;rw [qo,Qh,jm,hc];exact ⟨λh=>h.2,λh=>⟨(je.mp hc).1,h⟩⟩
theorem UW {α:Type} (d:α) (p:α->Bool):∀l:List α,l.filter p=((List.range l.length).filter λi=>p (l.getD i d)).map λi=>l.getD i d
 |[]=>rfl
 |a::l=>by
  have ih:=UW d p l;have e0:List.range (a::l).length=0::(List.range l.length).map Nat.succ:=by rw [jz,List.range_succ_eq_map]
  have e:(List.map Nat.succ ((List.range l.length).filter ((λi=>p ((a::l).getD i d))∘Nat.succ))).map (λi=>(a::l).getD i d)=((List.range l.length).filter λi=>p (l.getD i d)).map λi=>l.getD i d:=by
   rw [js];rfl
  have z:(a::l).getD 0 d=a:=rfl;rw [e0,JN (x:=a),JN (x:=0),List.filter_map,z]
  split
  ·rw [jq,e,<-ih,z]
  ·rw [e,<-ih]
theorem YM (p:Cl->Bool) (l:List Cl):l.filter p=yP (0,0,0) (yc p l) l:=UW (0,0,0) p l
theorem Yc (p:Cl->Bool) (l:List Cl):(yc p l).length=(l.filter p).length:=by rw [YM];unfold yP;rw [ja]
theorem XD (q:Row->Bool) (hq:∀c x,q (Zn c x)=p c) (hv:v.length=l.length):(zL l v).filter q=zL (l.filter p) (yP 0 (yc p l) v):=by
 have hl:(zL l v).length=l.length:=by unfold zL;rw [jA,hv,qI]
 have g:∀i,i<l.length->(zL l v).getD i (Zn (0,0,0) 0)=Zn (l.getD i (0,0,0)) (v.getD i 0):=λi hi=>by
  unfold zL;rw [jm,jt,jm,jm,jb hi,jb (show i<v.length by omega)];rfl
 rw [UW (Zn (0,0,0) 0) q,hl,YM]
 have e1:(List.range l.length).filter (λi=>q ((zL l v).getD i (Zn (0,0,0) 0)))=yc p l:=by
  unfold yc;refine List.filter_congr λi hi=>?_;rw [g i (Qh.mp hi),hq]
 rw [e1];unfold yP
 have e2:zL (List.map (λi=>l.getD i (0,0,0)) (yc p l)) (List.map (λi=>v.getD i 0) (yc p l))=(yc p l).map λi=>Zn (l.getD i (0,0,0)) (v.getD i 0):=by
  unfold zL;rw [JL,List.zipWith_self]
 rw [e2];refine jF λi hi=>?_;rw [g i ((XI p l).lt i hi)]
theorem zi1 {n:Nat} {pl:List Nat} (h:Pls n pl) (hv:v.length=pl.length):yP 0 pl (yv pl n v)=v:=by
 unfold yP
 apply qg
 intro j;rw [jh]
 cases e:pl[j]? with
 |none=>
  have:=Jj.mp e;rw [jE (by omega)];rfl
 |some i=>
  have jl:=(je.mp e).1;have f:=jb (l:=v) (i:=j) (by omega);have:=ZV h hv e f;show some ((yv pl n v).getD i 0)=_;rw [jm,this,f];rfl
theorem zfs {pl:List Nat} {v u:List Rat} (h:∀i∈pl,v[i]? =u[i]?):yP 0 pl v=yP 0 pl u:=by
 unfold yP;refine jF λi hi=>?_;rw [jm,jm,h i hi]
theorem VH {α:Type} (d:α) (pl:List Nat) (v:List α):(yP d pl v).length=pl.length:=ja _
end
theorem zji:Wc []=[]:=by
 unfold Wc;have:=(zbA (([]:List Row).map (·.group))).choose_spec
 exact List.eq_nil_iff_forall_not_mem.mpr λk hk=>by
  have:=(this.2 k).mp hk;simp at this
theorem XM:∀r:Rl,ZH r []
 | .shares=>⟨λx hx=>absurd hx jp,λx hx=>absurd hx jp⟩
 | .evenly=>⟨λx hx=>absurd hx jp,λx hx=>absurd hx jp,λx hx=>absurd hx jp⟩
 | .losses=>⟨λx hx=>absurd hx jp,λx hx=>absurd hx jp,λx hx=>absurd hx jp⟩
 | .halves=>⟨λx hx=>absurd hx jp,by
  unfold zbX
  split
  ·exact ⟨λx hx=>absurd hx jp,λx hx=>absurd hx jp,λx hx=>absurd hx jp⟩
  ·exact ⟨λx hx=>absurd hx jp,λx hx=>absurd hx jp,λx hx=>absurd hx jp⟩⟩
 | .other r=>⟨λx hx=>absurd hx jp,XM r⟩
 | .ranks r=>⟨λx hx=>absurd hx jp,λk=>XM r,λx hx=>absurd hx jp⟩
 | .groups a b=>⟨λx hx=>absurd hx jp,λg=>XM b,by unfold zfU;rw [zji];exact XM a⟩
 | .upto t b x y=>⟨λx hx=>absurd hx jp,by
  unfold zbX
  split
  ·exact XM x
  ·exact XM y⟩
structure GF (r:Rl) (l:List Cl) (P:List zh):Prop where
 good:Good r l P
 ful:Ful l.length (yb (amQ l)) (amQ l) P
section
variable {n:Nat} {pl:List Nat} {p:Cl->Bool} {l:List Cl} {v:List Rat}
theorem ziI (h:Pls n pl) {i:Nat} (hi:i<n) (hv:v.length=n):(yv pl n (yP 0 pl v))[i]? =if i∈pl then v[i]? else some 0:=by
 split
 ·rename_i c;obtain ⟨j,hj⟩:=jw.mp c;have e:=jb (l:=v) (i:=i) (by omega);refine (ZV h (VH ..) hj (p:=v[i]) ?_).trans e.symm;unfold yP;rw [jh,hj];show some (v.getD i 0)=_;rw [jm,e];rfl
 ·exact ZL hi (by assumption)
theorem zfL (p:Cl->Bool) (l:List Cl):amQ (l.filter p)=yP 0 (yc p l) (amQ l):=by
 rw [YM];unfold amQ yP;rw [js];refine jF λi hi=>?_;have hl:=(XI p l).lt i hi;show (((l.getD i (0,0,0)).1:Int):Rat)=(l.map λc=>((c.1:Int):Rat)).getD i 0;rw [jm,jm,jh,jb hl];rfl
end
def zW (k:Int):Cl->Bool:=λc=>decide (c.2.1=k)
def zF (k:Int):Cl->Bool:=λc=>decide (c.2.2=k)
noncomputable def yg (l:List Cl):List Int:=(zbA (l.map (·.2.1))).choose
noncomputable def zI (l:List Cl):List Int:=(zbA (l.map (·.2.2))).choose
theorem xm (l:List Cl):(yg l).Pairwise (·<·)/\∀k,k∈yg l↔k∈l.map (·.2.1):=(zbA (l.map λc:Cl=>c.2.1)).choose_spec
theorem yo (l:List Cl):(zI l).Pairwise (·<·)/\∀k,k∈zI l↔k∈l.map (·.2.2):=(zbA (l.map λc:Cl=>c.2.2)).choose_spec
def zfS (n:Nat):List zh:=[(0,List.replicate n 0)]
noncomputable def Yk (f:List Cl->List zh) (l:List Cl) (P:List zh) (k:Int):List zh:=
 yR (P++xn P (yS (yc (zW k) l) l.length (f (l.filter (zW k)))))
noncomputable def Uz (f:List Cl->List zh) (l:List Cl):List zh:=(yg l).foldl (Yk f l) (zfS l.length)
open Classical in
noncomputable def asD (done:List Int) (l:List Cl):List Rat:=l.map λc=>if c.2.1∈done then (c.1:Rat) else 0
section
variable {r:Rl} {l:List Cl} {done:List Int} {P:List zh} {f:List Cl->List zh} {k:Int}
theorem zow (done:List Int) (l:List Cl):(asD done l).length=l.length:=ja _
theorem ziq {i:Nat} {c:Cl} (hc:l[i]? =some c) (h:c.2.1∈done):(asD done l)[i]? =some (c.1:Rat):=by
 unfold asD;rw [jh,hc,Option.map_some,jK h]
theorem zd7 {i:Nat} {c:Cl} (hc:l[i]? =some c) (h:c.2.1∉done):(asD done l)[i]? =some 0:=by
 unfold asD;rw [jh,hc,Option.map_some,jQ h]
structure RkI (r:Rl) (l:List Cl) (done:List Int) (P:List zh):Prop where
 ful:Ful l.length (yb (asD done l)) (asD done l) P
 fit:∀e:Rat,0<=e->∀k∈done,ZH r ((zL l (zo P e)).filter (·.rank=k))
 zero:∀e:Rat,0<=e->∀(i:Nat) (c:Cl) (q:Rat),l[i]? =some c->(zo P e)[i]? =some q->c.2.1∉done->q=0
 ord:∀e:Rat,0<=e->∀x∈zL l (zo P e),∀y∈zL l (zo P e),x.rank∈done->x.rank<y.rank->0<y.part->x.part=x.am
theorem zoI (n:Nat):Ful n 0 (List.replicate n 0) (zfS n):=by
 refine ⟨⟨wf _ _,λc hc=>?_,rfl,rfl⟩,wf _ _,λi x y z _ hy=>by simp [zfS] at hy⟩;rw [ju.mp hc];exact ⟨jB,Wj n⟩
theorem RkI.nil:RkI r l [] (zfS l.length):=by
 have e:asD [] l=List.replicate l.length 0:=by
  unfold asD;rw [<-wX];exact jF λc _=>jQ jp
 refine ⟨?_,λe _ k hk=>absurd hk jp,λe _ i c q hc hq _=>?_,λe _ x _ y _ hx=>absurd hx jp⟩
 ·rw [e,Wj];exact zoI l.length
 ·have:(List.replicate l.length (0:Rat))[i]? =some q:=hq;have:=(je.mp this).2;rw [qA] at this;exact this.symm
theorem RkI.step (h:RkI r l done P) (hk:∀k'∈done,k'<k) (hf:GF r (l.filter (zW k)) (f (l.filter (zW k)))):RkI r l (done++[k]) (Yk f l P k):=by
 have pk:=XI (zW k) l;have lk:=Yc (zW k) l;have Sf:=hf.ful.spread pk lk;have st:=h.ful.std;have kn:k∉done:=λz=>absurd (hk k z) (by omega);have ful0:=zfI st h.ful.mono Sf.std Sf.mono;have inl:∀{i:Nat},i<l.length->∃c,l[i]? =some c:=λ{i} hi=>⟨_,jb hi⟩
 have eA:List.zipWith (·+·) (asD done l) (yv (yc (zW k) l) l.length (amQ (l.filter (zW k))))=asD (done++[k]) l:=by
  apply qg
  intro i
  by_cases hi:i<l.length
  ·obtain ⟨c,hc⟩:=inl hi;rw [jt,zfL,ziI pk hi (Vb l)]
   by_cases h1:c.2.1∈done
   ·have n1:i∉yc (zW k) l:=λz=>by
     have:=jD ((Xx hc).mp z);rw [this] at h1;exact kn h1
    rw [ziq hc h1,jQ n1,ziq hc (qW _ h1)];show some ((c.1:Rat)+0)=_;rw [Rat.add_zero]
   ·by_cases h2:c.2.1=k
    ·have n1:i∈yc (zW k) l:=(Xx hc).mpr (qc h2);rw [zd7 hc h1,jK n1,ziq hc (jG _ (by rw [h2];exact wR _))];unfold amQ;rw [jh,hc];show some ((0:Rat)+(c.1:Rat))=_;rw [Rat.zero_add]
    ·have n1:i∉yc (zW k) l:=λz=>h2 (jD ((Xx hc).mp z))
     rw [zd7 hc h1,jQ n1,zd7 hc (λz=>by
      rcases jV.mp z with z|z
      ·exact h1 z
      ·exact h2 (ju.mp z))]
     show some ((0:Rat)+0)=_;rw [Rat.zero_add]
  ·rw [jE (by rw [jA,zow];omega),jE (by rw [zow];omega)]
 have eT:yb (asD done l)+yb (amQ (l.filter (zW k)))=yb (asD (done++[k]) l):=by
  rw [<-eA];exact (ful0.std.ok _ (qX ful0.std.last)).2.symm
 rw [eA,eT] at ful0
 have parts:∀e:Rat,0<=e->zo (Yk f l P k) e=if e<yb (asD done l) then zo P e else List.zipWith (·+·) (asD done l) (yv (yc (zW k) l) l.length (zo (f (l.filter (zW k))) (e - yb (asD done l)))):=λe h0=>by
  unfold Yk;rw [zcj st Sf.std h0,hf.ful.std.spreadE pk lk]
 have lens:∀e:Rat,(zo (Yk f l P k) e).length=l.length:=λe=>ful0.std.len;have lenk:∀x:Rat,(zo (f (l.filter (zW k))) x).length=(yc (zW k) l).length:=λx=>by rw [hf.ful.std.len,lk]
 have here:∀e:Rat,0<=e->¬e<yb (asD done l)->∀(i:Nat) (c:Cl),l[i]? =some c->(c.2.1∈done->(zo (Yk f l P k) e)[i]? =some (c.1:Rat))/\(c.2.1∉done++[k]->(zo (Yk f l P k) e)[i]? =some 0)/\(c.2.1=k->(zo (Yk f l P k) e)[i]? =(yv (yc (zW k) l) l.length (zo (f (l.filter (zW k))) (e - yb (asD done l))))[i]?):=λe h0 hT i c hc=>by
  have hi:=(je.mp hc).1;rw [parts e h0,jQ hT,jt];refine ⟨λh1=>?_,λh1=>?_,λh1=>?_⟩
  ·rw [ziq hc h1,ZL hi λz=>by
    have:=jD ((Xx hc).mp z);rw [this] at h1
    exact kn h1]
   show some ((c.1:Rat)+0)=_;rw [Rat.add_zero]
  ·rw [zd7 hc λz=>h1 (qW _ z),ZL hi λz=>by
    have:=jD ((Xx hc).mp z)
    exact h1 (jG _ (by rw [this];exact wR _))]
   show some ((0:Rat)+0)=_;rw [Rat.zero_add]
  ·rw [zd7 hc (by rw [h1];exact kn)];have e1:=jb (l:=yv (yc (zW k) l) l.length (zo (f (l.filter (zW k))) (e - yb (asD done l)))) (i:=i) (by rw [xv];exact hi);rw [e1];show some ((0:Rat)+_)=_;rw [Rat.zero_add]
 have zero:∀e:Rat,0<=e->∀(i:Nat) (c:Cl) (q:Rat),l[i]? =some c->(zo (Yk f l P k) e)[i]? =some q->c.2.1∉done++[k]->q=0:=λe h0 i c q hc hq hn=>by
  by_cases hT:e<yb (asD done l)
  ·rw [parts e h0,jK hT] at hq;exact h.zero e h0 i c q hc hq λz=>hn (qW _ z)
  ·rw [(here e h0 hT i c hc).2.1 hn] at hq;cases hq;rfl
 have rk:∀{k':Int} {i:Nat},i∈yc (zW k') l->∃c,l[i]? =some c/\c.2.1=k':=λ{k' i} hi=>by
  obtain ⟨c,hc⟩:=inl ((XI (zW k') l).lt i hi);exact ⟨c,hc,jD ((Xx hc).mp hi)⟩
 refine ⟨ful0,λe h0 k' hk'=>?_,zero,λe h0 x hx y hy hx1 hlt hy1=>?_⟩
 ·rw [XD (p:=zW k') _ (λc x=>rfl) (lens e)]
  by_cases hT:e<yb (asD done l)
  ·rcases jV.mp hk' with z|z
   ·have:=h.fit e h0 k' z;rw [XD (p:=zW k') _ (λc x=>rfl) st.len] at this;rw [parts e h0,jK hT];exact this
   ·rw [ju.mp z]
    have e0:yP 0 (yc (zW k) l) (zo (Yk f l P k) e)=zo (f (l.filter (zW k))) 0:=by
     rw [hf.ful.std.zero,<-lk,<-wX];unfold yP;refine jF λi hi=>?_;obtain ⟨c,hc,e1⟩:=rk hi;have il:=(je.mp hc).1;have e2:=jb (l:=zo P e) (i:=i) (by rw [st.len];exact il);rw [parts e h0,jK hT,jm,e2];exact h.zero e h0 i c _ hc e2 (by rw [e1];exact kn)
    rw [e0];exact hf.good.fit 0 jP
  ·rcases jV.mp hk' with z|z
   ·have T0:=st.T0;have:=h.fit _ T0 k' z;rw [XD (p:=zW k') _ (λc x=>rfl) st.len,st.past jP] at this;rw [zfs (u:=asD done l) λi hi=>?_]
    ·exact this
    ·obtain ⟨c,hc,e1⟩:=rk hi;rw [(here e h0 hT i c hc).1 (by rw [e1];exact z),ziq hc (by rw [e1];exact z)]
   ·rw [ju.mp z];rw [zfs (u:=yv (yc (zW k) l) l.length (zo (f (l.filter (zW k))) (e - yb (asD done l)))) λi hi=>?_,zi1 pk (lenk _)]
    ·exact hf.good.fit _ (by have:=qh.mp hT;grind)
    ·obtain ⟨c,hc,e1⟩:=rk hi;exact (here e h0 hT i c hc).2.2 e1
 ·obtain ⟨j,d,q',hd,hq',rfl⟩:=Xb hy
  have big:x.rank=k->False:=λe1=>by
   have:=zero e h0 j d q' hd hq' λz=>by
    have lt':x.rank<d.2.1:=hlt
    rcases jV.mp z with z|z
    ·have:=hk _ z;omega
    ·have:=ju.mp z;omega
   have pos:0<q':=hy1;rw [this] at pos;exact absurd pos wQ
  rcases jV.mp hx1 with z|z
  ·by_cases hT:e<yb (asD done l)
   ·rw [parts e h0,jK hT] at hx hy;exact h.ord e h0 x hx _ hy z hlt hy1
   ·obtain ⟨i,c,q,hc,hq,rfl⟩:=Xb hx;rw [(here e h0 hT i c hc).1 z] at hq;cases hq;rfl
  ·exact (big (ju.mp z)).elim
theorem ziW:∀(ks done:List Int) (P:List zh),RkI r l done P->(done++ks).Pairwise (·<·)->(∀k∈ks,GF r (l.filter (zW k)) (f (l.filter (zW k))))->RkI r l (done++ks) (ks.foldl (Yk f l) P)
 |[],done,P,h,_,_=>by rw [wW];exact h
 |k::ks,done,P,h,hp,hf=>by
  have e:done++k::ks=done++[k]++ks:=by rw [wb];rfl
  rw [e] at hp⊢;rw [List.foldl_cons];refine ziW ks (done++[k]) _ (h.step (λk' hk'=>?_) (hf k (jd ..))) hp λk' hk'=>hf k' (jf _ hk');exact (qJ.mp (qJ.mp hp).1).2.2 k' hk' k (wR _)
theorem zpj (hf:∀k∈yg l,GF r (l.filter (zW k)) (f (l.filter (zW k)))):RkI r l (yg l) (Uz f l):=by
 have:=ziW (yg l) [] _ RkI.nil (by rw [wJ];exact (xm l).1) hf;rw [wJ] at this;exact this
theorem zlQ (hf:∀k∈yg l,GF r (l.filter (zW k)) (f (l.filter (zW k)))):GF (.ranks r) l (Uz f l):=by
 have h:=zpj hf;have mem:∀{i:Nat} {c:Cl},l[i]? =some c->c.2.1∈yg l:=λ{i c} hc=>((xm l).2 _).mpr (jk.mpr ⟨c,jc hc,rfl⟩)
 have eA:asD (yg l) l=amQ l:=by
  unfold asD amQ;refine jF λc hc=>?_;obtain ⟨i,hi⟩:=jw.mp hc;rw [jK (mem hi)]
 have ful:=h.ful;rw [eA] at ful
 have fits:∀(e:Rat),0<=e->∀k,ZH r ((zL l (zo (Uz f l) e)).filter (·.rank=k)):=λe h0 k=>by
  by_cases z:k∈yg l
  ·exact h.fit e h0 k z
  ·rw [List.filter_eq_nil_iff.mpr λx hx hd=>?_]
   ·exact XM r
   ·obtain ⟨i,c,q,hc,_,rfl⟩:=Xb hx;have e1:c.2.1=k:=jD hd;exact z (by rw [<-e1];exact mem hc)
 refine ⟨⟨ful.std,λe h0=>⟨λx hx=>?_,fits e h0,λx hx y hy hlt hy1=>?_⟩⟩,ful⟩
 ·exact (fits e h0 x.rank).inQ x (qo.mpr ⟨hx,qc rfl⟩)
 ·refine h.ord e h0 x hx y hy ?_ hlt hy1;obtain ⟨i,c,q,hc,_,rfl⟩:=Xb hx;exact mem hc
end
end S
namespace S
open PySem PySem.Spec PyProof.Rows L2
theorem zgD {P:List zh} {Qs:List (List zh)} {T:Rat} {as:List Rat} (h:Nest P Qs) (st:Std Qs.length T as P):Ful (nQ Qs) T (xF Qs as) (yV P Qs):=by
 have hl:=st.lastC;have past:zo P T=as:=st.past jP;refine ⟨⟨h.riseF,λc hc=>?_,?_,?_⟩,?_,λi x y z hx hy hz s=>?_⟩
 ·obtain ⟨i,hi⟩:=jw.mp hc;obtain ⟨h1,h2⟩:=Nest.F_at hi;have rg:=h.in_range (jc h1);rw [h2];exact ⟨h.flen _,h.sum rg.1 rg.2⟩
 ·rw [Nest.F_of h.zeroM,h.flat0]
 ·rw [h.getLast,hl,past]
 ·unfold Mon yV;rw [qi];refine List.Pairwise.imp_of_mem (λ{u v} hu hv huv=>?_) h.rise;have ru:=h.in_range hu;have rv:=h.in_range hv;exact h.rises ru.1 (jC huv) rv.2
 ·obtain ⟨x1,x2⟩:=Nest.F_at hx;obtain ⟨y1,y2⟩:=Nest.F_at hy;obtain ⟨z1,z2⟩:=Nest.F_at hz;refine h.thin x1 y1 z1 λj p q r hp hq hr=>?_;exact s j p r q (by rw [x2];exact hp) (by rw [y2];exact hr) (by rw [z2];exact hq)
theorem Uh (L:List Row):(Wc L).Pairwise (·<·)/\∀k,k∈Wc L↔k∈L.map (·.group):=(zbA (L.map λc:Row=>c.group)).choose_spec
def zmc (g:Int) (l:List Cl):Cl:=((amV l).sum,ziB (l.map (·.2.1)),g)
noncomputable def zO (l:List Cl):List Cl:=(zI l).map λg=>zmc g (l.filter (zF g))
noncomputable def yk (f:List Cl->List zh) (l:List Cl):List (List zh):=(zI l).map λg=>f (l.filter (zF g))
noncomputable def zhg (l:List Cl):List (List Nat):=(zI l).map λg=>yc (zF g) l
noncomputable def zlm (l:List Cl):List Nat:=(zhg l).flatten
noncomputable def Zf (fa fb:List Cl->List zh) (l:List Cl):List zh:=yS (zlm l) l.length (yV (fa (zO l)) (yk fb l))
theorem zca {q:Rat} {i:Nat}:∀{Vs:List (List Rat)} {Ls:List (List Nat)},Vs.map List.length=Ls.map List.length->∀{k:Nat} {V:List Rat} {L:List Nat},Vs[k]? =some V->Ls[k]? =some L->(q,i)∈V.zip L->(q,i)∈Vs.flatten.zip Ls.flatten
 |[],Ls,_,k,V,L,h,_,_=>by simp at h
 |V'::Vs,[],h,_,_,_,_,_,_=>by simp at h
 |V'::Vs,L'::Ls,h,k,V,L,h1,h2,h3=>by
  rw [jq,jq] at h;have hl:V'.length=L'.length:=by injection h
  have ht:Vs.map List.length=Ls.map List.length:=by injection h
  rw [qN,qN,List.zip_append hl]
  cases k with
  |zero=>
   cases h1;cases h2;exact qW _ h3
  |succ k=>exact jG _ (zca ht (k:=k) (by simpa using h1) (by simpa using h2) h3)
theorem zr4 {pl:List Nat} {V v:List Rat} (hl:V.length=pl.length) (h:∀(q:Rat) (i:Nat),(q,i)∈V.zip pl->v[i]? =some q):yP 0 pl v=V:=by
 apply qg
 intro j;unfold yP;rw [jh]
 cases e:pl[j]? with
 |none=>
  have:=Jj.mp e;rw [jE (by omega)];rfl
 |some i=>
  have jl:=(je.mp e).1;have f:=jb (l:=V) (i:=j) (by omega);have:=h V[j] i (jc (i:=j) (by rw [qq];exact ⟨f,e⟩));show some (v.getD i 0)=_;rw [jm,this,f];rfl
section
variable {a b:Rl} {l:List Cl} {fa fb:List Cl->List zh}
theorem zfE (l:List Cl):∀gs:List Int,gs.Pairwise (·<·)->(gs.map λg=>yc (zF g) l).flatten.Nodup
 |[],_=>List.nodup_nil
 |g::gs,h=>by
  obtain ⟨h1,h2⟩:=jo.mp h;rw [jq,qN,List.nodup_append];refine ⟨(XI _ l).nd,zfE l gs h2,λi hi j hj e=>?_⟩;subst e;obtain ⟨L,hL,hi2⟩:=List.mem_flatten.mp hj;obtain ⟨g',hg',rfl⟩:=jk.mp hL;have lt:=(XI _ l).lt i hi;have hc:=jb lt;have e1:=jD ((Xx hc).mp hi);have e2:=jD ((Xx hc).mp hi2);have:=h1 g' hg';omega
theorem zgv (l:List Cl):Pls l.length (zlm l):=⟨zfE l _ (yo l).1,λi hi=>by
 obtain ⟨L,hL,hi2⟩:=List.mem_flatten.mp hi;obtain ⟨g',hg',rfl⟩:=jk.mp hL
 exact (XI _ l).lt i hi2⟩
theorem Zx (l:List Cl):(zO l).length=(zI l).length:=ja _
theorem Xk (f:List Cl->List zh) (l:List Cl):(yk f l).length=(zI l).length:=ja _
theorem zkM {k:Nat} {g:Int} (hg:(zI l)[k]? =some g):(amQ (zO l))[k]? =some (yb (amQ (l.filter (zF g)))):=by
 unfold amQ zO;rw [js,jh,hg];show some (((amV (l.filter (zF g))).sum:Int):Rat)=_;rw [<-ZU];rfl
theorem UV (ha:Ful (zO l).length (yb (amQ (zO l))) (amQ (zO l)) (fa (zO l))) (hb:∀g∈zI l,Ful (l.filter (zF g)).length (yb (amQ (l.filter (zF g)))) (amQ (l.filter (zF g))) (fb (l.filter (zF g)))):Nest (fa (zO l)) (yk fb l):=by
 have e:(yk fb l).length=(zO l).length:=by rw [Zx,Xk]
 refine ⟨by rw [e];exact ha.pm,by rw [e];exact ha.std.cons,λk Q hk=>?_⟩;unfold yk at hk;obtain ⟨g,hg,rfl⟩:=zZ hk;have h:=hb g (jc hg);obtain ⟨r,er⟩:=h.std.cons;refine ⟨_,r,er,h.pm,?_⟩;rw [ha.std.lastC,h.std.lastC];exact zkM hg
theorem zdJ (hb:∀g∈zI l,Ful (l.filter (zF g)).length (yb (amQ (l.filter (zF g)))) (amQ (l.filter (zF g))) (fb (l.filter (zF g)))):(zlm l).length=nQ (yk fb l):=by
 unfold zlm zhg yk;generalize zI l=gs at*
 induction gs with
 |nil=>rfl
 |cons g gs ih=>
  rw [jq,qN,jJ,ih λg' hg'=>hb g' (jf _ hg'),jq,nQ,Yc];obtain ⟨r,er⟩:=(hb g (jd ..)).std.cons;rw [er]
  congr 1
  show _=(List.replicate _ (0:Rat)).length;rw [jB]
theorem zfr (hb:∀g∈zI l,Ful (l.filter (zF g)).length (yb (amQ (l.filter (zF g)))) (amQ (l.filter (zF g))) (fb (l.filter (zF g)))) {ps:List Rat} (hps:ps.length=(zI l).length) {k:Nat} {g:Int} {p:Rat} (hg:(zI l)[k]? =some g) (hp:ps[k]? =some p):
 yP 0 (yc (zF g) l) (yv (zlm l) l.length (xF (yk fb l) ps))=zo (fb (l.filter (zF g))) p:=by
 have lens:(List.zipWith zo (yk fb l) ps).map List.length=(zhg l).map List.length:=by
  apply qg
  intro j;unfold yk zhg;rw [jh,jh,jh,jt,jh]
  cases e:(zI l)[j]? with
  |none=>rfl
  |some g'=>
   have jl:=(je.mp e).1;rw [jb (l:=ps) (i:=j) (by omega)];show some (zo (fb (l.filter (zF g'))) ps[j]).length=some (yc (zF g') l).length;rw [(hb g' (jc e)).std.len,Yc]
 have fl:(xF (yk fb l) ps).length=(zlm l).length:=by
  unfold xF zlm;rw [List.length_flatten,List.length_flatten,lens]
 refine zr4 ?_ λq i hm=>?_
 ·rw [(hb g (jc hg)).std.len,Yc]
 ·refine zfb (zgv l) fl ?_;refine zca lens (k:=k) (V:=zo (fb (l.filter (zF g))) p) (L:=yc (zF g) l) ?_ ?_ hm
  ·unfold yk;rw [jt,jh,hg,hp];rfl
  ·unfold zhg;rw [jh,hg];rfl
theorem zjk (ha:GF a (zO l) (fa (zO l))) (hb:∀g∈zI l,GF b (l.filter (zF g)) (fb (l.filter (zF g)))):GF (.groups a b) l (Zf fa fb l):=by
 have hb':=λg hg=>(hb g hg).ful;have nest:=UV (fa:=fa) (fb:=fb) ha.ful hb';have elen:(yk fb l).length=(zO l).length:=by rw [Zx,Xk]
 have stP:=ha.ful.std;have stP':Std (yk fb l).length (yb (amQ (zO l))) (amQ (zO l)) (fa (zO l)):=by rw [elen];exact stP
 have W:=zgD nest stP';have lk:=zdJ (fb:=fb) hb';have pk:=zgv l;have R:=W.spread pk lk;have psl:∀e:Rat,(zo (fa (zO l)) e).length=(zI l).length:=λe=>by rw [stP.len,Zx]
 have gmem:∀{i:Nat} {c:Cl},l[i]? =some c->c.2.2∈zI l:=λ{i c} hc=>((yo l).2 _).mpr (jk.mpr ⟨c,jc hc,rfl⟩)
 have eA:yv (zlm l) l.length (xF (yk fb l) (amQ (zO l)))=amQ l:=by
  apply qg
  intro i
  by_cases hi:i<l.length
  ·have hc:=jb hi;obtain ⟨k,hk⟩:=jw.mp (gmem hc);have e1:=zfr (fb:=fb) hb' (ps:=amQ (zO l)) (by rw [Vb,Zx]) hk (zkM hk);rw [(hb' _ (jc hk)).std.past jP,zfL] at e1;unfold yP at e1;have e2:=List.map_inj_left.mp e1 i ((Xx hc).mpr (qc rfl));rw [jm,jm] at e2;have f1:=jb (l:=yv (zlm l) l.length (xF (yk fb l) (amQ (zO l)))) (i:=i) (by rw [xv];exact hi);have f2:=jb (l:=amQ l) (i:=i) (by rw [Vb];exact hi);rw [f1,f2] at e2;rw [f1,f2];exact congrArg some e2
  ·rw [jE (by rw [xv];omega),jE (by rw [Vb];omega)]
 have eT:yb (amQ (zO l))=yb (amQ l):=by
  rw [<-eA];exact (R.std.ok _ (qX R.std.last)).2.symm
 have R':=R;rw [eA,eT] at R';refine ⟨⟨R'.std,λe h0=>?_⟩,R'⟩;rw [show zo (Zf fa fb l) e=zo (Zf fa fb l) (mn e (yb (amQ l))) from R'.std.clip]
 have m0:0<=mn e (yb (amQ l)):=by
  have:=R'.std.T0;unfold mn
  split<;>grind
 have m1:mn e (yb (amQ l))<=yb (amQ l):=by unfold mn;split<;>grind
 generalize mn e (yb (amQ l))=x at*;have lx:x<=(lastC (fa (zO l))).1:=by rw [stP.lastC];show x<=yb (amQ (zO l));rw [eT];exact m1
 have ev:zo (Zf fa fb l) x=yv (zlm l) l.length (xF (yk fb l) (zo (fa (zO l)) x)):=by
  unfold Zf;rw [W.std.spreadE pk lk,nest.at m0 lx]
 have lens:(zo (Zf fa fb l) x).length=l.length:=by rw [ev,xv]
 have pick:∀{k:Nat} {g:Int} {p:Rat},(zI l)[k]? =some g->(zo (fa (zO l)) x)[k]? =some p->(zL l (zo (Zf fa fb l) x)).filter (·.group=g)=zL (l.filter (zF g)) (zo (fb (l.filter (zF g))) p):=λ{k g p} hg hp=>by
  rw [XD (p:=zF g) _ (λc x=>rfl) lens,ev,zfr hb' (psl x) hg hp]
 have prange:∀{k:Nat} {g:Int} {p:Rat},(zI l)[k]? =some g->(zo (fa (zO l)) x)[k]? =some p->0<=p/\p<=yb (amQ (l.filter (zF g))):=λ{k g p} hg hp=>by
  have hQ:(yk fb l)[k]? =some (fb (l.filter (zF g))):=by unfold yk;rw [jh,hg];rfl
  have:=nest.range m0 lx hQ hp;rw [(hb' g (jc hg)).std.lastC] at this;exact this
 have fits:∀g,ZH b ((zL l (zo (Zf fa fb l) x)).filter (·.group=g)):=λg=>by
  by_cases z:g∈zI l
  ·obtain ⟨k,hk⟩:=jw.mp z;have hp:=jb (l:=zo (fa (zO l)) x) (i:=k) (by rw [psl];exact (je.mp hk).1);rw [pick hk hp];exact (hb g z).good.fit _ (prange hk hp).1
  ·rw [List.filter_eq_nil_iff.mpr λy hy hd=>?_]
   ·exact XM b
   ·obtain ⟨i,c,q,hc,_,rfl⟩:=Xb hy;have e1:c.2.2=g:=jD hd;exact z (by rw [<-e1];exact gmem hc)
 refine ⟨λy hy=>(fits y.group).inQ y (qo.mpr ⟨hy,qc rfl⟩),fits,?_⟩
 have eg:Wc (zL l (zo (Zf fa fb l) x))=zI l:=by
  have:(zL l (zo (Zf fa fb l) x)).map (·.group)=l.map (·.2.2):=by
   unfold zL;rw [JM]
   apply qg
   intro i;rw [jt,jh]
   cases e1:l[i]? with
   |none=>rfl
   |some c=>
    have il:=(je.mp e1).1;rw [jb (l:=zo (Zf fa fb l) x) (i:=i) (by rw [lens];exact il)];rfl
  exact YJ (Uh _).1 (yo l).1 λk=>by rw [(Uh _).2,this,(yo l).2]
 have es:zfU (zL l (zo (Zf fa fb l) x))=zL (zO l) (zo (fa (zO l)) x):=by
  unfold zfU;rw [eg]
  apply qg
  intro k;unfold zL zO;rw [jh,jt,jh]
  cases hk:(zI l)[k]? with
  |none=>rfl
  |some g=>
   obtain ⟨p,hp⟩:∃p,(zo (fa (zO l)) x)[k]? =some p:=⟨_,jb (by rw [psl];exact (je.mp hk).1)⟩;have hp':=hp;unfold zO at hp';rw [hp'];have pk2:=pick hk hp;unfold zL at pk2;have rg:=prange hk hp;have sb:=(hb' g (jc hk)).std;have ls:=sb.len (e:=p);have sA:=Wn ls;have sP:=Xt ls;unfold zL at sA sP;show some (Row.mk _ _ _ _)=some (Zn (zmc g (l.filter (zF g))) _);rw [pk2,sA,sP,sb.sum rg.1]
   congr 1
   have e4:mn p (yb (amQ (l.filter (zF g))))=p:=by unfold mn;rw [jK rg.2]
   have e5:(List.zipWith Zn (l.filter (zF g)) (zo (fb (l.filter (zF g))) p)).map (·.rank)=(l.filter (zF g)).map (·.2.1):=by
    rw [JM]
    apply qg
    intro i;rw [jt,jh]
    cases e1:(l.filter (zF g))[i]? with
    |none=>rfl
    |some c=>
     have il:=(je.mp e1).1;rw [jb (l:=zo (fb (l.filter (zF g))) p) (i:=i) (by rw [ls];exact il)];rfl
   rw [e4,e5,ZU];rfl
 rw [es];exact ha.good.fit x m0
end
noncomputable def zY:Rl->List Cl->List zh
 | .shares,l=>shP (amV l)
 | .evenly,l=>evP (amV l) (lvV (amV l))
 | .losses,l=>loP (amV l) (lvV (amV l))
 | .halves,l=>yR (hvP (amV l) (lvV (amV l)))
 | .other r,l=>yW (zY r l)
 | .ranks r,l=>Uz (λl=>zY r l) l
 | .groups a b,l=>Zf (λl=>zY a l) (λl=>zY b l) l
 | .upto t b x y,l=>Vk (Rat.divInt t b) (zY x l) (zY y l)
def POk:Rl->Prop
 | .other r=>POk r
 | .upto t b x y=>zit t b/\POk x/\POk y
 | .ranks r=>POk r
 | .groups a b=>POk a/\POk b
 |_=>True
theorem xV {l:List Cl} (nn:∀c∈l,0<=c.1) (p:Cl->Bool):∀c∈l.filter p,0<=c.1:=λc hc=>nn c (qo.mp hc).1
theorem Vl {l:List Cl} (nn:∀c∈l,0<=c.1):∀a∈amV l,0<=a:=λa ha=>by
 obtain ⟨c,hc,rfl⟩:=jk.mp ha;exact nn c hc
theorem zfT {l:List Cl} (nn:∀c∈l,0<=c.1):∀c∈zO l,0<=c.1:=λc hc=>by
 obtain ⟨g,_,rfl⟩:=jk.mp hc;exact zcc (Vl (xV nn _))
theorem xI:∀{r:Rl} {l:List Cl},POk r->(∀c∈l,0<=c.1)->GF r l (zY r l)
 | .shares,l,_,nn=>⟨zdW (Vl nn),zlS (Vl nn)⟩
 | .evenly,l,_,nn=>⟨WY (VN (Vl nn)),Ui (VN (Vl nn))⟩
 | .losses,l,_,nn=>⟨zdX (VN (Vl nn)),zfD (VN (Vl nn))⟩
 | .halves,l,_,nn=>⟨zjj (VN (Vl nn)),zlT (VN (Vl nn))⟩
 | .other r,l,h,nn=>⟨(xI (r:=r) h nn).good.other,(xI (r:=r) h nn).ful.turned⟩
 | .ranks r,l,h,nn=>zlQ λk _=>xI (r:=r) h (xV nn _)
 | .groups a b,l,h,nn=>zjk (xI (r:=a) h.1 (zfT nn)) λg _=>xI (r:=b) h.2 (xV nn _)
 | .upto t b x y,l,h,nn=>⟨Good.upto rfl (zdu h.1).1 (zdu h.1).2 nn (xI h.2.1 nn).good (xI h.2.2 nn).good,zkC (zdu h.1).1 (zdu h.1).2 (xI h.2.1 nn).ful (xI h.2.2 nn).ful⟩
def DQ (d:Nat) (x:Rat):Prop:=∃D:Int,(0<D/\D<=2 ^ d)/\Xh D x
def DC (d:Nat) (c:zh):Prop:=DQ d c.1/\∀x∈c.2,DQ d x
def DP (d:Nat) (P:List zh):Prop:=∀c∈P,DC d c
theorem zaG {a b:Int} {m n:Nat} (ha:0<a/\a<=2 ^ m) (hb:0<b/\b<=2 ^ n):0<a*b/\a*b<=2 ^ (m+n):=by
 refine ⟨Int.mul_pos ha.1 hb.1,?_⟩;rw [Int.pow_add];exact Int.mul_le_mul ha.2 hb.2 (Jn hb.1) (JE (Jn ha.1) ha.2)
theorem zr2 {m n:Nat} (h:m<=n):(2:Int) ^ m<=2 ^ n:=by
 have:=Nat.pow_le_pow_right (n:=2) (by decide) h;have e:∀k:Nat,(2:Int) ^ k=((2 ^ k:Nat):Int):=λk=>by rw [Qc];rfl
 rw [e,e];exact Int.ofNat_le.mpr this
section
variable {d d' t:Nat} {x y:Rat} {T:Int}
theorem DQ.mono (h:DQ d x) (hd:d<=d'):DQ d' x:=by
 obtain ⟨D,⟨h1,h2⟩,h3⟩:=h;exact ⟨D,⟨h1,JE h2 (zr2 hd)⟩,h3⟩
theorem DQ.int (n:Int):DQ 0 (n:Rat):=⟨1,⟨by decide,by decide⟩,Xh.int n 1⟩
theorem DQ.zero:DQ 0 0:=DQ.int 0
theorem DQ.add (h:DQ d x) (g:DQ d' y):DQ (d+d') (x+y):=by
 obtain ⟨D,p1,h3⟩:=h;obtain ⟨E,p2,g3⟩:=g;exact ⟨D*E,zaG p1 p2,(h3.mul E).add (g3.mulL D)⟩
theorem DQ.sub (h:DQ d x) (g:DQ d' y):DQ (d+d') (x - y):=by
 obtain ⟨D,p1,h3⟩:=h;obtain ⟨E,p2,g3⟩:=g;exact ⟨D*E,zaG p1 p2,(h3.mul E).sub (g3.mulL D)⟩
theorem DP.mono {P:List zh} (h:DP d P) (hd:d<=d'):DP d' P:=λc hc=>⟨(h c hc).1.mono hd,λx hx=>((h c hc).2 x hx).mono hd⟩
theorem DQ.mix {de dx dy da db:Nat} {e a b:Rat} (he:DQ de e) (hx:DQ dx x) (hy:DQ dy y) (ha:DQ da a) (hb:DQ db b) (hab:a<b) (a0:0<=a) (bT:b<=(T:Rat)) (hT:T<=2 ^ t):DQ (de+dx+(dy+(t+(da+db)))) (ZE ((e - a) / (b - a)) x y):=by
 have line:=xS (x:=x) (y:=y) (E:=e) hab;generalize ZE ((e - a) / (b - a)) x y=m at*;obtain ⟨De,pe,ke,he⟩:=he;obtain ⟨Dx,px,kx,hx⟩:=hx;obtain ⟨Dy,py,ky,hy⟩:=hy;obtain ⟨Da,pa,ka,ha⟩:=ha;obtain ⟨Db,pb,kb,hb⟩:=hb
 have hN:(b - a)*((Da*Db:Int):Rat)=((kb*Da - ka*Db:Int):Rat):=by
  rw [wY,jZ,jZ,jZ,<-ha,<-hb];grind
 have dab:=zaG pa pb;have dabq:=XO dab.1
 have T0:0<T:=by
  have:(0:Rat)<(T:Rat):=by grind
  exact Int.not_le.mp λz=>by
   have:=qb.mpr z
   grind
 have N0:0<kb*Da - ka*Db:=by
  have:(0:Rat)<((kb*Da - ka*Db:Int):Rat):=by rw [<-hN];exact JA (by grind) dabq
  exact Int.not_le.mp λz=>by
   have:=qb.mpr z
   grind
 have NT:kb*Da - ka*Db<=T*(Da*Db):=by
  apply VS
  rw [<-hN,jZ T];exact Ye (by grind) (jC dabq)
 have pN:0<kb*Da - ka*Db/\kb*Da - ka*Db<=2 ^ (t+(da+db)):=⟨N0,JE NT (zaG ⟨T0,hT⟩ dab).2⟩;generalize kb*Da - ka*Db=N at*;refine ⟨De*Dx*(Dy*N),zaG (zaG pe px) (zaG py pN),kx*(De*Dy*N)+(ke*Da - ka*De)*(ky*Dx - kx*Dy)*Db,?_⟩;simp only [jZ,wY,Rat.intCast_add] at hN⊢;rw [<-he,<-hx,<-hy,<-ha,<-hN];generalize (De:Rat)=p1 at*;generalize (Dx:Rat)=p2 at*;generalize (Dy:Rat)=p3 at*;generalize (Da:Rat)=p4 at*;generalize (Db:Rat)=p5 at*;have:m*(p1*p2*(p3*((b - a)*(p4*p5)))) - (x*p2*(p1*p3*((b - a)*(p4*p5)))+(e*p1*p4 - a*p4*p1)*(y*p3*p2 - x*p2*p3)*p5)=p1*p2*p3*p4*p5*((m - x)*(b - a) - (e - a)*(y - x)):=by grind
 rw [line] at this
 grind
theorem zft {m de:Nat} {e:Rat} (he:DQ de e) (hT:T<=2 ^ t):∀{P:List zh},yU P->(∀c∈P,0<=c.1/\c.1<=(T:Rat))->DP d P->∀x∈zo P e,DQ (de+4*d+t) x
 |[],_,_,_,x,hx=>by simp [zo] at hx
 |[c],_,_,h,x,hx=>((h c (jd ..)).2 x hx).mono (by omega)
 |c::f::r,hr,rg,h,x,hx=>by
  rw [zo] at hx
  split at hx
  ·obtain ⟨i,hi⟩:=jw.mp hx;obtain ⟨p,q,hp,hq,rfl⟩:=Xf hi;have hc:=h c (jd ..);have hd:=h f (jf _ (jd ..));have lt:=(jo.mp hr).1 f (jd ..);exact (DQ.mix he (hc.2 p (jc hp)) (hd.2 q (jc hq)) hc.1 hd.1 lt (rg c (jd ..)).1 (rg f (jf _ (jd ..))).2 hT).mono (by omega)
  ·exact zft (m:=m) he hT (jo.mp hr).2 (λc hc=>rg c (jf _ hc)) (λc hc=>h c (jf _ hc)) x hx
theorem Nest.den {P:List zh} {Qs:List (List zh)} {a b:Nat} (h:Nest P Qs) (ha:DP a P) (hb:∀Q∈Qs,DP b Q) (hl:(lastC P).1<=(T:Rat)) (hT:T<=2 ^ t) {e:Rat} (he:e∈wpV P Qs):DQ (b+4*a+t) e/\∀p∈zo P e,DQ (b+4*a+t) p:=by
 rcases h.mem.mp he with ⟨c,hc,rfl⟩|⟨k,Q,hk,c,hc,hr⟩
 ·refine ⟨(ha c hc).1.mono (by omega),λp hp=>?_⟩;have pm:=h.pm;obtain ⟨r,eP⟩:=h.p0;rw [eP] at pm hp hc;rw [yC pm.t hc] at hp;exact ((ha c (by rw [eP];exact hc)).2 p hp).mono (by omega)
 ·have hL:=(hb Q (jc hk) c hc).1;have h0:=(h.qpos hk c hc).1;have pm:=h.pm;have hkn:k<Qs.length:=(je.mp hk).1
  have le:∀c1∈P,∀(i:Nat) (x:Rat),c1.2[i]? =some x->0<=x/\x<=(T:Rat):=λc1 hc1 i x hx=>by
   have s:=pm.sums c1 hc1
   have e1:zo P c1.1=c1.2:=by
    obtain ⟨r,eP⟩:=h.p0;rw [eP] at hc1 pm⊢;exact yC pm.t hc1
   have mem:c1.1∈wpV P Qs:=h.mem.mpr (.inl ⟨c1,hc1,rfl⟩);have rg:=h.in_range mem
   have nn:∀q∈c1.2,0<=q:=λq hq=>by
    obtain ⟨j,hj⟩:=jw.mp hq;have jl:j<Qs.length:=by rw [<-pm.t.len c1 hc1];exact (je.mp hj).1
    exact (h.range rg.1 rg.2 (jb jl) (by rw [e1];exact hj)).1
   have m:=jc hx;have:=(Xy nn).2 x m;exact ⟨nn x m,by rw [s] at this;grind⟩
  obtain ⟨r,eP⟩:=h.p0;rw [eP] at pm hr ha le⊢
  obtain ⟨i,c1,d1,x,y,g1,g2,g3,g4,hxL,hLy,ee,_,_,_,ep⟩:=UU hkn pm (by
   rw [jm,jU,jK hkn];exact h0) hr
  have z1:=ha c1 (jc g1);have z2:=ha d1 (jc g2);have rx:=le c1 (jc g1) k x g3;have ry:=le d1 (jc g2) k y g4;have zx:=z1.2 x (jc g3);have zy:=z2.2 y (jc g4);have hxy:x<y:=by grind
  rw [ep];refine ⟨by rw [ee];exact (DQ.mix hL z1.1 z2.1 zx zy hxy rx.1 ry.2 hT).mono (by omega),λp hp=>?_⟩;obtain ⟨j,hj⟩:=jw.mp hp;rw [jt] at hj
  cases e1:c1.2[j]? with
  |none=>rw [e1] at hj;cases hj
  |some p1=>
   cases e2:d1.2[j]? with
   |none=>rw [e1,e2] at hj;cases hj
   |some p2=>
    rw [e1,e2] at hj;cases hj;exact (DQ.mix hL (z1.2 p1 (jc e1)) (z2.2 p2 (jc e2)) zx zy hxy rx.1 ry.2 hT).mono (by omega)
theorem DP.within {P:List zh} {Qs:List (List zh)} {a b:Nat} (h:Nest P Qs) (ha:DP a P) (hb:∀Q∈Qs,DP b Q) (hq:∀Q∈Qs,yU Q/\∀c∈Q,0<=c.1/\c.1<=(T:Rat)) (hl:(lastC P).1<=(T:Rat)) (hT:T<=2 ^ t):DP (5*b+4*a+2*t) (yV P Qs):=λc hc=>by
 obtain ⟨i,hi⟩:=jw.mp hc;obtain ⟨h1,h2⟩:=Nest.F_at hi;obtain ⟨z1,z2⟩:=h.den ha hb hl hT (jc h1);refine ⟨z1.mono (by omega),λx hx=>?_⟩;rw [h2] at hx;obtain ⟨k,Q,p,hk,hp,hxq⟩:=zko hx;have mQ:=jc hk;exact (zft (m:=0) (z2 p (jc hp)) hT (hq Q mQ).1 (hq Q mQ).2 (hb Q mQ) x hxq).mono (by omega)
theorem DP.spread {P:List zh} {pl:List Nat} {n m:Nat} (hp:Pls n pl) (hl:∀c∈P,c.2.length=pl.length) (h:DP d P):DP d (yS pl n P):=λc hc=>by
 obtain ⟨c,hc',rfl⟩:=jk.mp hc;refine ⟨(h c hc').1,λx hx=>?_⟩;obtain ⟨i,hi⟩:=jw.mp hx
 rcases ZP hp (hl c hc') hi with ⟨j,_,hj⟩|⟨_,rfl⟩
 ·exact (h c hc').2 x (jc hj)
 ·exact DQ.zero.mono (by omega)
theorem DP.keep {P:List zh} (h:DP d P):DP d (yR P):=λc hc=>h c ((YB P).subset hc)
theorem DP.app {P P':List zh} (ne:P≠[]) (h:DP d P) (hl:DC 0 (lastC P)) (g:DP d P'):DP d (P++xn P P'):=λc hc=>by
 rcases jV.mp hc with z|z
 ·exact h c z
 ·obtain ⟨f,hf,rfl⟩:=jk.mp z;have hf:=g f (qK hf);refine ⟨(hl.1.add hf.1).mono (by omega),λx hx=>?_⟩;obtain ⟨a,ha,b,hb,rfl⟩:=zcY hx;exact ((hl.2 a ha).add (hf.2 b hb)).mono (by omega)
theorem DP.turned {P:List zh} (hl:DC 0 (lastC P)) (h:DP d P):DP d (yW P):=λc hc=>by
 obtain ⟨f,hf,rfl⟩:=jk.mp hc;have hf:=h f (JK.mp hf);refine ⟨(hl.1.sub hf.1).mono (by omega),λx hx=>?_⟩;obtain ⟨a,ha,b,hb,rfl⟩:=zcY hx;exact ((hl.2 a ha).sub (hf.2 b hb)).mono (by omega)
def zgJ (b:Int):Nat:=b.toNat.log2+1
theorem zpZ {b:Int} (hb:0<b):b<=2 ^ zgJ b:=by
 have:=Nat.lt_log2_self (n:=b.toNat);have e:(2:Int) ^ zgJ b=((2 ^ (b.toNat.log2+1):Nat):Int):=by unfold zgJ;rw [Qc];rfl
 rw [e];omega
theorem DP.upto {P P':List zh} {as:List Rat} {p b:Int} {m:Nat} {U:Rat} (b0:0<b) (st:Std m U as P) (hl:DC 0 (U,as)) (h:DP d P) (g:DP d P'):DP (zgJ b+d) (Vk (Rat.divInt p b) P P'):=by
 have bn:b≠0:=by omega
 have bb:0<b/\b<=2 ^ zgJ b:=⟨b0,zpZ b0⟩
 have sc:∀{t:Int} {x:Rat},DQ d x->DQ (zgJ b+d) (x*Rat.divInt t b):=λ{t x} hx=>by
  obtain ⟨D,pD,hD⟩:=hx;exact ⟨b*D,zaG bb pD,hD.port bn⟩
 have i1:∀{x:Rat},DQ 0 x->Xh 1 x:=λ{x} hx=>by
  obtain ⟨D,pD,hD⟩:=hx;have:D=1:=by have:=pD.2;have:=pD.1;omega
  rwa [this] at hD
 have ml:lastC (yj (Rat.divInt p b) P)=(U*Rat.divInt p b,za3 (Rat.divInt p b) as):=by
  unfold lastC yj;rw [wG,st.last];rfl
 have both:∀{x y:Rat} {t:Int},DQ 0 x->DQ d y->DQ (zgJ b+d) (x*Rat.divInt p b+y*Rat.divInt t b):=λ{x y t} hx hy=>by
  obtain ⟨D,pD,hD⟩:=hy;have w:=(i1 hx).port (t:=p) bn;rw [Qf] at w;exact ⟨b*D,zaG bb pD,(w.mul D).add (hD.port bn)⟩
 unfold Vk;refine DP.keep λc hc=>?_
 rcases jV.mp hc with z|z
 ·obtain ⟨f,hf,rfl⟩:=jk.mp z;refine ⟨sc (h f hf).1,λx hx=>?_⟩;obtain ⟨a,ha,rfl⟩:=jk.mp hx;exact sc ((h f hf).2 a ha)
 ·obtain ⟨f',hf',rfl⟩:=jk.mp z;have hf'':=qK hf';obtain ⟨f,hf,rfl⟩:=jk.mp hf'';rw [ml,zr8 bn];refine ⟨both hl.1 (g f hf).1,λx hx=>?_⟩;obtain ⟨a,ha,q,hq,rfl⟩:=zcY hx;obtain ⟨a',ha',rfl⟩:=jk.mp ha;obtain ⟨q',hq',rfl⟩:=jk.mp hq;exact both (hl.2 a' ha') ((g f hf).2 q' hq')
end
def zfG (t:Nat):Rl->Nat
 | .halves=>2
 | .other r=>zfG t r
 | .ranks r=>zfG t r
 | .groups a b=>5*zfG t b+4*zfG t a+2*t
 | .upto _ b x y=>zgJ b+max (zfG t x) (zfG t y)
 |_=>0
theorem XN (h:List Int):DC 0 (yp h):=⟨DQ.int _,λx hx=>by
 obtain ⟨a,_,rfl⟩:=jk.mp hx
 exact DQ.int a⟩
theorem zjr (l:List Cl):DC 0 (yb (amQ l),amQ l):=by rw [<-zcZ];exact XN _
theorem znW {x:Int} {w:Int}:∀{gs:List Int},gs.Pairwise (·<·)->(gs.map λg=>if x=g then w else 0).sum=if x∈gs then w else 0
 |[],_=>by simp
 |g::gs,h=>by
  obtain ⟨h1,h2⟩:=jo.mp h;rw [jq,jM,znW h2]
  by_cases e:x=g
  ·have:x∉gs:=λz=>by have:=h1 x z;omega
   rw [jK e,jQ this,jK (by rw [e];exact jd ..)];omega
  ·rw [jQ e]
   by_cases z:x∈gs
   ·rw [jK z,jK (jf _ z)];omega
   ·rw [jQ z,jQ (λm=>(jn.mp m).elim e z)];omega
theorem zmu (f g:Int->Int):∀gs:List Int,(gs.map λk=>f k+g k).sum=(gs.map f).sum+(gs.map g).sum
 |[]=>rfl
 |k::gs=>by rw [jq,jq,jq,jM,jM,jM,zmu f g gs];omega
theorem zfW (key w:Cl->Int) {gs:List Int} (hg:gs.Pairwise (·<·)):∀l:List Cl,(∀c∈l,key c∈gs)->(gs.map λg=>((l.filter λc=>decide (key c=g)).map w).sum).sum=(l.map w).sum
 |[],_=>by
  show (gs.map λ_=>(0:Int)).sum=0
  induction gs with
  |nil=>rfl
  |cons g gs ih=>rw [jq,jM,ih (jo.mp hg).2 λc hc=>absurd hc jp];rfl
 |c::l,h=>by
  have ih:=zfW key w hg l λx hx=>h x (jf _ hx)
  have e:(gs.map λg=>(((c::l).filter λc=>decide (key c=g)).map w).sum)=gs.map λg=>(if key c=g then w c else 0)+((l.filter λc=>decide (key c=g)).map w).sum:=by
   refine jF λg _=>?_;rw [JN]
   by_cases z:key c=g
   ·rw [jK z,jK (qc z),jq,jM]
   ·rw [jQ z,jQ (by rw [qm z];decide)];omega
  rw [e,zmu,znW hg,jK (h c (jd ..)),ih,jq,jM]
theorem zcG (l:List Cl):(amV (zO l)).sum=(amV l).sum:=by
 have:=zfW (·.2.2) (·.1) (yo l).1 l λc hc=>((yo l).2 _).mpr (jk.mpr ⟨c,hc,rfl⟩);unfold zO
 have e:amV ((zI l).map λg=>zmc g (l.filter (zF g)))=(zI l).map λg=>((l.filter λc=>decide (c.2.2=g)).map (·.1)).sum:=by
  unfold amV;rw [js];rfl
 rw [e,this];rfl
theorem Wt {l:List Cl} (nn:∀c∈l,0<=c.1) (p:Cl->Bool):(amV (l.filter p)).sum<=(amV l).sum:=by
 induction l with
 |nil=>exact JO _
 |cons c l ih=>
  have ih:=ih λx hx=>nn x (jf _ hx);have h0:=nn c (jd ..);have e:(amV (c::l)).sum=c.1+(amV l).sum:=by unfold amV;rw [jq,jM]
  rw [JN]
  split
  ·have e2:(amV (c::l.filter p)).sum=c.1+(amV (l.filter p)).sum:=by unfold amV;rw [jq,jM]
   rw [e,e2];omega
  ·rw [e];omega
theorem zmO {r:Rl} {l:List Cl} {f:List Cl->List zh} {d:Nat}:∀(ks done:List Int) (P:List zh),RkI r l done P->(done++ks).Pairwise (·<·)->(∀k∈ks,GF r (l.filter (zW k)) (f (l.filter (zW k)))/\DP d (f (l.filter (zW k))))->DP d P->DP d (ks.foldl (Yk f l) P)
 |[],done,P,h,_,_,hd=>hd
 |k::ks,done,P,h,hp,hf,hd=>by
  have e:done++k::ks=done++[k]++ks:=by rw [wb];rfl
  rw [e] at hp;rw [List.foldl_cons];have hk:=hf k (jd ..);refine zmO ks (done++[k]) _ (h.step (λk' hk'=>?_) hk.1) hp (λk' hk'=>hf k' (jf _ hk')) ?_
  ·exact (qJ.mp (qJ.mp hp).1).2.2 k' hk' k (wR _)
  ·refine DP.keep (DP.app h.ful.std.ne hd ?_ (DP.spread (m:=0) (XI _ l) (λc hc=>by rw [(hk.1.ful.std.ok c hc).1,Yc]) hk.2));rw [h.ful.std.lastC]
   have ia:∀x∈asD done l,DQ 0 x:=λx hx=>by
    unfold asD at hx;obtain ⟨c,_,rfl⟩:=jk.mp hx
    split
    ·exact DQ.int _
    ·exact DQ.zero
   refine ⟨?_,ia⟩
   have:∀{v:List Rat},(∀x∈v,DQ 0 x)->DQ 0 (yb v):=by
    intro v
    induction v with
    |nil=>intro _;rw [yb];exact DQ.zero
    |cons a v ih=>
     intro h;rw [yb];exact (h a (jd ..)).add (ih λx hx=>h x (jf _ hx))
   exact this ia
theorem We {t:Nat}:∀{r:Rl} {l:List Cl},POk r->(∀c∈l,0<=c.1)->(amV l).sum<=2 ^ t->DP (zfG t r) (zY r l)
 | .shares,l,_,_,_=>λc hc=>by
   simp only [zY,shP] at hc
   split at hc
   ·rw [ju.mp hc];exact XN _
   ·rcases jn.mp hc with rfl|hc
    ·exact XN _
    ·rw [ju.mp hc];exact XN _
 | .evenly,l,_,_,_=>λc hc=>by
   obtain ⟨z,_,rfl⟩:=jk.mp hc;exact XN _
 | .losses,l,_,_,_=>λc hc=>by
   obtain ⟨z,_,rfl⟩:=jk.mp hc;exact XN _
 | .halves,l,_,nn,_=>by
   have ge:DP 0 (evP (amV l) (lvV (amV l))):=λc hc=>by
    obtain ⟨z,_,rfl⟩:=jk.mp hc;exact XN _
   have gl:DP 0 (loP (amV l) (lvV (amV l))):=λc hc=>by
    obtain ⟨z,_,rfl⟩:=jk.mp hc;exact XN _
   have st:=(Ui (VN (Vl nn))).std;have:=DP.upto (p:=1) (b:=2) (by decide) st (zjr l) ge gl;have e2:Rat.divInt 1 2=(1:Rat) / 2:=by decide+kernel
   have eu:Vk (1 / 2) (evP (amV l) (lvV (amV l))) (loP (amV l) (lvV (amV l)))=yR (hvP (amV l) (lvV (amV l))):=by
    unfold Vk;rw [show (1:Rat) - 1 / 2=1 / 2 by decide+kernel];rfl
   rw [e2,eu] at this;exact this.mono (by show zgJ 2+0<=2;decide)
 | .other r,l,h,nn,hs=>by
   have g:=(xI (r:=r) h nn).ful.std;refine DP.turned ?_ (We (r:=r) h nn hs);rw [g.lastC];exact zjr l
 | .ranks r,l,h,nn,hs=>by
   refine zmO (r:=r) (yg l) [] _ RkI.nil (by rw [wJ];exact (xm l).1) (λk _=>⟨xI (r:=r) h (xV nn _),We (r:=r) h (xV nn _) (JE (Wt nn _) hs)⟩) λc hc=>?_;rw [ju.mp hc];refine ⟨DQ.zero.mono (by omega),λx hx=>?_⟩;rw [List.eq_of_mem_replicate hx];exact DQ.zero.mono (by omega)
 | .groups a b,l,h,nn,hs=>by
   have ga:=xI (r:=a) h.1 (zfT nn);have gb:=λ(g:Int) (_:g∈zI l)=>xI (r:=b) h.2 (xV nn (zF g));have nest:=UV (fa:=λl=>zY a l) (fb:=λl=>zY b l) ga.ful λg hg=>(gb g hg).ful;have da:=We (t:=t) (r:=a) h.1 (zfT nn) (by rw [zcG];exact hs);have W:=zgD nest (T:=yb (amQ (zO l))) (as:=amQ (zO l)) (by rw [Xk,<-Zx];exact ga.ful.std);have lk:=zdJ (fb:=λl=>zY b l) (l:=l) λg hg=>(gb g hg).ful;refine DP.spread (m:=0) (zgv l) (λc hc=>by rw [(W.std.ok c hc).1,lk]) (DP.within (T:=(amV l).sum) nest da (λQ hQ=>?_) (λQ hQ=>?_) ?_ hs)
   ·obtain ⟨g,hg,rfl⟩:=jk.mp hQ;exact We (r:=b) h.2 (xV nn _) (JE (Wt nn _) hs)
   ·obtain ⟨g,hg,rfl⟩:=jk.mp hQ;have st:=(gb g hg).ful.std;refine ⟨st.rise,λc hc=>?_⟩;have rg:=st.range hc;have:=qb.mpr (Wt nn (zF g));rw [<-ZU] at this;exact ⟨rg.1,qG rg.2 this⟩
   ·rw [ga.ful.std.lastC];show yb (amQ (zO l))<=_;rw [ZU,zcG];exact jP
 | .upto t' b x y,l,h,nn,hs=>by
   have st:=(xI (r:=x) h.2.1 nn).ful.std;exact DP.upto (by have:=h.1.2.1;have:=h.1.2.2.1;omega) st (zjr l) ((We h.2.1 nn hs).mono (Nat.le_max_left ..)) ((We h.2.2 nn hs).mono (Nat.le_max_right ..))
def zaN:Rl->Nat
 | .halves=>2
 | .other r=>zaN r
 | .ranks r=>zaN r
 | .groups a b=>zaN a+zaN b+1
 | .upto _ _ x y=>zaN x+zaN y
 |_=>1
theorem zkI (f:Int->Nat):∀ks:List Int,(((ks.map f).sum:Nat):Int)=(ks.map λk=>(f k:Int)).sum
 |[]=>rfl
 |k::ks=>by rw [jq,jM,jq,jM,<-zkI f ks];omega
theorem zgy {α:Type}:∀l:List α,(l.map λ_=>(1:Int)).sum=(l.length:Nat)
 |[]=>rfl
 |a::l=>by rw [jq,jM,zgy l,jz];omega
theorem zcS (key:Cl->Int) {gs:List Int} (hg:gs.Pairwise (·<·)) (l:List Cl) (h:∀c∈l,key c∈gs):(gs.map λg=>(l.filter λc=>decide (key c=g)).length).sum=l.length:=by
 have:=zfW key (λ_=>1) hg l h;rw [zgy] at this;have e:=zkI (λg=>(l.filter λc=>decide (key c=g)).length) gs;have e2:(gs.map λg=>(((l.filter λc=>decide (key c=g)).length:Nat):Int))=gs.map λg=>((l.filter λc=>decide (key c=g)).map λ_=>(1:Int)).sum:=jF λg _=>(zgy _).symm;rw [e2,this] at e;omega
theorem zpX (f:List Cl->List zh) (l:List Cl) (P:List zh) (k:Int):(Yk f l P k).length<=P.length+((f (l.filter (zW k))).length - 1):=by
 unfold Yk;refine jS (YB _).length_le ?_;unfold xn yS;simp only [jJ,ja,wP];omega
theorem zgI {f:List Cl->List zh} {l:List Cl} {c:Nat}:∀(ks:List Int) (P:List zh),(∀k∈ks,(f (l.filter (zW k))).length<=c*(l.filter (zW k)).length+1)->(ks.foldl (Yk f l) P).length<=P.length+c*(ks.map λk=>(l.filter (zW k)).length).sum
 |[],P,_=>by simp
 |k::ks,P,h=>by
  have h1:=zgI (c:=c) ks (Yk f l P k) λk' hk'=>h k' (jf _ hk');have h2:=zpX f l P k;have h3:=h k (jd ..);rw [List.foldl_cons,jq,jM,Nat.mul_add];omega
theorem znQ {P:List zh}:∀{Qs:List (List zh)} {k:Nat} {M:List Rat},(wpF P k Qs M).length<=M.length+(Qs.map List.length).sum
 |[],k,M=>by rw [wpF];simp
 |Q::Qs,k,M=>by
  rw [wpF];have h1:=znQ (P:=P) (Qs:=Qs) (k:=k+1) (M:=yY M (Xu P k Q));have h2:=zaK M (Xu P k Q)
  have h3:(Xu P k Q).length<=Q.length:=by
   unfold Xu;have:=Jm (xQ P k) (yr Q);unfold yr at this⊢;rw [ja] at this;omega
  rw [jq,jM];omega
theorem zkt {f:Int->Nat} {g:Int->Nat} {c:Nat}:∀ks:List Int,(∀k∈ks,f k<=c*g k+1)->(ks.map f).sum<=c*(ks.map g).sum+ks.length
 |[],_=>by simp
 |k::ks,h=>by
  have h1:=zkt (c:=c) ks λk' hk'=>h k' (jf _ hk');have h2:=h k (jd ..);rw [jq,jM,jq,jM,jz,Nat.mul_add];omega
theorem zfy {g:Int->Nat}:∀ks:List Int,(∀k∈ks,1<=g k)->ks.length<=(ks.map g).sum
 |[],_=>by simp
 |k::ks,h=>by
  have h1:=zfy ks λk' hk'=>h k' (jf _ hk');have h2:=h k (jd ..);rw [jq,jM,jz];omega
theorem Ws {l:List Cl} {g:Int} (hg:g∈zI l):1<=(l.filter (zF g)).length:=by
 obtain ⟨c,hc,rfl⟩:=jk.mp (((yo l).2 g).mp hg);exact Ja (qo.mpr ⟨hc,qc rfl⟩)
theorem zdt {l:List Cl} {g:Int} (hg:g∈yg l):1<=(l.filter (zW g)).length:=by
 obtain ⟨c,hc,rfl⟩:=jk.mp (((xm l).2 g).mp hg);exact Ja (qo.mpr ⟨hc,qc rfl⟩)
theorem Xm (l:List Cl):(zI l).length<=l.length:=by
 have h1:=zcS (·.2.2) (yo l).1 l λc hc=>((yo l).2 _).mpr (jk.mpr ⟨c,hc,rfl⟩);have h2:=zfy (g:=λg=>(l.filter (zF g)).length) (zI l) λk hk=>Ws hk;rw [<-h1];exact h2
theorem Wd:∀{r:Rl} {l:List Cl},POk r->(∀c∈l,0<=c.1)->(zY r l).length<=zaN r*l.length+1
 | .shares,l,_,_=>by
   show (shP (amV l)).length<=1*l.length+1;unfold shP
   split
   ·simp
   ·rename_i c;have:l≠[]:=λz=>c (by rw [z];rfl);have:=wZ.mpr this;simp only [jz,List.length_nil];omega
 | .evenly,l,_,nn=>by
   have f:=(VN (Vl nn)).few;rw [yJ] at f;show (evP _ _).length<=1*l.length+1;unfold evP;rw [ja];omega
 | .losses,l,_,nn=>by
   have f:=(VN (Vl nn)).few;rw [yJ] at f;show (loP _ _).length<=1*l.length+1;unfold loP;rw [ja,qw];omega
 | .halves,l,_,nn=>by
   have f:=(VN (Vl nn)).few;rw [yJ] at f;show (yR _).length<=2*l.length+1;refine jS (YB _).length_le ?_;unfold hvP hfA hfB xn yj evP loP;simp only [jJ,ja,wP,qw];omega
 | .other r,l,h,nn=>by
   show (yW _).length<=zaN r*l.length+1;unfold yW;rw [ja,qw];exact Wd (r:=r) h nn
 | .ranks r,l,h,nn=>by
   have h1:=zgI (f:=λl=>zY r l) (l:=l) (c:=zaN r) (yg l) (zfS l.length) λk _=>Wd (r:=r) h (xV nn _);have h2:=zcS (·.2.1) (xm l).1 l λc hc=>((xm l).2 _).mpr (jk.mpr ⟨c,hc,rfl⟩);have e:((yg l).map λk=>(l.filter (zW k)).length).sum=l.length:=h2;rw [e] at h1;show (Uz (λl=>zY r l) l).length<=zaN r*l.length+1;have z:(zfS l.length).length=1:=rfl;unfold Uz;omega
 | .groups a b,l,h,nn=>by
   have ha:=Wd (r:=a) h.1 (zfT nn);rw [Zx] at ha;have G:=Xm l;have h2:=zcS (·.2.2) (yo l).1 l λc hc=>((yo l).2 _).mpr (jk.mpr ⟨c,hc,rfl⟩);have e:((zI l).map λk=>(l.filter (zF k)).length).sum=l.length:=h2;have hb:=zkt (f:=λg=>(zY b (l.filter (zF g))).length) (g:=λg=>(l.filter (zF g)).length) (c:=zaN b) (zI l) λk _=>Wd (r:=b) h.2 (xV nn _);rw [e] at hb;have w:=znQ (P:=zY a (zO l)) (Qs:=yk (λl=>zY b l) l) (k:=0) (M:=yr (zY a (zO l)))
   have eq:(yk (λl=>zY b l) l).map List.length=(zI l).map λg=>(zY b (l.filter (zF g))).length:=by
    unfold yk;rw [js];rfl
   rw [eq] at w;have pl:(yr (zY a (zO l))).length=(zY a (zO l)).length:=by unfold yr;rw [ja]
   rw [pl] at w;show (Zf (λl=>zY a l) (λl=>zY b l) l).length<=(zaN a+zaN b+1)*l.length+1;unfold Zf yS yV wpV;rw [ja,ja];show (wpF (zY a (zO l)) 0 (yk (λl=>zY b l) l) (yr (zY a (zO l)))).length<=_;have m1:=Nat.mul_le_mul_left (zaN a) G;rw [Nat.add_mul,Nat.add_mul,Nat.one_mul];omega
 | .upto t b x y,l,h,nn=>by
   have h1:=Wd (r:=x) h.2.1 nn;have h2:=Wd (r:=y) h.2.2 nn;show (Vk _ _ _).length<=(zaN x+zaN y)*l.length+1;unfold Vk;refine jS (YB _).length_le ?_;unfold xn yj;simp only [jJ,ja,wP];rw [Nat.add_mul];omega
structure ClS (t:Nat) (l:List Cl):Prop where
 pos:0<l.length
 few:l.length<=8
 nn:∀c∈l,0<=c.1/\0<=c.2.1/\0<=c.2.2
 sum:(amV l).sum<=2 ^ t
theorem zfv:∀{as:List Int},(∀a∈as,0<=a)->∀a∈as,a<=as.sum
 |[],_,a,h=>absurd h jp
 |b::as,nn,a,h=>by
  have h0:=nn b (jd ..);have hs:=zcc λx hx=>nn x (jf _ hx);rw [jM]
  rcases jn.mp h with rfl|h
  ·omega
  ·have:=zfv (λx hx=>nn x (jf _ hx)) a h;omega
section
variable {t:Nat} {l:List Cl} {r:Rl}
theorem zmt {x:Int} (h0:0<=x) (h:x<=2 ^ t):Sz (t+1) x:=by
 unfold Sz;have e:(2:Int) ^ t=((2 ^ t:Nat):Int):=by rw [Qc];rfl
 have p:0<2 ^ t:=Nat.pow_pos (by decide);rw [e] at h;rw [Nat.pow_succ];omega
theorem ClS.n1 (h:ClS t l):∀c∈l,0<=c.1:=λc hc=>(h.nn c hc).1
theorem ClS.ok (h:ClS t l) (ht:t<=150):ClOk 160 l:=⟨h.pos,h.few,h.nn,λc hc=>(zmt (h.nn c hc).1 (JE (zfv (Vl h.n1) c.1 (jk.mpr ⟨c,hc,rfl⟩)) h.sum)).mono (by omega)⟩
theorem ClS.filter (h:ClS t l) (p:Cl->Bool) (pos:1<=(l.filter p).length):ClS t (l.filter p):=⟨pos,jS (wx _ _) h.few,λc hc=>h.nn c (qo.mp hc).1,JE (Wt h.n1 p) h.sum⟩
theorem znJ:∀{l:List Int},(∀x∈l,0<=x)->0<=ziB l
 |[],_=>JO _
 |[a],h=>h a (jd ..)
 |a::b::l,h=>by
  have h1:=h a (jd ..);have h2:=znJ (l:=b::l) λx hx=>h x (jf _ hx);rw [ziB]
  ·omega
  ·simp
theorem ClS.sums (h:ClS t l):ClS t (zO l):=by
 refine ⟨?_,by rw [Zx];exact jS (Xm l) h.few,λc hc=>?_,by rw [zcG];exact h.sum⟩
 ·rw [Zx];obtain ⟨c,hc⟩:=List.exists_mem_of_length_pos h.pos;exact Ja (((yo l).2 _).mpr (jk.mpr ⟨c,hc,rfl⟩))
 ·obtain ⟨g,hg,rfl⟩:=jk.mp hc;refine ⟨zcc (Vl (xV h.n1 _)),znJ λx hx=>?_,?_⟩
  ·obtain ⟨c,hc,rfl⟩:=jk.mp hx;exact (h.nn c (qo.mp hc).1).2.1
  ·obtain ⟨c,hc',rfl⟩:=jk.mp (((yo l).2 g).mp hg);exact (h.nn c hc').2.2
theorem DQ.sz {d:Nat} {x:Rat} {T:Int} (h:DQ d x) (x0:0<=x) (xT:x<=(T:Rat)) (T0:0<=T) (hT:T<=2 ^ t):SzQ (t+d+2) x:=by
 obtain ⟨D,pD,hD⟩:=h;exact (hD.sz pD.1 (zmt (Jn pD.1) pD.2) x0 xT ⟨T,rfl,zmt T0 hT⟩).mono (by omega)
theorem all_sz (h:POk r) (ok:ClS t l):∀c∈zY r l,SzC (t+zfG t r+2) c:=λc hc=>by
 have g:=xI h ok.n1;have dn:=We h ok.n1 ok.sum c hc;have rg:=g.good.std.range hc;have pr:=g.good.parts rg.1;rw [g.good.std.at_corner hc] at pr;have T0:=zcc (Vl ok.n1);rw [ZU] at rg pr;exact ⟨dn.1.sz rg.1 rg.2 T0 ok.sum,λx hx=>(dn.2 x hx).sz (pr x hx).1 (pr x hx).2 T0 ok.sum⟩
structure RuS (t:Nat) (r:Rl):Prop where
 pok:POk r
 ht:t<=150
 den:t+zfG t r+2<=700
 len:zaN r<=50
theorem RuS.other (h:RuS t (.other r)):RuS t r:=⟨h.pok,h.ht,h.den,h.len⟩
theorem RuS.ranks (h:RuS t (.ranks r)):RuS t r:=⟨h.pok,h.ht,h.den,h.len⟩
theorem RuS.groups {a b:Rl} (h:RuS t (.groups a b)):RuS t a/\RuS t b:=by
 have d:=h.den;have f:=h.len;simp only [zfG] at d;simp only [zaN] at f;exact ⟨⟨h.pok.1,h.ht,by omega,by omega⟩,⟨h.pok.2,h.ht,by omega,by omega⟩⟩
theorem RuS.upto {a b:Int} {x y:Rl} (h:RuS t (.upto a b x y)):RuS t x/\RuS t y:=by
 have d:=h.den;have f:=h.len;simp only [zfG] at d;simp only [zaN] at f;exact ⟨⟨h.pok.2.1,h.ht,by omega,by omega⟩,⟨h.pok.2.2,h.ht,by omega,by omega⟩⟩
theorem RuS.few (h:RuS t r) (ok:ClS t l):(zY r l).length<=401:=by
 have f:=Wd h.pok ok.n1;have m:=Nat.mul_le_mul h.len ok.few;omega
theorem RuS.gf (h:RuS t r) (ok:ClS t l):GF r l (zY r l):=xI h.pok ok.n1
theorem RuS.R (h:RuS t r) (ok:ClS t l):PathR 700 (zY r l):=by
 have g:=(h.gf ok).ful.std;have f:=h.few ok;have e8:=ok.few;refine ⟨g.ne,λc hc=>(all_sz h.pok ok c hc).mono h.den,λc hc=>by rw [(g.ok c hc).1];omega,by omega,g.rise,λc hc=>?_⟩;rw [g.head] at hc;cases hc;rfl
theorem RuS.inn (h:RuS t r) (ok:ClS t l):PathIn (zY r l):=by
 have R:=h.R (l:=l) ok;have f:=h.few ok;exact ⟨R.ne,λc hc=>(R.sz c hc).mono (by decide),R.len,by omega⟩
end
section
variable {X:Cx}
def rMinL (K:PySem.W.Frag):List V->Hp->VK->Prop:=λxs H Q=>∃(p:Addr) (ns:List Int),xs=[.ref p]/\SqL K H p (ns.map V.int)/\0<ns.length/\∀m,m∈ns->(∀x∈ns,m<=x)->Q (.int m) H
theorem zia (hc:X.calm=true):Vm X (.builtin "min") (rMinL X.K):=by
 intro pins s σ H xs us Q I r h;obtain ⟨p,ns,rfl,hq,hne,q⟩:=h;obtain ⟨u,rfl,rx⟩:=zc0 r;cases rx;obtain ⟨its,rv,pl,hz⟩:=I.list hq;have ht:=pl.isList;have hi:=Wr rv;have hl:=hi.length;have below:p≠s.heap.objs.size:=let ⟨_,e,_⟩:=ht;jO (jv e)
 refine call_min_walk (wE ht ⟨_,_,_,_,_,_,_,rfl,Walks.list (A:=X.A.in1) (I.ok.hd hc) _ p below its.toArray,⟨⟨_,jx _ rfl,rfl,rfl⟩,ht.push _⟩,λb hb=>?_,by simpa using (by omega:0<its.length),CmpOf.ints_lt (λi=>ns.getD i 0) (Ug hi),λv h' tk hP hk=>?_⟩)
 ·rw [jT]
  rcases jn.mp hb with z|z
  ·rw [z];exact qj _
  ·rw [ju.mp z];obtain ⟨_,e,_⟩:=ht;exact qD (jv e)
 ·obtain ⟨t,rfl⟩:=Ug hi _ v hP;obtain ⟨h1,h2⟩:=argBest_lt (λi=>ns.getD i 0) (its.toArray.size - 1);have szn:its.toArray.size=ns.length:=by simpa using hl
  rw [szn] at h1 h2;rw [szn];refine ⟨.int _,H,I.kept (t':=tk) λb o e=>hk b o (λz=>?_) (ji _ e),⟨t,rfl⟩,q _ ?_ λx hx=>?_⟩
  ·rw [ju.mp z] at e;exact absurd (jv e) (wv _)
  ·dsimp only;rw [jm,jb (by omega)];exact qa _
  ·obtain ⟨j,hj,rfl⟩:=jR hx;have:=h2 j (by omega);rwa [show ns.getD j 0=ns[j] by rw [jm,jb hj];rfl] at this
end
section
variable {B G0 H:Hp} {cs:xq} {ds:Dat} {Q:VK} {E:XK} {v w u:V} {K:PySem.W.Frag} {L:Addr}
theorem zmY {ns:List Int} (S:Sta B G0 H cs ds) (h:(L,ns.map PyData.int)∈cs) (hn:0<ns.length) (k:∀m,m∈ns->(∀x∈ns,m<=x)->Q (.int m) H):rMinL K [.ref L] H Q:=by
 obtain ⟨vs,hp,u⟩:=S.vwC h;obtain ⟨G,S'⟩:=id S;rw [xz (u G S')] at hp;exact ⟨L,ns,rfl,SqL.of hp,hn,k⟩
theorem zrB {ns:List Int} (S:Sta B G0 H cs ds) (h:Has ds (.list (ns.map PyData.int)) v) (hn:0<ns.length) (k:∀m,m∈ns->(∀x∈ns,x<=m)->Q (.int m) H):zr0 K [v] H Q:=by
 obtain ⟨p,vs,rfl,hp,hl,S',al⟩:=S.lstAll h;obtain ⟨G,S2⟩:=id S';rw [xz (al G S2.2.2.2.2.2.2)] at hp;exact ⟨p,ns,rfl,SqL.of hp,hn,k⟩
end
theorem zdF {n:Nat} {e:Rat}:∀{a:List zh},(∀c∈a,c.2.length<=n)->(zo a e).length<=n
 |[],_=>by simp [zo]
 |[c],h=>h c (jd ..)
 |c::d::r,h=>by
  rw [zo]
  split
  ·unfold WH;rw [jA];have:=h c (jd ..);omega
  ·exact zdF λx hx=>h x (jf _ hx)
theorem zoa {n:Nat}:∀{Qs:List (List zh)} {ps:List Rat} (i:Nat),(∀Q∈Qs,∀c∈Q,c.2.length<=n)->((List.zipWith zo Qs ps).take i).flatten.length<=n*Qs.length
 |[],ps,i,_=>by simp
 |Q::Qs,[],i,_=>by simp
 |Q::Qs,p::ps,0,_=>by simp
 |Q::Qs,p::ps,i+1,h=>by
  have ih:=zoa (ps:=ps) i λQ' hQ=>h Q' (jf _ hQ);have:=zdF (e:=p) (h Q (jd ..));rw [wo,List.take_succ_cons,qN,jJ,jz,Nat.mul_succ];omega
theorem getD_some {l:List Rat} {k:Nat} (h:k<l.length):l[k]? =some (l.getD k 0):=by rw [jm,jb h];rfl
theorem zoO {P:List zh} {Qs:List (List zh)} {M:List Rat} {i:Nat} {e:Rat} (h:e∈wpF P 0 (Qs.take i) M):e∈wpF P 0 Qs M:=by
 rcases zbv.mp h with h|⟨j,Q,h1,h2⟩
 ·exact zbv.mpr (.inl h)
 ·refine zbv.mpr (.inr ⟨j,Q,?_,h2⟩);rw [List.getElem?_take] at h1
  split at h1
  ·exact h1
  ·cases h1
section
variable {B G0 H:Hp} {cs:xq} {ds:Dat} {Q:VK} {E:XK} {v w u:V} {K:PySem.W.Frag} {xs ys:List PyData} {vs:List V} {R:It->Hp->Prop}
theorem zke (S:Sta B G0 H cs ds) (h:Has ds (.tuple xs) v) (h2:Has ds (.list ys) w) (k:∀J,Wk B G0 J (zqy xs ys) (λcs ds=>Has ds (.tuple xs) v/\(∀x u,Has ds (.list ys) w->Has ((x,u)::ds) (.list ys) w)/\Has ds (.list ys) w)->R J H):kZi false true K R [v,w] H:=by
 obtain ⟨p,vs,rfl,hp,_⟩:=S.tup h;obtain ⟨q,ws,rfl,hq,_⟩:=S.lst h2;exact ⟨p,q,rfl,⟨_,SqT.of hp⟩,⟨_,SqL.of hq⟩,k _ (zmh zc6 VY)⟩
structure ReachOk (m k n b:Nat) (P:List zh) (L:List Rat):Prop where
 pm:PathM m P
 pr:PathR0 n P
 kn:k<m
 lev:∀l∈L,SzQ b l/\∀c,P[0]? =some c->c.2.getD k 0<=l
 sz:b+6*n+4<=8999
 few:L.length<=450
def ziM:Sp:=spL (α:=List zh×Nat×List Rat) (λa=>[yX a.1, .int (a.2.1:Nat), .list (a.2.2.map frD)]) (λa=>∃m n b,ReachOk m a.2.1 n b a.1 a.2.2) (λa=>(a.2.2.filterMap (xQ a.1 a.2.1)).map frD)
theorem zo8 {P:List zh} {k m n b:Nat} {L:List Rat} (S:Sta B G0 H cs ds) (h1:Has ds (yX P) v) (h3:Has ds (.list (L.map frD)) u) (ok:ReachOk m k n b P L)
 (q:∀p H',yt H H'->Sta B G0 H' ((p,(L.filterMap (xQ P k)).map frD)::cs) ds->Q (.ref p) H'):ziM [v, .int (k:Nat),u] H Q E:=
 Yl (P,k,L) S (.cons h1 (.cons .int (.cons h3 .nil))) ⟨m,n,b,ok⟩ q
end
section
variable {P:List zh} {Qs:List (List zh)}
theorem PathR.r0 {n:Nat} {a:List zh} (h:PathR n a):PathR0 n a:=⟨h.ne,h.sz,h.len,h.few,h.rise⟩
end
theorem zcQ:∀(xs ys:List Rat),xs.length<=(yY xs ys).length
 |[],ys=>wg _
 |x::xs,[]=>by rw [yY];exact jy _
 |x::xs,y::ys=>by
  have h1:=zcQ xs (y::ys);have h2:=zcQ xs ys;have h3:=zcQ (x::xs) ys;rw [yY]
  split
  ·simp only [jz] at*;omega
  ·split
   ·simp only [jz] at*;omega
   ·simp only [jz] at*;omega
termination_by xs ys=>xs.length+ys.length
structure PWO (P:List zh) (Qs:List (List zh)) (e:Rat):Prop where
 p:PathR 700 P
 q:∀Q∈Qs,PathR 700 Q/\∀c∈Q,c.2.length<=8
 len:(zo P e).length=Qs.length
 few:Qs.length<=8
 ez:SzQ 700 e
 e0:0<=e
 part:∀p∈zo P e,SzQ 700 p/\0<=p
structure WithO (P:List zh) (Qs:List (List zh)):Prop where
 nest:Nest P Qs
 pr:PathR 700 P
 qr:∀Q∈Qs,PathR 700 Q/\∀c∈Q,c.2.length<=8
 szM:∀e∈wpV P Qs,SzQ 700 e/\∀p∈zo P e,SzQ 700 p
 ql:∀Q∈Qs,Q.length<=401
 pl:P.length<=401
 few:Qs.length<=8
 lenV:(wpV P Qs).length<=401
section
variable {B G0 H:Hp} {cs:xq} {ds:Dat} {Q:VK} {E:XK} {v w u:V} {K:PySem.W.Frag} {xs ys:List PyData} {vs:List V} {P:List zh} {Qs:List (List zh)}
def zbc:Sp:=spT (α:=List zh×List (List zh)×Rat) (λa=>[yX a.1, .list (a.2.1.map yX),frD a.2.2]) (λa=>PWO a.1 a.2.1 a.2.2) (λa=>xr (xF a.2.1 (zo a.1 a.2.2)))
theorem ziY {e:Rat} (S:Sta B G0 H cs ds) (h1:Has ds (yX P) v) (h2:Has ds (.list (Qs.map yX)) w) (h3:Has ds (frD e) u) (ok:PWO P Qs e)
 (k:∀r H',yt H H'->Sta B G0 H' cs ((xr (xF Qs (zo P e)),r)::ds)->Q r H'):zbc [v,w,u] H Q E:=
 YW (P,Qs,e) S (.cons h1 (.cons h2 (.cons h3 .nil))) ok k
def zaj:Sp:=spL (α:=List zh×List (List zh)) (λa=>[yX a.1, .list (a.2.map yX)]) (λa=>WithO a.1 a.2) (λa=>(yV a.1 a.2).map ya)
theorem zlc (S:Sta B G0 H cs ds) (h1:Has ds (yX P) v) (h2:Has ds (.list (Qs.map yX)) w) (ok:WithO P Qs)
 (k:∀p H',yt H H'->Sta B G0 H' ((p,(yV P Qs).map ya)::cs) ds->Q (.ref p) H'):zaj [v,w] H Q E:=
 Yl (P,Qs) S (.cons h1 (.cons h2 .nil)) ok k
theorem zpW {P:List zh} {Qs:List (List zh)} {M:List Rat} (i:Nat):(wpF P 0 (Qs.take i) M).length<=(wpF P 0 Qs M).length:=by
 have mono:∀(Qs:List (List zh)) (k:Nat) (M:List Rat),M.length<=(wpF P k Qs M).length:=by
  intro Qs
  induction Qs with
  |nil=>intro k M;rw [wpF];exact jy _
  |cons Q Qs ih=>
   intro k M;rw [wpF];refine jS ?_ (ih (k+1) _);exact zcQ M _
 have:∀(Qs:List (List zh)) (i k:Nat) (M:List Rat),(wpF P k (Qs.take i) M).length<=(wpF P k Qs M).length:=by
  intro Qs
  induction Qs with
  |nil=>intro i k M;rw [List.take_nil];exact jy _
  |cons Q Qs ih=>
   intro i k M
   cases i with
   |zero=>rw [List.take_zero,wpF];exact mono _ k M
   |succ i=>rw [List.take_succ_cons,wpF,wpF];exact ih i (k+1) _
 exact this Qs i 0 M
theorem WithO.len (h:WithO P Qs) (i:Nat):(wpF P 0 (Qs.take i) (yr P)).length<=401:=jS (zpW i) h.lenV
theorem WithO.pw (h:WithO P Qs) {e:Rat} (he:e∈wpV P Qs):PWO P Qs e:=by
 have r:=h.nest.in_range he;refine ⟨h.pr,h.qr,h.nest.plen e,h.few,(h.szM e he).1,r.1,λp hp=>⟨(h.szM e he).2 p hp,?_⟩⟩;obtain ⟨k,hk⟩:=jw.mp hp;have hkl:k<Qs.length:=by rw [<-h.nest.plen e];exact (je.mp hk).1
 exact (h.nest.range r.1 r.2 (jb hkl) hk).1
theorem WithO.reach (h:WithO P Qs) {k:Nat} {Q:List zh} (hk:Qs[k]? =some Q):ReachOk Qs.length k 700 700 P (yr Q):=by
 have hQ:=jc hk;have hkl:k<Qs.length:=(je.mp hk).1;refine ⟨h.nest.pm,h.pr.r0,hkl,λl hl=>?_,by decide,by unfold yr;rw [ja];have:=h.ql Q hQ;omega⟩;obtain ⟨c,hc,rfl⟩:=jk.mp hl;refine ⟨((h.qr Q hQ).1.sz c hc).1,λd hd=>?_⟩;obtain ⟨r,e⟩:=h.nest.p0;rw [e] at hd;cases hd;rw [jm,jU,jK hkl];exact (h.nest.qpos hk c hc).1
theorem zlh {L:Addr} {ys:List PyData} (S:Sta B G0 H ((L,xs)::cs) ds) (hy:Has ds (.list ys) w) (hz:xs.length+ys.length<=1000) (k:∀H',Sta B G0 H' ((L,xs++ys)::cs) ds->Q .non H'):znb (.ref L) [w] H Q:=by
 have ⟨p,us,e,hp,hl,S2,al⟩:=S.lstAll hy;have ⟨vs,hL,hl2,put⟩:=S2.put;subst e;refine ⟨L,p,vs,us,rfl,rfl,hL,hp,?_,k _ ((put (xs++ys) (vs++us) λG a b=>b.app (al G a)).weak (wT _) λq hq=> .mem (jG _ hq))⟩;rw [<-hl,<-hl2];exact jS hz (JB rfl)
theorem zrs {L:Addr} {d:PyData} {n:Nat} (S:Sta B G0 H cs ds) (h:(L,[d])∈cs) (hn:n<=1000) (k:∀l H',yt H H'->Sta B G0 H' ((l,List.replicate n d)::cs) ds->Q (.ref l) H'):rRep (.ref L) (.int (n:Int)) H Q:=by
 have ⟨vs,hp,hl,S2,_⟩:=S.cellAll h
 match vs,hl,hp,S2 with
 |[z],_,hp,S2=>
  refine ⟨L,(n:Int),_,rfl,rfl,hp,by omega,by omega,?_,λp hp'=>?_⟩
  ·show 1*n<=sizeLine;have:1000<=sizeLine:=by decide
   omega
  ·rw [qf];show Q (.ref p) (upd H p (.lst (List.replicate n [z]).flatten));rw [ziX];have S3:Sta B G0 H cs ((d,z)::ds):=S2;refine k p _ (yt.new hp' _) ((S3.newL (xs:=List.replicate n d) (vs:=List.replicate n z) hp' λG a=>?_).dat λq hq=> .mem (jf _ hq));have i1:Is G d z:=a (d,z) (jd ..);clear hn k
   induction n with
   |zero=>rw [List.replicate_zero,List.replicate_zero,zX]
   |succ n ih=>rw [qv,qv,zX];exact ⟨_,_,rfl,i1,ih⟩
theorem zdf (p:Rat) (i:Nat):∀(z:List (Rat×Nat)) (w:List Rat),ZC (z++[(p,i)]) w=(ZC z w).set i p
 |[],w=>rfl
 |(q,j)::z,w=>by rw [qE,ZC,ZC,zdf p i z]
theorem zsv {n j:Nat} (h:j<n):ixN n (j:Int)=some j:=by
 unfold ixN;rw [jK (by omega),jK (by omega),qf]
theorem zn9 {α β:Type} (p:α->Bool) (f:α->β):∀xs:List α,xs.filterMap (λj=>if p j=true then some (f j) else none)=(xs.filter p).map f
 |[]=>rfl
 |x::xs=>by
  rw [wV,JN,zn9 p f xs]
  split
  ·rename_i h
   split at h
   ·cases h
   ·rw [jQ (by assumption)]
  ·rename_i h
   split at h
   ·cases h;rw [jK (by assumption),jq]
   ·cases h
theorem zdw (p:Cl->Bool) (l:List Cl):(List.range l.length).filterMap (λj=>if p (l.getD j (0,0,0)) then some (PyData.int (j:Int)) else none)=(yc p l).map λ(i:Nat)=>PyData.int (i:Int):=by
 unfold yc;exact zn9 (λj=>p (l.getD j (0,0,0))) (λ(j:Nat)=>PyData.int (j:Int)) _
theorem zfp (p:Cl->Bool) (l:List Cl):(List.range l.length).filterMap (λj=>if p (l.getD j (0,0,0)) then some (PyData.int (0+(j:Int))) else none)=(yc p l).map λ(i:Nat)=>PyData.int (i:Int):=by
 rw [<-zdw];simp only [Int.zero_add]
theorem zi5:∀{l:List Int} {x:Int},x∈l->ziB l<=x/\ziB l∈l
 |[],x,h=>absurd h jp
 |[a],x,h=>by rw [ju.mp h,ziB];exact ⟨JO _,wR _⟩
 |a::b::l,x,h=>by
  have e:ziB (a::b::l)=min a (ziB (b::l)):=by rw [ziB];simp
  have ih:=zi5 (l:=b::l) (jd ..);rw [e];refine ⟨?_,?_⟩
  ·rcases jn.mp h with rfl|h
   ·omega
   ·have:=(zi5 (l:=b::l) h).1;omega
  ·rcases Int.le_total a (ziB (b::l)) with z|z
   ·rw [Int.min_eq_left z];exact jd ..
   ·rw [Int.min_eq_right z];exact jf _ ih.2
theorem znK {l:List Int} {m:Int} (h:m∈l) (low:∀x∈l,m<=x):m=ziB l:=by
 have:=zi5 h;have:=low _ this.2;omega
def plD (pl:List Nat):PyData:= .list (pl.map λ(i:Nat)=>PyData.int (i:Int))
def zc7:Sp:=spL (α:=List Cl×List Nat) (λa=>[zH a.1,plD a.2]) (λa=>(∀i∈a.2,i<a.1.length)/\a.2.length<=8) (λa=>(yP (0,0,0) a.2 a.1).map zP)
theorem zgr {l:List Cl} {pl:List Nat} (S:Sta B G0 H cs ds) (h1:Has ds (zH l) v) (h2:Has ds (plD pl) w) (lt:∀i∈pl,i<l.length) (few:pl.length<=8) (k:∀p H',yt H H'->Sta B G0 H' ((p,(yP (0,0,0) pl l).map zP)::cs) ds->Q (.ref p) H'):zc7 [v,w] H Q E:=
 Yl (l,pl) S (.cons h1 (.cons h2 .nil)) ⟨lt,few⟩ k
def WJ (p:Int->Cl->Bool):Sp:=spL (α:=List Cl×Int) (λa=>[zH a.1, .int a.2]) (λa=>a.1.length<=8) (λa=>(yc (p a.2) a.1).map λ(i:Nat)=>PyData.int (i:Int))
theorem zhO {p:Int->Cl->Bool} {l:List Cl} {g:Int} (S:Sta B G0 H cs ds) (h1:Has ds (zH l) v) (few:l.length<=8) (k:∀q H',yt H H'->Sta B G0 H' ((q,(yc (p g) l).map λ(i:Nat)=>PyData.int (i:Int))::cs) ds->Q (.ref q) H'):WJ p [v, .int g] H Q E:=
 Yl (l,g) S (.cons h1 (.cons Has.int .nil)) few k
def zoW:Sp:=spT (α:=List Cl×Int) (λa=>[zH a.1, .int a.2]) (λa=>0<a.1.length/\a.1.length<=8) (λa=>zP (zmc a.2 a.1))
theorem rd_one {l:List Cl} {g:Int} (S:Sta B G0 H cs ds) (h1:Has ds (zH l) v) (pos:0<l.length) (few:l.length<=8) (k:∀q H',yt H H'->Sta B G0 H' cs ((zP (zmc g l),q)::ds)->Q q H'):zoW [v, .int g] H Q E:=
 YW (l,g) S (.cons h1 (.cons Has.int .nil)) ⟨pos,few⟩ k
structure SpO (pl:List Nat) (n:Nat) (v:List Rat):Prop where
 pls:Pls n pl
 len:v.length=pl.length
 few:n<=8
def zc9:Sp:=spT (α:=List Rat×List Nat×Nat) (λa=>[xr a.1,plD a.2.1, .int (a.2.2:Int)]) (λa=>SpO a.2.1 a.2.2 a.1) (λa=>xr (yv a.2.1 a.2.2 a.1))
theorem zle {pl:List Nat} {n:Nat} {x:List Rat} (S:Sta B G0 H cs ds) (h1:Has ds (xr x) v) (h2:Has ds (plD pl) w) (ok:SpO pl n x) (k:∀q H',yt H H'->Sta B G0 H' cs ((xr (yv pl n x),q)::ds)->Q q H'):zc9 [v,w, .int (n:Int)] H Q E:=
 YW (x,pl,n) S (.cons h1 (.cons h2 (.cons Has.int .nil))) ok k
def zak:Sp:=spL (α:=List zh×List Nat×Nat) (λa=>[yX a.1,plD a.2.1, .int (a.2.2:Int)]) (λa=>(∀c∈a.1,SpO a.2.1 a.2.2 c.2)/\a.1.length<=450) (λa=>(yS a.2.1 a.2.2 a.1).map ya)
theorem zhK {pl:List Nat} {n:Nat} {x:List zh} (S:Sta B G0 H cs ds) (h1:Has ds (yX x) v) (h2:Has ds (plD pl) w) (ok:∀c∈x,SpO pl n c.2) (few:x.length<=450) (k:∀q H',yt H H'->Sta B G0 H' ((q,(yS pl n x).map ya)::cs) ds->Q (.ref q) H'):zak [v,w, .int (n:Int)] H Q E:=
 Yl (x,pl,n) S (.cons h1 (.cons h2 (.cons Has.int .nil))) ⟨ok,few⟩ k
noncomputable def Wl (t n:Nat):Sp:=spL (α:=Rl×List Cl) (λa=>[a.1.shape,zH a.2]) (λa=>(RuS t a.1/\a.1.deep<=n)/\ClS t a.2) (λa=>(zY a.1 a.2).map ya)
theorem Yx {t n:Nat} {r:Rl} {l:List Cl} (S:Sta B G0 H cs ds) (h1:Has ds r.shape v) (h:Has ds (zH l) w) (ru:RuS t r) (hn:r.deep<=n) (ok:ClS t l) (k:∀p H',yt H H'->Sta B G0 H' ((p,(zY r l).map ya)::cs) ds->Q (.ref p) H'):Wl t n [v,w] H Q E:=Yl (r,l) S (.cons h1 (.cons h .nil)) ⟨⟨ru,hn⟩,ok⟩ k
noncomputable def zf2 (t n:Nat):Sp:=spL (α:=Rl×List Cl) (λa=>[a.1.shape,zH a.2]) (λa=>(RuS t a.1/\a.1.deep<=n)/\ClS t a.2) (λa=>(Uz (λl=>zY a.1 l) a.2).map ya)
theorem zmV {t n:Nat} {r:Rl} {l:List Cl} (S:Sta B G0 H cs ds) (h1:Has ds r.shape v) (h:Has ds (zH l) w) (ru:RuS t r) (hn:r.deep<=n) (ok:ClS t l) (k:∀p H',yt H H'->Sta B G0 H' ((p,(Uz (λl=>zY r l) l).map ya)::cs) ds->Q (.ref p) H'):zf2 t n [v,w] H Q E:=Yl (r,l) S (.cons h1 (.cons h .nil)) ⟨⟨ru,hn⟩,ok⟩ k
noncomputable def zdb (t n:Nat):Sp:=spL (α:=(Rl×Rl)×List Cl) (λa=>[a.1.1.shape,a.1.2.shape,zH a.2]) (λa=>(RuS t (.groups a.1.1 a.1.2)/\a.1.1.deep<=n/\a.1.2.deep<=n)/\ClS t a.2) (λa=>(Zf (λl=>zY a.1.1 l) (λl=>zY a.1.2 l) a.2).map ya)
theorem zlf {t n:Nat} {a b:Rl} {l:List Cl} (S:Sta B G0 H cs ds) (h1:Has ds a.shape v) (h2:Has ds b.shape u) (h:Has ds (zH l) w) (ru:RuS t (.groups a b)) (ha:a.deep<=n) (hb:b.deep<=n) (ok:ClS t l) (k:∀p H',yt H H'->Sta B G0 H' ((p,(Zf (λl=>zY a l) (λl=>zY b l) l).map ya)::cs) ds->Q (.ref p) H'):zdb t n [v,u,w] H Q E:=Yl ((a,b),l) S (.cons h1 (.cons h2 (.cons h .nil))) ⟨⟨ru,ha,hb⟩,ok⟩ k
noncomputable def ziO (A:RAd) (t n:Nat):Sp:=spL (α:=Rl×List Cl) (λa=>[a.1.ins A,zH a.2]) (λa=>(RuS t a.1/\a.1.deep<=n)/\ClS t a.2) (λa=>(zY a.1 a.2).map ya)
theorem zpa {A:RAd} {t n:Nat} {r:Rl} {l:List Cl} (S:Sta B G0 H cs ds) (h1:Has ds (r.ins A) v) (h:Has ds (zH l) w) (ru:RuS t r) (hn:r.deep<=n) (ok:ClS t l) (k:∀p H',yt H H'->Sta B G0 H' ((p,(zY r l).map ya)::cs) ds->Q (.ref p) H'):ziO A t n [v,w] H Q E:=Yl (r,l) S (.cons h1 (.cons h .nil)) ⟨⟨ru,hn⟩,ok⟩ k
noncomputable def zf3 (A:RAd) (t n:Nat):Sp:=spT (α:=Rl×List Cl×Rat) (λa=>[a.1.ins A,zH a.2.1,frD a.2.2]) (λa=>((RuS t a.1/\a.1.deep<=n)/\ClS t a.2.1)/\SzQ 300 a.2.2/\0<=a.2.2) (λa=>xr (zo (zY a.1 a.2.1) a.2.2))
theorem zmW {A:RAd} {t n:Nat} {r:Rl} {l:List Cl} {e:Rat} (S:Sta B G0 H cs ds) (h1:Has ds (r.ins A) v) (h:Has ds (zH l) w) (h3:Has ds (frD e) u) (ru:RuS t r) (hn:r.deep<=n) (ok:ClS t l) (ze:SzQ 300 e) (e0:0<=e) (k:∀p H',yt H H'->Sta B G0 H' cs ((xr (zo (zY r l) e),p)::ds)->Q p H'):zf3 A t n [v,w,u] H Q E:=YW (r,l,e) S (.cons h1 (.cons h (.cons h3 .nil))) ⟨⟨⟨ru,hn⟩,ok⟩,ze,e0⟩ k
end
theorem Sta.rot3 {B G0 H:Hp} {cs:xq} {ds:Dat} {c1 c2 c3:Addr×List PyData} (S:Sta B G0 H (c1::c2::c3::cs) ds):Sta B G0 H (c3::c1::c2::cs) ds:=S.permC ((List.Perm.cons _ (List.Perm.swap _ _ _)).trans (List.Perm.swap _ _ _))
theorem zh7:∀{Ls:List (List Nat)},(∀L∈Ls,L.length<=8)->Ls.flatten.length<=8*Ls.length
 |[],_=>by simp
 |L::Ls,h=>by
  have h1:=h L (jd ..);have h2:=zh7 λL' hL=>h L' (jf _ hL);rw [qN,jJ,jz];omega
theorem ful_sz {m d t:Nat} {T:Rat} {as:List Rat} {P:List zh} {Z:Int} (h:Ful m T as P) (hd:DP d P) (hT:T<=(Z:Rat)) (Z0:0<=Z) (hZ:Z<=2 ^ t):∀c∈P,SzC (t+d+2) c:=λc hc=>by
 have rg:=h.std.range hc;have cT:c.1<=(Z:Rat):=qG rg.2 hT
 have nn:∀q∈c.2,0<=q:=λq hq=>by
  obtain ⟨i,hi⟩:=jw.mp hq;exact h.std.nn h.mono c hc i q hi
 have le:=(Xy nn).2;rw [(h.std.ok c hc).2] at le;exact ⟨(hd c hc).1.sz rg.1 cT Z0 hZ,λx hx=>((hd c hc).2 x hx).sz (nn x hx) (qG (le x hx) cT) Z0 hZ⟩
theorem zq2 {done:List Int}:∀{l:List Cl},(∀c∈l,0<=c.1)->yb (asD done l)<=yb (amQ l)
 |[],_=>jP
 |c::l,nn=>by
  have ih:=zq2 (done:=done) λx hx=>nn x (jf _ hx);have h0:=zbL (nn c (jd ..));have e1:asD done (c::l)=(if c.2.1∈done then (c.1:Rat) else 0)::asD done l:=rfl;have e2:amQ (c::l)=(c.1:Rat)::amQ l:=rfl;rw [e1,e2,yb,yb]
  split<;>grind
noncomputable def rkP (r:Rl) (l:List Cl) (i:Nat):List zh:=((yg l).take i).foldl (Yk (λl=>zY r l) l) (zfS l.length)
section
variable {t:Nat} {r a b:Rl} {l:List Cl} {i:Nat} {k:Int}
theorem zo5 (hk:(yg l)[i]? =some k):rkP r l (i+1)=Yk (λl=>zY r l) l (rkP r l i) k:=by
 unfold rkP;rw [qV,hk,List.foldl_append];rfl
theorem zrl (r:Rl) (l:List Cl):rkP r l (yg l).length=Uz (λl=>zY r l) l:=by
 unfold rkP Uz;rw [List.take_length]
theorem rkP_ok (ru:RuS t r) (ok:ClS t l) (i:Nat):RkI r l ((yg l).take i) (rkP r l i)/\(∀c∈rkP r l i,SzC 700 c)/\(rkP r l i).length<=401:=by
 have pw:([]++(yg l).take i).Pairwise (·<·):=Jg (List.take_sublist _ _) (xm l).1;have gf:∀k∈(yg l).take i,GF r (l.filter (zW k)) (zY r (l.filter (zW k)))/\DP (zfG t r) (zY r (l.filter (zW k))):=λk _=>⟨xI ru.pok (xV ok.n1 _),We ru.pok (xV ok.n1 _) (JE (Wt ok.n1 _) ok.sum)⟩;have R:=ziW (f:=λl=>zY r l) ((yg l).take i) [] _ (RkI.nil (r:=r) (l:=l)) pw λk hk=>(gf k hk).1
 have D:=zmO (d:=zfG t r) (f:=λl=>zY r l) ((yg l).take i) [] _ (RkI.nil (r:=r) (l:=l)) pw gf λc hc=>by
  rw [ju.mp hc];refine ⟨DQ.zero.mono (by omega),λx hx=>?_⟩;rw [List.eq_of_mem_replicate hx];exact DQ.zero.mono (by omega)
 rw [wJ] at R;refine ⟨R,λc hc=>?_,?_⟩
 ·have T0:=zcc (Vl ok.n1);have le:=zq2 (done:=(yg l).take i) ok.n1;rw [ZU] at le;exact (ful_sz R.ful D le T0 ok.sum c hc).mono ru.den
 ·have f:=zgI (f:=λl=>zY r l) (l:=l) (c:=zaN r) ((yg l).take i) (zfS l.length) λk _=>Wd ru.pok (xV ok.n1 _);have h2:=zcS (·.2.1) (xm l).1 l λc hc=>((xm l).2 _).mpr (jk.mpr ⟨c,hc,rfl⟩);have e:((yg l).map λk=>(l.filter (zW k)).length).sum=l.length:=h2
  have sub:(((yg l).take i).map λk=>(l.filter (zW k)).length).sum<=((yg l).map λk=>(l.filter (zW k)).length).sum:=by
   conv=>rhs;rw [<-List.take_append_drop i (yg l)]
   rw [qx,List.sum_append];omega
  rw [e] at sub;have m1:=Nat.mul_le_mul_left (zaN r) sub;have m2:=Nat.mul_le_mul ru.len ok.few;have z:(zfS l.length).length=1:=rfl;unfold rkP;omega
theorem znj {P:List zh} {m:Nat} {T:Rat} {as:List Rat} (st:Std m T as P) (hm:m<=8) (sz:∀c∈P,SzC 700 c) (few:P.length<=401):PathIn P:=
 ⟨st.ne,λc hc=>(sz c hc).mono (by decide),λc hc=>by rw [(st.ok c hc).1];omega,by omega⟩
theorem zmy {P:List zh} {pl:List Nat} {n:Nat} (hp:Pls n pl) (hl:∀c∈P,c.2.length=pl.length) (h:∀c∈P,SzC 700 c):∀c∈yS pl n P,SzC 700 c:=λc hc=>by
 obtain ⟨c,hc',rfl⟩:=jk.mp hc;refine ⟨(h c hc').1,λx hx=>?_⟩;obtain ⟨i,hi⟩:=jw.mp hx
 rcases ZP hp (hl c hc') hi with ⟨j,_,hj⟩|⟨_,rfl⟩
 ·exact (h c hc').2 x (jc hj)
 ·unfold SzQ Sz;decide
theorem zmP (ru:RuS t r) (ok:ClS t l) (hk:(yg l)[i]? =some k):
 PathIn (rkP r l i)/\PathIn (yS (yc (zW k) l) l.length (zY r (l.filter (zW k))))/\PathOk l.length (rkP r l i++xn (rkP r l i) (yS (yc (zW k) l) l.length (zY r (l.filter (zW k))))):=by
 obtain ⟨R,sz,few⟩:=rkP_ok ru ok i;have okk:=ok.filter (zW k) (zdt (jc hk));have g:=(ru.gf okk).ful;have Rk:=ru.R okk;have lk:=Yc (zW k) l;have pk:=XI (zW k) l;have gs:=g.spread pk lk;have szS:=zmy pk (λc hc=>by rw [(g.std.ok c hc).1,lk]) Rk.sz;have lenS:(yS (yc (zW k) l) l.length (zY r (l.filter (zW k)))).length<=401:=by unfold yS;rw [ja];exact ru.few okk
 have st:=zd8 R.ful.std gs.std;refine ⟨znj R.ful.std ok.few sz few,znj gs.std ok.few szS lenS,λc hc=>?_,λc hc=>(st.ok c hc).1,by have:=ok.few;omega,?_⟩
 ·rcases jV.mp hc with z|z
  ·exact (sz c z).mono (by decide)
  ·obtain ⟨d,hd,rfl⟩:=jk.mp z;have z1:=sz _ (zh2 R.ful.std.ne);have z2:=szS d (qK hd);refine ⟨(z1.1.add z2.1).mono (by decide),λq hq=>?_⟩;obtain ⟨u,hu,v,hv,rfl⟩:=zcY hq;exact ((z1.2 u hu).add (z2.2 v hv)).mono (by decide)
 ·unfold xn;simp only [jJ,ja,wP];omega
theorem zn5 (ru:RuS t (.groups a b)) (ok:ClS t l):WithO (zY a (zO l)) (yk (λl=>zY b l) l):=by
 obtain ⟨ra,rb⟩:=ru.groups;have oks:=ok.sums;have okg:∀g∈zI l,ClS t (l.filter (zF g)):=λg hg=>ok.filter (zF g) (Ws hg);have ga:=ra.gf oks;have gb:=λg hg=>rb.gf (okg g hg);have nest:=UV (fa:=λl=>zY a l) (fb:=λl=>zY b l) ga.ful λg hg=>(gb g hg).ful;have T0:=zcc (Vl ok.n1)
 have hl:(lastC (zY a (zO l))).1<=(((amV l).sum:Int):Rat):=by
  rw [ga.ful.std.lastC];show yb (amQ (zO l))<=_;rw [ZU,zcG];exact jP
 have dn:=ru.den;simp only [zfG] at dn;have G8:=Xm l;have e8:=ok.few;refine ⟨nest,ra.R oks,λQ hQ=>?_,λe he=>?_,λQ hQ=>?_,ra.few oks,by rw [Xk];omega,?_⟩
 ·obtain ⟨g,hg,rfl⟩:=jk.mp hQ;refine ⟨rb.R (okg g hg),λc hc=>?_⟩;rw [((gb g hg).ful.std.ok c hc).1];exact (okg g hg).few
 ·have D:=nest.den (We (t:=t) ra.pok oks.n1 oks.sum) (b:=zfG t b) (λQ hQ=>by
   obtain ⟨g,hg,rfl⟩:=jk.mp hQ
   exact We rb.pok (okg g hg).n1 (okg g hg).sum) hl ok.sum he
  have rg:=nest.in_range he;refine ⟨(D.1.sz rg.1 (qG rg.2 hl) T0 ok.sum).mono (by omega),λp hp=>?_⟩
  have nn:∀q∈zo (zY a (zO l)) e,0<=q:=λq hq=>by
   obtain ⟨k,hk⟩:=jw.mp hq;have hkl:k<(yk (λl=>zY b l) l).length:=by rw [<-nest.plen e];exact (je.mp hk).1
   exact (nest.range rg.1 rg.2 (jb hkl) hk).1
  have le:=(Xy nn).2 p hp;rw [ga.ful.std.sum rg.1] at le;have mle:mn e (yb (amQ (zO l)))<=e:=by unfold mn;split<;>grind
  exact ((D.2 p hp).sz (nn p hp) (by have:=rg.2;grind) T0 ok.sum).mono (by omega)
 ·obtain ⟨g,hg,rfl⟩:=jk.mp hQ;exact rb.few (okg g hg)
 ·have f:=ru.few ok
  have e:(zY (.groups a b) l).length=(wpV (zY a (zO l)) (yk (λl=>zY b l) l)).length:=by
   show (Zf (λl=>zY a l) (λl=>zY b l) l).length=_;unfold Zf yS yV;rw [ja,ja]
  omega
theorem zn6 (ru:RuS t (.groups a b)) (ok:ClS t l):(∀c∈yV (zY a (zO l)) (yk (λl=>zY b l) l),SpO (zlm l) l.length c.2)/\(yV (zY a (zO l)) (yk (λl=>zY b l) l)).length<=450:=by
 obtain ⟨ra,rb⟩:=ru.groups;have w:=zn5 ru ok;have okg:∀g∈zI l,ClS t (l.filter (zF g)):=λg hg=>ok.filter (zF g) (Ws hg);have ga:=ra.gf ok.sums;have lk:=zdJ (fb:=λl=>zY b l) (l:=l) λg hg=>(rb.gf (okg g hg)).ful;have W:=zgD w.nest (T:=yb (amQ (zO l))) (as:=amQ (zO l)) (by rw [Xk,<-Zx];exact ga.ful.std);refine ⟨λc hc=>⟨zgv l,by rw [(W.std.ok c hc).1,lk],ok.few⟩,?_⟩;have:=w.lenV;unfold yV;rw [ja];omega
theorem zff {P:List zh} {m:Nat} {p:Rat} (ok:PathIn P) (h:∀c∈P,SzC 700 c) (hp:SzQ m p) (hm:m<=1000):PathIn (yj p P):=by
 refine ⟨λe=>ok.ne (List.map_eq_nil_iff.mp e),λc hc=>(zbf h hp c hc).mono (by omega),λc hc=>?_,by unfold yj;rw [ja];exact ok.few⟩;obtain ⟨d,hd,rfl⟩:=jk.mp hc;rw [ja];exact ok.len d hd
theorem RuS.up {t' b':Int} {x y:Rl} (h:RuS t (.upto t' b' x y)) (ok:ClS t l):UpOk (Rat.divInt t' b') (zY x l) (zY y l):=by
 obtain ⟨hx,hy⟩:=h.upto;have zp:=zr3 h.pok.1;have one:SzQ 1 (1:Rat):=by unfold SzQ Sz;decide+kernel
 have zq:SzQ 212 (1 - Rat.divInt t' b'):=(one.sub zp).mono (by decide);have px:=hx.R (l:=l) ok;have py:=hy.R (l:=l) ok;have gx:=(hx.gf ok).ful.std;have gy:=(hy.gf ok).ful.std;have ix:=hx.inn (l:=l) ok;have iy:=hy.inn (l:=l) ok;have pi:=zdu h.pok.1;have sx:=zbf px.sz zp;have sy:=zbf py.sz zq;have fx:=Wd hx.pok ok.n1;have fy:=Wd hy.pok ok.n1;have f:=h.len;simp only [zaN] at f;have e8:=ok.few;have m1:=Nat.mul_le_mul (show zaN x+zaN y<=50 from f) e8;rw [Nat.add_mul] at m1;have st:=zd8 (Vr pi.1 gx) (Vr (show 0<1 - Rat.divInt t' b' by grind) gy);refine ⟨zp.mono (by decide),ix,iy,zff ix px.sz zp (by decide),zff iy py.sz zq (by decide),l.length,⟨λc hc=>?_,λc hc=>(st.ok c hc).1,by omega,?_⟩⟩
 ·rcases jV.mp hc with z|z
  ·exact (sx c z).mono (by decide)
  ·obtain ⟨d,hd,rfl⟩:=jk.mp z;have a:=sx _ (zh2 (λe=>ix.ne (List.map_eq_nil_iff.mp e)));have b:=sy d (qK hd);refine ⟨(a.1.add b.1).mono (by decide),λq hq=>?_⟩;obtain ⟨u,hu,v,hv,rfl⟩:=zcY hq;exact ((a.2 u hu).add (b.2 v hv)).mono (by decide)
 ·unfold xn yj;simp only [jJ,ja,wP];omega
end
def za4 (gs:List Int) (l:List Cl) (tk:List Int):List Int:=gs.map λg=>(yP 0 (yc (zF g) l) tk).sum
section
variable {r a b:Rl} {l:List Cl} {tk:List Int} {k:Int}
theorem zlX {pl:List Nat} (h:∀i∈pl,i<tk.length):xt (yP 0 pl tk)=yP 0 pl (xt tk):=by
 unfold xt yP;rw [js];refine jF λi hi=>?_;show (((tk.getD i 0):Int):Rat)=(tk.map λ(p:Int)=>(p:Rat)).getD i 0;rw [jm,jm,jh,jb (h i hi)];rfl
theorem zdy (p:Cl->Bool) (q:Row->Bool) (hq:∀c x,q (Zn c x)=p c) (hl:tk.length=l.length):(zL l (xt tk)).filter q=zL (l.filter p) (xt (yP 0 (yc p l) tk)):=by
 rw [XD (p:=p) q hq (by rw [VT];exact hl),zlX λi hi=>by rw [hl];exact (XI p l).lt i hi]
theorem FitG.ranks (h:FitG (.ranks r) l tk) (k:Int):FitG r (l.filter (zW k)) (yP 0 (yc (zW k) l) tk):=by
 refine ⟨by rw [VH,Yc],?_⟩;have:=h.fit.2.1 k;rwa [zdy (zW k) _ (λc x=>rfl) h.len] at this
theorem FitG.order (h:FitG (.ranks r) l tk) {i j:Nat} {c d:Cl} {p q:Int} (hc:l[i]? =some c) (hp:tk[i]? =some p) (hd:l[j]? =some d) (hq:tk[j]? =some q) (lt:c.2.1<d.2.1) (pos:0<q):p=c.1:=by
 have g:∀{n:Nat} {x:Int},tk[n]? =some x->(xt tk)[n]? =some (x:Rat):=λ{n x} hx=>by unfold xt;rw [jh,hx];rfl
 have:=h.fit.2.2 _ (WO hc (g hp)) _ (WO hd (g hq)) lt (XO pos);exact Rat.intCast_inj.mp this
theorem FitG.group (h:FitG (.groups a b) l tk) (g:Int):FitG b (l.filter (zF g)) (yP 0 (yc (zF g) l) tk):=by
 refine ⟨by rw [VH,Yc],?_⟩;have:=h.fit.2.1 g;rwa [zdy (zF g) _ (λc x=>rfl) h.len] at this
theorem FitG.outer (h:FitG (.groups a b) l tk):FitG a (zO l) (za4 (zI l) l tk):=by
 refine ⟨by unfold za4;rw [ja,Zx],?_⟩;have f:=h.fit.2.2
 have eg:Wc (zL l (xt tk))=zI l:=by
  have:(zL l (xt tk)).map (·.group)=l.map (·.2.2):=by
   unfold zL;rw [JM]
   apply qg
   intro i;rw [jt,jh]
   cases e1:l[i]? with
   |none=>rfl
   |some c=>
    have il:=(je.mp e1).1;rw [jb (l:=xt tk) (i:=i) (by rw [VT,h.len];exact il)];rfl
  exact YJ (Uh _).1 (yo l).1 λk=>by rw [(Uh _).2,this,(yo l).2]
 have es:zfU (zL l (xt tk))=zL (zO l) (xt (za4 (zI l) l tk)):=by
  unfold zfU;rw [eg];unfold zL zO xt za4;rw [js,JL,List.zipWith_self];refine jF λg _=>?_;have pk:=zdy (l:=l) (tk:=tk) (zF g) (λx=>decide (x.group=g)) (λc x=>rfl) h.len;unfold zL at pk;have ln:(xt (yP 0 (yc (zF g) l) tk)).length=(l.filter (zF g)).length:=by rw [VT,VH,Yc]
  have sA:=Wn ln;have sP:=Xt ln;unfold zL at sA sP
  have e5:(List.zipWith Zn (l.filter (zF g)) (xt (yP 0 (yc (zF g) l) tk))).map (·.rank)=(l.filter (zF g)).map (·.2.1):=by
   rw [JM]
   apply qg
   intro i;rw [jt,jh]
   cases e1:(l.filter (zF g))[i]? with
   |none=>rfl
   |some c=>
    have il:=(je.mp e1).1;rw [jb (l:=xt (yP 0 (yc (zF g) l) tk)) (i:=i) (by rw [ln];exact il)];rfl
  show Row.mk (ziE ((List.zipWith Zn l (xt tk)).filter λx=>decide (x.group=g))) (ziB (((List.zipWith Zn l (xt tk)).filter λx=>decide (x.group=g)).map (·.rank))) g (zma ((List.zipWith Zn l (xt tk)).filter λx=>decide (x.group=g)))=Zn (zmc g (l.filter (zF g))) (((yP 0 (yc (zF g) l) tk).sum:Int):Rat);rw [pk,sA,sP,e5,za8,ZU];rfl
 rw [es] at f;exact f
end
structure FitA (n:Nat) (r:Rl) (l:List Cl) (tk:List Int):Prop where
 pok:POk r
 dep:zci r<=n
 hn:n<=20
 few:l.length<=8
 sz:∀x∈amV l,Sz (100000 - 300*n) x
 fit:FitG r l tk
section
variable {B G0 H:Hp} {cs:xq} {ds:Dat} {Q:VK} {E:XK} {v w u:V} {K:PySem.W.Frag} {n:Nat} {r x y a b':Rl} {l:List Cl} {tk:List Int} {t b:Int} {k g:Int}
def UJ (n:Nat):Sp:=spB (α:=Rl×List Cl×List Int) (λa=>[a.1.shape,zH a.2.1,Ya a.2.2]) (λa=>FitA n a.1 a.2.1 a.2.2) (λ_=> .bl true)
theorem XH (S:Sta B G0 H cs ds) (h1:Has ds r.shape u) (h2:Has ds (zH l) v) (h3:Has ds (Ya tk) w) (ok:FitA n r l tk) (k:∀H',yt H H'->Sta B G0 H' cs ds->Q (.bl true) H'):UJ n [u,v,w] H Q E:=zaB (r,l,tk) (S.hpAll (.cons h1 (.cons h2 (.cons h3 .nil)))) ok λH' e=>k H' e (S.same e)
def zra (n:Nat):Sp:=spB (α:=(Int×Int)×(Rl×Rl)×List Cl×List Int) (λa=>[(Rl.upto a.1.1 a.1.2 a.2.1.1 a.2.1.2).shape,zH a.2.2.1,Ya a.2.2.2]) (λa=>FitA n (Rl.upto a.1.1 a.1.2 a.2.1.1 a.2.1.2) a.2.2.1 a.2.2.2) (λ_=> .bl true)
theorem rd_upA (S:Sta B G0 H cs ds) (h1:Has ds (Rl.upto t b x y).shape u) (h2:Has ds (zH l) v) (h3:Has ds (Ya tk) w) (ok:FitA n (.upto t b x y) l tk) (k:∀H',yt H H'->Sta B G0 H' cs ds->Q (.bl true) H'):zra n [u,v,w] H Q E:=zaB ((t,b),(x,y),l,tk) (S.hpAll (.cons h1 (.cons h2 (.cons h3 .nil)))) ok λH' e=>k H' e (S.same e)
def zrc (n:Nat):Sp:=spB (α:=Rl×List Cl×List Int) (λa=>[a.1.shape,zH a.2.1,Ya a.2.2]) (λa=>FitA n (.ranks a.1) a.2.1 a.2.2) (λ_=> .bl true)
theorem rd_rkF (S:Sta B G0 H cs ds) (h1:Has ds r.shape u) (h2:Has ds (zH l) v) (h3:Has ds (Ya tk) w) (ok:FitA n (.ranks r) l tk) (k:∀H',yt H H'->Sta B G0 H' cs ds->Q (.bl true) H'):zrc n [u,v,w] H Q E:=zaB (r,l,tk) (S.hpAll (.cons h1 (.cons h2 (.cons h3 .nil)))) ok λH' e=>k H' e (S.same e)
def zre (n:Nat):Sp:=spB (α:=(Rl×Rl)×List Cl×List Int) (λa=>[(Rl.groups a.1.1 a.1.2).shape,zH a.2.1,Ya a.2.2]) (λa=>FitA n (.groups a.1.1 a.1.2) a.2.1 a.2.2) (λ_=> .bl true)
theorem rd_grF (S:Sta B G0 H cs ds) (h1:Has ds (Rl.groups x y).shape u) (h2:Has ds (zH l) v) (h3:Has ds (Ya tk) w) (ok:FitA n (.groups x y) l tk) (k:∀H',yt H H'->Sta B G0 H' cs ds->Q (.bl true) H'):zre n [u,v,w] H Q E:=zaB ((x,y),l,tk) (S.hpAll (.cons h1 (.cons h2 (.cons h3 .nil)))) ok λH' e=>k H' e (S.same e)
theorem FitA.other (h:FitA (n+1) (.other r) l tk):FitA n r l (ZN (amV l) tk):=
 ⟨h.pok,by have:=h.dep;simp only [zci] at this;omega,by have:=h.hn;omega,h.few,λx hx=>(h.sz x hx).mono (by omega),h.fit.other⟩
theorem FitA.halves (h:FitA (n+1) .halves l tk):FitA n (.upto 1 2 .evenly .losses) l tk:=
 ⟨⟨port12,trivial,trivial⟩,by have:=h.dep;simp only [zci] at this⊢;omega,by have:=h.hn;omega,h.few,λx hx=>(h.sz x hx).mono (by omega),h.fit.halves⟩
theorem FitA.upto (h:FitA (n+1) (.upto t b x y) l tk):if (xA b tk).sum<=(amV (yw t l)).sum then FitA n x (yw t l) (xA b tk) else FitA n y (yw (b - t) l) (ZN (xA b tk) (amV (yw t l))):=by
 have p:=h.pok.1;have b0:0<b:=by have:=p.2.1;have:=p.2.2.1;omega
 have f:=h.fit.upto b0;have d:=h.dep;simp only [zci] at d;have hn:=h.hn;have e:100000 - 300*(n+1)+300=100000 - 300*n:=by omega
 split
 ·rename_i c;rw [jK c] at f;exact ⟨h.pok.2.1,by omega,by omega,by rw [ZT];exact h.few,by rw [<-e];exact zjX (p.1.1.mono (by decide)) h.sz,f⟩
 ·rename_i c;rw [jQ c] at f;have zb:Sz 211 (b - t):=p.1.2.sub p.1.1;exact ⟨h.pok.2.2,by omega,by omega,by rw [ZT];exact h.few,by rw [<-e];exact zjX zb h.sz,f⟩
theorem zd9 (p:Cl->Bool) {x:Int} (h:x∈amV (l.filter p)):x∈amV l:=by
 obtain ⟨c,hc,rfl⟩:=jk.mp h;exact jk.mpr ⟨c,(qo.mp hc).1,rfl⟩
theorem FitA.ranks (h:FitA (n+1) (.ranks r) l tk) (k:Int):FitA n r (l.filter (zW k)) (yP 0 (yc (zW k) l) tk):=
 ⟨h.pok,by have:=h.dep;simp only [zci] at this;omega,by have:=h.hn;omega,jS (wx _ _) h.few,λx hx=>(h.sz x (zd9 _ hx)).mono (by omega),h.fit.ranks k⟩
theorem FitA.group (h:FitA (n+1) (.groups a b') l tk) (g:Int):FitA n b' (l.filter (zF g)) (yP 0 (yc (zF g) l) tk):=
 ⟨h.pok.2,by have:=h.dep;simp only [zci] at this;omega,by have:=h.hn;omega,jS (wx _ _) h.few,λx hx=>(h.sz x (zd9 _ hx)).mono (by omega),h.fit.group g⟩
theorem zqD {m:Nat}:∀{as:List Int} (j:Nat),as.length<=j->(∀a∈as,Sz m a)->Sz (m+j+1) as.sum
 |[],j,_,_=>by unfold Sz;exact Nat.pow_pos (by decide)
 |a::as,0,h,_=>by simp at h
 |a::as,j+1,h,hz=>by
  have h1:=zqD (m:=m) (as:=as) j (by simpa using h) λx hx=>hz x (jf _ hx);have h2:=(hz a (jd ..)).mono (show m<=m+j+1 by omega);rw [jM];exact (h2.add h1).mono (by omega)
theorem FitA.outer (h:FitA (n+1) (.groups a b') l tk):FitA n a (zO l) (za4 (zI l) l tk):=by
 refine ⟨h.pok.1,by have:=h.dep;simp only [zci] at this;omega,by have:=h.hn;omega,by rw [Zx];exact jS (Xm l) h.few,λx hx=>?_,h.fit.outer⟩;obtain ⟨c,hc,rfl⟩:=jk.mp hx;obtain ⟨g,hg,rfl⟩:=jk.mp hc;have hn:=h.hn;refine (zqD (m:=100000 - 300*(n+1)) (as:=amV (l.filter (zF g))) 8 ?_ λa ha=>h.sz a (zd9 _ ha)).mono (by omega);rw [yJ];exact jS (wx _ _) h.few
theorem zox {i:Nat} (h:i<l.length):(l.getD i (0,0,0)).1=(amV l).getD i 0:=by
 unfold amV;rw [jm,jm,jh,jb h];rfl
noncomputable def zf1 (t:Nat):Sp:=spB (α:=Rl×List Cl×Rat) (λa=>[a.1.shape,zH a.2.1,frD a.2.2,xr (zo (zY a.1 a.2.1) a.2.2)]) (λa=>((RuS t a.1/\zci a.1<=12)/\ClS t a.2.1)/\SzQ 700 a.2.2/\0<=a.2.2) (λ_=> .bl true)
theorem zmU {z:V} {m:Nat} {e:Rat} (S:Sta B G0 H cs ds) (h1:Has ds r.shape u) (h2:Has ds (zH l) v) (h3:Has ds (frD e) w) (h4:Has ds (xr (zo (zY r l) e)) z) (ru:RuS m r) (hd:zci r<=12) (ok:ClS m l) (ze:SzQ 700 e) (e0:0<=e) (k:∀H',yt H H'->Sta B G0 H' cs ds->Q (.bl true) H'):zf1 m [u,v,w,z] H Q E:=zaB (r,l,e) (S.hpAll (.cons h1 (.cons h2 (.cons h3 (.cons h4 .nil))))) ⟨⟨⟨ru,hd⟩,ok⟩,ze,e0⟩ λH' e=>k H' e (S.same e)
def zf0 (A:RAd) (n:Nat):Sp:=spT (α:=Rl) (λr=>[r.shape]) (λr=>r.deep<=n) (λr=>r.ins A)
theorem WQ {A:RAd} {n:Nat} (S:Sta B G0 H cs ds) (h:Has ds r.shape v) (hn:r.deep<=n) (k:∀p H',yt H H'->Sta B G0 H' cs ((r.ins A,p)::ds)->Q p H'):zf0 A n [v] H Q E:=YW r S (.cons h .nil) hn k
end
structure ClZ (size:Int) (l:List Cl):Prop where
 pos:0<l.length
 few:l.length<=8
 nn:∀c∈l,0<=c.1/\0<=c.2.1/\0<=c.2.2
 lt:∀c∈l,c.1<size
theorem zc3 {size:Int} (h0:0<=size):∀{as:List Int},(∀a∈as,a<size)->as.sum<=(as.length:Int)*size
 |[],_=>by simp
 |a::as,h=>by
  have h1:=h a (jd ..);have h2:=zc3 h0 (as:=as) λx hx=>h x (jf _ hx);rw [jM,jz,Int.natCast_add,Int.add_mul];omega
theorem ClZ.S {size:Int} {l:List Cl} {s:Nat} (h:ClZ size l) (h0:0<=size) (hs:size<=2 ^ s):ClS (s+3) l:=by
 refine ⟨h.pos,h.few,h.nn,?_⟩
 have h1:=zc3 h0 (as:=amV l) λa ha=>by
  obtain ⟨c,hc,rfl⟩:=jk.mp ha;exact h.lt c hc
 rw [yJ] at h1;have h2:(l.length:Int)*size<=8*size:=Jo (by have:=h.few;omega) h0;rw [Int.pow_add];have e:(2:Int) ^ 3=8:=by decide
 rw [e];omega
section
variable {B G0 H:Hp} {cs:xq} {ds:Dat} {Q:VK} {E:XK} {v w u:V} {K:PySem.W.Frag}
def zdd (K:PySem.W.Frag):Sp:=λvs H Q _=>∃(G:Hp) (a:Addr) (ns:List Int) (at' many size:Int),vs=[.ref a, .int at', .int many, .int size]/\yt G H/\SqL K H a (ns.map V.int)/\(0<=at'/\1<=many/\many<=8/\10<=size/\size<=10 ^ 46)/\
 ∀(l:List Cl) (p:Addr) (H' G':Hp) (us:List V),l.length=many.toNat->ClZ size l->Grow G H G' H'->H p=none->G' p=none->H' p=some (.lst us)->zX G' (l.map zP) us->Q (.ref p) H'
theorem zlj {a:Addr} {ns:List Int} {at' many size:Int} (S:Sta B G0 H cs ds) (hS:SqL K H a (ns.map V.int)) (hb:0<=at'/\1<=many/\many<=8/\10<=size/\size<=10 ^ 46)
 (k:∀(l:List Cl) (p:Addr) (H':Hp),l.length=many.toNat->ClZ size l->yt H H'->Sta B G0 H' ((p,l.map zP)::cs) ds->Q (.ref p) H'):zdd K [.ref a, .int at', .int many, .int size] H Q E:=by
 obtain ⟨G,S⟩:=S;exact ⟨G,a,ns,at',many,size,rfl,S.2.1,hS,hb,λl p H' G' us h1 h2 gr hp hg hu hv=>k l p H' h1 h2 gr.h (Sta.put_call S gr hp hg hu hv)⟩
def zae (n:Int):List Int:=if n % 5=0 then [7,10,2] else if n % 5=1 then [10 ^ 40+5,9,30] else if n % 5=2 then [2024,10 ^ 20,100] else if n % 5=3 then [6,3,12,0,9,100,5,1] else [0,1,2]
theorem znU (n:Int):0<(zae n).length/\∀x∈zae n,0<=x:=by
 unfold zae
 split
 ·exact ⟨by decide,by decide⟩
 split
 ·exact ⟨by decide,by decide⟩
 split
 ·exact ⟨by decide,by decide⟩
 split
 ·exact ⟨by decide,by decide⟩
 ·exact ⟨by decide,by decide⟩
theorem zjf (n:Int):((((zae n).map PyData.int).length:Nat):Int)≠0:=by
 have:=(znU n).1;rw [ja];omega
theorem znV (n i:Int):∃x,0<=x/\atI ((zae n).map PyData.int) (i.fmod ((((zae n).map PyData.int).length:Nat):Int))=some (.int x):=by
 obtain ⟨h1,h2⟩:=znU n;have ne:=zjf n;have e:=qk i (show 0<=((((zae n).map PyData.int).length:Nat):Int) by omega);have m1:=wy i ne;have m2:=qZ i (show 0<((((zae n).map PyData.int).length:Nat):Int) by omega);rw [<-e] at m1 m2;generalize i.fmod ((((zae n).map PyData.int).length:Nat):Int)=j at*;rw [ja] at m2;have hj:j.toNat<(zae n).length:=by omega
 refine ⟨(zae n)[j.toNat],h2 _ (qa hj),?_⟩;have:=xi (xs:=(zae n).map PyData.int) (j:=j.toNat) (v:= .int (zae n)[j.toNat]) (by rw [jh,jb hj];rfl);rwa [Int.toNat_of_nonneg m1] at this
def zda:Sp:=spL (α:=Int) (λn=>[.int n]) (λ_=>True) (λn=>(zae n).map PyData.int)
theorem zfk {n:Int} (S:Sta B G0 H cs ds) (k:∀p H',yt H H'->Sta B G0 H' ((p,(zae n).map PyData.int)::cs) ds->Q (.ref p) H'):zda [.int n] H Q E:=Yl n S (.cons Has.int .nil) trivial k
def D26 (r:Rl):Prop:=(RuS 103 r/\zci r<=12)/\r.deep<=4
theorem zdZ (n:Nat):POk (Xd n)/\zfG 103 (Xd n)<=2/\zaN (Xd n)<=2/\zci (Xd n)<=3/\(Xd n).deep=1:=by
 match n with
 |0=>exact ⟨trivial,by decide,by decide,by decide,rfl⟩
 |1=>exact ⟨trivial,by decide,by decide,by decide,rfl⟩
 |2=>exact ⟨trivial,by decide,by decide,by decide,rfl⟩
 |n+3=>exact ⟨trivial,by show 2<=2;decide,by show 2<=2;decide,by show 3<=3;decide,rfl⟩
theorem zok (m:Nat):D26 (.ranks (Xd m)):=by
 obtain ⟨a1,a2,a3,a4,a5⟩:=zdZ m;exact ⟨⟨⟨a1,by decide,by simp only [zfG];omega,by simp only [zaN];omega⟩,by simp only [zci];omega⟩,by simp only [Rl.deep];omega⟩
theorem zlU (m n:Nat):D26 (.groups (Xd m) (Xd n)):=by
 obtain ⟨a1,a2,a3,a4,a5⟩:=zdZ m;obtain ⟨b1,b2,b3,b4,b5⟩:=zdZ n;exact ⟨⟨⟨⟨a1,b1⟩,by decide,by simp only [zfG];omega,by simp only [zaN];omega⟩,by simp only [zci];omega⟩,by simp only [Rl.deep];omega⟩
theorem zjv (m n:Nat):D26 (.groups (.ranks (Xd m)) (Xd n)):=by
 obtain ⟨a1,a2,a3,a4,a5⟩:=zdZ m;obtain ⟨b1,b2,b3,b4,b5⟩:=zdZ n;exact ⟨⟨⟨⟨a1,b1⟩,by decide,by simp only [zfG];omega,by simp only [zaN];omega⟩,by simp only [zci];omega⟩,by simp only [Rl.deep];omega⟩
theorem zju (m n:Nat):D26 (.groups (Xd m) (.ranks (Xd n))):=by
 obtain ⟨a1,a2,a3,a4,a5⟩:=zdZ m;obtain ⟨b1,b2,b3,b4,b5⟩:=zdZ n;exact ⟨⟨⟨⟨a1,b1⟩,by decide,by simp only [zfG];omega,by simp only [zaN];omega⟩,by simp only [zci];omega⟩,by simp only [Rl.deep];omega⟩
def zdc:Sp:=λvs H Q _=>∃(G:Hp) (c:Int),vs=[.int c]/\yt G H/\∀v H' G' (r:Rl),Grow G H G' H'->Is G' r.shape v->D26 r->Q v H'
theorem zli {c:Int} (S:Sta B G0 H cs ds) (k:∀v H' (r:Rl),D26 r->yt H H'->Sta B G0 H' cs ((r.shape,v)::ds)->Q v H'):zdc [.int c] H Q E:=by
 obtain ⟨G,S⟩:=S;refine ⟨G,c,rfl,S.2.1,λv H' G' r gr hv good=>k v H' r good gr.h ?_⟩;obtain ⟨a',b',c',d',e',f',g'⟩:=S.grow gr;exact ⟨G',a',b',c',d',e',f',g'.cons hv⟩
theorem zgp {G H':Hp} {r:Rl} (S:Sta H G H' cs ds) (k:∀v H' G' (r:Rl),Grow G H G' H'->Is G' r.shape v->D26 r->Q v H') (h:Has ds r.shape v) (hg:D26 r):Q v H':=
 let ⟨G',gr,al⟩:=S.leave;k v H' G' r gr (h G' al) hg
end
structure DkT (K:PySem.W.Frag) (mg:Str->Option Value) (nm:Str) (st:Stmt) (f:Addr) (fd:FuncData) (ps:List Str):Prop where
 F:Fun K nm nm st f fd
 m:mg nm=some (.ref f)
 b:Zg K fd ps []
structure FkT (K:PySem.W.Frag) (x q:Str) (st:Stmt) (f:Addr) (fd:FuncData) (ps:List Str):Prop where
 F:Fun K x q st f fd
 b:Zg K fd ps []
 k:PySem.W.keepIn K (.ref f)=true
section
variable {K:PySem.W.Frag} {h:Heap} {mg:Str->Option Value} {x q:Str} {st:Stmt} {f:Addr} {oc:Value} {od an:Option Addr} {osl:Array (Option Value)} {kV doc pm cdv ct:Value} {ps:List Str}
theorem fk_mk (l:K.lookup f=some ⟨oc,od, .func (PySem.W.fnOf x q (YU st) (YD st) (zB st) .none kV doc pm an cdv ct),osl⟩) (c:PySem.W.codeIn K cdv q=true) (k:PySem.W.keepIn K (.ref f)=true)
 (b:∀(kV doc pm:Value) (an:Option Addr) (cdv ct:Value) (us:List Value),us.length=ps.length->bindArgs (PySem.W.fnOf x q (YU st) (YD st) (zB st) .none kV doc pm an cdv ct) ⟨us,[]⟩=pure (ps.zip us)):
 FkT K x q st f (PySem.W.fnOf x q (YU st) (YD st) (zB st) .none kV doc pm an cdv ct) ps:=⟨zh5 l c k,(zh5 l c k).binds b,k⟩
theorem dk_mk (X:K.In h) (G:h.Ns mainGlobals mg) (a:PySem.W.nsIn K mainGlobals x=some (some (.ref f))) (l:K.lookup f=some ⟨oc,od, .func (PySem.W.fnOf x x (YU st) (YD st) (zB st) .none kV doc pm an cdv ct),osl⟩) (c:PySem.W.codeIn K cdv x=true) (k:PySem.W.keepIn K (.ref f)=true)
 (b:∀(kV doc pm:Value) (an:Option Addr) (cdv ct:Value) (us:List Value),us.length=ps.length->bindArgs (PySem.W.fnOf x x (YU st) (YD st) (zB st) .none kV doc pm an cdv ct) ⟨us,[]⟩=pure (ps.zip us)):
 DkT K mg x st f (PySem.W.fnOf x x (YU st) (YD st) (zB st) .none kV doc pm an cdv ct) ps:=⟨zh5 l c k,wA X G a,(zh5 l c k).binds b⟩
end
structure CkT (K:PySem.W.Frag) (c fI Ru fS fT fP fQ:Addr):Prop where
 e:PySem.W.findIn K (.ref c) "__init__"=some (some (.ref fI))
 es:PySem.W.findIn K (.ref c) "shape"=some (some (.ref fS))
 et:PySem.W.findIn K (.ref c) "text"=some (some (.ref fT))
 ep:PySem.W.findIn K (.ref c) "path"=some (some (.ref fP))
 eq:PySem.W.findIn K (.ref c) "parts"=some (some (.ref fQ))
 pg:PySem.W.plainGet K c Str.empty=true
 hd:PySem.W.hasDictIn K c=true
 po:PySem.W.plainOver K c=true
 sa:PySem.W.findIn K (.ref c) "__setattr__"=some (some (.builtin "object.__setattr__"))
 na:PySem.W.findIn K (.ref c) "form"=some none
 ha:PySem.W.findIn K (.ref c) "__class__"=some (some (.builtin "object.__class__"))
 mo:PySem.W.mroIn K c (.type "object")=some true
 kt:PySem.W.kitOne K (.ref c) (.ref Ru)=some true
 mq:PySem.W.makesIn K c=true
 nf:PySem.W.isFn K (.ref fI)=true
 kc:PySem.W.keepIn K (.ref c)=true
section
variable {K:PySem.W.Frag} {c fI Ru fS fT fP fQ:Addr}
theorem CkT.ok (Q:CkT K c fI Ru fS fT fP fQ) (n1:PySem.W.isFn K (.ref fS)=true) (k1:PySem.W.keepIn K (.ref fS)=true) (n2:PySem.W.isFn K (.ref fT)=true) (k2:PySem.W.keepIn K (.ref fT)=true) (hn:PySem.W.specialIn K (.builtin "object.__class__") "__get__"=some (some (.builtin "getset_descriptor.__get__"))) (ht:PySem.W.takesIn K (.builtin "object.__class__")=some true):ROk K fS fT Ru c:=
 ⟨⟨Q.pg,Q.hd,Q.po,Q.sa⟩,Q.na,⟨Q.es,n1,k1⟩,⟨Q.et,n2,k2⟩,Q.ha,hn,ht,Q.mo,Q.kt⟩
theorem CkT.MK (Q:CkT K c fI Ru fS fT fP fQ):Mk K c fI:=⟨Q.mq,Q.e,Q.nf,Q.kc⟩
theorem CkT.mp (Q:CkT K c fI Ru fS fT fP fQ) (n:PySem.W.isFn K (.ref fP)=true) (k:PySem.W.keepIn K (.ref fP)=true) (n2:PySem.W.isFn K (.ref fQ)=true) (k2:PySem.W.keepIn K (.ref fQ)=true):Meth K c "path" fP/\Meth K c "parts" fQ:=⟨⟨Q.ep,n,k⟩,⟨Q.eq,n2,k2⟩⟩
end
section
variable {X:Cx}
theorem Zm (i:Nat) {x:Str} {e:Expr} {te:TE} {pos' pos:Pos} (hN:X.N.Nodup) (he:PE X e te) (hi:X.N[i]? =some x:=by rfl) (hx:Loc X.env.scope x:=by first|exact Or.inl rfl|exact Or.inr rfl) (hs:swapsWith e (some (.Name x pos')) pos.line X.env=pure false:=by rfl) (hf:X.fn x=true\/X.env.scope.names.lookup x=some .local:=by first|exact .inl rfl|exact .inr rfl|assumption):
 PS X (.Assign [.Name x pos'] e pos) (tAsg te (zjn i)):=ps_set hN hi hx he hs hf
theorem xM (i:Nat) {x:Str} {pos:Pos} (hN:X.N.Nodup) (hi:X.N[i]? =some x:=by rfl) (hx:Loc X.env.scope x:=by first|exact Or.inl rfl|exact Or.inr rfl) (hf:X.fn x=true\/X.env.scope.names.lookup x=some .local:=by first|exact .inl rfl|exact .inr rfl|assumption):PG X (.Name x pos) (zjn i):=zr5 hN hi hx hf
theorem pcl {k j:Nat} {x:Str} {ps:List Str} {sp:Sp} {e:Expr} {es:List Expr} {t:TA} {p pos:Pos} (C:Cal X.prog X.w X.K X.mg X.base CX0 k x ps sp) (hr:Room j X.A) (ha:PA X (e::es) t) (hk:k<=j:=by first|decide|exact jy _|omega) (hg:Gl X x:=by rfl) (hdb:(x==("__debug__":Str))=false:=by decide) (he:starEach (e::es) X.env=(false,eval e X.env)::starEach es X.env:=by rfl) (hpl:(backTo pos (starEach es X.env)).any (·.1)=false:=by rfl):
 PE X (.Call (.Name x p) (e::es) [] pos) (zk4 sp [] E0 t):=pe_cal C hr hk YS hg ha hdb he hpl
theorem pix (i:Nat) {x:Str} {k:Int} {j:Nat} {p1 p2 p3:Pos} (hN:X.N[i]? =some x:=by rfl) (hv:Vis X.env.scope x:=by first|exact Or.inl rfl|exact Or.inr (Or.inl rfl)|exact Or.inr (Or.inr rfl)) (hd:(x==("__debug__":Str))=false:=by decide) (hc:(x==("__classdict__":Str))=false:=by decide):PE X (.Subscript (.Name x p1) (.Constant (.int k) j p2) p3) (tOp (rIx X.K) (tVar i) (tC (.int k))):=xE yx (pv i hN hv hd hc) zA (λ_ _=>rfl)
end
end S
namespace K
open PySem L2 S
abbrev pc:List Str:=["_law_shape","_law_claims_here","_law_parts"]
abbrev pf:List Str:=["one","two"]
abbrev ph:List Str:=["self","form"]
abbrev pA:List Str:=["self"]
abbrev pB:List Str:=["_law_shape","_law_claims_here","_law_purse_here","_law_parts"]
abbrev pC:List Str:=["_law_claim"]
abbrev pF:List Str:=["claims","group"]
abbrev pG:List Str:=["ones","twos"]
abbrev pH:List Str:=["self","portion","first","last"]
abbrev pI:List Str:=["_law_script","_law_at","_law_many","_law_size"]
abbrev pJ:List Str:=["self","inner"]
abbrev pK:List Str:=["claims"]
abbrev pL:List Str:=["path","places","count"]
abbrev pM:List Str:=["_law_k","_law_claims_here"]
abbrev pO:List Str:=["_law_amount","_law_part"]
abbrev pP:List Str:=["_law_one","_law_two"]
abbrev pQ:List Str:=["start","end","portion"]
abbrev pR:List Str:=["self","claims","purse"]
abbrev pS:List Str:=["start","end","amount"]
abbrev pT:List Str:=["self","outer","inner"]
abbrev pU:List Str:=["shape","claims"]
abbrev pV:List Str:=["_law_script","_law_k"]
abbrev pW:List Str:=["_law_found"]
abbrev pX:List Str:=["_law_k","_law_parts"]
abbrev pY:List Str:=["claims","places"]
abbrev pZ:List Str:=["portion","first","last"]
abbrev paa:List Str:=["outer","inner","claims"]
abbrev pab:List Str:=["_law_whole_here","_law_cell"]
abbrev pac:List Str:=["ahead","corner","following"]
abbrev pad:List Str:=["_law_amounts","_law_parts"]
abbrev pae:List Str:=["top","bottom"]
abbrev paf:List Str:=["claim"]
abbrev pag:List Str:=["place","corner","corners","last"]
abbrev pah:List Str:=["parts","places","count"]
abbrev pai:List Str:=["_law_cell","_law_place"]
abbrev paj:List Str:=["_law_top","_law_bottom"]
abbrev pak:List Str:=["path","second"]
abbrev pal:List Str:=["self","claims"]
abbrev pam:List Str:=["claims","rank"]
abbrev pan:List Str:=["amounts","amount"]
abbrev pao:List Str:=["path","place","levels"]
abbrev pap:List Str:=["path","others","purse"]
abbrev paq:List Str:=["_law_shape"]
abbrev pas:List Str:=["start","end","purse"]
abbrev pat:List Str:=["path","portion"]
abbrev pau:List Str:=["inner","claims"]
abbrev pav:List Str:=["path","others"]
local macro_rules|`(tactic|walk_at "m")=>`(tactic|exact .mem (by walk_at "mem"))
local macro_rules|`(tactic|walk_at "l")=>`(tactic|first|decide|exact jy _|omega)
local macro_rules|`(tactic|walk_at "o")=>`(tactic|first|exact Or.inl rfl|exact Or.inr rfl)
local macro_rules|`(tactic|walk_at "mem")=>`(tactic|first|exact List.Mem.head _|(refine List.Mem.tail _ ?_;walk_at "mem"))
local macro_rules|`(tactic|walk_at "has")=>`(tactic|first|exact Has.int|exact Has.bl|exact Has.non|exact Has.str|exact Has.mem (by walk_at "mem"))
local macro_rules|`(tactic|walk_at "hasall")=>`(tactic|first|exact xj.nil|((refine' xj.cons ?a ?b);(case a=>walk_at "has");(case b=>walk_at "hasall")))
local macro_rules|`(tactic|walk_at "sz")=>`(tactic|first|assumption|exact SzQ.num (by assumption)|exact SzQ.den (by assumption)|exact Sz.mul (by walk_at "sz") (by walk_at "sz")|exact Sz.add' (by walk_at "sz") (by walk_at "sz")|exact Sz.sub' (by walk_at "sz") (by walk_at "sz")|exact Sz.lit (by decide))
local macro_rules|`(tactic|walk_at "mul")=>`(tactic|first|assumption|exact IntMulOk.of_left (by decide)|exact IntMulOk.of_right (by decide)|exact zpB (by decide)|exact Sz.mulOk (by walk_at "sz") (by walk_at "sz") (by decide))
local macro_rules|`(tactic|walk_at "div")=>`(tactic|exact ⟨by decide,by decide⟩)
local macro_rules|`(tactic|walk_at "mod")=>`(tactic|first|(show (0:Int)<_;decide)|(show (0:Int)<_;omega)|decide|assumption)
local macro_rules|`(tactic|walk_at "rd")=>`(tactic|first
 |((with_reducible refine' rd_var ?e ?k);(case e=>exact rfl))
 |with_reducible refine' rd_c ?_|with_reducible refine' rd_op ?_|with_reducible refine' rd_rI0 ?_|with_reducible refine' zrZ ?_
 |((with_reducible refine' zrM ?S ?h ?i ?k);(case S=>assumption);(case h=>walk_at "has");(case i=>exact rfl))
 |((with_reducible refine' zfm ?S ?h ?i ?k);(case S=>assumption);(case h=>walk_at "has");(case i=>exact rfl);intro w S)
 |((with_reducible refine' YR ?S ?h ?i ?k);(case S=>assumption);(case h=>walk_at "has");(case i=>exact rfl))
 |((with_reducible refine' xR ?S ?h ?i ?k);(case S=>assumption);(case h=>walk_at "has");(case i=>exact rfl);intro w S)
 |((with_reducible refine' zrx ?c ?k);(case c=>walk_at "mul"))
 |((with_reducible refine' zrz ?c ?k);(case c=>first|decide|omega))
 |((with_reducible refine' zry ?c ?k);(case c=>first|assumption|omega))
 |((with_reducible refine' zpg ?c ?k);(case c=>exact ⟨by decide,by decide⟩))
 |((with_reducible refine' zph ?c ?k);(case c=>assumption))
 |((with_reducible refine' rd_pow ?c ?k);(case c=>exact ⟨by decide,by decide,by decide⟩))
 |with_reducible refine' rd_seq ?_|with_reducible refine' rd_asg ?_|with_reducible refine' zN ?_|with_reducible refine' rd_nx ?_|with_reducible refine' rd_rt ?_|with_reducible refine' zqH ?_|with_reducible refine' zmT ?_|with_reducible refine' rd_nxL ?_|with_reducible refine' rd_rtL ?_
 |with_reducible refine' zrU ?_|with_reducible refine' rd_nil ?_|with_reducible refine' zrX ?_|with_reducible refine' rd_cb ?_|with_reducible refine' rd_tup ?_|with_reducible refine' rd_lst ?_
 |((with_reducible refine' zrH ?S ?h ?l ?k);(case S=>assumption);(case h=>walk_at "hasall");(case l=>exact JB rfl);intro p H' e S)
 |((with_reducible refine' zrJ ?S ?h ?l ?k);(case S=>assumption);(case h=>walk_at "hasall");(case l=>exact JB rfl);intro p H' e S)
 |with_reducible refine' rd_if ?_|with_reducible refine' zro ?_|with_reducible refine' rd_tB ?_|with_reducible refine' zrO ?_|with_reducible refine' rd_eqI ?_|with_reducible refine' rd_neI ?_
 |with_reducible refine' rd_not ?_|with_reducible refine' rd_and ?_|with_reducible refine' rd_or ?_|with_reducible refine' zrY ?_|with_reducible refine' rd_orV ?_|with_reducible refine' zrv ?_|with_reducible refine' rd_ifE ?_
 |with_reducible refine' rd_un ?_|with_reducible refine' rd_rU ?_|with_reducible refine' zrS ?_|with_reducible refine' zrw ?_|with_reducible refine' rd_retN ?_
 |((with_reducible refine' zrE ?S ?h ?k);(case S=>assumption);(case h=>walk_at "has"))
 |((with_reducible refine' zrG ?S ?h ?k);(case S=>assumption);(case h=>walk_at "has"))
 |((with_reducible refine' rd_lenC ?S ?h ?k);(case S=>assumption);(case h=>walk_at "mem"))
 |with_reducible refine' rd_abs ?_|with_reducible refine' rd_min ?_|with_reducible refine' rd_max ?_
 |with_reducible refine' rd_for ?_|with_reducible refine' zrV ?_|with_reducible refine' zpf ?_|with_reducible refine' zrP ?_|with_reducible refine' rd_iR1 ?_|with_reducible refine' rd_iR2 ?_|with_reducible refine' rd_iEn ?_|with_reducible refine' rd_iZi ?_
 |with_reducible refine' Zp ?_|with_reducible refine' xu ?_|with_reducible refine' Wb ?_
 |((with_reducible refine' Zo ?S ?h ?k);(case S=>assumption);(case h=>walk_at "has");intro w1 w2 S)
 |((with_reducible refine' rd_kGT3 ?S ?h ?k);(case S=>assumption);(case h=>walk_at "has");intro w1 w2 w3 S)
 |with_reducible refine' rd_bm ?_|with_reducible refine' rd_bm0 ?_
 |((with_reducible refine' rd_kBM ?S ?h ?k);(case S=>assumption);(case h=>walk_at "mem"))
 |((with_reducible refine' rd_kBM0 ?S ?h ?k);(case S=>assumption);(case h=>walk_at "mem"))
 |((with_reducible refine' zpc ?S ?h ?k);(case S=>assumption);(case h=>walk_at "has");intro p H' e S)
 |((with_reducible refine' rd_listC ?S ?h ?k);(case S=>assumption);(case h=>walk_at "mem");intro p H' e S)
 |((with_reducible refine' rd_listT ?S ?h ?k);(case S=>assumption);(case h=>walk_at "has");intro p H' e S)
 |((with_reducible refine' rd_tupleL ?S ?h ?k);(case S=>assumption);(case h=>walk_at "has");intro p H' e S)
 |((with_reducible refine' zmS ?S ?h ?k);(case S=>assumption);(case h=>walk_at "mem");intro p H' e S)
 |with_reducible refine' rd_par ?_|with_reducible refine' rd_is2 ?_
 |((with_reducible refine' rd_aug ?e ?k);(case e=>exact rfl))|with_reducible refine' rd_ipI ?_
 |with_reducible refine' iteT ?_|with_reducible refine' iteF ?_|with_reducible refine' iteNF ?_|with_reducible refine' iteNT ?_
 |with_reducible refine' rd_nx0 ?_|with_reducible refine' rd_ctL ?_|with_reducible refine' rd_bkL ?_|with_reducible refine' rd_ct ?_|with_reducible refine' rd_bk ?_|with_reducible refine' rd_eqB ?_|with_reducible refine' rd_neB ?_)
local macro_rules|`(tactic|walk_at "sub")=>`(tactic|first|exact wT _|exact List.nil_sublist _|(refine List.Sublist.cons₂ _ ?_;walk_at "sub")|(refine List.Sublist.cons _ ?_;walk_at "sub"))
local macro_rules|`(tactic|walk_at "dats")=>`(tactic|first|exact Dats.nil|((refine' Dats.cons ?a ?b);(case a=>walk_at "has");(case b=>walk_at "dats")))
local macro_rules|`(tactic|walk_at "walk")=>`(tactic|repeat walk_at "rd")
local macro_rules|`(tactic|walk_at "szq")=>`(tactic|first|assumption|exact SzQ.add (by walk_at "szq") (by walk_at "szq")|exact SzQ.sub (by walk_at "szq") (by walk_at "szq")|exact SzQ.mul (by walk_at "szq") (by walk_at "szq")|exact SzQ.div (by walk_at "szq") (by walk_at "szq"))
local macro_rules|`(tactic|walk_at "dom")=>`(tactic|first|exact True.intro|assumption)
local macro_rules|`(tactic|walk_at "rd")=>`(tactic|first
 |((with_reducible refine' zhN ?S ?h1 ?h2 ?s1 ?s2 ?l ?d ?k);(case S=>assumption);(case h1=>walk_at "has");(case h2=>walk_at "has");(case s1=>walk_at "szq");(case s2=>walk_at "szq");(case l=>decide);(case d=>walk_at "dom");intro r H' e S)
 |((with_reducible refine' zds ?S ?h1 ?h2 ?s1 ?s2 ?l ?k);(case S=>assumption);(case h1=>walk_at "has");(case h2=>walk_at "has");(case s1=>walk_at "szq");(case s2=>walk_at "szq");(case l=>decide))
 |((with_reducible refine' zrW ?S ?h ?k);(case S=>assumption);(case h=>omega))
 |((with_reducible refine' zrT ?h ?k);(case h=>omega))
 |((with_reducible refine' zqJ ?h ?e ?k);(case h=>assumption);(case e=>first|exact zqS|exact kit_tl|exact kit_lt|exact kit_ll|exact kit_it|exact kit_il|exact zqU|exact zqT))
 |with_reducible refine' rd_sl ?_|with_reducible refine' zmX ?_|with_reducible refine' zru ?_|with_reducible refine' zpd ?_
 |with_reducible refine' rd_iRv ?_
 |with_reducible refine' zrn ?_|with_reducible refine' zrQ ?_|with_reducible refine' rd_mix ?_
 |((with_reducible refine' zrp ?S ?h ?k);(case S=>assumption);(case h=>walk_at "has"))
 |((with_reducible refine' zrq ?S ?h ?k);(case S=>assumption);(case h=>walk_at "mem")))
def zoX (K:PySem.W.Frag):Sp:=λvs H Q _=>∃(a:Addr) (ns:List Int),vs=[.ref a]/\SqL K H a (ns.map V.int)/\ns.length<=63/\Only H/\∀H',Q (.bl true) H'
theorem zaR {P:Program} {w:World} {K:PySem.W.Frag} {mg:Str->Option Value} {base:Heap} {f:Addr} {fd:FuncData} {k:Nat} {x:Str} {st:Stmt} {ps:List Str} {sp:Sp} (F:Fun K x x st f fd) (G:FnOk P w K mg base CX0 k f fd ps sp) (hm:mg x=some (.ref f)) (b:Zg K fd ps []):Cal P w K mg base CX0 k x ps sp:=⟨f,fd,G,hm,F.kp,b⟩
section
variable {P:Program} {w:World} {K:PySem.W.Frag} {mg:Str->Option Value} {base:Heap} {f:Addr} {fd:FuncData}
local macro_rules|`(tactic|walk_at "rd")=>`(tactic|first
 |((with_reducible refine' zrL ?S ?h ?i ?k);(case S=>assumption);(case h=>walk_at "has");(case i=>exact rfl))
 |((with_reducible refine' rd_strI ?z ?k);(case z=>assumption))|with_reducible refine' rd_rev ?_
 |((with_reducible refine' zqJ ?h ?e ?k ?nd);(case h=>assumption);(case nd=>exact rfl);(case e=>first|exact zqS|exact kit_tl|exact kit_lt|exact kit_ll|exact kit_it|exact kit_il|exact zqU|exact zqT|exact kit_st|exact kit_sl|exact kit_sb|exact kit_si|exact kit_ss))
 |with_reducible refine' rd_jCons ?_|with_reducible refine' rd_fmt ?_|with_reducible refine' zqK ?_|with_reducible refine' zpb ?_|with_reducible refine' zrD ?_|with_reducible refine' rd_kBMs ?_|with_reducible refine' rd_addSI ?_|with_reducible refine' rd_eqS ?_|with_reducible refine' rd_neS ?_
 |((with_reducible refine' rd_kJ ?l ?k);(case l=>first|assumption|omega|(simp only [str_len];omega)|(simp only [str_len] at*;omega)))
 |((with_reducible refine' rd_jNil ?l ?k);(case l=>first|assumption|omega|(simp only [str_len];omega)|(simp only [str_len] at*;omega)))
 |((with_reducible refine' rd_kFmtS ?l ?k);(case l=>first|assumption|omega|(simp only [str_len];omega)|(simp only [str_len] at*;omega)))
 |((with_reducible refine' rd_kFmtI ?l ?k);(case l=>assumption))
 |((with_reducible refine' rd_addS ?l ?k);(case l=>first|assumption|omega|(simp only [str_len];omega)|(simp only [str_len] at*;omega))))
def top (i:Nat):Stmt:=PySem.Challenge.pw_shortpurse_k26_ranks_and_groups.main.body.getD i (.Pass ⟨0,0,0,0⟩)
abbrev ZZ:Stmt:=top 20
theorem Zc:FnScope ["one","two","rest"] pf (zB ZZ):=⟨rfl,rfl,rfl,by decide+kernel,rfl,by decide+kernel,by decide+kernel⟩
abbrev zgi:Stmt:=top 19
theorem zdj:FnScope ["top","bottom","divisor"] pae (zB zgi):=⟨rfl,rfl,rfl,by decide+kernel,rfl,by decide+kernel,by decide+kernel⟩
def spGcd:Sp:=λvs H Q _=>∃a b:Int,vs=[.int a, .int b]/\0<=a/\0<=b/\Q (.int (Int.gcd a b:Nat)) H
theorem ok_gcd (F:Fun K "greatest_divisor" "greatest_divisor" ZZ f fd):FnOk P w K mg base CX0 1 f fd pf spGcd:=by
 refine F.ok Zc (λvs H Q E h=>?_) (λcdv A outer s H vs Q E hr h=>?_)
 ·obtain ⟨a,b,rfl,_⟩:=h;rfl
 obtain ⟨a,b,rfl,ha,hb,q⟩:=h;refine ⟨_,(zm (zcM qe (zK (zdH (zJ hr)) (pv 1) zA (zV _)) (zm (Zm 2 Zc.nd (zM WV (pv 0) (pv 1))) (zm (Zm 0 Zc.nd (pv 1)) (zu (Zm 1 Zc.nd (pv 2)))))) (zu (zG (pv 0)))),zC ?_⟩;refine ziC (λm σ H2=>∃(x y:Int) (v:Option V),σ=[some (.int x),some (.int y),v]/\0<=x/\0<=y/\Int.gcd x y=Int.gcd a b/\H2=H/\m=y.toNat) _ ⟨a,b,none,rfl,ha,hb,rfl,rfl,rfl⟩ ?_
 rintro m σ H2 ⟨x,y,v,rfl,hx,hy,hg,rfl,rfl⟩
 walk_at "walk";refine zmQ (λc=>?_) (λc=>?_)
 ·have c:y≠0:=by simpa using c
  walk_at "walk";have e:x.fmod y=x % y:=qk x hy;have l1:=wy x c;have l2:=qZ x (show 0<y by omega);refine ⟨(x.fmod y).toNat,by rw [e];omega,y,x.fmod y,_,rfl,hy,by rw [e];exact l1,?_,rfl,rfl⟩;rw [e,zkA,hg]
 ·have c:y=0:=by simpa using c
  subst c;walk_at "walk";have e:x=((Int.gcd a b:Nat):Int):=by rw [<-hg,Int.gcd_zero];omega
  show Q (.int x) H2;rw [e];exact q
theorem znv (B:Bl mg) (za1:Cal P w K mg base CX0 1 "greatest_divisor" pf spGcd) (F:Fun K "lowest" "lowest" zgi f fd):FnOk P w K mg base CX0 2 f fd pae VZ:=by
 refine F.ok zdj (λvs H Q E h=>?_) (λcdv A outer s H vs Q E hr h=>?_)
 ·obtain ⟨G,a,_,h,_⟩:=h;rw [<-h.len];rfl
 obtain ⟨G,⟨a,b⟩,eG,hA,⟨hb,sb⟩,k⟩:=h;cases (xz (ns:=[a,b]) hA);have S:Sta H G H [] []:=Sta.enter eG λp hp=>absurd hp jp;dsimp only at hb sb k;refine ⟨_,(zm (Zm 2 zdj.nd (pcl za1 hr (zg (zR zd3 rfl B.abs zor (zg (pv 0) zk)) (zg (zR zd3 rfl B.abs zor (zg (pv 1) zk)) zk)))) (zm (yO (zK zdI (pv 1) zA (zV _)) (zu (Zm 2 zdj.nd (zr6 zmo (pv 2)))) zU) (zu (zG (yA (zg (zM WW (pv 0) (pv 2)) (zg (zM WW (pv 1) (pv 2)) zk))))))),zC ?_⟩;walk_at "walk";refine ⟨_,_,rfl,by omega,by omega,?_⟩;rw [show Int.gcd (a.natAbs:Int) (b.natAbs:Int)=Int.gcd a b by simp;rfl];have gp:0<Int.gcd a b:=Jx a hb
 have gs:Sz 8999 (Int.gcd a b:Nat):=by
  refine Sz.le sb ?_;have:=Nat.le_of_dvd (by omega) (JU a b);omega
 walk_at "walk";refine XL (λc=>?_) (λc=>?_)
 ·have hc:CDv a (-((Int.gcd a b:Nat):Int)):=⟨by omega,gs.le (by omega)⟩;walk_at "walk";refine Yb (by assumption) k (.mem ?_);rw [show frD (Rat.divInt a b)= .tuple [.int (a.fdiv (-((Int.gcd a b:Nat):Int))), .int (b.fdiv (-((Int.gcd a b:Nat):Int)))] by unfold frD;rw [<-(znN c).1,<-(znN c).2]];walk_at "mem"
 ·have hc:CDv a ((Int.gcd a b:Nat):Int):=⟨by omega,gs⟩;walk_at "walk";refine Yb (by assumption) k (.mem ?_);rw [show frD (Rat.divInt a b)= .tuple [.int (a.fdiv ((Int.gcd a b:Nat):Int)), .int (b.fdiv ((Int.gcd a b:Nat):Int))] by unfold frD;rw [<-(zbB (show 0<b by omega)).1,<-(zbB (show 0<b by omega)).2]];walk_at "mem"
abbrev zmM:Stmt:=top 14
theorem zri:FnScope pf pf (zB zmM):=⟨rfl,rfl,rfl,by decide+kernel,rfl,by decide+kernel,by decide+kernel⟩
theorem zsa (ZK:Cal P w K mg base CX0 2 "lowest" pae VZ) (F:Fun K "plus" "plus" zmM f fd):FnOk P w K mg base CX0 3 f fd pf zj4:=by
 refine F.ok zri (λvs H Q E h=>?_) (λcdv A outer s H vs Q E hr h=>?_)
 ·obtain ⟨G,a,_,h,_⟩:=h;rw [<-h.len];rfl
 obtain ⟨G,⟨p,q⟩,eG,hA,⟨⟨m,n,hp,hq,hmn⟩,_⟩,k⟩:=h;obtain ⟨v,w',rfl,al⟩:=Zv hA;have S:Sta H G H [] _:=Sta.enter eG al;dsimp only at hp hq k S;have o1:IntMulOk p.num (q.den:Int):=hp.1.mulOk hq.2 (by omega);have o2:IntMulOk q.num (p.den:Int):=hq.1.mulOk hp.2 (by omega);have o3:IntMulOk (p.den:Int) (q.den:Int):=hp.2.mulOk hq.2 (by omega);have o4:IntMulOk p.num q.num:=hp.1.mulOk hq.1 (by omega);refine ⟨_,(zu (zG (pcl ZK hr (zg (zM xo (zM yn (pix 0) (pix 1)) (zM yn (pix 1) (pix 0))) (zg (zM yn (pix 0) (pix 1)) zk))))),zC ?_⟩;walk_at "walk";refine zaC (by assumption) (Zk p q) ((hp.2.mul hq.2).mono hmn) λr H' e S=>?_;rw [zoy] at S;exact Yb S k (by walk_at "m")
abbrev ziU:Stmt:=top 15
theorem zo4:FnScope pf pf (zB ziU):=⟨rfl,rfl,rfl,by decide+kernel,rfl,by decide+kernel,by decide+kernel⟩
theorem zpx (ZK:Cal P w K mg base CX0 2 "lowest" pae VZ) (F:Fun K "minus" "minus" ziU f fd):FnOk P w K mg base CX0 3 f fd pf zbd:=by
 refine F.ok zo4 (λvs H Q E h=>?_) (λcdv A outer s H vs Q E hr h=>?_)
 ·obtain ⟨G,a,_,h,_⟩:=h;rw [<-h.len];rfl
 obtain ⟨G,⟨p,q⟩,eG,hA,⟨⟨m,n,hp,hq,hmn⟩,_⟩,k⟩:=h;obtain ⟨v,w',rfl,al⟩:=Zv hA;have S:Sta H G H [] _:=Sta.enter eG al;dsimp only at hp hq k S;have o1:IntMulOk p.num (q.den:Int):=hp.1.mulOk hq.2 (by omega);have o2:IntMulOk q.num (p.den:Int):=hq.1.mulOk hp.2 (by omega);have o3:IntMulOk (p.den:Int) (q.den:Int):=hp.2.mulOk hq.2 (by omega);have o4:IntMulOk p.num q.num:=hp.1.mulOk hq.1 (by omega);refine ⟨_,(zu (zG (pcl ZK hr (zg (zM VM (zM yn (pix 0) (pix 1)) (zM yn (pix 1) (pix 0))) (zg (zM yn (pix 0) (pix 1)) zk))))),zC ?_⟩;walk_at "walk";refine zaC (by assumption) (Zk p q) ((hp.2.mul hq.2).mono hmn) λr H' e S=>?_;rw [zmv] at S;exact Yb S k (by walk_at "m")
abbrev ziT:Stmt:=top 16
theorem zo3:FnScope pf pf (zB ziT):=⟨rfl,rfl,rfl,by decide+kernel,rfl,by decide+kernel,by decide+kernel⟩
theorem zpo (ZK:Cal P w K mg base CX0 2 "lowest" pae VZ) (F:Fun K "times" "times" ziT f fd):FnOk P w K mg base CX0 3 f fd pf ziL:=by
 refine F.ok zo3 (λvs H Q E h=>?_) (λcdv A outer s H vs Q E hr h=>?_)
 ·obtain ⟨G,a,_,h,_⟩:=h;rw [<-h.len];rfl
 obtain ⟨G,⟨p,q⟩,eG,hA,⟨⟨m,n,hp,hq,hmn⟩,_⟩,k⟩:=h;obtain ⟨v,w',rfl,al⟩:=Zv hA;have S:Sta H G H [] _:=Sta.enter eG al;dsimp only at hp hq k S;have o1:IntMulOk p.num (q.den:Int):=hp.1.mulOk hq.2 (by omega);have o2:IntMulOk q.num (p.den:Int):=hq.1.mulOk hp.2 (by omega);have o3:IntMulOk (p.den:Int) (q.den:Int):=hp.2.mulOk hq.2 (by omega);have o4:IntMulOk p.num q.num:=hp.1.mulOk hq.1 (by omega);refine ⟨_,(zu (zG (pcl ZK hr (zg (zM yn (pix 0) (pix 1)) (zg (zM yn (pix 0) (pix 1)) zk))))),zC ?_⟩;walk_at "walk";refine zaC (by assumption) (Zk p q) ((hp.2.mul hq.2).mono hmn) λr H' e S=>?_;rw [znF] at S;exact Yb S k (by walk_at "m")
abbrev zmN:Stmt:=top 17
theorem zrj:FnScope pf pf (zB zmN):=⟨rfl,rfl,rfl,by decide+kernel,rfl,by decide+kernel,by decide+kernel⟩
theorem zsb (ZK:Cal P w K mg base CX0 2 "lowest" pae VZ) (F:Fun K "over" "over" zmN f fd):FnOk P w K mg base CX0 3 f fd pf zqG:=by
 refine F.ok zrj (λvs H Q E h=>?_) (λcdv A outer s H vs Q E hr h=>?_)
 ·obtain ⟨G,a,_,h,_⟩:=h;rw [<-h.len];rfl
 obtain ⟨G,⟨p,q⟩,eG,hA,⟨⟨m,n,hp,hq,hmn⟩,h0⟩,k⟩:=h;obtain ⟨v,w',rfl,al⟩:=Zv hA;have S:Sta H G H [] _:=Sta.enter eG al;dsimp only at hp hq k S h0;have o1:IntMulOk p.num (q.den:Int):=hp.1.mulOk hq.2 (by omega);have o2:IntMulOk (p.den:Int) q.num:=hp.2.mulOk hq.1 (by omega);have h1:=zqO h0;refine ⟨_,(zm (yO (zK (yu (zJ hr)) (pix 1) zA (zV _)) (zu zcN) zU) (zu (zG (pcl ZK hr (zg (zM yn (pix 0) (pix 1)) (zg (zM yn (pix 0) (pix 1)) zk)))))),zC ?_⟩;walk_at "walk";refine XL (λc=>absurd c h1) (λ_=>?_);walk_at "walk";refine zaC (by assumption) (Int.mul_ne_zero (Int.ne_of_gt (den_pos p)) h1) ((hp.2.mul hq.1).mono hmn) λr H' e S=>?_;rw [zof p q h0] at S;exact Yb S k (by walk_at "m")
abbrev zgo:Stmt:=top 18
theorem zmK:FnScope pf pf (zB zgo):=⟨rfl,rfl,rfl,by decide+kernel,rfl,by decide+kernel,by decide+kernel⟩
theorem znC (F:Fun K "before" "before" zgo f fd):FnOk P w K mg base CX0 1 f fd pf zcJ:=by
 refine F.ok zmK (λvs H Q E h=>?_) (λcdv A outer s H vs Q E hr h=>?_)
 ·obtain ⟨a,h,_⟩:=h;rw [<-h.len];rfl
 obtain ⟨⟨p,q⟩,hA,⟨m,n,hp,hq,hmn⟩,k⟩:=h;obtain ⟨v,w',rfl,al⟩:=Zv hA;have S:Sta H H H [] _:=Sta.enter (yt.refl _) al;dsimp only at hp hq k S;have o1:IntMulOk p.num (q.den:Int):=hp.1.mulOk hq.2 (by omega);have o2:IntMulOk q.num (p.den:Int):=hq.1.mulOk hp.2 (by omega);refine ⟨_,(zu (zG (zdB zdI (zM yn (pix 0) (pix 1)) (zM yn (pix 1) (pix 0)) (zV _)))),zC ?_⟩;walk_at "walk";rw [show decide (p<q)=decide (p.num*(q.den:Int)<q.num*(p.den:Int)) from decide_eq_decide.mpr (Rat.lt_iff p q)] at k;exact k
abbrev XY:Stmt:=top 35
theorem xP:FnScope ["amounts","amount","low","high","middle"] pan (zB XY):=⟨rfl,rfl,rfl,by decide+kernel,rfl,by decide+kernel,by decide+kernel⟩
theorem zsc (B:Bl mg) (Uu:Cal P w K mg base CX0 1 "before" pf zcJ) (F:Fun K "last_reached" "last_reached" XY f fd):FnOk P w K mg base CX0 2 f fd pan zj5:=by
 refine F.ok xP (λvs H Q E h=>?_) (λcdv A outer s H vs Q E hr h=>?_)
 ·obtain ⟨qs,e,n,h,_⟩:=h;rw [<-h.len];rfl
 obtain ⟨qs,e,n,hA,⟨hq0,hq1,zq,ze,hn,hfst⟩,k⟩:=h;obtain ⟨va,ve,rfl,al⟩:=Zv hA;have S:Sta H H H [] [(.list (qs.map frD),va),(frD e,ve)]:=Sta.enter (yt.refl _) al;have h2n:n+n<=100000000:=by omega
 refine ⟨_,(zm (Zm 2 xP.nd zA) (zm (Zm 3 xP.nd (zR yB rfl B.len ZG (zg (pv 0) zk))) (zm (zcM qe (zK zi3 (zM VM (pv 3) (pv 2)) zA (zV _)) (zm (Zm 4 xP.nd (zM WX (zM xo (pv 2) (pv 3)) zA)) (zu (yO (Wo (pcl Uu hr (zg (pv 1) (zg (xE yx (pv 0) (pv 4) (λ_ _=>rfl)) zk)))) (zu (Zm 3 xP.nd (pv 4))) (zu (Zm 2 xP.nd (pv 4))))))) (zu (zG (pv 2)))))),zC ?_⟩;walk_at "walk"
 refine ziC (λm σ H2=>∃(low high:Nat) (x4:Option V) (q:Rat),σ=[some va,some ve,some (.int (low:Nat)),some (.int (high:Nat)),x4]/\H2=H/\low<high/\high<=qs.length/\qs[low]? =some q/\q<=e/\(high=qs.length\/∃r,qs[high]? =some r/\e<r)/\m=high - low) (qs.length - 0) ⟨0,qs.length,none,qs[0],by
  rw [ja];rfl,rfl,hq0,jy _,jb hq0,hfst _ (jb hq0), .inl rfl,rfl⟩ ?_
 rintro m σ H2 ⟨low,high,x4,q,rfl,rfl,hlh,hhn,hq,hqe,hhi,rfl⟩
 walk_at "walk";refine zmQ (λc=>?_) (λc=>?_)
 ·have c:1<(high:Int) - low:=by simpa using c
  have em:((low:Int)+high) / 2=(((low+high) / 2:Nat):Int):=by omega
  have hm1:low<(low+high) / 2:=by omega
  have hm2:(low+high) / 2<high:=by omega
  walk_at "walk";rw [em];generalize (low+high) / 2=mid at*;have hmq:qs[mid]? =some (qs[mid]'(by omega)):=jb _;generalize (qs[mid]'(by omega))=p at*;refine xR (xs:=qs.map frD) (x:=frD p) S (by walk_at "m") (xi (by rw [jh,hmq];rfl)) λwp S2=>?_;have zp:=zq p (jc hmq);refine zds (m:=n) (n:=n) S2 (by walk_at "m") (by walk_at "m") ze zp h2n ?_;walk_at "walk";refine XL (λc1=>?_) (λc1=>?_)
  ·walk_at "walk";exact ⟨mid - low,by omega,low,mid,_,q,rfl,rfl,hm1,by omega,hq,hqe, .inr ⟨p,hmq,c1⟩,rfl⟩
  ·walk_at "walk";exact ⟨high - mid,by omega,mid,high,_,p,rfl,rfl,hm2,hhn,hmq,qh.mp c1,hhi,rfl⟩
 ·have c:¬1<(high:Int) - low:=by simpa using c
  have e1:high=low+1:=by omega
  subst e1;walk_at "walk";exact k low q hq hqe hhi
abbrev Yp:Stmt:=top 31
theorem zap:FnScope pS pS (zB Yp):=⟨rfl,rfl,rfl,by decide+kernel,rfl,by decide+kernel,by decide+kernel⟩
theorem zlq (ZA:Cal P w K mg base CX0 3 "minus" pf zbd) (zoD:Cal P w K mg base CX0 3 "over" pf zqG) (F:Fun K "portion_reached" "portion_reached" Yp f fd):FnOk P w K mg base CX0 4 f fd pS zal:=by
 refine F.ok zap (λvs H Q E h=>?_) (λcdv A outer s H vs Q E hr h=>?_)
 ·obtain ⟨G,a,_,h,_⟩:=h;rw [<-h.len];rfl
 obtain ⟨G,⟨s',e',x⟩,eG,hA,⟨⟨m,n,z1,z2,z3,hz⟩,hne⟩,k⟩:=h;obtain ⟨v1,v2,v3,rfl,al⟩:=YY hA;have S:Sta H G H [] _:=Sta.enter eG al;dsimp only at z1 z2 z3 hne k S;refine ⟨_,(zu (zG (pcl zoD hr (zg (pcl ZA hr (zg (pv 2) (zg (pv 0) zk))) (zg (pcl ZA hr (zg (pv 1) (zg (pv 0) zk))) zk))))),zC ?_⟩;walk_at "walk";refine zhN S (by walk_at "m") (by walk_at "m") z3 z1 (by omega) True.intro λr1 H1 e1 S1=>?_;walk_at "walk";refine zhN S1 (by walk_at "m") (by walk_at "m") z2 z1 (by omega) True.intro λr2 H2 e2 S2=>?_;walk_at "walk";refine zhN S2 (by walk_at "m") (by walk_at "m") (z3.sub z1) (z2.sub z1) (by omega) (λz=>hne (by grind)) λr3 H3 e3 S3=>?_;exact Yb S3 k (by walk_at "m")
abbrev US:Stmt:=top 32
theorem zhC:FnScope pQ pQ (zB US):=⟨rfl,rfl,rfl,by decide+kernel,rfl,by decide+kernel,by decide+kernel⟩
theorem znD (za0:Cal P w K mg base CX0 3 "plus" pf zj4) (ZA:Cal P w K mg base CX0 3 "minus" pf zbd) (zab:Cal P w K mg base CX0 3 "times" pf ziL) (F:Fun K "amount_at" "amount_at" US f fd):FnOk P w K mg base CX0 4 f fd pQ zcK:=by
 refine F.ok zhC (λvs H Q E h=>?_) (λcdv A outer s H vs Q E hr h=>?_)
 ·obtain ⟨G,a,_,h,_⟩:=h;rw [<-h.len];rfl
 obtain ⟨G,⟨s',e',t⟩,eG,hA,⟨m,n,z1,z2,z3,hz⟩,k⟩:=h;obtain ⟨v1,v2,v3,rfl,al⟩:=YY hA;have S:Sta H G H [] _:=Sta.enter eG al;dsimp only at z1 z2 z3 k S;refine ⟨_,(zu (zG (pcl za0 hr (zg (pv 0) (zg (pcl zab hr (zg (pv 2) (zg (pcl ZA hr (zg (pv 1) (zg (pv 0) zk))) zk))) zk))))),zC ?_⟩;walk_at "walk";refine zhN S (by walk_at "m") (by walk_at "m") z2 z1 (by omega) True.intro λr1 H1 e1 S1=>?_;walk_at "walk";refine zhN S1 (by walk_at "m") (by walk_at "m") z3 (z2.sub z1) (by omega) True.intro λr2 H2 e2 S2=>?_;walk_at "walk";refine zhN S2 (by walk_at "m") (by walk_at "m") z1 (z3.mul (z2.sub z1)) (by omega) True.intro λr3 H3 e3 S3=>?_;exact Yb S3 k (by walk_at "m")
abbrev Xp:Stmt:=top 30
theorem Ve:FnScope ["start","end","purse","portion"] pas (zB Xp):=⟨rfl,rfl,rfl,by decide+kernel,rfl,by decide+kernel,by decide+kernel⟩
theorem zlx (B:Bl mg) (YF:Cal P w K mg base CX0 4 "portion_reached" pS zal) (zad:Cal P w K mg base CX0 4 "amount_at" pQ zcK) (F:Fun K "parts_between" "parts_between" Xp f fd):FnOk P w K mg base CX0 5 f fd pas zde:=by
 refine F.ok Ve (λvs H Q E h=>?_) (λcdv A outer s H vs Q E hr h=>?_)
 ·obtain ⟨G,a,_,h,_⟩:=h;rw [<-h.len];rfl
 obtain ⟨G,⟨c,d,e⟩,eG,hA,⟨⟨m,n,z1,z2,z3,hz⟩,hlt,hl⟩,k⟩:=h;obtain ⟨v1,v2,v3,rfl,al⟩:=YY hA;have S:Sta H G H [] _:=Sta.enter eG al;dsimp only at z1 z2 z3 hlt hl k S;refine ⟨_,(zm (Zm 3 Ve.nd (pcl YF hr (zg (pix 0) (zg (pix 1) (zg (pv 2) zk))))) (zu (zG (YL ZO rfl B.tuple Xe (zg (yq (N:=["one","two","portion"]) (n:=2) (fr:=[3]) rfl ⟨rfl,by decide+kernel,rfl,by decide,rfl,rfl,rfl,rfl,rfl⟩ (UA false false rfl B.zip (zg (pix 0) (zg (pix 1) zk))) (λ_ _ _ _=>(YX rfl (yi (xM 0 (show (["one","two","portion"]:List Str).Nodup from by decide+kernel)) (yi (xM 1 (show (["one","two","portion"]:List Str).Nodup from by decide+kernel)) Zz)))) (λ_ _ _ _=>yd) (λ_ _ _ _=>(pcl zad hr (zg (pv 0) (zg (pv 1) (zg (pv 2) zk)))))) zk))))),zC ?_⟩;walk_at "walk";rename_i w1 S1 w2 S2;refine zfj S2 (by walk_at "m") (by walk_at "m") (by walk_at "m") z1.1 z2.1 z3 (by omega) (λz=>by rw [z] at hlt;exact wQ hlt) λr3 H3 e3 S3=>?_;have zt:SzQ (m+3*n+2) ((e - c.1) / (d.1 - c.1)):=((z3.sub z1.1).div (z2.1.sub z1.1)).mono (by omega);walk_at "walk";rename_i w4 S4 w5 S5;unfold WH at k;generalize (e - c.1) / (d.1 - c.1)=t at*;refine zgs (xs:=c.2.map frD) (ys:=d.2.map frD) S5 (by walk_at "m") (by walk_at "m") λJ wk=>?_;refine zS wk (λj=>frD ((List.zipWith (ZE t) c.2 d.2).getD j 0)) (ys:=(List.zipWith (ZE t) c.2 d.2).map frD) ?_ S5 (λ_ _=>⟨.mem (by walk_at "mem"),λ_ _ h=>h.tail, .mem (by walk_at "mem")⟩) (by rw [xL,ja,ja];omega) (λj x v B' G' Kd Kn hx t1 S hd C ex s0 H0=>?_) λD H1 e1 S1=>?_
 ·rw [xL,ja,ja,show min c.2.length d.2.length=(List.zipWith (ZE t) c.2 d.2).length by rw [jA]];exact zE frD 0 _
 ·obtain ⟨x1,x2,h1,h2,rfl⟩:=Xn hx;obtain ⟨n1,hn1,rfl⟩:=zZ h1;obtain ⟨n2,hn2,rfl⟩:=zZ h2;refine Zp (Zo S (by walk_at "m") λw1 w2 S=>?_);refine xu (zN (xu (zN (Wb ⟨rfl,?_⟩))));walk_at "walk";refine zhQ S (by walk_at "m") (by walk_at "m") (by walk_at "m") (z1.2 n1 (jc hn1)) (z2.2 n2 (jc hn2)) zt (by omega) λr6 H6 e6 S6=>?_;refine hd S6 ?_;rw [zQ (n:=ZE t n1 n2) (by rw [jt,hn1,hn2])];exact .mem (by walk_at "mem")
 walk_at "walk";exact Yb (by assumption) k (by walk_at "m")
abbrev zbk:Stmt:=top 23
theorem zdi:FnScope ["path","purse","place"] ["path","purse"] (zB zbk):=⟨rfl,rfl,rfl,by decide+kernel,rfl,by decide+kernel,by decide+kernel⟩
theorem zls (B:Bl mg) (Wg:Cal P w K mg base CX0 2 "last_reached" pan zj5) (zet:Cal P w K mg base CX0 5 "parts_between" pas zde) (F:Fun K "parts_at" "parts_at" zbk f fd):FnOk P w K mg base CX0 6 f fd ["path","purse"] zam:=by
 refine F.ok zdi (λvs H Q E h=>?_) (λcdv A outer s H vs Q E hr h=>?_)
 ·obtain ⟨G,a,_,h,_⟩:=h;rw [<-h.len];rfl
 obtain ⟨G,⟨a,e⟩,eG,hA,⟨m,n,ok,ze,hz,h0⟩,k⟩:=h;obtain ⟨v1,v2,rfl,al⟩:=Zv hA;have S:Sta H G H [] _:=Sta.enter eG al;dsimp only at ok ze h0 k S;have few:=ok.few
 have hn0:¬e.num<0:=by
  have:=Rat.num_nonneg.mpr h0;omega
 have la:0<a.length:=wZ.mpr ok.ne;refine ⟨_,(zm (yO (zK zdI (pix 1) zA (zV _)) (zu zcN) zU) (zm (Zm 2 zdi.nd (pcl Wg hr (zg (yq (N:=["corner"]) (n:=1) (fr:=[]) rfl ⟨rfl,by decide+kernel,rfl,by decide,rfl,rfl,rfl,rfl,rfl⟩ (ye (pv 0)) (λ_ _ _ _=>(xM 0 (show (["corner"]:List Str).Nodup from by decide+kernel))) (λ_ _ _ _=>yd) (λ_ _ _ _=>(pix 0))) (zg (pv 1) zk)))) (zm (yO (zK (yu (zJ hr)) (pv 2) (zM VM (zR yB rfl B.len ZG (zg (pv 0) zk)) zA) (zV _)) (zu (zG (xE yx (xE yx (pv 0) (pv 2) (λ_ _=>rfl)) zA (λ_ _=>rfl)))) zU) (zu (zG (pcl zet hr (zg (xE yx (pv 0) (pv 2) (λ_ _=>rfl)) (zg (xE yx (pv 0) (zM xo (pv 2) zA) (λ_ _=>rfl)) (zg (pv 1) zk))))))))),zC ?_⟩;walk_at "walk";refine XL (λc=>absurd c hn0) (λ_=>?_);walk_at "walk";refine yf (xs:=a.map ya) S (by walk_at "m") λJ wk=>?_;refine zS wk (λj=>frD ((λc:zh=>c.1) (a.getD j (0,[])))) (ys:=(a.map λc=>c.1).map frD) (by rw [ja,js];exact zE (λc:zh=>frD c.1) (0,[]) a) S (λ_ _=> .mem (by walk_at "mem")) (by rw [ja];omega) (λj x v B' G' Kd Kn hx t1 S hd C ex s0 H0=>?_) λD H1 e1 S1=>?_
 ·obtain ⟨c,hc,rfl⟩:=zZ hx;refine zN ⟨rfl,?_⟩;walk_at "walk";refine hd (by assumption) ?_;rw [zQ hc];exact .mem (by walk_at "mem")
 walk_at "walk";refine zm0 (qs:=a.map λc=>c.1) (e:=e) (n:=9000) S1 (S1.hpC (by walk_at "mem")) (S1.hp (by walk_at "m")) ⟨by rw [ja];exact la,by rw [ja];omega,λq hq=>?_,ze.mono (by omega),by decide,λq hq=>?_⟩ λi q hi hqe hnx=>?_
 ·obtain ⟨c,hc,rfl⟩:=jk.mp hq;exact (ok.sz c hc).1.mono (by omega)
 ·obtain ⟨c,hc,rfl⟩:=zZ hq;rw [ok.zero c hc];exact h0
 obtain ⟨c,hc,rfl⟩:=zZ hi;have hil:i<a.length:=(je.mp hc).1
 have key:=Yd (E:=e) ok.rise hc hqe (by
  rcases hnx with h|⟨r,hr',h⟩
  ·left;simpa using h
  ·obtain ⟨d,hd,rfl⟩:=zZ hr'
   exact .inr ⟨d,hd,h⟩)
 walk_at "walk";refine XL (λc1=>?_) (λc1=>?_)
 ·rw [ja] at c1;rw [jE (show a.length<=i+1 by omega)] at key;walk_at "walk";refine xR (xs:=a.map ya) (x:=ya c) S1 (by walk_at "m") (xi (by rw [jh,hc];rfl)) λwc S2=>?_;walk_at "walk";rw [key] at k;exact Yb (by assumption) k (by walk_at "m")
 ·rw [ja] at c1;have hlt:i+1<a.length:=by omega
  have hd:=jb hlt;have hr':=ok.rise;unfold yU at hr';rw [jN] at hr';have hcd:=hr' i (i+1) hil hlt (by omega);rw [List.getElem_eq_iff hil|>.mpr hc] at hcd;generalize a[i+1]=d at*;rw [hd] at key;walk_at "walk";refine xR (xs:=a.map ya) (x:=ya c) S1 (by walk_at "m") (xi (by rw [jh,hc];rfl)) λwc S2=>?_;walk_at "walk";refine xR (xs:=a.map ya) (x:=ya d) S2 (by walk_at "m") (by rw [show ((i:Nat):Int)+1=((i+1:Nat):Int) by omega];exact xi (by rw [jh,hd];rfl)) λwd S3=>?_;walk_at "walk";refine zlk S3 (by walk_at "m") (by walk_at "m") (by walk_at "m") (ok.sz c (jc hc)) (ok.sz d (jc hd)) ze hz hcd (ok.len c (jc hc)) λr4 H4 e4 S4=>?_;rw [key] at k;exact Yb S4 k (by walk_at "m")
local macro_rules|`(tactic|walk_at "rd")=>`(tactic|((with_reducible refine' rd_gap ?S ?h1 ?h2 ?s1 ?s2 ?k);(case S=>assumption);(case h1=>walk_at "has");(case h2=>walk_at "has");(case s1=>assumption);(case s2=>assumption);intro r H' e S))
abbrev zrk:Stmt:=top 29
theorem sc_gap:FnScope pf pf (zB zrk):=⟨rfl,rfl,rfl,by decide+kernel,rfl,by decide+kernel,by decide+kernel⟩
abbrev WN:Stmt:=top 28
theorem xK:FnScope ["ahead","corner","following","near","far","place","start","rise","whole"] pac (zB WN):=⟨rfl,rfl,rfl,by decide+kernel,rfl,by decide+kernel,by decide+kernel⟩
abbrev zdo:Stmt:=top 22
theorem zfg:FnScope ["corners","last"] ["corners"] (zB zdo):=⟨rfl,rfl,rfl,by decide+kernel,rfl,by decide+kernel,by decide+kernel⟩
theorem ok_gap (F:Fun K "gap" "gap" zrk f fd):FnOk P w K mg base CX0 1 f fd pf zrf:=by
 refine F.ok sc_gap (λvs H Q E h=>?_) (λcdv A outer s H vs Q E hr h=>?_)
 ·obtain ⟨G,a,_,h,_⟩:=h;rw [<-h.len];rfl
 obtain ⟨G,⟨p,q⟩,eG,hA,⟨hp,hq⟩,k⟩:=h;obtain ⟨v,w',rfl,al⟩:=Zv hA;have S:Sta H G H [] _:=Sta.enter eG al;dsimp only at hp hq k S;have o1:IntMulOk q.num (p.den:Int):=hq.1.mulOk hp.2 (by decide);have o2:IntMulOk p.num (q.den:Int):=hp.1.mulOk hq.2 (by decide);have o3:IntMulOk (p.den:Int) (q.den:Int):=hp.2.mulOk hq.2 (by decide);refine ⟨_,(zu (zG (yA (zg (zM VM (zM yn (pix 1) (pix 0)) (zM yn (pix 0) (pix 1))) (zg (zM yn (pix 0) (pix 1)) zk))))),zC ?_⟩;walk_at "walk";exact Yb (by assumption) k (by walk_at "m")
theorem zi4 (B:Bl mg) (zl9:Cal P w K mg base CX0 1 "gap" pf zrf) (F:Fun K "is_straight" "is_straight" WN f fd):FnOk P w K mg base CX0 2 f fd pac zrb:=by
 refine F.ok xK (λvs H Q E h=>?_) (λcdv A outer s H vs Q E hr h=>?_)
 ·obtain ⟨a,h,_⟩:=h;rw [<-h.len];rfl
 obtain ⟨⟨a,b,c⟩,hA,⟨sa,sb,sc,l1,l2,l3⟩,k⟩:=h;obtain ⟨va,vb,vc,rfl,al⟩:=YY hA;have S:Sta H H H [] _:=Sta.enter (yt.refl _) al;dsimp only at sa sb sc l1 l2 l3 k S;have za:=sa.1;have zb:=sb.1;have zc:=sc.1;have zn:=zkB za zb;have zf:=zkB za zc;refine ⟨_,(zm (Zm 3 xK.nd (pcl zl9 hr (zg (pix 0) (zg (pix 1) zk)))) (zm (Zm 4 xK.nd (pcl zl9 hr (zg (pix 0) (zg (pix 2) zk)))) (zm (Xw qe rfl (zdA false rfl B.enumerate (zg (pix 0) zk)) (YX rfl (yi (xM 5 xK.nd) (yi (xM 6 xK.nd) Zz))) (zm (Zm 7 xK.nd (pcl zl9 hr (zg (pv 6) (zg (xE yx (pix 1) (pv 5) (λ_ _=>rfl)) zk)))) (zm (Zm 8 xK.nd (pcl zl9 hr (zg (pv 6) (zg (xE yx (pix 2) (pv 5) (λ_ _=>rfl)) zk)))) (zu (yO (zK (zdH (zJ hr)) (zM yn (zM yn (zM yn (pix 7) (pix 3)) (pix 8)) (pix 4)) (zM yn (zM yn (zM yn (pix 8) (pix 4)) (pix 7)) (pix 3)) (zV _)) (zu (zG VI)) zU))))) (zu (zG VI))))),zC ?_⟩;walk_at "walk";rename_i w1 _ w2 _ vn H1 e1 S1 w3 _ w4 _ vf H2 e2 S2 w5 S3;refine zrK (xs:=a.2.map frD) S3 (by walk_at "m") λJ wk=>?_;have S4:Sta H H H2 [] [(xr a.2,w5),(zsX a.1 b.1,vn),(zsX a.1 c.1,vf),(ya a,va),(ya b,vb),(ya c,vc)]:=S3.dat (by walk_at "dats")
 refine XC wk (λi σ cs ds=>∃(x5 x6 x7 x8:Option V),σ=[some va,some vb,some vc,some vn,some vf,x5,x6,x7,x8]/\cs=[]/\ds=[(xr a.2,w5),(zsX a.1 b.1,vn),(zsX a.1 c.1,vf),(ya a,va),(ya b,vb),(ya c,vc)]/\
  ∀(j:Nat) (x y z:Rat),j<i->a.2[j]? =some x->b.2[j]? =some y->c.2[j]? =some z->(y - x)*(c.1 - a.1)=(z - x)*(b.1 - a.1)) S4 ⟨none,none,none,none,rfl,rfl,rfl,λj x y z hj=>absurd hj (Nat.not_lt_zero _)⟩ (λi σ cs ds h=>?_) ?_ ?_
 ·obtain ⟨_,_,_,_,_,_,rfl,_⟩:=h;exact .mem (by walk_at "mem")
 ·rintro i x u σ H5 cs ds hx ⟨x5,x6,x7,x8,rfl,rfl,rfl,inv⟩ S5
  obtain ⟨x0,hx0,rfl⟩:=Uj hx;obtain ⟨p,hp,rfl⟩:=zZ hx0;have hi:i<a.2.length:=(je.mp hp).1;have hqb:b.2[i]? =some (b.2[i]'(by omega)):=jb _;have hqc:c.2[i]? =some (c.2[i]'(by omega)):=jb _;generalize (b.2[i]'(by omega))=q at*;generalize (c.2[i]'(by omega))=r at*;have zp:SzQ 2000 p:=sa.2 p (jc hp);have zq:SzQ 2000 q:=sb.2 q (jc hqb);have zr:SzQ 2000 r:=sc.2 r (jc hqc);have zx:=zkB zp zq;have zw:=zkB zp zr;have ib:atI (b.2.map frD) ((i:Nat):Int)=some (frD q):=xi (by rw [jh,hqb];rfl);have ic:atI (c.2.map frD) ((i:Nat):Int)=some (frD r):=xi (by rw [jh,hqc];rfl);refine Zp (Zo S5 (by walk_at "m") λu1 u2 S6=>?_);cases S6.int1;walk_at "walk";rename_i u3 S7;refine zfm (xs:=b.2.map frD) S7 (by walk_at "m") ib λu4 S8=>?_;walk_at "walk";rename_i vr H9 e9 S9 u5 S10;refine zfm (xs:=c.2.map frD) S10 (by walk_at "m") ic λu6 S11=>?_;have m1:=zx.1.mul zn.2;have m2:=m1.mul zw.2;have m3:=zw.1.mul zf.2;have m4:=m3.mul zx.2;have o1:=zx.1.mulOk zn.2 (by decide);have o2:=m1.mulOk zw.2 (by decide);have o3:=m2.mulOk zf.1 (by decide);have o4:=zw.1.mulOk zf.2 (by decide);have o5:=m3.mulOk zx.2 (by decide);have o6:=m4.mulOk zn.1 (by decide);walk_at "walk"
  have cr:=zol (rn:=q.num*(p.den:Int) - p.num*(q.den:Int)) (rd:=(p.den:Int)*(q.den:Int)) (nn:=b.1.num*(a.1.den:Int) - a.1.num*(b.1.den:Int)) (nd:=(a.1.den:Int)*(b.1.den:Int))
   (wn:=r.num*(p.den:Int) - p.num*(r.den:Int)) (wd:=(p.den:Int)*(r.den:Int)) (fn:=c.1.num*(a.1.den:Int) - a.1.num*(c.1.den:Int)) (fd:=(a.1.den:Int)*(c.1.den:Int)) (Zk _ _) (Zk _ _) (Zk _ _) (Zk _ _)
  rw [zgN,zgN,zgN,zgN] at cr;refine zqW (λz=>?_) (λz=>?_)
  ·walk_at "walk";have hst:¬yh a b c:=λst=>z (cr.mp (st i _ _ _ hp hqb hqc));rw [show (@decide (yh a b c) (Classical.propDecidable _))=false from @decide_eq_false _ (Classical.propDecidable _) hst] at k;exact ret_B (by assumption) k
  ·walk_at "walk";rename_i vw H12 e12 S12;refine VE (S12.dat (by walk_at "dats")) ⟨_,_,_,_,rfl,rfl,rfl,λj x y z' hj hx1 hy1 hz1=>?_⟩
   by_cases hji:j<i
   ·exact inv j x y z' hji hx1 hy1 hz1
   ·have:j=i:=by omega
    subst this;rw [hp] at hx1;rw [hqb] at hy1;rw [hqc] at hz1;cases hx1;cases hy1;cases hz1;exact cr.mpr z
 ·rintro σ H5 cs ds ⟨x5,x6,x7,x8,rfl,rfl,rfl,inv⟩ S5
  walk_at "walk"
  have hst:yh a b c:=λi x y z hx hy hz=>inv i x y z (by
   have:=(je.mp hx).1
   rw [ZF,ja];exact this) hx hy hz
  rw [show (@decide (yh a b c) (Classical.propDecidable _))=true from @decide_eq_true _ (Classical.propDecidable _) hst] at k;exact ret_B S5 k
theorem zln (B:Bl mg) (zhf:Cal P w K mg base CX0 2 "is_straight" pac zrb) (F:Fun K "thinned" "thinned" zdo f fd):FnOk P w K mg base CX0 3 f fd ["corners"] zc8:=by
 refine F.ok zfg (λvs H Q E h=>?_) (λcdv A outer s H vs Q E hr h=>?_)
 ·obtain ⟨G,a,_,h,_⟩:=h;rw [<-h.len];rfl
 obtain ⟨G,a,eG,hA,⟨m,ok⟩,k⟩:=h;obtain ⟨v0,rfl,al⟩:=Wq hA;have S:Sta H G H [] _:=Sta.enter eG al;have few:=ok.few;refine ⟨_,(zm (Zm 1 zfg.nd (zM VM (zR yB rfl B.len ZG (zg (pv 0) zk)) zA)) (zu (zG (yq (N:=pag) (n:=2) (fr:=[0,1]) rfl ⟨rfl,by decide+kernel,rfl,by decide,rfl,rfl,rfl,rfl,rfl⟩ (zdA true rfl B.enumerate (zg (pv 0) zk)) (λ_ _ _ _=>(YX rfl (yi (xM 0 (show (pag:List Str).Nodup from by decide+kernel)) (yi (xM 1 (show (pag:List Str).Nodup from by decide+kernel)) Zz)))) (λ_ _ _ _=>(zdx (PW.pt (zex (zK (yu (zJ hr)) (pv 0) zA (zV _)) (zex (zK (yu (zJ hr)) (pv 0) (pv 3) (zV _)) (zfo (VG (Wo (pcl zhf hr (zg (xE yx (pv 2) (zM VM (pv 0) zA) (λ_ _=>rfl)) (zg (pv 1) (zg (xE yx (pv 2) (zM xo (pv 0) zA) (λ_ _=>rfl)) zk)))))))))))) (λ_ _ _ _=>(pv 1)))))),zC ?_⟩;walk_at "walk";refine zgt (xs:=a.map ya) S (by walk_at "m") λJ wk=>?_;refine zbK wk (λj=>if XA a j then (a[j]?).map ya else none) S (λ_ _=> .mem (by walk_at "mem")) (by rw [ZF,ja];omega) (λi x v B' G' Kd Kn hx t1 S hd hn C ex s0 H0=>?_) λD H1 e1 S1=>?_
 ·obtain ⟨x0,hx0,rfl⟩:=Uj hx;obtain ⟨c,hc,rfl⟩:=zZ hx0;have hi:i<a.length:=(je.mp hc).1;refine Zp (Zo S (by walk_at "m") λu1 u2 S2=>?_);cases S2.int1;refine xu (zN (xu (zN (Wb ⟨rfl,?_⟩))));rw [hc] at hd hn;have yes:XA a i=true->∀{H5:Hp} {cs':xq} {ds':Dat},Sta B' G' H5 cs' ds'->Has ds' (ya c) u2->Kd u2 H5:=λhk {H5 cs' ds'} S5 h5=>hd (by rw [hk];rfl) S5 h5;have no:XA a i=false->∀{H5:Hp} {cs':xq} {ds':Dat},Sta B' G' H5 cs' ds'->Kn H5:=λhk {H5 cs' ds'} S5=>hn (by rw [hk];rfl) S5;walk_at "walk";refine XL (λc0=>?_) (λc0=>?_)
  ·walk_at "walk";exact yes (Wp (.inl (by omega))) S2 (by walk_at "m")
  ·walk_at "walk";refine XL (λc1=>?_) (λc1=>?_)
   ·walk_at "walk";rw [ja] at c1;exact yes (Wp (.inr (.inl (by omega)))) S2 (by walk_at "m")
   ·rw [ja] at c1;have h0:i - 1<a.length:=by omega
    have h2:i+1<a.length:=by omega
    have g0:=jb h0;have g2:=jb h2;have y0:=qa h0;have y2:=qa h2;generalize a[i - 1]=c0' at*;generalize a[i+1]=c2' at*;have y1:=jc hc;walk_at "walk";refine xR (xs:=a.map ya) (x:=ya c0') S2 (by walk_at "m") (zq1 (by omega) (by rw [show ((i:Int) - 1).toNat=i - 1 by omega,jh,g0];rfl)) λu3 S3=>?_;walk_at "walk";refine xR (xs:=a.map ya) (x:=ya c2') S3 (by walk_at "m") (zq1 (by omega) (by rw [show ((i:Int)+1).toNat=i+1 by omega,jh,g2];rfl)) λu4 S4=>?_;walk_at "walk";refine rd_str S4 (by walk_at "m") (by walk_at "m") (by walk_at "m") (ok.sz _ y0) (ok.sz _ y1) (ok.sz _ y2) (by rw [ok.len _ y1,ok.len _ y0]) (by rw [ok.len _ y2,ok.len _ y0]) (by rw [ok.len _ y0];exact ok.m) λH5 S5=>?_;walk_at "walk";refine @zqW _ _ _ (_) (λz=>?_) (λz=>?_)
    ·walk_at "walk";exact yes (Wp (.inr (.inr λq=>z (q _ _ _ g0 hc g2)))) S5 (by walk_at "m")
    ·refine no ?_ S5;refine zfA ?_
     rintro (q|q|q)
     ·omega
     ·omega
     ·refine q λx y z' hx hy hz=>?_;rw [g0] at hx;rw [hc] at hy;rw [g2] at hz;cases hx;cases hy;cases hz;exact z
 ·walk_at "walk";rw [ZF,ja,zlI] at S1;exact Zy S1 k
abbrev UL:Stmt:=top 33
theorem zhy:FnScope pG pG (zB UL):=⟨rfl,rfl,rfl,by decide+kernel,rfl,by decide+kernel,by decide+kernel⟩
theorem zhU (B:Bl mg) (za0:Cal P w K mg base CX0 3 "plus" pf zj4) (F:Fun K "plus_each" "plus_each" UL f fd):FnOk P w K mg base CX0 4 f fd pG (zhr λp q=>p+q):=by
 refine F.ok zhy (λvs H Q E h=>?_) (λcdv A outer s H vs Q E hr h=>?_)
 ·obtain ⟨G,a,_,h,_⟩:=h;rw [<-h.len];rfl
 obtain ⟨G,⟨p,q⟩,eG,hA,⟨s1,s2,hl⟩,k⟩:=h;obtain ⟨v,w',rfl,al⟩:=Zv hA;have S:Sta H G H [] _:=Sta.enter eG al;dsimp only at s1 s2 hl k S;refine ⟨_,(zu (zG (YL ZO rfl B.tuple Xe (zg (yq (N:=pf) (n:=2) (fr:=[]) rfl ⟨rfl,by decide+kernel,rfl,by decide,rfl,rfl,rfl,rfl,rfl⟩ (UA false false rfl B.zip (zg (pv 0) (zg (pv 1) zk))) (λ_ _ _ _=>(YX rfl (yi (xM 0 (show (pf:List Str).Nodup from by decide+kernel)) (yi (xM 1 (show (pf:List Str).Nodup from by decide+kernel)) Zz)))) (λ_ _ _ _=>yd) (λ_ _ _ _=>(pcl za0 hr (zg (pv 0) (zg (pv 1) zk))))) zk)))),zC ?_⟩;walk_at "walk";refine zgs (xs:=p.map frD) (ys:=q.map frD) S (by walk_at "m") (by walk_at "m") λJ wk=>?_;refine zS wk (λj=>frD ((List.zipWith (λp q=>p+q) p q).getD j 0)) (ys:=(List.zipWith (λp q=>p+q) p q).map frD) ?_ S (λ_ _=>⟨.mem (by walk_at "mem"),λ_ _ h=>h.tail, .mem (by walk_at "mem")⟩) (by rw [xL,ja,ja];omega) (λj x v B' G' Kd Kn hx t1 S hd C ex s0 H0=>?_) λD H1 e1 S1=>?_
 ·rw [xL,ja,ja,show min p.length q.length=(List.zipWith (λp q=>p+q) p q).length by rw [jA]];exact zE frD 0 _
 ·obtain ⟨x1,x2,h1,h2,rfl⟩:=Xn hx;obtain ⟨n1,hn1,rfl⟩:=zZ h1;obtain ⟨n2,hn2,rfl⟩:=zZ h2;have z1:=s1 n1 (jc hn1);have z2:=s2 n2 (jc hn2);refine Zp (Zo S (by walk_at "m") λw1 w2 S=>?_);refine xu (zN (xu (zN (Wb ⟨rfl,?_⟩))));walk_at "walk";rename_i r H2 e2 S2;refine hd S2 ?_;rw [zQ (n:=n1+n2) (by rw [jt,hn1,hn2])];exact .mem (by walk_at "mem")
 walk_at "walk";exact Yb (by assumption) k (by walk_at "m")
abbrev UM:Stmt:=top 34
theorem zhz:FnScope pG pG (zB UM):=⟨rfl,rfl,rfl,by decide+kernel,rfl,by decide+kernel,by decide+kernel⟩
theorem zhV (B:Bl mg) (ZA:Cal P w K mg base CX0 3 "minus" pf zbd) (F:Fun K "less_each" "less_each" UM f fd):FnOk P w K mg base CX0 4 f fd pG (zhr λp q=>p - q):=by
 refine F.ok zhz (λvs H Q E h=>?_) (λcdv A outer s H vs Q E hr h=>?_)
 ·obtain ⟨G,a,_,h,_⟩:=h;rw [<-h.len];rfl
 obtain ⟨G,⟨p,q⟩,eG,hA,⟨s1,s2,hl⟩,k⟩:=h;obtain ⟨v,w',rfl,al⟩:=Zv hA;have S:Sta H G H [] _:=Sta.enter eG al;dsimp only at s1 s2 hl k S;refine ⟨_,(zu (zG (YL ZO rfl B.tuple Xe (zg (yq (N:=pf) (n:=2) (fr:=[]) rfl ⟨rfl,by decide+kernel,rfl,by decide,rfl,rfl,rfl,rfl,rfl⟩ (UA false false rfl B.zip (zg (pv 0) (zg (pv 1) zk))) (λ_ _ _ _=>(YX rfl (yi (xM 0 (show (pf:List Str).Nodup from by decide+kernel)) (yi (xM 1 (show (pf:List Str).Nodup from by decide+kernel)) Zz)))) (λ_ _ _ _=>yd) (λ_ _ _ _=>(pcl ZA hr (zg (pv 0) (zg (pv 1) zk))))) zk)))),zC ?_⟩;walk_at "walk";refine zgs (xs:=p.map frD) (ys:=q.map frD) S (by walk_at "m") (by walk_at "m") λJ wk=>?_;refine zS wk (λj=>frD ((List.zipWith (λp q=>p - q) p q).getD j 0)) (ys:=(List.zipWith (λp q=>p - q) p q).map frD) ?_ S (λ_ _=>⟨.mem (by walk_at "mem"),λ_ _ h=>h.tail, .mem (by walk_at "mem")⟩) (by rw [xL,ja,ja];omega) (λj x v B' G' Kd Kn hx t1 S hd C ex s0 H0=>?_) λD H1 e1 S1=>?_
 ·rw [xL,ja,ja,show min p.length q.length=(List.zipWith (λp q=>p - q) p q).length by rw [jA]];exact zE frD 0 _
 ·obtain ⟨x1,x2,h1,h2,rfl⟩:=Xn hx;obtain ⟨n1,hn1,rfl⟩:=zZ h1;obtain ⟨n2,hn2,rfl⟩:=zZ h2;have z1:=s1 n1 (jc hn1);have z2:=s2 n2 (jc hn2);refine Zp (Zo S (by walk_at "m") λw1 w2 S=>?_);refine xu (zN (xu (zN (Wb ⟨rfl,?_⟩))));walk_at "walk";rename_i r H2 e2 S2;refine hd S2 ?_;rw [zQ (n:=n1 - n2) (by rw [jt,hn1,hn2])];exact .mem (by walk_at "mem")
 walk_at "walk";exact Yb (by assumption) k (by walk_at "m")
abbrev zgc:Stmt:=top 24
theorem zhw:FnScope ["path","end"] ["path"] (zB zgc):=⟨rfl,rfl,rfl,by decide+kernel,rfl,by decide+kernel,by decide+kernel⟩
theorem znm (B:Bl mg) (ZA:Cal P w K mg base CX0 3 "minus" pf zbd) (zjR:Cal P w K mg base CX0 4 "less_each" pG (zhr λp q=>p - q)) (F:Fun K "turned" "turned" zgc f fd):FnOk P w K mg base CX0 5 f fd ["path"] zcI:=by
 refine F.ok zhw (λvs H Q E h=>?_) (λcdv A outer s H vs Q E hr h=>?_)
 ·obtain ⟨G,a,_,h,_⟩:=h;rw [<-h.len];rfl
 obtain ⟨G,a,eG,hA,ok,k⟩:=h;obtain ⟨v0,rfl,al⟩:=Wq hA;have S:Sta H G H [] _:=Sta.enter eG al;have few:=ok.few;obtain ⟨hlast,hmem⟩:=ok.last;have zl:=ok.sz _ hmem;have zl1:=zl.1;refine ⟨_,(zm (Zm 1 zhw.nd (xE yx (pv 0) (zr6 zmo zA) (λ_ _=>rfl))) (zu (zG (yq (N:=["corner","end"]) (n:=1) (fr:=[1]) rfl ⟨rfl,by decide+kernel,rfl,by decide,rfl,rfl,rfl,rfl,rfl⟩ (pi_rev rfl B.reversed (zg (pv 0) zk)) (λ_ _ _ _=>(xM 0 (show (["corner","end"]:List Str).Nodup from by decide+kernel))) (λ_ _ _ _=>yd) (λ_ _ _ _=>(yA (zg (pcl ZA hr (zg (pix 1) (zg (pix 0) zk))) (zg (pcl zjR hr (zg (pix 1) (zg (pix 0) zk))) zk)))))))),zC ?_⟩;walk_at "walk";refine xR (xs:=a.map ya) (x:=ya (lastC a)) S (by walk_at "m") (zkL (by rw [wG,hlast];rfl)) λve S1=>?_;walk_at "walk";refine zrI (xs:=a.map ya) S1 (by walk_at "m") λJ wk=>?_;refine zS wk (λj=>ya (UI (lastC a) (a.reverse.getD j (0,[])))) (ys:=(yW a).map ya) ?_ S1 (λ_ _=> .mem (by walk_at "mem")) (by rw [qw,ja];omega) (λj x v B' G' Kd Kn hx t1 S hd C ex s0 H0=>?_) λD H2 e2 S2=>?_
 ·unfold yW;rw [js,qw,ja,<-qw];exact zE (λc=>ya (UI (lastC a) c)) (0,[]) _
 ·rw [<-List.map_reverse] at hx;obtain ⟨c,hc,rfl⟩:=zZ hx;have cm:c∈a:=JK.mp (jc hc);have zc:=ok.sz c cm;have zc1:=zc.1;refine zN ⟨rfl,?_⟩;walk_at "walk";refine zm6 (p:=(lastC a).2) (q:=c.2) (by assumption) (by walk_at "m") (by walk_at "m") zl.2 zc.2 (ok.len _ hmem) λr H3 e3 S3=>?_;walk_at "walk";refine hd (by assumption) ?_;rw [zQ hc];exact .mem (by walk_at "mem")
 exact Zy S2 k
abbrev zgf:Stmt:=top 25
theorem zmI:FnScope pat pat (zB zgf):=⟨rfl,rfl,rfl,by decide+kernel,rfl,by decide+kernel,by decide+kernel⟩
theorem znp (B:Bl mg) (zab:Cal P w K mg base CX0 3 "times" pf ziL) (F:Fun K "scaled" "scaled" zgf f fd):FnOk P w K mg base CX0 4 f fd pat zfZ:=by
 refine F.ok zmI (λvs H Q E h=>?_) (λcdv A outer s H vs Q E hr h=>?_)
 ·obtain ⟨G,a,_,h,_⟩:=h;rw [<-h.len];rfl
 obtain ⟨G,⟨a,p⟩,eG,hA,⟨ok,zp⟩,k⟩:=h;obtain ⟨v0,vp,rfl,al⟩:=Zv hA;have S:Sta H G H [] _:=Sta.enter eG al;dsimp only at ok zp k S;have few:=ok.few;refine ⟨_,(zu (zG (yq (N:=["corner","portion"]) (n:=1) (fr:=[1]) rfl ⟨rfl,by decide+kernel,rfl,by decide,rfl,rfl,rfl,rfl,rfl⟩ (ye (pv 0)) (λ_ _ _ _=>(xM 0 (show (["corner","portion"]:List Str).Nodup from by decide+kernel))) (λ_ _ _ _=>yd) (λ_ _ _ _=>(yA (zg (pcl zab hr (zg (pix 0) (zg (pv 1) zk))) (zg (YL ZO rfl B.tuple Xe (zg (yq (N:=["part","portion"]) (n:=1) (fr:=[1]) rfl ⟨rfl,by decide+kernel,rfl,by decide,rfl,rfl,rfl,rfl,rfl⟩ (znf (pix 0)) (λ_ _ _ _=>(xM 0 (show (["part","portion"]:List Str).Nodup from by decide+kernel))) (λ_ _ _ _=>yd) (λ_ _ _ _=>(pcl zab hr (zg (pv 0) (zg (pv 1) zk))))) zk)) zk))))))),zC ?_⟩;walk_at "walk";refine yf (xs:=a.map ya) S (by walk_at "m") λJ wk=>?_;refine zS wk (λj=>ya ((λc:zh=>(c.1*p,c.2.map (·*p))) (a.getD j (0,[])))) (ys:=(yj p a).map ya) ?_ S (λ_ _=> .mem (by walk_at "mem")) (by rw [ja];omega) (λj x v B' G' Kd Kn hx t1 S hd C ex s0 H0=>?_) λD H2 e2 S2=>?_
 ·unfold yj;rw [js,ja];exact zE (λc=>ya ((λc:zh=>(c.1*p,c.2.map (·*p))) c)) (0,[]) _
 ·obtain ⟨c,hc,rfl⟩:=zZ hx;have zc:=ok.sz c (jc hc);have zc1:=zc.1;have lc:=ok.len c (jc hc);refine zN ⟨rfl,?_⟩;walk_at "walk";rename_i w1 S1 r1 H1 e1 S2 w2 S3;refine ziZ (xs:=c.2.map frD) S3 (by walk_at "m") λJ2 wk2=>?_;refine zS wk2 (λj=>frD (c.2.getD j 0*p)) (ys:=(c.2.map (·*p)).map frD) (by rw [ja,js];exact zE (λx=>frD (x*p)) 0 c.2) S3 (λ_ _=> .mem (by walk_at "mem")) (by rw [ja];exact lc) (λj x v B' G' Kd2 Kn2 hx2 t2 S hd2 C ex s0 H0=>?_) λD2 H4 e4 S4=>?_
  ·obtain ⟨y,hy,rfl⟩:=zZ hx2;have zy:=zc.2 y (jc hy);refine zN ⟨rfl,?_⟩;walk_at "walk";rename_i r5 H5 e5 S5;refine hd2 S5 ?_;rw [zQ hy];exact .mem (by walk_at "mem")
  walk_at "walk";refine hd (by assumption) ?_;rw [zQ hc];exact .mem (by walk_at "mem")
 exact Zy S2 k
abbrev zgn:Stmt:=top 26
theorem zdm:FnScope ["path","second","end","moved"] pak (zB zgn):=⟨rfl,rfl,rfl,by decide+kernel,rfl,by decide+kernel,by decide+kernel⟩
theorem znB (B:Bl mg) (za0:Cal P w K mg base CX0 3 "plus" pf zj4) (zjQ:Cal P w K mg base CX0 4 "plus_each" pG (zhr λp q=>p+q)) (zes:Cal P w K mg base CX0 3 "thinned" ["corners"] zc8) (F:Fun K "behind" "behind" zgn f fd):FnOk P w K mg base CX0 5 f fd pak zan:=by
 refine F.ok zdm (λvs H Q E h=>?_) (λcdv A outer s H vs Q E hr h=>?_)
 ·obtain ⟨G,a,_,h,_⟩:=h;rw [<-h.len];rfl
 obtain ⟨G,⟨a,b⟩,eG,hA,⟨ok,ok2,m,ok3⟩,k⟩:=h;obtain ⟨v0,v1,rfl,al⟩:=Zv hA;have S:Sta H G H [] _:=Sta.enter eG al;dsimp only at ok ok2 ok3 k S;have few:=ok.few;have few2:=ok2.few;obtain ⟨hlast,hmem⟩:=ok.last;have zl:=ok.sz _ hmem;have zl1:=zl.1;refine ⟨_,(zm (Zm 2 zdm.nd (xE yx (pv 0) (zr6 zmo zA) (λ_ _=>rfl))) (zm (xx (i:=3) (N:=["corner","end"]) (n:=1) (fr:=[2]) zdm.nd rfl rfl rfl ⟨rfl,by decide+kernel,rfl,by decide,rfl,rfl,rfl,rfl,rfl⟩ (ye (zcO zf7 (pv 1) (zdv zA) zi0)) (λ_ _ _ _=>(xM 0 (show (["corner","end"]:List Str).Nodup from by decide+kernel))) (λ_ _ _ _=>yd) (λ_ _ _ _=>(yA (zg (pcl za0 hr (zg (pix 1) (zg (pix 0) zk))) (zg (pcl zjQ hr (zg (pix 1) (zg (pix 0) zk))) zk))))) (zu (zG (pcl zes hr (zg (zM xo (pv 0) (pv 3)) zk)))))),zC ?_⟩;walk_at "walk";refine xR (xs:=a.map ya) (x:=ya (lastC a)) S (by walk_at "m") (zkL (by rw [wG,hlast];rfl)) λve S1=>?_;walk_at "walk";refine zhL (xs:=b.map ya) S1 (by walk_at "m") λl2 H2 e2 S2=>?_
 have ec:zs0 (b.map ya) (some 1) none=b.tail.map ya:=by
  unfold zs0;rw [HT.sIx_none,show (some (1:Int))=some ((1:Nat):Int) from rfl,HT.sIx_nat,ja];have hb:1<=b.length:=wZ.mpr ok2.ne;rw [Nat.min_eq_left hb,qy (by rw [qt,ja];exact jy _),<-List.map_drop,List.drop_one]
 rw [ec] at S2;refine zm2 (xs:=b.tail.map ya) S2 (by walk_at "mem") λJ wk=>?_;refine zS wk (λj=>ya (Uv (lastC a) (b.tail.getD j (0,[])))) (ys:=(xn a b).map ya) ?_ S2 (λ_ _=>jf _ (by walk_at "mem")) (by rw [ja,wP];omega) (λj x v B' G' Kd Kn hx t1 S hd C ex s0 H0=>?_) λD H3 e3 S3=>?_
 ·unfold xn;rw [js,ja];exact zE (λc=>ya (Uv (lastC a) c)) (0,[]) _
 ·obtain ⟨c,hc,rfl⟩:=zZ hx;have cm:c∈b:=qK (jc hc);have zc:=ok2.sz c cm;have zc1:=zc.1;refine zN ⟨rfl,?_⟩;walk_at "walk";refine zm6 (p:=(lastC a).2) (q:=c.2) (by assumption) (by walk_at "m") (by walk_at "m") zl.2 zc.2 (ok.len _ hmem) λr H3 e3 S3=>?_;walk_at "walk";refine hd (by assumption) ?_;rw [zQ hc];exact .mem (by walk_at "mem")
 walk_at "walk";obtain ⟨pa,rfl⟩:=S3.refL (xs:=a.map ya) (v:=v0) (by walk_at "m")
 refine WR S3 (S3.vwL (xs:=a.map ya) (by walk_at "m")) (S3.vwC (by walk_at "mem")) (by
  rw [ja,ja];unfold xn
  rw [ja,wP];omega) λp4 H4 e4 S4=>?_
 rw [<-qx] at S4;have S5:=S4.freeze;walk_at "walk";refine zld (a:=a++xn a b) S5 (by walk_at "m") ok3 λp6 H6 e6 S6=>?_;exact Zy (S6.weak (cs':=[_]) (by walk_at "sub") Dats.nil) k
section
variable {fS fT Ru:Addr} {A:RAd}
abbrev Xr:Stmt:=YC (top 52) 0
theorem zcq:FnScope ph ph (zB Xr):=⟨rfl,rfl,rfl,by decide+kernel,rfl,by decide+kernel,by decide+kernel⟩
theorem zps (F:Fun K "__init__" "Rule.__init__" Xr f fd):FnOk P w K mg base CX0 1 f fd ph (XU K fS fT Ru):=by
 refine F.ok zcq (λvs H Q E h=>?_) (λcdv A outer s H vs Q E hr h=>?_)
 ·obtain ⟨C,ok,G,d,x,dx,us,rfl,_,_,_,hA,_⟩:=h;rw [jz,<-hA.len];rfl
 obtain ⟨C,ok,G,d,x,dx,us,rfl,eG,gx,hx,hA,k⟩:=h;obtain ⟨v,rfl,al⟩:=Wq hA;refine ⟨_,(zu (ps_fld (pv 0) (pv 1) rfl)),zC ?_⟩;refine ⟨v,rfl, .ref x,rfl,x,C,dx,[],rfl,hx,ok.cl,ok.na,by decide,?_⟩;refine k _ G v (λp o hp ho=>by rw [yE hp];exact ho) (yt.refl _) (λp o hp=>?_) (λ_ _=>rfl) ?_ (al _ (ju.mpr rfl))
 ·rw [yE (yL hp gx)];exact eG p o hp
 ·rw [xC];rfl
abbrev VB:Stmt:=YC (top 52) 1
theorem zf9:FnScope pA pA (zB VB):=⟨rfl,rfl,rfl,by decide+kernel,rfl,by decide+kernel,by decide+kernel⟩
theorem zpq (okA:∀r:Rl,ROk K fS fT Ru (A.cls r)) (F:Fun K "shape" "Rule.shape" VB f fd):FnOk P w K mg base CX0 1 f fd pA (zbb A):=by
 refine F.ok zf9 (λvs H Q E h=>?_) (λcdv A' outer s H vs Q E hr h=>?_)
 ·obtain ⟨G,r,_,h,_⟩:=h;rw [<-h.len];rfl
 obtain ⟨G,r,eG,hA,_,k⟩:=h;obtain ⟨v,rfl,al⟩:=Wq hA;have S:Sta H G H [] _:=Sta.enter eG al;refine ⟨_,(zu (zG (zqM (pv 0) rfl))),zC ?_⟩;refine zqH (zqK ?_);walk_at "walk";refine zm3 S (by walk_at "m") (okA r) λw S1=>?_;exact Yb S1 k (by walk_at "m")
abbrev Ys:Stmt:=YC (top 53) 0
theorem zau:FnScope pA pA (zB Ys):=⟨rfl,rfl,rfl,by decide+kernel,rfl,by decide+kernel,by decide+kernel⟩
theorem zez (xU:mg "Rule"=some (.ref Ru)) (Xs:PySem.W.specialIn K (.ref Ru) "__getattribute__"=some (some (.builtin "type.__getattribute__"))) (Xv:PySem.W.readsIn K Ru (.type "type")=true) {fI:Addr} {fdI:FuncData} (yH:PySem.W.findCls K (.ref Ru) (.type "type") "__init__"=some (.val (.ref fI))) (yK:FnOk P w K mg base CX0 1 fI fdI ph (XU K fS fT Ru)) (yG:PySem.W.keepIn K (.ref fI)=true) (yI:Zg K fdI ph []) (ok:ROk K fS fT Ru (A.cls .shares)) (F:Fun K "__init__" "Shares.__init__" Ys f fd):FnOk P w K mg base CX0 2 f fd pA (xW (A.cls .shares) (α:=Unit) (λ_=>[]) (λ_=>Rl.shares.shape)):=by
 refine F.ok zau (λvs H Q E h=>?_) (λcdv A outer s H vs Q E hr h=>?_)
 ·obtain ⟨G,d,x,dx,us,rfl,_,_,_,hA,_⟩:=h;rw [jz,<-hA.len];rfl
 obtain ⟨G,d,x,dx,us,rfl,eG,gx,hx,hA,k⟩:=h;rw [zX] at hA;subst hA;have S:Sta H G H [] []:=Sta.enter eG λp hp=>absurd hp jp;refine ⟨_,(zu (Zd (XJ rfl xU Xs Xv yH (yK.mono (by walk_at "l")) hr yG yI YS (zg (pv 0) (zg (yA (zg yF zk)) zk))))),zC ?_⟩;walk_at "walk";refine XF (d:=Rl.shares.shape) (by assumption) gx hx ok (by walk_at "m") λH' G' w h1 h2 h3 h4 h5 h6=>?_;exact k H' G' w h1 h2 h3 h4 h5 h6
abbrev Yw:Stmt:=YC (top 54) 0
theorem zay:FnScope pA pA (zB Yw):=⟨rfl,rfl,rfl,by decide+kernel,rfl,by decide+kernel,by decide+kernel⟩
theorem zeD (xU:mg "Rule"=some (.ref Ru)) (Xs:PySem.W.specialIn K (.ref Ru) "__getattribute__"=some (some (.builtin "type.__getattribute__"))) (Xv:PySem.W.readsIn K Ru (.type "type")=true) {fI:Addr} {fdI:FuncData} (yH:PySem.W.findCls K (.ref Ru) (.type "type") "__init__"=some (.val (.ref fI))) (yK:FnOk P w K mg base CX0 1 fI fdI ph (XU K fS fT Ru)) (yG:PySem.W.keepIn K (.ref fI)=true) (yI:Zg K fdI ph []) (ok:ROk K fS fT Ru (A.cls .evenly)) (F:Fun K "__init__" "Evenly.__init__" Yw f fd):FnOk P w K mg base CX0 2 f fd pA (xW (A.cls .evenly) (α:=Unit) (λ_=>[]) (λ_=>Rl.evenly.shape)):=by
 refine F.ok zay (λvs H Q E h=>?_) (λcdv A outer s H vs Q E hr h=>?_)
 ·obtain ⟨G,d,x,dx,us,rfl,_,_,_,hA,_⟩:=h;rw [jz,<-hA.len];rfl
 obtain ⟨G,d,x,dx,us,rfl,eG,gx,hx,hA,k⟩:=h;rw [zX] at hA;subst hA;have S:Sta H G H [] []:=Sta.enter eG λp hp=>absurd hp jp;refine ⟨_,(zu (Zd (XJ rfl xU Xs Xv yH (yK.mono (by walk_at "l")) hr yG yI YS (zg (pv 0) (zg (yA (zg yF zk)) zk))))),zC ?_⟩;walk_at "walk";refine XF (d:=Rl.evenly.shape) (by assumption) gx hx ok (by walk_at "m") λH' G' w h1 h2 h3 h4 h5 h6=>?_;exact k H' G' w h1 h2 h3 h4 h5 h6
abbrev Yt:Stmt:=YC (top 55) 0
theorem zav:FnScope pA pA (zB Yt):=⟨rfl,rfl,rfl,by decide+kernel,rfl,by decide+kernel,by decide+kernel⟩
theorem zeA (xU:mg "Rule"=some (.ref Ru)) (Xs:PySem.W.specialIn K (.ref Ru) "__getattribute__"=some (some (.builtin "type.__getattribute__"))) (Xv:PySem.W.readsIn K Ru (.type "type")=true) {fI:Addr} {fdI:FuncData} (yH:PySem.W.findCls K (.ref Ru) (.type "type") "__init__"=some (.val (.ref fI))) (yK:FnOk P w K mg base CX0 1 fI fdI ph (XU K fS fT Ru)) (yG:PySem.W.keepIn K (.ref fI)=true) (yI:Zg K fdI ph []) (ok:ROk K fS fT Ru (A.cls .losses)) (F:Fun K "__init__" "Losses.__init__" Yt f fd):FnOk P w K mg base CX0 2 f fd pA (xW (A.cls .losses) (α:=Unit) (λ_=>[]) (λ_=>Rl.losses.shape)):=by
 refine F.ok zav (λvs H Q E h=>?_) (λcdv A outer s H vs Q E hr h=>?_)
 ·obtain ⟨G,d,x,dx,us,rfl,_,_,_,hA,_⟩:=h;rw [jz,<-hA.len];rfl
 obtain ⟨G,d,x,dx,us,rfl,eG,gx,hx,hA,k⟩:=h;rw [zX] at hA;subst hA;have S:Sta H G H [] []:=Sta.enter eG λp hp=>absurd hp jp;refine ⟨_,(zu (Zd (XJ rfl xU Xs Xv yH (yK.mono (by walk_at "l")) hr yG yI YS (zg (pv 0) (zg (yA (zg yF zk)) zk))))),zC ?_⟩;walk_at "walk";refine XF (d:=Rl.losses.shape) (by assumption) gx hx ok (by walk_at "m") λH' G' w h1 h2 h3 h4 h5 h6=>?_;exact k H' G' w h1 h2 h3 h4 h5 h6
abbrev Yu:Stmt:=YC (top 56) 0
theorem zaw:FnScope pA pA (zB Yu):=⟨rfl,rfl,rfl,by decide+kernel,rfl,by decide+kernel,by decide+kernel⟩
theorem zeB (xU:mg "Rule"=some (.ref Ru)) (Xs:PySem.W.specialIn K (.ref Ru) "__getattribute__"=some (some (.builtin "type.__getattribute__"))) (Xv:PySem.W.readsIn K Ru (.type "type")=true) {fI:Addr} {fdI:FuncData} (yH:PySem.W.findCls K (.ref Ru) (.type "type") "__init__"=some (.val (.ref fI))) (yK:FnOk P w K mg base CX0 1 fI fdI ph (XU K fS fT Ru)) (yG:PySem.W.keepIn K (.ref fI)=true) (yI:Zg K fdI ph []) (ok:ROk K fS fT Ru (A.cls .halves)) (F:Fun K "__init__" "Halves.__init__" Yu f fd):FnOk P w K mg base CX0 2 f fd pA (xW (A.cls .halves) (α:=Unit) (λ_=>[]) (λ_=>Rl.halves.shape)):=by
 refine F.ok zaw (λvs H Q E h=>?_) (λcdv A outer s H vs Q E hr h=>?_)
 ·obtain ⟨G,d,x,dx,us,rfl,_,_,_,hA,_⟩:=h;rw [jz,<-hA.len];rfl
 obtain ⟨G,d,x,dx,us,rfl,eG,gx,hx,hA,k⟩:=h;rw [zX] at hA;subst hA;have S:Sta H G H [] []:=Sta.enter eG λp hp=>absurd hp jp;refine ⟨_,(zu (Zd (XJ rfl xU Xs Xv yH (yK.mono (by walk_at "l")) hr yG yI YS (zg (pv 0) (zg (yA (zg yF zk)) zk))))),zC ?_⟩;walk_at "walk";refine XF (d:=Rl.halves.shape) (by assumption) gx hx ok (by walk_at "m") λH' G' w h1 h2 h3 h4 h5 h6=>?_;exact k H' G' w h1 h2 h3 h4 h5 h6
abbrev YQ:Stmt:=YC (top 57) 0
theorem zbi:FnScope pJ pJ (zB YQ):=⟨rfl,rfl,rfl,by decide+kernel,rfl,by decide+kernel,by decide+kernel⟩
theorem zgA (xU:mg "Rule"=some (.ref Ru)) (Xs:PySem.W.specialIn K (.ref Ru) "__getattribute__"=some (some (.builtin "type.__getattribute__"))) (Xv:PySem.W.readsIn K Ru (.type "type")=true) {fI:Addr} {fdI:FuncData} (yH:PySem.W.findCls K (.ref Ru) (.type "type") "__init__"=some (.val (.ref fI))) (yK:FnOk P w K mg base CX0 1 fI fdI ph (XU K fS fT Ru)) (yG:PySem.W.keepIn K (.ref fI)=true) (yI:Zg K fdI ph []) {fdS:FuncData} (xk:FnOk P w K mg base CX0 1 fS fdS pA (zbb A)) (yy:Zg K fdS pA []) (okA:∀r:Rl,ROk K fS fT Ru (A.cls r)) (F:Fun K "__init__" "Other.__init__" YQ f fd):FnOk P w K mg base CX0 2 f fd pJ (xW (A.cls (.other .shares)) (α:=Rl) (λr=>[r.ins A]) (λr=>(Rl.other r).shape)):=by
 refine F.ok zbi (λvs H Q E h=>?_) (λcdv A' outer s H vs Q E hr h=>?_)
 ·obtain ⟨G,d,x,dx,us,rfl,_,_,_,hA,_⟩:=h;rw [jz,<-hA.len];rfl
 obtain ⟨G,r,x,dx,us,rfl,eG,gx,hx,hA,k⟩:=h;obtain ⟨v,rfl,al⟩:=Wq hA;have S:Sta H G H [] _:=Sta.enter eG al;refine ⟨_,(zu (Zd (XJ rfl xU Xs Xv yH (yK.mono (by walk_at "l")) hr yG yI YS (zg (pv 0) (zg (yA (zg yF (zg (Ue (pv 1) (xk.mono (by walk_at "l")) hr yy YS) zk))) zk))))),zC ?_⟩;walk_at "walk";refine zfl S (by walk_at "m") (okA r) ?_;refine Ud S (by walk_at "m") λw1 H1 e1 S1=>?_;walk_at "walk";refine XF (d:=(Rl.other r).shape) (by assumption) gx hx (okA (.other .shares)) (by walk_at "m") λH' G' w h1 h2 h3 h4 h5 h6=>?_;exact k H' G' w h1 h2 h3 h4 h5 h6
abbrev YO:Stmt:=YC (top 58) 0
theorem zbh:FnScope pJ pJ (zB YO):=⟨rfl,rfl,rfl,by decide+kernel,rfl,by decide+kernel,by decide+kernel⟩
theorem zgz (xU:mg "Rule"=some (.ref Ru)) (Xs:PySem.W.specialIn K (.ref Ru) "__getattribute__"=some (some (.builtin "type.__getattribute__"))) (Xv:PySem.W.readsIn K Ru (.type "type")=true) {fI:Addr} {fdI:FuncData} (yH:PySem.W.findCls K (.ref Ru) (.type "type") "__init__"=some (.val (.ref fI))) (yK:FnOk P w K mg base CX0 1 fI fdI ph (XU K fS fT Ru)) (yG:PySem.W.keepIn K (.ref fI)=true) (yI:Zg K fdI ph []) {fdS:FuncData} (xk:FnOk P w K mg base CX0 1 fS fdS pA (zbb A)) (yy:Zg K fdS pA []) (okA:∀r:Rl,ROk K fS fT Ru (A.cls r)) (F:Fun K "__init__" "Ranks.__init__" YO f fd):FnOk P w K mg base CX0 2 f fd pJ (xW (A.cls (.ranks .shares)) (α:=Rl) (λr=>[r.ins A]) (λr=>(Rl.ranks r).shape)):=by
 refine F.ok zbh (λvs H Q E h=>?_) (λcdv A' outer s H vs Q E hr h=>?_)
 ·obtain ⟨G,d,x,dx,us,rfl,_,_,_,hA,_⟩:=h;rw [jz,<-hA.len];rfl
 obtain ⟨G,r,x,dx,us,rfl,eG,gx,hx,hA,k⟩:=h;obtain ⟨v,rfl,al⟩:=Wq hA;have S:Sta H G H [] _:=Sta.enter eG al;refine ⟨_,(zu (Zd (XJ rfl xU Xs Xv yH (yK.mono (by walk_at "l")) hr yG yI YS (zg (pv 0) (zg (yA (zg yF (zg (Ue (pv 1) (xk.mono (by walk_at "l")) hr yy YS) zk))) zk))))),zC ?_⟩;walk_at "walk";refine zfl S (by walk_at "m") (okA r) ?_;refine Ud S (by walk_at "m") λw1 H1 e1 S1=>?_;walk_at "walk";refine XF (d:=(Rl.ranks r).shape) (by assumption) gx hx (okA (.ranks .shares)) (by walk_at "m") λH' G' w h1 h2 h3 h4 h5 h6=>?_;exact k H' G' w h1 h2 h3 h4 h5 h6
abbrev Yv:Stmt:=YC (top 59) 0
theorem zax:FnScope pT pT (zB Yv):=⟨rfl,rfl,rfl,by decide+kernel,rfl,by decide+kernel,by decide+kernel⟩
theorem zeC (xU:mg "Rule"=some (.ref Ru)) (Xs:PySem.W.specialIn K (.ref Ru) "__getattribute__"=some (some (.builtin "type.__getattribute__"))) (Xv:PySem.W.readsIn K Ru (.type "type")=true) {fI:Addr} {fdI:FuncData} (yH:PySem.W.findCls K (.ref Ru) (.type "type") "__init__"=some (.val (.ref fI))) (yK:FnOk P w K mg base CX0 1 fI fdI ph (XU K fS fT Ru)) (yG:PySem.W.keepIn K (.ref fI)=true) (yI:Zg K fdI ph []) {fdS:FuncData} (xk:FnOk P w K mg base CX0 1 fS fdS pA (zbb A)) (yy:Zg K fdS pA []) (okA:∀r:Rl,ROk K fS fT Ru (A.cls r)) (F:Fun K "__init__" "Groups.__init__" Yv f fd):FnOk P w K mg base CX0 2 f fd pT (xW (A.cls (.groups .shares .shares)) (α:=Rl×Rl) (λr=>[r.1.ins A,r.2.ins A]) (λr=>(Rl.groups r.1 r.2).shape)):=by
 refine F.ok zax (λvs H Q E h=>?_) (λcdv A' outer s H vs Q E hr h=>?_)
 ·obtain ⟨G,d,x,dx,us,rfl,_,_,_,hA,_⟩:=h;rw [jz,<-hA.len];rfl
 obtain ⟨G,⟨r,r2⟩,x,dx,us,rfl,eG,gx,hx,hA,k⟩:=h;obtain ⟨v,v2,rfl,al⟩:=Zv hA;have S:Sta H G H [] _:=Sta.enter eG al;dsimp only at k S;refine ⟨_,(zu (Zd (XJ rfl xU Xs Xv yH (yK.mono (by walk_at "l")) hr yG yI YS (zg (pv 0) (zg (yA (zg yF (zg (Ue (pv 1) (xk.mono (by walk_at "l")) hr yy YS) (zg (Ue (pv 2) (xk.mono (by walk_at "l")) hr yy YS) zk)))) zk))))),zC ?_⟩;walk_at "walk";refine zfl S (by walk_at "m") (okA r) ?_;refine Ud S (by walk_at "m") λw1 H1 e1 S1=>?_;walk_at "walk";refine zfl S1 (by walk_at "m") (okA r2) ?_;refine Ud S1 (by walk_at "m") λw2 H2 e2 S2=>?_;walk_at "walk";refine XF (d:=(Rl.groups r r2).shape) (by assumption) gx hx (okA (.groups .shares .shares)) (by walk_at "m") λH' G' w h1 h2 h3 h4 h5 h6=>?_;exact k H' G' w h1 h2 h3 h4 h5 h6
abbrev Xq:Stmt:=YC (top 60) 0
theorem zcp:FnScope pH pH (zB Xq):=⟨rfl,rfl,rfl,by decide+kernel,rfl,by decide+kernel,by decide+kernel⟩
theorem zhW (xU:mg "Rule"=some (.ref Ru)) (Xs:PySem.W.specialIn K (.ref Ru) "__getattribute__"=some (some (.builtin "type.__getattribute__"))) (Xv:PySem.W.readsIn K Ru (.type "type")=true) {fI:Addr} {fdI:FuncData} (yH:PySem.W.findCls K (.ref Ru) (.type "type") "__init__"=some (.val (.ref fI))) (yK:FnOk P w K mg base CX0 1 fI fdI ph (XU K fS fT Ru)) (yG:PySem.W.keepIn K (.ref fI)=true) (yI:Zg K fdI ph []) {fdS:FuncData} (xk:FnOk P w K mg base CX0 1 fS fdS pA (zbb A)) (yy:Zg K fdS pA []) (okA:∀r:Rl,ROk K fS fT Ru (A.cls r)) (F:Fun K "__init__" "Upto.__init__" Xq f fd):FnOk P w K mg base CX0 2 f fd pH (xW (A.cls (.upto 0 0 .shares .shares)) (α:=(Int×Int)×Rl×Rl) (λr=>[.tuple [.int r.1.1, .int r.1.2],r.2.1.ins A,r.2.2.ins A]) (λr=>(Rl.upto r.1.1 r.1.2 r.2.1 r.2.2).shape)):=by
 refine F.ok zcp (λvs H Q E h=>?_) (λcdv A' outer s H vs Q E hr h=>?_)
 ·obtain ⟨G,d,x,dx,us,rfl,_,_,_,hA,_⟩:=h;rw [jz,<-hA.len];rfl
 obtain ⟨G,⟨⟨t,b⟩,r,r2⟩,x,dx,us,rfl,eG,gx,hx,hA,k⟩:=h;obtain ⟨v0,v,v2,rfl,al⟩:=YY hA;have S:Sta H G H [] _:=Sta.enter eG al;dsimp only at k S;refine ⟨_,(zu (Zd (XJ rfl xU Xs Xv yH (yK.mono (by walk_at "l")) hr yG yI YS (zg (pv 0) (zg (yA (zg yF (zg (pv 1) (zg (Ue (pv 2) (xk.mono (by walk_at "l")) hr yy YS) (zg (Ue (pv 3) (xk.mono (by walk_at "l")) hr yy YS) zk))))) zk))))),zC ?_⟩;walk_at "walk";refine zfl S (by walk_at "m") (okA r) ?_;refine Ud S (by walk_at "m") λw1 H1 e1 S1=>?_;walk_at "walk";refine zfl S1 (by walk_at "m") (okA r2) ?_;refine Ud S1 (by walk_at "m") λw2 H2 e2 S2=>?_;walk_at "walk";refine XF (d:=(Rl.upto t b r r2).shape) (by assumption) gx hx (okA (.upto 0 0 .shares .shares)) (by walk_at "m") λH' G' w h1 h2 h3 h4 h5 h6=>?_;exact k H' G' w h1 h2 h3 h4 h5 h6
end
abbrev ziV:Stmt:=YC (top 52) 2
local macro_rules|`(tactic|walk_at "rd")=>`(tactic|first
 |((with_reducible refine' iteSY ?c ?k);(case c=>exact rfl))
 |((with_reducible refine' iteSN ?c ?k);(case c=>decide+kernel))
 |with_reducible refine' zo7 ?_|with_reducible refine' zkd ?_)
section
variable {A:RAd}
abbrev XZ:Stmt:=top 8
theorem Vx:FnScope ["claims","claim"] pK (zB XZ):=⟨rfl,rfl,rfl,by decide+kernel,rfl,by decide+kernel,by decide+kernel⟩
theorem zpA (B:Bl mg) (g_MOST:mg "MOST"=some (.int 8 tM)) (F:Fun K "check_claims" "check_claims" XZ f fd):FnOk P w K mg base CX0 1 f fd pK ziP:=by
 refine F.ok Vx (λvs H Q E h=>?_) (λcdv A outer s H vs Q E hr h=>?_)
 ·obtain ⟨l,h,_⟩:=h;rw [<-h.len];rfl
 obtain ⟨l,hA,ok,k⟩:=h;obtain ⟨v,rfl,al⟩:=Wq hA;have S:Sta H H H [] [(zH l,v)]:=Sta.enter (yt.refl _) al;have pos:=ok.pos;have few:=ok.few;refine ⟨_,(zm (yO (PW.pt (zex (zK (yu (zJ hr)) (zR yB rfl B.len ZG (zg (pv 0) zk)) zA (zV _)) (zfo (zK zi3 (zR yB rfl B.len ZG (zg (pv 0) zk)) (znh (v:= .int 8) rfl g_MOST ⟨_,rfl⟩) (zV _))))) (zu zcN) zU) (zu (Xw qe rfl (ye (pv 0)) (xM 1 Vx.nd) (zu (yO (zK zdI (zR (zop rfl) rfl B.min zif (zg (pv 1) zk)) zA (zV _)) (zu zcN) zU))))),zC ?_⟩;walk_at "walk";refine XL (λc=>absurd c (by rw [ja];omega)) (λ_=>?_);walk_at "walk";refine XL (λc=>absurd c (by rw [ja];omega)) (λ_=>?_);walk_at "walk";refine yf (xs:=l.map zP) S (by walk_at "m") λJ wk=>?_;refine XC wk (λi σ cs ds=>(∃x,σ=[some v,x])/\cs=[]/\ds=[(zH l,v)]) S ⟨⟨none,rfl⟩,rfl,rfl⟩ (λi σ cs ds h=>?_) ?_ ?_
 ·obtain ⟨_,rfl,rfl⟩:=h;exact .mem (by walk_at "mem")
 ·rintro i x u σ H2 cs ds hx ⟨⟨x1,rfl⟩,rfl,rfl⟩ S2
  obtain ⟨c,hc,rfl⟩:=zZ hx;have nn:=ok.nn c (jc hc);walk_at "walk";refine zrA (ns:=[c.1,c.2.1,c.2.2]) S2 (by walk_at "m") (Nat.zero_lt_succ _) λm hm _=>?_
  have m0:¬m<0:=by
   simp only [jn,jp,or_false] at hm
   rcases hm with rfl|rfl|rfl<;>omega
  walk_at "walk";refine XL (λc=>absurd c m0) (λ_=>?_);walk_at "walk";exact VE (S2.dat (by walk_at "dats")) ⟨⟨_,rfl⟩,rfl,rfl⟩
 ·rintro σ H2 cs ds ⟨⟨x1,rfl⟩,rfl,rfl⟩ S2
  exact k _ S2.base
abbrev XV:Stmt:=top 48
theorem zdh:FnScope ["parts"] ["parts"] (zB XV):=⟨rfl,rfl,rfl,by decide+kernel,rfl,by decide+kernel,by decide+kernel⟩
theorem ok_wc (B:Bl mg) (F:Fun K "whole_corner" "whole_corner" XV f fd):FnOk P w K mg base CX0 1 f fd ["parts"] spWC:=by
 refine F.ok zdh (λvs H Q E h=>?_) (λcdv A outer s H vs Q E hr h=>?_)
 ·obtain ⟨G,a,_,h,_⟩:=h;rw [<-h.len];rfl
 obtain ⟨G,l,eG,hA,ok,k⟩:=h;obtain ⟨v,rfl,al⟩:=Wq hA;have S:Sta H G H [] _:=Sta.enter eG al;refine ⟨_,(zu (zG (yA (zg (yA (zg (zR (Zi rfl) rfl B.sum Vi (zg (pv 0) zk)) (zg zA zk))) (zg (YL ZO rfl B.tuple Xe (zg (yq (N:=["part"]) (n:=1) (fr:=[]) rfl ⟨rfl,by decide+kernel,rfl,by decide,rfl,rfl,rfl,rfl,rfl⟩ (ye (pv 0)) (λ_ _ _ _=>(xM 0 (show (["part"]:List Str).Nodup from by decide+kernel))) (λ_ _ _ _=>yd) (λ_ _ _ _=>(yA (zg (pv 0) (zg zA zk))))) zk)) zk))))),zC ?_⟩;walk_at "walk";rename_i p1 H1 e1 S1;refine yf (xs:=l.map PyData.int) S1 (by walk_at "m") λJ wk=>?_;refine zS wk (λj=>frD ((l.getD j 0:Int):Rat)) (ys:=(yp l).2.map frD) (by unfold yp;rw [ja,js];exact zE (λx:Int=>frD ((x:Int):Rat)) 0 l) S1 (λ_ _=> .mem (by walk_at "mem")) (by rw [ja];omega) (λj x v B' G' Kd Kn hx t1 S hd C ex s0 H0=>?_) λD H2 e2 S2=>?_
 ·obtain ⟨y,hy,rfl⟩:=zZ hx;cases S.int1;refine zN ⟨rfl,?_⟩;walk_at "walk";refine hd (by assumption) ?_;rw [zQ hy];exact .mem (by walk_at "mem")
 walk_at "walk";exact Yb (by assumption) k (by walk_at "m")
abbrev zdp:Stmt:=top 47
theorem zk8:FnScope ["count"] ["count"] (zB zdp):=⟨rfl,rfl,rfl,by decide+kernel,rfl,by decide+kernel,by decide+kernel⟩
theorem zlt (ZI:Cal P w K mg base CX0 1 "whole_corner" ["parts"] spWC) (F:Fun K "nothing" "nothing" zdp f fd):FnOk P w K mg base CX0 2 f fd ["count"] Vp:=by
 refine F.ok zk8 (λvs H Q E h=>?_) (λcdv A outer s H vs Q E hr h=>?_)
 ·obtain ⟨G,a,_,h,_⟩:=h;rw [<-h.len];rfl
 obtain ⟨G,n,eG,hA,ok,k⟩:=h;cases (xz (ns:=[(n:Int)]) hA);have S:Sta H G H [] []:=Sta.enter eG λp hp=>absurd hp jp;refine ⟨_,(zu (zG (Zq (zg (pcl ZI hr (zg (zM zqN (Zq (zg zA zk)) (pv 0)) zk)) zk)))),zC ?_⟩;walk_at "walk";rename_i p1 H1 e1 S1;refine zrt S1 (by walk_at "mem") (by omega) λl2 H2 e2 S2=>?_;have S3:Sta H G H2 [] [(.list ((Xa n).map PyData.int), .ref l2)]:=S2.freeze.weak (by walk_at "sub") (by walk_at "dats");refine zrm S3 (by walk_at "m") (by rw [zaf];exact ok) λw4 H4 e4 S4=>?_;walk_at "walk";exact Zy (by assumption) k
abbrev zge:Stmt:=top 41
theorem zhx:FnScope ["claims","amounts"] pK (zB zge):=⟨rfl,rfl,rfl,by decide+kernel,rfl,by decide+kernel,by decide+kernel⟩
theorem zno (B:Bl mg) (Yh:Cal P w K mg base CX0 2 "nothing" ["count"] Vp) (ZI:Cal P w K mg base CX0 1 "whole_corner" ["parts"] spWC) (F:Fun K "shares" "shares" zge f fd):FnOk P w K mg base CX0 3 f fd pK (zcf 0):=by
 refine F.ok zhx (λvs H Q E h=>?_) (λcdv A outer s H vs Q E hr h=>?_)
 ·obtain ⟨G,a,_,h,_⟩:=h;rw [<-h.len];rfl
 obtain ⟨G,l,eG,hA,ok,k⟩:=h;obtain ⟨v,rfl,al⟩:=Wq hA;have S:Sta H G H [] _:=Sta.enter eG al;have few:=ok.few;refine ⟨_,(zm (xx (i:=1) (N:=paf) (n:=1) (fr:=[]) zhx.nd rfl rfl rfl ⟨rfl,by decide+kernel,rfl,by decide,rfl,rfl,rfl,rfl,rfl⟩ (ye (pv 0)) (λ_ _ _ _=>(xM 0 (show (paf:List Str).Nodup from by decide+kernel))) (λ_ _ _ _=>yd) (λ_ _ _ _=>(pix 0))) (zm (yO (zK (yu (zJ hr)) (zR (Zi rfl) rfl B.sum Vi (zg (pv 1) zk)) zA (zV _)) (zu (zG (pcl Yh hr (zg (zR yB rfl B.len ZG (zg (pv 1) zk)) zk)))) zU) (zu (zG (zM xo (pcl Yh hr (zg (zR yB rfl B.len ZG (zg (pv 1) zk)) zk)) (Zq (zg (pcl ZI hr (zg (pv 1) zk)) zk))))))),zC ?_⟩;walk_at "walk";refine yf (xs:=l.map zP) S (by walk_at "m") λJ wk=>?_;refine zS wk (λj=> .int (l.getD j (0,0,0)).1) (ys:=(amV l).map PyData.int) (by unfold amV;rw [ja,js];exact zE (λc:Cl=>PyData.int c.1) (0,0,0) l) S (λ_ _=> .mem (by walk_at "mem")) (by rw [ja];omega) (λj x v B' G' Kd Kn hx t1 S hd C ex s0 H0=>?_) λD H1 e1 S1=>?_
 ·obtain ⟨c,hc,rfl⟩:=zZ hx;refine zN ⟨rfl,?_⟩;walk_at "walk";refine hd (by assumption) ?_;rw [zQ hc];exact Has.int
 have S2:Sta H G H1 [] [(.list ((amV l).map PyData.int), .ref D)]:=S1.freeze.weak (by walk_at "sub") (by walk_at "dats");clear S1;have l8:(amV l).length<=8:=by rw [yJ];omega
 dsimp only at k;unfold flV at k;have ek:zsB (amV l) (lvV (amV l)) 0=shP (amV l):=rfl;rw [ek] at k;generalize amV l=as at*;unfold shP at k;walk_at "walk";refine XL (λc=>?_) (λc=>?_)
 ·rw [jK c] at k;walk_at "walk";rw [ja];refine zbq S2 l8 λp3 H3 e3 S3=>?_;exact Zy S3 k
 ·rw [jQ c] at k;walk_at "walk";rw [ja];refine zbq S2 l8 λp3 H3 e3 S3=>?_;walk_at "walk";refine zrm S3 (by walk_at "m") l8 λw4 H4 e4 S4=>?_;walk_at "walk";rename_i p5 H5 e5 S5;refine WR S5 (S5.vwC (by walk_at "mem")) (S5.vwC (by walk_at "mem")) (by show 1+1<=1000;decide) λp6 H6 e6 S6=>?_;exact Zy S6 k
abbrev zgl:Stmt:=top 42
theorem zhB:FnScope ["claims","amounts"] pK (zB zgl):=⟨rfl,rfl,rfl,by decide+kernel,rfl,by decide+kernel,by decide+kernel⟩
theorem znz (B:Bl mg) (B2:Bl3 mg) (ZI:Cal P w K mg base CX0 1 "whole_corner" ["parts"] spWC) (F:Fun K "evenly" "evenly" zgl f fd):FnOk P w K mg base CX0 2 f fd pK (zcf 1):=by
 refine F.ok zhB (λvs H Q E h=>?_) (λcdv A outer s H vs Q E hr h=>?_)
 ·obtain ⟨G,a,_,h,_⟩:=h;rw [<-h.len];rfl
 obtain ⟨G,l,eG,hA,ok,k⟩:=h;obtain ⟨v,rfl,al⟩:=Wq hA;have S:Sta H G H [] _:=Sta.enter eG al;have few:=ok.few;refine ⟨_,(zm (Zm 1 zhB.nd (yq (N:=paf) (n:=1) (fr:=[]) rfl ⟨rfl,by decide+kernel,rfl,by decide,rfl,rfl,rfl,rfl,rfl⟩ (ye (pv 0)) (λ_ _ _ _=>(xM 0 (show (paf:List Str).Nodup from by decide+kernel))) (λ_ _ _ _=>yd) (λ_ _ _ _=>(pix 0)))) (zu (zG (zpm (N:=["level","amounts"]) (n:=1) (fr:=[1]) (y:="level") rfl ⟨rfl,by decide+kernel,rfl,by decide,rfl,rfl,λ_ _=>rfl,λ_=>rfl,rfl,rfl,rfl,rfl⟩ (ye (zaH rfl rfl B2.sorted rfl B2.set (zM xo (Zq (zg zA zk)) (pv 1)))) (λ_ _ _ _=>(xM 0 (show (["level","amounts"]:List Str).Nodup from by decide+kernel))) (λ_ _ _ _=>yd) (λ_ _ _ _=>(pcl ZI hr (zg (yq (N:=["amount","level"]) (n:=1) (fr:=[0]) rfl ⟨rfl,by decide+kernel,rfl,by decide,rfl,rfl,rfl,rfl,rfl⟩ (ye (pv 1)) (λ_ _ _ _=>(xM 0 (show (["amount","level"]:List Str).Nodup from by decide+kernel))) (λ_ _ _ _=>yd) (λ_ _ _ _=>(zR (zib rfl) rfl B.min zif (zg (pv 0) (zg (pv 1) zk))))) zk))))))),zC ?_⟩;walk_at "walk";refine yf (xs:=l.map zP) S (by walk_at "m") λJ wk=>?_;refine zS wk (λj=> .int (l.getD j (0,0,0)).1) (ys:=(amV l).map PyData.int) (by unfold amV;rw [ja,js];exact zE (λc:Cl=>PyData.int c.1) (0,0,0) l) S (λ_ _=> .mem (by walk_at "mem")) (by rw [ja];omega) (λj x v B' G' Kd Kn hx t1 S hd C ex s0 H0=>?_) λD H1 e1 S1=>?_
 ·obtain ⟨c,hc,rfl⟩:=zZ hx;refine zN ⟨rfl,?_⟩;walk_at "walk";refine hd (by assumption) ?_;rw [zQ hc];exact Has.int
 have S2:Sta H G H1 [] [(.list ((amV l).map PyData.int), .ref D)]:=S1.freeze.weak (by walk_at "sub") (by walk_at "dats");clear S1;have l8:(amV l).length<=8:=by rw [yJ];omega
 have L:=ok.lv;have Lf:=L.few;dsimp only at k;unfold flV at k;have ek:zsB (amV l) (lvV (amV l)) 1=evP (amV l) (lvV (amV l)):=rfl;rw [ek] at k;generalize amV l=as at*;walk_at "walk";rename_i p3 H3 e3 S3;refine WR S3 (S3.vwC (by walk_at "mem")) (S3.vwL (by walk_at "m")) (by rw [ja];show 1+_<=1000;omega) λp4 H4 e4 S4=>?_;rw [show [PyData.int 0]++as.map PyData.int=(0::as).map PyData.int from rfl] at S4;refine VD S4 (by walk_at "mem") (by rw [jz];omega) λos l5 H5 h1 h2 e5 S5=>?_;cases lvV_eq h1 h2;generalize lvV as=ls at*;refine zm2 (xs:=ls.map PyData.int) S5 (by walk_at "mem") λJ2 wk2=>?_;refine zS wk2 (λj=>ya (yp (Vn as (ls.getD j 0)))) (ys:=(evP as ls).map ya) (by unfold evP;rw [ja,js];exact zE (λz:Int=>ya (yp (Vn as z))) 0 ls) S5 (λ_ _=>jf _ (by walk_at "mem")) (by rw [ja];omega) (λj x v B' G' Kd Kn hx t1 S hd C ex s0 H0=>?_) λD6 H6 e6 S6=>?_
 ·obtain ⟨z,hz,rfl⟩:=zZ hx;cases S.int1;refine zN ⟨rfl,?_⟩;walk_at "walk";refine yf (xs:=as.map PyData.int) S (by walk_at "m") λJ3 wk3=>?_;refine zS wk3 (λi=> .int (min (as.getD i 0) z)) (ys:=(Vn as z).map PyData.int) (by unfold Vn;rw [ja,js];exact zE (λa:Int=>PyData.int (min a z)) 0 as) S (λ_ _=> .mem (by walk_at "mem")) (by rw [ja];omega) (λi x u B3 G3 Kd2 Kn2 hx2 t2 S2 hd2 C2 ex2 s2 H2=>?_) λD7 H7 e7 S7=>?_
  ·obtain ⟨a,ha,rfl⟩:=zZ hx2;cases S2.int1;refine zN ⟨rfl,?_⟩;walk_at "walk";refine hd2 S2 ?_;rw [zQ ha];exact Has.int
  walk_at "walk";refine zrm S7.freeze (by walk_at "m") (by unfold Vn;rw [ja];exact l8) λw8 H8 e8 S8=>?_;refine hd S8 ?_;rw [zQ hz];exact .mem (by walk_at "mem")
 exact Zy S6 k
abbrev zgj:Stmt:=top 43
theorem zmJ:FnScope pK pK (zB zgj):=⟨rfl,rfl,rfl,by decide+kernel,rfl,by decide+kernel,by decide+kernel⟩
theorem znw (Vc:Cal P w K mg base CX0 2 "evenly" pK (zcf 1)) (Ur:Cal P w K mg base CX0 5 "turned" ["path"] zcI) (F:Fun K "losses" "losses" zgj f fd):FnOk P w K mg base CX0 6 f fd pK (zcf 2):=by
 refine F.ok zmJ (λvs H Q E h=>?_) (λcdv A outer s H vs Q E hr h=>?_)
 ·obtain ⟨G,a,_,h,_⟩:=h;rw [<-h.len];rfl
 obtain ⟨G,l,eG,hA,ok,k⟩:=h;obtain ⟨v,rfl,al⟩:=Wq hA;have S:Sta H G H [] _:=Sta.enter eG al;refine ⟨_,(zu (zG (pcl Ur hr (zg (pcl Vc hr (zg (pv 0) zk)) zk)))),zC ?_⟩;walk_at "walk";refine zbr S (by walk_at "m") ok λp1 H1 e1 S1=>?_;walk_at "walk";refine zhJ (a:=flV 1 l) S1.freeze (by walk_at "m") (ok.lv.inE ok.am) λp2 H2 e2 S2=>?_;rw [show yW (flV 1 l)=flV 2 l from zc2 ok.lv] at S2;exact Zy S2 k
abbrev zmL:Stmt:=top 46
theorem zrh:FnScope pZ pZ (zB zmL):=⟨rfl,rfl,rfl,by decide+kernel,rfl,by decide+kernel,by decide+kernel⟩
theorem zr9 (XS:Cal P w K mg base CX0 5 "behind" pak zan) (zcW:Cal P w K mg base CX0 4 "scaled" pat zfZ) (ZA:Cal P w K mg base CX0 3 "minus" pf zbd) (F:Fun K "upto" "upto" zmL f fd):FnOk P w K mg base CX0 6 f fd pZ zmz:=by
 refine F.ok zrh (λvs H Q E h=>?_) (λcdv A outer s H vs Q E hr h=>?_)
 ·obtain ⟨G,a,_,h,_⟩:=h;rw [<-h.len];rfl
 obtain ⟨G,⟨p,a,b⟩,eG,hA,ok,k⟩:=h;obtain ⟨v0,v1,v2,rfl,al⟩:=YY hA;have S:Sta H G H [] _:=Sta.enter eG al;dsimp only at ok k S;have zp:=ok.sz;have one:SzQ 1 (1:Rat):=by unfold SzQ Sz;decide+kernel
 obtain ⟨m,pm⟩:=ok.m;refine ⟨_,(zu (zG (pcl XS hr (zg (pcl zcW hr (zg (pv 1) (zg (pv 0) zk))) (zg (pcl zcW hr (zg (pv 2) (zg (pcl ZA hr (zg (yA (zg zA (zg zA zk))) (zg (pv 0) zk))) zk))) zk))))),zC ?_⟩;walk_at "walk";refine zhM (a:=a) (p:=p) S (by walk_at "m") (by walk_at "m") ok.pa (zp.mono (by decide)) λp1 H1 e1 S1=>?_;have S2:=S1.freeze;walk_at "walk";rename_i p3 H3 e3 S3;refine zhN (p:=(1:Rat)) (q:=p) S3 (by walk_at "m") (by walk_at "m") one zp (by decide) True.intro λw4 H4 e4 S4=>?_;walk_at "walk";refine zhM (a:=b) (p:=1 - p) S4 (by walk_at "m") (by walk_at "m") ok.pb ((one.sub zp).mono (by decide)) λp5 H5 e5 S5=>?_;walk_at "walk";refine zhP (a:=yj p a) (b:=yj (1 - p) b) S5.freeze (by walk_at "m") (by walk_at "m") ok.sa ok.sb pm λp6 H6 e6 S6=>?_;exact Zy S6 k
abbrev zgm:Stmt:=top 40
theorem zdl:FnScope ["shape","claims","word"] pU (zB zgm):=⟨rfl,rfl,rfl,by decide+kernel,rfl,by decide+kernel,by decide+kernel⟩
abbrev UT:Stmt:=YC (top 52) 3
theorem zhD:FnScope pal pal (zB UT):=⟨rfl,rfl,rfl,by decide+kernel,rfl,by decide+kernel,by decide+kernel⟩
abbrev VC:Stmt:=YC (top 52) 4
theorem zga:FnScope pR pR (zB VC):=⟨rfl,rfl,rfl,by decide+kernel,rfl,by decide+kernel,by decide+kernel⟩
end
abbrev zgh:Stmt:=top 38
theorem Xo:FnScope ["ones","twos","numbers","one","two"] pG (zB zgh):=⟨rfl,rfl,rfl,by decide+kernel,rfl,by decide+kernel,by decide+kernel⟩
theorem znu (B:Bl mg) (Uu:Cal P w K mg base CX0 1 "before" pf zcJ) (F:Fun K "merged" "merged" zgh f fd):FnOk P w K mg base CX0 2 f fd pG zf4:=by
 refine F.ok Xo (λvs H Q E h=>?_) (λcdv A outer s H vs Q E hr h=>?_)
 ·obtain ⟨G,a,_,h,_⟩:=h;rw [<-h.len];rfl
 obtain ⟨G,⟨p,q⟩,eG,hA,⟨⟨n,z1,z2,hn⟩,l1,l2⟩,k⟩:=h;obtain ⟨v1,v2,rfl,al⟩:=Zv hA;have S:Sta H G H [] [(.list (p.map frD),v1),(.list (q.map frD),v2)]:=Sta.enter eG al;dsimp only at z1 z2 l1 l2 k;have h2n:n+n<=100000000:=by omega
 refine ⟨_,(zm (Zm 2 Xo.nd (Zq zk)) (zm (Zm 3 Xo.nd zA) (zm (Zm 4 Xo.nd zA) (zm (zcM qe (PW.pt (zki (zK zdI (pv 3) (zR yB rfl B.len ZG (zg (pv 0) zk)) (zV _)) (zgu (zK zdI (pv 4) (zR yB rfl B.len ZG (zg (pv 1) zk)) (zV _))))) (zu (yO (Wo (pcl Uu hr (zg (xE yx (pv 0) (pv 3) (λ_ _=>rfl)) (zg (xE yx (pv 1) (pv 4) (λ_ _=>rfl)) zk)))) (zm (Zd (zey qp qO qP ZD (pv 2) (zg (xE yx (pv 0) (pv 3) (λ_ _=>rfl)) zk))) (zu (znd (i:=3) Xo.nd rfl (by walk_at "o") zA znZ))) (zm (yO (zK (yu (zJ hr)) (xE yx (pv 0) (pv 3) (λ_ _=>rfl)) (xE yx (pv 1) (pv 4) (λ_ _=>rfl)) (zV _)) (zu (znd (i:=3) Xo.nd rfl (by walk_at "o") zA znZ)) zU) (zm (Zd (zey qp qO qP ZD (pv 2) (zg (xE yx (pv 1) (pv 4) (λ_ _=>rfl)) zk))) (zu (znd (i:=4) Xo.nd rfl (by walk_at "o") zA znZ))))))) (zu (zG (zM xo (zM xo (pv 2) (zcO zf7 (pv 0) (zdv (pv 3)) zi0)) (zcO zf7 (pv 1) (zdv (pv 4)) zi0)))))))),zC ?_⟩;walk_at "walk";rename_i pn H1 e1 S1;refine zmk (λm σ cs ds=>∃(i j:Nat) (ns:List Rat),σ=[some v1,some v2,some (.ref pn),some (.int (i:Nat)),some (.int (j:Nat))]/\cs=[(pn,ns.map frD)]/\ds=[(.list (p.map frD),v1),(.list (q.map frD),v2)]/\i<=p.length/\j<=q.length/\ns.length<=i+j/\ns++yY (p.drop i) (q.drop j)=yY p q/\m=(p.length - i)+(q.length - j)) ((p.length - 0)+(q.length - 0)) S1 ⟨0,0,[],rfl,rfl,rfl,wg _,wg _,wg _,rfl,rfl⟩ ?_
 rintro m σ H2 cs ds ⟨i,j,ns,rfl,rfl,rfl,hi,hj,hns,hmg,rfl⟩ S2
 have cd:∀(l:List Rat) (t:Nat),t<=l.length->zs0 (l.map frD) (some ((t:Nat):Int)) none=(l.drop t).map frD:=by
  intro l t ht;unfold zs0;rw [HT.sIx_none,HT.sIx_nat,ja,Nat.min_eq_left ht,qy (by rw [qt,ja];exact jy _),<-List.map_drop]
 walk_at "walk";refine XL (λc1=>?_) (λc1=>?_)
 ·rw [ja] at c1;walk_at "walk";refine zmQ (λc2=>?_) (λc2=>?_)
  ·rw [ja,decide_eq_true_eq] at c2;have hi':i<p.length:=by omega
   have hj':j<q.length:=by omega
   have gi:=jb hi';have gj:=jb hj';have di:=JJ hi';have dj:=JJ hj';have zi:=z1 _ (qa hi');have zj:=z2 _ (qa hj');generalize p[i]=x at*;generalize q[j]=y at*;have ix:atI (p.map frD) ((i:Nat):Int)=some (frD x):=xi (by rw [jh,gi];rfl);have iy:atI (q.map frD) ((j:Nat):Int)=some (frD y):=xi (by rw [jh,gj];rfl);rw [di,dj,yY] at hmg;walk_at "walk";refine xR (xs:=p.map frD) (x:=frD x) S2 (by walk_at "m") ix λw3 S3=>?_;walk_at "walk";refine xR (xs:=q.map frD) (x:=frD y) S3 (by walk_at "m") iy λw4 S4=>?_;walk_at "walk";refine zds S4 (by walk_at "m") (by walk_at "m") zi zj h2n ?_;walk_at "walk";refine XL (λc3=>?_) (λc3=>?_)
   ·rw [jK c3] at hmg;walk_at "walk";refine xR (xs:=p.map frD) (x:=frD x) S4 (by walk_at "m") ix λw5 S5=>?_;walk_at "walk";refine Zh (y:=frD x) S5 (by walk_at "m") (by rw [ja];omega) λH6 S6=>?_;walk_at "walk";refine ⟨_,?_,_,_,S6.dat (by walk_at "dats"),i+1,j,ns++[x],rfl,by rw [qx];rfl,rfl,hi',hj,by rw [jJ,wI];omega,?_,rfl⟩
    ·omega
    ·rw [<-hmg,dj,wb];rfl
   ·rw [jQ c3] at hmg;walk_at "walk";refine xR (xs:=p.map frD) (x:=frD x) S4 (by walk_at "m") ix λw5 S5=>?_;walk_at "walk";refine xR (xs:=q.map frD) (x:=frD y) S5 (by walk_at "m") iy λw6 S6=>?_;refine zm5 (x:=frD x) (y:=frD y) (S6.hp (by walk_at "m")) (S6.hp (by walk_at "m")) (zfc _) (zfc _) ?_;rw [zsF];walk_at "walk";refine XL (λc4=>?_) (λc4=>?_)
    ·rw [jK c4] at hmg;walk_at "walk";refine xR (xs:=q.map frD) (x:=frD y) S6 (by walk_at "m") iy λw7 S7=>?_;walk_at "walk";refine Zh (y:=frD y) S7 (by walk_at "m") (by rw [ja];omega) λH8 S8=>?_;walk_at "walk";refine ⟨_,?_,_,_,S8.dat (by walk_at "dats"),i+1,j+1,ns++[y],rfl,by rw [qx];rfl,rfl,hi',hj',by rw [jJ,wI];omega,?_,rfl⟩
     ·omega
     ·rw [<-hmg,wb];rfl
    ·rw [jQ c4] at hmg;walk_at "walk";refine xR (xs:=q.map frD) (x:=frD y) S6 (by walk_at "m") iy λw7 S7=>?_;walk_at "walk";refine Zh (y:=frD y) S7 (by walk_at "m") (by rw [ja];omega) λH8 S8=>?_;walk_at "walk";refine ⟨_,?_,_,_,S8.dat (by walk_at "dats"),i,j+1,ns++[y],rfl,by rw [qx];rfl,rfl,hi,hj',by rw [jJ,wI];omega,?_,rfl⟩
     ·omega
     ·rw [<-hmg,di,wb];rfl
  ·rw [ja,decide_eq_false_iff_not] at c2;have hend:p.length<=i\/q.length<=j:= .inr (by omega);walk_at "walk";refine zhL (xs:=p.map frD) S2 (by walk_at "m") λl3 H3 e3 S3=>?_;rw [cd p i hi] at S3;refine WR S3 (S3.vwC (by walk_at "mem")) (S3.vwC (by walk_at "mem")) (by rw [ja,ja,qt];omega) λp4 H4 e4 S4=>?_;walk_at "walk";refine zhL (xs:=q.map frD) S4 (by walk_at "m") λl5 H5 e5 S5=>?_;rw [cd q j hj] at S5;refine WR S5 (S5.vwC (by walk_at "mem")) (S5.vwC (by walk_at "mem")) (by rw [jJ,ja,ja,ja,qt,qt];omega) λp6 H6 e6 S6=>?_;refine zmT ?_
   have em:(ns.map frD++(p.drop i).map frD)++(q.drop j).map frD=(yY p q).map frD:=by
    rw [<-hmg,qx,wb]
    congr 1
    rcases hend with h|h
    ·rw [Ju h,yY];simp
    ·rw [Ju h,zdL];simp
   rw [em] at S6;exact Zy (S6.weak (cs':=[_]) (by walk_at "sub") Dats.nil) k
 ·rw [ja] at c1;have hend:p.length<=i\/q.length<=j:= .inl (by omega);refine zmQ (λh=>by cases h) (λ_=>?_);walk_at "walk";refine zhL (xs:=p.map frD) S2 (by walk_at "m") λl3 H3 e3 S3=>?_;rw [cd p i hi] at S3;refine WR S3 (S3.vwC (by walk_at "mem")) (S3.vwC (by walk_at "mem")) (by rw [ja,ja,qt];omega) λp4 H4 e4 S4=>?_;walk_at "walk";refine zhL (xs:=q.map frD) S4 (by walk_at "m") λl5 H5 e5 S5=>?_;rw [cd q j hj] at S5;refine WR S5 (S5.vwC (by walk_at "mem")) (S5.vwC (by walk_at "mem")) (by rw [jJ,ja,ja,ja,qt,qt];omega) λp6 H6 e6 S6=>?_;refine zmT ?_
  have em:(ns.map frD++(p.drop i).map frD)++(q.drop j).map frD=(yY p q).map frD:=by
   rw [<-hmg,qx,wb]
   congr 1
   rcases hend with h|h
   ·rw [Ju h,yY];simp
   ·rw [Ju h,zdL];simp
  rw [em] at S6;exact Zy (S6.weak (cs':=[_]) (by walk_at "sub") Dats.nil) k
abbrev Yo:Stmt:=top 36
theorem xl:FnScope ["path","place","levels","amounts","purses","level","reached","portion"] pao (zB Yo):=⟨rfl,rfl,rfl,by decide+kernel,rfl,by decide+kernel,by decide+kernel⟩
theorem zpt (B:Bl mg) (Wg:Cal P w K mg base CX0 2 "last_reached" pan zj5) (YF:Cal P w K mg base CX0 4 "portion_reached" pS zal) (zad:Cal P w K mg base CX0 4 "amount_at" pQ zcK) (F:Fun K "purses_reaching" "purses_reaching" Yo f fd):FnOk P w K mg base CX0 5 f fd pao ziM:=by
 refine F.ok xl (λvs H Q E h=>?_) (λcdv A outer s H vs Q E hr h=>?_)
 ·obtain ⟨G,a,_,h,_⟩:=h;rw [<-h.len];rfl
 obtain ⟨G,⟨a,kk,L⟩,eG,hA,⟨m,n,b,ok⟩,k⟩:=h;obtain ⟨v1,v2,v3,rfl,al⟩:=YY hA;have S:Sta H G H [] [(yX a,v1),(.int (kk:Nat),v2),(.list (L.map frD),v3)]:=Sta.enter eG al;dsimp only at ok k;cases (S.hp (x:= .int (kk:Nat)) (v:=v2) (by walk_at "m")).int_of;have la:0<a.length:=wZ.mpr ok.pr.ne;have fa:=ok.pr.few;have fl:=ok.few;have hz:=ok.sz;refine ⟨_,(zm (xx (i:=3) (N:=["corner","place"]) (n:=1) (fr:=[1]) xl.nd rfl rfl rfl ⟨rfl,by decide+kernel,rfl,by decide,rfl,rfl,rfl,rfl,rfl⟩ (ye (pv 0)) (λ_ _ _ _=>(xM 0 (show (["corner","place"]:List Str).Nodup from by decide+kernel))) (λ_ _ _ _=>yd) (λ_ _ _ _=>(xE yx (pix 0) (pv 1) (λ_ _=>rfl)))) (zm (Zm 4 xl.nd (Zq zk)) (zm (Xw qe rfl (ye (pv 2)) (xM 5 xl.nd) (zm (Zm 6 xl.nd (pcl Wg hr (zg (pv 3) (zg (pv 5) zk)))) (zu (yO (zK zdI (pv 6) (zM VM (zR yB rfl B.len ZG (zg (pv 0) zk)) zA) (zV _)) (zm (Zm 7 xl.nd (pcl YF hr (zg (xE yx (pv 3) (pv 6) (λ_ _=>rfl)) (zg (xE yx (pv 3) (zM xo (pv 6) zA) (λ_ _=>rfl)) (zg (pv 5) zk))))) (zu (Zd (zey qp qO qP ZD (pv 4) (zg (pcl zad hr (zg (xE yx (xE yx (pv 0) (pv 6) (λ_ _=>rfl)) zA (λ_ _=>rfl)) (zg (xE yx (xE yx (pv 0) (zM xo (pv 6) zA) (λ_ _=>rfl)) zA (λ_ _=>rfl)) (zg (pv 7) zk)))) zk))))) zU)))) (zu (zG (pv 4)))))),zC ?_⟩;walk_at "walk";refine yf (xs:=a.map ya) S (by walk_at "m") λJ wk=>?_;refine zS wk (λj=>frD ((λc:zh=>c.2.getD kk 0) (a.getD j (0,[])))) (ys:=(a.map λc=>c.2.getD kk 0).map frD) (by rw [ja,js];exact zE (λc:zh=>frD (c.2.getD kk 0)) (0,[]) a) S (λ_ _=> .mem (by walk_at "mem")) (by rw [ja];omega) (λj x v B' G' Kd Kn hx t1 S hd C ex s0 H0=>?_) λD H1 e1 S1=>?_
 ·obtain ⟨c,hc,rfl⟩:=zZ hx;have gc:=getD_some (l:=c.2) (k:=kk) (by rw [ok.pm.t.len c (jc hc)];exact ok.kn);refine zN ⟨rfl,?_⟩;walk_at "walk";rename_i w2 S2;refine zfm (xs:=c.2.map frD) (x:=frD (c.2.getD kk 0)) S2 (by walk_at "m") (xi (by rw [jh,gc];rfl)) λw3 S3=>?_;refine hd S3 ?_;rw [zQ hc];exact .mem (by walk_at "mem")
 have S2:=S1.freeze;clear S1;walk_at "walk";rename_i pp H3 e3 S3;have S4:Sta H G H3 [(pp,[])] [(.list ((a.map λc=>c.2.getD kk 0).map frD), .ref D),(yX a,v1),(.list (L.map frD),v3)]:=S3.dat (by walk_at "dats");refine yf (xs:=L.map frD) S4 (by walk_at "m") λJ wk=>?_;refine XC wk (λi σ cs ds=>∃(x5 x6 x7:Option V),σ=[some v1,some (.int (kk:Nat)),some v3,some (.ref D),some (.ref pp),x5,x6,x7]/\cs=[(pp,((L.take i).filterMap (xQ a kk)).map frD)]/\ds=[(.list ((a.map λc=>c.2.getD kk 0).map frD), .ref D),(yX a,v1),(.list (L.map frD),v3)]) S4 ⟨none,none,none,rfl,rfl,rfl⟩ (λi σ cs ds h=>?_) ?_ ?_
 ·obtain ⟨_,_,_,_,_,rfl⟩:=h;exact .mem (by walk_at "mem")
 ·rintro i x u σ H5 cs ds hx ⟨x5,x6,x7,rfl,rfl,rfl⟩ S5
  obtain ⟨l,hl,rfl⟩:=zZ hx;obtain ⟨zl,l0⟩:=ok.lev l (jc hl);have hil:i<L.length:=(je.mp hl).1;have zq:∀c∈a,SzQ n (c.2.getD kk 0):=λc hc=>(ok.pr.sz c hc).2 _ (jc (getD_some (l:=c.2) (k:=kk) (by rw [ok.pm.t.len c hc];exact ok.kn)))
  have stepL:∀o:Option Rat,xQ a kk l=o->((L.take (i+1)).filterMap (xQ a kk)).map frD=((L.take i).filterMap (xQ a kk)).map frD++(o.toList.map frD):=λo ho=>by
   rw [qV,hl,List.filterMap_append,qx]
   congr 1
   cases o with
   |none=>simp [ho]
   |some y=>simp [ho]
  walk_at "walk";refine zm0 (qs:=a.map λc=>c.2.getD kk 0) (e:=l) (n:=9000) S5 (S5.hp (by walk_at "m")) (S5.hp (by walk_at "m")) ⟨by rw [ja];exact la,by rw [ja];omega,λq hq=>?_,zl.mono (by omega),by decide,λq hq=>?_⟩ λr q hi hqe hnx=>?_
  ·obtain ⟨c,hc,rfl⟩:=jk.mp hq;exact (zq c hc).mono (by omega)
  ·obtain ⟨c,hc,rfl⟩:=zZ hq;exact l0 c hc
  obtain ⟨c,hc,rfl⟩:=zZ hi;have hra:r<a.length:=(je.mp hc).1;rw [ja] at hnx;walk_at "walk";refine XL (λc1=>?_) (λc1=>?_)
  ·rw [ja] at c1
   obtain ⟨y,hy,hly⟩:∃y,(a.map λc=>c.2.getD kk 0)[r+1]? =some y/\l<y:=by
    rcases hnx with h|h
    ·omega
    ·exact h
   obtain ⟨d,hd,rfl⟩:=zZ hy
   have key:xQ a kk l=some (ZE ((l - c.2.getD kk 0) / (d.2.getD kk 0 - c.2.getD kk 0)) c.1 d.1):=by
    have pm:=ok.pm;have okk:=ok.kn
    obtain ⟨c0,r0,e0⟩:∃c r,a=c::r:=by
     cases a with
     |nil=>simp at hra
     |cons c r=>exact ⟨c,r,rfl⟩
    rw [e0] at pm hc hd⊢;exact zhI okk pm hc hd hqe hly
   have zc:=zq c (jc hc);have zd:=zq d (jc hd);have z1:=(ok.pr.sz c (jc hc)).1;have z2:=(ok.pr.sz d (jc hd)).1;have er:((r:Nat):Int)+1=((r+1:Nat):Int):=by omega
   have hne:d.2.getD kk 0≠c.2.getD kk 0:=λz=>by rw [z] at hly;exact we.mpr hly hqe
   have zt:=SzQ.port zl zc zd;have st:=stepL _ key;walk_at "walk";refine xR (xs:=(a.map λc=>c.2.getD kk 0).map frD) (x:=frD (c.2.getD kk 0)) S5 (by walk_at "m") (xi (by rw [jh,hi];rfl)) λw6 S6=>?_;walk_at "walk";refine xR (xs:=(a.map λc=>c.2.getD kk 0).map frD) (x:=frD (d.2.getD kk 0)) S6 (by walk_at "m") (by rw [er];exact xi (by rw [jh,hy];rfl)) λw7 S7=>?_;walk_at "walk";generalize c.2.getD kk 0=x0 at*;generalize d.2.getD kk 0=y0 at*;refine zfj S7 (by walk_at "m") (by walk_at "m") (by walk_at "m") zc zd zl (by omega) hne λr8 H8 e8 S8=>?_;generalize (l - x0) / (y0 - x0)=t at*;walk_at "walk";refine xR (xs:=a.map ya) (x:=ya c) S8 (by walk_at "m") (xi (by rw [jh,hc];rfl)) λw9 S9=>?_;walk_at "walk";rename_i w10 S10;refine xR (xs:=a.map ya) (x:=ya d) S10 (by walk_at "m") (by rw [er];exact xi (by rw [jh,hd];rfl)) λw11 S11=>?_;walk_at "walk";rename_i w12 S12;refine zhQ S12 (by walk_at "m") (by walk_at "m") (by walk_at "m") z1 z2 zt (by omega) λr13 H13 e13 S13=>?_;walk_at "walk";refine Zh (y:=frD (ZE t c.1 d.1)) S13 (by walk_at "m") ?_ λH14 S14=>?_
   ·rw [ja];have:=Jm (xQ a kk) (L.take i);rw [qS] at this;omega
   walk_at "walk";exact VE (S14.dat (by walk_at "dats")) ⟨_,_,_,rfl,by rw [st];rfl,rfl⟩
  ·rw [ja] at c1;have hrl:r+1=a.length:=by omega
   have key:xQ a kk l=none:=by
    have pm:=ok.pm;have okk:=ok.kn
    obtain ⟨c0,r0,e0⟩:∃c r,a=c::r:=by
     cases a with
     |nil=>simp at hra
     |cons c r=>exact ⟨c,r,rfl⟩
    rw [e0] at pm hc hrl⊢;refine zfi okk pm λl' hl'=>?_;rw [wu,<-hrl,Nat.add_sub_cancel,hc] at hl';cases hl';exact hqe
   have st:=stepL _ key;walk_at "walk";exact VE (S5.dat (by walk_at "dats")) ⟨_,_,_,rfl,by rw [st];simp,rfl⟩
 ·rintro σ H5 cs ds ⟨x5,x6,x7,rfl,rfl,rfl⟩ S5
  rw [ja,List.take_length] at S5;walk_at "walk";exact Zy S5 k
abbrev XX:Stmt:=top 37
theorem ZX:FnScope ["path","others","purse","parts","part","other"] pap (zB XX):=⟨rfl,rfl,rfl,by decide+kernel,rfl,by decide+kernel,by decide+kernel⟩
theorem zlp (B:Bl mg) (Ut:Cal P w K mg base CX0 6 "parts_at" ["path","purse"] zam) (F:Fun K "parts_within" "parts_within" XX f fd):FnOk P w K mg base CX0 7 f fd pap zbc:=by
 refine F.ok ZX (λvs H Q E h=>?_) (λcdv A outer s H vs Q E hr h=>?_)
 ·obtain ⟨G,a,_,h,_⟩:=h;rw [<-h.len];rfl
 obtain ⟨G,⟨a,Qs,e⟩,eG,hA,ok,k⟩:=h;obtain ⟨v1,v2,v3,rfl,al⟩:=YY hA;have S:Sta H G H [] [(yX a,v1),(.list (Qs.map yX),v2),(frD e,v3)]:=Sta.enter eG al;dsimp only at ok k;unfold xF at k;have few:=ok.few;have len:=ok.len;have part:=ok.part;refine ⟨_,(zm (Zm 3 ZX.nd (Zq zk)) (zm (Xw qe rfl (UA false true rfl B.zip (zg (pcl Ut hr (zg (pv 0) (zg (pv 2) zk))) (zg (pv 1) zk))) (YX rfl (yi (xM 4 ZX.nd) (yi (xM 5 ZX.nd) Zz))) (zu (Zd (zey qp PySem.F.slot_list_extend PySem.F.type_list_extend zlz (pv 3) (zg (pcl Ut hr (zg (pv 5) (zg (pv 4) zk))) zk))))) (zu (zG (YL ZO rfl B.tuple Xe (zg (pv 3) zk)))))),zC ?_⟩;walk_at "walk";rename_i pp H1 e1 S1;refine zbp (a:=a) (e:=e) (m:=700) (n:=700) S1 (by walk_at "m") (by walk_at "m") ok.p ok.ez (by decide) ok.e0 λr2 H2 e2 S2=>?_;walk_at "walk";generalize zo a e=ps at*;have S3:Sta H G H2 [(pp,[])] [(xr ps,r2),(.list (Qs.map yX),v2)]:=S2.dat (by walk_at "dats");refine zke (xs:=ps.map frD) (ys:=Qs.map yX) S3 (by walk_at "m") (by walk_at "m") λJ wk=>?_;refine XC wk (λi σ cs ds=>∃(x4 x5:Option V),σ=[some v1,some v2,some v3,some (.ref pp),x4,x5]/\cs=[(pp,(((List.zipWith zo Qs ps).take i).flatten).map frD)]/\ds=[(xr ps,r2),(.list (Qs.map yX),v2)]) S3 ⟨none,none,rfl,rfl,rfl⟩ (λi σ cs ds h=>?_) ?_ ?_
 ·obtain ⟨_,_,_,_,rfl⟩:=h;exact ⟨.mem (by walk_at "mem"),λ_ _ h=>h.tail, .mem (by walk_at "mem")⟩
 ·rintro i z u σ H4 cs ds hz ⟨x4,x5,rfl,rfl,rfl⟩ S4
  obtain ⟨z1,z2,h1,h2,rfl⟩:=Xn hz;obtain ⟨p,hp,rfl⟩:=zZ h1;obtain ⟨Q',hQ,rfl⟩:=zZ h2;have op:=part p (jc hp);obtain ⟨oq,ql⟩:=ok.q Q' (jc hQ);refine Zp (Zo S4 (by walk_at "m") λw4 w5 S5=>?_);walk_at "walk";refine zbp (a:=Q') (e:=p) (m:=700) (n:=700) S5 (by walk_at "m") (by walk_at "m") oq op.1 (by decide) op.2 λr6 H6 e6 S6=>?_;walk_at "walk";refine zlg (ys:=(zo Q' p).map frD) S6 (by walk_at "m") ?_ λH7 S7=>?_
  ·rw [ja,ja];have l1:=zoa (ps:=ps) i λQ hQ c hc=>(ok.q Q hQ).2 c hc;have l2:=zdF (e:=p) ql;omega
  walk_at "walk";refine VE (S7.dat (by walk_at "dats")) ⟨_,_,rfl,?_,rfl⟩;rw [qV,jt,hQ,hp]
  simp
 ·rintro σ H4 cs ds ⟨x4,x5,rfl,rfl,rfl⟩ S4
  rw [xL,ja,ja,qy (by rw [jA];omega)] at S4;walk_at "walk";exact Yb (by assumption) k (by walk_at "m")
abbrev zgb:Stmt:=top 27
theorem Vt:FnScope ["path","others","purses","place","other"] pav (zB zgb):=⟨rfl,rfl,rfl,by decide+kernel,rfl,by decide+kernel,by decide+kernel⟩
theorem znl (B:Bl mg) (zhe:Cal P w K mg base CX0 2 "merged" pG zf4) (zb8:Cal P w K mg base CX0 5 "purses_reaching" pao ziM) (ze7:Cal P w K mg base CX0 7 "parts_within" pap zbc) (F:Fun K "within" "within" zgb f fd):FnOk P w K mg base CX0 8 f fd pav zaj:=by
 refine F.ok Vt (λvs H Q E h=>?_) (λcdv A outer s H vs Q E hr h=>?_)
 ·obtain ⟨G,a,_,h,_⟩:=h;rw [<-h.len];rfl
 obtain ⟨G,⟨a,Qs⟩,eG,hA,ok,k⟩:=h;obtain ⟨v1,v2,rfl,al⟩:=Zv hA;have S:Sta H G H [] [(yX a,v1),(.list (Qs.map yX),v2)]:=Sta.enter eG al;dsimp only at ok k;have pl:=ok.pl;have few:=ok.few;refine ⟨_,(zm (xx (i:=2) (N:=["corner"]) (n:=1) (fr:=[]) Vt.nd rfl rfl rfl ⟨rfl,by decide+kernel,rfl,by decide,rfl,rfl,rfl,rfl,rfl⟩ (ye (pv 0)) (λ_ _ _ _=>(xM 0 (show (["corner"]:List Str).Nodup from by decide+kernel))) (λ_ _ _ _=>yd) (λ_ _ _ _=>(pix 0))) (zm (Xw qe rfl (zdA true rfl B.enumerate (zg (pv 1) zk)) (YX rfl (yi (xM 3 Vt.nd) (yi (xM 4 Vt.nd) Zz))) (zu (Zm 2 Vt.nd (pcl zhe hr (zg (pv 2) (zg (pcl zb8 hr (zg (pv 0) (zg (pv 3) (zg (yq (N:=["corner"]) (n:=1) (fr:=[]) rfl ⟨rfl,by decide+kernel,rfl,by decide,rfl,rfl,rfl,rfl,rfl⟩ (ye (pv 4)) (λ_ _ _ _=>(xM 0 (show (["corner"]:List Str).Nodup from by decide+kernel))) (λ_ _ _ _=>yd) (λ_ _ _ _=>(pix 0))) zk)))) zk)))))) (zu (zG (yq (N:=["purse","path","others"]) (n:=1) (fr:=[0,1]) rfl ⟨rfl,by decide+kernel,rfl,by decide,rfl,rfl,rfl,rfl,rfl⟩ (ye (pv 2)) (λ_ _ _ _=>(xM 0 (show (["purse","path","others"]:List Str).Nodup from by decide+kernel))) (λ_ _ _ _=>yd) (λ_ _ _ _=>(yA (zg (pv 0) (zg (pcl ze7 hr (zg (pv 1) (zg (pv 2) (zg (pv 0) zk)))) zk))))))))),zC ?_⟩;walk_at "walk";refine yf (xs:=a.map ya) S (by walk_at "m") λJ wk=>?_;refine zS wk (λj=>frD ((λc:zh=>c.1) (a.getD j (0,[])))) (ys:=(yr a).map frD) (by unfold yr;rw [ja,js];exact zE (λc:zh=>frD c.1) (0,[]) a) S (λ_ _=> .mem (by walk_at "mem")) (by rw [ja];omega) (λj x v B' G' Kd Kn hx t1 S hd C ex s0 H0=>?_) λD H1 e1 S1=>?_
 ·obtain ⟨c,hc,rfl⟩:=zZ hx;refine zN ⟨rfl,?_⟩;walk_at "walk";refine hd (by assumption) ?_;rw [zQ hc];exact .mem (by walk_at "mem")
 have S2:=S1.freeze;clear S1;walk_at "walk";refine zgt (xs:=Qs.map yX) S2 (by walk_at "m") λJ wk=>?_;refine XC wk (λi σ cs ds=>∃(pp:Addr) (x3 x4:Option V),σ=[some v1,some v2,some (.ref pp),x3,x4]/\cs=[]/\ds=[(.list ((wpF a 0 (Qs.take i) (yr a)).map frD), .ref pp),(yX a,v1),(.list (Qs.map yX),v2)]) S2 ⟨D,none,none,rfl,rfl,rfl⟩ (λi σ cs ds h=>?_) ?_ ?_
 ·obtain ⟨_,_,_,_,_,rfl⟩:=h;exact .mem (by walk_at "mem")
 ·rintro i x u σ H3 cs ds hx ⟨pp,x3,x4,rfl,rfl,rfl⟩ S3
  obtain ⟨x0,hx0,rfl⟩:=Uj hx;obtain ⟨Q',hQ,rfl⟩:=zZ hx0;have hil:i<Qs.length:=(je.mp hQ).1;have ql:=ok.ql Q' (jc hQ);refine Zp (Zo S3 (by walk_at "m") λw3 w4 S4=>?_);cases S4.int1;walk_at "walk";refine yf (xs:=Q'.map ya) S4 (by walk_at "m") λJ2 wk2=>?_;refine zS wk2 (λj=>frD ((λc:zh=>c.1) (Q'.getD j (0,[])))) (ys:=(yr Q').map frD) (by unfold yr;rw [ja,js];exact zE (λc:zh=>frD c.1) (0,[]) Q') S4 (λ_ _=> .mem (by walk_at "mem")) (by rw [ja];omega) (λj x v B' G' Kd Kn hx t1 S hd C ex s0 H0=>?_) λD5 H5 e5 S5=>?_
  ·obtain ⟨c,hc,rfl⟩:=zZ hx;refine zN ⟨rfl,?_⟩;walk_at "walk";refine hd (by assumption) ?_;rw [zQ hc];exact .mem (by walk_at "mem")
  have S6:=S5.freeze;clear S5;walk_at "walk";refine zo8 (P:=a) (k:=i) (L:=yr Q') S6 (by walk_at "m") (by walk_at "m") (ok.reach hQ) λp7 H7 e7 S7=>?_;have S8:Sta H G H7 [] [(.list ((Xu a i Q').map frD), .ref p7),(.list ((wpF a 0 (Qs.take i) (yr a)).map frD), .ref pp),(yX a,v1),(.list (Qs.map yX),v2)]:=S7.freeze.dat (by walk_at "dats");clear S7;walk_at "walk";refine zmZ (p:=wpF a 0 (Qs.take i) (yr a)) (q:=Xu a i Q') (n:=700) S8 (by walk_at "m") (by walk_at "m") (λq hq=>(ok.szM _ (zoO hq)).1) (λq hq=>(ok.szM _ (zbv.mpr (.inr ⟨i,Q',hQ,by rw [JS];exact hq⟩))).1) (by decide) (by have:=ok.len i;omega) ?_ λpm H9 e9 S9=>?_
  ·unfold Xu;have:=Jm (xQ a i) (yr Q');have e:(yr Q').length=Q'.length:=by unfold yr;rw [ja]
   omega
  walk_at "walk";have et:Qs.take (i+1)=Qs.take i++[Q']:=by rw [qV,hQ];rfl
  have ew:wpF a 0 (Qs.take (i+1)) (yr a)=yY (wpF a 0 (Qs.take i) (yr a)) (Xu a i Q'):=by
   rw [et,zjV,JS,qS,Nat.min_eq_left (by omega)]
  refine VE (S9.freeze.dat (ds':=[(.list ((yY (wpF a 0 (Qs.take i) (yr a)) (Xu a i Q')).map frD), .ref pm),(yX a,v1),(.list (Qs.map yX),v2)]) (by walk_at "dats")) ⟨pm,_,_,rfl,rfl,by rw [ew]⟩
 ·rintro σ H3 cs ds ⟨pp,x3,x4,rfl,rfl,rfl⟩ S3
  rw [ZF,ja,List.take_length] at S3;walk_at "walk";refine yf (xs:=(wpV a Qs).map frD) S3 (by walk_at "m") λJ2 wk2=>?_;refine zS wk2 (λj=>ya ((λe:Rat=>(e,xF Qs (zo a e))) ((wpV a Qs).getD j 0))) (ys:=(yV a Qs).map ya) (by unfold yV;rw [ja,js];exact zE (λe:Rat=>ya (e,xF Qs (zo a e))) 0 (wpV a Qs)) S3 (λ_ _=> .mem (by walk_at "mem")) (by rw [ja];have:=ok.lenV;omega) (λj x v B' G' Kd Kn hx t1 S hd C ex s0 H0=>?_) λD5 H5 e5 S5=>?_
  ·obtain ⟨e,he,rfl⟩:=zZ hx;refine zN ⟨rfl,?_⟩;walk_at "walk";refine ziY (P:=a) (Qs:=Qs) (e:=e) S (by walk_at "m") (by walk_at "m") (by walk_at "m") (ok.pw (jc he)) λr6 H6 e6 S6=>?_;walk_at "walk";refine hd (by assumption) ?_;rw [zQ he];exact .mem (by walk_at "mem")
  walk_at "walk";exact Zy S5 k
abbrev zbj:Stmt:=top 9
theorem ziS:FnScope pY pY (zB zbj):=⟨rfl,rfl,rfl,by decide+kernel,rfl,by decide+kernel,by decide+kernel⟩
theorem zpp (F:Fun K "those_at" "those_at" zbj f fd):FnOk P w K mg base CX0 1 f fd pY zc7:=by
 refine F.ok ziS (λvs H Q E h=>?_) (λcdv A outer s H vs Q E hr h=>?_)
 ·obtain ⟨G,a,_,h,_⟩:=h;rw [<-h.len];rfl
 obtain ⟨G,⟨l,pl⟩,eG,hA,⟨lt,few⟩,k⟩:=h;obtain ⟨v0,v1,rfl,al⟩:=Zv hA;have S:Sta H G H [] [(zH l,v0),(plD pl,v1)]:=Sta.enter eG al;dsimp only at lt few k;refine ⟨_,(zu (zG (yq (N:=["place","claims"]) (n:=1) (fr:=[0]) rfl ⟨rfl,by decide+kernel,rfl,by decide,rfl,rfl,rfl,rfl,rfl⟩ (ye (pv 1)) (λ_ _ _ _=>(xM 0 (show (["place","claims"]:List Str).Nodup from by decide+kernel))) (λ_ _ _ _=>yd) (λ_ _ _ _=>(xE yx (pv 1) (pv 0) (λ_ _=>rfl)))))),zC ?_⟩;walk_at "walk";refine yf (xs:=pl.map λ(i:Nat)=>PyData.int (i:Int)) S (by walk_at "m") λJ wk=>?_;refine zS wk (λj=>zP (l.getD (pl.getD j 0) (0,0,0))) (ys:=(yP (0,0,0) pl l).map zP) (by unfold yP;rw [ja,js];exact zE (λi:Nat=>zP (l.getD i (0,0,0))) 0 pl) S (λ_ _=> .mem (by walk_at "mem")) (by rw [ja];omega) (λj x v B' G' Kd Kn hx t1 S hd C ex s0 H0=>?_) λD H1 e1 S1=>?_
 ·obtain ⟨i,hi,rfl⟩:=zZ hx;cases S.int1;have il:=lt i (jc hi);have hc:=jb il;refine zN ⟨rfl,?_⟩;walk_at "walk";refine xR (xs:=l.map zP) (x:=zP l[i]) S (by walk_at "m") (xi (by rw [jh,hc];rfl)) λw2 S2=>?_;refine hd S2 ?_;rw [zQ hi,zQ hc];exact .mem (by walk_at "mem")
 exact Zy S1 k
abbrev YN:Stmt:=top 10
theorem zbg:FnScope pam pam (zB YN):=⟨rfl,rfl,rfl,by decide+kernel,rfl,by decide+kernel,by decide+kernel⟩
theorem zns (B:Bl mg) (F:Fun K "places_of_rank" "places_of_rank" YN f fd):FnOk P w K mg base CX0 1 f fd pam (WJ zW):=by
 refine F.ok zbg (λvs H Q E h=>?_) (λcdv A outer s H vs Q E hr h=>?_)
 ·obtain ⟨G,a,_,h,_⟩:=h;rw [<-h.len];rfl
 obtain ⟨G,⟨l,g⟩,eG,hA,few,k⟩:=h;obtain ⟨v0,v1,rfl,al⟩:=Zv hA;have S0:Sta H G H [] [(.int g,v1),(zH l,v0)]:=(Sta.enter eG al).dat (by walk_at "dats");cases S0.int1;have S:Sta H G H [] [(zH l,v0)]:=S0.dat (by walk_at "dats");dsimp only at few k;refine ⟨_,(zu (zG (yq (N:=["place","claim","rank"]) (n:=2) (fr:=[1]) rfl ⟨rfl,by decide+kernel,rfl,by decide,rfl,rfl,rfl,rfl,rfl⟩ (zdA true rfl B.enumerate (zg (pv 0) zk)) (λ_ _ _ _=>(YX rfl (yi (xM 0 (show (["place","claim","rank"]:List Str).Nodup from by decide+kernel)) (yi (xM 1 (show (["place","claim","rank"]:List Str).Nodup from by decide+kernel)) Zz)))) (λ_ _ _ _=>(zdx (zK (yu (zJ hr)) (pix 1) (pv 2) (zV _)))) (λ_ _ _ _=>(pv 0))))),zC ?_⟩;walk_at "walk";refine zgt (xs:=l.map zP) S (by walk_at "m") λJ wk=>?_;refine zbK wk (λj=>if zW g (l.getD j (0,0,0)) then some (.int (j:Int)) else none) S (λ_ _=> .mem (by walk_at "mem")) (by rw [ZF,ja];omega) (λi x v B' G' Kd Kn hx t1 S hd hn C ex s0 H0=>?_) λD H1 e1 S1=>?_
 ·obtain ⟨x0,hx0,rfl⟩:=Uj hx;obtain ⟨c,hc,rfl⟩:=zZ hx0;refine Zp (Zo S (by walk_at "m") λu1 u2 S2=>?_);cases S2.int1;refine xu (zN (xu (zN (Wb ⟨rfl,?_⟩))));rw [zQ hc] at hd hn;walk_at "walk";refine XL (λz=>?_) (λz=>?_)
  ·walk_at "walk";exact hd (jK (qc z)) S2 Has.int
  ·exact hn (jQ λy=>z (jD y)) S2
 rw [ZF,ja,zdw] at S1;exact Zy S1 k
abbrev Yq:Stmt:=top 11
theorem zaq:FnScope pF pF (zB Yq):=⟨rfl,rfl,rfl,by decide+kernel,rfl,by decide+kernel,by decide+kernel⟩
theorem zlr (B:Bl mg) (F:Fun K "places_of_group" "places_of_group" Yq f fd):FnOk P w K mg base CX0 1 f fd pF (WJ zF):=by
 refine F.ok zaq (λvs H Q E h=>?_) (λcdv A outer s H vs Q E hr h=>?_)
 ·obtain ⟨G,a,_,h,_⟩:=h;rw [<-h.len];rfl
 obtain ⟨G,⟨l,g⟩,eG,hA,few,k⟩:=h;obtain ⟨v0,v1,rfl,al⟩:=Zv hA;have S0:Sta H G H [] [(.int g,v1),(zH l,v0)]:=(Sta.enter eG al).dat (by walk_at "dats");cases S0.int1;have S:Sta H G H [] [(zH l,v0)]:=S0.dat (by walk_at "dats");dsimp only at few k;refine ⟨_,(zu (zG (yq (N:=["place","claim","group"]) (n:=2) (fr:=[1]) rfl ⟨rfl,by decide+kernel,rfl,by decide,rfl,rfl,rfl,rfl,rfl⟩ (zdA true rfl B.enumerate (zg (pv 0) zk)) (λ_ _ _ _=>(YX rfl (yi (xM 0 (show (["place","claim","group"]:List Str).Nodup from by decide+kernel)) (yi (xM 1 (show (["place","claim","group"]:List Str).Nodup from by decide+kernel)) Zz)))) (λ_ _ _ _=>(zdx (zK (yu (zJ hr)) (pix 1) (pv 2) (zV _)))) (λ_ _ _ _=>(pv 0))))),zC ?_⟩;walk_at "walk";refine zgt (xs:=l.map zP) S (by walk_at "m") λJ wk=>?_;refine zbK wk (λj=>if zF g (l.getD j (0,0,0)) then some (.int (j:Int)) else none) S (λ_ _=> .mem (by walk_at "mem")) (by rw [ZF,ja];omega) (λi x v B' G' Kd Kn hx t1 S hd hn C ex s0 H0=>?_) λD H1 e1 S1=>?_
 ·obtain ⟨x0,hx0,rfl⟩:=Uj hx;obtain ⟨c,hc,rfl⟩:=zZ hx0;refine Zp (Zo S (by walk_at "m") λu1 u2 S2=>?_);cases S2.int1;refine xu (zN (xu (zN (Wb ⟨rfl,?_⟩))));rw [zQ hc] at hd hn;walk_at "walk";refine XL (λz=>?_) (λz=>?_)
  ·walk_at "walk";exact hd (jK (qc z)) S2 Has.int
  ·exact hn (jQ λy=>z (jD y)) S2
 rw [ZF,ja,zdw] at S1;exact Zy S1 k
abbrev Wa:Stmt:=top 12
theorem zdn:FnScope pF pF (zB Wa):=⟨rfl,rfl,rfl,by decide+kernel,rfl,by decide+kernel,by decide+kernel⟩
theorem ok_one (B:Bl mg) (F:Fun K "as_one_claim" "as_one_claim" Wa f fd):FnOk P w K mg base CX0 1 f fd pF zoW:=by
 refine F.ok zdn (λvs H Q E h=>?_) (λcdv A outer s H vs Q E hr h=>?_)
 ·obtain ⟨G,a,_,h,_⟩:=h;rw [<-h.len];rfl
 obtain ⟨G,⟨l,g⟩,eG,hA,⟨pos,few⟩,k⟩:=h;obtain ⟨v0,v1,rfl,al⟩:=Zv hA;have S0:Sta H G H [] [(.int g,v1),(zH l,v0)]:=(Sta.enter eG al).dat (by walk_at "dats");cases S0.int1;have S:Sta H G H [] [(zH l,v0)]:=S0.dat (by walk_at "dats");dsimp only at pos few k;refine ⟨_,(zu (zG (yA (zg (zR (Zi rfl) rfl B.sum Vi (zg (yq (N:=paf) (n:=1) (fr:=[]) rfl ⟨rfl,by decide+kernel,rfl,by decide,rfl,rfl,rfl,rfl,rfl⟩ (ye (pv 0)) (λ_ _ _ _=>(xM 0 (show (paf:List Str).Nodup from by decide+kernel))) (λ_ _ _ _=>yd) (λ_ _ _ _=>(pix 0))) zk)) (zg (zR (zia rfl) rfl B.min zif (zg (yq (N:=paf) (n:=1) (fr:=[]) rfl ⟨rfl,by decide+kernel,rfl,by decide,rfl,rfl,rfl,rfl,rfl⟩ (ye (pv 0)) (λ_ _ _ _=>(xM 0 (show (paf:List Str).Nodup from by decide+kernel))) (λ_ _ _ _=>yd) (λ_ _ _ _=>(pix 0))) zk)) (zg (pv 1) zk)))))),zC ?_⟩;walk_at "walk";refine yf (xs:=l.map zP) S (by walk_at "m") λJ wk=>?_;refine zS wk (λj=> .int (l.getD j (0,0,0)).1) (ys:=(amV l).map PyData.int) (by unfold amV;rw [ja,js];exact zE (λc:Cl=>PyData.int c.1) (0,0,0) l) S (λ_ _=> .mem (by walk_at "mem")) (by rw [ja];omega) (λj x v B' G' Kd Kn hx t1 S hd C ex s0 H0=>?_) λD H1 e1 S1=>?_
 ·obtain ⟨c,hc,rfl⟩:=zZ hx;refine zN ⟨rfl,?_⟩;walk_at "walk";refine hd (by assumption) ?_;rw [zQ hc];exact Has.int
 walk_at "walk";have S2:Sta H G H1 [] [(zH l,v0)]:=S1.dropC;clear S1;refine yf (xs:=l.map zP) S2 (by walk_at "m") λJ wk=>?_;refine zS wk (λj=> .int (l.getD j (0,0,0)).2.1) (ys:=(l.map (·.2.1)).map PyData.int) (by rw [ja,js];exact zE (λc:Cl=>PyData.int c.2.1) (0,0,0) l) S2 (λ_ _=> .mem (by walk_at "mem")) (by rw [ja];omega) (λj x v B' G' Kd Kn hx t1 S hd C ex s0 H0=>?_) λD3 H3 e3 S3=>?_
 ·obtain ⟨c,hc,rfl⟩:=zZ hx;refine zN ⟨rfl,?_⟩;walk_at "walk";refine hd (by assumption) ?_;rw [zQ hc];exact Has.int
 walk_at "walk";refine zmY (ns:=l.map (·.2.1)) S3 (by walk_at "mem") (by rw [ja];exact pos) λm hm low=>?_;have em:m=ziB (l.map (·.2.1)):=znK hm low;subst em;walk_at "walk";exact Yb (by assumption) k (by walk_at "m")
abbrev XW:Stmt:=top 50
theorem ZW:FnScope ["parts","places","count","wide","part","place"] pah (zB XW):=⟨rfl,rfl,rfl,by decide+kernel,rfl,by decide+kernel,by decide+kernel⟩
theorem zlo (B:Bl mg) (F:Fun K "spread_parts" "spread_parts" XW f fd):FnOk P w K mg base CX0 1 f fd pah zc9:=by
 refine F.ok ZW (λvs H Q E h=>?_) (λcdv A outer s H vs Q E hr h=>?_)
 ·obtain ⟨G,a,_,h,_⟩:=h;rw [<-h.len];rfl
 obtain ⟨G,⟨x,pl,n⟩,eG,hA,ok,k⟩:=h;obtain ⟨v0,v1,v2,rfl,al⟩:=YY hA;have S0:Sta H G H [] [(.int (n:Int),v2),(xr x,v0),(plD pl,v1)]:=(Sta.enter eG al).dat (by walk_at "dats");cases S0.int1;have S:Sta H G H [] [(xr x,v0),(plD pl,v1)]:=S0.dat (by walk_at "dats");dsimp only at ok k;have few:=ok.few;refine ⟨_,(zm (Zm 3 ZW.nd (zM zqN (Zq (zg (yA (zg zA (zg zA zk))) zk)) (pv 2))) (zm (Xw qe rfl (UA false true rfl B.zip (zg (pv 0) (zg (pv 1) zk))) (YX rfl (yi (xM 4 ZW.nd) (yi (xM 5 ZW.nd) Zz))) (zu (zqL (pv 4) (pg_sub (pv 3) (pv 5) zo2)))) (zu (zG (YL ZO rfl B.tuple Xe (zg (pv 3) zk)))))),zC ?_⟩;walk_at "walk";rename_i q1 H1 e1 S1 q2 H2 e2 S2;refine zrs (n:=n) S2 (by walk_at "mem") (by omega) λq3 H3 e3 S3=>?_;walk_at "walk"
 have ez:List.replicate n (PyData.tuple [.int 0, .int 1])=(ZC ((x.zip pl).take 0) (List.replicate n 0)).map frD:=by
  rw [List.take_zero,ZC,Jw];rfl
 rw [ez] at S3;have S4:Sta H G H3 [(q3,(ZC ((x.zip pl).take 0) (List.replicate n 0)).map frD)] [(xr x,v0),(plD pl,v1)]:=S3.weak (by walk_at "sub") (by walk_at "dats");clear S3 S2 S1;refine zke (xs:=x.map frD) (ys:=pl.map λ(i:Nat)=>PyData.int (i:Int)) S4 (by walk_at "m") (by walk_at "m") λJ wk=>?_;refine XC wk (λi σ cs ds=>∃(x4 x5:Option V),σ=[some v0,some v1,some (.int (n:Int)),some (.ref q3),x4,x5]/\cs=[(q3,(ZC ((x.zip pl).take i) (List.replicate n 0)).map frD)]/\ds=[(xr x,v0),(plD pl,v1)]) S4 ⟨none,none,rfl,rfl,rfl⟩ (λi σ cs ds h=>?_) ?_ ?_
 ·obtain ⟨_,_,_,_,rfl⟩:=h;exact ⟨.mem (by walk_at "mem"),λ_ _ h=>h.tail, .mem (by walk_at "mem")⟩
 ·rintro i z u σ H5 cs ds hz ⟨x4,x5,rfl,rfl,rfl⟩ S5
  obtain ⟨z1,z2,h1,h2,rfl⟩:=Xn hz;obtain ⟨p,hp,rfl⟩:=zZ h1;obtain ⟨j,hj,rfl⟩:=zZ h2;have jl:=ok.pls.lt j (jc hj);refine Zp (Zo S5 (by walk_at "m") λw4 w5 S6=>?_);have S7:Sta H G H5 [(q3,(ZC ((x.zip pl).take i) (List.replicate n 0)).map frD)] [(.int (j:Int),w5),(frD p,w4),(xr x,v0),(plD pl,v1)]:=S6.dat (by walk_at "dats");cases S7.int1;walk_at "walk";refine zrr (j:=j) (y:=frD p) S7 (by walk_at "m") (zsv (by rw [ja,zbe,jB];exact jl)) λH8 S8=>?_;walk_at "walk";refine VE (S8.dat (by walk_at "dats")) ⟨_,_,rfl,?_,rfl⟩;have hzip:(x.zip pl)[i]? =some (p,j):=by rw [qq];exact ⟨hp,hj⟩
  rw [qV,hzip];show [(q3,_)]=[(q3,(ZC ((x.zip pl).take i++[(p,j)]) (List.replicate n 0)).map frD)];rw [zdf,List.map_set]
 ·rintro σ H5 cs ds ⟨x4,x5,rfl,rfl,rfl⟩ S5
  rw [xL,ja,ja,qy (by rw [List.length_zip];exact jy _)] at S5;walk_at "walk";exact Yb (by assumption) k (by walk_at "m")
abbrev zgd:Stmt:=top 49
theorem zmH:FnScope pL pL (zB zgd):=⟨rfl,rfl,rfl,by decide+kernel,rfl,by decide+kernel,by decide+kernel⟩
theorem znn (ze6:Cal P w K mg base CX0 1 "spread_parts" pah zc9) (F:Fun K "spread" "spread" zgd f fd):FnOk P w K mg base CX0 2 f fd pL zak:=by
 refine F.ok zmH (λvs H Q E h=>?_) (λcdv A outer s H vs Q E hr h=>?_)
 ·obtain ⟨G,a,_,h,_⟩:=h;rw [<-h.len];rfl
 obtain ⟨G,⟨x,pl,n⟩,eG,hA,⟨ok,few⟩,k⟩:=h;obtain ⟨v0,v1,v2,rfl,al⟩:=YY hA;have S0:Sta H G H [] [(.int (n:Int),v2),(yX x,v0),(plD pl,v1)]:=(Sta.enter eG al).dat (by walk_at "dats");cases S0.int1;have S:Sta H G H [] [(yX x,v0),(plD pl,v1)]:=S0.dat (by walk_at "dats");dsimp only at ok few k;refine ⟨_,(zu (zG (yq (N:=["corner","places","count"]) (n:=1) (fr:=[1,2]) rfl ⟨rfl,by decide+kernel,rfl,by decide,rfl,rfl,rfl,rfl,rfl⟩ (ye (pv 0)) (λ_ _ _ _=>(xM 0 (show (["corner","places","count"]:List Str).Nodup from by decide+kernel))) (λ_ _ _ _=>yd) (λ_ _ _ _=>(yA (zg (pix 0) (zg (pcl ze6 hr (zg (pix 0) (zg (pv 1) (zg (pv 2) zk)))) zk))))))),zC ?_⟩;walk_at "walk";refine yf (xs:=x.map ya) S (by walk_at "m") λJ wk=>?_;refine zS wk (λj=>ya (XT pl n (x.getD j (0,[])))) (ys:=(yS pl n x).map ya) (by unfold yS;rw [ja,js];exact zE (λc:zh=>ya (XT pl n c)) (0,[]) x) S (λ_ _=> .mem (by walk_at "mem")) (by rw [ja];omega) (λj x' v B' G' Kd Kn hx t1 S hd C ex s0 H0=>?_) λD H1 e1 S1=>?_
 ·obtain ⟨c,hc,rfl⟩:=zZ hx;refine zN ⟨rfl,?_⟩;walk_at "walk";refine zle (x:=c.2) (pl:=pl) (n:=n) (by assumption) (by walk_at "m") (by walk_at "m") (ok c (jc hc)) λw3 H3 e3 S3=>?_;walk_at "walk";refine hd (by assumption) ?_;rw [zQ hc];exact .mem (by walk_at "mem")
 exact Zy S1 k
section
variable {A:RAd} {t:Nat}
abbrev zgg:Stmt:=top 44
theorem Ub:FnScope ["inner","claims","path","rank","places","paid"] pau (zB zgg):=⟨rfl,rfl,rfl,by decide+kernel,rfl,by decide+kernel,by decide+kernel⟩
theorem znr {n:Nat} (B:Bl mg) (B2:Bl3 mg) (Yh:Cal P w K mg base CX0 2 "nothing" ["count"] Vp) (YV:Cal P w K mg base CX0 1 "places_of_rank" pam (WJ zW)) (YE:Cal P w K mg base CX0 1 "those_at" pY zc7) (Zl:Cal P w K mg base CX0 (2*n+8) "course" pU (Wl t n)) (Us:Cal P w K mg base CX0 2 "spread" pL zak) (XS:Cal P w K mg base CX0 5 "behind" pak zan) (F:Fun K "ranks" "ranks" zgg f fd):FnOk P w K mg base CX0 (2*n+9) f fd pau (zf2 t n):=by
 refine F.ok Ub (λvs H Q E h=>?_) (λcdv A outer s H vs Q E hr h=>?_)
 ·obtain ⟨G,a,_,h,_⟩:=h;rw [<-h.len];rfl
 obtain ⟨G,⟨r,l⟩,eG,hA,⟨⟨ru,hd⟩,ok⟩,k⟩:=h;obtain ⟨v0,v1,rfl,al⟩:=Zv hA;have S:Sta H G H [] [(r.shape,v0),(zH l,v1)]:=Sta.enter eG al;dsimp only at ru hd ok k;have few:=ok.few;refine ⟨_,(zm (Zm 2 Ub.nd (pcl Yh hr (zg (zR yB rfl B.len ZG (zg (pv 1) zk)) zk))) (zm (Xw qe rfl (ye (zaH rfl rfl B2.sorted rfl B2.set (yq (N:=paf) (n:=1) (fr:=[]) rfl ⟨rfl,by decide+kernel,rfl,by decide,rfl,rfl,rfl,rfl,rfl⟩ (ye (pv 1)) (λ_ _ _ _=>(xM 0 (show (paf:List Str).Nodup from by decide+kernel))) (λ_ _ _ _=>yd) (λ_ _ _ _=>(pix 0))))) (xM 3 Ub.nd) (zm (Zm 4 Ub.nd (pcl YV hr (zg (pv 1) (zg (pv 3) zk)))) (zm (Zm 5 Ub.nd (pcl Zl hr (zg (pv 0) (zg (pcl YE hr (zg (pv 1) (zg (pv 4) zk))) zk)))) (zu (Zm 2 Ub.nd (pcl XS hr (zg (pv 2) (zg (pcl Us hr (zg (pv 5) (zg (pv 4) (zg (zR yB rfl B.len ZG (zg (pv 1) zk)) zk)))) zk)))))))) (zu (zG (pv 2))))),zC ?_⟩;walk_at "walk";rw [ja];refine zbq S few λp1 H1 e1 S1=>?_;have ez:[yp (Xa l.length)]=rkP r l 0:=by rw [Vd];rfl
 rw [ez] at S1;walk_at "walk";refine yf (xs:=l.map zP) S1 (by walk_at "m") λJ wk=>?_;refine zS wk (λj=> .int (l.getD j (0,0,0)).2.1) (ys:=(l.map (·.2.1)).map PyData.int) (by rw [ja,js];exact zE (λc:Cl=>PyData.int c.2.1) (0,0,0) l) S1 (λ_ _=> .mem (by walk_at "mem")) (by rw [ja];omega) (λj x v B' G' Kd Kn hx t1 S hd C ex s0 H0=>?_) λD2 H2 e2 S2=>?_
 ·obtain ⟨c,hc,rfl⟩:=zZ hx;refine zN ⟨rfl,?_⟩;walk_at "walk";refine hd (by assumption) ?_;rw [zQ hc];exact Has.int
 refine VD S2 (by walk_at "mem") (by rw [ja];omega) λos l3 H3 h1 h2 e3 S3=>?_;have eo:os=yg l:=YJ h1 (xm l).1 λz=>by rw [h2,(xm l).2]
 subst eo;have S4:Sta H G H3 [(p1,(rkP r l 0).map ya)] [(.list ((yg l).map PyData.int), .ref l3),(r.shape,v0),(zH l,v1)]:=S3.freeze.weak (by walk_at "sub") (by walk_at "dats");clear S1 S2 S3;walk_at "walk";refine yf (xs:=(yg l).map PyData.int) S4 (by walk_at "m") λJ wk=>?_;refine XC wk (λi σ cs ds=>∃(pp:Addr) (x3 x4 x5:Option V),σ=[some v0,some v1,some (.ref pp),x3,x4,x5]/\cs=[(pp,(rkP r l i).map ya)]/\ds=[(.list ((yg l).map PyData.int), .ref l3),(r.shape,v0),(zH l,v1)]) S4 ⟨p1,none,none,none,rfl,rfl,rfl⟩ (λi σ cs ds h=>?_) ?_ ?_
 ·obtain ⟨_,_,_,_,_,_,rfl⟩:=h;exact .mem (by walk_at "mem")
 ·rintro i x u σ H5 cs ds hx ⟨pp,x3,x4,x5,rfl,rfl,rfl⟩ S5
  obtain ⟨kk,hk,rfl⟩:=zZ hx;cases S5.int1;have okk:=ok.filter (zW kk) (zdt (jc hk));obtain ⟨b1,b2,b3⟩:=zmP ru ok hk;have pk:=XI (zW kk) l;have lk:=Yc (zW kk) l;have fk:=okk.few;have gk:=(ru.gf okk).ful.std;have fw:=ru.few okk;walk_at "walk";refine zhO (p:=zW) (l:=l) (g:=kk) S5 (by walk_at "m") few λp6 H6 e6 S6=>?_;have S7:=S6.freeze;walk_at "walk";refine zgr (l:=l) (pl:=yc (zW kk) l) S7 (by walk_at "m") (by walk_at "m") pk.lt (by omega) λp8 H8 e8 S8=>?_;rw [<-YM] at S8;have S9:=S8.freeze;walk_at "walk";refine Yx (r:=r) (l:=l.filter (zW kk)) S9 (by walk_at "m") (by walk_at "m") ru hd okk λp10 H10 e10 S10=>?_;have S11:=S10.freeze;walk_at "walk";rw [ja];refine zhK (x:=zY r (l.filter (zW kk))) (pl:=yc (zW kk) l) (n:=l.length) S11 (by walk_at "m") (by walk_at "m") (λc hc=>⟨pk,by rw [(gk.ok c hc).1,lk],few⟩) (by omega) λp12 H12 e12 S12=>?_;have S13:Sta H G H12 [(pp,(rkP r l i).map ya)] [(yX (yS (yc (zW kk) l) l.length (zY r (l.filter (zW kk)))), .ref p12),(.list ((yg l).map PyData.int), .ref l3),(r.shape,v0),(zH l,v1)]:=S12.freeze.dat (by walk_at "dats");have S14:=S13.freeze;clear S6 S7 S8 S9 S10 S11 S12 S13;walk_at "walk";refine zhP (a:=rkP r l i) (b:=yS (yc (zW kk) l) l.length (zY r (l.filter (zW kk)))) S14 (by walk_at "m") (by walk_at "m") b1 b2 b3 λp15 H15 e15 S15=>?_;walk_at "walk";refine VE (S15.dat (ds':=[(.list ((yg l).map PyData.int), .ref l3),(r.shape,v0),(zH l,v1)]) (by walk_at "dats")) ⟨p15,_,_,_,rfl,?_,rfl⟩;rw [zo5 hk];rfl
 ·rintro σ H5 cs ds ⟨pp,x3,x4,x5,rfl,rfl,rfl⟩ S5
  rw [ja,zrl] at S5;walk_at "walk";exact Zy S5 k
abbrev zcL:Stmt:=top 45
theorem Wm:FnScope ["outer","inner","claims","sums","others","places","group","members"] paa (zB zcL):=⟨rfl,rfl,rfl,by decide+kernel,rfl,by decide+kernel,by decide+kernel⟩
theorem zlu {n:Nat} (B:Bl mg) (B2:Bl3 mg) (YG:Cal P w K mg base CX0 1 "places_of_group" pF (WJ zF)) (YE:Cal P w K mg base CX0 1 "those_at" pY zc7) (Wh:Cal P w K mg base CX0 1 "as_one_claim" pF zoW) (Zl:Cal P w K mg base CX0 (2*n+8) "course" pU (Wl t n)) (Us:Cal P w K mg base CX0 2 "spread" pL zak) (zaZ:Cal P w K mg base CX0 8 "within" pav zaj) (F:Fun K "groups" "groups" zcL f fd):FnOk P w K mg base CX0 (2*n+9) f fd paa (zdb t n):=by
 refine F.ok Wm (λvs H Q E h=>?_) (λcdv A outer s H vs Q E hr h=>?_)
 ·obtain ⟨G,a,_,h,_⟩:=h;rw [<-h.len];rfl
 obtain ⟨G,⟨⟨a,b⟩,l⟩,eG,hA,⟨⟨ru,da,db⟩,ok⟩,k⟩:=h;obtain ⟨v0,v1,v2,rfl,al⟩:=YY hA;have S:Sta H G H [] [(a.shape,v0),(b.shape,v1),(zH l,v2)]:=Sta.enter eG al;dsimp only at ru da db ok k;obtain ⟨ra,rb⟩:=ru.groups;have few:=ok.few;have gfew:=Xm l;refine ⟨_,(zm (Zm 3 Wm.nd (Zq zk)) (zm (Zm 4 Wm.nd (Zq zk)) (zm (Zm 5 Wm.nd (Zq zk)) (zm (Xw qe rfl (ye (zaH rfl rfl B2.sorted rfl B2.set (yq (N:=paf) (n:=1) (fr:=[]) rfl ⟨rfl,by decide+kernel,rfl,by decide,rfl,rfl,rfl,rfl,rfl⟩ (ye (pv 2)) (λ_ _ _ _=>(xM 0 (show (paf:List Str).Nodup from by decide+kernel))) (λ_ _ _ _=>yd) (λ_ _ _ _=>(pix 0))))) (xM 6 Wm.nd) (zm (Zm 7 Wm.nd (pcl YG hr (zg (pv 2) (zg (pv 6) zk)))) (zm (Zd (zey qp qO qP ZD (pv 3) (zg (pcl Wh hr (zg (pcl YE hr (zg (pv 2) (zg (pv 7) zk))) (zg (pv 6) zk))) zk))) (zm (Zd (zey qp qO qP ZD (pv 4) (zg (pcl Zl hr (zg (pv 1) (zg (pcl YE hr (zg (pv 2) (zg (pv 7) zk))) zk))) zk))) (zu (Zd (zey qp PySem.F.slot_list_extend PySem.F.type_list_extend znG (pv 5) (zg (pv 7) zk)))))))) (zu (zG (pcl Us hr (zg (pcl zaZ hr (zg (pcl Zl hr (zg (pv 0) (zg (pv 3) zk))) (zg (pv 4) zk))) (zg (pv 5) (zg (zR yB rfl B.len ZG (zg (pv 2) zk)) zk)))))))))),zC ?_⟩;walk_at "walk";rename_i p1 H1 e1 S1 p2 H2 e2 S2 p3 H3 e3 S3;refine yf (xs:=l.map zP) S3 (by walk_at "m") λJ wk=>?_;refine zS wk (λj=> .int (l.getD j (0,0,0)).2.2) (ys:=(l.map (·.2.2)).map PyData.int) (by rw [ja,js];exact zE (λc:Cl=>PyData.int c.2.2) (0,0,0) l) S3 (λ_ _=> .mem (by walk_at "mem")) (by rw [ja];omega) (λj x v B' G' Kd Kn hx t1 S hd C ex s0 H0=>?_) λD4 H4 e4 S4=>?_
 ·obtain ⟨c,hc,rfl⟩:=zZ hx;refine zN ⟨rfl,?_⟩;walk_at "walk";refine hd (by assumption) ?_;rw [zQ hc];exact Has.int
 refine VD S4 (by walk_at "mem") (by rw [ja];omega) λos l5 H5 h1 h2 e5 S5=>?_;have eo:os=zI l:=YJ h1 (yo l).1 λz=>by rw [h2,(yo l).2]
 subst eo;have S6:Sta H G H5 [(p3,((zhg l).take 0).flatten.map λ(i:Nat)=>PyData.int (i:Int)),(p2,((yk (λl=>zY b l) l).take 0).map yX),(p1,((zO l).take 0).map zP)] [(.list ((zI l).map PyData.int), .ref l5),(a.shape,v0),(b.shape,v1),(zH l,v2)]:=S5.freeze.weak (by walk_at "sub") (by walk_at "dats");clear S1 S2 S3 S4 S5;walk_at "walk";refine yf (xs:=(zI l).map PyData.int) S6 (by walk_at "m") λJ wk=>?_;refine XC wk (λi σ cs ds=>∃(x6 x7:Option V),σ=[some v0,some v1,some v2,some (.ref p1),some (.ref p2),some (.ref p3),x6,x7]/\cs=[(p3,((zhg l).take i).flatten.map λ(i:Nat)=>PyData.int (i:Int)),(p2,((yk (λl=>zY b l) l).take i).map yX),(p1,((zO l).take i).map zP)]/\ds=[(.list ((zI l).map PyData.int), .ref l5),(a.shape,v0),(b.shape,v1),(zH l,v2)]) S6 ⟨none,none,rfl,rfl,rfl⟩ (λi σ cs ds h=>?_) ?_ ?_
 ·obtain ⟨_,_,_,_,rfl⟩:=h;exact .mem (by walk_at "mem")
 ·rintro i x u σ H7 cs ds hx ⟨x6,x7,rfl,rfl,rfl⟩ S7
  obtain ⟨g,hg,rfl⟩:=zZ hx;cases S7.int1;have gl:=(je.mp hg).1;have okg:=ok.filter (zF g) (Ws (jc hg));have pk:=XI (zF g) l;have lk:=Yc (zF g) l;have fk:=okg.few
  have t1:(zO l).take (i+1)=(zO l).take i++[zmc g (l.filter (zF g))]:=by
   rw [qV];unfold zO;rw [jh,hg];rfl
  have t2:(yk (λl=>zY b l) l).take (i+1)=(yk (λl=>zY b l) l).take i++[zY b (l.filter (zF g))]:=by
   rw [qV];unfold yk;rw [jh,hg];rfl
  have t3:((zhg l).take (i+1)).flatten=((zhg l).take i).flatten++yc (zF g) l:=by
   rw [qV,List.flatten_append];unfold zhg;rw [jh,hg];show _++(yc (zF g) l++[])=_;rw [wW]
  have fl:((zhg l).take i).flatten.length<=64:=by
   have:∀L∈(zhg l).take i,L.length<=8:=λL hL=>by
    obtain ⟨g',hg',rfl⟩:=jk.mp (List.mem_of_mem_take hL);rw [Yc];exact jS (wx _ _) few
   have h1:=zh7 this;have h2:((zhg l).take i).length<=8:=by rw [qS];unfold zhg;rw [ja];omega
   omega
  walk_at "walk";refine zhO (p:=zF) (l:=l) (g:=g) S7 (by walk_at "m") few λp8 H8 e8 S8=>?_;have S9:=S8.freeze;walk_at "walk";refine zgr (l:=l) (pl:=yc (zF g) l) S9 (by walk_at "m") (by walk_at "m") pk.lt (by omega) λp10 H10 e10 S10=>?_;rw [<-YM] at S10;have S11:=S10.freeze;walk_at "walk";refine rd_one (l:=l.filter (zF g)) (g:=g) S11 (by walk_at "m") okg.pos fk λq12 H12 e12 S12=>?_;have S13:Sta H G H12 [(p1,((zO l).take i).map zP),(p3,((zhg l).take i).flatten.map λ(i:Nat)=>PyData.int (i:Int)),(p2,((yk (λl=>zY b l) l).take i).map yX)] [(zP (zmc g (l.filter (zF g))),q12),(plD (yc (zF g) l), .ref p8),(.list ((zI l).map PyData.int), .ref l5),(a.shape,v0),(b.shape,v1),(zH l,v2)]:=(S12.dat (by walk_at "dats")).rot3;walk_at "walk";refine Zh (y:=zP (zmc g (l.filter (zF g)))) S13 (by walk_at "m") (by rw [ja,qS];unfold zO;rw [ja];omega) λH14 S14=>?_;walk_at "walk";refine zgr (l:=l) (pl:=yc (zF g) l) S14 (by walk_at "m") (by walk_at "m") pk.lt (by omega) λp15 H15 e15 S15=>?_;rw [<-YM] at S15;have S16:=S15.freeze;walk_at "walk";refine Yx (r:=b) (l:=l.filter (zF g)) S16 (by walk_at "m") (by walk_at "m") rb db okg λp17 H17 e17 S17=>?_;have S18:=S17.freeze.rot3;clear S8 S9 S10 S11 S12 S13 S14 S15 S16 S17;walk_at "walk";refine Zh (y:=yX (zY b (l.filter (zF g)))) S18 (by walk_at "m") (by rw [ja,qS];unfold yk;rw [ja];omega) λH19 S19=>?_;have S20:=S19.rot3;walk_at "walk";refine zlh (ys:=(yc (zF g) l).map λ(i:Nat)=>PyData.int (i:Int)) S20 (by walk_at "m") (by rw [ja,ja];omega) λH21 S21=>?_;walk_at "walk";refine VE (S21.dat (ds':=[(.list ((zI l).map PyData.int), .ref l5),(a.shape,v0),(b.shape,v1),(zH l,v2)]) (by walk_at "dats")) ⟨_,_,rfl,?_,rfl⟩;rw [t1,t2,t3,qx,qx,qx];rfl
 ·rintro σ H7 cs ds ⟨x6,x7,rfl,rfl,rfl⟩ S7
  have e1:(zO l).take (zI l).length=zO l:=qy (by rw [Zx];exact jy _);have e2:(yk (λl=>zY b l) l).take (zI l).length=yk (λl=>zY b l) l:=qy (by rw [Xk];exact jy _);have e3:(zhg l).take (zI l).length=zhg l:=qy (by unfold zhg;rw [ja];exact jy _);rw [ja,e1,e2,e3] at S7;have S8:Sta H G H7 [] [(zH (zO l), .ref p1),(.list ((yk (λl=>zY b l) l).map yX), .ref p2),(plD (zlm l), .ref p3),(a.shape,v0),(zH l,v2)]:=S7.freeze.freeze.freeze.dat (by walk_at "dats");clear S7;obtain ⟨g1,g2⟩:=zn6 ru ok;walk_at "walk";refine Yx (r:=a) (l:=zO l) S8 (by walk_at "m") (by walk_at "m") ra da ok.sums λp9 H9 e9 S9=>?_;walk_at "walk";refine zlc (P:=zY a (zO l)) (Qs:=yk (λl=>zY b l) l) S9.freeze (by walk_at "m") (by walk_at "m") (zn5 ru ok) λp10 H10 e10 S10=>?_;walk_at "walk";rw [ja];refine zhK (x:=yV (zY a (zO l)) (yk (λl=>zY b l) l)) (pl:=zlm l) (n:=l.length) S10.freeze (by walk_at "m") (by walk_at "m") g1 g2 λp11 H11 e11 S11=>?_;exact Zy S11 k
theorem zlw (B:Bl mg) (B2:Bl3 mg) (zhd:Cal P w K mg base CX0 3 "shares" pK (zcf 0)) (Vc:Cal P w K mg base CX0 2 "evenly" pK (zcf 1)) (zcX:Cal P w K mg base CX0 6 "losses" pK (zcf 2)) (zk0:Cal P w K mg base CX0 6 "upto" pZ zmz) (Ur:Cal P w K mg base CX0 5 "turned" ["path"] zcI)
 (Yh:Cal P w K mg base CX0 2 "nothing" ["count"] Vp) (YV:Cal P w K mg base CX0 1 "places_of_rank" pam (WJ zW)) (YG:Cal P w K mg base CX0 1 "places_of_group" pF (WJ zF)) (YE:Cal P w K mg base CX0 1 "those_at" pY zc7) (Wh:Cal P w K mg base CX0 1 "as_one_claim" pF zoW) (Us:Cal P w K mg base CX0 2 "spread" pL zak) (XS:Cal P w K mg base CX0 5 "behind" pak zan) (zaZ:Cal P w K mg base CX0 8 "within" pav zaj)
 {fr fg:Addr} {fdr fdg:FuncData} (Fr:Fun K "ranks" "ranks" zgg fr fdr) (hmr:mg "ranks"=some (.ref fr)) (br:Zg K fdr pau []) (Fg:Fun K "groups" "groups" zcL fg fdg) (hmg:mg "groups"=some (.ref fg)) (bg:Zg K fdg paa [])
 (F:Fun K "course" "course" zgm f fd) (hm:mg "course"=some (.ref f)) (b:Zg K fd pU []):∀n:Nat,FnOk P w K mg base CX0 (2*n+8) f fd pU (Wl t n):=by
 intro n
 induction n with
 |zero=>
  refine F.ok zdl (λvs H Q E h=>?_) (λcdv A outer s H vs Q E hr h=>?_)
  ·obtain ⟨G,a,_,h,_⟩:=h;rw [<-h.len];rfl
  obtain ⟨G,⟨r,l⟩,_,_,⟨⟨_,hd⟩,_⟩,_⟩:=h;exact absurd hd (by cases r<;>simp [Rl.deep])
 |succ n ih=>
  have Zl:Cal P w K mg base CX0 (2*n+8) "course" pU (Wl t n):=zaR F ih hm b;have zsW:Cal P w K mg base CX0 (2*n+9) "ranks" pau (zf2 t n):=zaR Fr (znr B B2 Yh YV YE Zl Us XS Fr) hmr br;have zqx:Cal P w K mg base CX0 (2*n+9) "groups" paa (zdb t n):=zaR Fg (zlu B B2 YG YE Wh Zl Us zaZ Fg) hmg bg;refine F.ok zdl (λvs H Q E h=>?_) (λcdv A outer s H vs Q E hr h=>?_)
  ·obtain ⟨G,a,_,h,_⟩:=h;rw [<-h.len];rfl
  obtain ⟨G,⟨r,l⟩,eG,hA,⟨⟨ru,hd⟩,okS⟩,k⟩:=h;obtain ⟨v0,v1,rfl,al⟩:=Zv hA;have S:Sta H G H [] _:=Sta.enter eG al;dsimp only at ru hd okS k S;have ok:=okS.ok ru.ht;refine ⟨_,(zm (Zm 2 zdl.nd (pix 0)) (zm (yO (zK (yu (zJ hr)) (pv 2) yF (zV _)) (zu (zG (pcl zhd hr (zg (pv 1) zk)))) zU) (zm (yO (zK (yu (zJ hr)) (pv 2) yF (zV _)) (zu (zG (pcl Vc hr (zg (pv 1) zk)))) zU) (zm (yO (zK (yu (zJ hr)) (pv 2) yF (zV _)) (zu (zG (pcl zcX hr (zg (pv 1) zk)))) zU) (zm (yO (zK (yu (zJ hr)) (pv 2) yF (zV _)) (zu (zG (pcl zk0 hr (zg (yA (zg zA (zg zA zk))) (zg (pcl Vc hr (zg (pv 1) zk)) (zg (pcl zcX hr (zg (pv 1) zk)) zk)))))) zU) (zm (yO (zK (yu (zJ hr)) (pv 2) yF (zV _)) (zu (zG (pcl Ur hr (zg (pcl Zl hr (zg (pix 0) (zg (pv 1) zk))) zk)))) zU) (zm (yO (zK (yu (zJ hr)) (pv 2) yF (zV _)) (zu (zG (pcl zsW hr (zg (pix 0) (zg (pv 1) zk))))) zU) (zm (yO (zK (yu (zJ hr)) (pv 2) yF (zV _)) (zu (zG (pcl zqx hr (zg (pix 0) (zg (pix 0) (zg (pv 1) zk)))))) zU) (zu (zG (pcl zk0 hr (zg (pix 0) (zg (pcl Zl hr (zg (pix 0) (zg (pv 1) zk))) (zg (pcl Zl hr (zg (pix 0) (zg (pv 1) zk))) zk)))))))))))))),zC ?_⟩
  cases r with
  |shares=>
   simp only [Rl.shape] at S;walk_at "walk";refine zbr (n:=0) S (by walk_at "m") ok λp1 H1 e1 S1=>?_;exact Zy S1 k
  |evenly=>
   simp only [Rl.shape] at S;walk_at "walk";refine zbr (n:=1) S (by walk_at "m") ok λp1 H1 e1 S1=>?_;exact Zy S1 k
  |losses=>
   simp only [Rl.shape] at S;walk_at "walk";refine zbr (n:=2) S (by walk_at "m") ok λp1 H1 e1 S1=>?_;exact Zy S1 k
  |halves=>
   simp only [Rl.shape] at S;walk_at "walk";rename_i p0 H0 e0 S0
   have eh:PyData.tuple [.int 1, .int 2]=frD (1 / 2):=by
    unfold frD;rw [show ((1:Rat) / 2).num=1 by decide+kernel,show ((1:Rat) / 2).den=2 by decide+kernel];rfl
   rw [eh] at S0;refine zbr (n:=1) S0 (by walk_at "m") ok λp1 H1 e1 S1=>?_;have S2:=S1.freeze;walk_at "walk";refine zbr (n:=2) S2 (by walk_at "m") ok λp3 H3 e3 S3=>?_;have S4:=S3.freeze;walk_at "walk";refine zmR (p:=1 / 2) (a:=flV 1 l) (b:=flV 2 l) S4 (by walk_at "m") (by walk_at "m") (by walk_at "m") (up_ok ok) λp5 H5 e5 S5=>?_;rw [zmn] at S5;exact Zy S5 k
  |other r=>
   simp only [Rl.shape] at S;walk_at "walk";rename_i w1 S1;refine Yx (r:=r) S1 (by walk_at "m") (by walk_at "m") ru.other (by simp only [Rl.deep] at hd;omega) okS λp2 H2 e2 S2=>?_;walk_at "walk";refine zhJ (a:=zY r l) S2.freeze (by walk_at "m") (ru.other.inn okS) λp3 H3 e3 S3=>?_;exact Zy S3 k
  |upto t b x y=>
   obtain ⟨px,py⟩:=ru.upto;have dx:x.deep<=n:=by simp only [Rl.deep] at hd;omega
   have dy:y.deep<=n:=by simp only [Rl.deep] at hd;omega
   have hp:PyData.tuple [.int t, .int b]=frD (Rat.divInt t b):=zpl ru.pok.1;simp only [Rl.shape] at S;rw [hp] at S;walk_at "walk";rename_i w1 S1 w2 S2;refine Yx (r:=x) S2 (by walk_at "m") (by walk_at "m") px dx okS λp3 H3 e3 S3=>?_;have S4:=S3.freeze;walk_at "walk";rename_i w5 S5;refine Yx (r:=y) S5 (by walk_at "m") (by walk_at "m") py dy okS λp6 H6 e6 S6=>?_;have S7:=S6.freeze;walk_at "walk";refine zmR (p:=Rat.divInt t b) (a:=zY x l) (b:=zY y l) S7 (by walk_at "m") (by walk_at "m") (by walk_at "m") (ru.up okS) λp8 H8 e8 S8=>?_;exact Zy S8 k
  |ranks r=>
   simp only [Rl.shape] at S;walk_at "walk";rename_i w1 S1;refine zmV (r:=r) S1 (by walk_at "m") (by walk_at "m") ru.ranks (by simp only [Rl.deep] at hd;omega) okS λp2 H2 e2 S2=>?_;exact Zy S2 k
  |groups a b=>
   simp only [Rl.shape] at S;walk_at "walk";rename_i w1 S1 w2 S2;refine zlf (a:=a) (b:=b) S2 (by walk_at "m") (by walk_at "m") (by walk_at "m") ru (by simp only [Rl.deep] at hd;omega) (by simp only [Rl.deep] at hd;omega) okS λp3 H3 e3 S3=>?_;exact Zy S3 k
theorem zpv {fS fT Ru:Addr} {n:Nat} (okA:∀r:Rl,ROk K fS fT Ru (A.cls r)) (ze9:Cal P w K mg base CX0 1 "check_claims" pK ziP) (Zl:Cal P w K mg base CX0 (2*n+8) "course" pU (Wl t n)) (F:Fun K "path" "Rule.path" UT f fd):FnOk P w K mg base CX0 (2*n+9) f fd pal (ziO A t n):=by
 refine F.ok zhD (λvs H Q E h=>?_) (λcdv A' outer s H vs Q E hr h=>?_)
 ·obtain ⟨G,a,_,h,_⟩:=h;rw [<-h.len];rfl
 obtain ⟨G,⟨r,l⟩,eG,hA,⟨⟨pl,hn⟩,okS⟩,k⟩:=h;obtain ⟨v0,v1,rfl,al⟩:=Zv hA;have S:Sta H G H [] _:=Sta.enter eG al;dsimp only at pl hn okS k S;have ok:=okS.ok pl.ht;refine ⟨_,(zm (Zd (pcl ze9 hr (zg (pv 1) zk))) (zu (zG (pcl Zl hr (zg (zqM (pv 0) rfl) (zg (pv 1) zk)))))),zC ?_⟩;walk_at "walk";refine zpi S (by walk_at "m") ok λH1 e1 S1=>?_;walk_at "walk";refine zm3 S1 (by walk_at "m") (okA r) λw2 S2=>?_;walk_at "walk";refine Yx S2 (by walk_at "m") (by walk_at "m") pl hn okS λp3 H3 e3 S3=>?_;exact Zy S3 k
theorem znt {fS fT Ru fP:Addr} {fdP:FuncData} {n:Nat} (okA:∀r:Rl,ROk K fS fT Ru (A.cls r)) (okP:∀r:Rl,Meth K (A.cls r) "path" fP) (zaa:FnOk P w K mg base CX0 (2*n+9) fP fdP pal (ziO A t n)) (UY:Zg K fdP pal []) (Ut:Cal P w K mg base CX0 6 "parts_at" ["path","purse"] zam) (F:Fun K "parts" "Rule.parts" VC f fd):FnOk P w K mg base CX0 (2*n+10) f fd pR (zf3 A t n):=by
 refine F.ok zga (λvs H Q E h=>?_) (λcdv A' outer s H vs Q E hr h=>?_)
 ·obtain ⟨G,a,_,h,_⟩:=h;rw [<-h.len];rfl
 obtain ⟨G,⟨r,l,e⟩,eG,hA,⟨⟨⟨pl,hn⟩,okS⟩,ze,e0⟩,k⟩:=h;obtain ⟨v0,v1,v2,rfl,al⟩:=YY hA;have S:Sta H G H [] _:=Sta.enter eG al;dsimp only at pl hn okS ze e0 k S;refine ⟨_,(zu (zG (pcl Ut hr (zg (zkj (pv 0) (zaa.mono (by walk_at "l")) hr UY YS (zg (pv 1) zk)) (zg (pv 2) zk))))),zC ?_⟩;walk_at "walk";refine zqI (C:=A.cls r) S (by walk_at "m") (okA r).cl (okP r) (by decide+kernel) ?_;walk_at "walk";refine zpa (r:=r) S (by walk_at "m") (by walk_at "m") pl hn okS λp1 H1 e1 S1=>?_;walk_at "walk";refine zbp (a:=zY r l) (e:=e) (m:=300) (n:=700) S1.freeze (by walk_at "m") (by walk_at "m") (pl.R okS) ze (by decide) e0 λw2 H2 e2 S2=>?_;exact Yb S2 k (by walk_at "m")
end
abbrev WM:Stmt:=top 62
theorem zew:FnScope pV pV (zB WM):=⟨rfl,rfl,rfl,by decide+kernel,rfl,by decide+kernel,by decide+kernel⟩
theorem zsf (B:Bl mg) (F:Fun K "_law_cell_at" "_law_cell_at" WM f fd):FnOk P w K mg base CX0 1 f fd pV (zj6 K):=by
 refine F.ok zew (λvs H Q E h=>?_) (λcdv A outer s H vs Q E hr h=>?_)
 ·obtain ⟨a,ns,k,rfl,_⟩:=h;rfl
 obtain ⟨a,ns,k,rfl,hS,h0,q⟩:=h;refine ⟨_,(zm (yO (zK zdI (pv 1) (zR yB rfl B.len ZG (zg (pv 0) zk)) (zV _)) (zu (zG (xE yx (pv 0) (pv 1) (λ_ _=>rfl)))) zU) (zu (zG zA))),zC ?_⟩;walk_at "walk";refine zrF hS ?_;walk_at "walk";refine XL (λc=>?_) (λc=>?_)
 ·walk_at "walk";refine rd_ixS hS h0 c ?_;unfold zd2 at q;rw [jK c] at q;exact q
 ·walk_at "walk";unfold zd2 at q;rw [jQ c] at q;exact q
abbrev UQ:Stmt:=top 63
theorem Vv:FnScope ["_law_cell","_law_place","_law_number"] pai (zB UQ):=⟨rfl,rfl,rfl,by decide+kernel,rfl,by decide+kernel,by decide+kernel⟩
theorem zpw (F:Fun K "_law_mixed" "_law_mixed" UQ f fd):FnOk P w K mg base CX0 1 f fd pai zrd:=by
 refine F.ok Vv (λvs H Q E h=>?_) (λcdv A outer s H vs Q E hr h=>?_)
 ·obtain ⟨c,p,rfl,_⟩:=h;rfl
 obtain ⟨c,p,rfl,q⟩:=h;refine ⟨_,(zm (Zm 2 Vv.nd (zM Ym (zM xo (zM xo (zM yn (zM Ym (pv 0) zA) zA) (zM yn zA (pv 1))) zA) zA)) (zm (Zm 2 Vv.nd (zM Ym (zM xo (zM xo (zM yn (pv 2) (pv 2)) (zM yn zA (pv 1))) zA) zA)) (zu (zG (zM Ym (zM yn (pv 2) zA) zA))))),zC ?_⟩;walk_at "walk";exact q
abbrev WL:Stmt:=top 64
theorem Ux:FnScope pP pP (zB WL):=⟨rfl,rfl,rfl,by decide+kernel,rfl,by decide+kernel,by decide+kernel⟩
theorem zlv (B:Bl mg) (F:Fun K "_law_divisor" "_law_divisor" WL f fd):FnOk P w K mg base CX0 1 f fd pP zhs:=by
 refine F.ok Ux (λvs H Q E h=>?_) (λcdv A outer s H vs Q E hr h=>?_)
 ·obtain ⟨a,b,rfl,_⟩:=h;rfl
 obtain ⟨a,b,rfl,hb,q⟩:=h;refine ⟨_,(zm (zcM qe (zK (zdH (zJ hr)) (pv 1) zA (zV _)) (zu (ps_par (i:=0) (j:=1) rfl Ux.nd rfl rfl (by decide) rfl rfl (zg (pv 1) (zg (zM WV (pv 0) (pv 1)) zk)) rfl))) (zu (zG (zR zd3 rfl B.abs zor (zg (pv 0) zk))))),zC ?_⟩;refine ziC (λm σ H2=>∃(x y:Int),σ=[some (.int x),some (.int y)]/\0<=y/\Int.gcd x y=Int.gcd a b/\H2=H/\m=y.toNat) _ ⟨a,b,rfl,hb,rfl,rfl,rfl⟩ ?_
 rintro m σ H2 ⟨x,y,rfl,hy,hg,rfl,rfl⟩
 walk_at "walk";refine zmQ (λc=>?_) (λc=>?_)
 ·have c:y≠0:=by simpa using c
  walk_at "walk";have e:x.fmod y=x % y:=qk x hy;have l1:=wy x c;have l2:=qZ x (show 0<y by omega);refine ⟨(x.fmod y).toNat,by rw [e];omega,y,x.fmod y,rfl,by rw [e];exact l1,?_,rfl,rfl⟩;rw [e,zkA,hg]
 ·have c:y=0:=by simpa using c
  subst c;walk_at "walk"
  have e:(x.natAbs:Int)=((Int.gcd a b:Nat):Int):=by
   rw [<-hg,Int.gcd_zero]
  rw [e];exact q
abbrev Vy:Stmt:=top 65
theorem zar:FnScope ["_law_top","_law_bottom","_law_by"] paj (zB Vy):=⟨rfl,rfl,rfl,by decide+kernel,rfl,by decide+kernel,by decide+kernel⟩
theorem znx (Yi:Cal P w K mg base CX0 1 "_law_divisor" pP zhs) (F:Fun K "_law_lowest" "_law_lowest" Vy f fd):FnOk P w K mg base CX0 2 f fd paj zf5:=by
 refine F.ok zar (λvs H Q E h=>?_) (λcdv A outer s H vs Q E hr h=>?_)
 ·obtain ⟨G,a,_,h,_⟩:=h;rw [<-h.len];rfl
 obtain ⟨G,⟨a,b⟩,eG,hA,⟨hb,sb⟩,k⟩:=h;cases (xz (ns:=[a,b]) hA);have S:Sta H G H [] []:=Sta.enter eG λp hp=>absurd hp jp;dsimp only at hb sb k;have gp:0<Int.gcd a b:=Jx a (by omega)
 have hc:CDv a ((Int.gcd a b:Nat):Int):=⟨by omega,by
  refine Sz.le sb ?_;have:=Nat.le_of_dvd (by omega) (JU a b)
  omega⟩
 refine ⟨_,(zm (Zm 2 zar.nd (pcl Yi hr (zg (pv 0) (zg (pv 1) zk)))) (zu (zG (yA (zg (zM WW (pv 0) (pv 2)) (zg (zM WW (pv 1) (pv 2)) zk)))))),zC ?_⟩;walk_at "walk";refine Yb (by assumption) k (.mem ?_);rw [show frD (Rat.divInt a b)= .tuple [.int (a.fdiv ((Int.gcd a b:Nat):Int)), .int (b.fdiv ((Int.gcd a b:Nat):Int))] by unfold frD;rw [<-(zbB hb).1,<-(zbB hb).2]];walk_at "mem"
local macro_rules|`(tactic|walk_at "rd")=>`(tactic|with_reducible refine' zo6 ?_)
abbrev UN:Stmt:=top 66
theorem zhA:FnScope pW pW (zB UN):=⟨rfl,rfl,rfl,by decide+kernel,rfl,by decide+kernel,by decide+kernel⟩
theorem zpn (B:Bl mg) (F:Fun K "_law_whole" "_law_whole" UN f fd):FnOk P w K mg base CX0 1 f fd pW ziK:=by
 refine F.ok zhA (λvs H Q E h=>?_) (λcdv A outer s H vs Q E hr h=>?_)
 ·obtain ⟨n,rfl,_⟩:=h;rfl
 obtain ⟨n,rfl,q⟩:=h;have S:Sta H H H [] []:=Sta.enter (yt.refl _) λp hp=>absurd hp jp;have hi:Is H (.int n) (.int n):=S.hp Has.int;refine ⟨_,(zu (zG (zni (zR zcU rfl B.isinstance Yg (zg (pv 0) (zg (zgx (v:= .ty "int") rfl B.int bt_int rfl) zk))) (zng (pe_not (zR zcU rfl B.isinstance Yg (zg (pv 0) (zg (zgx (v:= .ty "bool") rfl B.bool zsK rfl) zk)))))))),zC ?_⟩;walk_at "walk";exact q
abbrev Yr:Stmt:=top 67
theorem zas:FnScope pW pW (zB Yr):=⟨rfl,rfl,rfl,by decide+kernel,rfl,by decide+kernel,by decide+kernel⟩
theorem zsd (B:Bl mg) (zeu:Cal P w K mg base CX0 1 "_law_whole" pW ziK) (Yi:Cal P w K mg base CX0 1 "_law_divisor" pP zhs) (F:Fun K "_law_is_fraction" "_law_is_fraction" Yr f fd):FnOk P w K mg base CX0 2 f fd pW zmA:=by
 refine F.ok zas (λvs H Q E h=>?_) (λcdv A outer s H vs Q E hr h=>?_)
 ·obtain ⟨a,h,_⟩:=h;rw [<-h.len];rfl
 obtain ⟨a,hA,_,k⟩:=h;obtain ⟨v,rfl,al⟩:=Wq hA;have S:Sta H H H [] [(frD a,v)]:=Sta.enter (yt.refl _) al;have hv:=S.hp (x:=frD a) (v:=v) (by walk_at "m");refine ⟨_,(zm (yO (PW.pt (zex (VG (Wo (zR zcU rfl B.isinstance Yg (zg (pv 0) (zg (zgx (v:= .ty "tuple") rfl B.tuple Xe rfl) zk))))) (zex (zK (zdH (zJ hr)) (zR yB rfl B.len ZG (zg (pv 0) zk)) zA (zV _)) (zex (VG (Wo (pcl zeu hr (zg (pix 0) zk)))) (zfo (VG (Wo (pcl zeu hr (zg (pix 0) zk))))))))) (zu (zG VI)) zU) (zu (zG (zni (zdB zi3 (pix 0) zA (zV _)) (zng (zdB (yu (zJ hr)) (pcl Yi hr (zg (pix 0) (zg (pix 0) zk))) zA (zV _))))))),zC ?_⟩;walk_at "walk";refine zp1 rfl ?_;walk_at "walk";refine XL (λ_=>?_) (λc=>absurd (by have:=a.den_pos;omega) c);walk_at "walk"
 have hg:((a.num.gcd (a.den:Int):Nat):Int)=1:=by
  have:=a.reduced;unfold Nat.Coprime at this;rw [Int.gcd,Int.natAbs_natCast,this];rfl
 rw [qc hg];exact k H (yt.refl _)
section
variable {A:RAd}
abbrev Vz:Stmt:=top 68
theorem zf8:FnScope ["_law_number"] ["_law_number"] (zB Vz):=⟨rfl,rfl,rfl,by decide+kernel,rfl,by decide+kernel,by decide+kernel⟩
theorem zny (F:Fun K "_law_labels" "_law_labels" Vz f fd):FnOk P w K mg base CX0 1 f fd ["_law_number"] zda:=by
 refine F.ok zf8 (λvs H Q E h=>?_) (λcdv A outer s H vs Q E hr h=>?_)
 ·obtain ⟨G,a,_,h,_⟩:=h;rw [<-h.len];rfl
 obtain ⟨G,n,eG,hA,_,k⟩:=h;cases (xz (ns:=[n]) hA);have S:Sta H G H [] []:=Sta.enter eG λp hp=>absurd hp jp;dsimp only at k;unfold zae at k;refine ⟨_,(zm (yO (zK (yu (zJ hr)) (zM Ym (pv 0) zA) zA (zV _)) (zu (zG (Zq (zg zA (zg zA (zg zA zk)))))) zU) (zm (yO (zK (yu (zJ hr)) (zM Ym (pv 0) zA) zA (zV _)) (zu (zG (Zq (zg (zM xo (zM zfu zA zA) zA) (zg zA (zg zA zk)))))) zU) (zm (yO (zK (yu (zJ hr)) (zM Ym (pv 0) zA) zA (zV _)) (zu (zG (Zq (zg zA (zg (zM zfu zA zA) (zg zA zk)))))) zU) (zm (yO (zK (yu (zJ hr)) (zM Ym (pv 0) zA) zA (zV _)) (zu (zG (Zq (zg zA (zg zA (zg zA (zg zA (zg zA (zg zA (zg zA (zg zA zk))))))))))) zU) (zu (zG (Zq (zg zA (zg zA (zg zA zk)))))))))),zC ?_⟩;walk_at "walk";refine XL (λc=>?_) (λc=>?_)
 ·rw [jK c] at k;walk_at "walk";exact Zy (by assumption) k
 rw [jQ c] at k;walk_at "walk";refine XL (λc=>?_) (λc=>?_)
 ·rw [jK c] at k;walk_at "walk";exact Zy (by assumption) k
 rw [jQ c] at k;walk_at "walk";refine XL (λc=>?_) (λc=>?_)
 ·rw [jK c] at k;walk_at "walk";exact Zy (by assumption) k
 rw [jQ c] at k;walk_at "walk";refine XL (λc=>?_) (λc=>?_)
 ·rw [jK c] at k;walk_at "walk";exact Zy (by assumption) k
 rw [jQ c] at k;walk_at "walk";exact Zy (by assumption) k
abbrev zbn:Stmt:=top 70
theorem WK:FnScope ["_law_amounts","_law_parts","_law_level","_law_amount","_law_part"] pad (zB zbn):=⟨rfl,rfl,rfl,by decide+kernel,rfl,by decide+kernel,by decide+kernel⟩
theorem zse (B:Bl mg) (F:Fun K "_law_even" "_law_even" zbn f fd):FnOk P w K mg base CX0 1 f fd pad zmB:=by
 refine F.ok WK (λvs H Q E h=>?_) (λcdv A outer s H vs Q E hr h=>?_)
 ·obtain ⟨a,h,_⟩:=h;rw [<-h.len];rfl
 obtain ⟨⟨am,tk⟩,hA,⟨l8,ok⟩,k⟩:=h;obtain ⟨v0,v1,rfl,al⟩:=Zv hA;have S:Sta H H H [] [(Ya am,v0),(Ya tk,v1)]:=Sta.enter (yt.refl _) al;dsimp only at l8 ok;have lt:=ok.1;refine ⟨_,(zm (Zm 2 WK.nd (zR (zic rfl) rfl B.max zq0 (zg (zM xo (Zq (zg zA zk)) (pv 1)) zk))) (zm (Xw qe rfl (UA true true rfl B.zip (zg (pv 0) (zg (pv 1) zk))) (YX rfl (yi (xM 3 WK.nd) (yi (xM 4 WK.nd) Zz))) (zu (yO (PW.pt (zex (zK zdI (pv 4) zA (zV _)) (zex (zK zi3 (pv 4) (pv 3) (zV _)) (zfo (PW.pt (zki (zK zdI (pv 4) (pv 3) (zV _)) (zgu (zK (zdH (zJ hr)) (pv 4) (pv 2) (zV _))))))))) (zu (zG VI)) zU))) (zu (zG VI)))),zC ?_⟩;walk_at "walk";rename_i p1 H1 e1 S1;obtain ⟨a1,rfl⟩:=S1.refL (xs:=tk.map PyData.int) (v:=v1) (by walk_at "m");refine WR S1 (S1.vwC (by walk_at "mem")) (S1.vwL (by walk_at "m")) (by rw [ja];show 1+_<=1000;omega) λp2 H2 e2 S2=>?_;walk_at "walk";refine zrC (ns:=0::tk) S2 (by walk_at "mem") (Nat.zero_lt_succ _) λm hm top=>?_;have S3:Sta H H H2 [] [(Ya am,v0),(Ya tk, .ref a1)]:=S2.weak (by walk_at "sub") (by walk_at "dats");clear S2 S1;walk_at "walk";refine zaE (xs:=am.map PyData.int) (ys:=tk.map PyData.int) S3 (by walk_at "m") (by walk_at "m") λJ wk=>?_;refine XC wk (λi σ cs ds=>(∃x3 x4,σ=[some v0,some (.ref a1),some (.int m),x3,x4])/\cs=[]/\ds=[(Ya am,v0),(Ya tk, .ref a1)]) S3 ⟨⟨none,none,rfl⟩,rfl,rfl⟩ (λi σ cs ds h=>?_) ?_ ?_
 ·obtain ⟨_,rfl,rfl⟩:=h;exact ⟨.mem (by walk_at "mem"),λ_ _ h=>h.tail, .mem (by walk_at "mem")⟩
 ·rintro i x u σ H4 cs ds hx ⟨⟨x3,x4,rfl⟩,rfl,rfl⟩ S4
  obtain ⟨xa,xb,h1,h2,rfl⟩:=Xn hx;obtain ⟨a,ha,rfl⟩:=zZ h1;obtain ⟨p,hp,rfl⟩:=zZ h2;obtain ⟨b1,b2,b3⟩:=ok.2 i a p ha hp;refine Zp (Zo S4 (by walk_at "m") λw1 w2 S5=>?_);cases S5.int1;cases S5.drop1.int1;walk_at "walk";refine XL (λc=>absurd c (by omega)) (λ_=>?_);walk_at "walk";refine XL (λc=>absurd c (by omega)) (λ_=>?_);walk_at "walk";have fin:∀σ',(∃x3 x4,σ'=[some v0,some (.ref a1),some (.int m),x3,x4])->AtP H H (λσ cs ds=>(∃x3 x4,σ=[some v0,some (.ref a1),some (.int m),x3,x4])/\cs=[]/\ds=[(Ya am,v0),(Ya tk, .ref a1)]) σ' H4:=λσ' h=>VE (S5.dat (by walk_at "dats")) ⟨h,rfl,rfl⟩;refine XL (λc=>?_) (λc=>?_)
  ·have e:p=m:=by
    have t1:=top p (jf _ (jc hp))
    rcases jn.mp hm with z|z
    ·omega
    ·have:=b3 c m z;omega
   walk_at "walk";refine zp1 e ?_;walk_at "walk";exact fin _ ⟨_,_,rfl⟩
  ·walk_at "walk";exact fin _ ⟨_,_,rfl⟩
 ·rintro σ H4 cs ds ⟨⟨x3,x4,rfl⟩,rfl,rfl⟩ S4
  walk_at "walk";exact k _ S4.base
end
section
variable {A:RAd}
abbrev VA:Stmt:=top 69
theorem yN:FnScope ["_law_script","_law_at","_law_many","_law_size","_law_labels_here","_law_ranks","_law_groups","_law_claims_here","_law_k","_law_cell","_law_amount","_law_rank"] pI (zB VA):=⟨rfl,rfl,rfl,by decide+kernel,rfl,by decide+kernel,by decide+kernel⟩
theorem znA (B:Bl mg) (Yj:Cal P w K mg base CX0 1 "_law_cell_at" pV (zj6 K)) (zac:Cal P w K mg base CX0 1 "_law_mixed" pai zrd) (zco:Cal P w K mg base CX0 1 "_law_labels" ["_law_number"] zda) (F:Fun K "_law_claims" "_law_claims" VA f fd):FnOk P w K mg base CX0 2 f fd pI (zdd K):=by
 refine F.ok yN (λvs H Q E h=>?_) (λcdv A outer s H vs Q E hr h=>?_)
 ·obtain ⟨G,a,ns,at',many,size,rfl,_⟩:=h;rfl
 obtain ⟨G,a,ns,at',many,size,rfl,eG,hS,⟨ha0,hm1,hm8,hs0,hs1⟩,k⟩:=h;have S:Sta H G H [] []:=Sta.enter eG λp hp=>absurd hp jp;refine ⟨_,(zm (Zm 4 yN.nd (pcl zac hr (zg (pcl Yj hr (zg (pv 0) (zg (pv 1) zk))) (zg zA zk)))) (zm (Zm 5 yN.nd (pcl zco hr (zg (pv 4) zk))) (zm (Zm 6 yN.nd (pcl zco hr (zg (zM WX (pv 4) zA) zk))) (zm (Zm 7 yN.nd (Zq zk)) (zm (Xw qe rfl (zdz rfl B.range (zg (pv 2) zk)) (xM 8 yN.nd) (zm (Zm 9 yN.nd (pcl Yj hr (zg (pv 0) (zg (zM xo (pv 1) (pv 8)) zk)))) (zm (Zm 10 yN.nd (zM WV (zM WX (pv 9) zA) (pv 3))) (zm (yO (zK (yu (zJ hr)) (zM Ym (pv 9) zA) zA (zV _)) (zu (Zm 10 yN.nd (zM Ym (zM WX (pv 9) zA) zA))) zU) (zm (yO (PW.pt (zki (zK (yu (zJ hr)) (zM Ym (pv 9) zA) zA (zV _)) (zgu (zK zi3 (pv 8) zA (zV _))))) (zu (Zm 10 yN.nd (xE yx (xE yx (pv 7) (zM WV (zM WX (pv 9) zA) (pv 8)) (λ_ _=>rfl)) zA (λ_ _=>rfl)))) zU) (zm (Zm 11 yN.nd (xE yx (pv 5) (zM WV (pcl zac hr (zg (pv 9) (zg zA zk))) (zR yB rfl B.len ZG (zg (pv 5) zk))) (λ_ _=>rfl))) (zu (Zd (zey qp qO qP ZD (pv 7) (zg (yA (zg (pv 10) (zg (pv 11) (zg (xE yx (pv 6) (zM WV (pcl zac hr (zg (pv 9) (zg zA zk))) (zR yB rfl B.len ZG (zg (pv 6) zk))) (λ_ _=>rfl)) zk)))) zk)))))))))) (zu (zG (pv 7)))))))),zC ?_⟩;walk_at "walk";generalize mixV (zd2 ns at') 3=lab at*;refine zfk S λp1 H1 e1 S1=>?_;have S1':=S1.freeze;walk_at "walk";refine zfk S1' λp2 H2 e2 S2=>?_;have S2':=S2.freeze;walk_at "walk";rename_i p3 H3 e3 S3;refine zm1 H G (by omega) (by omega) λJ wk=>?_
 refine XC wk (λi σ cs ds=>∃(l:List Cl) (x8 x9 x10 x11:Option V),σ=[some (.ref a),some (.int at'),some (.int many),some (.int size),some (.int lab),some (.ref p1),some (.ref p2),some (.ref p3),x8,x9,x10,x11]/\cs=[(p3,l.map zP)]/\ds=[(Ya (zae (lab / 5)), .ref p2),(Ya (zae lab), .ref p1)]/\l.length=i/\∀c∈l,(0<=c.1/\0<=c.2.1/\0<=c.2.2)/\c.1<size) S3
  ⟨[],none,none,none,none,rfl,rfl,rfl,rfl,λc hc=>absurd hc jp⟩ (λ_ _ _ _ _=>trivial) ?_ ?_
 ·rintro i x v σ H4 cs ds hx ⟨l,x8,x9,x10,x11,rfl,rfl,rfl,hlen,hok⟩ S4
  obtain ⟨hi,rfl⟩:=zaF hx;cases S4.int1;have hS4:SqL K H4 a (ns.map V.int):=S4.base.seq hS;have S4:=S4.drop1;walk_at "walk";generalize zd2 ns (at'+(0+(i:Int)))=c at*
  have fin:∀(am:Int) (y8 y9 y10 y11:Option V) (r g:Int) (H5:Hp),0<=am->am<size->0<=r->0<=g->Sta H G H5 [(p3,l.map zP++[zP (am,r,g)])] [(Ya (zae (lab / 5)), .ref p2),(Ya (zae lab), .ref p1)]->
   AtP H G (λσ cs ds=>∃(l:List Cl) (x8 x9 x10 x11:Option V),σ=[some (.ref a),some (.int at'),some (.int many),some (.int size),some (.int lab),some (.ref p1),some (.ref p2),some (.ref p3),x8,x9,x10,x11]/\cs=[(p3,l.map zP)]/\ds=[(Ya (zae (lab / 5)), .ref p2),(Ya (zae lab), .ref p1)]/\l.length=i+1/\∀c∈l,(0<=c.1/\0<=c.2.1/\0<=c.2.2)/\c.1<size) [some (.ref a),some (.int at'),some (.int many),some (.int size),some (.int lab),some (.ref p1),some (.ref p2),some (.ref p3),y8,y9,y10,y11] H5:=by
   intro am y8 y9 y10 y11 r g H5 h0 hz hr hg S5;refine VE S5 ⟨l++[(am,r,g)],y8,y9,y10,y11,rfl,by rw [qx];rfl,rfl,by rw [jJ,hlen];rfl,λc hc=>?_⟩
   rcases jV.mp hc with z|z
   ·exact hok c z
   ·rw [ju.mp z];exact ⟨⟨h0,hr,hg⟩,hz⟩
  have lmem:(l.map zP).length<=1000:=by rw [ja];omega
  obtain ⟨r,hr0,hr1⟩:=znV lab (mixV c 1);obtain ⟨g,hg0,hg1⟩:=znV (lab / 5) (mixV c 2);have ln1:=zjf lab;have ln2:=zjf (lab / 5);have sz0:size≠0:=by omega
  have f0:(c / 9).fmod size=c / 9 % size:=qk _ (by omega);have m1:=wy (c / 9) sz0;have m2:=qZ (c / 9) (show 0<size by omega);walk_at "walk";refine XL (λc1=>?_) (λc1=>?_)
  ·walk_at "walk";refine XL (λc2=>absurd c2 (by omega)) (λ_=>?_);walk_at "walk";refine YR (xs:=(zae lab).map PyData.int) S4 (by walk_at "m") hr1 ?_;walk_at "walk";refine YR (xs:=(zae (lab / 5)).map PyData.int) S4 (by walk_at "m") hg1 ?_;walk_at "walk";rename_i q5 H5 e5 S5;refine Zh (y:=zP (c / 9 % 5,r,g)) S5 (by walk_at "m") lmem λH6 S6=>?_;walk_at "walk";exact fin (c / 9 % 5) _ _ _ _ r g H6 (by omega) (by omega) hr0 hg0 (S6.dat (by walk_at "dats"))
  ·have q0:0<=(c / 9).fmod size:=by rw [f0];exact m1
   have qz:(c / 9).fmod size<size:=by rw [f0];exact m2
   walk_at "walk";refine XL (λc2=>?_) (λ_=>?_)
   ·walk_at "walk";refine XL (λc3=>?_) (λ_=>?_)
    ·have i0:0+(i:Int)≠0:=by omega
     have e1:=qk (c / 9) (show 0<=0+(i:Int) by omega);have n1:=wy (c / 9) i0;have n2:=qZ (c / 9) (show 0<0+(i:Int) by omega);rw [<-e1] at n1 n2;walk_at "walk";have hj:((c / 9).fmod (0+(i:Int))).toNat<l.length:=by omega
     have hc':=jb hj
     have hat:atI (l.map zP) ((c / 9).fmod (0+(i:Int)))=some (zP (l[((c / 9).fmod (0+(i:Int))).toNat])):=by
      have:=xi (xs:=l.map zP) (j:=((c / 9).fmod (0+(i:Int))).toNat) (v:=zP (l[((c / 9).fmod (0+(i:Int))).toNat])) (by rw [jh,hc'];rfl);rwa [Int.toNat_of_nonneg n1] at this
     have okc:=hok _ (qa hj);generalize l[((c / 9).fmod (0+(i:Int))).toNat]=c' at*;refine zkf (x:=zP c') S4 (by walk_at "mem") hat λw7 S7=>?_;walk_at "walk";refine YR (xs:=(zae lab).map PyData.int) S7 (by walk_at "m") hr1 ?_;walk_at "walk";refine YR (xs:=(zae (lab / 5)).map PyData.int) S7 (by walk_at "m") hg1 ?_;walk_at "walk";rename_i q5 H5 e5 S5;refine Zh (y:=zP (c'.1,r,g)) S5 (by walk_at "m") lmem λH6 S6=>?_;walk_at "walk";exact fin (c'.1) _ _ _ _ r g H6 okc.1.1 okc.2 hr0 hg0 (S6.dat (by walk_at "dats"))
    ·skip
     walk_at "walk";refine YR (xs:=(zae lab).map PyData.int) S4 (by walk_at "m") hr1 ?_;walk_at "walk";refine YR (xs:=(zae (lab / 5)).map PyData.int) S4 (by walk_at "m") hg1 ?_;walk_at "walk";rename_i q5 H5 e5 S5;refine Zh (y:=zP ((c / 9).fmod size,r,g)) S5 (by walk_at "m") lmem λH6 S6=>?_;walk_at "walk";exact fin ((c / 9).fmod size) _ _ _ _ r g H6 q0 qz hr0 hg0 (S6.dat (by walk_at "dats"))
   ·skip
    walk_at "walk";refine YR (xs:=(zae lab).map PyData.int) S4 (by walk_at "m") hr1 ?_;walk_at "walk";refine YR (xs:=(zae (lab / 5)).map PyData.int) S4 (by walk_at "m") hg1 ?_;walk_at "walk";rename_i q5 H5 e5 S5;refine Zh (y:=zP ((c / 9).fmod size,r,g)) S5 (by walk_at "m") lmem λH6 S6=>?_;walk_at "walk";exact fin ((c / 9).fmod size) _ _ _ _ r g H6 q0 qz hr0 hg0 (S6.dat (by walk_at "dats"))
 ·rintro σ H4 cs ds ⟨l,x8,x9,x10,x11,rfl,rfl,rfl,hlen,hok⟩ S4
  walk_at "walk";rw [ZR] at hlen;obtain ⟨G',a',b',c',d',e',f',g'⟩:=S4;obtain ⟨z1,z2,us,z3,z4⟩:=e' _ (jd ..);exact k l p3 H4 G' us hlen ⟨by omega,by omega,λc hc=>(hok c hc).1,λc hc=>(hok c hc).2⟩ ⟨c',a',b',d'⟩ z1 z2 z3 z4
abbrev UP:Stmt:=top 77
theorem Vu:FnScope ["_law_whole_here","_law_cell","_law_kind","_law_number"] pab (zB UP):=⟨rfl,rfl,rfl,by decide+kernel,rfl,by decide+kernel,by decide+kernel⟩
theorem zpu (XR:Cal P w K mg base CX0 2 "_law_lowest" paj zf5) (F:Fun K "_law_purse" "_law_purse" UP f fd):FnOk P w K mg base CX0 3 f fd pab ziN:=by
 refine F.ok Vu (λvs H Q E h=>?_) (λcdv A' outer s H vs Q E hr h=>?_)
 ·obtain ⟨G,wh,c,rfl,_⟩:=h;rfl
 obtain ⟨G,wh,c,rfl,eG,⟨w0,wz⟩,k⟩:=h;have S:Sta H G H [] []:=Sta.enter eG λp hp=>absurd hp jp;have good:∀(i j:Int),0<=i->0<j->Sz 300 i->Sz 300 j->0<=Rat.divInt i j/\SzQ 300 (Rat.divInt i j):=λi j h1 h2 z1 z2=>⟨Rat.divInt_nonneg h1 (by omega),SzQ.divInt z1 z2 (by omega)⟩;have n3:wh+3≠0:=by omega
 have n5:2*wh+5≠0:=by omega
 have b0:wh<2 ^ 180:=by unfold Sz at wz;omega
 have p12:(0:Int)<10 ^ Int.toNat 12:=by decide
 refine ⟨_,(zm (Zm 2 Vu.nd (zM Ym (pv 1) zA)) (zm (Zm 3 Vu.nd (zM WX (pv 1) zA)) (zm (yO (zK (yu (zJ hr)) (pv 2) zA (zV _)) (zu (zG (yA (zg (zM WV (pv 3) (zM xo (pv 0) zA)) (zg zA zk))))) zU) (zm (yO (zK (yu (zJ hr)) (pv 2) zA (zV _)) (zu (zG (pcl XR hr (zg (pv 0) (zg zA zk))))) zU) (zm (yO (zK (yu (zJ hr)) (pv 2) zA (zV _)) (zu (zG (pcl XR hr (zg (zM WV (pv 3) (zM xo (zM yn zA (pv 0)) zA)) (zg zA zk))))) zU) (zm (yO (zK (yu (zJ hr)) (pv 2) zA (zV _)) (zu (zG (pcl XR hr (zg (zM yn (pv 0) (zM Ym (pv 3) zA)) (zg zA zk))))) zU) (zu (zG (pcl XR hr (zg (zM WV (pv 3) (zM yn (zM xo (pv 0) zA) (zM zfu zA zA))) (zg (zM zfu zA zA) zk))))))))))),zC ?_⟩;walk_at "walk";refine XL (λ_=>?_) (λ_=>?_)
 ·walk_at "walk";rename_i p1 H1 e1 S1;have e:=qk (c / 5) (show 0<=wh+3 by omega);have m1:=wy (c / 5) n3;have m2:=qZ (c / 5) (show 0<wh+3 by omega);rw [<-e] at m1 m2;have hq:PyData.tuple [.int ((c / 5).fmod (wh+3)), .int 1]=frD (((c / 5).fmod (wh+3):Int):Rat):=rfl;rw [hq] at S1;exact zhH S1 k (by walk_at "m") ⟨zbL m1,by show Sz 300 ((c / 5).fmod (wh+3));unfold Sz;omega,by show Sz 300 1;unfold Sz;decide⟩
 walk_at "walk";refine XL (λ_=>?_) (λ_=>?_)
 ·walk_at "walk";refine zaD S (by decide) (by unfold Sz;decide+kernel) λr H1 e1 S1=>?_;exact zhH S1 k (by walk_at "m") (good _ _ w0 (by decide) (wz.mono (by decide)) (by unfold Sz;decide))
 walk_at "walk";refine XL (λ_=>?_) (λ_=>?_)
 ·walk_at "walk";have e:=qk (c / 5) (show 0<=2*wh+5 by omega);have m1:=wy (c / 5) n5;have m2:=qZ (c / 5) (show 0<2*wh+5 by omega);rw [<-e] at m1 m2;refine zaD S (by decide) (by unfold Sz;decide+kernel) λr H1 e1 S1=>?_;exact zhH S1 k (by walk_at "m") (good _ _ m1 (by decide) (by unfold Sz;omega) (by unfold Sz;decide))
 walk_at "walk";refine XL (λ_=>?_) (λ_=>?_)
 ·have o:IntMulOk wh (c / 5 % 1009):=wz.mulOk (n:=10) (by unfold Sz;omega) (by decide);walk_at "walk";refine zaD S (by decide) (by unfold Sz;decide+kernel) λr H1 e1 S1=>?_;exact zhH S1 k (by walk_at "m") (good _ _ (Int.mul_nonneg w0 (by omega)) (by decide) ((wz.mul (n:=10) (by unfold Sz;omega)).mono (by decide)) (by unfold Sz;decide))
 have z1:Sz 181 (wh+1):=by unfold Sz;omega
 have z2:Sz 60 ((10:Int) ^ Int.toNat 12):=by unfold Sz;decide
 have o2:IntMulOk (wh+1) (10 ^ Int.toNat 12):=z1.mulOk z2 (by decide);have zz:=z1.mul z2;have pp:0<(wh+1)*(10:Int) ^ Int.toNat 12:=Int.mul_pos (by omega) p12;have nz:(wh+1)*(10:Int) ^ Int.toNat 12≠0:=by omega
 have e:=qk (c / 5) (show 0<=(wh+1)*(10:Int) ^ Int.toNat 12 by omega);have m1:=wy (c / 5) nz;have m2:=qZ (c / 5) pp;rw [<-e] at m1 m2;walk_at "walk";refine zaD S p12 (z2.mono (by decide)) λr H1 e1 S1=>?_;exact zhH S1 k (by walk_at "m") (good _ _ m1 p12 ((zhm m1 (Jn m2) zz).mono (by decide)) (z2.mono (by decide)))
end
abbrev zbm:Stmt:=top 71
theorem ZM:FnScope ["_law_shape","_law_claims_here","_law_parts","_law_amounts","_law_whole_here","_law_purse_here","_law_amount","_law_part"] pc (zB zbm):=⟨rfl,rfl,rfl,by decide+kernel,rfl,by decide+kernel,by decide+kernel⟩
abbrev YH:Stmt:=top 72
theorem xO:FnScope ["_law_shape","_law_claims_here","_law_parts","_law_top","_law_bottom","_law_many","_law_here","_law_there"] pc (zB YH):=⟨rfl,rfl,rfl,by decide+kernel,rfl,by decide+kernel,by decide+kernel⟩
theorem ok_upA {n:Nat} (B:Bl mg) (yT:Cal P w K mg base CX0 (2*n+2) "_law_fits" pc (UJ n)) (F:Fun K "_law_upto_fit" "_law_upto_fit" YH f fd):FnOk P w K mg base CX0 (2*n+3) f fd pc (zra (n+1)):=by
 refine F.ok xO (λvs H Q E h=>?_) (λcdv A outer s H vs Q E hr h=>?_)
 ·obtain ⟨a,h,_⟩:=h;rw [<-h.len];rfl
 obtain ⟨⟨⟨t,b⟩,⟨x,y⟩,l,tk⟩,hA,ok,k⟩:=h;obtain ⟨v0,v1,v2,rfl,al⟩:=YY hA;dsimp only at ok al;have S:Sta H H H [] [((Rl.upto t b x y).shape,v0),(zH l,v1),(Ya tk,v2)]:=Sta.enter (yt.refl _) al;have few:=ok.few;have inb:=ok.fit.inB;have l8:(amV l).length<=8:=by rw [yJ];exact few
 have step:=ok.upto;obtain ⟨it,ia⟩:=inb.inS l8 ok.sz;have po:=ok.pok.1.1;have lt:=ok.fit.len;have la:∀{i:Nat} {c:Cl},l[i]? =some c->c.1∈amV l:=λhc=>jk.mpr ⟨_,jc hc,rfl⟩;refine ⟨_,(zm (zqL (pix 0) (YX rfl (yi (xM 3 xO.nd) (yi (xM 4 xO.nd) Zz)))) (zm (xx (i:=5) (N:=["_law_part","_law_bottom"]) (n:=1) (fr:=[4]) xO.nd rfl rfl rfl ⟨rfl,by decide+kernel,rfl,by decide,rfl,rfl,rfl,rfl,rfl⟩ (ye (pv 2)) (λ_ _ _ _=>(xM 0 (show (["_law_part","_law_bottom"]:List Str).Nodup from by decide+kernel))) (λ_ _ _ _=>yd) (λ_ _ _ _=>(zM yn (pv 1) (pv 0)))) (zm (xx (i:=6) (N:=["_law_claim","_law_top"]) (n:=1) (fr:=[3]) xO.nd rfl rfl rfl ⟨rfl,by decide+kernel,rfl,by decide,rfl,rfl,rfl,rfl,rfl⟩ (ye (pv 1)) (λ_ _ _ _=>(xM 0 (show (["_law_claim","_law_top"]:List Str).Nodup from by decide+kernel))) (λ_ _ _ _=>yd) (λ_ _ _ _=>(yA (zg (zM yn (pv 1) (pix 0)) (zg (pix 0) (zg (pix 0) zk)))))) (zm (yO (zK op_le (zR (Zi rfl) rfl B.sum Vi (zg (pv 5) zk)) (zR (Zi rfl) rfl B.sum Vi (zg (yq (N:=pC) (n:=1) (fr:=[]) rfl ⟨rfl,by decide+kernel,rfl,by decide,rfl,rfl,rfl,rfl,rfl⟩ (ye (pv 6)) (λ_ _ _ _=>(xM 0 (show (pC:List Str).Nodup from by decide+kernel))) (λ_ _ _ _=>yd) (λ_ _ _ _=>(pix 0))) zk)) (zV _)) (zu (zG (pcl yT hr (zg (pix 0) (zg (pv 6) (zg (pv 5) zk)))))) zU) (zm (xx (i:=7) (N:=["_law_claim","_law_top","_law_bottom"]) (n:=1) (fr:=[3,4]) xO.nd rfl rfl rfl ⟨rfl,by decide+kernel,rfl,by decide,rfl,rfl,rfl,rfl,rfl⟩ (ye (pv 1)) (λ_ _ _ _=>(xM 0 (show (["_law_claim","_law_top","_law_bottom"]:List Str).Nodup from by decide+kernel))) (λ_ _ _ _=>yd) (λ_ _ _ _=>(yA (zg (zM yn (zM VM (pv 2) (pv 1)) (pix 0)) (zg (pix 0) (zg (pix 0) zk)))))) (zu (zG (pcl yT hr (zg (pix 0) (zg (pv 7) (zg (yq (N:=["_law_part","_law_claim"]) (n:=2) (fr:=[]) rfl ⟨rfl,by decide+kernel,rfl,by decide,rfl,rfl,rfl,rfl,rfl⟩ (UA true true rfl B.zip (zg (pv 5) (zg (pv 6) zk))) (λ_ _ _ _=>(YX rfl (yi (xM 0 (show (["_law_part","_law_claim"]:List Str).Nodup from by decide+kernel)) (yi (xM 1 (show (["_law_part","_law_claim"]:List Str).Nodup from by decide+kernel)) Zz)))) (λ_ _ _ _=>yd) (λ_ _ _ _=>(zM VM (pv 0) (pix 1)))) zk))))))))))),zC ?_⟩;simp only [Rl.shape] at S;walk_at "walk";rename_i w1 S1;refine Zp (Zo S1 (by walk_at "m") λw2 w3 S2=>?_);cases S2.int1;cases S2.drop1.int1;walk_at "walk";refine yf (xs:=tk.map PyData.int) S2 (by walk_at "m") λJ wk=>?_;refine zS wk (λj=> .int (b*tk.getD j 0)) (ys:=(xA b tk).map PyData.int) (by unfold xA;rw [ja,js];exact zE (λx:Int=>PyData.int (b*x)) 0 tk) S2 (λ_ _=> .mem (by walk_at "mem")) (by rw [ja,inb.1];omega) (λj x v B' G' Kd Kn hx t1 S hd C ex s0 H0=>?_) λD3 H3 e3 S3=>?_
 ·obtain ⟨y,hy,rfl⟩:=zZ hx;cases S.int1;have o:IntMulOk b y:=po.2.mulOk (it.2 y (jc hy)).2 (by omega);refine zN ⟨rfl,?_⟩;walk_at "walk";refine hd S ?_;rw [zQ hy];exact Has.int
 have S4:=S3.freeze;walk_at "walk";refine yf (xs:=l.map zP) S4 (by walk_at "m") λJ wk=>?_
 refine zS wk (λj=>zP ((λc:Cl=>((t*c.1,c.2):Cl)) (l.getD j (0,0,0)))) (ys:=(yw t l).map zP) (by
  unfold yw;rw [js,ja];exact zE (λc:Cl=>zP ((t*c.1,c.2):Cl)) (0,0,0) l) S4 (λ_ _=> .mem (by walk_at "mem")) (by rw [ja];omega) (λj x v B' G' Kd Kn hx t1 S hd C ex s0 H0=>?_) λD5 H5 e5 S5=>?_
 ·obtain ⟨c,hc,rfl⟩:=zZ hx;have o:IntMulOk t c.1:=po.1.mulOk (ok.sz _ (la hc)) (by omega);refine zN ⟨rfl,?_⟩;walk_at "walk";refine hd (by assumption) ?_;rw [zQ hc];exact .mem (by walk_at "mem")
 have S6:=S5.freeze;have tl:=ZT t l;walk_at "walk";refine yf (xs:=(yw t l).map zP) S6 (by walk_at "m") λJ wk=>?_;refine zS wk (λj=> .int ((yw t l).getD j (0,0,0)).1) (ys:=(amV (yw t l)).map PyData.int) (by unfold amV;rw [ja,js];exact zE (λc:Cl=>PyData.int c.1) (0,0,0) (yw t l)) S6 (λ_ _=> .mem (by walk_at "mem")) (by rw [ja];omega) (λj x v B' G' Kd Kn hx t1 S hd C ex s0 H0=>?_) λD7 H7 e7 S7=>?_
 ·obtain ⟨c,hc,rfl⟩:=zZ hx;refine zN ⟨rfl,?_⟩;walk_at "walk";refine hd (by assumption) ?_;rw [zQ hc];exact Has.int
 walk_at "walk";refine XL (λc=>?_) (λc=>?_)
 ·rw [jK c] at step;walk_at "walk";rename_i w8 S8;refine XH (r:=x) (l:=yw t l) (tk:=xA b tk) S8 (by walk_at "m") (by walk_at "m") (by walk_at "m") step λH9 e9 S9=>?_;exact k _ S9.base
 ·rw [jQ c] at step;have S8:=S7.freeze;have zs:Sz 211 (b - t):=po.2.sub po.1;walk_at "walk";refine yf (xs:=l.map zP) S8 (by walk_at "m") λJ wk=>?_
  refine zS wk (λj=>zP ((λc:Cl=>(((b - t)*c.1,c.2):Cl)) (l.getD j (0,0,0)))) (ys:=(yw (b - t) l).map zP) (by
   unfold yw;rw [js,ja];exact zE (λc:Cl=>zP (((b - t)*c.1,c.2):Cl)) (0,0,0) l) S8 (λ_ _=> .mem (by walk_at "mem")) (by rw [ja];omega) (λj x v B' G' Kd Kn hx t1 S hd C ex s0 H0=>?_) λD9 H9 e9 S9=>?_
  ·obtain ⟨c,hc,rfl⟩:=zZ hx;have o:IntMulOk (b - t) c.1:=zs.mulOk (ok.sz _ (la hc)) (by omega);refine zN ⟨rfl,?_⟩;walk_at "walk";refine hd (by assumption) ?_;rw [zQ hc];exact .mem (by walk_at "mem")
  have S10:=S9.freeze;walk_at "walk";rename_i w11 S11;have ld:(xA b tk).length=(amV (yw t l)).length:=by rw [Wi,yJ,ZT];exact lt
  have ll:(ZN (xA b tk) (amV (yw t l))).length=(amV (yw t l)).length:=by rw [VO ld.symm,ld]
  have l9:(amV (yw t l)).length<=8:=by rw [yJ,ZT];exact few
  refine zaE (xs:=(xA b tk).map PyData.int) (ys:=(yw t l).map zP) S11 (by walk_at "m") (by walk_at "m") λJ3 wk3=>?_;refine zS wk3 (λj=> .int ((ZN (xA b tk) (amV (yw t l))).getD j 0)) (ys:=(ZN (xA b tk) (amV (yw t l))).map PyData.int) ?_ S11 (λ_ _=>⟨.mem (by walk_at "mem"),λ_ _ h=>h.tail, .mem (by walk_at "mem")⟩) ?_ (λj x v B' G' Kd Kn hx t1 S hd C ex s0 H0=>?_) λD12 H12 e12 S12=>?_
  ·rw [xL,ja,ja,ld,yJ,qI,<-yJ,<-ll];exact zE (λx=>PyData.int x) 0 _
  ·rw [xL,ja,ja];omega
  ·obtain ⟨x1,x2,h1,h2,rfl⟩:=Xn hx;obtain ⟨n1,hn1,rfl⟩:=zZ h1;obtain ⟨c2,hc2,rfl⟩:=zZ h2;refine Zp (Zo S (by walk_at "m") λw1 w2 S=>?_);cases S.int1;refine xu (zN (xu (zN (Wb ⟨rfl,?_⟩))));walk_at "walk";refine hd (by assumption) ?_;rw [zQ (show (ZN (xA b tk) (amV (yw t l)))[j]? =some (n1 - c2.1) by unfold ZN amV;rw [jt,hn1,jh,hc2];rfl)];exact Has.int
  walk_at "walk";refine XH (r:=y) (l:=yw (b - t) l) (tk:=ZN (xA b tk) (amV (yw t l))) S12.freeze (by walk_at "m") (by walk_at "m") (by walk_at "m") step λH13 e13 S13=>?_;exact k _ S13.base
abbrev ZY:Stmt:=top 73
theorem xG:FnScope ["_law_shape","_law_claims_here","_law_parts","_law_full","_law_rank","_law_places","_law_some"] pc (zB ZY):=⟨rfl,rfl,rfl,by decide+kernel,rfl,by decide+kernel,by decide+kernel⟩
theorem ok_rkF {n:Nat} (B:Bl mg) (B2:Bl3 mg) (yT:Cal P w K mg base CX0 (2*n+2) "_law_fits" pc (UJ n)) (F:Fun K "_law_ranks_fit" "_law_ranks_fit" ZY f fd):FnOk P w K mg base CX0 (2*n+3) f fd pc (zrc (n+1)):=by
 refine F.ok xG (λvs H Q E h=>?_) (λcdv A outer s H vs Q E hr h=>?_)
 ·obtain ⟨a,h,_⟩:=h;rw [<-h.len];rfl
 obtain ⟨⟨r,l,tk⟩,hA,ok,k⟩:=h;obtain ⟨v0,v1,v2,rfl,al⟩:=YY hA;dsimp only at ok al;have S:Sta H H H [] [(r.shape,v0),(zH l,v1),(Ya tk,v2)]:=Sta.enter (yt.refl _) al;have few:=ok.few;have tl:=ok.fit.len;refine ⟨_,(zm (Zm 3 xG.nd VI) (zm (Xw qe rfl (ye (zaH rfl rfl B2.sorted rfl B2.set (yq (N:=pC) (n:=1) (fr:=[]) rfl ⟨rfl,by decide+kernel,rfl,by decide,rfl,rfl,rfl,rfl,rfl⟩ (ye (pv 1)) (λ_ _ _ _=>(xM 0 (show (pC:List Str).Nodup from by decide+kernel))) (λ_ _ _ _=>yd) (λ_ _ _ _=>(pix 0))))) (xM 4 xG.nd) (zm (xx (i:=5) (N:=["_law_k","_law_claims_here","_law_rank"]) (n:=1) (fr:=[1,4]) xG.nd rfl rfl rfl ⟨rfl,by decide+kernel,rfl,by decide,rfl,rfl,rfl,rfl,rfl⟩ (zdz rfl B.range (zg (zR yB rfl B.len ZG (zg (pv 1) zk)) zk)) (λ_ _ _ _=>(xM 0 (show (["_law_k","_law_claims_here","_law_rank"]:List Str).Nodup from by decide+kernel))) (λ_ _ _ _=>(zdx (zK (yu (zJ hr)) (xE yx (xE yx (pv 1) (pv 0) (λ_ _=>rfl)) zA (λ_ _=>rfl)) (pv 2) (zV _)))) (λ_ _ _ _=>(pv 0))) (zm (xx (i:=6) (N:=pX) (n:=1) (fr:=[2]) xG.nd rfl rfl rfl ⟨rfl,by decide+kernel,rfl,by decide,rfl,rfl,rfl,rfl,rfl⟩ (ye (pv 5)) (λ_ _ _ _=>(xM 0 (show (pX:List Str).Nodup from by decide+kernel))) (λ_ _ _ _=>yd) (λ_ _ _ _=>(xE yx (pv 1) (pv 0) (λ_ _=>rfl)))) (zm (yO (PW.pt (zki (VG (Wo (pv 3))) (zgu (zK zi3 (zR (zic rfl) rfl B.max zq0 (zg (pv 6) zk)) zA (zV _))))) (zu (zG VI)) zU) (zm (yO (VG (Wo (pcl yT hr (zg (pv 0) (zg (yq (N:=pM) (n:=1) (fr:=[1]) rfl ⟨rfl,by decide+kernel,rfl,by decide,rfl,rfl,rfl,rfl,rfl⟩ (ye (pv 5)) (λ_ _ _ _=>(xM 0 (show (pM:List Str).Nodup from by decide+kernel))) (λ_ _ _ _=>yd) (λ_ _ _ _=>(xE yx (pv 1) (pv 0) (λ_ _=>rfl)))) (zg (pv 6) zk)))))) (zu (zG VI)) zU) (zu (Zm 3 xG.nd (zni (pv 3) (zng (zdB (yu (zJ hr)) (pv 6) (yq (N:=pM) (n:=1) (fr:=[1]) rfl ⟨rfl,by decide+kernel,rfl,by decide,rfl,rfl,rfl,rfl,rfl⟩ (ye (pv 5)) (λ_ _ _ _=>(xM 0 (show (pM:List Str).Nodup from by decide+kernel))) (λ_ _ _ _=>yd) (λ_ _ _ _=>(xE yx (xE yx (pv 1) (pv 0) (λ_ _=>rfl)) zA (λ_ _=>rfl)))) (zV _))))))))))) (zu (zG VI)))),zC ?_⟩;walk_at "walk";refine yf (xs:=l.map zP) S (by walk_at "m") λJ wk=>?_;refine zS wk (λj=> .int (l.getD j (0,0,0)).2.1) (ys:=(l.map (·.2.1)).map PyData.int) (by rw [ja,js];exact zE (λc:Cl=>PyData.int c.2.1) (0,0,0) l) S (λ_ _=> .mem (by walk_at "mem")) (by rw [ja];omega) (λj x v B' G' Kd Kn hx t1 S hd C ex s0 H0=>?_) λD2 H2 e2 S2=>?_
 ·obtain ⟨c,hc,rfl⟩:=zZ hx;refine zN ⟨rfl,?_⟩;walk_at "walk";refine hd (by assumption) ?_;rw [zQ hc];exact Has.int
 refine VD S2 (by walk_at "mem") (by rw [ja];omega) λos l3 H3 h1 h2 e3 S3=>?_;have eo:os=yg l:=YJ h1 (xm l).1 λz=>by rw [h2,(xm l).2]
 subst eo;have S4:Sta H H H3 [] [(.list ((yg l).map PyData.int), .ref l3),(r.shape,v0),(zH l,v1),(Ya tk,v2)]:=S3.freeze.weak (by walk_at "sub") (by walk_at "dats");clear S2 S3;walk_at "walk";refine yf (xs:=(yg l).map PyData.int) S4 (by walk_at "m") λJ wk=>?_;refine XC wk (λi σ cs ds=>∃(fl:Bool) (x4 x5 x6:Option V),σ=[some v0,some v1,some v2,some (.bl fl),x4,x5,x6]/\cs=[]/\ds=[(.list ((yg l).map PyData.int), .ref l3),(r.shape,v0),(zH l,v1),(Ya tk,v2)]/\(fl=false->∃(j:Nat) (c:Cl) (p:Int),l[j]? =some c/\tk[j]? =some p/\p≠c.1/\∀z∈(yg l).drop i,c.2.1<z)) S4 ⟨true,none,none,none,rfl,rfl,rfl,λz=>Bool.noConfusion z⟩ (λi σ cs ds h=>?_) ?_ ?_
 ·obtain ⟨_,_,_,_,_,_,rfl,_⟩:=h;exact .mem (by walk_at "mem")
 ·rintro i x u σ H5 cs ds hx ⟨fl,x4,x5,x6,rfl,rfl,rfl,inv⟩ S5
  obtain ⟨kk,hk,rfl⟩:=zZ hx;cases S5.int1;have pk:=XI (zW kk) l;have lk:=Yc (zW kk) l;have fk:=jS (wx (zW kk) l) few;have pos:=zdt (jc hk);have step:=ok.ranks kk;walk_at "walk";refine zm1 H H (by rw [ja];omega) (by rw [ja];omega) λJ6 wk6=>?_;refine zbK wk6 (λj=>if zW kk (l.getD j (0,0,0)) then some (.int (0+(j:Int))) else none) S5 (λ_ _=>trivial) (by rw [ZR,qf,ja];omega) (λj x v B' G' Kd Kn hx t1 S hd hn C ex s0 H0=>?_) λD6 H6 e6 S6=>?_
  ·obtain ⟨hj,rfl⟩:=zaF hx;rw [qf,ja] at hj;cases S.int1;have hc:=jb hj;rw [zQ hc] at hd hn;refine zN ⟨rfl,?_⟩;walk_at "walk";refine xR (xs:=l.map zP) (x:=zP l[j]) S (by walk_at "m") (by rw [Int.zero_add];exact xi (by rw [jh,hc];rfl)) λw2 S2=>?_;walk_at "walk";refine XL (λz=>?_) (λz=>?_)
   ·walk_at "walk";exact hd (jK (qc z)) S2 Has.int
   ·exact hn (jQ λy=>z (jD y)) S2
  rw [ZR,qf,ja,zfp] at S6;have S7:Sta H H H6 [] [(plD (yc (zW kk) l), .ref D6),(.list ((yg l).map PyData.int), .ref l3),(r.shape,v0),(zH l,v1),(Ya tk,v2)]:=S6.freeze.weak (by walk_at "sub") (by walk_at "dats");clear S6;walk_at "walk";refine yf (xs:=(yc (zW kk) l).map λ(i:Nat)=>PyData.int (i:Int)) S7 (by walk_at "m") λJ8 wk8=>?_;refine zS wk8 (λj=> .int (tk.getD ((yc (zW kk) l).getD j 0) 0)) (ys:=(yP 0 (yc (zW kk) l) tk).map PyData.int) (by unfold yP;rw [ja,js];exact zE (λi:Nat=>PyData.int (tk.getD i 0)) 0 (yc (zW kk) l)) S7 (λ_ _=> .mem (by walk_at "mem")) (by rw [ja];omega) (λj x v B' G' Kd Kn hx t1 S hd C ex s0 H0=>?_) λD8 H8 e8 S8=>?_
  ·obtain ⟨i',hi',rfl⟩:=zZ hx;cases S.int1;have il:=pk.lt i' (jc hi');have hc:=jb (l:=tk) (i:=i') (by omega);refine zN ⟨rfl,?_⟩;walk_at "walk";refine YR (xs:=tk.map PyData.int) S (by walk_at "m") (xi (by rw [jh,hc];rfl)) ?_;refine hd S ?_;rw [zQ hi',zQ hc];exact Has.int
  have S9:Sta H H H8 [] [(Ya (yP 0 (yc (zW kk) l) tk), .ref D8),(plD (yc (zW kk) l), .ref D6),(.list ((yg l).map PyData.int), .ref l3),(r.shape,v0),(zH l,v1),(Ya tk,v2)]:=S8.freeze.weak (by walk_at "sub") (by walk_at "dats");clear S8;have plen:(yP 0 (yc (zW kk) l) tk).length=(yc (zW kk) l).length:=VH ..;walk_at "walk";refine zpe (q:=(yP 0 (yc (zW kk) l) tk).any λx=>decide (0<x)) (λhh=>?_) (λc=>?_) (λc=>?_)
  ·walk_at "walk";refine zrB (ns:=yP 0 (yc (zW kk) l) tk) S9 (by walk_at "m") (by rw [plen];omega) λm hm top=>?_;walk_at "walk"
   have em:decide (0<m)=(yP 0 (yc (zW kk) l) tk).any λx=>decide (0<x):=JW.mpr ⟨λh=>List.any_eq_true.mpr ⟨m,hm,h⟩,λh=>by
    obtain ⟨x,hx,hx2⟩:=List.any_eq_true.mp h;have:=top x hx;have:=jD hx2
    exact qc (by omega)⟩
   rw [em];exact hh
  ·obtain ⟨c1,c2⟩:=Bool.and_eq_true_iff.mp c;obtain ⟨j,c0,p,hc0,hp,ne,later⟩:=inv (by cases fl<;>simp_all);obtain ⟨x,hx,hx2⟩:=List.any_eq_true.mp c2;obtain ⟨i',hi',rfl⟩:=jk.mp hx;have il:=pk.lt i' hi';have hd':=jb il;have rk:l[i'].2.1=kk:=jD ((Xx hd').mp hi');have ht:=jb (l:=tk) (i:=i') (by omega);rw [zQ ht] at hx2;have lt:=later kk (jc (i:=0) (by rw [wm,Nat.add_zero];exact hk));exact absurd (ok.fit.order hc0 hp hd' ht (by rw [rk];exact lt) (jD hx2)) ne
  ·walk_at "walk";refine yf (xs:=(yc (zW kk) l).map λ(i:Nat)=>PyData.int (i:Int)) S9 (by walk_at "m") λJ10 wk10=>?_;refine zS wk10 (λj=>zP (l.getD ((yc (zW kk) l).getD j 0) (0,0,0))) (ys:=(l.filter (zW kk)).map zP) (by rw [YM];unfold yP;rw [ja,js];exact zE (λi:Nat=>zP (l.getD i (0,0,0))) 0 (yc (zW kk) l)) S9 (λ_ _=> .mem (by walk_at "mem")) (by rw [ja];omega) (λj x v B' G' Kd Kn hx t1 S hd C ex s0 H0=>?_) λD10 H10 e10 S10=>?_
   ·obtain ⟨i',hi',rfl⟩:=zZ hx;cases S.int1;have il:=pk.lt i' (jc hi');have hc:=jb il;refine zN ⟨rfl,?_⟩;walk_at "walk";refine xR (xs:=l.map zP) (x:=zP l[i']) S (by walk_at "m") (xi (by rw [jh,hc];rfl)) λw2 S2=>?_;refine hd S2 ?_;rw [zQ hi',zQ hc];exact .mem (by walk_at "mem")
   walk_at "walk";refine XH (r:=r) (l:=l.filter (zW kk)) (tk:=yP 0 (yc (zW kk) l) tk) S10.freeze (by walk_at "m") (by walk_at "m") (by walk_at "m") step λH11 e11 S11=>?_;walk_at "walk";have S12:Sta H H H11 [] [(Ya (yP 0 (yc (zW kk) l) tk), .ref D8),(plD (yc (zW kk) l), .ref D6),(.list ((yg l).map PyData.int), .ref l3),(r.shape,v0),(zH l,v1),(Ya tk,v2)]:=S11.dat (by walk_at "dats")
   cases fl with
   |false=>
    rw [jQ jI];walk_at "walk";refine VE (S12.dat (by walk_at "dats")) ⟨false,_,_,_,rfl,rfl,rfl,λ_=>?_⟩;obtain ⟨j,c0,p,hc0,hp,ne,later⟩:=inv rfl;exact ⟨j,c0,p,hc0,hp,ne,λz hz=>later z (by rw [JJ (je.mp hk).1];exact jf _ hz)⟩
   |true=>
    rw [jK rfl];walk_at "walk";refine yf (xs:=(yc (zW kk) l).map λ(i:Nat)=>PyData.int (i:Int)) S12 (by walk_at "m") λJ13 wk13=>?_
    refine zS wk13 (λj=> .int (l.getD ((yc (zW kk) l).getD j 0) (0,0,0)).1) (ys:=(yP 0 (yc (zW kk) l) (amV l)).map PyData.int) (by
     unfold yP;rw [ja,js];refine (zE (λi:Nat=>PyData.int (l.getD i (0,0,0)).1) 0 (yc (zW kk) l)).trans (jF λi hi=>?_);show PyData.int _=PyData.int _
     rw [zox (pk.lt i hi)]) S12 (λ_ _=> .mem (by walk_at "mem")) (by rw [ja];omega) (λj x v B' G' Kd Kn hx t1 S hd C ex s0 H0=>?_) λD13 H13 e13 S13=>?_
    ·obtain ⟨i',hi',rfl⟩:=zZ hx;cases S.int1;have il:=pk.lt i' (jc hi');have hc:=jb il;refine zN ⟨rfl,?_⟩;walk_at "walk";refine xR (xs:=l.map zP) (x:=zP l[i']) S (by walk_at "m") (xi (by rw [jh,hc];rfl)) λw2 S2=>?_;walk_at "walk";refine hd (by assumption) ?_;rw [zQ hi',zQ hc];exact Has.int
    refine zm5 (x:=Ya (yP 0 (yc (zW kk) l) tk)) (y:=Ya (yP 0 (yc (zW kk) l) (amV l))) (S13.hp (by walk_at "m")) (S13.hpC (by walk_at "mem")) (Ua _) (Ua _) ?_;rw [zod];walk_at "walk";refine VE (S13.dropC.dat (by walk_at "dats")) ⟨_,_,_,_,rfl,rfl,rfl,λz=>?_⟩;have ne:=of_decide_eq_false z
    obtain ⟨i',hi',ne'⟩:∃i'∈yc (zW kk) l,tk.getD i' 0≠(amV l).getD i' 0:=by
     refine Classical.byContradiction λno=>ne (jF λi hi=>Classical.byContradiction λh=>no ⟨i,hi,h⟩)
    have il:=pk.lt i' hi';have hd':=jb il;have rk:l[i'].2.1=kk:=jD ((Xx hd').mp hi');have ht:=jb (l:=tk) (i:=i') (by omega);rw [zQ ht,<-zox il,zQ hd'] at ne';refine ⟨i',l[i'],tk[i'],hd',ht,ne',λz hz=>?_⟩;rw [rk];have pw:=(xm l).1;obtain ⟨kl,ek⟩:=je.mp hk;obtain ⟨j,hj,rfl⟩:=jR hz;rw [List.getElem_drop,<-ek];exact jN.mp pw i (i+1+j) kl (by rw [qt] at hj;omega) (by omega)
 ·rintro σ H5 cs ds ⟨fl,x4,x5,x6,rfl,rfl,rfl,inv⟩ S5
  walk_at "walk";exact k _ S5.base
abbrev ZJ:Stmt:=top 74
theorem xw:FnScope ["_law_shape","_law_claims_here","_law_parts","_law_sums","_law_told","_law_group","_law_places","_law_some"] pc (zB ZJ):=⟨rfl,rfl,rfl,by decide+kernel,rfl,by decide+kernel,by decide+kernel⟩
theorem ok_grF {n:Nat} (B:Bl mg) (B2:Bl3 mg) (yT:Cal P w K mg base CX0 (2*n+2) "_law_fits" pc (UJ n)) (F:Fun K "_law_groups_fit" "_law_groups_fit" ZJ f fd):FnOk P w K mg base CX0 (2*n+3) f fd pc (zre (n+1)):=by
 refine F.ok xw (λvs H Q E h=>?_) (λcdv A outer s H vs Q E hr h=>?_)
 ·obtain ⟨a,h,_⟩:=h;rw [<-h.len];rfl
 obtain ⟨⟨⟨a,b⟩,l,tk⟩,hA,ok,k⟩:=h;obtain ⟨v0,v1,v2,rfl,al⟩:=YY hA;dsimp only at ok al;have S:Sta H H H [] [((Rl.groups a b).shape,v0),(zH l,v1),(Ya tk,v2)]:=Sta.enter (yt.refl _) al;have few:=ok.few;have tl:=ok.fit.len;have gfew:=Xm l;simp only [Rl.shape] at S;refine ⟨_,(zm (Zm 3 xw.nd (Zq zk)) (zm (Zm 4 xw.nd (Zq zk)) (zm (Xw qe rfl (ye (zaH rfl rfl B2.sorted rfl B2.set (yq (N:=pC) (n:=1) (fr:=[]) rfl ⟨rfl,by decide+kernel,rfl,by decide,rfl,rfl,rfl,rfl,rfl⟩ (ye (pv 1)) (λ_ _ _ _=>(xM 0 (show (pC:List Str).Nodup from by decide+kernel))) (λ_ _ _ _=>yd) (λ_ _ _ _=>(pix 0))))) (xM 5 xw.nd) (zm (xx (i:=6) (N:=["_law_k","_law_claims_here","_law_group"]) (n:=1) (fr:=[1,5]) xw.nd rfl rfl rfl ⟨rfl,by decide+kernel,rfl,by decide,rfl,rfl,rfl,rfl,rfl⟩ (zdz rfl B.range (zg (zR yB rfl B.len ZG (zg (pv 1) zk)) zk)) (λ_ _ _ _=>(xM 0 (show (["_law_k","_law_claims_here","_law_group"]:List Str).Nodup from by decide+kernel))) (λ_ _ _ _=>(zdx (zK (yu (zJ hr)) (xE yx (xE yx (pv 1) (pv 0) (λ_ _=>rfl)) zA (λ_ _=>rfl)) (pv 2) (zV _)))) (λ_ _ _ _=>(pv 0))) (zm (xx (i:=7) (N:=pM) (n:=1) (fr:=[1]) xw.nd rfl rfl rfl ⟨rfl,by decide+kernel,rfl,by decide,rfl,rfl,rfl,rfl,rfl⟩ (ye (pv 6)) (λ_ _ _ _=>(xM 0 (show (pM:List Str).Nodup from by decide+kernel))) (λ_ _ _ _=>yd) (λ_ _ _ _=>(xE yx (pv 1) (pv 0) (λ_ _=>rfl)))) (zm (Zd (zey qp qO qP ZD (pv 3) (zg (yA (zg (zR (Zi rfl) rfl B.sum Vi (zg (yq (N:=pC) (n:=1) (fr:=[]) rfl ⟨rfl,by decide+kernel,rfl,by decide,rfl,rfl,rfl,rfl,rfl⟩ (ye (pv 7)) (λ_ _ _ _=>(xM 0 (show (pC:List Str).Nodup from by decide+kernel))) (λ_ _ _ _=>yd) (λ_ _ _ _=>(pix 0))) zk)) (zg (zR (zia rfl) rfl B.min zif (zg (yq (N:=pC) (n:=1) (fr:=[]) rfl ⟨rfl,by decide+kernel,rfl,by decide,rfl,rfl,rfl,rfl,rfl⟩ (ye (pv 7)) (λ_ _ _ _=>(xM 0 (show (pC:List Str).Nodup from by decide+kernel))) (λ_ _ _ _=>yd) (λ_ _ _ _=>(pix 0))) zk)) (zg (pv 5) zk)))) zk))) (zm (Zd (zey qp qO qP ZD (pv 4) (zg (zR (Zi rfl) rfl B.sum Vi (zg (yq (N:=pX) (n:=1) (fr:=[2]) rfl ⟨rfl,by decide+kernel,rfl,by decide,rfl,rfl,rfl,rfl,rfl⟩ (ye (pv 6)) (λ_ _ _ _=>(xM 0 (show (pX:List Str).Nodup from by decide+kernel))) (λ_ _ _ _=>yd) (λ_ _ _ _=>(xE yx (pv 1) (pv 0) (λ_ _=>rfl)))) zk)) zk))) (zu (yO (VG (Wo (pcl yT hr (zg (pix 0) (zg (pv 7) (zg (yq (N:=pX) (n:=1) (fr:=[2]) rfl ⟨rfl,by decide+kernel,rfl,by decide,rfl,rfl,rfl,rfl,rfl⟩ (ye (pv 6)) (λ_ _ _ _=>(xM 0 (show (pX:List Str).Nodup from by decide+kernel))) (λ_ _ _ _=>yd) (λ_ _ _ _=>(xE yx (pv 1) (pv 0) (λ_ _=>rfl)))) zk)))))) (zu (zG VI)) zU))))))) (zu (zG (pcl yT hr (zg (pix 0) (zg (pv 3) (zg (pv 4) zk))))))))),zC ?_⟩;walk_at "walk";rename_i p1 H1 e1 S1 p2 H2 e2 S2;refine yf (xs:=l.map zP) S2 (by walk_at "m") λJ wk=>?_;refine zS wk (λj=> .int (l.getD j (0,0,0)).2.2) (ys:=(l.map (·.2.2)).map PyData.int) (by rw [ja,js];exact zE (λc:Cl=>PyData.int c.2.2) (0,0,0) l) S2 (λ_ _=> .mem (by walk_at "mem")) (by rw [ja];omega) (λj x v B' G' Kd Kn hx t1 S hd C ex s0 H0=>?_) λD3 H3 e3 S3=>?_
 ·obtain ⟨c,hc,rfl⟩:=zZ hx;refine zN ⟨rfl,?_⟩;walk_at "walk";refine hd (by assumption) ?_;rw [zQ hc];exact Has.int
 refine VD S3 (by walk_at "mem") (by rw [ja];omega) λos l4 H4 h1 h2 e4 S4=>?_;have eo:os=zI l:=YJ h1 (yo l).1 λz=>by rw [h2,(yo l).2]
 subst eo;have S5:Sta H H H4 [(p2,(za4 ((zI l).take 0) l tk).map PyData.int),(p1,((zO l).take 0).map zP)] [(.list ((zI l).map PyData.int), .ref l4),(.tuple [.str "groups",a.shape,b.shape],v0),(zH l,v1),(Ya tk,v2)]:=S4.freeze.weak (by walk_at "sub") (by walk_at "dats");clear S1 S2 S3 S4;walk_at "walk";refine yf (xs:=(zI l).map PyData.int) S5 (by walk_at "m") λJ wk=>?_;refine XC wk (λi σ cs ds=>∃(x5 x6 x7:Option V),σ=[some v0,some v1,some v2,some (.ref p1),some (.ref p2),x5,x6,x7]/\cs=[(p2,(za4 ((zI l).take i) l tk).map PyData.int),(p1,((zO l).take i).map zP)]/\ds=[(.list ((zI l).map PyData.int), .ref l4),(.tuple [.str "groups",a.shape,b.shape],v0),(zH l,v1),(Ya tk,v2)]) S5 ⟨none,none,none,rfl,rfl,rfl⟩ (λi σ cs ds h=>?_) ?_ ?_
 ·obtain ⟨_,_,_,_,_,rfl⟩:=h;exact .mem (by walk_at "mem")
 ·rintro i x u σ H6 cs ds hx ⟨x5,x6,x7,rfl,rfl,rfl⟩ S6
  obtain ⟨g,hg,rfl⟩:=zZ hx;cases S6.int1;have gl:=(je.mp hg).1;have pk:=XI (zF g) l;have lk:=Yc (zF g) l;have fk:=jS (wx (zF g) l) few;have pos:=Ws (jc hg);have step:=ok.group g
  have t1:(zO l).take (i+1)=(zO l).take i++[zmc g (l.filter (zF g))]:=by
   rw [qV];unfold zO;rw [jh,hg];rfl
  have t2:za4 ((zI l).take (i+1)) l tk=za4 ((zI l).take i) l tk++[(yP 0 (yc (zF g) l) tk).sum]:=by
   rw [qV,hg];unfold za4;rw [qx];rfl
  walk_at "walk";refine zm1 H H (by rw [ja];omega) (by rw [ja];omega) λJ7 wk7=>?_;refine zbK wk7 (λj=>if zF g (l.getD j (0,0,0)) then some (.int (0+(j:Int))) else none) S6 (λ_ _=>trivial) (by rw [ZR,qf,ja];omega) (λj x v B' G' Kd Kn hx t1 S hd hn C ex s0 H0=>?_) λD7 H7 e7 S7=>?_
  ·obtain ⟨hj,rfl⟩:=zaF hx;rw [qf,ja] at hj;cases S.int1;have hc:=jb hj;rw [zQ hc] at hd hn;refine zN ⟨rfl,?_⟩;walk_at "walk";refine xR (xs:=l.map zP) (x:=zP l[j]) S (by walk_at "m") (by rw [Int.zero_add];exact xi (by rw [jh,hc];rfl)) λw2 S2=>?_;walk_at "walk";refine XL (λz=>?_) (λz=>?_)
   ·walk_at "walk";exact hd (jK (qc z)) S2 Has.int
   ·exact hn (jQ λy=>z (jD y)) S2
  rw [ZR,qf,ja,zfp] at S7;have S8:=S7.freeze;clear S7;walk_at "walk";refine yf (xs:=(yc (zF g) l).map λ(i:Nat)=>PyData.int (i:Int)) S8 (by walk_at "m") λJ9 wk9=>?_;refine zS wk9 (λj=>zP (l.getD ((yc (zF g) l).getD j 0) (0,0,0))) (ys:=(l.filter (zF g)).map zP) (by rw [YM];unfold yP;rw [ja,js];exact zE (λi:Nat=>zP (l.getD i (0,0,0))) 0 (yc (zF g) l)) S8 (λ_ _=> .mem (by walk_at "mem")) (by rw [ja];omega) (λj x v B' G' Kd Kn hx t1 S hd C ex s0 H0=>?_) λD9 H9 e9 S9=>?_
  ·obtain ⟨i',hi',rfl⟩:=zZ hx;cases S.int1;have il:=pk.lt i' (jc hi');have hc:=jb il;refine zN ⟨rfl,?_⟩;walk_at "walk";refine xR (xs:=l.map zP) (x:=zP l[i']) S (by walk_at "m") (xi (by rw [jh,hc];rfl)) λw2 S2=>?_;refine hd S2 ?_;rw [zQ hi',zQ hc];exact .mem (by walk_at "mem")
  have S10:=S9.freeze;clear S9;generalize hlg:l.filter (zF g)=lg at*;walk_at "walk";refine yf (xs:=lg.map zP) S10 (by walk_at "m") λJ11 wk11=>?_;refine zS wk11 (λj=> .int (lg.getD j (0,0,0)).1) (ys:=(amV lg).map PyData.int) (by unfold amV;rw [ja,js];exact zE (λc:Cl=>PyData.int c.1) (0,0,0) lg) S10 (λ_ _=> .mem (by walk_at "mem")) (by rw [ja];omega) (λj x v B' G' Kd Kn hx t1 S hd C ex s0 H0=>?_) λD11 H11 e11 S11=>?_
  ·obtain ⟨c,hc,rfl⟩:=zZ hx;refine zN ⟨rfl,?_⟩;walk_at "walk";refine hd (by assumption) ?_;rw [zQ hc];exact Has.int
  walk_at "walk";have S12:=S11.dropC;clear S11;refine yf (xs:=lg.map zP) S12 (by walk_at "m") λJ13 wk13=>?_;refine zS wk13 (λj=> .int (lg.getD j (0,0,0)).2.1) (ys:=(lg.map (·.2.1)).map PyData.int) (by rw [ja,js];exact zE (λc:Cl=>PyData.int c.2.1) (0,0,0) lg) S12 (λ_ _=> .mem (by walk_at "mem")) (by rw [ja];omega) (λj x v B' G' Kd Kn hx t1 S hd C ex s0 H0=>?_) λD13 H13 e13 S13=>?_
  ·obtain ⟨c,hc,rfl⟩:=zZ hx;refine zN ⟨rfl,?_⟩;walk_at "walk";refine hd (by assumption) ?_;rw [zQ hc];exact Has.int
  walk_at "walk";refine zmY (ns:=lg.map (·.2.1)) S13 (by walk_at "mem") (by rw [ja];exact pos) λm hm low=>?_;have em:m=ziB (lg.map (·.2.1)):=znK hm low;subst em;have S14:=S13.dropC;clear S13;walk_at "walk";rename_i q15 H15 e15 S15;have S16:Sta H H H15 [(p1,((zO l).take i).map zP),(p2,(za4 ((zI l).take i) l tk).map PyData.int)] [(zP (zmc g lg), .ref q15),(zH lg, .ref D9),(plD (yc (zF g) l), .ref D7),(.list ((zI l).map PyData.int), .ref l4),(.tuple [.str "groups",a.shape,b.shape],v0),(zH l,v1),(Ya tk,v2)]:=(S15.dat (by walk_at "dats")).swap;clear S8 S10 S12 S14 S15;refine Zh (y:=zP (zmc g lg)) S16 (by walk_at "m") (by rw [ja,qS];unfold zO;rw [ja];omega) λH17 S17=>?_;have S18:=S17.swap;clear S16 S17;walk_at "walk";refine yf (xs:=(yc (zF g) l).map λ(i:Nat)=>PyData.int (i:Int)) S18 (by walk_at "m") λJ19 wk19=>?_;refine zS wk19 (λj=> .int (tk.getD ((yc (zF g) l).getD j 0) 0)) (ys:=(yP 0 (yc (zF g) l) tk).map PyData.int) (by unfold yP;rw [ja,js];exact zE (λi:Nat=>PyData.int (tk.getD i 0)) 0 (yc (zF g) l)) S18 (λ_ _=> .mem (by walk_at "mem")) (by rw [ja];omega) (λj x v B' G' Kd Kn hx t1 S hd C ex s0 H0=>?_) λD19 H19 e19 S19=>?_
  ·obtain ⟨i',hi',rfl⟩:=zZ hx;cases S.int1;have il:=pk.lt i' (jc hi');have hc:=jb (l:=tk) (i:=i') (by omega);refine zN ⟨rfl,?_⟩;walk_at "walk";refine YR (xs:=tk.map PyData.int) S (by walk_at "m") (xi (by rw [jh,hc];rfl)) ?_;refine hd S ?_;rw [zQ hi',zQ hc];exact Has.int
  walk_at "walk";have S20:=S19.dropC;clear S18 S19;refine Zh (y:= .int (yP 0 (yc (zF g) l) tk).sum) S20 Has.int (by rw [ja];unfold za4;rw [ja,qS];omega) λH21 S21=>?_;walk_at "walk";rename_i w22 S22;refine yf (xs:=(yc (zF g) l).map λ(i:Nat)=>PyData.int (i:Int)) S22 (by walk_at "m") λJ23 wk23=>?_;refine zS wk23 (λj=> .int (tk.getD ((yc (zF g) l).getD j 0) 0)) (ys:=(yP 0 (yc (zF g) l) tk).map PyData.int) (by unfold yP;rw [ja,js];exact zE (λi:Nat=>PyData.int (tk.getD i 0)) 0 (yc (zF g) l)) S22 (λ_ _=> .mem (by walk_at "mem")) (by rw [ja];omega) (λj x v B' G' Kd Kn hx t1 S hd C ex s0 H0=>?_) λD23 H23 e23 S23=>?_
  ·obtain ⟨i',hi',rfl⟩:=zZ hx;cases S.int1;have il:=pk.lt i' (jc hi');have hc:=jb (l:=tk) (i:=i') (by omega);refine zN ⟨rfl,?_⟩;walk_at "walk";refine YR (xs:=tk.map PyData.int) S (by walk_at "m") (xi (by rw [jh,hc];rfl)) ?_;refine hd S ?_;rw [zQ hi',zQ hc];exact Has.int
  walk_at "walk";refine XH (r:=b) (l:=lg) (tk:=yP 0 (yc (zF g) l) tk) S23.freeze (by walk_at "m") (by walk_at "m") (by walk_at "m") step λH24 e24 S24=>?_;walk_at "walk";refine VE (S24.dat (ds':=[(.list ((zI l).map PyData.int), .ref l4),(.tuple [.str "groups",a.shape,b.shape],v0),(zH l,v1),(Ya tk,v2)]) (by walk_at "dats")) ⟨_,_,_,rfl,?_,rfl⟩;rw [t1,t2,qx,qx];rfl
 ·rintro σ H6 cs ds ⟨x5,x6,x7,rfl,rfl,rfl⟩ S6
  have e1:(zO l).take (zI l).length=zO l:=qy (by rw [Zx];exact jy _);rw [ja,e1,List.take_length] at S6;have S7:=S6.freeze.freeze;clear S6;walk_at "walk";rename_i w8 S8;refine XH (r:=a) (l:=zO l) (tk:=za4 (zI l) l tk) S8 (by walk_at "m") (by walk_at "m") (by walk_at "m") ok.outer λH9 e9 S9=>?_;exact k _ S9.base
theorem zpy (B:Bl mg) (B2:Bl3 mg) (zfR:Cal P w K mg base CX0 1 "_law_even" pad zmB) {fu:Addr} {fdu:FuncData} (Fu:Fun K "_law_upto_fit" "_law_upto_fit" YH fu fdu) (hmu:mg "_law_upto_fit"=some (.ref fu)) (bu:Zg K fdu pc []) {fr fg:Addr} {fdr fdg:FuncData} (Fr:Fun K "_law_ranks_fit" "_law_ranks_fit" ZY fr fdr) (hmr:mg "_law_ranks_fit"=some (.ref fr)) (br:Zg K fdr pc []) (Fg:Fun K "_law_groups_fit" "_law_groups_fit" ZJ fg fdg) (hmg:mg "_law_groups_fit"=some (.ref fg)) (bg:Zg K fdg pc []) (F:Fun K "_law_fits" "_law_fits" zbm f fd) (hm:mg "_law_fits"=some (.ref f)) (bf:Zg K fd pc []):∀n:Nat,FnOk P w K mg base CX0 (2*n+2) f fd pc (UJ n):=by
 intro n
 induction n with
 |zero=>
  refine F.ok ZM (λvs H Q E h=>?_) (λcdv A outer s H vs Q E hr h=>?_)
  ·obtain ⟨a,h,_⟩:=h;rw [<-h.len];rfl
  obtain ⟨⟨r,l,tk⟩,_,ok,_⟩:=h;dsimp only at ok;exact absurd ok.dep (by have:=zqc r;omega)
 |succ n ih=>
  have yT:Cal P w K mg base CX0 (2*n+2) "_law_fits" pc (UJ n):=zaR F ih hm bf;have ze8:Cal P w K mg base CX0 (2*n+3) "_law_upto_fit" pc (zra (n+1)):=zaR Fu (ok_upA B yT Fu) hmu bu;have zev:Cal P w K mg base CX0 (2*n+3) "_law_ranks_fit" pc (zrc (n+1)):=zaR Fr (ok_rkF B B2 yT Fr) hmr br;have zcF:Cal P w K mg base CX0 (2*n+3) "_law_groups_fit" pc (zre (n+1)):=zaR Fg (ok_grF B B2 yT Fg) hmg bg;refine F.ok ZM (λvs H Q E h=>?_) (λcdv A outer s H vs Q E hr h=>?_)
  ·obtain ⟨a,h,_⟩:=h;rw [<-h.len];rfl
  obtain ⟨⟨r,l,tk⟩,hA,ok,k⟩:=h;obtain ⟨v0,v1,v2,rfl,al⟩:=YY hA;dsimp only at ok al;have S:Sta H H H [] [(r.shape,v0),(zH l,v1),(Ya tk,v2)]:=Sta.enter (yt.refl _) al;have few:=ok.few;have hn20:=ok.hn;refine ⟨_,(zm (xx (i:=3) (N:=pC) (n:=1) (fr:=[]) ZM.nd rfl rfl rfl ⟨rfl,by decide+kernel,rfl,by decide,rfl,rfl,rfl,rfl,rfl⟩ (ye (pv 1)) (λ_ _ _ _=>(xM 0 (show (pC:List Str).Nodup from by decide+kernel))) (λ_ _ _ _=>yd) (λ_ _ _ _=>(pix 0))) (zm (Zm 4 ZM.nd (zR (Zi rfl) rfl B.sum Vi (zg (pv 3) zk))) (zm (Zm 5 ZM.nd (zR (Zi rfl) rfl B.sum Vi (zg (pv 2) zk))) (zm (Xw qe rfl (UA true true rfl B.zip (zg (pv 3) (zg (pv 2) zk))) (YX rfl (yi (xM 6 ZM.nd) (yi (xM 7 ZM.nd) Zz))) (zu (yO (PW.pt (zex (zK zdI (pv 7) zA (zV _)) (zfo (zK zi3 (pv 7) (pv 6) (zV _))))) (zu (zG VI)) zU))) (zm (yO (zK (yu (zJ hr)) (pix 0) yF (zV _)) (zu (zG (zdB (yu (zJ hr)) (yq (N:=["_law_part","_law_whole_here"]) (n:=1) (fr:=[4]) rfl ⟨rfl,by decide+kernel,rfl,by decide,rfl,rfl,rfl,rfl,rfl⟩ (ye (pv 2)) (λ_ _ _ _=>(xM 0 (show (["_law_part","_law_whole_here"]:List Str).Nodup from by decide+kernel))) (λ_ _ _ _=>yd) (λ_ _ _ _=>(zM yn (pv 0) (pv 1)))) (yq (N:=["_law_amount","_law_purse_here"]) (n:=1) (fr:=[5]) rfl ⟨rfl,by decide+kernel,rfl,by decide,rfl,rfl,rfl,rfl,rfl⟩ (ye (pv 3)) (λ_ _ _ _=>(xM 0 (show (["_law_amount","_law_purse_here"]:List Str).Nodup from by decide+kernel))) (λ_ _ _ _=>yd) (λ_ _ _ _=>(zM yn (pv 0) (pv 1)))) (zV _)))) zU) (zm (yO (zK (yu (zJ hr)) (pix 0) yF (zV _)) (zu (zG (pcl zfR hr (zg (pv 3) (zg (pv 2) zk))))) zU) (zm (yO (zK (yu (zJ hr)) (pix 0) yF (zV _)) (zu (zG (pcl zfR hr (zg (pv 3) (zg (yq (N:=pO) (n:=2) (fr:=[]) rfl ⟨rfl,by decide+kernel,rfl,by decide,rfl,rfl,rfl,rfl,rfl⟩ (UA true true rfl B.zip (zg (pv 3) (zg (pv 2) zk))) (λ_ _ _ _=>(YX rfl (yi (xM 0 (show (pO:List Str).Nodup from by decide+kernel)) (yi (xM 1 (show (pO:List Str).Nodup from by decide+kernel)) Zz)))) (λ_ _ _ _=>yd) (λ_ _ _ _=>(zM VM (pv 0) (pv 1)))) zk))))) zU) (zm (yO (zK (yu (zJ hr)) (pix 0) yF (zV _)) (zu (zG (pcl yT hr (zg (yA (zg yF (zg (yA (zg zA (zg zA zk))) (zg (yA (zg yF zk)) (zg (yA (zg yF zk)) zk))))) (zg (pv 1) (zg (pv 2) zk)))))) zU) (zm (yO (zK (yu (zJ hr)) (pix 0) yF (zV _)) (zu (zG (pcl yT hr (zg (pix 0) (zg (pv 1) (zg (yq (N:=pO) (n:=2) (fr:=[]) rfl ⟨rfl,by decide+kernel,rfl,by decide,rfl,rfl,rfl,rfl,rfl⟩ (UA true true rfl B.zip (zg (pv 3) (zg (pv 2) zk))) (λ_ _ _ _=>(YX rfl (yi (xM 0 (show (pO:List Str).Nodup from by decide+kernel)) (yi (xM 1 (show (pO:List Str).Nodup from by decide+kernel)) Zz)))) (λ_ _ _ _=>yd) (λ_ _ _ _=>(zM VM (pv 0) (pv 1)))) zk)))))) zU) (zm (yO (zK (yu (zJ hr)) (pix 0) yF (zV _)) (zu (zG (pcl zev hr (zg (pix 0) (zg (pv 1) (zg (pv 2) zk)))))) zU) (zm (yO (zK (yu (zJ hr)) (pix 0) yF (zV _)) (zu (zG (pcl zcF hr (zg (pv 0) (zg (pv 1) (zg (pv 2) zk)))))) zU) (zu (zG (pcl ze8 hr (zg (pv 0) (zg (pv 1) (zg (pv 2) zk))))))))))))))))),zC ?_⟩;walk_at "walk";refine yf (xs:=l.map zP) S (by walk_at "m") λJ wk=>?_;refine zS wk (λj=> .int (l.getD j (0,0,0)).1) (ys:=(amV l).map PyData.int) (by unfold amV;rw [ja,js];exact zE (λc:Cl=>PyData.int c.1) (0,0,0) l) S (λ_ _=> .mem (by walk_at "mem")) (by rw [ja];omega) (λj x v B' G' Kd Kn hx t1 S hd C ex s0 H0=>?_) λD H1 e1 S1=>?_
  ·obtain ⟨c,hc,rfl⟩:=zZ hx;refine zN ⟨rfl,?_⟩;walk_at "walk";refine hd (by assumption) ?_;rw [zQ hc];exact Has.int
  have S2:Sta H H H1 [] [(Ya (amV l), .ref D),(r.shape,v0),(zH l,v1),(Ya tk,v2)]:=S1.freeze;clear S1;have l8:(amV l).length<=8:=by rw [yJ];exact few
  have hsz:=ok.sz;have inb:=ok.fit.inB;walk_at "walk";refine zaE (xs:=(amV l).map PyData.int) (ys:=tk.map PyData.int) S2 (by walk_at "m") (by walk_at "m") λJ2 wk2=>?_;refine XC wk2 (λi σ cs ds=>(∃x6 x7,σ=[some v0,some v1,some v2,some (.ref D),some (.int (amV l).sum),some (.int tk.sum),x6,x7])/\cs=[]/\ds=[(Ya (amV l), .ref D),(r.shape,v0),(zH l,v1),(Ya tk,v2)]) S2 ⟨⟨none,none,rfl⟩,rfl,rfl⟩ (λi σ cs ds h=>?_) ?_ ?_
  ·obtain ⟨_,rfl,rfl⟩:=h;exact ⟨.mem (by walk_at "mem"),λ_ _ h=>h.tail, .mem (by walk_at "mem")⟩
  ·rintro i x u σ H2 cs ds hx ⟨⟨x6,x7,rfl⟩,rfl,rfl⟩ S3
   obtain ⟨xa,xb,h1,h2,rfl⟩:=Xn hx;obtain ⟨a,ha,rfl⟩:=zZ h1;obtain ⟨p,hp,rfl⟩:=zZ h2;have b:=inb.2 i a p ha hp;refine Zp (Zo S3 (by walk_at "m") λw1 w2 S4=>?_);cases S4.int1;cases S4.drop1.int1;walk_at "walk";refine XL (λc=>absurd c (by omega)) (λ_=>?_);walk_at "walk";refine XL (λc=>absurd c (by omega)) (λ_=>?_);walk_at "walk";exact VE (S4.dat (by walk_at "dats")) ⟨⟨_,_,rfl⟩,rfl,rfl⟩
  rintro σ H2 cs ds ⟨⟨x6,x7,rfl⟩,rfl,rfl⟩ S3
  clear S2 wk wk2
  cases r with
  |shares=>
   simp only [Rl.shape] at S3;obtain ⟨it,ia⟩:=inb.inS l8 hsz;have st:=it.sum.2;have sa:=ia.sum.2;walk_at "walk";refine yf (xs:=tk.map PyData.int) S3 (by walk_at "m") λJ3 wk3=>?_;refine zS wk3 (λj=> .int (tk.getD j 0*(amV l).sum)) (ys:=(tk.map (·*(amV l).sum)).map PyData.int) (by rw [ja,js];exact zE (λx:Int=>PyData.int (x*(amV l).sum)) 0 tk) S3 (λ_ _=> .mem (by walk_at "mem")) (by rw [ja,inb.1];omega) (λj x v B' G' Kd Kn hx t1 S hd C ex s0 H0=>?_) λD4 H4 e4 S4=>?_
   ·obtain ⟨y,hy,rfl⟩:=zZ hx;cases S.int1;have o:IntMulOk y (amV l).sum:=(it.2 y (jc hy)).2.mulOk sa (by omega);refine zN ⟨rfl,?_⟩;walk_at "walk";refine hd S ?_;rw [zQ hy];exact Has.int
   walk_at "walk";refine yf (xs:=(amV l).map PyData.int) S4 (by walk_at "m") λJ5 wk5=>?_;refine zS wk5 (λj=> .int ((amV l).getD j 0*tk.sum)) (ys:=((amV l).map (·*tk.sum)).map PyData.int) (by rw [ja,js];exact zE (λx:Int=>PyData.int (x*tk.sum)) 0 (amV l)) S4 (λ_ _=> .mem (by walk_at "mem")) (by rw [ja];omega) (λj x v B' G' Kd Kn hx t1 S hd C ex s0 H0=>?_) λD6 H6 e6 S6=>?_
   ·obtain ⟨y,hy,rfl⟩:=zZ hx;cases S.int1;have o:IntMulOk y tk.sum:=(ia.2 y (jc hy)).2.mulOk st (by omega);refine zN ⟨rfl,?_⟩;walk_at "walk";refine hd S ?_;rw [zQ hy];exact Has.int
   refine zm5 (x:=Ya (tk.map (·*(amV l).sum))) (y:=Ya ((amV l).map (·*tk.sum))) (S6.hpC (by walk_at "mem")) (S6.hpC (by walk_at "mem")) (Ua _) (Ua _) ?_;rw [zod,qc (show tk.map (·*(amV l).sum)=(amV l).map (·*tk.sum) from ok.fit.shares)];exact k _ S6.base
  |evenly=>
   simp only [Rl.shape] at S3;walk_at "walk";refine zm4 S3 (by walk_at "m") (by walk_at "m") l8 ok.fit.evenly λH4 e4 S4=>?_;exact k _ S4.base
  |losses=>
   simp only [Rl.shape] at S3;walk_at "walk";refine zaE (xs:=(amV l).map PyData.int) (ys:=tk.map PyData.int) S3 (by walk_at "m") (by walk_at "m") λJ3 wk3=>?_;have ll:(ZN (amV l) tk).length=(amV l).length:=VO inb.1;refine zS wk3 (λj=> .int ((ZN (amV l) tk).getD j 0)) (ys:=(ZN (amV l) tk).map PyData.int) ?_ S3 (λ_ _=>⟨.mem (by walk_at "mem"),λ_ _ h=>h.tail, .mem (by walk_at "mem")⟩) ?_ (λj x v B' G' Kd Kn hx t1 S hd C ex s0 H0=>?_) λD4 H4 e4 S4=>?_
   ·rw [xL,ja,ja,inb.1,qI,<-ll];exact zE (λx=>PyData.int x) 0 _
   ·rw [xL,ja,ja];omega
   ·obtain ⟨x1,x2,h1,h2,rfl⟩:=Xn hx;obtain ⟨n1,hn1,rfl⟩:=zZ h1;obtain ⟨n2,hn2,rfl⟩:=zZ h2;refine Zp (Zo S (by walk_at "m") λw1 w2 S=>?_);cases S.int1;cases S.drop1.int1;refine xu (zN (xu (zN (Wb ⟨rfl,?_⟩))));walk_at "walk";refine hd S ?_;rw [zQ (show (ZN (amV l) tk)[j]? =some (n1 - n2) by unfold ZN;rw [jt,hn1,hn2])];exact Has.int
   walk_at "walk";refine zm4 (am:=amV l) (tk:=ZN (amV l) tk) S4.freeze (by walk_at "m") (by walk_at "m") l8 ok.fit.losses λH5 e5 S5=>?_;exact k _ S5.base
  |halves=>
   simp only [Rl.shape] at S3;walk_at "walk";rename_i p4 H4 e4 S4;refine XH (r:= .upto 1 2 .evenly .losses) (l:=l) (tk:=tk) S4 (by walk_at "m") (by walk_at "m") (by walk_at "m") ok.halves λH5 e5 S5=>?_;exact k _ S5.base
  |other r=>
   simp only [Rl.shape] at S3;walk_at "walk";rename_i w4 S4';have S3:=S4';refine zaE (xs:=(amV l).map PyData.int) (ys:=tk.map PyData.int) S3 (by walk_at "m") (by walk_at "m") λJ3 wk3=>?_;have ll:(ZN (amV l) tk).length=(amV l).length:=VO inb.1;refine zS wk3 (λj=> .int ((ZN (amV l) tk).getD j 0)) (ys:=(ZN (amV l) tk).map PyData.int) ?_ S3 (λ_ _=>⟨.mem (by walk_at "mem"),λ_ _ h=>h.tail, .mem (by walk_at "mem")⟩) ?_ (λj x v B' G' Kd Kn hx t1 S hd C ex s0 H0=>?_) λD4 H4 e4 S4=>?_
   ·rw [xL,ja,ja,inb.1,qI,<-ll];exact zE (λx=>PyData.int x) 0 _
   ·rw [xL,ja,ja];omega
   ·obtain ⟨x1,x2,h1,h2,rfl⟩:=Xn hx;obtain ⟨n1,hn1,rfl⟩:=zZ h1;obtain ⟨n2,hn2,rfl⟩:=zZ h2;refine Zp (Zo S (by walk_at "m") λw1 w2 S=>?_);cases S.int1;cases S.drop1.int1;refine xu (zN (xu (zN (Wb ⟨rfl,?_⟩))));walk_at "walk";refine hd S ?_;rw [zQ (show (ZN (amV l) tk)[j]? =some (n1 - n2) by unfold ZN;rw [jt,hn1,hn2])];exact Has.int
   walk_at "walk";refine XH (r:=r) (l:=l) (tk:=ZN (amV l) tk) S4.freeze (by walk_at "m") (by walk_at "m") (by walk_at "m") ok.other λH5 e5 S5=>?_;exact k _ S5.base
  |upto t b x y=>
   have S4:=S3;simp only [Rl.shape] at S3;walk_at "walk";refine rd_upA (t:=t) (b:=b) (x:=x) (y:=y) (l:=l) (tk:=tk) S4 (by walk_at "m") (by walk_at "m") (by walk_at "m") ok λH5 e5 S5=>?_;exact k _ S5.base
  |ranks r=>
   simp only [Rl.shape] at S3;walk_at "walk";rename_i w4 S4;refine rd_rkF (r:=r) (l:=l) (tk:=tk) S4 (by walk_at "m") (by walk_at "m") (by walk_at "m") ok λH5 e5 S5=>?_;exact k _ S5.base
  |groups x y=>
   have S4:=S3;simp only [Rl.shape] at S3;walk_at "walk";refine rd_grF (x:=x) (y:=y) (l:=l) (tk:=tk) S4 (by walk_at "m") (by walk_at "m") (by walk_at "m") ok λH5 e5 S5=>?_;exact k _ S5.base
abbrev UO:Stmt:=top 75
theorem ZQ:FnScope ["_law_shape","_law_claims_here","_law_purse_here","_law_parts","_law_by","_law_part","_law_told","_law_due"] pB (zB UO):=⟨rfl,rfl,rfl,by decide+kernel,rfl,by decide+kernel,by decide+kernel⟩
theorem znq {t:Nat} (B:Bl mg) (zb9:Cal P w K mg base CX0 2 "_law_is_fraction" pW zmA) (Yi:Cal P w K mg base CX0 1 "_law_divisor" pP zhs) (yT:Cal P w K mg base CX0 26 "_law_fits" pc (UJ 12)) (F:Fun K "_law_right" "_law_right" UO f fd):FnOk P w K mg base CX0 27 f fd pB (zf1 t):=by
 refine F.ok ZQ (λvs H Q E h=>?_) (λcdv A outer s H vs Q E hr h=>?_)
 ·obtain ⟨a,h,_⟩:=h;rw [<-h.len];rfl
 obtain ⟨⟨r,l,e⟩,hA,⟨⟨⟨pl,hdp⟩,okS⟩,ze,e0⟩,k⟩:=h;obtain ⟨v0,v1,v2,v3,rfl,al⟩:=zsw hA;dsimp only at pl hdp okS ze e0 al;have ok:=okS.ok pl.ht;have S:Sta H H H [] [(r.shape,v0),(zH l,v1),(frD e,v2),(xr (zo (zY r l) e),v3)]:=Sta.enter (yt.refl _) al;have g:=(pl.gf (l:=l) okS).good;have hsz:∀p∈zo (zY r l) e,SzQ 4904 p:=zhS ze (pl.R (l:=l) okS).sz;have hlen:(zo (zY r l) e).length=l.length:=g.std.len;have key:=λB (hB:0<B) de hd=>zlP (B:=B) (e:=e) g hB e0 de hd;have few:=ok.few;generalize zo (zY r l) e=ps at*;have hv:=S.hp (x:=xr ps) (v:=v3) (by walk_at "m");refine ⟨_,(zm (yO (PW.pt (zex (VG (Wo (zR zcU rfl B.isinstance Yg (zg (pv 3) (zg (zgx (v:= .ty "tuple") rfl B.tuple Xe rfl) zk))))) (zfo (zK (zdH (zJ hr)) (zR yB rfl B.len ZG (zg (pv 3) zk)) (zR yB rfl B.len ZG (zg (pv 1) zk)) (zV _))))) (zu (zG VI)) zU) (zm (Zm 4 ZQ.nd (pix 2)) (zm (Xw qe rfl (znf (pv 3)) (xM 5 ZQ.nd) (zm (yO (VG (Wo (pcl zb9 hr (zg (pv 5) zk)))) (zu (zG VI)) zU) (zu (Zm 4 ZQ.nd (zM yn (zM WW (pv 4) (pcl Yi hr (zg (pv 4) (zg (pix 5) zk)))) (pix 5)))))) (zm (xx (i:=6) (N:=["_law_part","_law_by"]) (n:=1) (fr:=[4]) ZQ.nd rfl rfl rfl ⟨rfl,by decide+kernel,rfl,by decide,rfl,rfl,rfl,rfl,rfl⟩ (znf (pv 3)) (λ_ _ _ _=>(xM 0 (show (["_law_part","_law_by"]:List Str).Nodup from by decide+kernel))) (λ_ _ _ _=>yd) (λ_ _ _ _=>(zM yn (pix 0) (zM WW (pv 1) (pix 0))))) (zm (Zm 7 ZQ.nd (zR (zib rfl) rfl B.min zif (zg (zM yn (pix 2) (zM WW (pv 4) (pix 2))) (zg (zM yn (pv 4) (zR (Zi rfl) rfl B.sum Vi (zg (yq (N:=pC) (n:=1) (fr:=[]) rfl ⟨rfl,by decide+kernel,rfl,by decide,rfl,rfl,rfl,rfl,rfl⟩ (ye (pv 1)) (λ_ _ _ _=>(xM 0 (show (pC:List Str).Nodup from by decide+kernel))) (λ_ _ _ _=>yd) (λ_ _ _ _=>(pix 0))) zk))) zk)))) (zm (yO (zK (zdH (zJ hr)) (zR (Zi rfl) rfl B.sum Vi (zg (pv 6) zk)) (pv 7) (zV _)) (zu (zG VI)) zU) (zu (zG (pcl yT hr (zg (pv 0) (zg (yq (N:=["_law_claim","_law_by"]) (n:=1) (fr:=[4]) rfl ⟨rfl,by decide+kernel,rfl,by decide,rfl,rfl,rfl,rfl,rfl⟩ (ye (pv 1)) (λ_ _ _ _=>(xM 0 (show (["_law_claim","_law_by"]:List Str).Nodup from by decide+kernel))) (λ_ _ _ _=>yd) (λ_ _ _ _=>(yA (zg (zM yn (pv 1) (pix 0)) (zg (pix 0) (zg (pix 0) zk)))))) (zg (pv 6) zk)))))))))))),zC ?_⟩;walk_at "walk";refine zp1 (by rw [ja,ja,hlen]) ?_;walk_at "walk";refine ziZ (xs:=ps.map frD) S (by walk_at "m") λJ wk=>?_
 refine XC wk (λi σ cs ds=>∃(b:Int) (x5 x6 x7:Option V),σ=[some v0,some v1,some v2,some v3,some (.int b),x5,x6,x7]/\cs=[]/\ds=[(r.shape,v0),(zH l,v1),(frD e,v2),(xr ps,v3)]/\0<b/\Sz (700+i*4904) b/\(e.den:Int)∣b/\∀j p,j<i->ps[j]? =some p->(p.den:Int)∣b) S
  ⟨(e.den:Int),none,none,none,rfl,rfl,rfl,den_pos e,ze.2.mono (by omega),⟨1,by rw [Qf]⟩,λj p hj=>absurd hj (Nat.not_lt_zero _)⟩ (λi σ cs ds h=>?_) ?_ ?_
 ·obtain ⟨_,_,_,_,_,_,rfl,_⟩:=h;exact .mem (by walk_at "mem")
 ·rintro i x u σ H2 cs ds hx ⟨b,x5,x6,x7,rfl,rfl,rfl,b0,zb,de,hd⟩ S2
  obtain ⟨p,hp,rfl⟩:=zZ hx;have zp:=hsz p (jc hp);have pd:=den_pos p;have st:=zpY b0 pd;walk_at "walk";refine zrR S2 (by walk_at "m") λH3 S3=>?_;have gp:0<Int.gcd b (p.den:Int):=Jx b (by omega)
  have hc:CDv b ((Int.gcd b (p.den:Int):Nat):Int):=⟨by omega,by
   refine (Sz.le zp.2 ?_).mono (by decide);have:=Nat.le_of_dvd (by omega) (JU b (p.den:Int))
   omega⟩
  have qn:0<=b.fdiv ((Int.gcd b (p.den:Int):Nat):Int):=by
   rw [qB _ (by omega)];exact Int.ediv_nonneg (by omega) (by omega)
  have ql:b.fdiv ((Int.gcd b (p.den:Int):Nat):Int)<=b:=by
   rw [qB _ (by omega)];exact Int.ediv_le_self _ (by omega)
  have zq:=zhm qn ql zb;have hi:i<ps.length:=(je.mp hp).1;have o:IntMulOk (b.fdiv ((Int.gcd b (p.den:Int):Nat):Int)) (p.den:Int):=zq.mulOk zp.2 (by omega);walk_at "walk";refine VE ((by assumption:Sta H H H3 [] _).dat (by walk_at "dats")) ⟨_,_,_,_,rfl,rfl,rfl,st.1,(zq.mul zp.2).mono (by omega),Int.dvd_trans de st.2.1,λj q hj hq=>?_⟩
  by_cases hji:j<i
  ·exact Int.dvd_trans (hd j q hji hq) st.2.1
  ·have:j=i:=by omega
   subst this;rw [hp] at hq;cases hq;exact st.2.2
 rintro σ H2 cs ds ⟨b,x5,x6,x7,rfl,rfl,rfl,b0,zb,de,hd⟩ S2
 rw [ja,hlen] at zb;have zb:Sz 40000 b:=zb.mono (by omega)
 have hdv:∀p∈ps,(p.den:Int)∣b:=λp hp=>by
  obtain ⟨j,hj,rfl⟩:=jR hp;exact hd j _ (by rw [ja];exact hj) (jb hj)
 obtain ⟨ks,kf⟩:=key b b0 de hdv
 have dq:∀d:Int,0<d->0<=b.fdiv d/\b.fdiv d<=b:=λd hd0=>by
  rw [qB _ (by omega)];exact ⟨Int.ediv_nonneg (by omega) (by omega),Int.ediv_le_self _ (by omega)⟩
 walk_at "walk";refine ziZ (xs:=ps.map frD) S2 (by walk_at "m") λJ3 wk3=>?_;refine zS wk3 (λj=> .int ((tkV b ps).getD j 0)) (ys:=(tkV b ps).map PyData.int) (by rw [ja,show ps.length=(tkV b ps).length by unfold tkV;rw [ja]];exact zE (λx=>PyData.int x) 0 _) S2 (λ_ _=> .mem (by walk_at "mem")) (by rw [ja];omega) (λj x v B' G' Kd Kn hx t1 S hd C ex s0 H0=>?_) λD4 H4 e4 S4=>?_
 ·obtain ⟨p,hp,rfl⟩:=zZ hx;have zp:=hsz p (jc hp);have pd:=den_pos p;have hc:CDv b (p.den:Int):=⟨by omega,zp.2.mono (by decide)⟩;have o:IntMulOk p.num (b.fdiv (p.den:Int)):=zp.1.mulOk (zhm (dq _ pd).1 (dq _ pd).2 zb) (by decide);refine zN ⟨rfl,?_⟩;walk_at "walk";refine hd (by assumption) ?_;rw [zQ (show (tkV b ps)[j]? =some (p.num*b.fdiv (p.den:Int)) by unfold tkV;rw [jh,hp];rfl)];exact Has.int
 have S5:=S4.freeze;have ed:=den_pos e;have hce:CDv b (e.den:Int):=⟨by omega,ze.2.mono (by decide)⟩;have o1:IntMulOk e.num (b.fdiv (e.den:Int)):=ze.1.mulOk (zhm (dq _ ed).1 (dq _ ed).2 zb) (by decide);have o2:IntMulOk b (amV l).sum:=zb.mulOk ok.am.sum.2 (by decide);walk_at "walk";refine yf (xs:=l.map zP) (by assumption) (by walk_at "m") λJ6 wk6=>?_;refine zS wk6 (λj=> .int (l.getD j (0,0,0)).1) (ys:=(amV l).map PyData.int) (by unfold amV;rw [ja,js];exact zE (λc:Cl=>PyData.int c.1) (0,0,0) l) (by assumption) (λ_ _=> .mem (by walk_at "mem")) (by rw [ja];omega) (λj x v B' G' Kd Kn hx t1 S hd C ex s0 H0=>?_) λD6 H6 e6 S6=>?_
 ·obtain ⟨c,hc,rfl⟩:=zZ hx;refine zN ⟨rfl,?_⟩;walk_at "walk";refine hd (by assumption) ?_;rw [zQ hc];exact Has.int
 walk_at "walk";refine zp1 ks ?_;have S7:=S6.freeze;walk_at "walk";refine yf (xs:=l.map zP) S7 (by walk_at "m") λJ8 wk8=>?_
 refine zS wk8 (λj=>zP ((λc:Cl=>((b*c.1,c.2):Cl)) (l.getD j (0,0,0)))) (ys:=(yw b l).map zP) (by
  unfold yw;rw [js,ja];exact zE (λc:Cl=>zP ((b*c.1,c.2):Cl)) (0,0,0) l) S7 (λ_ _=> .mem (by walk_at "mem")) (by rw [ja];omega) (λj x v B' G' Kd Kn hx t1 S hd C ex s0 H0=>?_) λD8 H8 e8 S8=>?_
 ·obtain ⟨c,hc,rfl⟩:=zZ hx;have o:IntMulOk b c.1:=zb.mulOk (ok.sz c (jc hc)) (by decide);refine zN ⟨rfl,?_⟩;walk_at "walk";refine hd (by assumption) ?_;rw [zQ hc];exact .mem (by walk_at "mem")
 walk_at "walk";refine XH (r:=r) (l:=yw b l) (tk:=tkV b ps) S8.freeze (by walk_at "m") (by walk_at "m") (by walk_at "m") (by exact ⟨pl.pok,hdp,by decide,by rw [ZT];exact few,λx hx=>by rw [VV] at hx;obtain ⟨a,ha,rfl⟩:=jk.mp hx;exact (zb.mul (ok.am.2 a ha).2).mono (by decide),kf⟩) λH9 e9 S9=>?_;exact k _ S9.base
abbrev zbl:Stmt:=top 76
theorem zdk:FnScope paq paq (zB zbl):=⟨rfl,rfl,rfl,by decide+kernel,rfl,by decide+kernel,by decide+kernel⟩
section
variable {A:RAd}
theorem zpr (mShares:Uw P w K mg base "Shares" (A.cls .shares) pA (xW (A.cls .shares) (α:=Unit) (λ_=>[]) (λ_=>Rl.shares.shape))) (mEvenly:Uw P w K mg base "Evenly" (A.cls .evenly) pA (xW (A.cls .evenly) (α:=Unit) (λ_=>[]) (λ_=>Rl.evenly.shape))) (mLosses:Uw P w K mg base "Losses" (A.cls .losses) pA (xW (A.cls .losses) (α:=Unit) (λ_=>[]) (λ_=>Rl.losses.shape))) (mHalves:Uw P w K mg base "Halves" (A.cls .halves) pA (xW (A.cls .halves) (α:=Unit) (λ_=>[]) (λ_=>Rl.halves.shape))) (mOther:Uw P w K mg base "Other" (A.cls (.other .shares)) pJ (xW (A.cls (.other .shares)) (α:=Rl) (λr=>[r.ins A]) (λr=>(Rl.other r).shape))) (mRanks:Uw P w K mg base "Ranks" (A.cls (.ranks .shares)) pJ (xW (A.cls (.ranks .shares)) (α:=Rl) (λr=>[r.ins A]) (λr=>(Rl.ranks r).shape))) (mGroups:Uw P w K mg base "Groups" (A.cls (.groups .shares .shares)) pT (xW (A.cls (.groups .shares .shares)) (α:=Rl×Rl) (λr=>[r.1.ins A,r.2.ins A]) (λr=>(Rl.groups r.1 r.2).shape))) (mUpto:Uw P w K mg base "Upto" (A.cls (.upto 0 0 .shares .shares)) pH (xW (A.cls (.upto 0 0 .shares .shares)) (α:=(Int×Int)×Rl×Rl) (λr=>[.tuple [.int r.1.1, .int r.1.2],r.2.1.ins A,r.2.2.ins A]) (λr=>(Rl.upto r.1.1 r.1.2 r.2.1 r.2.2).shape))) (F:Fun K "_law_rule" "_law_rule" zbl f fd) (hm:mg "_law_rule"=some (.ref f)) (b:Zg K fd paq []):∀n:Nat,FnOk P w K mg base CX0 (n+4) f fd paq (zf0 A n):=by
 obtain ⟨ztx,zti,zec,ze1,zeU,zgO⟩:=mShares;obtain ⟨ztB,ztm,zeg,ze5,zeY,zgS⟩:=mEvenly;obtain ⟨zty,ztj,zed,ze2,zeV,zgP⟩:=mLosses;obtain ⟨ztz,ztk,zee,ze3,zeW,zgQ⟩:=mHalves;obtain ⟨ztH,ztw,zha,zhc,zg2,zjm⟩:=mOther;obtain ⟨ztG,ztv,zg9,zhb,zg1,zjl⟩:=mRanks;obtain ⟨ztA,ztl,zef,ze4,zeX,zgR⟩:=mGroups;obtain ⟨ztK,ztF,zjO,ziw,zio,zn7⟩:=mUpto;intro n
 induction n with
 |zero=>
  refine F.ok zdk (λvs H Q E h=>?_) (λcdv A' outer s H vs Q E hr h=>?_)
  ·obtain ⟨G,a,_,h,_⟩:=h;rw [<-h.len];rfl
  obtain ⟨G,r,_,_,hd,_⟩:=h;exact absurd hd (by cases r<;>simp [Rl.deep])
 |succ n ih=>
  have ZS:Cal P w K mg base CX0 (n+4) "_law_rule" paq (zf0 A n):=zaR F ih hm b;refine F.ok zdk (λvs H Q E h=>?_) (λcdv A' outer s H vs Q E hr h=>?_)
  ·obtain ⟨G,a,_,h,_⟩:=h;rw [<-h.len];rfl
  obtain ⟨G,r,eG,hA,hd,k⟩:=h;obtain ⟨v,rfl,al⟩:=Wq hA;have S:Sta H G H [] [(r.shape,v)]:=Sta.enter eG al;refine ⟨_,(zm (yO (zK (yu (zJ hr)) (pix 0) yF (zV _)) (zu (zG (zcP zec (ze1.mono (by walk_at "l")) hr rfl zgO zeU .nil YS))) zU) (zm (yO (zK (yu (zJ hr)) (pix 0) yF (zV _)) (zu (zG (zcP zeg (ze5.mono (by walk_at "l")) hr rfl zgS zeY .nil YS))) zU) (zm (yO (zK (yu (zJ hr)) (pix 0) yF (zV _)) (zu (zG (zcP zed (ze2.mono (by walk_at "l")) hr rfl zgP zeV .nil YS))) zU) (zm (yO (zK (yu (zJ hr)) (pix 0) yF (zV _)) (zu (zG (zcP zee (ze3.mono (by walk_at "l")) hr rfl zgQ zeW .nil YS))) zU) (zm (yO (zK (yu (zJ hr)) (pix 0) yF (zV _)) (zu (zG (zgw zha (zhc.mono (by walk_at "l")) hr rfl zjm zg2 .nil YS (zg (pcl ZS hr (zg (pix 0) zk)) zk)))) zU) (zm (yO (zK (yu (zJ hr)) (pix 0) yF (zV _)) (zu (zG (zgw zg9 (zhb.mono (by walk_at "l")) hr rfl zjl zg1 .nil YS (zg (pcl ZS hr (zg (pix 0) zk)) zk)))) zU) (zm (yO (zK (yu (zJ hr)) (pix 0) yF (zV _)) (zu (zG (zgw zef (ze4.mono (by walk_at "l")) hr rfl zgR zeX .nil YS (zg (pcl ZS hr (zg (pix 0) zk)) (zg (pcl ZS hr (zg (pix 0) zk)) zk))))) zU) (zu (zG (zgw zjO (ziw.mono (by walk_at "l")) hr rfl zn7 zio .nil YS (zg (pix 0) (zg (pcl ZS hr (zg (pix 0) zk)) (zg (pcl ZS hr (zg (pix 0) zk)) zk))))))))))))),zC ?_⟩
  cases r with
  |shares=>
   simp only [Rl.shape] at S;walk_at "walk";refine XG () S xj.nil λx1 H1 e1 S1=>?_;exact Yb S1 k (by walk_at "m")
  |evenly=>
   simp only [Rl.shape] at S;walk_at "walk";refine XG () S xj.nil λx1 H1 e1 S1=>?_;exact Yb S1 k (by walk_at "m")
  |losses=>
   simp only [Rl.shape] at S;walk_at "walk";refine XG () S xj.nil λx1 H1 e1 S1=>?_;exact Yb S1 k (by walk_at "m")
  |halves=>
   simp only [Rl.shape] at S;walk_at "walk";refine XG () S xj.nil λx1 H1 e1 S1=>?_;exact Yb S1 k (by walk_at "m")
  |other r=>
   simp only [Rl.shape] at S;walk_at "walk";rename_i w1 S1;refine WQ (r:=r) S1 (by walk_at "m") (by simp only [Rl.deep] at hd;omega) λw2 H2 e2 S2=>?_;walk_at "walk";refine XG r S2 (xj.cons (by walk_at "m") xj.nil) λx1 H3 e3 S3=>?_;exact Yb S3 k (by walk_at "m")
  |upto t b x y=>
   have dx:x.deep<=n:=by simp only [Rl.deep] at hd;omega
   have dy:y.deep<=n:=by simp only [Rl.deep] at hd;omega
   simp only [Rl.shape] at S;walk_at "walk";rename_i w1 S1 w2 S2;refine WQ (r:=x) S2 (by walk_at "m") dx λw3 H3 e3 S3=>?_;walk_at "walk";rename_i w4 S4;refine WQ (r:=y) S4 (by walk_at "m") dy λw5 H5 e5 S5=>?_;walk_at "walk";refine XG (((t,b),x,y):(Int×Int)×Rl×Rl) S5 (xj.cons (by walk_at "m") (xj.cons (by walk_at "m") (xj.cons (by walk_at "m") xj.nil))) λx1 H6 e6 S6=>?_;exact Yb S6 k (by walk_at "m")
  |ranks r=>
   simp only [Rl.shape] at S;walk_at "walk";rename_i w1 S1;refine WQ (r:=r) S1 (by walk_at "m") (by simp only [Rl.deep] at hd;omega) λw2 H2 e2 S2=>?_;walk_at "walk";refine XG r S2 (xj.cons (by walk_at "m") xj.nil) λx1 H3 e3 S3=>?_;exact Yb S3 k (by walk_at "m")
  |groups x y=>
   have dx:x.deep<=n:=by simp only [Rl.deep] at hd;omega
   have dy:y.deep<=n:=by simp only [Rl.deep] at hd;omega
   simp only [Rl.shape] at S;walk_at "walk";rename_i w1 S1;refine WQ (r:=x) S1 (by walk_at "m") dx λw3 H3 e3 S3=>?_;walk_at "walk";rename_i w4 S4;refine WQ (r:=y) S4 (by walk_at "m") dy λw5 H5 e5 S5=>?_;walk_at "walk";refine XG ((x,y):Rl×Rl) S5 (xj.cons (by walk_at "m") (xj.cons (by walk_at "m") xj.nil)) λx1 H6 e6 S6=>?_;exact Yb S6 k (by walk_at "m")
end
abbrev UR:Stmt:=top 78
theorem YK:FnScope ["_law_cell","_law_flat","_law_one","_law_two","_law_kind"] ["_law_cell"] (zB UR):=⟨rfl,rfl,rfl,by decide+kernel,rfl,by decide+kernel,by decide+kernel⟩
theorem zpz (F:Fun K "_law_drawn" "_law_drawn" UR f fd):FnOk P w K mg base CX0 1 f fd ["_law_cell"] zdc:=by
 refine F.ok YK (λvs H Q E h=>?_) (λcdv A' outer s H vs Q E hr h=>?_)
 ·obtain ⟨G,c,rfl,_⟩:=h;rfl
 obtain ⟨G,c,rfl,eG,k⟩:=h;have S:Sta H G H [] []:=Sta.enter eG λp hp=>absurd hp jp;refine ⟨_,(zm (Zm 1 YK.nd (Zq (zg (yA (zg yF zk)) (zg (yA (zg yF zk)) (zg (yA (zg yF zk)) (zg (yA (zg yF zk)) zk)))))) (zm (Zm 2 YK.nd (xE yx (pv 1) (zM Ym (zM WX (pv 0) zA) zA) (λ_ _=>rfl))) (zm (Zm 3 YK.nd (xE yx (pv 1) (zM Ym (zM WX (pv 0) zA) zA) (λ_ _=>rfl))) (zm (Zm 4 YK.nd (zM Ym (pv 0) zA)) (zm (yO (zK (yu (zJ hr)) (pv 4) zA (zV _)) (zu (zG (yA (zg yF (zg (pv 2) zk))))) zU) (zm (yO (zK (yu (zJ hr)) (pv 4) zA (zV _)) (zu (zG (yA (zg yF (zg (yA (zg yF (zg (pv 2) zk))) (zg (pv 3) zk)))))) zU) (zm (yO (zK (yu (zJ hr)) (pv 4) zA (zV _)) (zu (zG (yA (zg yF (zg (pv 2) (zg (yA (zg yF (zg (pv 3) zk))) zk)))))) zU) (zu (zG (yA (zg yF (zg (pv 2) (zg (pv 3) zk))))))))))))),zC ?_⟩;walk_at "walk";rename_i q1 G1 i1 T1 q2 G2 i2 T2 q3 G3 i3 T3 q4 G4 i4 T4 q5 G5 i5 T5
 have pick:∀i:Int,∃n,n<4/\atI [PyData.tuple [.str "shares"], .tuple [.str "evenly"], .tuple [.str "losses"], .tuple [.str "halves"]] (i % 4)=some (Xd n).shape:=λi=>by
  rcases (by omega:i % 4=0\/i % 4=1\/i % 4=2\/i % 4=3) with h|h|h|h<;>rw [h]
  ·exact ⟨0,by decide,rfl⟩
  ·exact ⟨1,by decide,rfl⟩
  ·exact ⟨2,by decide,rfl⟩
  ·exact ⟨3,by decide,rfl⟩
 obtain ⟨m,_,hm⟩:=pick (c / 4);obtain ⟨n,_,hn⟩:=pick (c / 16);refine zkf (x:=(Xd m).shape) T5 (by walk_at "mem") hm λw6 T6=>?_;walk_at "walk";refine zkf (x:=(Xd n).shape) T6 (by walk_at "mem") hn λw7 T7=>?_;have S7:Sta H G G5 [] [((Xd n).shape,w7),((Xd m).shape,w6)]:=T7.weak (by walk_at "sub") (by walk_at "dats");clear T1 T2 T3 T4 T5 T6 T7 S;walk_at "walk";refine XL (λ_=>?_) (λ_=>?_)
 ·walk_at "walk";exact zgp (r:= .ranks (Xd m)) (by assumption) k (by walk_at "m") (zok m)
 walk_at "walk";refine XL (λ_=>?_) (λ_=>?_)
 ·walk_at "walk";exact zgp (r:= .groups (.ranks (Xd m)) (Xd n)) (by assumption) k (by walk_at "m") (zjv m n)
 walk_at "walk";refine XL (λ_=>?_) (λ_=>?_)
 ·walk_at "walk";exact zgp (r:= .groups (Xd m) (.ranks (Xd n))) (by assumption) k (by walk_at "m") (zju m n)
 walk_at "walk";exact zgp (r:= .groups (Xd m) (Xd n)) (by assumption) k (by walk_at "m") (zlU m n)
local macro_rules|`(tactic|walk_at "rd")=>`(tactic|with_reducible refine' zkd ?_)
section
variable {A:RAd}
abbrev zgk:Stmt:=top 79
theorem zat:FnScope ["_law_script","_law_first","_law_many","_law_claims_here","_law_shape","_law_rule_here","_law_whole_here","_law_cell","_law_purse_here"] ["_law_script"] (zB zgk):=⟨rfl,rfl,rfl,by decide+kernel,rfl,by decide+kernel,by decide+kernel⟩
theorem ok_law {fS fT fQ Yn:Addr} {fdQ:FuncData} (B:Bl mg) (okA:∀r:Rl,ROk K fS fT Yn (A.cls r)) (okP:∀r:Rl,Meth K (A.cls r) "parts" fQ) (xU:mg "Rule"=some (.ref Yn)) (VX:FnOk P w K mg base CX0 18 fQ fdQ pR (zf3 A 103 4)) (VU:Zg K fdQ pR [])
 (Yj:Cal P w K mg base CX0 1 "_law_cell_at" pV (zj6 K)) (ziz:Cal P w K mg base CX0 2 "_law_claims" pI (zdd K)) (zjU:Cal P w K mg base CX0 1 "_law_drawn" ["_law_cell"] zdc) (ZS:Cal P w K mg base CX0 8 "_law_rule" paq (zf0 A 4)) (zjT:Cal P w K mg base CX0 3 "_law_purse" pab ziN) (zjS:Cal P w K mg base CX0 27 "_law_right" pB (zf1 103)) (F:Fun K "law" "law" zgk f fd):FnOk P w K mg base CX0 28 f fd ["_law_script"] (zoX K):=by
 refine F.ok zat (λvs H Q E h=>?_) (λcdv A' outer s H vs Q E hr h=>?_)
 ·obtain ⟨a,ns,rfl,_⟩:=h;rfl
 obtain ⟨a,ns,rfl,hS,hlen,_,q⟩:=h;have S:Sta H H H [] []:=Sta.enter (yt.refl _) λp hp=>absurd hp jp;refine ⟨_,(zm (Zm 1 zat.nd (pcl Yj hr (zg (pv 0) (zg zA zk)))) (zm (Zm 2 zat.nd (zM xo zA (zM Ym (pv 1) zA))) (zm (Zm 3 zat.nd (pcl ziz hr (zg (pv 0) (zg zA (zg (pv 2) (zg (xE yx (Zq (zg zA (zg (zM zfu zA zA) (zg (zM zfu zA zA) zk)))) (zM Ym (zM WX (pv 1) zA) zA) (λ_ _=>rfl)) zk)))))) (zm (Zm 4 zat.nd (pcl zjU hr (zg (pcl Yj hr (zg (pv 0) (zg zA zk))) zk))) (zm (Zm 5 zat.nd (pcl ZS hr (zg (pv 4) zk))) (zm (yO (VG (Wo (zR zqe rfl B.isinstance Yg (zg (pv 5) (zg (znh (v:= .ref Yn) rfl xU rfl) zk))))) (zu (zG VI)) zU) (zm (Zm 6 zat.nd (zR (Zi rfl) rfl B.sum Vi (zg (yq (N:=pC) (n:=1) (fr:=[]) rfl ⟨rfl,by decide+kernel,rfl,by decide,rfl,rfl,rfl,rfl,rfl⟩ (ye (pv 3)) (λ_ _ _ _=>(xM 0 (show (pC:List Str).Nodup from by decide+kernel))) (λ_ _ _ _=>yd) (λ_ _ _ _=>(pix 0))) zk))) (zm (Xw qe rfl (ye (zM xo (Zq (zg zA (zg zA zk))) (zcO zf7 (pv 0) (zdv (zM xo zA (pv 2))) (zdv (zM xo zA (pv 2)))))) (xM 7 zat.nd) (zm (Zm 8 zat.nd (pcl zjT hr (zg (pv 6) (zg (pv 7) zk)))) (zu (yO (VG (Wo (pcl zjS hr (zg (pv 4) (zg (pv 3) (zg (pv 8) (zg (zkj (pv 5) (VX.mono (by walk_at "l")) hr VU YS (zg (YL zl0 rfl B.list zsJ (zg (pv 3) zk)) (zg (pv 8) zk))) zk))))))) (zu (zG VI)) zU)))) (zu (zG VI)))))))))),zC ?_⟩;walk_at "walk";generalize zd2 ns 0=c at*;rename_i p1 H1 e1 S1
 obtain ⟨size,hat,hs1,hs2⟩:∃n:Int,atI [PyData.int 10, .int (10 ^ Int.toNat 9), .int (10 ^ Int.toNat 30)] (c / 8 % 3)=some (.int n)/\10<=n/\n<=10 ^ 30:=by
  rcases (by omega:c / 8 % 3=0\/c / 8 % 3=1\/c / 8 % 3=2) with h|h|h<;>rw [h]
  ·exact ⟨10,rfl,by decide,by decide⟩
  ·exact ⟨10 ^ Int.toNat 9,rfl,by decide,by decide⟩
  ·exact ⟨10 ^ Int.toNat 30,rfl,by decide,by decide⟩
 refine zrN S1 (by walk_at "mem") hat ?_;have S2:Sta H H H1 [] []:=S1.dropC;clear S1;have hS1:SqL K H1 a (ns.map V.int):=S2.base.seq hS;walk_at "walk";have p46:(10:Int) ^ 30<=10 ^ 46:=by decide+kernel
 refine zlj S2 hS1 ⟨by decide,by omega,by omega,hs1,by omega⟩ λl p3 H3 hl okZ e3 S3=>?_
 have okS:ClS 103 l:=okZ.S (s:=100) (by omega) (by
  have:(10:Int) ^ 30<=2 ^ 100:=by decide+kernel
  omega)
 have ok:ClOk 160 l:=okS.ok (by decide);have S4:Sta H H H3 [] [(zH l, .ref p3)]:=S3.freeze;clear S3 S2;have few:=ok.few;have hS3:SqL K H3 a (ns.map V.int):=S4.base.seq hS;walk_at "walk";refine zli S4 λw6 H6 r dr e6 S6'=>?_;have S6:Sta H H H6 [] [(r.shape,w6),(zH l, .ref p3)]:=S6'.dat (by walk_at "dats");clear S6' S4;walk_at "walk";refine WQ (A:=A) (r:=r) S6 (by walk_at "m") dr.2 λw7 H7 e7 S7=>?_;walk_at "walk";refine rd_isC (C:=A.cls r) S7 (by walk_at "m") (okA r) ?_;walk_at "walk";refine yf (xs:=l.map zP) S7 (by walk_at "m") λJ9 wk9=>?_;refine zS wk9 (λj=> .int (l.getD j (0,0,0)).1) (ys:=(amV l).map PyData.int) (by unfold amV;rw [ja,js];exact zE (λc:Cl=>PyData.int c.1) (0,0,0) l) S7 (λ_ _=> .mem (by walk_at "mem")) (by rw [ja];omega) (λj x v B' G' Kd Kn hx t1 S hd C ex s0 H0=>?_) λD10 H10 e10 S10=>?_
 ·obtain ⟨c,hc,rfl⟩:=zZ hx;refine zN ⟨rfl,?_⟩;walk_at "walk";refine hd (by assumption) ?_;rw [zQ hc];exact Has.int
 have sum:=ok.am.sum;walk_at "walk";have S11:Sta H H H10 [] [(r.ins A,w7),(r.shape,w6),(zH l, .ref p3)]:=S10.dropC;clear S10 S7 S6;generalize (amV l).sum=wh at*;rename_i p12 H12 e12 S12;have hS12:SqL K H12 a (ns.map V.int):=S12.base.seq hS;refine rd_slS S12 hS12 λp13 H13 e13 S13=>?_;have hcl:(zsZ ns (some (2+(1+c % 8))) (some (17+(1+c % 8)))).length<=63:=by unfold zsZ;rw [qS,qt];omega
 generalize zsZ ns (some (2+(1+c % 8))) (some (17+(1+c % 8)))=cells at*;refine WR S13 (S13.vwC (by walk_at "mem")) (S13.vwC (by walk_at "mem")) (by rw [ja];show 2+_<=1000;omega) λp14 H14 e14 S14=>?_;rw [show [PyData.int 0, .int 1]++cells.map PyData.int=(0::1::cells).map PyData.int from rfl] at S14;have S15:Sta H H H14 [] [(Ya (0::1::cells), .ref p14),(r.ins A,w7),(r.shape,w6),(zH l, .ref p3)]:=S14.freeze.weak (by walk_at "sub") (by walk_at "dats");clear S14 S13 S12;refine yf (xs:=(0::1::cells).map PyData.int) S15 (by walk_at "m") λJ wk=>?_;refine XC wk (λi σ cs ds=>(∃x7 x8,σ=[some (.ref a),some (.int c),some (.int (1+c % 8)),some (.ref p3),some w6,some w7,some (.int wh),x7,x8])/\cs=[]/\ds=[(Ya (0::1::cells), .ref p14),(r.ins A,w7),(r.shape,w6),(zH l, .ref p3)]) S15 ⟨⟨none,none,rfl⟩,rfl,rfl⟩ (λi σ cs ds h=>?_) ?_ ?_
 ·obtain ⟨_,rfl,rfl⟩:=h;exact .mem (by walk_at "mem")
 ·rintro i x u σ H16 cs ds hx ⟨⟨x7,x8,rfl⟩,rfl,rfl⟩ S16
  obtain ⟨y,hy,rfl⟩:=zZ hx;cases S16.int1;walk_at "walk";refine zo9 S16 ⟨sum.1,sum.2.mono (by decide)⟩ λw17 H17 e ⟨g0,gz⟩ e17 S17=>?_;walk_at "walk";refine zqI (C:=A.cls r) S17 (by walk_at "m") (okA r).cl (okP r) (by decide+kernel) ?_;walk_at "walk";rename_i q8 H8 e8 S8;have S8':Sta H H H8 [] ((zH l, .ref q8)::_):=S8.freeze;walk_at "walk";refine zmW (r:=r) (l:=l) S8' (by walk_at "m") (by walk_at "m") (by walk_at "m") dr.1.1 dr.2 okS gz g0 λw18 H18 e18 S18=>?_;walk_at "walk";refine zmU (r:=r) (l:=l) (e:=e) S18 (by walk_at "m") (by walk_at "m") (by walk_at "m") (by walk_at "m") dr.1.1 dr.1.2 okS (gz.mono (by decide)) g0 λH19 e19 S19=>?_;walk_at "walk";exact VE (S19.dat (by walk_at "dats")) ⟨⟨_,_,rfl⟩,rfl,rfl⟩
 ·rintro σ H16 cs ds ⟨⟨x7,x8,rfl⟩,rfl,rfl⟩ S16
  walk_at "walk";exact q _
end
end
theorem all_mk {l:PySem.W.OpenLaw} {w:World} {K:PySem.W.Frag} {h:Heap} {mg:Str->Option Value} {fa:Addr} (X:K.In h) (G:h.Ns mainGlobals mg) (hfa:mg "law"=some (.ref fa))
 {f1 f2 f3 f4 f5 f6 f7 f8 f9 f10 f11 f12 f13 f14 f15 f16 f17 f18 f19 f20 f21 f22 f23 f24 f25 f26 f27 f28 f29 f30 f31 f32 f33 f34 f35 f36 f37 f38 f39 f40 f41 f42 f43 f44 f45 f46 f47 f48 f49 f50 f51 f52 f53 f54 f55 f56 f57 f58:Addr} {d1 d2 d3 d4 d5 d6 d7 d8 d9 d10 d11 d12 d13 d14 d15 d16 d17 d18 d19 d20 d21 d22 d23 d24 d25 d26 d27 d28 d29 d30 d31 d32 d33 d34 d35 d36 d37 d38 d39 d40 d41 d42 d43 d44 d45 d46 d47 d48 d49 d50 d51 d52 d53 d54 d55 d56 d57:FuncData} {od58 an58:Option Addr} {sl58:Array (Option Value)} {oc58 kV58 dc58 pm58 cd58 ct58:Value}
 (D1:DkT K mg "check_claims" XZ f1 d1 pK)
 (D2:DkT K mg "those_at" zbj f2 d2 pY)
 (D3:DkT K mg "places_of_rank" YN f3 d3 pam)
 (D4:DkT K mg "places_of_group" Yq f4 d4 pF)
 (D5:DkT K mg "as_one_claim" Wa f5 d5 pF)
 (D6:DkT K mg "plus" zmM f6 d6 pf)
 (D7:DkT K mg "minus" ziU f7 d7 pf)
 (D8:DkT K mg "times" ziT f8 d8 pf)
 (D9:DkT K mg "over" zmN f9 d9 pf)
 (D10:DkT K mg "before" zgo f10 d10 pf)
 (D11:DkT K mg "lowest" zgi f11 d11 pae)
 (D12:DkT K mg "greatest_divisor" ZZ f12 d12 pf)
 (D13:DkT K mg "thinned" zdo f13 d13 ["corners"])
 (D14:DkT K mg "parts_at" zbk f14 d14 ["path","purse"])
 (D15:DkT K mg "turned" zgc f15 d15 ["path"])
 (D16:DkT K mg "scaled" zgf f16 d16 pat)
 (D17:DkT K mg "behind" zgn f17 d17 pak)
 (D18:DkT K mg "is_straight" WN f18 d18 pac)
 (D19:DkT K mg "gap" zrk f19 d19 pf)
 (D20:DkT K mg "parts_between" Xp f20 d20 pas)
 (D21:DkT K mg "portion_reached" Yp f21 d21 pS)
 (D22:DkT K mg "amount_at" US f22 d22 pQ)
 (D23:DkT K mg "plus_each" UL f23 d23 pG)
 (D24:DkT K mg "less_each" UM f24 d24 pG)
 (D25:DkT K mg "last_reached" XY f25 d25 pan)
 (D26:DkT K mg "purses_reaching" Yo f26 d26 pao)
 (D27:DkT K mg "parts_within" XX f27 d27 pap)
 (D28:DkT K mg "merged" zgh f28 d28 pG)
 (D29:DkT K mg "within" zgb f29 d29 pav)
 (D30:DkT K mg "course" zgm f30 d30 pU)
 (D31:DkT K mg "shares" zge f31 d31 pK)
 (D32:DkT K mg "evenly" zgl f32 d32 pK)
 (D33:DkT K mg "losses" zgj f33 d33 pK)
 (D34:DkT K mg "ranks" zgg f34 d34 pau)
 (D35:DkT K mg "groups" zcL f35 d35 paa)
 (D36:DkT K mg "upto" zmL f36 d36 pZ)
 (D37:DkT K mg "nothing" zdp f37 d37 ["count"])
 (D38:DkT K mg "whole_corner" XV f38 d38 ["parts"])
 (D39:DkT K mg "spread" zgd f39 d39 pL)
 (D40:DkT K mg "spread_parts" XW f40 d40 pah)
 (D41:DkT K mg "_law_cell_at" WM f41 d41 pV)
 (D42:DkT K mg "_law_mixed" UQ f42 d42 pai)
 (D43:DkT K mg "_law_divisor" WL f43 d43 pP)
 (D44:DkT K mg "_law_lowest" Vy f44 d44 paj)
 (D45:DkT K mg "_law_whole" UN f45 d45 pW)
 (D46:DkT K mg "_law_is_fraction" Yr f46 d46 pW)
 (D47:DkT K mg "_law_labels" Vz f47 d47 ["_law_number"])
 (D48:DkT K mg "_law_claims" VA f48 d48 pI)
 (D49:DkT K mg "_law_even" zbn f49 d49 pad)
 (D50:DkT K mg "_law_fits" zbm f50 d50 pc)
 (D51:DkT K mg "_law_upto_fit" YH f51 d51 pc)
 (D52:DkT K mg "_law_ranks_fit" ZY f52 d52 pc)
 (D53:DkT K mg "_law_groups_fit" ZJ f53 d53 pc)
 (D54:DkT K mg "_law_right" UO f54 d54 pB)
 (D55:DkT K mg "_law_rule" zbl f55 d55 paq)
 (D56:DkT K mg "_law_drawn" UR f56 d56 ["_law_cell"])
 (D57:DkT K mg "_law_purse" UP f57 d57 pab)
 (a58:PySem.W.nsIn K mainGlobals "law"=some (some (.ref f58))) (l58:K.lookup f58=some ⟨oc58,od58, .func (PySem.W.fnOf "law" "law" (YU zgk) (YD zgk) (zB zgk) .none kV58 dc58 pm58 an58 cd58 ct58),sl58⟩) (c58:PySem.W.codeIn K cd58 "law"=true) (k58:PySem.W.keepIn K (.ref f58)=true)
 {Yn Uk Up Ul Um zbN zbM Uo zfH VR yQ xp xB xc Wu Wy Wv Ww Vh Vg Wx VQ:Addr} {zd1 zh8 zjs zjt zh9 zbF zbJ zbG zbH zcv zcu zbI zd0:FuncData} {t_MOST:Tok} (zs2:PySem.W.nsIn K mainGlobals "Rule"=some (some (.ref Yn))) (xf:PySem.W.findCls K (.ref Yn) (.type "type") "__init__"=some (.val (.ref VR)))
 (zoJ:PySem.W.nsIn K mainGlobals "Shares"=some (some (.ref Uk)))
 (zoN:PySem.W.nsIn K mainGlobals "Evenly"=some (some (.ref Up)))
 (zoK:PySem.W.nsIn K mainGlobals "Losses"=some (some (.ref Ul)))
 (zoL:PySem.W.nsIn K mainGlobals "Halves"=some (some (.ref Um)))
 (zq7:PySem.W.nsIn K mainGlobals "Other"=some (some (.ref zbN)))
 (zq6:PySem.W.nsIn K mainGlobals "Ranks"=some (some (.ref zbM)))
 (zoM:PySem.W.nsIn K mainGlobals "Groups"=some (some (.ref Uo)))
 (zs1:PySem.W.nsIn K mainGlobals "Upto"=some (some (.ref zfH)))
 (zg4:CkT K Uk Wu Yn yQ xp xB xc)
 (zg8:CkT K Up Wy Yn yQ xp xB xc)
 (zg5:CkT K Ul Wv Yn yQ xp xB xc)
 (zg6:CkT K Um Ww Yn yQ xp xB xc)
 (zjN:CkT K zbN Vh Yn yQ xp xB xc)
 (zjM:CkT K zbM Vg Yn yQ xp xB xc)
 (zg7:CkT K Uo Wx Yn yQ xp xB xc)
 (zoz:CkT K zfH VQ Yn yQ xp xB xc)
 (zeb:FkT K "__init__" "Rule.__init__" Xr VR zd1 ph)
 (zir:FkT K "shape" "Rule.shape" VB yQ zh8 pA)
 (zjK:FkT K "text" "Rule.text" ziV xp zjs pA)
 (zjL:FkT K "path" "Rule.path" UT xB zjt pal)
 (zis:FkT K "parts" "Rule.parts" VC xc zh9 pR)
 (zbY:FkT K "__init__" "Shares.__init__" Ys Wu zbF pA)
 (zb2:FkT K "__init__" "Evenly.__init__" Yw Wy zbJ pA)
 (zbZ:FkT K "__init__" "Losses.__init__" Yt Wv zbG pA)
 (zb0:FkT K "__init__" "Halves.__init__" Yu Ww zbH pA)
 (zcB:FkT K "__init__" "Other.__init__" YQ Vh zcv pJ)
 (zcA:FkT K "__init__" "Ranks.__init__" YO Vg zcu pJ)
 (zb1:FkT K "__init__" "Groups.__init__" Yv Wx zbI pT)
 (zea:FkT K "__init__" "Upto.__init__" Xq VQ zd0 pH)
 (xY:PySem.W.isFn K (.ref yQ)=true) (Zr:PySem.W.isFn K (.ref xp)=true) (Zs:PySem.W.isFn K (.ref xB)=true) (xZ:PySem.W.isFn K (.ref xc)=true) (x_MOST:PySem.W.nsIn K mainGlobals "MOST"=some (some (.int 8 t_MOST)))
 (Vo:PySem.W.specialIn K (.ref Yn) "__getattribute__"=some (some (.builtin "type.__getattribute__"))) (VF:PySem.W.readsIn K Yn (.type "type")=true) (hn0:PySem.W.specialIn K (.builtin "object.__class__") "__get__"=some (some (.builtin "getset_descriptor.__get__"))) (ht0:PySem.W.takesIn K (.builtin "object.__class__")=some true) (B:Bl mg) (B2:Bl3 mg):
 ∃fd:FuncData,(∀(s:Shared) (v:Value),BindsTo s fd ⟨[v],[]⟩ [("_law_script",v)])/\∀base:Heap,K.In base->base.Ns mainGlobals mg->FnOk l.prog w K mg base CX0 28 fa fd ["_law_script"] (zoX K):=by
 have e:=hfa.symm.trans (wA X G a58);cases e;obtain ⟨UG,zeJ,zeS⟩:=D1;obtain ⟨zfM,zlE,zl6⟩:=D2;obtain ⟨Vj,zcs,zcw⟩:=D3;obtain ⟨WE,zby,zbQ⟩:=D4;obtain ⟨UH,zeK,zeT⟩:=D5;obtain ⟨zq4,zte,zto⟩:=D6;obtain ⟨zoC,zsm,zsN⟩:=D7;obtain ⟨zoB,zsk,zsL⟩:=D8;obtain ⟨zq5,ztf,ztp⟩:=D9;obtain ⟨zkZ,zpP,zqr⟩:=D10;obtain ⟨zkU,zpK,zqm⟩:=D11;obtain ⟨XQ,zaM,zaS⟩:=D12;obtain ⟨ziu,znL,zot⟩:=D13;obtain ⟨zfN,zlF,zl7⟩:=D14;obtain ⟨zkP,zpF,zqh⟩:=D15;obtain ⟨zkS,zpI,zqk⟩:=D16;obtain ⟨zkY,zpO,zqq⟩:=D17;obtain ⟨zaY,zgG,zg0⟩:=D18;obtain ⟨ztq,ztE,ztI⟩:=D19;obtain ⟨VW,zdM,zd4⟩:=D20;obtain ⟨WD,zbx,zbP⟩:=D21;obtain ⟨zep,zjd,zjH⟩:=D22;obtain ⟨zeh,zi6,zjA⟩:=D23;obtain ⟨zei,zi7,zjB⟩:=D24;obtain ⟨UF,zeI,zeR⟩:=D25;obtain ⟨WC,zbw,zbO⟩:=D26;obtain ⟨UE,zeG,zeP⟩:=D27;obtain ⟨zkT,zpJ,zql⟩:=D28;obtain ⟨zkO,zpE,zqg⟩:=D29;obtain ⟨zkX,zkp,zkK⟩:=D30;obtain ⟨zkR,zpH,zqj⟩:=D31;obtain ⟨zkW,zpN,zqp⟩:=D32;obtain ⟨zkV,zpL,zqn⟩:=D33;obtain ⟨zsU,zsl,zsM⟩:=D34;obtain ⟨zqw,zpM,zqo⟩:=D35;obtain ⟨zq3,ztd,ztn⟩:=D36;obtain ⟨ziv,znM,zou⟩:=D37;obtain ⟨UC,zeE,zeN⟩:=D38;obtain ⟨zkQ,zpG,zqi⟩:=D39;obtain ⟨UD,zeF,zeO⟩:=D40;obtain ⟨zaX,zgF,zgZ⟩:=D41;obtain ⟨zen,zjb,zjF⟩:=D42;obtain ⟨zaW,zgE,zgY⟩:=D43;obtain ⟨zcl,zhY,zil⟩:=D44;obtain ⟨zej,zi8,zjC⟩:=D45;obtain ⟨WF,zbz,zbR⟩:=D46;obtain ⟨zcm,zhZ,zim⟩:=D47;obtain ⟨zcn,zh0,zin⟩:=D48;obtain ⟨zfQ,zlG,zl8⟩:=D49;obtain ⟨zfP,zfx,zfK⟩:=D50;obtain ⟨ze0,zeH,zeQ⟩:=D51;obtain ⟨zel,zdN,zd5⟩:=D52;obtain ⟨zcC,zct,zcx⟩:=D53;obtain ⟨zek,zi9,zjD⟩:=D54;obtain ⟨zfO,zfw,zfJ⟩:=D55;obtain ⟨zeo,zjc,zjG⟩:=D56;obtain ⟨zem,zja,zjE⟩:=D57;have ztJ:=zh5 (st:=zgk) l58 c58 k58;refine ⟨PySem.W.fnOf "law" "law" (YU zgk) (YD zgk) (zB zgk) .none kV58 dc58 pm58 an58 cd58 ct58,λs v=> .of_eq rfl,λbase XB GB=>?_⟩;obtain ⟨zer,xh,yZ⟩:=zeb;obtain ⟨xk,yy,Za⟩:=zir;obtain ⟨zsV,zsO,Zt⟩:=zjK;obtain ⟨zaa,UY,Zu⟩:=zjL;obtain ⟨VX,VU,Zb⟩:=zis;obtain ⟨zb3,zbS,zlJ⟩:=zbY;obtain ⟨zb7,zbW,zlN⟩:=zb2;obtain ⟨zb4,zbT,zlK⟩:=zbZ;obtain ⟨zb5,zbU,zlL⟩:=zb0;obtain ⟨zcE,zcz,zme⟩:=zcB;obtain ⟨zcD,zcy,zmd⟩:=zcA;obtain ⟨zb6,zbV,zlM⟩:=zb1;obtain ⟨zeq,zd6,znX⟩:=zea;have xU:=wA XB GB zs2;have g_MOST:=wA XB GB x_MOST;have zgO:=wA XB GB zoJ;have zec:=zg4.MK;have zs3:=zg4.ok xY Za Zr Zt hn0 ht0;have zs8:=zg4.mp Zs Zu xZ Zb;have zgS:=wA XB GB zoN;have zeg:=zg8.MK;have zs7:=zg8.ok xY Za Zr Zt hn0 ht0;have ztc:=zg8.mp Zs Zu xZ Zb;have zgP:=wA XB GB zoK;have zed:=zg5.MK;have zs4:=zg5.ok xY Za Zr Zt hn0 ht0;have zs9:=zg5.mp Zs Zu xZ Zb;have zgQ:=wA XB GB zoL;have zee:=zg6.MK;have zs5:=zg6.ok xY Za Zr Zt hn0 ht0;have zta:=zg6.mp Zs Zu xZ Zb;have zjm:=wA XB GB zq7;have zha:=zjN.MK;have zts:=zjN.ok xY Za Zr Zt hn0 ht0;have ztu:=zjN.mp Zs Zu xZ Zb;have zjl:=wA XB GB zq6;have zg9:=zjM.MK;have ztr:=zjM.ok xY Za Zr Zt hn0 ht0;have ztt:=zjM.mp Zs Zu xZ Zb;have zgR:=wA XB GB zoM;have zef:=zg7.MK;have zs6:=zg7.ok xY Za Zr Zt hn0 ht0;have ztb:=zg7.mp Zs Zu xZ Zb;have zn7:=wA XB GB zs1;have zjO:=zoz.MK;have ztC:=zoz.ok xY Za Zr Zt hn0 ht0;have ztD:=zoz.mp Zs Zu xZ Zb;have okA:∀r:Rl,ROk K yQ xp Yn ((⟨Uk,Up,Ul,Um,zbN,zbM,Uo,zfH⟩:RAd).cls r):=λr=>by cases r<;>assumption
 have okP:∀r:Rl,Meth K ((⟨Uk,Up,Ul,Um,zbN,zbM,Uo,zfH⟩:RAd).cls r) "path" xB/\Meth K ((⟨Uk,Up,Ul,Um,zbN,zbM,Uo,zfH⟩:RAd).cls r) "parts" xc:=λr=>by cases r<;>assumption
 generalize hAA:(⟨Uk,Up,Ul,Um,zbN,zbM,Uo,zfH⟩:RAd)=A at okA okP;have F_rinit:=zps (P:=l.prog) (w:=w) (mg:=mg) (base:=base) (fS:=yQ) (fT:=xp) (Ru:=Yn) zer;have F_shape:=zpq (P:=l.prog) (w:=w) (mg:=mg) (base:=base) okA xk;have zp3:=zez (A:=A) xU Vo VF xf F_rinit yZ xh (okA .shares) zb3
 have zpQ:Uw l.prog w K mg base "Shares" (A.cls .shares) pA (xW (A.cls .shares) (α:=Unit) (λ_=>[]) (λ_=>Rl.shares.shape)):=by
  subst hAA;exact ⟨_,_,zec,zp3,zbS,zgO⟩
 have zp7:=zeD (A:=A) xU Vo VF xf F_rinit yZ xh (okA .evenly) zb7
 have zpU:Uw l.prog w K mg base "Evenly" (A.cls .evenly) pA (xW (A.cls .evenly) (α:=Unit) (λ_=>[]) (λ_=>Rl.evenly.shape)):=by
  subst hAA;exact ⟨_,_,zeg,zp7,zbW,zgS⟩
 have zp4:=zeA (A:=A) xU Vo VF xf F_rinit yZ xh (okA .losses) zb4
 have zpR:Uw l.prog w K mg base "Losses" (A.cls .losses) pA (xW (A.cls .losses) (α:=Unit) (λ_=>[]) (λ_=>Rl.losses.shape)):=by
  subst hAA;exact ⟨_,_,zed,zp4,zbT,zgP⟩
 have zp5:=zeB (A:=A) xU Vo VF xf F_rinit yZ xh (okA .halves) zb5
 have zpS:Uw l.prog w K mg base "Halves" (A.cls .halves) pA (xW (A.cls .halves) (α:=Unit) (λ_=>[]) (λ_=>Rl.halves.shape)):=by
  subst hAA;exact ⟨_,_,zee,zp5,zbU,zgQ⟩
 have zsy:=zgA (A:=A) xU Vo VF xf F_rinit yZ xh F_shape yy okA zcE
 have zso:Uw l.prog w K mg base "Other" (A.cls (.other .shares)) pJ (xW (A.cls (.other .shares)) (α:=Rl) (λr=>[r.ins A]) (λr=>(Rl.other r).shape)):=by
  subst hAA;exact ⟨_,_,zha,zsy,zcz,zjm⟩
 have zsx:=zgz (A:=A) xU Vo VF xf F_rinit yZ xh F_shape yy okA zcD
 have zsn:Uw l.prog w K mg base "Ranks" (A.cls (.ranks .shares)) pJ (xW (A.cls (.ranks .shares)) (α:=Rl) (λr=>[r.ins A]) (λr=>(Rl.ranks r).shape)):=by
  subst hAA;exact ⟨_,_,zg9,zsx,zcy,zjl⟩
 have zp6:=zeC (A:=A) xU Vo VF xf F_rinit yZ xh F_shape yy okA zb6
 have zpT:Uw l.prog w K mg base "Groups" (A.cls (.groups .shares .shares)) pT (xW (A.cls (.groups .shares .shares)) (α:=Rl×Rl) (λr=>[r.1.ins A,r.2.ins A]) (λr=>(Rl.groups r.1 r.2).shape)):=by
  subst hAA;exact ⟨_,_,zef,zp6,zbV,zgR⟩
 have zth:=zhW (A:=A) xU Vo VF xf F_rinit yZ xh F_shape yy okA zeq
 have ztg:Uw l.prog w K mg base "Upto" (A.cls (.upto 0 0 .shares .shares)) pH (xW (A.cls (.upto 0 0 .shares .shares)) (α:=(Int×Int)×Rl×Rl) (λr=>[.tuple [.int r.1.1, .int r.1.2],r.2.1.ins A,r.2.2.ins A]) (λr=>(Rl.upto r.1.1 r.1.2 r.2.1 r.2.2).shape)):=by
  subst hAA;exact ⟨_,_,zjO,zth,zd6,zn7⟩
 have cm {f:Addr} {fd:FuncData} {k:Nat} {x:Str} {st:Stmt} {ps:List Str} {sp:Sp} (F:Fun K x x st f fd) (a:FnOk l.prog w K mg base CX0 k f fd ps sp) (hm:mg x=some (.ref f)) (b:Zg K fd ps []):Cal l.prog w K mg base CX0 k x ps sp:=zaR F a hm b;have C_gcd:=cm XQ (ok_gcd XQ) zaM zaS;have ZK:=cm zkU (znv B C_gcd zkU) zpK zqm;have za0:=cm zq4 (zsa ZK zq4) zte zto;have ZA:=cm zoC (zpx ZK zoC) zsm zsN;have zab:=cm zoB (zpo ZK zoB) zsk zsL;have zoD:=cm zq5 (zsb ZK zq5) ztf ztp;have Uu:=cm zkZ (znC zkZ) zpP zqr;have C_last:=cm UF (zsc B Uu UF) zeI zeR;have C_portion:=cm WD (zlq ZA zoD WD) zbx zbP;have C_amount:=cm zep (znD za0 ZA zab zep) zjd zjH;have C_between:=cm VW (zlx B C_portion C_amount VW) zdM zd4;have C_partsat:=cm zfN (zls B C_last C_between zfN) zlF zl7;have zl9:=cm ztq (ok_gap ztq) ztE ztI;have C_straight:=cm zaY (zi4 B zl9 zaY) zgG zg0;have zes:=cm ziu (zln B C_straight ziu) znL zot;have C_pe:=cm zeh (zhU B za0 zeh) zi6 zjA;have C_le:=cm zei (zhV B ZA zei) zi7 zjB;have Ur:=cm zkP (znm B ZA C_le zkP) zpF zqh;have zcW:=cm zkS (znp B zab zkS) zpI zqk;have XS:=cm zkY (znB B za0 C_pe zes zkY) zpO zqq;have C_check:=cm UG (zpA B g_MOST UG) zeJ zeS;have C_wc:=cm UC (ok_wc B UC) zeE zeN;have Yh:=cm ziv (zlt C_wc ziv) znM zou;have zhd:=cm zkR (zno B Yh C_wc zkR) zpH zqj;have Vc:=cm zkW (znz B B2 C_wc zkW) zpN zqp;have zcX:=cm zkV (znw Vc Ur zkV) zpL zqn;have zk0:=cm zq3 (zr9 XS zcW ZA zq3) ztd ztn;have C_reach:=cm WC (zpt B C_last C_portion C_amount WC) zbw zbO;have C_pwith:=cm UE (zlp B C_partsat UE) zeG zeP;have zhe:=cm zkT (znu B Uu zkT) zpJ zql;have zaZ:=cm zkO (znl B zhe C_reach C_pwith zkO) zpE zqg;have C_those:=cm zfM (zpp zfM) zlE zl6;have C_plr:=cm Vj (zns B Vj) zcs zcw;have C_plg:=cm WE (zlr B WE) zby zbQ;have C_one:=cm UH (ok_one B UH) zeK zeT;have C_sprv:=cm UD (zlo B UD) zeF zeO;have C_spr:=cm zkQ (znn C_sprv zkQ) zpG zqi;have Zl:=cm zkX (zlw (t:=103) B B2 zhd Vc zcX zk0 Ur Yh C_plr C_plg C_those C_one C_spr XS zaZ zsU zsl zsM zqw zpM zqo zkX zkp zkK 4) zkp zkK;have F_path:=zpv (A:=A) (t:=103) (n:=4) okA C_check Zl zaa;have F_parts:=znt (A:=A) (t:=103) (n:=4) okA (λr=>(okP r).1) F_path UY C_partsat VX;have C_cell:=cm zaX (zsf B zaX) zgF zgZ;have C_mix:=cm zen (zpw zen) zjb zjF;have C_div:=cm zaW (zlv B zaW) zgE zgY;have C_low:=cm zcl (znx C_div zcl) zhY zil;have C_whole:=cm zej (zpn B zej) zi8 zjC;have C_frac:=cm WF (zsd B C_whole C_div WF) zbz zbR;have C_labels:=cm zcm (zny zcm) zhZ zim;have C_claims:=cm zcn (znA B C_cell C_mix C_labels zcn) zh0 zin;have C_even:=cm zfQ (zse B zfQ) zlG zl8;have C_fits:=cm zfP (zpy B B2 C_even ze0 zeH zeQ zel zdN zd5 zcC zct zcx zfP zfx zfK 12) zfx zfK;have C_right:=cm zek (znq (t:=103) B C_frac C_div C_fits zek) zi9 zjD;have C_rule:=cm zfO (zpr zpQ zpU zpR zpS zso zsn zpT ztg zfO zfw zfJ 4) zfw zfJ;have C_drawn:=cm zeo (zpz zeo) zjc zjG;have C_purse:=cm zem (zpu C_low zem) zja zjE;exact ok_law (A:=A) B okA (λr=>(okP r).2) xU F_parts VU C_cell C_claims C_drawn C_rule C_purse C_right ztJ
theorem walk {l:PySem.W.OpenLaw} {q:Program} {loose:List Str} {XP:(Str->Option Value)->Heap->Prop} {YP:World->Heap->Prop} {d:DefRec} {K:Params->PySem.W.Frag} (hn:l.most=some 63) (hdf:d.params.defaults=[])
 (hY:∀(w:World) (h:Heap),YP w h->(K w.params).In h)
 (F:∀(w:World) (mg:Str->Option Value) (fa:Addr) (h:Heap),(K w.params).In h->h.Ns mainGlobals mg->mg d.name=some (.ref fa)->
  ∃fd:FuncData,(∀(s:Shared) (u:Value),BindsTo s fd ⟨[u],[]⟩ [("_law_script",u)])/\∀base:Heap,(K w.params).In base->base.Ns mainGlobals mg->FnOk l.prog w (K w.params) mg base CX0 28 fa fd ["_law_script"] (zoX (K w.params))):
 PySem.W.WalkO q loose XP YP l.row.toRowW d [] (λf vs=>PySem.call f vs):=
 L2.zq8 (n:=63) (k:=28) (x:="_law_script") (CX:=λ_=>CX0) (sp:=λw=>zoX (K w.params)) hn (by decide) hdf ⟨rfl,by decide,by decide⟩ hY F (λ_ _ a ns hl hO hS=>⟨a,ns,rfl,hS,hl,hO,λ_=>rfl⟩) λ_ _ _ _ _ z=>z
end K
structure PySem.W.Fast:Prop where(tw10108873060885243112 tw1023669892768932981 tw10300739455377697850 tw10331486650525323678 tw1037302669919740993 tw10501339758663119658 tw10757003280918802899 tw10785564343819244069 tw10871883214627883896 tw11037536672962635615 tw11057227514444921214 tw11438822778101179513 tw11481780178925265539 tw11717675119963737966 tw11734377209395759520 tw11785756515816321258 tw11793733640228272892 tw11812913016951617630 tw12000658463035876209 tw12047326078748016253 tw12252950631144405617 tw12273621979835393705 tw1229944258458937887 tw12466066158201046735 tw12496145919375429725 tw12577718077472886873 tw12682229893270494666 tw12708888359914225802 tw12818063774379408871 tw13356415764703052953 tw13397466238387058228 tw1339885776638317304 tw13428833141093780295 tw13679201877790761963 tw13679999208173374290 tw13706201284979911798 tw13744592653589518205 tw13771233727479980019 tw14066309770815377346 tw14173127393367213897 tw14192222628270530294 tw14299579663923355667 tw14306039244487962497 tw14318768164759368126 tw1438308739660526505 tw14464844395930971229 tw14493895574492088696 tw14611489665110490685 tw14664887487585109105 tw14676762436863333711 tw14885600350822992097 tw14939887618920367844 tw1506938092494567334 tw15132602475588848115 tw1521955158695964199 tw1534641281522742624 tw15405812749899325010 tw15409561784220967972 tw15511179380142789873 tw15744329315702400647 tw1575274459955398272 tw15756862801267977196 tw15884300721131253090 tw15892697479749607692 tw15978069633805046503 tw16104348452139698441 tw16116538739497337612 tw16125760576940191163 tw16142012628584217920 tw16173665493422658365 tw16193799003538373589 tw16210752952607657235 tw16313933305888381546 tw16358797946553964091 tw16426165630386939179 tw16571751009041224752 tw16797789280560539566 tw17013751477673060621 tw17016372297852171118 tw17063287188340732515 tw17103311304064128233 tw17344735809356935996 tw17407781981267562728 tw17474197467188206123 tw17615816127950825173 tw17790461823722876218 tw17916675015735173701 tw17933562920200891439 tw17977729371672424253 tw18119447914400877413 tw18174419760471104244 tw18414468449923208063 tw18420908611836107777 tw1921001432990794932 tw2029541246477898233 tw2076480912403801082 tw235249045217073204 tw2423311507806735952 tw2436934856697071151 tw2686666973086704774 tw2729381141744861901 tw294877657279409276 tw3746032637775650016 tw3929926868881583243 tw4076597071820267366 tw4247729660453702675 tw4292693238906802905 tw4371403564884958809 tw4373927457066582071 tw4487761611421628360 tw4527613694103905289 tw4620835679557368938 tw4710434456783951929 tw4723467761411785695 tw4759961185099170883 tw4773532585466032590 tw4876849886563381245 tw4896370242593475287 tw4926789826391942381 tw505946378216584391 tw5211282360276507094 tw5238356694238809212 tw5368717755727072833 tw5376179254753538053 tw5419094302178167306 tw5489352480941401743 tw5549620124887855668 tw5644010741822221023 tw5806998286386090590 tw5880568875480922020 tw599725106453384494 tw6046046144261363107 tw608458479987492537 tw6184801902460743033 tw6251854082431266605 tw6329609241114495698 tw6475067334375840278 tw6478257739152863375 tw6523028378874218073 tw6525945015454799220 tw6604518659030622129 tw6616187276114228356 tw6698669481853465676 tw7100506792874405128 tw712081584106733856 tw7260569680086710915 tw7271672161290368466 tw7320574133832395991 tw7366563977351023222 tw7520358997221898462 tw7571694464707384068 tw7724586405878290361 tw7773762515088623516 tw7791204675498210051 tw7820973335951751969 tw7944499338439557489 tw8086755131394875162 tw8088612563023358122 tw8225751885529203558 tw8390767915009106608 tw8505221858941855646 tw8685130808412459749 tw8746899360922483379 tw8766753142154017003 tw879288749355197318 tw8934358159130912000 tw895441324522124302 tw9038779578767252853 tw9048686877646877822 tw9102687806909484088 tw9127651817537440747 tw933215783869570251 tw9459031215223243542 tw9564746021365211630 tw9663064089725231382 tw98958209655143356 tw10574116484121308510 tw13566900379006858500 tw13089061455998585116 tw16235573872077165817 tw1177675059063609509 tw7069866000454078898 tw342091083734071065 tw17405180815883096104 tw6309985278037869059 tw8698395606597649796 tw2695902918116850348 tw15238814288459253061 tw17836021936623386131 tw5781646970331120267 tw12413045433880945581 tw2842154318593690611 tw8828211754994685264 tw3456411709083247749 tw8129131939404276108 tw7200214552106778109 tw947755720591699262 tw17080367045705873907 tw1889086060435982016 tw7998211824354727299 tw6893983733572770682 tw7551405941709486890 tw2833955001425257003 tw3380339596111399886 tw17873842680467197760 tw15216223974492636794 tw11719563245930214439 tw15219830738284865251 tw271398597903812443 tw3187176594941669721 tw1842164891798488919 tw15058443942099961728 tw8216952100827352523 tw17606587054536299944 tw16799876492439011698 tw13988177953827860391 tw9381307964410498539 tw824936989573483061 tw11726404073741464707 tw10210542503018072224 tw16966022458619740776 tw15561085356939249590 tw61151177880514220 tw14332918616754796089 tw15559044267855513848 tw13128354341377602373 tw4588016140341963966 tw4705278535825662911 tw12199059228110593489 tw8092637335809560223 tw1804987413027496735 tw216696611743817784 tw9791164313394658325 tw3524565692424849063 tw14524461631090018128 tw3552401221759279265 tw15652165431971662392 tw468316646764949558 tw13767482949894869299 tw604759403145486043 tw17096855779627709387 tw720678828494894819 tw14041681771478600832 tw15246609587886940302 tw15016820246251210559 tw3189155302065813775 tw12723482363745764673 tw17198042947280198755 tw17459024300504688586 tw18424146059375296379 tw2381854353415975429 tw814066580434379088 tw3641360109220740624 tw12790817423334933238 tw16861960370407280725 tw15815213665496859363 tw1522395880382751314 tw5952862645308890669 tw17498872085313364188 tw4381903614774427148 tw15759877753607554910 tw8837692025553485598 tw6610386020047287786 tw11866050666875009012 tw4102661276594749438 tw4950028843659340698 tw5156311854712817826 tw2141970945660029692 tw11027248200060177548 tw15965622509588747128 tw11994505680367355173 tw16069851605110689570 tw11674995162462585648 tw13242945840856937357 tw2824664619407413263 tw16895272103133836689 tw5900745846753866108 tw12200158237696674416 tw15076749815096341877 tw14566217795989627256 tw18414384596724361752 tw3214288304048634276 tw16137009587591384613 tw17545182841105025945 tw13021334850835058791 tw15849028397406742522 tw8519664521985290327 tw12164367407169522576 tw8311781962915384663 tw6404171403922240866 tw5152497098723084160 tw17252424650751439818 tw15217942960188063697 tw15338037185277413741 tw3419487386190572844 tw10704763128940591016 tw5717838764777592715 tw2465149551642144421 tw17926952975087336117 tw12427988825706015098 tw12801952606459094154 tw2315271518413106130 tw6717368060702624250 tw8434016698257233554 tw13448380699998344912 tw17569903470868146169 tw9924409940665286818 tw14103577416104715910 tw16998049986318971500 tw9299287770035798110 tw2543664201472471294 tw1409942359749340728 tw68668815101473324 tw4672639534966066895 tw10672087407031659972 tw17048043798095836685 tw3700450450927450512 tw1005313183687030950 tw828563641269026908 tw7773958707808700012 tw5294239848915326772 tw15948359452337149516 tw6479978357113409278 tw15777711664427222047 tw5005963639806631717 tw2317762585115190112 tw1276645065549866125 tw8375171203469512136 tw12373480626209923825 tw12845402284191885343 tw2665533166772690817 tw13352430009827396306 tw14429815653083285805 tw17229778178808055909 tw2438562531648676085 tw6778069123308594804 tw17450101948002594311 tw3081726419952471526 tw8602315499022929492 tw10191446595999559688 tw5887890982728262614 tw337994243563752796 tw5092548617033688442 tw352734364066057449 tw4986013985588196568 tw301028924415520694 tw9922291259338360191 tw3345689069183381755 tw17585120377708213057 tw15081127793175288225 tw3051458830953404961 tw15756572655556666715 tw4994173259027499295 tw16258381408749304129 tw8169808652349273430 tw1537494234705420834 tw17568572449072572960 tw5210797291197879407 tw9532148696441569587 tw1857836978385475902 tw291926483230121317 tw16078300049748033101 tw6277487427865136816 tw8573786024826248397 tw12702714664975592467 tw705721519265008349 tw10720145470439540767 tw3602046980148040055 tw4633235970225470070 tw14064106722341092525 tw5699744955796322328 tw7685318544818689296 tw11258005571181318736 tw5822454053891077927 tw11642297757861077495 tw5560882525573153531 tw12049396697456447123 tw14545880426095439530 tw17570647684249439161 tw12584295519668538813 tw9134257997036750342 tw3283754881078142498 tw16584640610005354795 tw15939613698859565488 tw2443510163102744871 tw9173614683426364369 tw4538256300446089220 tw196495030650783775 tw10436603904159803923 tw3352455886153670172 tw4216853032692202891 tw4304691124239803333 tw2766442963971058824 tw12914700486141463758 tw13034039787828402945 tw11719966943709008143 tw872459330042784483 tw18375486704904030786 tw4719136369557972034 tw1178648625770440051 tw16736039729636503562 tw8251821530880575807 tw15241025428837944976 tw673579717679504198 tw7394124489049191278 tw9433409057586580408 tw12914056003348796635 tw15240229207309988583 tw1849287043920020944 tw620890009515721982 tw9847874430995472374 tw17356689056137464322 tw10660815401795697155 tw5153376482263558118 tw570731416490367981 tw18068627197450808963 tw17894533146146926771 tw15493733809751101426 tw4489541284158393670 tw10680871403405538513 tw5260103689110461830 tw3322762583138718586 tw2549622824398460109 tw9219931347340870988 tw12834947496099028292 tw4650520703902576522 tw8764670146492506423 tw14441418577134805001 tw16301206845443038611 tw11797893637347166416 tw18341909268044338674 tw9866279566031481209 tw7804785716357794873 tw897982723653230033 tw16604666711943040318 tw15987745393797759762 tw6152640193670713985 tw9959062147171168773 tw15243949224131577862 tw10998761231668777814 tw15983163393516414157 tw9923939239036300451 tw7345640683254993361 tw4473516008851343870 tw108928307767607215 tw12710968222899662915 tw5581573148747897386 tw15388304861389626917 tw14705146097931129806 tw4771130723493657467 tw4917446165039357034 tw10211784757514655959 tw6474542665180614933 tw7595315959991090099 tw6601632630458360358 tw7580749283780172891 tw1748920918366727921 tw11260534998204596055 tw17592534356880314349 tw8452412757799312494 tw10003580805039063951 tw9684476647831772465 tw9948910580531256418 tw1937611209720668181 tw1875019480657653443 tw13156860678072314626 tw13355765305412764685 tw15917433541930808802 tw3010158371498982535 tw16700801576330405262 tw17289727954209070532 tw17889546230795301743 tw4796573581369877203 tw5177291042243567745 tw9078919836069899678 tw10393246497366284349 tw4432523157948873071 tw4430923881508060821 tw2124633383842868376 tw3112835644256762336 tw12031857979749222212 tw9001071691933496316 tw1695021855711851039 tw3107229642559372931 tw2275345193684193263 tw16358404857645069870 tw2843878721006100652 tw2277707221036508146 tw6062683365501952894 tw15438018072256420310 tw1074432380843294809 tw5042981686402603799 tw13692807122526197690 tw3693938476025726911 tw2449195456301336833 tw17480054309662427313 tw5145140382573108436 tw1498646358673940777 tw13776636898966386399 tw13349400116529303329 tw351061879706471487 tw16627652003676965100 tw6816428677546902982 tw15393701637256662016 tw11049481226679790702 tw11323637948263053605 tw6410151784150509484 tw1043335245558145739 tw1313066454487044478 tw7664569455513205715 tw4846426411527172246 tw12835833013932962262 tw6564449844464621454 tw13207400281798911844 tw16396905524041587603 tw4534114035777375603 tw8292345239060471582 tw2807760432724852215 tw150742383367661280 tw14201889186822874312 tw6484562772361364183 tw16641810835990299461 tw17389863360819921763 tw8204070204708837918 tw9775910030577708816 tw9774830919092252243 tw6965329850824391067 tw6473020539346726125 tw4273369788822596085 tw5563448038353495911 tw16270483509159776678 tw4756681282072322566 tw1367670027116873876 tw9971712333736333199 tw10033972087961112034 tw17695286934592942864 tw12593212129508528620 tw412467430774985446 tw3785658169817845888 tw4830278191207576399 tw9812989517470463105 tw16916984118439309311 tw12411586258055276450 tw11380068049986443192 tw9148178994888299821 tw12001171170465607747 tw5727847596452020305 tw13350540013623200472 tw10716157825776443839 tw3796219703521370722 tw6124205123318336606 tw4300449190187643778 tw11446969930184721682 tw3600490687324945541 tw16911834810271017578 tw17343370546832712440 tw8386587885295551835 tw6443085955033557763 tw7467087378285752680 tw9249679717676285881 tw2795253933866026144 tw17276865310958340165 tw8410654743634220349 tw17658858962388944021 tw16300227781605397928 tw11365531394991519857 tw1337754149419143572 tw14806346343327475319 tw13589818010218221377 tw15560601483882501559 tw14634152899799186833 tw16554965793275676498 tw11450011574513188958 tw5428498982649374883 tw4192574244648930012 tw17498565372592294953 tw3866566111229880383 tw13546795599957499498 tw10305018700071300473 tw16704722258905126238 tw6848461006640296554 tw17310253114943295629 tw17479866815556096311 tw17196809609954354213 tw5417415855058268864 tw6887197327067303094 tw12730103427214210508 tw3265671698676892406 tw12252999117644233699 tw2691007109751521514 tw6314867788618318022 tw4801861129560373061 tw12526180513699948058 tw12366265173395330161 tw6874535970617823669 tw4504716840333326096 tw205163614642458139 tw3016039438713169748:True)
open PySem PySem.W PyProof.Rows
set_option maxRecDepth 100000 in
set_option maxHeartbeats 0 in
theorem PySem.Challenge.cw_shortpurse_k26_ranks_and_groups_holds : PySem.Challenge.rw_shortpurse_k26_ranks_and_groups.Holds := by
 w_on;o_law;k_head;(case hw=>w_witness2)
 k_fill
 refine K.walk (l:=PySem.Challenge.rw_shortpurse_k26_ranks_and_groups) rfl rfl (λw h Y=>PySem.W.kIn_of Y) ?F
 case F=>
  intro w mg fa h KX G hmg;refine' K.all_mk KX G hmg ?_ ?_ ?_ ?_ ?_ ?_ ?_ ?_ ?_ ?_ ?_ ?_ ?_ ?_ ?_ ?_ ?_ ?_ ?_ ?_ ?_ ?_ ?_ ?_ ?_ ?_ ?_ ?_ ?_ ?_ ?_ ?_ ?_ ?_ ?_ ?_ ?_ ?_ ?_ ?_ ?_ ?_ ?_ ?_ ?_ ?_ ?_ ?_ ?_ ?_ ?_ ?_ ?_ ?_ ?_ ?_ ?_ ?_ ?_ ?_ ?_ ?_ ?_ ?_ ?_ ?_ ?_ ?_ ?_ ?_ ?_ ?_ ?_ ?_ ?_ ?_ ?_ ?_ ?_ ?_ ?_ ?_ ?_ ?_ ?_ ?_ ?_ ?_ ?_ ?_ ?_ ?_ ?_ ?_ ?_ ?_ ?_ ?_ ?_ ?_ ?_ ?_ ?_
  all_goals try first
   |(refine' S.dk_mk KX G ?a ?l ?c ?k ?b;(case a=>k_is);(case l=>k_is);(case c=>k_is);(case k=>k_is);(case b=>first|(exact λ_ _ _ _ _ _ us hl=>match us,hl with|[_],_=>rfl)|(exact λ_ _ _ _ _ _ us hl=>match us,hl with|[_,_],_=>rfl)|(exact λ_ _ _ _ _ _ us hl=>match us,hl with|[_,_,_],_=>rfl)|(exact λ_ _ _ _ _ _ us hl=>match us,hl with|[_,_,_,_],_=>rfl)))
   |(refine' S.fk_mk ?l ?c ?k ?b;(case l=>k_is);(case c=>k_is);(case k=>k_is);(case b=>first|(exact λ_ _ _ _ _ _ us hl=>match us,hl with|[_],_=>rfl)|(exact λ_ _ _ _ _ _ us hl=>match us,hl with|[_,_],_=>rfl)|(exact λ_ _ _ _ _ _ us hl=>match us,hl with|[_,_,_],_=>rfl)|(exact λ_ _ _ _ _ _ us hl=>match us,hl with|[_,_,_,_],_=>rfl)))
   |(exact S.CkT.mk (by k_is) (by k_is) (by k_is) (by k_is) (by k_is) (by k_is) (by k_is) (by k_is) (by k_is) (by k_is) (by k_is) (by k_is) (by kit_is) (by k_is) (by k_is) (by k_is))
   |(refine' S.Bl.mk ?_ ?_ ?_ ?_ ?_ ?_ ?_ ?_ ?_ ?_ ?_ ?_ ?_ ?_ ?_ ?_;all_goals exact PySem.W.mg_none_of KX G (by k_is))
   |(refine' S.Bl3.mk ?_ ?_;all_goals exact PySem.W.mg_none_of KX G (by k_is))
   |k_is
