import PyProof.Rows.All
import Wide.All
import OpenK.AllK
import Wide.FinOn
import Lean
import PyProof.EqAt
import PyProof.EqKinds
import PyProof.TupleCall
import PyProof.Draws
import PyProof.EnumMake
import PyProof.ZipIter
import PyProof.Rows.SumAny
import KE.KRevIter
import PyProof.StrCalls2
import KE.KRevSl
import KE.LcSums
import PyProof.Rows.SetFrom
import PyProof.DictIter
import PyProof.CollectWalk
import PyProof.Rows.SortRev
import PySem.Challenge.RW_shortpurse_k24_flat_rules
set_option Elab.async false
set_option linter.all false
set_option maxRecDepth 100000
set_option maxHeartbeats 4000000
set_option exponentiation.threshold 2000
namespace L2
open PySem PySem.Spec PyProof.Rows
abbrev Key := Sum Int Str
def keyIs : Key → Value → Bool
 | .inl k, v => Value.isInt k v
 | .inr x, v => Value.isStrOf x v
def keyH (w : World) : Key → Int
 | .inl k => hashInt k
 | .inr x => hashStr w x
theorem keyIs_shape : ∀ {k : Key} {v : Value}, keyIs k v = true → (∃ i t, k = Sum.inl i ∧ v = Value.int i t) ∨ (∃ x t, k = Sum.inr x ∧ v = Value.str x t)
 | .inl i, v, h => by
   obtain ⟨t, e⟩ := Value.isInt_shape (k := i) (v := v) h
   exact .inl ⟨i, t, rfl, e⟩
 | .inr x, v, h => by
   obtain ⟨t, e⟩ := Value.isStrOf_shape (x := x) (v := v) h
   exact .inr ⟨x, t, rfl, e⟩
theorem key_ll (a b : Int) : decide ((Sum.inl a : Key) = Sum.inl b) = (a == b) := by
 by_cases e : a = b
 ·subst e; simp
 ·have h : ¬ (Sum.inl a : Key) = Sum.inl b := fun q => e (Sum.inl.inj q)
  rw [decide_eq_false h]
  exact (beq_eq_false_iff_ne.mpr e).symm
theorem key_rr (a b : Str) : decide ((Sum.inr a : Key) = Sum.inr b) = decide (a = b) := by
 by_cases e : a = b
 ·subst e; simp
 ·have h : ¬ (Sum.inr a : Key) = Sum.inr b := fun q => e (Sum.inr.inj q)
  rw [decide_eq_false h, decide_eq_false e]
theorem key_lr (a : Int) (b : Str) : decide ((Sum.inl a : Key) = Sum.inr b) = false := decide_eq_false (fun q => nomatch q)
theorem key_rl (a : Str) (b : Int) : decide ((Sum.inr a : Key) = Sum.inl b) = false := decide_eq_false (fun q => nomatch q)
def mixKind (prog : Program) (w : World) : PySem.KeyKind prog w Key where
 is := keyIs
 hash := keyH w
 inj := fun v a b ha hb => by
  rcases keyIs_shape ha with ⟨i, t, rfl, rfl⟩ | ⟨x, t, rfl, rfl⟩
  ·rcases keyIs_shape hb with ⟨j, u, rfl, e⟩ | ⟨y, u, rfl, e⟩
   ·injection e with e1 _; rw [e1]
   ·exact nomatch e
  ·rcases keyIs_shape hb with ⟨j, u, rfl, e⟩ | ⟨y, u, rfl, e⟩
   ·exact nomatch e
   ·injection e with e1 _; rw [e1]
 byValue := fun k v h => by
  rcases keyIs_shape h with ⟨i, t, rfl, rfl⟩ | ⟨x, t, rfl, rfl⟩ <;> rfl
 pyHash := fun hv h => by
  rcases keyIs_shape hv with ⟨i, t, rfl, rfl⟩ | ⟨x, t, rfl, rfl⟩
  ·exact wpAny_pyHash_int h
  ·exact wpAny_pyHash_str h
 eqBool := fun hu hv h => by
  rcases keyIs_shape hu with ⟨i, t, rfl, rfl⟩ | ⟨x, t, rfl, rfl⟩
  ·rcases keyIs_shape hv with ⟨j, u, rfl, rfl⟩ | ⟨y, u, rfl, rfl⟩
   ·rw [key_ll] at h; exact wpAny_eqBool_int h
   ·rw [key_lr] at h; exact SeqAt.EqAt.int_str i t y u _ _ _ _ h
  ·rcases keyIs_shape hv with ⟨j, u, rfl, rfl⟩ | ⟨y, u, rfl, rfl⟩
   ·rw [key_rl] at h; exact SeqAt.EqAt.str_int x t j u _ _ _ _ h
   ·rw [key_rr] at h; exact wpAny_eqBool_str h
 «strs» := fun k x t v h => by
  rcases keyIs_shape h with ⟨i, u, rfl, e⟩ | ⟨y, u, rfl, e⟩
  ·exact nomatch e
  ·injection e with e1 _
   subst e1
   cases v <;> rfl
end L2
namespace L2
open PySem PySem.Spec PyProof.Rows
inductive V where
 | non | bl (b : Bool) | int (i : Int) | str (x : Str) | byt (b : Array UInt8) | flt (b : UInt64) | ref (a : Addr) | ty (n : String)
 deriving DecidableEq
def RelV : V → Value → Prop
 | .non, u => u = Value.none
 | .bl b, u => u = Value.bool b
 | .int i, u => ∃ t, u = Value.int i t
 | .str x, u => ∃ t, u = Value.str x t
 | .byt b, u => ∃ t, u = Value.bytes b t
 | .flt b, u => ∃ t, u = Value.float b t
 | .ref a, u => u = Value.ref a
 | .ty n, u => u = Value.type n
abbrev Vals : List V → List Value → Prop := Paired RelV
theorem Vals.length {xs : List V} {us : List Value} (r : Vals xs us) : xs.length = us.length := Paired.length r
theorem Vals.get : ∀ {xs : List V} {us : List Value} {i : Nat} {x : V}, Vals xs us → xs[i]? = some x → ∃ u, us[i]? = some u ∧ RelV x u
 | _, _, _, _, .nil, e => by simp at e
 | _, _, 0, _, .cons r _, e => by simp at e; subst e; exact ⟨_, rfl, r⟩
 | _, _, i + 1, x, .cons _ t, e => by
   obtain ⟨u, h1, h2⟩ := Vals.get (i := i) (x := x) t (by simpa using e)
   exact ⟨u, by simpa using h1, h2⟩
theorem Vals.append : ∀ {xs ys : List V} {us ws : List Value}, Vals xs us → Vals ys ws → Vals (xs ++ ys) (us ++ ws)
 | _, _, _, _, .nil, s => s
 | _, _, _, _, .cons r t, s => .cons r (Vals.append t s)
theorem Vals.take : ∀ {xs : List V} {us : List Value} (n : Nat), Vals xs us → Vals (xs.take n) (us.take n)
 | _, _, 0, _ => .nil
 | _, _, _ + 1, .nil => .nil
 | _, _, n + 1, .cons r t => .cons r (Vals.take n t)
theorem Vals.drop : ∀ {xs : List V} {us : List Value} (n : Nat), Vals xs us → Vals (xs.drop n) (us.drop n)
 | _, _, 0, r => r
 | _, _, _ + 1, .nil => .nil
 | _, _, n + 1, .cons _ t => Vals.drop n t
def RelO : Option V → Option Value → Prop
 | some v, some u => RelV v u
 | none, none => True
 | _, _ => False
def KV {κ : Type} : List (κ × V) → List (κ × Value) → Prop := Paired fun (p : κ × V) (q : κ × Value) => p.1 = q.1 ∧ RelV p.2 q.2
def kV : Key → V
 | .inl i => .int i
 | .inr x => .str x
inductive HO where
 | lst (xs : List V)
 | tup (xs : List V)
 | dK (kvs : List (Key × V)) | dT (kvs : List (List Key × V))
 | set (S : Int → Bool) (n : Nat)
 | ins (C dx : Addr) (fs : List (Str × V))
 | own (x : Addr)
 | xd (fs : List (Str × V))
 | met (f x : Addr)
 | rng (lo hi : Int)
 | frz (o : Obj) (u : HO)
 | tbl (ps : Array Value)
 | ext (φ : Heap → Prop)
abbrev Hp := Addr → Option HO
def upd (H : Hp) (a : Addr) (o : HO) : Hp := fun b => if b = a then some o else H b
theorem upd_same {H : Hp} {a : Addr} {o : HO} : upd H a o a = some o := by unfold upd; rw [if_pos rfl]
theorem upd_ne {H : Hp} {a b : Addr} {o : HO} (h : b ≠ a) : upd H a o b = H b := by unfold upd; rw [if_neg h]
theorem ne_of_none {H : Hp} {a b : Addr} {o : HO} (h : H a = some o) (h' : H b = none) : a ≠ b := by
 intro e; subst e; rw [h] at h'; cases h'
section
variable (P : Program) (w : World)
def ObjOk (H : Hp) (h : Heap) (a : Addr) : HO → Prop
 | .lst xs => xs.length ≤ sizeLine ∧ ∃ (its : List Value) (n : Nat), Vals xs its ∧ h.get? a = some { cls := .type "list", data := .seq its.toArray n }
 | .tup xs => xs.length ≤ sizeLine ∧ ∃ its : List Value, Vals xs its ∧ IsTup h a its.toArray
 | .dK kvs => kvs.length ≤ sizeLine ∧ (a == sysModules) = false ∧ ∃ vs, KV kvs vs ∧ h.DictOf (mixKind P w) a vs
 | .dT kvs => kvs.length ≤ sizeLine ∧ (a == sysModules) = false ∧ ∃ xs : List (List Key × Addr × Value),
  Paired (fun (p : List Key × V) (q : List Key × Addr × Value) => p.1 = q.1 ∧ H q.2.1 = some (.tup (p.1.map kV)) ∧ RelV p.2 q.2.2) kvs xs ∧
  ∃ o es ep, h.get? a = some o ∧ o.ExactDict ∧ o.data = .dict es ep ∧ es.toList = xs.map (entryOfKey (tupleKind (mixKind P w))) ∧ (xs.map (·.1)).Nodup
 | .set S n => h.SetOf (intKind P w) a S n
 | .ins C dx fs => H dx = some (.own a) ∧ fs.length ≤ 1000 ∧ dx ≠ a ∧ h.get? a = some (PySem.W.instObj C dx) ∧
  ∃ mA, h.Ns1 dx mA ∧ (∀ f, RelO (fs.lookup f) (mA f)) ∧ PySem.Within mA (fs.map (·.1))
 | .own _ => ∃ o, h.get? a = some o
 | .xd fs => ∃ mA, h.Ns1 a mA ∧ ∀ f, RelO (fs.lookup f) (mA f)
 | .rng lo hi => ∃ t u v, h.get? a = some { cls := .type "range", data := .fields #[.int lo t, .int hi u, .int 1 v] }
 | .frz o u => h.get? a = some o ∧ ObjOk H h a u
 | .tbl ps => h.get? a = some { cls := .none, data := .fields ps }
 | .met f x => h.get? a = some (PySem.W.methodObj (.ref f) (.ref x))
 | .ext φ => φ h ∧ (∃ o, h.get? a = some o) ∧ ∀ h1 h2 : Heap, φ h1 → (∀ o, h1.get? a = some o → h2.get? a = some o) → φ h2
def HOk (H : Hp) (h : Heap) : Prop := ∀ a o, H a = some o → ObjOk P w H h a o
end
section
variable {P : Program} {w : World} {H H' : Hp} {h h' : Heap} {a : Addr} {o : HO}
theorem ObjOk.lt (x : ObjOk P w H h a o) : a < h.objs.size := by
 cases o with
 | lst xs => obtain ⟨_, _, _, _, e⟩ := x; exact Heap.lt_size e
 | tup xs => obtain ⟨_, _, _, p⟩ := x; exact p.lt
 | dK kvs => obtain ⟨_, _, _, _, o, _, _, e, _⟩ := x; exact Heap.lt_size e
 | dT kvs => obtain ⟨_, _, _, _, o, _, _, e, _⟩ := x; exact Heap.lt_size e
 | set S n => obtain ⟨o, _, _, _, e, _⟩ := x; exact Heap.lt_size e
 | ins C dx fs => obtain ⟨_, _, _, e, _⟩ := x; exact Heap.lt_size e
 | own y => obtain ⟨_, e⟩ := x; exact Heap.lt_size e
 | xd fs => obtain ⟨_, ⟨_, _, _, e, _⟩, _⟩ := x; exact Heap.lt_size e
 | rng lo hi => obtain ⟨_, _, _, e⟩ := x; exact Heap.lt_size e
 | frz ob u => obtain ⟨e, _⟩ := x; exact Heap.lt_size e
 | tbl ps => exact Heap.lt_size (show h.get? a = some _ from x)
 | met f y => exact Heap.lt_size (show h.get? a = some _ from x)
 | ext φ => obtain ⟨_, ⟨_, e⟩, _⟩ := x; exact Heap.lt_size e
theorem Paired.mapP {α β : Type} {F G : α → β → Prop} : ∀ {l₁ : List α} {l₂ : List β}, Paired F l₁ l₂ → (∀ a b, F a b → G a b) → Paired G l₁ l₂
 | _, _, .nil, _ => .nil
 | _, _, .cons r t, f => .cons (f _ _ r) (Paired.mapP t f)
theorem ObjOk.stay (x : ObjOk P w H h a o) (k : ∀ b u, (b = a ∨ H b = some (.own a)) → h.get? b = some u → h'.get? b = some u)
 (ho : ∀ b, H b = some (.own a) → H' b = some (.own a)) (ht : ∀ b xs, H b = some (.tup xs) → H' b = some (.tup xs)) : ObjOk P w H' h' a o := by
 induction o with
 | lst xs => obtain ⟨z, its, n, r, e⟩ := x; exact ⟨z, its, n, r, k _ _ (.inl rfl) e⟩
 | tup xs => obtain ⟨z, its, r, ob, e, c⟩ := x; exact ⟨z, its, r, ob, k _ _ (.inl rfl) e, c⟩
 | dK kvs => obtain ⟨z, y, vs, r, ob, es, ep, e, c⟩ := x; exact ⟨z, y, vs, r, ob, es, ep, k _ _ (.inl rfl) e, c⟩
 | dT kvs =>
   obtain ⟨z, y, xs, r, ob, es, ep, e, c⟩ := x
   exact ⟨z, y, xs, Paired.mapP r fun p q z => ⟨z.1, ht _ _ z.2.1, z.2.2⟩, ob, es, ep, k _ _ (.inl rfl) e, c⟩
 | set S n => obtain ⟨ob, es, ep, t, e, c⟩ := x; exact ⟨ob, es, ep, t, k _ _ (.inl rfl) e, c⟩
 | ins C dx fs =>
   obtain ⟨d, z, ne, e, mA, ⟨od, es, ep, e2, c⟩, r⟩ := x
   exact ⟨ho _ d, z, ne, k _ _ (.inl rfl) e, mA, ⟨od, es, ep, k _ _ (.inr d) e2, c⟩, r⟩
 | own y => obtain ⟨ob, e⟩ := x; exact ⟨ob, k _ _ (.inl rfl) e⟩
 | xd fs => obtain ⟨mA, ⟨od, es, ep, e, c⟩, r⟩ := x; exact ⟨mA, ⟨od, es, ep, k _ _ (.inl rfl) e, c⟩, r⟩
 | rng lo hi => obtain ⟨t, u, v, e⟩ := x; exact ⟨t, u, v, k _ _ (.inl rfl) e⟩
 | frz ob u ih => obtain ⟨e, q⟩ := x; exact ⟨k _ _ (.inl rfl) e, ih q⟩
 | tbl ps =>
   have e : h.get? a = some { cls := .none, data := .fields ps } := x
   show h'.get? a = some { cls := .none, data := .fields ps }
   exact k a _ (.inl rfl) e
 | met f y =>
   have e : h.get? a = some (PySem.W.methodObj (.ref f) (.ref y)) := x
   show h'.get? a = some (PySem.W.methodObj (.ref f) (.ref y))
   exact k a _ (.inl rfl) e
 | ext φ => obtain ⟨p, ⟨o, e⟩, st⟩ := x; exact ⟨st _ _ p fun o q => k _ _ (.inl rfl) q, ⟨o, k _ _ (.inl rfl) e⟩, st⟩
theorem HOk.lt (x : HOk P w H h) (e : H a = some o) : a < h.objs.size := (x a o e).lt
theorem HOk.fresh (x : HOk P w H h) (e : h.objs.size ≤ a) : H a = none := by
 cases q : H a with
 | none => rfl
 | some u => exact absurd (Nat.lt_of_lt_of_le (x.lt q) e) (Nat.lt_irrefl _)
theorem HOk.kept (x : HOk P w H h) (k : ∀ b u, h.get? b = some u → h'.get? b = some u) : HOk P w H h' := fun a o e =>
 (x a o e).stay (fun b u _ q => k b u q) (fun _ q => q) fun _ _ q => q
theorem HOk.laid (x : HOk P w H h) (k : ∀ b u, h.get? b = some u → h'.get? b = some u) (hp : h.objs.size ≤ a) (new : ObjOk P w (upd H a o) h' a o) : HOk P w (upd H a o) h' := fun b u e => by
 have hn := x.fresh hp
 by_cases hb : b = a
 ·subst hb; rw [upd_same] at e; cases e; exact new
 ·rw [upd_ne hb] at e
  exact (x b u e).stay (fun c v _ q => k c v q) (fun c q => by rw [upd_ne (ne_of_none q hn)]; exact q) fun c xs q => by rw [upd_ne (ne_of_none q hn)]; exact q
end
def Rd (H : Hp) (a : Addr) (u : HO) : Prop := H a = some u ∨ ∃ o, H a = some (.frz o u)
theorem Rd.ok {P : Program} {w : World} {H : Hp} {h : Heap} {a : Addr} {u : HO} (r : Rd H a u) (x : HOk P w H h) : ObjOk P w H h a u := by
 rcases r with r | ⟨o, r⟩
 ·exact x a u r
 ·obtain ⟨_, q⟩ := x a _ r
  exact q
def Mut : Option HO → Prop
 | some (.lst _) => True
 | some (.dK _) => True
 | some (.dT _) => True
 | some (.set _ _) => True
 | some (.ins _ _ _) => True
 | some (.ext _) => True
 | _ => False
section
variable {P : Program} {w : World} {H : Hp} {h h' : Heap} {x e : Addr} {o' : HO}
theorem HOk.write (ok : HOk P w H h) (mu : Mut (H x)) (he : e = x ∨ H e = some (.own x)) (k : ∀ b u, b ≠ e → h.get? b = some u → h'.get? b = some u) (heo : ∃ u, h'.get? e = some u)
 (new : ObjOk P w (upd H x o') h' x o') : HOk P w (upd H x o') h' := fun b u q => by
 have nown : ∀ c y, H c = some (.own y) → c ≠ x := fun c y r z => by subst z; rw [r] at mu; exact mu
 have ntup : ∀ c xs, H c = some (.tup xs) → c ≠ x := fun c xs r z => by subst z; rw [r] at mu; exact mu
 by_cases hb : b = x
 ·subst hb; rw [upd_same] at q; cases q; exact new
 ·rw [upd_ne hb] at q
  by_cases hbe : b = e
  ·have q' : H b = some (.own x) := by
    rcases he with z | z
    ·exact absurd (hbe.trans z) hb
    ·rw [hbe]; exact z
   rw [q] at q'; cases q'
   obtain ⟨v, hv⟩ := heo
   exact ⟨v, by rw [hbe]; exact hv⟩
  ·refine (ok b u q).stay (fun c v hc r => k c v ?_ r) (fun c r => by rw [upd_ne (nown c b r)]; exact r) fun c xs r => by rw [upd_ne (ntup c xs r)]; exact r
   rcases hc with rfl | hc
   ·exact hbe
   ·rintro rfl
    rcases he with z | z
    ·exact nown c b hc z
    ·rw [hc] at z; cases z; exact hb rfl
end
structure Un (fs ex : List Addr) (H H' : Hp) (h h' : Heap) : Prop where
 keep : ∀ b o, h.get? b = some o → H b = none → b ∉ fs → b ∉ ex → h'.get? b = some o
 slot : ∀ b o, h.get? b = some o → H b = none → b ∈ fs → b ∉ ex → ∃ sl, h'.get? b = some { o with slots := sl }
 free : ∀ b o, h.get? b = some o → H b = none → b ∉ ex → H' b = none
 there : ∀ b o, h.get? b = some o → b ∉ ex → ∃ o', h'.get? b = some o'
 tups : ∀ b xs, H b = some (.tup xs) → H' b = some (.tup xs)
 frzs : ∀ b o u, H b = some (.frz o u) → H' b = some (.frz o u)
 tbls : ∀ b ps, H b = some (.tbl ps) → ∃ more, H' b = some (.tbl (ps ++ more))
section
variable {fs fs' ex ex' : List Addr} {H H1 H2 : Hp} {h h1 h2 h' : Heap} {a x e : Addr} {o : HO}
theorem Un.any (u : Un fs ex H H1 h h1) {b : Addr} {ob : Obj} (q : h.get? b = some ob) (n : H b = none) (hx : b ∉ ex) : ∃ sl, h1.get? b = some { ob with slots := sl } := by
 by_cases hb : b ∈ fs
 ·exact u.slot b ob q n hb hx
 ·exact ⟨ob.slots, u.keep b ob q n hb hx⟩
theorem Un.trans (a : Un fs ex H H1 h h1) (b : Un fs ex H1 H2 h1 h2) : Un fs ex H H2 h h2 where
 keep := fun c ob q n hc hx => b.keep c ob (a.keep c ob q n hc hx) (a.free c ob q n hx) hc hx
 slot := fun c ob q n hc hx => by
  obtain ⟨sl, e1⟩ := a.slot c ob q n hc hx
  obtain ⟨sl', e2⟩ := b.slot c _ e1 (a.free c ob q n hx) hc hx
  exact ⟨sl', e2⟩
 free := fun c ob q n hx => by
  obtain ⟨o', e1⟩ := a.there c ob q hx
  exact b.free c o' e1 (a.free c ob q n hx) hx
 there := fun c ob q hx => by
  obtain ⟨o', e1⟩ := a.there c ob q hx
  exact b.there c o' e1 hx
 tups := fun c xs q => b.tups c xs (a.tups c xs q)
 frzs := fun c ob xs q => b.frzs c ob xs (a.frzs c ob xs q)
 tbls := fun c ps q => by
  obtain ⟨m1, e1⟩ := a.tbls c ps q
  obtain ⟨m2, e2⟩ := b.tbls c _ e1
  exact ⟨m1 ++ m2, by rw [e2, Array.append_assoc]⟩
theorem Un.kept (k : ∀ b u, h.get? b = some u → h'.get? b = some u) : Un fs ex H H h h' :=
 ⟨fun b ob q _ _ _ => k b ob q, fun b ob q _ _ _ => ⟨ob.slots, k b ob q⟩, fun _ _ _ n _ => n, fun b ob q _ => ⟨ob, k b ob q⟩, fun _ _ q => q, fun _ _ _ q => q, fun _ ps q => ⟨#[], by rw [q]; simp⟩⟩
theorem Un.refl : Un fs ex H H h h := Un.kept fun _ _ q => q
theorem Un.laid (k : ∀ b u, h.get? b = some u → h'.get? b = some u) (hp : h.objs.size ≤ a) (hn : H a = none) : Un fs ex H (upd H a o) h h' where
 keep := fun b u q _ _ _ => k b u q
 slot := fun b u q _ _ _ => ⟨u.slots, k b u q⟩
 free := fun b u q n _ => by rw [upd_ne (Nat.ne_of_lt (Nat.lt_of_lt_of_le (Heap.lt_size q) hp))]; exact n
 there := fun b u q _ => ⟨u, k b u q⟩
 tups := fun b xs q => by rw [upd_ne (ne_of_none q hn)]; exact q
 frzs := fun b u xs q => by rw [upd_ne (ne_of_none q hn)]; exact q
 tbls := fun b ps q => ⟨#[], by rw [upd_ne (ne_of_none q hn), q]; simp⟩
theorem Un.write (mu : Mut (H x)) (he : e = x ∨ H e = some (.own x)) (k : ∀ b u, b ≠ e → h.get? b = some u → h'.get? b = some u) (heo : ∃ u, h'.get? e = some u) : Un fs ex H (upd H x o) h h' := by
 have hx : ∀ b, H b = none → b ≠ x := fun b n z => by subst z; rw [n] at mu; exact mu
 have hb : ∀ b, H b = none → b ≠ e := fun b n z => by
  subst z
  rcases he with r | r
  ·exact hx b n r
  ·rw [n] at r; cases r
 have hm : ∀ b u, H b = some u → ¬ Mut (some u) → b ≠ x := fun b u q nm z => by subst z; rw [q] at mu; exact nm mu
 refine ⟨fun b u q n _ _ => k b u (hb b n) q, fun b u q n _ _ => ⟨u.slots, k b u (hb b n) q⟩, fun b u q n _ => by rw [upd_ne (hx b n)]; exact n, fun b u q _ => ?_,
  fun b xs q => by rw [upd_ne (hm b _ q fun z => z)]; exact q, fun b u xs q => by rw [upd_ne (hm b _ q fun z => z)]; exact q, fun b ps q => ⟨#[], by rw [upd_ne (hm b _ q fun z => z), q]; simp⟩⟩
 by_cases hbe : b = e
 ·subst hbe; exact heo
 ·exact ⟨u, k b u hbe q⟩
end
def trk (h : Heap) (H : Hp) : List Addr := (List.range h.objs.size).filter fun a => (H a).isSome
def hidT (h : Heap) (H : Hp) : Heap := PySem.W.hideAll h (trk h H)
theorem hidT_size (h : Heap) (H : Hp) : (hidT h H).objs.size = h.objs.size := PySem.W.hideAll_size _ _
theorem hidT_get {h : Heap} {H : Hp} {b : Addr} {o : Obj} (e : h.get? b = some o) (n : H b = none) : (hidT h H).get? b = some o :=
 PySem.W.hideAll_get _ e fun hm => by
  have q : (H b).isSome = true := (List.mem_filter.mp hm).2
  rw [n] at q; simp at q
theorem of_hidT {h : Heap} {H : Hp} {b : Addr} {o : Obj} (e : (hidT h H).get? b = some o) : h.get? b = some o ∧ H b = none := by
 have e' : h.get? b = some o := PySem.W.of_hideAll (trk h H) e
 refine ⟨e', ?_⟩
 cases q : H b with
 | none => rfl
 | some x =>
   have hm : b ∈ trk h H := List.mem_filter.mpr ⟨List.mem_range.mpr (Heap.lt_size e'), by simp [q]⟩
   have z : (hidT h H).get? b = none := PySem.W.hideAll_none (trk h H) hm
   rw [z] at e; cases e
def allNews (g h : Heap) (L : Addr) : List (Addr × Obj) := (List.range h.objs.size).filterMap fun a => if a = L ∨ (g.get? a).isSome = true then none else (h.get? a).map fun o => (a, o)
def rest (g h : Heap) (L d : Addr) : List (Addr × Obj) := (allNews g h L).filter fun p => decide (p.1 ≠ d)
end L2
namespace L2
open PySem PySem.Spec PyProof.Rows
structure Mod (K : PySem.W.Frag) (mg : Str → Option Value) (base : Heap) : Prop where
 kin : K.In base
 glob : base.Ns mainGlobals mg
 blt : ∃ mb, base.Ns builtinsNs mb ∧ ∀ x : Str, x ≠ "__name__" → mb x = bootBuiltins x
 nolimit : base.NoLimit
structure Cx where
 prog : Program
 w : World
 K : PySem.W.Frag
 mg : Str → Option Value
 base : Heap
 A : Around
 N : List Str
 s₀ : Shared
 H₀ : Hp
 env : Env
 outer : List Env
 stack : List Env
 ex : List Addr
 fn : Str → Bool
 calm : Bool
 pn : List (Addr × Obj)
 xe : Value → Shared → Prop
def frs (l : List Env) : List Addr := l.filterMap (·.frame)
abbrev Cx.fs (X : Cx) : List Addr := frs X.outer
def Vis (sc : Scope) (x : Str) : Prop := sc.names.lookup x = some .local ∨ sc.names.lookup x = some .cell ∨ sc.names.lookup x = some .free
def Loc (sc : Scope) (x : Str) : Prop := sc.names.lookup x = some .local ∨ sc.names.lookup x = some .cell
def Look (env : Env) (h : Heap) (m : Str → Option Value) (x : Str) (u : Value) : Prop :=
 (env.kindOf x = some .local ∧ m x = some u) ∨ ((env.kindOf x = some .cell ∨ env.kindOf x = some .free) ∧ ∃ c, env.cells.lookup x = some c ∧ h.IsCell c (some u))
structure Cx.Ok (X : Cx) : Prop where
 mod : Mod X.K X.mg X.base
 kind : X.env.scope.kind = .function
 glob : X.env.globals = mainGlobals
 blt : X.env.builtins = builtinsNs
 above : X.s₀.heap.objs.size ≤ X.env.locals
 inj : ∀ x y c, X.env.cells.lookup x = some c → X.env.cells.lookup y = some c → x = y
 has : ∀ x, (X.env.kindOf x = some .cell ∨ X.env.kindOf x = some .free) → ∃ c, X.env.cells.lookup x = some c
 cab : ∀ x c, X.fn x = true → X.env.cells.lookup x = some c → X.s₀.heap.objs.size ≤ c
 hd : X.calm = true → X.A.handled = none
 frames : X.A.frames = some X.stack
 stk : X.stack = X.outer ∨ (X.stack = X.env :: X.outer ∧ X.env.frame = some X.env.locals)
 exf : ∀ b ∈ X.ex, b ≠ X.env.locals ∧ ∀ x c, X.env.cells.lookup x = some c → c ≠ b
 bs : ∀ b o, X.base.get? b = some o → X.s₀.heap.get? b = some o ∧ X.H₀ b = none
 bsz : X.base.objs.size ≤ X.s₀.heap.objs.size
 noex : ∀ b o, X.base.get? b = some o → b ∉ X.ex
 exfs : ∀ b ∈ X.ex, b ∉ X.fs
 funs : X.s₀.heap.FunFrames X.base X.outer
 frf : ∀ b ∈ X.fs, X.H₀ b = none
structure Inv (X : Cx) (pins : List (Addr × Obj)) (σ : List (Option V)) (H : Hp) (s : Shared) : Prop where
 ok : X.Ok
 os : s.os = X.s₀.os
 bare : AllBare s.gens
 base : Un X.fs X.ex X.H₀ H X.s₀.heap s.heap
 loc : ∃ m, s.heap.Ns X.env.locals m ∧ ∀ (i : Nat) (x : Str) (v : V), X.N[i]? = some x → σ[i]? = some (some v) → Vis X.env.scope x → ∃ u, RelV v u ∧ Look X.env s.heap m x u
 cell : ∀ x c, X.env.cells.lookup x = some c → ∃ v, s.heap.IsCell c v
 free : H X.env.locals = none
 freeC : ∀ x c, X.env.cells.lookup x = some c → H c = none
 pin : ∀ p ∈ X.pn ++ pins, s.heap.get? p.1 = some p.2 ∧ H p.1 = none ∧ p.1 ≠ X.env.locals ∧ p.1 ∉ X.fs ∧ ∀ v, p.2.data ≠ .cell v
 hok : HOk X.prog X.w H s.heap
 len : σ.length = X.N.length
section
variable {X : Cx} {pins : List (Addr × Obj)} {σ : List (Option V)} {H H' : Hp} {s : Shared} {h' : Heap}
theorem Cx.Ok.nofr (ok : X.Ok) {b : Addr} {o : Obj} (e : X.base.get? b = some o) : b ∉ X.fs := fun hb => by
 have := (ok.funs.mem hb).1
 rw [e] at this; cases this
theorem Inv.bs (I : Inv X pins σ H s) : ∀ b o, X.base.get? b = some o → s.heap.get? b = some o ∧ H b = none := fun b o e =>
 ⟨I.base.keep b o (I.ok.bs b o e).1 (I.ok.bs b o e).2 (I.ok.nofr e) (I.ok.noex b o e), I.base.free b o (I.ok.bs b o e).1 (I.ok.bs b o e).2 (I.ok.noex b o e)⟩
theorem Inv.bk (I : Inv X pins σ H s) : ∀ b o, X.base.get? b = some o → s.heap.get? b = some o := fun b o e => (I.bs b o e).1
theorem Inv.mod (I : Inv X pins σ H s) : Mod X.K X.mg X.base := I.ok.mod
theorem Inv.kIn (I : Inv X pins σ H s) : X.K.In s.heap := I.ok.mod.kin.keeps I.bk
theorem Inv.fr (I : Inv X pins σ H s) : ∃ m, Fr X.base X.env.locals s.heap m :=
 let ⟨m, hn, _⟩ := I.loc
 ⟨m, hn, I.bk, Nat.le_trans I.ok.bsz I.ok.above⟩
theorem Inv.lt (I : Inv X pins σ H s) : X.env.locals < s.heap.objs.size := let ⟨_, hn, _⟩ := I.loc; hn.lt
theorem Inv.sz (I : Inv X pins σ H s) : X.s₀.heap.objs.size ≤ s.heap.objs.size := Nat.le_trans I.ok.above (Nat.le_of_lt I.lt)
theorem Inv.nofs (I : Inv X pins σ H s) {a : Addr} (h : s.heap.objs.size ≤ a) : a ∉ X.fs := fun hb => by
 obtain ⟨_, o, ho, _⟩ := I.ok.funs.mem hb
 exact absurd (Nat.lt_of_lt_of_le (Heap.lt_size ho) (Nat.le_trans I.sz h)) (Nat.lt_irrefl _)
theorem Inv.cne (I : Inv X pins σ H s) : ∀ x c, X.env.cells.lookup x = some c → c ≠ X.env.locals := fun x c e z => by
 obtain ⟨v, o, ho, hd⟩ := I.cell x c e
 obtain ⟨m, ⟨o', es, ep, ho', hd', _⟩, _⟩ := I.loc
 rw [z, ho'] at ho; cases ho; rw [hd'] at hd; cases hd
theorem Inv.funs (I : Inv X pins σ H s) : s.heap.FunFrames X.base X.outer := by
 have all : ∀ (l : List Env), (∀ b ∈ frs l, b ∈ X.fs) → X.s₀.heap.FunFrames X.base l → s.heap.FunFrames X.base l := by
  intro l
  induction l with
  | nil => intro _ _; trivial
  | cons env r ih =>
    intro hs hl
    obtain ⟨hk, ⟨L, o, hf, hn, ho, hd⟩, hr⟩ := hl
    have hL : L ∈ X.fs := hs L (by unfold frs; rw [List.filterMap_cons, hf]; exact List.mem_cons_self)
    obtain ⟨sl, e⟩ := I.base.slot L o ho (I.ok.frf L hL) hL fun z => I.ok.exfs L z hL
    exact ⟨hk, ⟨L, _, hf, hn, e, hd⟩, ih (fun b hb => hs b (by unfold frs; rw [List.filterMap_cons, hf]; exact List.mem_cons_of_mem _ hb)) hr⟩
 exact all X.outer (fun _ hb => hb) I.ok.funs
theorem Inv.stack (I : Inv X pins σ H s) : s.heap.FunFrames X.base X.stack := by
 rcases I.ok.stk with e | ⟨e, hf⟩
 ·rw [e]; exact I.funs
 ·rw [e]
  obtain ⟨m, hn, _⟩ := I.loc
  refine .cons (by rw [I.ok.kind]; decide) hf hn ?_ I.funs
  exact Heap.get?_none_of_le (Nat.le_trans I.ok.bsz I.ok.above)
theorem Inv.stkSub (I : Inv X pins σ H s) : ∀ b ∈ frs X.stack, b ∈ X.env.locals :: X.fs := fun b hb => by
 rcases I.ok.stk with e | ⟨e, hf⟩
 ·rw [e] at hb; exact List.mem_cons_of_mem _ hb
 ·rw [e] at hb
  unfold frs at hb
  rw [List.filterMap_cons, hf] at hb
  exact hb
theorem Inv.stkFree (I : Inv X pins σ H s) : ∀ b ∈ frs X.stack, H b = none := fun b hb => by
 rcases List.mem_cons.mp (I.stkSub b hb) with e | hb
 ·rw [e]; exact I.free
 ·obtain ⟨_, o, ho, _⟩ := I.ok.funs.mem hb
  exact I.base.free b o ho (I.ok.frf b hb) fun z => I.ok.exfs b z hb
theorem Inv.step {g' : Array GenState} {t' : Nat} {d' : Drawn} {ch : List Addr} (I : Inv X pins σ H s)
 (hch : ∀ b ∈ ch, (b ∈ X.ex ∨ X.s₀.heap.objs.size ≤ b) ∧ b ≠ X.env.locals ∧ (∀ x c, X.env.cells.lookup x = some c → c ≠ b) ∧ ∀ p ∈ X.pn ++ pins, p.1 ≠ b)
 (keep : ∀ b o, b ≠ X.env.locals → b ∉ X.fs → b ∉ ch → s.heap.get? b = some o → H b = none → h'.get? b = some o)
 (slot : ∀ b o, b ≠ X.env.locals → b ∈ X.fs → b ∉ ch → s.heap.get? b = some o → H b = none → ∃ sl, h'.get? b = some { o with slots := sl }) (free : ∀ b o, b ∉ ch → s.heap.get? b = some o → H b = none → H' b = none)
 (there : ∀ b o, b ∉ ch → s.heap.get? b = some o → ∃ o', h'.get? b = some o')
 (tups : ∀ b xs, H b = some (.tup xs) → H' b = some (.tup xs)) (frzs : ∀ b o u, H b = some (.frz o u) → H' b = some (.frz o u)) (tbls : ∀ b ps, H b = some (.tbl ps) → ∃ more, H' b = some (.tbl (ps ++ more)))
 (ns : ∀ m, s.heap.Ns X.env.locals m → h'.Ns X.env.locals m) (hok : HOk X.prog X.w H' h') (hg : AllBare g') :
 Inv X pins σ H' { s with heap := h', gens := g', drawn := d', toks := t' } := by
 have neL : ∀ b o, X.s₀.heap.get? b = some o → b ≠ X.env.locals := fun b o e => Nat.ne_of_lt (Nat.lt_of_lt_of_le (Heap.lt_size e) I.ok.above)
 have neC : ∀ b o, X.s₀.heap.get? b = some o → b ∉ X.ex → b ∉ ch := fun b o e hx hb => by
  rcases (hch b hb).1 with z | z
  ·exact hx z
  ·exact absurd (Nat.lt_of_lt_of_le (Heap.lt_size e) z) (Nat.lt_irrefl _)
 have cellK : ∀ x c, X.env.cells.lookup x = some c → ∀ v, s.heap.IsCell c v → h'.IsCell c v := fun x c e v ⟨o, ho, hd⟩ => by
  have nch : c ∉ ch := fun z => (hch c z).2.2.1 x c e rfl
  by_cases hc : c ∈ X.fs
  ·obtain ⟨sl, q⟩ := slot c o (I.cne x c e) hc nch ho (I.freeC x c e)
   exact ⟨_, q, hd⟩
  ·exact ⟨o, keep c o (I.cne x c e) hc nch ho (I.freeC x c e), hd⟩
 refine ⟨I.ok, I.os, hg, ⟨fun b o e n hb hx => ?_, fun b o e n hb hx => ?_, fun b o e n hx => ?_, fun b o e hx => ?_, fun b xs e => tups b xs (I.base.tups b xs e), fun b o xs e => frzs b o xs (I.base.frzs b o xs e), fun b ps e => ?_⟩, ?_, fun x c e => ?_, ?_, fun x c e => ?_, fun p hp => ?_, hok, I.len⟩
 ·exact keep b o (neL b o e) hb (neC b o e hx) (I.base.keep b o e n hb hx) (I.base.free b o e n hx)
 ·obtain ⟨sl, e1⟩ := I.base.slot b o e n hb hx
  obtain ⟨sl', e2⟩ := slot b _ (neL b o e) hb (neC b o e hx) e1 (I.base.free b o e n hx)
  exact ⟨sl', e2⟩
 ·obtain ⟨o', e1⟩ := I.base.there b o e hx
  exact free b o' (neC b o e hx) e1 (I.base.free b o e n hx)
 ·obtain ⟨o', e1⟩ := I.base.there b o e hx
  exact there b o' (neC b o e hx) e1
 ·obtain ⟨m1, e1⟩ := I.base.tbls b ps e
  obtain ⟨m2, e2⟩ := tbls b _ e1
  exact ⟨m1 ++ m2, by rw [e2, Array.append_assoc]⟩
 ·obtain ⟨m, hn, hl⟩ := I.loc
  refine ⟨m, ns m hn, fun i x v e1 e2 e3 => ?_⟩
  obtain ⟨u, r, l⟩ := hl i x v e1 e2 e3
  refine ⟨u, r, ?_⟩
  rcases l with l | ⟨k, c, e, z⟩
  ·exact .inl l
  ·exact .inr ⟨k, c, e, cellK x c e _ z⟩
 ·obtain ⟨v, z⟩ := I.cell x c e
  exact ⟨v, cellK x c e v z⟩
 ·obtain ⟨m, ⟨o, _, _, ho, _⟩, _⟩ := I.loc
  exact free _ o (fun z => (hch _ z).2.1 rfl) ho I.free
 ·obtain ⟨v, o, ho, hd⟩ := I.cell x c e
  exact free c o (fun z => (hch c z).2.2.1 x c e rfl) ho (I.freeC x c e)
 ·obtain ⟨e, n, ne, nf, d⟩ := I.pin p hp
  have nch : p.1 ∉ ch := fun z => (hch p.1 z).2.2.2 p hp rfl
  exact ⟨keep p.1 p.2 ne nf nch e n, free p.1 p.2 nch e n, ne, nf, d⟩
theorem Inv.un {t' : Nat} (I : Inv X pins σ H s) (u : Un X.fs [] H H' s.heap h') (hok : HOk X.prog X.w H' h') : Inv X pins σ H' { s with heap := h', toks := t' } := by
 obtain ⟨m, ⟨o, es, ep, ho, r⟩, _⟩ := id I.loc
 obtain ⟨sl, hL⟩ := u.any ho I.free (by simp)
 exact I.step (g' := s.gens) (d' := s.drawn) (ch := []) (fun _ z => nomatch z) (fun b o _ hb _ e n => u.keep b o e n hb (by simp)) (fun b o _ hb _ e n => u.slot b o e n hb (by simp)) (fun b o _ e n => u.free b o e n (by simp)) (fun b o _ e => u.there b o e (by simp)) u.tups u.frzs u.tbls (fun m' hm => by
  obtain ⟨o', es', ep', ho', r'⟩ := hm
  rw [ho] at ho'; cases ho'
  exact ⟨_, es', ep', hL, r'⟩) hok I.bare
theorem Inv.call {g' : Array GenState} {t' : Nat} {d' : Drawn} {ch : List Addr} (I : Inv X pins σ H s) (u : Un (frs X.stack) ch H H' s.heap h') (hok : HOk X.prog X.w H' h') (hg : AllBare g')
 (hch : ∀ b ∈ ch, (b ∈ X.ex ∨ X.s₀.heap.objs.size ≤ b) ∧ b ≠ X.env.locals ∧ (∀ x c, X.env.cells.lookup x = some c → c ≠ b) ∧ ∀ p ∈ X.pn ++ pins, p.1 ≠ b) :
 Inv X pins σ H' { s with heap := h', gens := g', drawn := d', toks := t' } := by
 obtain ⟨m, ⟨o, es, ep, ho, r⟩, _⟩ := id I.loc
 obtain ⟨sl, hL⟩ := u.any ho I.free fun z => (hch _ z).2.1 rfl
 exact I.step (ch := ch) hch (fun b o hL hb hc e n => u.keep b o e n (fun z => (List.mem_cons.mp (I.stkSub b z)).elim hL hb) hc) (fun b o _ _ hc e n => u.any e n hc) (fun b o hc e n => u.free b o e n hc) (fun b o hc e => u.there b o e hc) u.tups u.frzs u.tbls (fun m' hm => by
  obtain ⟨o', es', ep', ho', r'⟩ := hm
  rw [ho] at ho'; cases ho'
  exact ⟨_, es', ep', hL, r'⟩) hok hg
theorem Inv.turned {t' : Nat} {it : Addr} (I : Inv X pins σ H s) (k : ∀ b o, b ≠ it → s.heap.get? b = some o → h'.get? b = some o) (hn : H it = none) (hL : it ≠ X.env.locals)
 (h1 : it ∈ X.ex ∨ X.s₀.heap.objs.size ≤ it) (h2 : ∀ x c, X.env.cells.lookup x = some c → c ≠ it) (h3 : ∀ p ∈ X.pn ++ pins, p.1 ≠ it) : Inv X pins σ H { s with heap := h', toks := t' } := by
 have nit : ∀ b u, H b = some u → b ≠ it := fun b u e z => by rw [z, hn] at e; cases e
 refine I.step (g' := s.gens) (d' := s.drawn) (ch := [it]) (fun b hb => ?_) (fun b o _ _ hc e _ => k b o (fun z => hc (by simp [z])) e) (fun b o _ _ hc e _ => ⟨o.slots, k b o (fun z => hc (by simp [z])) e⟩) (fun _ _ _ _ n => n)
  (fun b o hc e => ⟨o, k b o (fun z => hc (by simp [z])) e⟩) (fun _ _ e => e) (fun _ _ _ e => e) (fun b ps e => ⟨#[], by rw [e]; simp⟩) (fun m hm => ?_) (fun b u e => ?_) I.bare
 ·have e : b = it := by simpa using hb
  subst e
  exact ⟨h1, hL, h2, h3⟩
 ·obtain ⟨o, es, ep, ho, r⟩ := hm
  exact ⟨o, es, ep, k _ o (Ne.symm hL) ho, r⟩
 ·refine (I.hok b u e).stay (fun c v hc q => k c v ?_ q) (fun _ q => q) fun _ _ q => q
  rcases hc with z | z
  ·rw [z]; exact nit b u e
  ·exact nit c _ z
theorem Inv.tok (I : Inv X pins σ H s) (t : Nat) : Inv X pins σ H { s with toks := t } := I.un (h' := s.heap) (t' := t) Un.refl I.hok
theorem Inv.kept {t' : Nat} (I : Inv X pins σ H s) (k : ∀ b u, s.heap.get? b = some u → h'.get? b = some u) : Inv X pins σ H { s with heap := h', toks := t' } := I.un (Un.kept k) (I.hok.kept k)
theorem Inv.laid {a : Addr} {o : HO} {t' : Nat} (I : Inv X pins σ H s) (k : ∀ b u, s.heap.get? b = some u → h'.get? b = some u) (hp : s.heap.objs.size ≤ a) (new : ObjOk X.prog X.w (upd H a o) h' a o) :
 Inv X pins σ (upd H a o) { s with heap := h', toks := t' } := I.un (Un.laid k hp (I.hok.fresh hp)) (I.hok.laid k hp new)
theorem Inv.write {x e : Addr} {o : HO} {t' : Nat} (I : Inv X pins σ H s) (mu : Mut (H x)) (he : e = x ∨ H e = some (.own x)) (k : ∀ b u, b ≠ e → s.heap.get? b = some u → h'.get? b = some u) (heo : ∃ u, h'.get? e = some u)
 (new : ObjOk X.prog X.w (upd H x o) h' x o) : Inv X pins σ (upd H x o) { s with heap := h', toks := t' } := I.un (Un.write mu he k heo) (I.hok.write mu he k heo new)
theorem Inv.weak {σ' : List (Option V)} (I : Inv X pins σ H s) (hl : σ'.length = σ.length) (w : ∀ (i : Nat) v, σ'[i]? = some (some v) → σ[i]? = some (some v)) : Inv X pins σ' H s :=
 ⟨I.ok, I.os, I.bare, I.base, let ⟨m, hn, hl'⟩ := I.loc; ⟨m, hn, fun i x v e1 e2 e3 => hl' i x v e1 (w i v e2) e3⟩, I.cell, I.free, I.freeC, I.pin, I.hok, hl.trans I.len⟩
theorem Inv.pins_of {pins' : List (Addr × Obj)} (I : Inv X pins σ H s) (h : ∀ p ∈ pins', s.heap.get? p.1 = some p.2 ∧ H p.1 = none ∧ p.1 ≠ X.env.locals ∧ p.1 ∉ X.fs ∧ ∀ v, p.2.data ≠ .cell v) : Inv X pins' σ H s :=
 ⟨I.ok, I.os, I.bare, I.base, I.loc, I.cell, I.free, I.freeC, fun p hp => (List.mem_append.mp hp).elim (fun z => I.pin p (List.mem_append_left _ z)) (h p), I.hok, I.len⟩
theorem nodup_ix {N : List Str} (hN : N.Nodup) {i j : Nat} {x : Str} (a : N[i]? = some x) (b : N[j]? = some x) : i = j := by
 obtain ⟨h1, e1⟩ := List.getElem?_eq_some_iff.mp a
 obtain ⟨h2, e2⟩ := List.getElem?_eq_some_iff.mp b
 exact (List.getElem_inj hN).mp (e1.trans e2.symm)
theorem store_ok2 {M : Model} {A : Around} {E : Value → Shared → Prop} {i : Nat} {x : Str} {v : V} {u : Value} {Q : Unit → Shared → Prop} (I : Inv X pins σ H s) (hN : X.N.Nodup) (hi : X.N[i]? = some x) (hx : Loc X.env.scope x) (r : RelV v u)
 (h : ∀ s', Inv X pins (σ.set i (some v)) H s' → (∃ a, Heap.SameBut a s.heap s'.heap ∧ (a = X.env.locals ∨ X.env.cells.lookup x = some a)) → Q () s') (hf : X.fn x = true ∨ X.env.scope.names.lookup x = some .local := by first | exact .inl rfl | exact .inr rfl | assumption) : wpAny M A (storeName X.env x u) Q E s := by
 obtain ⟨m, hn, hl⟩ := id I.loc
 have hcls : (X.env.scope.kind == .class || (X.env.scope.kind == .module && X.env.locals != X.env.globals)) = false := by rw [I.ok.kind]; rfl
 have hiσ : i < σ.length := by rw [I.len]; exact (List.getElem?_eq_some_iff.mp hi).1
 have cne := I.cne
 have tracked : ∀ {a : Addr} {h' : Heap}, (∃ o, s.heap.get? a = some o ∧ H a = none) → Heap.SameBut a s.heap h' → HOk X.prog X.w H h' := fun {a h'} ha hs b ob e => by
  obtain ⟨_, _, hfree⟩ := ha
  refine (I.hok b ob e).stay (fun c w' hc q => (hs.2 c ?_).trans q) (fun _ q => q) fun _ _ q => q
  rintro rfl
  rcases hc with rfl | hc
  ·rw [hfree] at e; cases e
  ·rw [hfree] at hc; cases hc
 rcases hx with hk | hk
 ·refine wpAny_storeName_local hk hn (fun h' hn' hs => ?_) hcls
  obtain ⟨oL, _, _, hoL, _⟩ := id hn
  refine h _ ⟨I.ok, I.os, I.bare, ⟨fun b o e n hb hx => ?_, fun b o e n hb hx => ?_, I.base.free, fun b o e hx => ?_, I.base.tups, I.base.frzs, I.base.tbls⟩, ⟨_, hn', fun j y v' e1 e2 e3 => ?_⟩, fun y c e => ?_, I.free, I.freeC, fun p hp => ?_, tracked ⟨oL, hoL, I.free⟩ hs, by simpa using I.len⟩ ⟨_, hs, .inl rfl⟩
  ·exact (hs.2 b (Nat.ne_of_lt (Nat.lt_of_lt_of_le (Heap.lt_size e) I.ok.above))).trans (I.base.keep b o e n hb hx)
  ·obtain ⟨sl, e1⟩ := I.base.slot b o e n hb hx
   exact ⟨sl, (hs.2 b (Nat.ne_of_lt (Nat.lt_of_lt_of_le (Heap.lt_size e) I.ok.above))).trans e1⟩
  ·obtain ⟨o', e1⟩ := I.base.there b o e hx
   exact ⟨o', (hs.2 b (Nat.ne_of_lt (Nat.lt_of_lt_of_le (Heap.lt_size e) I.ok.above))).trans e1⟩
  ·by_cases hj : j = i
   ·subst hj
    rw [hi] at e1; cases e1
    rw [List.getElem?_set_self hiσ] at e2
    cases e2
    exact ⟨u, r, .inl ⟨hk, by simp⟩⟩
   ·rw [List.getElem?_set_ne (Ne.symm hj)] at e2
    obtain ⟨u', r', q⟩ := hl j y v' e1 e2 e3
    refine ⟨u', r', ?_⟩
    rcases q with ⟨k, e⟩ | ⟨k, c, e, z⟩
    ·refine .inl ⟨k, ?_⟩
     have : y ≠ x := fun e => hj (nodup_ix hN e1 (e ▸ hi))
     simp [this, e]
    ·exact .inr ⟨k, c, e, z.sameBut hs (cne y c e)⟩
  ·obtain ⟨w', z⟩ := I.cell y c e
   exact ⟨w', z.sameBut hs (cne y c e)⟩
  ·obtain ⟨e, n, ne, nf, d⟩ := I.pin p hp
   exact ⟨(hs.2 p.1 ne).trans e, n, ne, nf, d⟩
 ·have hfn : X.fn x = true := by
   rcases hf with z | z
   ·exact z
   ·rw [z] at hk; cases hk
  obtain ⟨c, hc⟩ := I.ok.has x (.inl hk)
  obtain ⟨w', z⟩ := I.cell x c hc
  refine wpAny_storeName_cell I.ok.kind hk hc z (fun h' hc' hs => ?_)
  obtain ⟨oc, hoc, hocd⟩ := id z
  refine h { s with heap := h' } ⟨I.ok, I.os, I.bare, ⟨fun b o e n hb hx => ?_, fun b o e n hb hx => ?_, I.base.free, fun b o e hx => ?_, I.base.tups, I.base.frzs, I.base.tbls⟩, ⟨m, hn.sameBut hs (Ne.symm (cne x c hc)), fun j y v' e1 e2 e3 => ?_⟩, fun y c' e => ?_, I.free, I.freeC, fun p hp => ?_, tracked ⟨oc, hoc, I.freeC x c hc⟩ hs, by simpa using I.len⟩ ⟨c, hs, .inr hc⟩
  ·exact (hs.2 b (Nat.ne_of_lt (Nat.lt_of_lt_of_le (Heap.lt_size e) (I.ok.cab x c hfn hc)))).trans (I.base.keep b o e n hb hx)
  ·obtain ⟨sl, e1⟩ := I.base.slot b o e n hb hx
   exact ⟨sl, (hs.2 b (Nat.ne_of_lt (Nat.lt_of_lt_of_le (Heap.lt_size e) (I.ok.cab x c hfn hc)))).trans e1⟩
  ·obtain ⟨o', e1⟩ := I.base.there b o e hx
   exact ⟨o', (hs.2 b (Nat.ne_of_lt (Nat.lt_of_lt_of_le (Heap.lt_size e) (I.ok.cab x c hfn hc)))).trans e1⟩
  ·by_cases hj : j = i
   ·subst hj
    rw [hi] at e1; cases e1
    rw [List.getElem?_set_self hiσ] at e2
    cases e2
    exact ⟨u, r, .inr ⟨.inl hk, c, hc, hc'⟩⟩
   ·rw [List.getElem?_set_ne (Ne.symm hj)] at e2
    obtain ⟨u', r', q⟩ := hl j y v' e1 e2 e3
    refine ⟨u', r', ?_⟩
    rcases q with q | ⟨k, c', e, z'⟩
    ·exact .inl q
    ·refine .inr ⟨k, c', e, z'.sameBut hs ?_⟩
     rintro rfl
     exact hj (nodup_ix hN e1 (I.ok.inj _ _ _ e hc ▸ hi))
  ·by_cases hcc : c' = c
   ·subst hcc; exact ⟨_, hc'⟩
   ·obtain ⟨w2, z2⟩ := I.cell y c' e
    exact ⟨w2, z2.sameBut hs hcc⟩
  ·obtain ⟨e, n, ne, nf, d⟩ := I.pin p hp
   refine ⟨(hs.2 p.1 ?_).trans e, n, ne, nf, d⟩
   intro q
   rw [q, hoc] at e
   have q' : oc = p.2 := Option.some.inj e
   exact d w' (by rw [← q']; exact hocd)
theorem store_ok {M : Model} {A : Around} {E : Value → Shared → Prop} {i : Nat} {x : Str} {v : V} {u : Value} {Q : Unit → Shared → Prop} (I : Inv X pins σ H s) (hN : X.N.Nodup) (hi : X.N[i]? = some x) (hx : Loc X.env.scope x) (r : RelV v u)
 (h : ∀ s', Inv X pins (σ.set i (some v)) H s' → Q () s') (hf : X.fn x = true ∨ X.env.scope.names.lookup x = some .local := by first | exact .inl rfl | exact .inr rfl | assumption) : wpAny M A (storeName X.env x u) Q E s :=
 store_ok2 I hN hi hx r (fun s' I' _ => h s' I') hf
theorem Inv.call' {s' : Shared} {ch : List Addr} (I : Inv X pins σ H s) (ho : s'.os = s.os) (u : Un (frs X.stack) ch H H' s.heap s'.heap) (hok : HOk X.prog X.w H' s'.heap) (hg : AllBare s'.gens)
 (hch : ∀ b ∈ ch, (b ∈ X.ex ∨ X.s₀.heap.objs.size ≤ b) ∧ b ≠ X.env.locals ∧ (∀ x c, X.env.cells.lookup x = some c → c ≠ b) ∧ ∀ p ∈ X.pn ++ pins, p.1 ≠ b) : Inv X pins σ H' s' := by
 obtain ⟨h', g', d', t', o'⟩ := s'
 have e : o' = s.os := ho
 subst e
 exact I.call (g' := g') (t' := t') (d' := d') u hok hg hch
end
abbrev XK := Value → Option Addr → Hp → Prop
abbrev St := List (Option V)
abbrev VK := V → Hp → Prop
abbrev TE := St → Hp → VK → Prop
abbrev TT := St → Hp → (Bool → Hp → Prop) → Prop
abbrev TA := St → Hp → (List V → Hp → Prop) → Prop
structure Ends where
 nx : St → Hp → Prop
 rt : VK
 bk : St → Hp → Prop := fun _ _ => False
 ct : St → Hp → Prop := fun _ _ => False
abbrev TS := Ends → St → Hp → Prop
def EP (X : Cx) (pins : List (Addr × Obj)) (σ : St) (Q : VK) (u : Value) (s' : Shared) : Prop := ∃ v H', Inv X pins σ H' s' ∧ RelV v u ∧ Q v H'
def TP (X : Cx) (pins : List (Addr × Obj)) (σ : St) (Q : Bool → Hp → Prop) (b : Bool) (s' : Shared) : Prop := ∃ H', Inv X pins σ H' s' ∧ Q b H'
def AP (X : Cx) (pins : List (Addr × Obj)) (σ : St) (Q : List V → Hp → Prop) (us : List Value) (s' : Shared) : Prop := ∃ vs H', Inv X pins σ H' s' ∧ Vals vs us ∧ Q vs H'
def SP (X : Cx) (pins : List (Addr × Obj)) (D : Ends) (f : Flow) (s' : Shared) : Prop :=
 match f with
 | .next => ∃ σ' H', Inv X pins σ' H' s' ∧ D.nx σ' H'
 | .brk => ∃ σ' H', Inv X pins σ' H' s' ∧ D.bk σ' H'
 | .cont => ∃ σ' H', Inv X pins σ' H' s' ∧ D.ct σ' H'
 | .ret u => ∃ v σ' H', Inv X pins σ' H' s' ∧ RelV v u ∧ D.rt v H'
def PE (X : Cx) (e : Expr) (t : TE) : Prop :=
 ∀ (pins : List (Addr × Obj)) (s : Shared) (σ : St) (H : Hp) (Q : VK), Inv X pins σ H s → t σ H Q → wpAny (model X.prog X.w) X.A (eval e X.env) (EP X pins σ Q) X.xe s
def PT (X : Cx) (e : Expr) (t : TT) : Prop :=
 ∀ (pins : List (Addr × Obj)) (s : Shared) (σ : St) (H : Hp) (Q : Bool → Hp → Prop), Inv X pins σ H s → t σ H Q → wpAny (model X.prog X.w) X.A (isTrue e X.env (eval e X.env)) (TP X pins σ Q) X.xe s
def PW (X : Cx) (e : Expr) (t : TT) : Prop :=
 ∀ (whole : Sem Value) (pins : List (Addr × Obj)) (s : Shared) (σ : St) (H : Hp) (Q : Bool → Hp → Prop), Inv X pins σ H s → t σ H Q → wpAny (model X.prog X.w) X.A (isTrue e X.env whole) (TP X pins σ Q) X.xe s
theorem PW.pt {X : Cx} {e : Expr} {t : TT} (h : PW X e t) : PT X e t := h _
def PA (X : Cx) (es : List Expr) (t : TA) : Prop :=
 ∀ (pos : Pos) (pins : List (Addr × Obj)) (s : Shared) (σ : St) (H : Hp) (Q : List V → Hp → Prop), Inv X pins σ H s → t σ H Q → wpAny (model X.prog X.w) X.A (spliced (backTo pos (starEach es X.env))) (AP X pins σ Q) X.xe s
def PS (X : Cx) (st : Stmt) (t : TS) : Prop :=
 ∀ (pins : List (Addr × Obj)) (s : Shared) (σ : St) (H : Hp) (D : Ends), Inv X pins σ H s → t D σ H → wpAny (model X.prog X.w) X.A (exec st X.env) (SP X pins D) X.xe s
def PSs (X : Cx) (st : List Stmt) (t : TS) : Prop :=
 ∀ (pins : List (Addr × Obj)) (s : Shared) (σ : St) (H : Hp) (D : Ends), Inv X pins σ H s → t D σ H → wpAny (model X.prog X.w) X.A (execs st X.env) (SP X pins D) X.xe s
theorem thn {α : Type} {t : Sem α} {Q Q' : α → Shared → Prop} {M : Model} {A : Around} {E : Value → Shared → Prop} {s : Shared} (h : wpAny M A t Q E s) (hQ : ∀ a s, Q a s → Q' a s) : wpAny M A t Q' E s := wpAny_mono h hQ fun _ _ x => x
end L2
namespace L2
open PySem PySem.Spec PyProof.Rows
section
variable {X : Cx}
theorem bin {a b : Expr} {ta tb : TE} (ha : PE X a ta) (hb : PE X b tb) {pins : List (Addr × Obj)} {s : Shared} {σ : St} {H : Hp} {R : V → V → Hp → Prop} (I : Inv X pins σ H s) (h : ta σ H fun x H1 => tb σ H1 fun y H2 => R x y H2)
 {α : Type} {Q : α → Shared → Prop} {f : Value → Value → Sem α}
 (hf : ∀ v u s2 x y H2, Inv X pins σ H2 s2 → RelV x v → RelV y u → R x y H2 → wpAny (model X.prog X.w) X.A (f v u) Q X.xe s2) :
 wpAny (model X.prog X.w) X.A (eval a X.env) (fun v s₁ => wpAny (model X.prog X.w) X.A (eval b X.env) (fun u s₂ => wpAny (model X.prog X.w) X.A (f v u) Q X.xe s₂) X.xe s₁) X.xe s := by
 refine thn (ha pins s σ H _ I h) fun v s1 ⟨x, H1, I1, r1, q1⟩ => ?_
 refine thn (hb pins s1 σ H1 _ I1 q1) fun u s2 ⟨y, H2, I2, r2, q2⟩ => ?_
 exact hf v u s2 x y H2 I2 r1 r2 q2
def tVar (i : Nat) : TE := fun σ H Q => ∃ v, σ[i]? = some (some v) ∧ Q v H
def tC (v : V) : TE := fun _ H Q => Q v H
theorem pe_var {i : Nat} {x : Str} {pos : Pos} (hN : X.N[i]? = some x) (hv : Vis X.env.scope x) (hd : (x == ("__debug__" : Str)) = false := by decide) (hcd : (x == ("__classdict__" : Str)) = false := by decide) : PE X (.Name x pos) (tVar i) := by
 intro pins s σ H Q I h
 obtain ⟨v, e, h⟩ := h
 obtain ⟨m, hn, hl⟩ := I.loc
 obtain ⟨u, r, l⟩ := hl i x v hN e hv
 have fin : EP X pins σ Q u s := ⟨v, H, I, r, h⟩
 rcases l with ⟨hk, hm⟩ | ⟨hk, c, hc, hcell⟩
 ·exact wpAny_Name (wpAny_loadName_local I.ok.kind hk hn hm fin) hd
 ·rcases hk with hk | hk
  ·exact wpAny_Name (wpAny_loadName_cell I.ok.kind hk hc hcell fin) hd
  ·exact wpAny_Name (wpAny_loadName_free I.ok.kind hk hc hcell fin hcd) hd
theorem pe_int {i j pos} : PE X (.Constant (.int i) j pos) (tC (.int i)) := fun _ _ _ H _ I h => wpAny_Constant_int ⟨.int i, H, I.tok _, ⟨_, rfl⟩, h⟩
theorem pe_bl {b j pos} : PE X (.Constant (.bool b) j pos) (tC (.bl b)) := fun _ _ _ H _ I h => Constant_bool ⟨.bl b, H, I, rfl, h⟩
theorem pe_str {x j pos} : PE X (.Constant (.str x) j pos) (tC (.str x)) := fun _ _ _ H _ I h => Calls.Constant_str ⟨.str x, H, I.tok _, ⟨_, rfl⟩, h⟩
def Gl (X : Cx) (x : Str) : Prop := X.env.kindOf x = some .globalImplicit
theorem ld_glob {E : Value → Shared → Prop} {pins : List (Addr × Obj)} {s : Shared} {σ : St} {H : Hp} {x : Str} {u : Value} {pos : Pos} {Q : Value → Shared → Prop} (I : Inv X pins σ H s) (hg : Gl X x) (hm : X.mg x = some u) (h : Q u s)
 (hd : (x == ("__debug__" : Str)) = false := by decide) : wpAny (model X.prog X.w) X.A (eval (.Name x pos) X.env) Q E s :=
 Calls.Name_function_global I.ok.kind hg (Calls.loadGlobal_global (by rw [I.ok.glob]; exact I.mod.glob.keeps I.bk) hm h) hd
theorem ld_blt {E : Value → Shared → Prop} {pins : List (Addr × Obj)} {s : Shared} {σ : St} {H : Hp} {x : Str} {u : Value} {pos : Pos} {Q : Value → Shared → Prop} (I : Inv X pins σ H s) (hg : Gl X x) (hm : X.mg x = none) (hv : bootBuiltins x = some u) (h : Q u s)
 (hn : x ≠ "__name__" := by decide) (hd : (x == ("__debug__" : Str)) = false := by decide) : wpAny (model X.prog X.w) X.A (eval (.Name x pos) X.env) Q E s := by
 obtain ⟨mb, h1, h2⟩ := I.mod.blt
 exact Calls.Name_function_global I.ok.kind hg (Calls.loadGlobal_builtin (by rw [I.ok.glob]; exact I.mod.glob.keeps I.bk) hm (by rw [I.ok.blt]; exact h1.keeps I.bk) ((h2 x hn).trans hv) h) hd
theorem pe_glob {x : Str} {v : V} {u : Value} {pos : Pos} (hg : Gl X x) (hm : X.mg x = some u) (r : RelV v u) (hd : (x == ("__debug__" : Str)) = false := by decide) : PE X (.Name x pos) (tC v) :=
 fun _ _ _ H _ I h => ld_glob I hg hm ⟨v, H, I, r, h⟩ hd
theorem pe_bltn {x : Str} {v : V} {u : Value} {pos : Pos} (hg : Gl X x) (hm : X.mg x = none) (hv : bootBuiltins x = some u) (r : RelV v u) (hn : x ≠ "__name__" := by decide) (hd : (x == ("__debug__" : Str)) = false := by decide) : PE X (.Name x pos) (tC v) :=
 fun _ _ _ H _ I h => ld_blt I hg hm hv ⟨v, H, I, r, h⟩ hn hd
variable {a b : Expr} {ta tb : TE} {pos : Pos}
def PC (X : Cx) (op : CmpOp) (a b : Expr) (t : TE) : Prop :=
 ∀ (pins : List (Addr × Obj)) (s : Shared) (σ : St) (H : Hp) (Q : VK), Inv X pins σ H s → t σ H Q →
   wpAny (model X.prog X.w) X.A (eval a X.env) (fun v s₁ => wpAny (model X.prog X.w) X.A (eval b X.env) (fun u s₂ => wpAny (model X.prog X.w) X.A (compareOp op v u) (EP X pins σ Q) X.xe s₂) X.xe s₁) X.xe s
def tB (t : TE) : TT := fun σ H Q => t σ H fun x H1 => ∃ c, x = .bl c ∧ Q c H1
theorem pt_cmp {op : CmpOp} {t : TE} (h : PC X op a b t) (h1 : behindInMarks op b = false := by first | exact nobehind _ (by decide) (by decide) | rfl) : PT X (.Compare a [op] [b] pos) (tB t) := by
 intro pins s σ H Q I hw
 refine wpAny_isTrue_Compare1 (thn (h pins s σ H _ I hw) fun v s1 h1 => thn h1 fun u s2 h2 => thn h2 fun c s3 ⟨x, H1, I1, r1, q1⟩ => ?_) h1
 obtain ⟨d, rfl, q⟩ := q1
 cases r1
 exact wpAny_truthy_bool ⟨H1, I1, q⟩
theorem pt_val {e : Expr} {t : TE} (h : PE X e t) (he : ∀ whole, isTrue e X.env whole = (do let v ← whole; standAt e.pos; holding [v] (truthy v)) := by intro _; rfl) : PT X e (tB t) := by
 intro pins s σ H Q I hw
 refine isTrue_plain (thn (h pins s σ H _ I hw) fun v s1 ⟨x, H1, I1, r1, q1⟩ => ?_) (he _)
 obtain ⟨d, rfl, q⟩ := q1
 cases r1
 exact wpAny_truthy_bool ⟨H1, I1, q⟩
variable {tA tB' : TT} {rest : List Expr}
def tAnd (t u : TT) : TT := fun σ H Q => t σ H fun c H1 => if c = true then u σ H1 Q else Q false H1
def tOr (t u : TT) : TT := fun σ H Q => t σ H fun c H1 => if c = true then Q true H1 else u σ H1 Q
def tNot (t : TT) : TT := fun σ H Q => t σ H fun c H1 => Q (!c) H1
theorem pw_and1 (ha : PT X a tA) : PW X (.BoolOp .And [a] pos) tA := by
 intro wh pins s σ H Q I h
 refine isTrue_and (thn (ha pins s σ H Q I h) fun c s1 e => ?_)
 cases c with
 | true => exact isTrue_and_nil e
 | false => exact e
theorem pw_or1 (ha : PT X a tA) : PW X (.BoolOp .Or [a] pos) tA := by
 intro wh pins s σ H Q I h
 refine isTrue_or (thn (ha pins s σ H Q I h) fun c s1 e => ?_)
 cases c with
 | false => exact isTrue_or_nil e
 | true => exact e
theorem pw_and (ha : PT X a tA) (hb : PW X (.BoolOp .And (b :: rest) pos) tB') : PW X (.BoolOp .And (a :: b :: rest) pos) (tAnd tA tB') := by
 intro wh pins s σ H Q I h
 refine isTrue_and (thn (ha pins s σ H _ I h) fun c s1 ⟨H1, I1, q1⟩ => ?_)
 cases c with
 | true => exact hb wh pins s1 σ H1 Q I1 q1
 | false => exact ⟨H1, I1, q1⟩
theorem pw_or (ha : PT X a tA) (hb : PW X (.BoolOp .Or (b :: rest) pos) tB') : PW X (.BoolOp .Or (a :: b :: rest) pos) (tOr tA tB') := by
 intro wh pins s σ H Q I h
 refine isTrue_or (thn (ha pins s σ H _ I h) fun c s1 ⟨H1, I1, q1⟩ => ?_)
 cases c with
 | true => exact ⟨H1, I1, q1⟩
 | false => exact hb wh pins s1 σ H1 Q I1 q1
theorem pt_not (ha : PT X a tA) : PT X (.UnaryOp .Not a pos) (tNot tA) := by
 intro pins s σ H Q I h
 exact isTrue_not (ha pins s σ H (fun c H1 => Q (!c) H1) I h)
def tAndV (ta tb : TE) : TE := fun σ H Q => ta σ H fun x H1 => ∃ c, x = .bl c ∧ if c = true then tb σ H1 Q else Q (.bl false) H1
def tNotV (ta : TE) : TE := fun σ H Q => ta σ H fun x H1 => ∃ c, x = .bl c ∧ Q (.bl (!c)) H1
theorem pe_one {op} {t : TE} (h : PE X a t) : PE X (.BoolOp op [a] pos) t := fun pins s σ H Q I hw => BoolOp_one (h pins s σ H Q I hw)
theorem pe_and (ha : PE X a ta) (hb : PE X (.BoolOp .And (b :: rest) pos) tb) : PE X (.BoolOp .And (a :: b :: rest) pos) (tAndV ta tb) := by
 intro pins s σ H Q I h
 refine BoolOp_and (thn (ha pins s σ H _ I h) fun v s1 ⟨x, H1, I1, r1, q1⟩ => ?_)
 obtain ⟨c, rfl, q1⟩ := q1
 cases r1
 refine wpAny_truthy_bool ?_
 cases c with
 | true => exact hb pins s1 σ H1 Q I1 q1
 | false => exact ⟨.bl false, H1, I1, rfl, q1⟩
theorem pe_not (ha : PE X a ta) : PE X (.UnaryOp .Not a pos) (tNotV ta) := by
 intro pins s σ H Q I h
 refine UnaryOp_ (thn (ha pins s σ H _ I h) fun v s1 ⟨x, H1, I1, r1, q1⟩ => ?_)
 obtain ⟨c, rfl, q1⟩ := q1
 cases r1
 exact not_of (wpAny_truthy_bool ⟨.bl (!c), H1, I1, rfl, q1⟩)
end
end L2
namespace L2
open PySem PySem.Spec PyProof.Rows
def SqL (K : PySem.W.Frag) (H : Hp) (a : Addr) (xs : List V) : Prop :=
 Rd H a (.lst xs) ∨
  ∃ (o : Obj) (its : Array Value) (n : Nat), K.lookup a = some o ∧ o.cls = .type "list" ∧ o.dict = none ∧ o.data = .seq its n ∧ its.size ≤ sizeLine ∧ Vals xs its.toList
def SqT (K : PySem.W.Frag) (H : Hp) (a : Addr) (xs : List V) : Prop :=
 Rd H a (.tup xs) ∨
  ∃ (o : Obj) (its : Array Value) (n : Nat), K.lookup a = some o ∧ o.cls = .type "tuple" ∧ o.data = .seq its n ∧ its.size ≤ sizeLine ∧ Vals xs its.toList
def absV : Value → Option V
 | .none => some .non
 | .bool b => some (.bl b)
 | .int i _ => some (.int i)
 | .str x _ => some (.str x)
 | .bytes b _ => some (.byt b)
 | .float b _ => some (.flt b)
 | .ref a => some (.ref a)
 | .type n => some (.ty n)
 | _ => none
theorem RelV.abs {x : V} {u : Value} (r : RelV x u) : absV u = some x := by
 cases x with
 | non => cases r; rfl
 | bl _ => cases r; rfl
 | int _ => obtain ⟨t, rfl⟩ := r; rfl
 | str _ => obtain ⟨t, rfl⟩ := r; rfl
 | byt _ => obtain ⟨t, rfl⟩ := r; rfl
 | flt _ => obtain ⟨t, rfl⟩ := r; rfl
 | ref _ => cases r; rfl
 | ty _ => cases r; rfl
theorem RelV.inj {x y : V} {u : Value} (r : RelV x u) (q : RelV y u) : x = y := Option.some.inj (r.abs.symm.trans q.abs)
theorem Vals.inj : ∀ {xs ys : List V} {us : List Value}, Vals xs us → Vals ys us → xs = ys
 | _, _, _, .nil, .nil => rfl
 | _, _, _, .cons r t, .cons r' t' => by rw [r.inj r', Vals.inj t t']
section
variable {X : Cx} {pins : List (Addr × Obj)} {σ : St} {H : Hp} {s : Shared} {a : Addr} {xs ys : List V}
theorem SqL.of {K : PySem.W.Frag} (h : H a = some (.lst xs)) : SqL K H a xs := .inl (.inl h)
theorem SqT.of {K : PySem.W.Frag} (h : H a = some (.tup xs)) : SqT K H a xs := .inl (.inl h)
theorem Inv.list (I : Inv X pins σ H s) (h : SqL X.K H a xs) : ∃ its : List Value, Vals xs its ∧ PlainL s.heap a its.toArray ∧ xs.length ≤ sizeLine := by
 rcases h with h | ⟨o, its, n, hk, hc, hd, hs, hz, r⟩
 ·obtain ⟨z, its, n, r, e⟩ := h.ok I.hok
  exact ⟨its, r, ⟨_, n, e, rfl, rfl, rfl⟩, z⟩
 ·refine ⟨its.toList, r, ⟨o, n, I.kIn a o hk, hc, hd, by simpa using hs⟩, ?_⟩
  have e := r.length
  simp only [Array.length_toList] at e
  omega
theorem Inv.tuple (I : Inv X pins σ H s) (h : SqT X.K H a xs) : ∃ its : List Value, Vals xs its ∧ IsTup s.heap a its.toArray ∧ xs.length ≤ sizeLine := by
 rcases h with h | ⟨o, its, n, hk, hc, hs, hz, r⟩
 ·obtain ⟨z, its, r, p⟩ := h.ok I.hok
  exact ⟨its, r, p, z⟩
 ·refine ⟨its.toList, r, ⟨o, I.kIn a o hk, hc, n, by simpa using hs⟩, ?_⟩
  have e := r.length
  simp only [Array.length_toList] at e
  omega
theorem Inv.list_inj (I : Inv X pins σ H s) (h : SqL X.K H a xs) (h' : SqL X.K H a ys) : xs = ys := by
 obtain ⟨its, r, ⟨o, n, e, _, _, d⟩, _⟩ := I.list h
 obtain ⟨its', r', ⟨o', n', e', _, _, d'⟩, _⟩ := I.list h'
 rw [e] at e'; cases e'
 rw [d] at d'
 injection d' with d1 _
 have : its = its' := by simpa using congrArg Array.toList d1
 subst this
 exact r.inj r'
theorem Inv.tuple_inj (I : Inv X pins σ H s) (h : SqT X.K H a xs) (h' : SqT X.K H a ys) : xs = ys := by
 obtain ⟨its, r, ⟨o, e, _, n, d⟩, _⟩ := I.tuple h
 obtain ⟨its', r', ⟨o', e', _, n', d'⟩, _⟩ := I.tuple h'
 rw [e] at e'; cases e'
 rw [d] at d'
 injection d' with d1 _
 have : its = its' := by simpa using congrArg Array.toList d1
 subst this
 exact r.inj r'
end
abbrev Cx.wish (X : Cx) (E : Value → Shared → Prop) : Cx := { X with xe := E }
abbrev Cx.nox (X : Cx) : Cx := X.wish fun _ _ => False
theorem Cx.Ok.wish {X : Cx} (ok : X.Ok) (E : Value → Shared → Prop) : (X.wish E).Ok :=
 ⟨ok.mod, ok.kind, ok.glob, ok.blt, ok.above, ok.inj, ok.has, ok.cab, ok.hd, ok.frames, ok.stk, ok.exf, ok.bs, ok.bsz, ok.noex, ok.exfs, ok.funs, ok.frf⟩
theorem Cx.Ok.unwish {X : Cx} {E : Value → Shared → Prop} (ok : (X.wish E).Ok) : X.Ok :=
 ⟨ok.mod, ok.kind, ok.glob, ok.blt, ok.above, ok.inj, ok.has, ok.cab, ok.hd, ok.frames, ok.stk, ok.exf, ok.bs, ok.bsz, ok.noex, ok.exfs, ok.funs, ok.frf⟩
section
variable {X : Cx} {pins : List (Addr × Obj)} {σ : St} {H : Hp} {s : Shared} {E : Value → Shared → Prop}
theorem Inv.wish (I : Inv X pins σ H s) (E : Value → Shared → Prop) : Inv (X.wish E) pins σ H s := ⟨I.ok.wish E, I.os, I.bare, I.base, I.loc, I.cell, I.free, I.freeC, I.pin, I.hok, I.len⟩
theorem Inv.unwish (I : Inv (X.wish E) pins σ H s) : Inv X pins σ H s := ⟨I.ok.unwish, I.os, I.bare, I.base, I.loc, I.cell, I.free, I.freeC, I.pin, I.hok, I.len⟩
theorem SP.unwish {D : Ends} {f : Flow} {s' : Shared} (h : SP (X.wish E) pins D f s') : SP X pins D f s' := by
 cases f with
 | next => obtain ⟨σ', H', I, q⟩ := h; exact ⟨σ', H', I.unwish, q⟩
 | brk => obtain ⟨σ', H', I, q⟩ := h; exact ⟨σ', H', I.unwish, q⟩
 | cont => obtain ⟨σ', H', I, q⟩ := h; exact ⟨σ', H', I.unwish, q⟩
 | ret u => obtain ⟨v, σ', H', I, r, q⟩ := h; exact ⟨v, σ', H', I.unwish, r, q⟩
theorem PSs.nox {st : List Stmt} {t : TS} (h : PSs X.nox st t) : PSs X st t := fun pins s σ H D I hw =>
 wpAny_mono (h pins s σ H D (I.wish _) hw) (fun _ _ q => q.unwish) fun _ _ z => False.elim z
end
section
variable {X : Cx} {st : Stmt} {rest : List Stmt} {t u : TS} {e : Expr} {te : TE} {pos : Pos}
def tNext : TS := fun D σ H => D.nx σ H
def tSeq (t u : TS) : TS := fun D σ H => t { D with nx := u D } σ H
theorem pss_nil : PSs X [] tNext := fun _ _ σ H _ I h => wpAny_execs_nil ⟨σ, H, I, h⟩
theorem pss_cons (h1 : PS X st t) (h2 : PSs X rest u) : PSs X (st :: rest) (tSeq t u) := by
 intro pins s σ H D I h
 refine wpAny_execs_cons (thn (h1 pins s σ H { D with nx := u D } I h) fun f s1 q => ?_)
 cases f with
 | next =>
   obtain ⟨σ', H', I', q⟩ := q
   exact h2 pins s1 σ' H' D I' q
 | ret v => exact q
 | brk => exact q
 | cont => exact q
theorem pss_one (h1 : PS X st t) : PSs X [st] t := by
 intro pins s σ H D I h
 refine wpAny_execs_cons (thn (h1 pins s σ H D I h) fun f s1 q => ?_)
 cases f with
 | next => exact wpAny_execs_nil q
 | ret v => exact q
 | brk => exact q
 | cont => exact q
theorem Inv.quiet {pins : List (Addr × Obj)} {σ : St} {H : Hp} {s : Shared} (I : Inv X pins σ H s) : interactive X.env = false := by simp [interactive, I.ok.kind]
def tDrop (te : TE) : TS := fun D σ H => te σ H fun _ H1 => D.nx σ H1
theorem ps_expr (he : PE X e te) (hs : swapsWith e none pos.line X.env = pure false := by rfl) : PS X (.Expr e pos) (tDrop te) := by
 intro pins s σ H D I h
 exact wpAny_Expr_any (thn (he pins s σ H _ I h) fun v s1 ⟨x, H1, I1, r1, q1⟩ => ⟨σ, H1, I1, q1⟩) I.quiet hs
def tRet (te : TE) : TS := fun D σ H => te σ H D.rt
theorem ps_ret (he : PE X e te) : PS X (.Return (some e) pos) (tRet te) := by
 intro pins s σ H D I h
 exact wpAny_Return_some (thn (he pins s σ H _ I h) fun v s1 ⟨x, H1, I1, r1, q1⟩ => ⟨x, σ, H1, I1, r1, q1⟩)
def tIfS (c : TT) (t u : TS) : TS := fun D σ H => c σ H fun b H1 => if b = true then t D σ H1 else u D σ H1
theorem ps_if {c : Expr} {a b : List Stmt} {tc : TT} (hc : PT X c tc) (ha : PSs X a t) (hb : PSs X b u) : PS X (.If c a b pos) (tIfS tc t u) := by
 intro pins s σ H D I h
 refine wpAny_If (thn (hc pins s σ H _ I h) fun d s1 ⟨H1, I1, q1⟩ => ?_)
 cases d with
 | true => exact ha pins s1 σ H1 D I1 q1
 | false => exact hb pins s1 σ H1 D I1 q1
def tNever : TS := fun _ _ _ => False
theorem ps_never : PS X st tNever := fun _ _ _ _ _ _ h => h.elim
end
abbrev TG := V → St → Hp → (St → Hp → Prop) → Prop
abbrev TGs := List V → St → Hp → (St → Hp → Prop) → Prop
def PG (X : Cx) (target : Expr) (t : TG) : Prop :=
 ∀ (pins : List (Addr × Obj)) (s : Shared) (σ : St) (H : Hp) (v : V) (u : Value) (Q : St → Hp → Prop), Inv X pins σ H s → RelV v u → t v σ H Q →
   wpAny (model X.prog X.w) X.A (assign target X.env u) (fun _ s' => ∃ σ' H', Inv X pins σ' H' s' ∧ Q σ' H') X.xe s
def PGs (X : Cx) (ts : List Expr) (t : TGs) : Prop :=
 ∀ (pins : List (Addr × Obj)) (s : Shared) (σ : St) (H : Hp) (vs : List V) (us : List Value) (Q : St → Hp → Prop), Inv X pins σ H s → Vals vs us → t vs σ H Q →
   wpAny (model X.prog X.w) X.A (assignInOrder ((assignEach ts X.env).map (·.2)) us) (fun _ s' => ∃ σ' H', Inv X pins σ' H' s' ∧ Q σ' H') X.xe s
section
variable {X : Cx} {pos : Pos}
def gName (i : Nat) : TG := fun v σ H Q => Q (σ.set i (some v)) H
theorem pg_name {i : Nat} {x : Str} (hN : X.N.Nodup) (hi : X.N[i]? = some x) (hx : Loc X.env.scope x) (hf : X.fn x = true ∨ X.env.scope.names.lookup x = some .local := by first | exact .inl rfl | exact .inr rfl | assumption) : PG X (.Name x pos) (gName i) := by
 intro pins s σ H v u Q I r h
 exact wpAny_assign_Name (store_ok I hN hi hx r (fun s' I' => ⟨_, H, I', h⟩) hf)
def gNil : TGs := fun vs σ H Q => vs = [] ∧ Q σ H
def gCons (t : TG) (u : TGs) : TGs := fun vs σ H Q => ∃ v r, vs = v :: r ∧ t v σ H fun σ' H' => u r σ' H' Q
theorem pgs_nil : PGs X [] gNil := by
 intro pins s σ H vs us Q I r h
 obtain ⟨e, h⟩ := h
 subst e
 cases r
 exact assignInOrder_nil ⟨σ, H, I, h⟩
theorem pgs_cons {e : Expr} {es : List Expr} {t : TG} {u : TGs} (h1 : PG X e t) (h2 : PGs X es u)
 (hs : (assignEach (e :: es) X.env).map (·.2) = assign e X.env :: (assignEach es X.env).map (·.2) := by rfl) : PGs X (e :: es) (gCons t u) := by
 intro pins s σ H vs us Q I r h
 obtain ⟨v, vr, e1, h⟩ := h
 subst e1
 cases r with
 | cons r rr =>
   rw [hs]
   refine assignInOrder_cons (thn (h1 pins s σ H _ _ _ I r h) fun _ s1 ⟨σ1, H1, I1, q1⟩ => ?_)
   exact h2 pins s1 σ1 H1 _ _ Q I1 rr q1
def gTup (K : PySem.W.Frag) (n : Nat) (t : TGs) : TG := fun v σ H Q => ∃ a xs, v = .ref a ∧ SqT K H a xs ∧ xs.length = n ∧ t xs σ H Q
theorem pg_tup {es : List Expr} {k : Nat} {t : TGs} {n : Nat} (hc : X.calm = true) (h : PGs X es t)
 (hn : (assignEach es X.env).length = n := by rfl) (hst : (assignEach es X.env).findIdx? (·.1) = none := by rfl) : PG X (.Tuple es k pos) (gTup X.K n t) := by
 intro pins s σ H v u Q I r hw
 obtain ⟨a, xs, e1, hq, hl, hw⟩ := hw
 subst e1
 cases r
 obtain ⟨its, rv, ht, hz⟩ := I.tuple hq
 refine assign_Tuple_tuple (I.ok.hd hc) ht (by simp [hn, ← hl, rv.length]) hst fun h' hx => ?_
 have I1 : Inv X pins σ H { s with heap := h' } := I.kept (t' := s.toks) fun b o e => hx b o (Nat.ne_of_lt (Heap.lt_size e)) e
 exact h pins _ σ H xs _ Q I1 (by simpa using rv) hw
def tAsg (te : TE) (g : TG) : TS := fun D σ H => te σ H fun x H1 => g x σ H1 D.nx
theorem ps_asg {tg e : Expr} {te : TE} {g : TG} (he : PE X e te) (hg : PG X tg g) (hs : swapsWithSole [tg] e pos.line X.env = pure false := by rfl) (hw : swappedStores [tg] e X.env = pure none := by rfl)
 (h1 : (assignEach [tg] X.env).map (·.2) = [assign tg X.env] := by rfl) : PS X (.Assign [tg] e pos) (tAsg te g) := by
 intro pins s σ H D I h
 refine wpAny_Assign_stores (thn (he pins s σ H _ I h) fun v s1 ⟨x, H1, I1, r1, q1⟩ => ?_) hs hw
 rw [h1]
 exact thn (hg pins s1 σ H1 x v _ I1 r1 q1) fun _ s2 q => q
theorem ps_set {i : Nat} {x : Str} {e : Expr} {te : TE} {pos' : Pos} (hN : X.N.Nodup) (hi : X.N[i]? = some x) (hx : Loc X.env.scope x) (he : PE X e te) (hs : swapsWith e (some (.Name x pos')) pos.line X.env = pure false := by rfl) (hf : X.fn x = true ∨ X.env.scope.names.lookup x = some .local := by first | exact .inl rfl | exact .inr rfl | assumption) :
 PS X (.Assign [.Name x pos'] e pos) (tAsg te (gName i)) := by
 intro pins s σ H D I h
 refine wpAny_Assign_Name (thn (he pins s σ H _ I h) fun v s1 ⟨y, H1, I1, r1, q1⟩ => ?_) hs
 exact store_ok I1 hN hi hx r1 (fun s2 I2 => ⟨_, H1, I2, q1⟩) hf
def tPar (i j : Nat) (ta : TA) : TS := fun D σ H => ta σ H fun vs H1 => ∃ v w, vs = [v, w] ∧ D.nx ((σ.set i (some v)).set j (some w)) H1
theorem ps_par {i j : Nat} {x y : Str} {a b : Expr} {ta : TA} {px py pt : Pos} {kt k2 pt2} (hc : X.calm = true) (hN : X.N.Nodup) (hi : X.N[i]? = some x) (hj : X.N[j]? = some y) (hij : i ≠ j)
 (hx : X.env.scope.names.lookup x = some .local) (hy : X.env.scope.names.lookup y = some .local) (ha : PA X [a, b] ta)
 (hw : swappedStores [.Tuple [.Name x px, .Name y py] kt pt] (.Tuple [a, b] k2 pt2) X.env = pure (some [x, y]))
 (hs : swapsWithSole [.Tuple [.Name x px, .Name y py] kt pt] (.Tuple [a, b] k2 pt2) pos.line X.env = pure false := by rfl) :
 PS X (.Assign [.Tuple [.Name x px, .Name y py] kt pt] (.Tuple [a, b] k2 pt2) pos) (tPar i j ta) := by
 intro pins s σ H D I h
 rw [exec_Assign_arm]
 refine wpAny_bind (wpAny_standAt ?_)
 rw [hs]
 refine wpAny_bind (wpAny_pure ?_)
 rw [if_neg (by decide)]
 refine wpAny_bind (Tuple_ (thn (ha _ pins s σ H _ I h) fun us s1 ⟨vs, H1, I1, r1, q1⟩ => ?_))
 obtain ⟨v, w, e1, q1⟩ := q1
 subst e1
 obtain ⟨u1, u2, rfl, rv, rw'⟩ : ∃ u1 u2, us = [u1, u2] ∧ RelV v u1 ∧ RelV w u2 := by
  cases r1 with
  | cons p q =>
    cases q with
    | cons p' q' =>
      cases q'
      exact ⟨_, _, rfl, p, p'⟩
 refine wpAny_newObj_type ?_ (by show 2 ≤ sizeLine; decide)
 have I2 : Inv X pins σ H1 { s1 with heap := s1.heap.push { cls := .type "tuple", data := .seq [u1, u2].toArray } } := I1.kept (t' := s1.toks) fun b o e => Heap.get?_push_of_some _ e
 rw [hw]
 refine wpAny_bind (wpAny_pure ?_)
 show wpAny (model X.prog X.w) X.A (do rule "assign.swapped-stores"; let items ← unpackItems (.ref s1.heap.objs.size) 2 none; assignInOrder [fun v => bindName X.env y v, fun v => bindName X.env x v] items.reverse; pure Flow.next) _ _ _
 refine wpAny_bind (wpAny_rule (wpAny_bind (unpackItems_tuple (items := #[u1, u2]) (I.ok.hd hc) (IsTup.new s1.heap _) fun h' hx' => ?_)))
 have I3 := I2.kept (h' := h') (t' := s1.toks) fun b o e => hx' b o (Nat.ne_of_lt (Heap.lt_size e)) e
 show wpAny _ _ (assignInOrder [fun v => bindName X.env y v, fun v => bindName X.env x v] [u2, u1] >>= fun _ => pure Flow.next) _ _ _
 refine wpAny_bind (assignInOrder_cons (wpAny_bindName (store_ok I3 hN hj (.inl hy) rw' (fun s2 I4 => ?_) (.inr hy))))
 refine assignInOrder_cons (wpAny_bindName (store_ok I4 hN hi (.inl hx) rv (fun s3 I5 => assignInOrder_nil (wpAny_pure ?_)) (.inr hx)))
 rw [List.set_comm _ _ (Ne.symm hij)] at I5
 exact ⟨_, H1, I5, q1⟩
end
section
variable {X : Cx} {pos : Pos}
def tWhile (c : TT) (tb : TS) : TS := fun D σ H => ∃ W : Nat → St → Hp → Prop, (∃ m, W m σ H) ∧ ∀ m σ H, W m σ H →
 c σ H fun b H1 => if b = true then ∃ N : St → Hp → Prop, (∀ σ' H', N σ' H' → ∃ m', m' < m ∧ W m' σ' H') ∧ tb { D with nx := N, ct := N, bk := D.nx } σ H1 else D.nx σ H1
theorem ps_while {c : Expr} {body : List Stmt} {tc : TT} {tb : TS} (hp : PassesOwn (model X.prog X.w) X.A X.env X.xe) (hc : PT X c tc) (hb : PSs X body tb) : PS X (.While c body [] pos) (tWhile tc tb) := by
 intro pins s σ H D I h
 obtain ⟨W, ⟨m0, w0⟩, turn⟩ := h
 refine wpAny_While (codeAny_whileLoop (fun n s' => ∃ σ' H', Inv X pins σ' H' s' ∧ W n σ' H') ?_ m0 ⟨σ, H, I, w0⟩)
 rintro n s1 ⟨σ1, H1, I1, w1⟩
 refine wpAny_passesOwn hp (thn (hc pins s1 σ1 H1 _ I1 (turn n σ1 H1 w1)) fun b s2 ⟨H2, I2, q2⟩ => ?_)
 cases b with
 | true =>
   obtain ⟨N, hN, q2⟩ := q2
   rw [if_pos rfl]
   refine wpAny_passesOwn hp (thn (hb pins s2 σ1 H2 _ I2 q2) fun f s3 q3 => ?_)
   cases f with
   | next =>
     obtain ⟨σ3, H3, I3, n3⟩ := q3
     obtain ⟨m', hm, w3⟩ := hN σ3 H3 n3
     exact ⟨m', hm, σ3, H3, I3, w3⟩
   | cont =>
     obtain ⟨σ3, H3, I3, n3⟩ := q3
     obtain ⟨m', hm, w3⟩ := hN σ3 H3 n3
     exact ⟨m', hm, σ3, H3, I3, w3⟩
   | brk => exact q3
   | ret v => exact q3
 | false =>
   rw [if_neg Bool.false_ne_true]
   exact wpAny_execs_nil ⟨σ1, H2, I2, q2⟩
end
structure It where
 go : Nat → Hp → Prop
 yld : Nat → Hp → V → Hp → Prop
 stop : Nat → Hp → Prop
def FpOk (X : Cx) (pins : List (Addr × Obj)) (H : Hp) (b : Addr) : Prop :=
 H b = none ∧ b ≠ X.env.locals ∧ b ∉ X.fs ∧ (b ∈ X.ex ∨ X.s₀.heap.objs.size ≤ b) ∧ (∀ x c, X.env.cells.lookup x = some c → c ≠ b) ∧ ∀ p ∈ X.pn ++ pins, p.1 ≠ b
theorem Inv.fpOk {X : Cx} {pins : List (Addr × Obj)} {σ : St} {H H' : Hp} {s : Shared} {b : Addr} (I : Inv X pins σ H s) (hb : s.heap.objs.size ≤ b) (hn : H' b = none) : FpOk X pins H' b := by
 refine ⟨hn, Nat.ne_of_gt (Nat.lt_of_lt_of_le I.lt hb), I.nofs hb, .inr (Nat.le_trans I.sz hb), fun x c e z => ?_, fun p hp z => ?_⟩
 ·obtain ⟨v, q⟩ := I.cell x c e
  exact absurd (Nat.lt_of_lt_of_le q.lt (by rw [z]; exact hb)) (Nat.lt_irrefl _)
 ·exact absurd (Nat.lt_of_lt_of_le (Heap.lt_size (I.pin p hp).1) (by rw [z]; exact hb)) (Nat.lt_irrefl _)
structure Turn (P : Program) (w : World) (K : PySem.W.Frag) (tg : Expr) (J : It) (fp : List Addr) (it : Addr) (tn : Nat → Heap → Prop) : Prop where
 mem : it ∈ fp
 obj : ∀ i h, tn i h → ∀ b ∈ fp, ∃ o, h.get? b = some o ∧ ∀ v, o.data ≠ .cell v
 keep : ∀ i h h', tn i h → (∀ b ∈ fp, ∀ o, h.get? b = some o → h'.get? b = some o) → tn i h'
 item : ∀ (X : Cx), X.prog = P → X.w = w → X.K = K → X.calm = true → ∀ (i : Nat) (pins : List (Addr × Obj)) (s : Shared) (σ : St) (H : Hp) (E : Value → Shared → Prop), Inv X pins σ H s → (∀ b ∈ fp, FpOk X pins H b) → tn i s.heap → J.go i H →
  wpAny (model P w) X.A (pyNext (.ref it)) (fun r s1 => ∃ u, r = some u ∧
   wpAny (model P w) X.A (letOwnedTupleGo tg (.ref it) u) (fun _ s2 => ∃ x H', Inv X pins σ H' s2 ∧ RelV x u ∧ J.yld i H x H' ∧ tn (i + 1) s2.heap ∧ ∀ b ∈ fp, H' b = none) E s1) E s
 done : ∀ (X : Cx), X.prog = P → X.w = w → X.K = K → X.calm = true → ∀ (i : Nat) (pins : List (Addr × Obj)) (s : Shared) (σ : St) (H : Hp) (E : Value → Shared → Prop), Inv X pins σ H s → (∀ b ∈ fp, FpOk X pins H b) → tn i s.heap → J.stop i H →
  wpAny (model P w) X.A (pyNext (.ref it)) (fun r s1 => r = none ∧ Inv X pins σ H s1) E s
 self : ∀ (A : Around) (i : Nat) (s : Shared) (Q : Value → Shared → Prop) (E : Value → Shared → Prop), tn i s.heap → Q (.ref it) s → wpAny (model P w) A (pyIter (.ref it)) Q E s
abbrev TI := St → Hp → (It → Hp → Prop) → Prop
def PIE (X : Cx) (pins : List (Addr × Obj)) (σ : St) (tg : Expr) (R : It → Hp → Prop) (itv : Value) (s2 : Shared) : Prop :=
 ∃ (it : Addr) (fp : List Addr) (tn : Nat → Heap → Prop) (J : It) (H' : Hp), itv = .ref it ∧ Inv X pins σ H' s2 ∧ Turn X.prog X.w X.K tg J fp it tn ∧ tn 0 s2.heap ∧ (∀ b ∈ fp, FpOk X pins H' b) ∧ R J H'
def PI (X : Cx) (tg iter : Expr) (wi : TI) : Prop :=
 ∀ (pins : List (Addr × Obj)) (s : Shared) (σ : St) (H : Hp) (R : It → Hp → Prop), Inv X pins σ H s → wi σ H R →
   wpAny (model X.prog X.w) X.A (eval iter X.env) (fun v s1 => wpAny (model X.prog X.w) X.A (pyIter v) (PIE X pins σ tg R) X.xe s1) X.xe s
theorem go_of {M : Model} {A : Around} {E : Value → Shared → Prop} {s : Shared} {tg : Expr} {it : Addr} {u : Value} {o : Obj} {n : String} {vs : Array Value} {Q : Unit → Shared → Prop} (ho : s.heap.get? it = some o) (hc : o.cls = .type n) (hd : o.data = .fields vs)
 (hn : ["enumerate", "zip", "dict_itemiterator", "dict_reverseitemiterator", "odict_iterator", "itertools.zip_longest", "itertools.pairwise"].contains n = false) (hQ : Q () s) : wpAny M A (letOwnedTupleGo tg (.ref it) u) Q E s := by
 unfold letOwnedTupleGo
 cases tg <;> first
  | exact wpAny_pure hQ
  | (cases u <;> first
   | exact wpAny_pure hQ
   | (refine wpAny_bind (wpAny_load ho ?_)
      rw [hc, hd]
      show wpAny M A (if (["enumerate", "zip", "dict_itemiterator", "dict_reverseitemiterator", "odict_iterator", "itertools.zip_longest", "itertools.pairwise"].contains n && vs[0]? == some (rawInt _)) = true then _ else _) Q E s
      rw [if_neg (by intro h; rw [hn, Bool.false_and] at h; cases h)]
      exact wpAny_pure hQ))
def Itl (K : PySem.W.Frag) (a : Addr) : It :=
 ⟨fun i H => ∃ xs x, SqL K H a xs ∧ xs[i]? = some x, fun i H x H' => H' = H ∧ ∀ xs, SqL K H a xs → xs[i]? = some x, fun i H => ∃ xs, SqL K H a xs ∧ xs.length ≤ i⟩
def Itt (K : PySem.W.Frag) (a : Addr) : It :=
 ⟨fun i H => ∃ xs x, SqT K H a xs ∧ xs[i]? = some x, fun i H x H' => H' = H ∧ ∀ xs, SqT K H a xs → xs[i]? = some x, fun i H => ∃ xs, SqT K H a xs ∧ xs.length ≤ i⟩
def Itr (lo : Int) (n : Nat) : It := ⟨fun i _ => i < n, fun i H x H' => H' = H ∧ x = .int (lo + i), fun i _ => n ≤ i⟩
theorem turn_list {P : Program} {w : World} {K : PySem.W.Frag} {tg : Expr} (a it : Addr) : Turn P w K tg (Itl K a) [it] it (fun i h => h.IsListIter it a i) where
 mem := by simp
 obj := fun i h st b hb => by
  have e : b = it := by simpa using hb
  subst e
  obtain ⟨o, e, c, d⟩ := st
  exact ⟨o, e, fun v z => by rw [d] at z; cases z⟩
 keep := fun i h h' st k => st.at fun o e => k it (by simp) o e
 item := by
  intro X hP hw hK hc i pins s σ H E I hf st hg
  subst hP hw hK
  obtain ⟨xs, x, hq, hx⟩ := hg
  obtain ⟨its, rv, p, hz⟩ := I.list hq
  obtain ⟨u, hu, ru⟩ := rv.get hx
  obtain ⟨f0, f1, f2, f3, f4, f5⟩ := hf it (by simp)
  refine wpAny_pyNext_list_item st p.isList (x := u) (by simpa using hu) fun h' st' sb => ?_
  have I1 : Inv X pins σ H { s with heap := h' } := I.turned (t' := s.toks) (fun b o hb e => (sb.2 b hb).trans e) f0 f1 f3 f4 f5
  obtain ⟨o, e, c, d⟩ := id st'
  exact ⟨u, rfl, go_of (s := { s with heap := h' }) e c d (by decide) ⟨x, H, I1, ru, ⟨rfl, fun ys hy => by rw [I.list_inj hy hq]; exact hx⟩, st', fun b hb => (hf b hb).1⟩⟩
 done := by
  intro X hP hw hK hc i pins s σ H E I hf st hg
  subst hP hw hK
  obtain ⟨xs, hq, hx⟩ := hg
  obtain ⟨its, rv, p, hz⟩ := I.list hq
  obtain ⟨f0, f1, f2, f3, f4, f5⟩ := hf it (by simp)
  have hl := rv.length
  exact wpAny_pyNext_list_end (I.ok.hd hc) st p.isList (by simp; omega) fun h' eb => ⟨rfl, I.turned (t' := s.toks) (fun b o hb e => eb b o hb e) f0 f1 f3 f4 f5⟩
 self := fun _ _ _ _ _ st h => wpAny_pyIter_listiter st h
theorem turn_tuple {P : Program} {w : World} {K : PySem.W.Frag} {tg : Expr} (a it : Addr) : Turn P w K tg (Itt K a) [it] it (fun i h => h.IsTupleIter it a i) where
 mem := by simp
 obj := fun i h st b hb => by
  have e : b = it := by simpa using hb
  subst e
  obtain ⟨o, e, c, d⟩ := st
  exact ⟨o, e, fun v z => by rw [d] at z; cases z⟩
 keep := fun i h h' st k => st.at fun o e => k it (by simp) o e
 item := by
  intro X hP hw hK hc i pins s σ H E I hf st hg
  subst hP hw hK
  obtain ⟨xs, x, hq, hx⟩ := hg
  obtain ⟨its, rv, p, hz⟩ := I.tuple hq
  obtain ⟨u, hu, ru⟩ := rv.get hx
  obtain ⟨f0, f1, f2, f3, f4, f5⟩ := hf it (by simp)
  refine wpAny_pyNext_tuple_item st (show s.heap.IsTuple a its.toArray from p) (x := u) (by simpa using hu) fun h' st' sb => ?_
  have I1 : Inv X pins σ H { s with heap := h' } := I.turned (t' := s.toks) (fun b o hb e => (sb.2 b hb).trans e) f0 f1 f3 f4 f5
  obtain ⟨o, e, c, d⟩ := id st'
  exact ⟨u, rfl, go_of (s := { s with heap := h' }) e c d (by decide) ⟨x, H, I1, ru, ⟨rfl, fun ys hy => by rw [I.tuple_inj hy hq]; exact hx⟩, st', fun b hb => (hf b hb).1⟩⟩
 done := by
  intro X hP hw hK hc i pins s σ H E I hf st hg
  subst hP hw hK
  obtain ⟨xs, hq, hx⟩ := hg
  obtain ⟨its, rv, p, hz⟩ := I.tuple hq
  obtain ⟨f0, f1, f2, f3, f4, f5⟩ := hf it (by simp)
  have hl := rv.length
  exact wpAny_pyNext_tuple_end (I.ok.hd hc) st (show s.heap.IsTuple a its.toArray from p) (by simp; omega) fun h' eb => ⟨rfl, I.turned (t' := s.toks) (fun b o hb e => eb b o hb e) f0 f1 f3 f4 f5⟩
 self := fun _ _ _ _ _ st h => wpAny_pyIter_tupleiter st h
theorem turn_range {P : Program} {w : World} {K : PySem.W.Frag} {tg : Expr} (it : Addr) (lo : Int) (n : Nat) : Turn P w K tg (Itr lo n) [it] it (fun i h => IsRangeIter h it (lo + (i : Nat) * 1) ((n : Int) - (i : Nat)) 1) where
 mem := by simp
 obj := fun i h st b hb => by
  have e : b = it := by simpa using hb
  subst e
  exact ⟨_, st, fun v z => by
   have z' : Data.fields _ = Data.cell v := z
   cases z'⟩
 keep := fun i h h' st k => k it (by simp) _ st
 item := by
  intro X hP hw hK hc i pins s σ H E I hf st hg
  subst hP hw hK
  obtain ⟨f0, f1, f2, f3, f4, f5⟩ := hf it (by simp)
  have W := Walks.range (prog := X.prog) (w := X.w) (I.ok.hd hc) it lo 1 n
  refine W.item i s _ _ hg st fun v h' tk hv st' kk => ?_
  obtain ⟨t, rfl⟩ := hv
  have I1 : Inv X pins σ H { s with heap := h', toks := tk } := I.turned (fun b o hb e => kk b o (by simpa using hb) e) f0 f1 f3 f4 f5
  refine ⟨_, rfl, go_of (s := { s with heap := h', toks := tk }) (n := "range_iterator") st' rfl rfl (by decide) ⟨.int (lo + i), H, I1, ⟨t, ?_⟩, ⟨rfl, rfl⟩, st', fun b hb => (hf b hb).1⟩⟩
  rw [Int.mul_one]
 done := by
  intro X hP hw hK hc i pins s σ H E I hf st hg
  subst hP hw hK
  obtain ⟨f0, f1, f2, f3, f4, f5⟩ := hf it (by simp)
  exact wpAny_pyNext_range_end (I.ok.hd hc) st (by have : n ≤ i := hg; omega) fun h' eb => ⟨rfl, I.turned (t' := s.toks) (fun b o hb e => eb b o hb e) f0 f1 f3 f4 f5⟩
 self := fun _ _ _ _ _ st h => wpAny_pyIter_rangeiter st h
end L2
namespace L2
open PySem PySem.Spec PyProof.Rows
section
variable {X : Cx} {tg : Expr}
def iList (K : PySem.W.Frag) (tl : TE) : TI := fun σ H R => tl σ H fun x H1 => ∃ a, x = .ref a ∧ (∃ xs, SqL K H1 a xs) ∧ R (Itl K a) H1
def iTup (K : PySem.W.Frag) (tl : TE) : TI := fun σ H R => tl σ H fun x H1 => ∃ a, x = .ref a ∧ (∃ xs, SqT K H1 a xs) ∧ R (Itt K a) H1
theorem pi_list {l : Expr} {tl : TE} (hl : PE X l tl) : PI X tg l (iList X.K tl) := by
 intro pins s σ H R I h
 refine thn (hl pins s σ H _ I h) fun v s1 ⟨x, H1, I1, r1, q1⟩ => ?_
 obtain ⟨a, e, ⟨xs, hq⟩, q⟩ := q1
 subst e
 cases r1
 obtain ⟨its, rv, p, hz⟩ := I1.list hq
 refine wpAny_pyIter_list p.isList ?_
 refine ⟨s1.heap.objs.size, [s1.heap.objs.size], _, _, H1, rfl, I1.kept (t' := s1.toks) fun b o e => Heap.get?_push_of_some _ e, turn_list a _, ⟨_, Heap.get?_push_size _ rfl, rfl, rfl⟩, fun b hb => ?_, q⟩
 have e : b = s1.heap.objs.size := by simpa using hb
 subst e
 exact I1.fpOk (Nat.le_refl _) (I1.hok.fresh (Nat.le_refl _))
theorem pi_tup {l : Expr} {tl : TE} (hl : PE X l tl) : PI X tg l (iTup X.K tl) := by
 intro pins s σ H R I h
 refine thn (hl pins s σ H _ I h) fun v s1 ⟨x, H1, I1, r1, q1⟩ => ?_
 obtain ⟨a, e, ⟨xs, hq⟩, q⟩ := q1
 subst e
 cases r1
 obtain ⟨its, rv, p, hz⟩ := I1.tuple hq
 refine wpAny_pyIter_tuple (show s1.heap.IsTuple a its.toArray from p) ?_
 refine ⟨s1.heap.objs.size, [s1.heap.objs.size], _, _, H1, rfl, I1.kept (t' := s1.toks) fun b o e => Heap.get?_push_of_some _ e, turn_tuple a _, ⟨_, Heap.get?_push_size _ rfl, rfl, rfl⟩, fun b hb => ?_, q⟩
 have e : b = s1.heap.objs.size := by simpa using hb
 subst e
 exact I1.fpOk (Nat.le_refl _) (I1.hok.fresh (Nat.le_refl _))
theorem range_it {pins : List (Addr × Obj)} {σ : St} {H : Hp} {s : Shared} {R : It → Hp → Prop} {E : Value → Shared → Prop} {lo hi : Int} {t u v : Tok} {tk : Nat} (I : Inv X pins σ H s) (h1 : -(2 ^ 62) ≤ lo) (h2 : lo < 2 ^ 62) (h3 : -(2 ^ 62) ≤ hi) (h4 : hi < 2 ^ 62)
 (q : R (Itr lo (hi - lo).toNat) H) : wpAny (model X.prog X.w) X.A (pyIter (.ref s.heap.objs.size)) (PIE X pins σ tg R) E { s with heap := s.heap.push { cls := .type "range", data := .fields #[.int lo t, .int hi u, .int 1 v] }, toks := tk } := by
 refine wpAny_pyIter_range (IsRange.new ..) (small_one h1 h2 h3 h4) ?_
 have I1 : Inv X pins σ H { s with heap := s.heap.push { cls := .type "range", data := .fields #[.int lo t, .int hi u, .int 1 v] }, toks := tk } := I.kept fun b o e => Heap.get?_push_of_some _ e
 refine ⟨(s.heap.push { cls := .type "range", data := .fields #[.int lo t, .int hi u, .int 1 v] }).objs.size, [(s.heap.push { cls := .type "range", data := .fields #[.int lo t, .int hi u, .int 1 v] }).objs.size], _, _, H, rfl,
  I1.kept (t' := tk) fun b o e => Heap.get?_push_of_some _ e, turn_range _ lo (hi - lo).toNat, ?_, fun b hb => ?_, q⟩
 ·have e1 : lo + ((0 : Nat) : Int) * 1 = lo := by simp
  have e2 : (((hi - lo).toNat : Nat) : Int) - ((0 : Nat) : Int) = Builtin.Range.rangeSize lo hi 1 := by rw [rangeSize_one]; split <;> omega
  show IsRangeIter _ _ (lo + ((0 : Nat) : Int) * 1) ((((hi - lo).toNat : Nat) : Int) - ((0 : Nat) : Int)) 1
  rw [e1, e2]
  exact Heap.get?_push_size _ rfl
 ·have e : b = (s.heap.push { cls := .type "range", data := .fields #[.int lo t, .int hi u, .int 1 v] }).objs.size := by simpa using hb
  subst e
  exact I1.fpOk (Nat.le_refl _) (I1.hok.fresh (Nat.le_refl _))
def iRng1 (ta : TA) : TI := fun σ H R => ta σ H fun vs H1 => ∃ j : Int, vs = [.int j] ∧ -(2 ^ 62) ≤ j ∧ j < 2 ^ 62 ∧ R (Itr 0 j.toNat) H1
theorem pi_range1 {a : Expr} {ta : TA} {p pos : Pos} (hg : Gl X "range") (hm : X.mg "range" = none) (ha : PA X [a] ta) (hs : starEach [a] X.env = [(false, eval a X.env)] := by rfl) : PI X tg (.Call (.Name "range" p) [a] [] pos) (iRng1 ta) := by
 intro pins s σ H R I h
 refine Call_ (ld_blt I hg hm boot_range (PyProof.Rows.callWith_type1 (thn (ha pos pins s σ H _ I h) fun us s1 ⟨vs, H1, I1, r1, q1⟩ => ?_) hs rfl))
 obtain ⟨j, e, q1, q2, q⟩ := q1
 subst e
 cases r1 with
 | cons r rr =>
   cases rr
   obtain ⟨t, rfl⟩ := r
   exact call_range_1 (range_it I1 (by omega) (by omega) q1 q2 (by simpa using q))
def tFor (wi : TI) (g : TG) (tb : TS) : TS := fun D σ H => wi σ H fun J H1 => ∃ W : Nat → Nat → St → Hp → Prop, (∃ m, W 0 m σ H1) ∧ ∀ i m σ H, W i m σ H →
 (J.stop i H ∧ D.nx σ H) ∨ (J.go i H ∧ ∃ N : St → Hp → Prop, (∀ σ' H', N σ' H' → ∃ m', m' < m ∧ W (i + 1) m' σ' H') ∧ ∀ x H', J.yld i H x H' → g x σ H' fun σ2 H2 => tb { D with nx := N, ct := N, bk := D.nx } σ2 H2)
def pinsAt (fp : List Addr) (h : Heap) : List (Addr × Obj) := fp.filterMap fun b => (h.get? b).map fun o => (b, o)
theorem mem_pinsAt {fp : List Addr} {h : Heap} {b : Addr} {o : Obj} (hb : b ∈ fp) (e : h.get? b = some o) : (b, o) ∈ pinsAt fp h := List.mem_filterMap.mpr ⟨b, hb, by rw [e]; rfl⟩
theorem of_pinsAt {fp : List Addr} {h : Heap} {p : Addr × Obj} (hp : p ∈ pinsAt fp h) : p.1 ∈ fp ∧ h.get? p.1 = some p.2 := by
 obtain ⟨b, hb, e⟩ := List.mem_filterMap.mp hp
 cases q : h.get? b with
 | none => rw [q] at e; cases e
 | some o =>
   rw [q] at e
   have e' : (b, o) = p := Option.some.inj e
   subst e'
   exact ⟨hb, q⟩
theorem Inv.pinned {pins : List (Addr × Obj)} {σ : St} {H : Hp} {s : Shared} {fp : List Addr} (I : Inv X pins σ H s) (hf : ∀ b ∈ fp, FpOk X pins H b) (ho : ∀ b ∈ fp, ∃ o, s.heap.get? b = some o ∧ ∀ v, o.data ≠ .cell v) : Inv X (pins ++ pinsAt fp s.heap) σ H s :=
 I.pins_of fun p hp => (List.mem_append.mp hp).elim (fun z => I.pin p (List.mem_append_right _ z)) fun z => by
  obtain ⟨hb, e⟩ := of_pinsAt z
  obtain ⟨f0, f1, f2, _⟩ := hf p.1 hb
  obtain ⟨o, e', d⟩ := ho p.1 hb
  rw [e] at e'; cases e'
  exact ⟨e, f0, f1, f2, d⟩
theorem Inv.unpinned {pins pl : List (Addr × Obj)} {σ : St} {H : Hp} {s : Shared} (I : Inv X (pins ++ pl) σ H s) : Inv X pins σ H s := I.pins_of fun p hp => I.pin p (List.mem_append_right _ (List.mem_append_left _ hp))
theorem ps_for {iter : Expr} {body : List Stmt} {wi : TI} {g : TG} {tb : TS} {pos : Pos} (hp : PassesOwn (model X.prog X.w) X.A X.env X.xe) (hc : X.calm = true) (hi : PI X tg iter wi) (hg : PG X tg g) (hb : PSs X body tb)
 (hs : ∀ x, foldedSetIterable iter X.env x = pure x := by intro _; rfl) : PS X (.For tg iter body [] pos) (tFor wi g tb) := by
 intro pins s σ H D I h
 refine wpAny_For (thn (hi pins s σ H _ I h) fun v s1 h1 => thn h1 fun itv s2 h2 => ?_) hs
 obtain ⟨it, fp, tn, J, H2, e, I2, T, st2, f2, W, ⟨m0, w0⟩, turn⟩ := h2
 subst e
 have stat : ∀ {H' : Hp}, (∀ b ∈ fp, H' b = none) → ∀ b ∈ fp, FpOk X pins H' b := fun hn b hb => ⟨hn b hb, (f2 b hb).2⟩
 refine codeAny_forLoop_any (fun n s' => ∃ i σ' H', Inv X pins σ' H' s' ∧ tn i s'.heap ∧ (∀ b ∈ fp, H' b = none) ∧ W i n σ' H') ?_ m0 ⟨0, σ, H2, I2, st2, fun b hb => (f2 b hb).1, w0⟩
 rintro n s3 ⟨i, σ3, H3, I3, st3, fr3, w3⟩
 rcases turn i n σ3 H3 w3 with ⟨stop, qn⟩ | ⟨go, N, hN, step⟩
 ·refine wpAny_passesOwn hp (thn (T.done X rfl rfl rfl hc i pins s3 σ3 H3 X.xe I3 (stat fr3) st3 stop) fun r s4 ⟨hr, I4⟩ => ?_)
  subst hr
  exact wpAny_execs_nil ⟨σ3, H3, I4, qn⟩
 ·refine wpAny_passesOwn hp (thn (T.item X rfl rfl rfl hc i pins s3 σ3 H3 X.xe I3 (stat fr3) st3 go) fun r s4 ⟨u, hr, h4⟩ => ?_)
  subst hr
  refine wpAny_passesOwn hp (thn h4 fun _ s5 ⟨x, H5, I5, r5, y5, st5, fr5⟩ => ?_)
  have I5' := I5.pinned (stat fr5) (T.obj _ _ st5)
  refine wpAny_passesOwn hp (thn (hg _ s5 σ3 H5 x u _ I5' r5 (step x H5 y5)) fun _ s6 ⟨σ6, H6, I6, q6⟩ => ?_)
  refine wpAny_passesOwn hp (thn (hb _ s6 σ6 H6 _ I6 q6) fun f s7 q7 => ?_)
  have again : ∀ {σ7 : St} {H7 : Hp}, Inv X (pins ++ pinsAt fp s5.heap) σ7 H7 s7 → N σ7 H7 → ∃ m, m < n ∧ ∃ i σ' H', Inv X pins σ' H' s7 ∧ tn i s7.heap ∧ (∀ b ∈ fp, H' b = none) ∧ W i m σ' H' := fun {σ7 H7} I7 n7 => by
   obtain ⟨m', hm, w7⟩ := hN σ7 H7 n7
   refine ⟨m', hm, i + 1, σ7, H7, I7.unpinned, T.keep _ _ _ st5 fun b hb o e => (I7.pin (b, o) (List.mem_append_right _ (List.mem_append_right _ (mem_pinsAt hb e)))).1, fun b hb => ?_, w7⟩
   obtain ⟨o, e, d⟩ := T.obj _ _ st5 b hb
   exact (I7.pin (b, o) (List.mem_append_right _ (List.mem_append_right _ (mem_pinsAt hb e)))).2.1
  cases f with
  | next => obtain ⟨σ7, H7, I7, n7⟩ := q7; exact again I7 n7
  | cont => obtain ⟨σ7, H7, I7, n7⟩ := q7; exact again I7 n7
  | brk => obtain ⟨σ7, H7, I7, q7⟩ := q7; exact ⟨σ7, H7, I7.unpinned, q7⟩
  | ret v => obtain ⟨x7, σ7, H7, I7, r7, q7⟩ := q7; exact ⟨x7, σ7, H7, I7.unpinned, r7, q7⟩
end
end L2
namespace L2
open PySem PySem.Spec PyProof.Rows
abbrev R2 := V → V → Hp → VK → Prop
def OpR (X : Cx) (f : Value → Value → Sem Value) (r : R2) : Prop :=
 ∀ (pins : List (Addr × Obj)) (s : Shared) (σ : St) (H : Hp) (x y : V) (v u : Value) (Q : VK), Inv X pins σ H s → RelV x v → RelV y u → r x y H Q →
   wpAny (model X.prog X.w) X.A (f v u) (EP X pins σ Q) X.xe s
def UnR (X : Cx) (f : Value → Sem Value) (r : V → Hp → VK → Prop) : Prop :=
 ∀ (pins : List (Addr × Obj)) (s : Shared) (σ : St) (H : Hp) (x : V) (v : Value) (Q : VK), Inv X pins σ H s → RelV x v → r x H Q →
   wpAny (model X.prog X.w) X.A (f v) (EP X pins σ Q) X.xe s
def CallR (X : Cx) (f : Value) (r : List V → Hp → VK → Prop) : Prop :=
 ∀ (pins : List (Addr × Obj)) (s : Shared) (σ : St) (H : Hp) (xs : List V) (us : List Value) (Q : VK), Inv X pins σ H s → Vals xs us → r xs H Q →
   wpAny (model X.prog X.w) X.A (call f us) (EP X pins σ Q) X.xe s
def tOp (r : R2) (ta tb : TE) : TE := fun σ H Q => ta σ H fun x H1 => tb σ H1 fun y H2 => r x y H2 Q
def tUn (r : V → Hp → VK → Prop) (ta : TE) : TE := fun σ H Q => ta σ H fun x H1 => r x H1 Q
def rI (C : Int → Int → Prop) (g : Int → Int → V) : R2 := fun x y H Q => ∃ i j, x = .int i ∧ y = .int j ∧ C i j ∧ Q (g i j) H
def rI0 (g : Int → Int → V) : R2 := fun x y H Q => ∃ i j, x = .int i ∧ y = .int j ∧ Q (g i j) H
def rU (g : Int → V) : V → Hp → VK → Prop := fun x H Q => ∃ i, x = .int i ∧ Q (g i) H
section
variable {X : Cx} {a b c : Expr} {ta tb tc : TE} {pos : Pos}
theorem binT (ha : PE X a ta) (hb : PE X b tb) {pins : List (Addr × Obj)} {s : Shared} {σ : St} {H : Hp} {R : V → V → Hp → Prop} (I : Inv X pins σ H s)
 (h : ta σ H fun x H1 => tb σ H1 fun y H2 => R x y H2) {Q : Value → Shared → Prop} {f : Value → Value → Sem Value}
 (hf : ∀ v u s2 x y H2, Inv X pins σ H2 s2 → RelV x v → RelV y u → R x y H2 → wpAny (model X.prog X.w) X.A (f v u) Q X.xe s2) :
 wpAny (model X.prog X.w) X.A (eval a X.env) (fun v s₁ => wpAny (model X.prog X.w) X.A (eval b X.env) (fun u s₂ => wpAny (model X.prog X.w) X.A (f v u) Q X.xe s₂) X.xe s₁) X.xe s := by
 refine thn (ha pins s σ H _ I h) fun v s1 ⟨x, H1, I1, r1, q1⟩ => ?_
 refine thn (hb pins s1 σ H1 _ I1 q1) fun u s2 ⟨y, H2, I2, r2, q2⟩ => ?_
 exact hf v u s2 x y H2 I2 r1 r2 q2
theorem pe_op {op : Operator} {r : R2} (ho : OpR X (binaryOp op) r) (ha : PE X a ta) (hb : PE X b tb) : PE X (.BinOp a op b pos) (tOp r ta tb) := by
 intro pins s σ H Q I h
 exact wpAny_BinOp (binT ha hb I h fun v u s2 x y H2 I2 rx ry q => ho pins s2 σ H2 x y v u Q I2 rx ry q)
theorem pe_un {op : UnaryOp} {r : V → Hp → VK → Prop} (ho : UnR X (unaryOp op) r) (ha : PE X a ta) : PE X (.UnaryOp op a pos) (tUn r ta) := by
 intro pins s σ H Q I h
 exact UnaryOp_ (thn (ha pins s σ H _ I h) fun v s1 ⟨x, H1, I1, r1, q1⟩ => ho pins s1 σ H1 x v Q I1 r1 q1)
theorem opI {f : Value → Value → Sem Value} {C : Int → Int → Prop} {g : Int → Int → Int}
 (rule : ∀ (i j : Int) (t u : Tok) (s : Shared) (Q : Value → Shared → Prop) (E : Value → Shared → Prop), C i j → Q (.int (g i j) s.toks) { s with toks := s.toks + 1 } → wpAny (model X.prog X.w) X.A (f (.int i t) (.int j u)) Q E s) :
 OpR X f (rI C fun i j => .int (g i j)) := by
 intro pins s σ H x y v u Q I rx ry h
 obtain ⟨i, j, rfl, rfl, hc, q⟩ := h
 obtain ⟨t, rfl⟩ := rx
 obtain ⟨t', rfl⟩ := ry
 exact rule i j t t' s _ _ hc ⟨.int (g i j), H, I.tok _, ⟨_, rfl⟩, q⟩
theorem opI0 {f : Value → Value → Sem Value} {g : Int → Int → Int}
 (rule : ∀ (i j : Int) (t u : Tok) (s : Shared) (Q : Value → Shared → Prop) (E : Value → Shared → Prop), Q (.int (g i j) s.toks) { s with toks := s.toks + 1 } → wpAny (model X.prog X.w) X.A (f (.int i t) (.int j u)) Q E s) :
 OpR X f (rI0 fun i j => .int (g i j)) := by
 intro pins s σ H x y v u Q I rx ry h
 obtain ⟨i, j, rfl, rfl, q⟩ := h
 obtain ⟨t, rfl⟩ := rx
 obtain ⟨t', rfl⟩ := ry
 exact rule i j t t' s _ _ ⟨.int (g i j), H, I.tok _, ⟨_, rfl⟩, q⟩
theorem opB0 {f : Value → Value → Sem Value} {g : Int → Int → Bool}
 (rule : ∀ (i j : Int) (t u : Tok) (s : Shared) (Q : Value → Shared → Prop) (E : Value → Shared → Prop), Q (.bool (g i j)) s → wpAny (model X.prog X.w) X.A (f (.int i t) (.int j u)) Q E s) :
 OpR X f (rI0 fun i j => .bl (g i j)) := by
 intro pins s σ H x y v u Q I rx ry h
 obtain ⟨i, j, rfl, rfl, q⟩ := h
 obtain ⟨t, rfl⟩ := rx
 obtain ⟨t', rfl⟩ := ry
 exact rule i j t t' s _ _ ⟨.bl (g i j), H, I, rfl, q⟩
def CDiv (i j : Int) : Prop := 0 < j ∧ j < 1073741824
def CPow (i j : Int) : Prop := 0 ≤ j ∧ j ≤ 1000000 ∧ i.natAbs < 2 ^ 64
def CMul (i j : Int) : Prop := (-(2 ^ 64) < i ∧ i < 2 ^ 64) ∨ (-(2 ^ 64) < j ∧ j < 2 ^ 64)
theorem CMul.ok {i j : Int} (h : CMul i j) : IntMulOk i j := by
 rcases h with ⟨h1, h2⟩ | ⟨h1, h2⟩
 ·exact .of_left (intBits_le_64 h1 h2)
 ·exact .of_right (intBits_le_64 h1 h2)
theorem op_add : OpR X (binaryOp .Add) (rI0 fun i j => .int (i + j)) := opI0 fun _ _ _ _ _ _ _ q => add_int q
theorem op_sub : OpR X (binaryOp .Sub) (rI0 fun i j => .int (i - j)) := opI0 fun _ _ _ _ _ _ _ q => sub_int q
theorem op_fdiv : OpR X (binaryOp .FloorDiv) (rI CDiv fun i j => .int (i / j)) := opI fun i j _ _ _ _ _ hc q => by
 have h1 : (0 : Int) < j := hc.1
 have h2 : j < 1073741824 := hc.2
 exact floordiv_int (by omega) (by rw [Int.fdiv_eq_ediv_of_nonneg i (by omega)]; exact q) (.inl (PyProof.noPylong_small (by omega)))
theorem op_mod : OpR X (binaryOp .Mod) (rI (fun _ j => 0 < j) fun i j => .int (i % j)) := opI fun i j _ _ _ _ _ hc q => by
 have h1 : (0 : Int) < j := hc
 exact mod_int' (by omega) (by rw [Int.fmod_eq_emod_of_nonneg i (by omega)]; exact q)
theorem op_modN : OpR X (binaryOp .Mod) (rI (fun _ j => j ≠ 0) fun i j => .int (i.fmod j)) := opI fun _ _ _ _ _ _ _ hc q => mod_int' hc q
theorem op_pow : OpR X (binaryOp .Pow) (rI CPow fun i j => .int (i ^ j.toNat)) := opI fun _ _ _ _ _ _ _ hc q => pow_int_small hc.1 hc.2.1 hc.2.2 q
theorem unI {f : Value → Sem Value} {g : Int → Int}
 (rule : ∀ (i : Int) (t : Tok) (s : Shared) (Q : Value → Shared → Prop) (E : Value → Shared → Prop), Q (.int (g i) s.toks) { s with toks := s.toks + 1 } → wpAny (model X.prog X.w) X.A (f (.int i t)) Q E s) :
 UnR X f (rU fun i => .int (g i)) := by
 intro pins s σ H x v Q I rx h
 obtain ⟨i, rfl, q⟩ := h
 obtain ⟨t, rfl⟩ := rx
 exact rule i t s _ _ ⟨.int (g i), H, I.tok _, ⟨_, rfl⟩, q⟩
theorem un_neg : UnR X (unaryOp .USub) (rU fun i => .int (-i)) := unI fun _ _ _ _ _ q => neg_int q
end
def scal : V → V → Bool
 | .non, .non => true | .non, .int _ => true | .int _, .non => true | .non, .bl _ => true | .bl _, .non => true | .non, .str _ => true | .str _, .non => true
 | .int _, .int _ => true | .bl _, .bl _ => true | .str _, .str _ => true | .byt _, .byt _ => true
 | .int _, .str _ => true | .str _, .int _ => true | .bl _, .str _ => true | .str _, .bl _ => true
 | _, _ => false
def rEq : R2 := fun x y H Q => scal x y = true ∧ Q (.bl (decide (x = y))) H
def rNe : R2 := fun x y H Q => scal x y = true ∧ Q (.bl (!decide (x = y))) H
theorem dec_int {i j : Int} : decide (V.int i = V.int j) = (i == j) := by
 rw [Bool.eq_iff_iff]
 simp
theorem dec_bl {i j : Bool} : decide (V.bl i = V.bl j) = (i == j) := by
 rw [Bool.eq_iff_iff]
 simp
theorem dec_str {i j : Str} : decide (V.str i = V.str j) = (i == j) := by
 rw [Bool.eq_iff_iff]
 simp
theorem dec_byt {i j : Array UInt8} : decide (V.byt i = V.byt j) = (i.toList == j.toList) := by
 rw [Bool.eq_iff_iff]
 cases i
 cases j
 simp
section
variable {X : Cx} {a b c : Expr} {ta tb tc : TE} {pos : Pos}
theorem fin_bl {pins : List (Addr × Obj)} {σ : St} {H : Hp} {s : Shared} {Q : VK} {k k' : Bool} (I : Inv X pins σ H s) (q : Q (.bl k) H) (e : k = k') : EP X pins σ Q (.bool k') s := by
 subst e
 exact ⟨.bl k, H, I, rfl, q⟩
theorem op_eq : OpR X (compareOp .Eq) rEq := by
 intro pins s σ H x y v u Q I rx ry h
 obtain ⟨hs, q⟩ := h
 cases x with
 | non =>
   cases rx
   cases y with
   | non => cases ry; exact PySem.EqNone.eq_none_none (fin_bl I q (by simp))
   | bl j => cases ry; exact PySem.EqNone.eq_none_bool (fin_bl I q (by simp))
   | int j => obtain ⟨t', rfl⟩ := ry; exact PySem.EqNone.eq_none_int (fin_bl I q (by simp))
   | str j => obtain ⟨t', rfl⟩ := ry; exact PySem.EqNone.eq_none_str (fin_bl I q (by simp))
   | _ => exact absurd (show false = true from hs) Bool.false_ne_true
 | bl i =>
   cases rx
   cases y with
   | non => cases ry; exact PySem.EqNone.eq_bool_none (fin_bl I q (by simp))
   | bl j => cases ry; exact eq_bool (fin_bl I q dec_bl)
   | str j => obtain ⟨t', rfl⟩ := ry; exact PySem.EqMixed.eq_bool_str (fin_bl I q (by simp))
   | _ => exact absurd (show false = true from hs) Bool.false_ne_true
 | int i =>
   obtain ⟨t, rfl⟩ := rx
   cases y with
   | non => cases ry; exact PySem.EqNone.eq_int_none (fin_bl I q (by simp))
   | int j => obtain ⟨t', rfl⟩ := ry; exact eq_int (fin_bl I q dec_int)
   | str j => obtain ⟨t', rfl⟩ := ry; exact PySem.EqMixed.eq_int_str (fin_bl I q (by simp))
   | _ => exact absurd (show false = true from hs) Bool.false_ne_true
 | str i =>
   obtain ⟨t, rfl⟩ := rx
   cases y with
   | non => cases ry; exact PySem.EqNone.eq_str_none (fin_bl I q (by simp))
   | bl j => cases ry; exact PySem.EqMixed.eq_str_bool (fin_bl I q (by simp))
   | int j => obtain ⟨t', rfl⟩ := ry; exact PySem.EqMixed.eq_str_int (fin_bl I q (by simp))
   | str j => obtain ⟨t', rfl⟩ := ry; exact eq_str (fin_bl I q dec_str)
   | _ => exact absurd (show false = true from hs) Bool.false_ne_true
 | byt i =>
   obtain ⟨t, rfl⟩ := rx
   cases y with
   | byt j => obtain ⟨t', rfl⟩ := ry; exact PySem.W.eq_bytes (fin_bl I q dec_byt)
   | _ => exact absurd (show false = true from hs) Bool.false_ne_true
 | _ => cases y <;> exact absurd (show false = true from hs) Bool.false_ne_true
theorem op_ne : OpR X (compareOp .NotEq) rNe := by
 intro pins s σ H x y v u Q I rx ry h
 obtain ⟨hs, q⟩ := h
 cases x with
 | non =>
   cases rx
   cases y with
   | non => cases ry; exact PySem.EqNone.ne_none_none (fin_bl I q (by simp))
   | bl j => cases ry; exact PySem.EqNone.ne_none_bool (fin_bl I q (by simp))
   | int j => obtain ⟨t', rfl⟩ := ry; exact PySem.EqNone.ne_none_int (fin_bl I q (by simp))
   | str j => obtain ⟨t', rfl⟩ := ry; exact PySem.EqNone.ne_none_str (fin_bl I q (by simp))
   | _ => exact absurd (show false = true from hs) Bool.false_ne_true
 | bl i =>
   cases rx
   cases y with
   | non => cases ry; exact PySem.EqNone.ne_bool_none (fin_bl I q (by simp))
   | bl j => cases ry; exact ne_bool (fin_bl I q (congrArg not dec_bl))
   | str j => obtain ⟨t', rfl⟩ := ry; exact PySem.EqMixed.ne_bool_str (fin_bl I q (by simp))
   | _ => exact absurd (show false = true from hs) Bool.false_ne_true
 | int i =>
   obtain ⟨t, rfl⟩ := rx
   cases y with
   | non => cases ry; exact PySem.EqNone.ne_int_none (fin_bl I q (by simp))
   | int j => obtain ⟨t', rfl⟩ := ry; exact ne_int (fin_bl I q (congrArg not dec_int))
   | str j => obtain ⟨t', rfl⟩ := ry; exact PySem.EqMixed.ne_int_str (fin_bl I q (by simp))
   | _ => exact absurd (show false = true from hs) Bool.false_ne_true
 | str i =>
   obtain ⟨t, rfl⟩ := rx
   cases y with
   | non => cases ry; exact PySem.EqNone.ne_str_none (fin_bl I q (by simp))
   | bl j => cases ry; exact PySem.EqMixed.ne_str_bool (fin_bl I q (by simp))
   | int j => obtain ⟨t', rfl⟩ := ry; exact PySem.EqMixed.ne_str_int (fin_bl I q (by simp))
   | str j => obtain ⟨t', rfl⟩ := ry; exact ne_str (fin_bl I q (congrArg not dec_str))
   | _ => exact absurd (show false = true from hs) Bool.false_ne_true
 | byt i =>
   obtain ⟨t, rfl⟩ := rx
   cases y with
   | byt j => obtain ⟨t', rfl⟩ := ry; exact PySem.W.ne_bytes (fin_bl I q (congrArg not dec_byt))
   | _ => exact absurd (show false = true from hs) Bool.false_ne_true
 | _ => cases y <;> exact absurd (show false = true from hs) Bool.false_ne_true
theorem op_lt : OpR X (compareOp .Lt) (rI0 fun i j => .bl (decide (i < j))) := opB0 fun _ _ _ _ _ _ _ q => lt_int q
theorem op_le : OpR X (compareOp .LtE) (rI0 fun i j => .bl (decide (i ≤ j))) := opB0 fun _ _ _ _ _ _ _ q => le_int q
theorem op_gt : OpR X (compareOp .Gt) (rI0 fun i j => .bl (decide (j < i))) := opB0 fun _ _ _ _ _ _ _ q => gt_int q
theorem OpR.or {f : Value → Value → Sem Value} {r r' : R2} (h : OpR X f r) (h' : OpR X f r') : OpR X f (fun x y H Q => r x y H Q ∨ r' x y H Q) := by
 intro pins s σ H x y v u Q I rx ry q
 rcases q with q | q
 ·exact h pins s σ H x y v u Q I rx ry q
 ·exact h' pins s σ H x y v u Q I rx ry q
theorem nomark (b : Expr) {op : CmpOp} (h : op ≠ .In := by decide) (h2 : op ≠ .NotIn := by decide) : behindInMarks op b = false := by
 have e1 : (op == CmpOp.In) = false := by cases op <;> first | rfl | exact absurd rfl h
 have e2 : (op == CmpOp.NotIn) = false := by cases op <;> first | rfl | exact absurd rfl h2
 cases b <;> simp [behindInMarks, e1, e2]
theorem pe_cmpR {op : CmpOp} {r : R2} (ho : OpR X (compareOp op) r) (ha : PE X a ta) (hb : PE X b tb) (hm : behindInMarks op b = false) : PE X (.Compare a [op] [b] pos) (tOp r ta tb) := by
 intro pins s σ H Q I h
 exact wpAny_Compare1 (binT ha hb I h fun v u s2 x y H2 I2 rx ry q => ho pins s2 σ H2 x y v u Q I2 rx ry q) hm
def tTest (t : TE) : TT := fun σ H Q => t σ H fun x H' => ∃ k, x = .bl k ∧ Q k H'
theorem pt_cmpR {op : CmpOp} {r : R2} (ho : OpR X (compareOp op) r) (ha : PE X a ta) (hb : PE X b tb) (hm : behindInMarks op b = false) : PT X (.Compare a [op] [b] pos) (tTest (tOp r ta tb)) := by
 intro pins s σ H Q I h
 refine wpAny_isTrue_Compare1 (thn (ha pins s σ H _ I h) fun v s1 ⟨x, H1, I1, r1, q1⟩ => thn (hb pins s1 σ H1 _ I1 q1) fun u s2 ⟨y, H2, I2, r2, q2⟩ =>
  thn (ho pins s2 σ H2 x y v u _ I2 r1 r2 q2) fun c s3 ⟨z, H3, I3, r3, k, e, q3⟩ => ?_) hm
 subst e
 cases r3
 exact wpAny_truthy_bool ⟨H3, I3, q3⟩
theorem line63 : (sizeLine : Nat) < 2 ^ 63 := by rw [sizeLine_eq]; decide
theorem vals1 {x : V} {us : List Value} (r : Vals [x] us) : ∃ u, us = [u] ∧ RelV x u := by
 cases r with
 | cons r1 r2 => cases r2; exact ⟨_, rfl, r1⟩
theorem vals2 {x y : V} {us : List Value} (r : Vals [x, y] us) : ∃ u w', us = [u, w'] ∧ RelV x u ∧ RelV y w' := by
 cases r with
 | cons r1 r2 =>
   cases r2 with
   | cons r3 r4 => cases r4; exact ⟨_, _, rfl, r1, r3⟩
theorem call_abs : CallR X (.builtin "abs") (fun xs H Q => ∃ i, xs = [.int i] ∧ Q (.int (if i < 0 then -i else i)) H) := by
 intro pins s σ H xs us Q I r h
 obtain ⟨i, rfl, q⟩ := h
 obtain ⟨u, rfl, t, rfl⟩ := vals1 r
 exact call_abs_int fun u tk => ⟨.int (if i < 0 then -i else i), H, I.tok _, ⟨_, rfl⟩, q⟩
theorem call_min2 (hc : X.calm = true) : CallR X (.builtin "min") (fun xs H Q => ∃ i j, xs = [.int i, .int j] ∧ Q (.int (if j < i then j else i)) H) := by
 intro pins s σ H xs us Q I r h
 obtain ⟨i, j, rfl, q⟩ := h
 obtain ⟨u, w', rfl, ⟨t, rfl⟩, ⟨t', rfl⟩⟩ := vals2 r
 refine min_two_ints (I.ok.hd hc) fun h' tk k => ⟨_, H, I.kept k, ?_, q⟩
 by_cases hj : j < i
 ·rw [if_pos hj, if_pos hj]; exact ⟨_, rfl⟩
 ·rw [if_neg hj, if_neg hj]; exact ⟨_, rfl⟩
end
end L2
namespace L2
open PySem PySem.Spec PyProof.Rows
structure ObjM (h : Heap) (x dx C : Addr) (mA : Str → Option Value) : Prop where
 obj : h.get? x = some (PySem.W.instObj C dx)
 ns : h.Ns1 dx mA
 ne : dx ≠ x
theorem lookIn_ns {h : Heap} {dx : Addr} {mA : Str → Option Value} (n : h.Ns1 dx mA) : ∃ od, h.get? dx = some od ∧ ∀ name, PySem.W.lookIn name od = some (mA name) := by
 obtain ⟨o, es, ep, ho, hd, hk, _, hm⟩ := n
 refine ⟨o, ho, fun name => ?_⟩
 have e := hm name
 unfold nsFind findBy at e
 rw [← Array.find?_toList] at e
 unfold PySem.W.lookIn
 rw [hd]
 dsimp only
 split
 ·rename_i y q
  rw [q] at e
  exact congrArg some e
 ·rename_i q
  rw [q] at e
  have a : es.toList.any (·.refKey) = false := by
   rw [List.any_eq_false]
   intro y hy
   obtain ⟨z, t, hkey⟩ := hk y (Array.mem_toList_iff.mp hy)
   simp [DictEntry.refKey, hkey]
  have a' : ¬ es.toList.any (·.refKey) = true := by rw [a]; exact Bool.false_ne_true
  rw [if_neg a']
  exact congrArg some e
theorem ObjM.look {h : Heap} {x dx C : Addr} {mA : Str → Option Value} (I : ObjM h x dx C mA) : ∃ od, PySem.W.InstAt h x (PySem.W.instObj C dx) C (some od) ∧ ∀ name, PySem.W.lookIn name od = some (mA name) :=
 let ⟨od, ho, hl⟩ := lookIn_ns I.ns
 ⟨od, ⟨I.obj, rfl, rfl, ho⟩, hl⟩
section
variable {prog : Program} {w : World} {A : Around} {E : Value → Shared → Prop} {s : Shared} {K : PySem.W.Frag} {x dx C f : Addr} {mA : Str → Option Value} {name : Str} {v : Value}
theorem get_map {expr : Bool} {Q : Value → Shared → Prop} (X : K.In s.heap) (I : ObjM s.heap x dx C mA) (hg : PySem.W.plainGet K C name = true) (hh : PySem.W.hasDictIn K C = true)
 (ha : PySem.W.findIn K (.ref C) name = some none) (hv : mA name = some v) (hv' : PySem.W.handedIn v = true) (h : Q v { s with toks := s.toks + 1 }) :
 wpAny (model prog w) A (getAttr (.ref x) name expr) Q E s := by
 obtain ⟨od, J, hl⟩ := I.look
 exact PySem.W.get_value X J (PySem.W.plainGet_of hg).1 (PySem.W.findObj_own hh ha rfl (by rw [hl, hv])) hv' h
theorem get_meth {pl : Sem Bool} {Q : Value × List Value → Shared → Prop} (X : K.In s.heap) (I : ObjM s.heap x dx C mA) (hg : PySem.W.plainGet K C name = true)
 (hf : PySem.W.findIn K (.ref C) name = some (some (.ref f))) (ht : PySem.W.isFn K (.ref f) = true) (hv : mA name = none) (h : Q (.ref f, [.ref x]) s) :
 wpAny (model prog w) A (getMethod (.ref x) name pl) Q E s := by
 obtain ⟨od, J, hl⟩ := I.look
 exact PySem.W.method_fn X J (PySem.W.plainGet_of hg).1 (PySem.W.plainGet_of hg).2 hf (beq_iff_eq.mp ht) (by show (PySem.W.lookIn name od).map (·.isSome) = some false; rw [hl, hv]; rfl) h
theorem set_map {ns : List Str} {Q : Unit → Shared → Prop} (X : K.In s.heap) (I : ObjM s.heap x dx C mA)
 (hs : PySem.W.findIn K (.ref C) "__setattr__" = some (some (.builtin "object.__setattr__"))) (hp : PySem.W.plainOver K C = true) (ht : PySem.W.takerIn K C name = some none) (hh : PySem.W.hasDictIn K C = true)
 (hw : PySem.Within mA ns) (hsz : ns.length ≤ sizeLine)
 (h : ∀ h', ObjM h' x dx C (fun y => if y = name then some v else mA y) → Heap.SameBut dx s.heap h' → Q () { s with heap := h', toks := s.toks + 2 }) :
 wpAny (model prog w) A (setAttr (.ref x) name v) Q E s := by
 obtain ⟨od, J, hl⟩ := I.look
 refine PySem.W.set_plain X J hs (PySem.W.osa_open (s := { s with toks := s.toks + 1 }) (r := none) X J hp ht fun b => ?_)
 obtain ⟨cd, hc, hd'⟩ := PySem.W.any_some hh
 have hx : s.heap.get? x = some ⟨.ref C, some dx, .plain, #[]⟩ := I.obj
 refine wpAny_bind (wpAny_pure (wpAny_bind (wpAny_bind (wpAny_loadPart hx (wpAny_bind (PySem.W.Looks.here (s := { s with toks := s.toks + 1 }) (PySem.W.looks_clsIn X hc) ?_))))))
 rw [hd']
 refine wpAny_pure (a := some dx) (wpAny_bind (wpAny_pure (wpAny_bind ?_)))
 refine wpAny_nsSet1 (s := { s with toks := s.toks + 1 }) I.ns fun h' hn2 hs2 => ?_
 obtain ⟨oD, esD, epD, hoD, hdD, hcD⟩ := hn2.count (PySem.Within.cons name v hw)
 refine wpAny_bind (wpAny_lookBehind hoD (by rw [hdD]; exact pastItsLine_dict (Nat.le_trans hcD (by rw [List.length_cons]; omega))) ?_)
 exact wpAny_pure (h _ ⟨(hs2.2 _ (Ne.symm I.ne)).trans I.obj, hn2, I.ne⟩ hs2)
theorem make_map {R : Result → Shared → Prop} {vs : List Value} {kw : List (Str × Value)} (X : K.In s.heap) (hm : PySem.W.makesIn K C = true)
 (hi : PySem.W.findIn K (.ref C) "__init__" = some (some (.ref f))) (hf : PySem.W.typeIn K (.ref f) = some (.type "function"))
 (h : codeAny (model prog w) (A.under (.builtin "type.__call__" ⟨.ref C :: vs, kw⟩)) (.call (.ref f) ⟨.ref (s.heap.objs.size + 1) :: vs, kw⟩) (PySem.W.InitBack (s.heap.objs.size + 1) R)
  { s with heap := (s.heap.push PySem.W.emptyDict).push (PySem.W.instObj C s.heap.objs.size) }) :
 codeAny (model prog w) A (.call (.ref C) ⟨vs, kw⟩) R s := by
 obtain ⟨hh, g, d, t, os⟩ := s
 exact PySem.W.make_core (PySem.W.makes_of X hm) (PySem.W.looks_findIn X hi) (fun self => PySem.W.bind_fn X self hf) (.inl rfl) h
end
def putF (f : Str) (v : V) : List (Str × V) → List (Str × V)
 | [] => [(f, v)]
 | (g, x) :: r => if g = f then (g, v) :: r else (g, x) :: putF f v r
theorem lookup_putF (f g : Str) (v : V) : ∀ fs : List (Str × V), (putF f v fs).lookup g = if g = f then some v else fs.lookup g
 | [] => by
   show List.lookup g [(f, v)] = _
   by_cases h : g = f
   ·have hb : (g == f) = true := beq_iff_eq.mpr h
    simp only [List.lookup, hb, if_pos h]
   ·have hb : (g == f) = false := beq_eq_false_iff_ne.mpr h
    simp only [List.lookup, hb, if_neg h]
 | (k, x) :: r => by
   have ih := lookup_putF f g v r
   rw [show putF f v ((k, x) :: r) = (if k = f then (k, v) :: r else (k, x) :: putF f v r) from rfl]
   by_cases hk : k = f
   ·rw [if_pos hk]
    by_cases h : g = k
    ·have hb : (g == k) = true := beq_iff_eq.mpr h
     simp only [List.lookup, hb, if_pos (h.trans hk)]
    ·have hb : (g == k) = false := beq_eq_false_iff_ne.mpr h
     simp only [List.lookup, hb, if_neg (fun e : g = f => h (e.trans hk.symm))]
   ·rw [if_neg hk]
    by_cases h : g = k
    ·have hb : (g == k) = true := beq_iff_eq.mpr h
     simp only [List.lookup, hb, if_neg (fun e : g = f => hk (h.symm.trans e))]
    ·have hb : (g == k) = false := beq_eq_false_iff_ne.mpr h
     simp only [List.lookup, hb]
     exact ih
theorem keys_putF (f : Str) (v : V) : ∀ fs : List (Str × V), f ∈ (putF f v fs).map (·.1) ∧ ∀ g, g ∈ fs.map (·.1) → g ∈ (putF f v fs).map (·.1)
 | [] => ⟨by simp [putF], fun g h => by simp at h⟩
 | (k, x) :: r => by
   obtain ⟨i1, i2⟩ := keys_putF f v r
   rw [show putF f v ((k, x) :: r) = (if k = f then (k, v) :: r else (k, x) :: putF f v r) from rfl]
   by_cases hk : k = f
   ·rw [if_pos hk]
    subst hk
    exact ⟨by simp, fun g h => by simpa using h⟩
   ·rw [if_neg hk]
    refine ⟨?_, fun g h => ?_⟩
    ·rw [List.map_cons]
     exact List.mem_cons_of_mem _ i1
    ·rw [List.map_cons] at h ⊢
     rcases List.mem_cons.mp h with e | e
     ·exact List.mem_cons.mpr (.inl e)
     ·exact List.mem_cons_of_mem _ (i2 g e)
theorem length_putF (f : Str) (v : V) : ∀ fs : List (Str × V), (putF f v fs).length ≤ fs.length + 1
 | [] => by simp [putF]
 | (k, x) :: r => by
   have ih := length_putF f v r
   rw [show putF f v ((k, x) :: r) = (if k = f then (k, v) :: r else (k, x) :: putF f v r) from rfl]
   by_cases hk : k = f
   ·rw [if_pos hk, List.length_cons, List.length_cons]; omega
   ·rw [if_neg hk, List.length_cons, List.length_cons]; omega
theorem RelO.some_of {v : V} {o : Option Value} (r : RelO (some v) o) : ∃ u, o = some u ∧ RelV v u := by
 cases o with
 | none => exact (show False from r).elim
 | some u => exact ⟨u, rfl, r⟩
theorem RelO.none_of {o : Option Value} (r : RelO none o) : o = none := by
 cases o with
 | none => rfl
 | some u => exact (show False from r).elim
theorem handed_of {v : V} {u : Value} (r : RelV v u) : PySem.W.handedIn u = true := by
 cases v with
 | non => cases (show u = Value.none from r); rfl
 | bl b => cases (show u = Value.bool b from r); rfl
 | int i => obtain ⟨t, e⟩ := (show ∃ t, u = Value.int i t from r); cases e; rfl
 | str x => obtain ⟨t, e⟩ := (show ∃ t, u = Value.str x t from r); cases e; rfl
 | byt b => obtain ⟨t, e⟩ := (show ∃ t, u = Value.bytes b t from r); cases e; rfl
 | flt b => obtain ⟨t, e⟩ := (show ∃ t, u = Value.float b t from r); cases e; rfl
 | ref a => cases (show u = Value.ref a from r); rfl
 | ty n => cases (show u = Value.type n from r); rfl
section
variable {P : Program} {w : World} {H H' : Hp} {h h' : Heap} {a C dx : Addr} {fs fs' : List (Str × V)}
theorem ins_get (hok : HOk P w H h) (e : H a = some (.ins C dx fs)) : ∃ mA, ObjM h a dx C mA ∧ (∀ f, RelO (fs.lookup f) (mA f)) ∧ PySem.Within mA (fs.map (·.1)) ∧ fs.length ≤ 1000 ∧ H dx = some (.own a) := by
 obtain ⟨d, z, ne, ob, mA, n, r, q⟩ := (show ObjOk P w H h a (.ins C dx fs) from hok a _ e)
 exact ⟨mA, ⟨ob, n, ne⟩, r, q, z, d⟩
end
structure Cls (K : PySem.W.Frag) (C : Addr) : Prop where
 pg : PySem.W.plainGet K C Str.empty = true
 hd : PySem.W.hasDictIn K C = true
 po : PySem.W.plainOver K C = true
 sa : PySem.W.findIn K (.ref C) "__setattr__" = some (some (.builtin "object.__setattr__"))
theorem Cls.get {K : PySem.W.Frag} {C : Addr} (c : Cls K C) (f : Str) : PySem.W.plainGet K C f = true := c.pg
def NoAttr (K : PySem.W.Frag) (C : Addr) (f : Str) : Prop := PySem.W.findIn K (.ref C) f = some none
theorem NoAttr.taker {K : PySem.W.Frag} {C : Addr} {f : Str} (n : NoAttr K C f) : PySem.W.takerIn K C f = some none := by
 unfold PySem.W.takerIn
 rw [show PySem.W.findIn K (.ref C) f = some none from n]
 rfl
structure Meth (K : PySem.W.Frag) (C : Addr) (m : Str) (f : Addr) : Prop where
 at_ : PySem.W.findIn K (.ref C) m = some (some (.ref f))
 fn : PySem.W.isFn K (.ref f) = true
 kp : PySem.W.keepIn K (.ref f) = true
section
variable {X : Cx} {pins : List (Addr × Obj)} {σ : St} {H : Hp} {s : Shared} {a C dx : Addr} {fs : List (Str × V)} {f : Str} {v : V} {A : Around} {E : Value → Shared → Prop}
theorem getattr_ok {b : Bool} {Q : Value → Shared → Prop} (I : Inv X pins σ H s) (e : H a = some (.ins C dx fs)) (c : Cls X.K C) (n : NoAttr X.K C f) (l : fs.lookup f = some v)
 (h : ∀ u s', Inv X pins σ H s' → RelV v u → Q u s') : wpAny (model X.prog X.w) A (getAttr (.ref a) f b) Q E s := by
 obtain ⟨mA, O, r, _, _, _⟩ := ins_get I.hok e
 obtain ⟨u, hu, ru⟩ := RelO.some_of (v := v) (o := mA f) (by rw [← l]; exact r f)
 exact get_map I.kIn O (c.get f) c.hd n hu (handed_of ru) (h u _ (I.tok _) ru)
theorem getmeth_ok {m : Str} {g : Addr} {pl : Sem Bool} {Q : Value × List Value → Shared → Prop} (I : Inv X pins σ H s) (e : H a = some (.ins C dx fs)) (c : Cls X.K C) (k : Meth X.K C m g) (l : fs.lookup m = none)
 (h : Q (.ref g, [.ref a]) s) : wpAny (model X.prog X.w) A (getMethod (.ref a) m pl) Q E s := by
 obtain ⟨mA, O, r, _, _, _⟩ := ins_get I.hok e
 have hn : mA m = none := RelO.none_of (by rw [← l]; exact r m)
 exact get_meth I.kIn O (c.get m) k.at_ k.fn hn h
theorem setattr_ok {y : V} {u : Value} {Q : Unit → Shared → Prop} (I : Inv X pins σ H s) (e : H a = some (.ins C dx fs)) (c : Cls X.K C) (n : NoAttr X.K C f) (hl : fs.length < 1000) (ry : RelV y u)
 (h : ∀ s', Inv X pins σ (upd H a (.ins C dx (putF f y fs))) s' → Q () s') : wpAny (model X.prog X.w) A (setAttr (.ref a) f u) Q E s := by
 obtain ⟨mA, O, r, wi, _, ho⟩ := ins_get I.hok e
 have hz : (fs.map (·.1)).length ≤ sizeLine := by rw [List.length_map, sizeLine_eq]; omega
 refine set_map I.kIn O c.sa c.po n.taker c.hd wi hz fun h' O' sb => h _ ?_
 have hd : ∃ o, h'.get? dx = some o := let ⟨o, _, _, e', _⟩ := O'.ns; ⟨o, e'⟩
 refine I.write (x := a) (e := dx) (by rw [e]; exact True.intro) (.inr ho) (fun b q hb z => (sb.2 b hb).trans z) hd ?_
 refine ⟨by rw [upd_ne O.ne]; exact ho, ?_, O.ne, O'.obj, _, O'.ns, fun g => ?_, fun g hg => ?_⟩
 ·have := length_putF f y fs; omega
 ·show RelO ((putF f y fs).lookup g) (if g = f then some u else mA g)
  rw [lookup_putF]
  by_cases q : g = f
  ·rw [if_pos q, if_pos q]; exact ry
  ·rw [if_neg q, if_neg q]; exact r g
 ·by_cases q : g = f
  ·rw [q]; exact (keys_putF f y fs).1
  ·refine (keys_putF f y fs).2 g (wi g fun z => hg ?_)
   show (if g = f then some u else mA g) = none
   rw [if_neg q]; exact z
theorem Inv.made (I : Inv X pins σ H s) : Inv X pins σ (upd (upd H s.heap.objs.size (.own (s.heap.objs.size + 1))) (s.heap.objs.size + 1) (.ins C s.heap.objs.size []))
 { s with heap := (s.heap.push PySem.W.emptyDict).push (PySem.W.instObj C s.heap.objs.size) } := by
 have e1 : (s.heap.push PySem.W.emptyDict).get? s.heap.objs.size = some PySem.W.emptyDict := Heap.get?_push_size s.heap rfl
 have e2 : ((s.heap.push PySem.W.emptyDict).push (PySem.W.instObj C s.heap.objs.size)).get? (s.heap.objs.size + 1) = some (PySem.W.instObj C s.heap.objs.size) := by
  have := Heap.get?_push_size (s.heap.push PySem.W.emptyDict) (o := PySem.W.instObj C s.heap.objs.size) rfl
  rwa [Heap.size_push] at this
 have e3 : (s.heap.push PySem.W.emptyDict).Ns s.heap.objs.size (fun _ => none) := ⟨PySem.W.emptyDict, #[], _, e1, rfl, (fun e he => absurd he (by simp)), fun _ => rfl⟩
 have I1 := I.laid (a := s.heap.objs.size) (o := .own (s.heap.objs.size + 1)) (h' := s.heap.push PySem.W.emptyDict) (t' := s.toks) (fun b u q => Heap.get?_push_of_some _ q) (Nat.le_refl _) ⟨_, e1⟩
 refine I1.laid (a := s.heap.objs.size + 1) (o := .ins C s.heap.objs.size []) (t' := s.toks) (fun b u q => Heap.get?_push_of_some _ q) (Nat.le_of_eq (Heap.size_push _ _)) ?_
 have ne : s.heap.objs.size ≠ s.heap.objs.size + 1 := Nat.ne_of_lt (Nat.lt_succ_self _)
 refine ⟨by rw [upd_ne ne, upd_same], Nat.zero_le _, ne, e2, fun _ => none, (Heap.Ns1.of_empty e3).at fun o q => Heap.get?_push_of_some _ q, fun _ => True.intro, fun y hy => absurd rfl hy⟩
theorem attr_of {prog : Program} {w : World} {env : Env} {e : Expr} {f : Str} {pos : Pos} {s : Shared} {Q : Value → Shared → Prop} (hb : attributeBase e f env (eval e env) = eval e env)
 (h : wpAny (model prog w) A (eval e env) (fun o s₁ => wpAny (model prog w) A (getAttr o f true) Q E s₁) E s) : wpAny (model prog w) A (eval (.Attribute e f pos) env) Q E s :=
 Attribute_any_ h (by rw [arm_eval_Attribute, hb])
end
def tFld (K : PySem.W.Frag) (ta : TE) (f : Str) : TE := fun σ H Q => ta σ H fun x H1 => ∃ a C dx fs v, x = .ref a ∧ H1 a = some (.ins C dx fs) ∧ Cls K C ∧ NoAttr K C f ∧ fs.lookup f = some v ∧ Q v H1
def sFld (K : PySem.W.Frag) (ta tv : TE) (f : Str) : TS := fun D σ H => tv σ H fun y H1 => ta σ H1 fun x H2 => ∃ a C dx fs, x = .ref a ∧ H2 a = some (.ins C dx fs) ∧ Cls K C ∧ NoAttr K C f ∧ fs.length < 1000 ∧
 D.nx σ (upd H2 a (.ins C dx (putF f y fs)))
section
variable {X : Cx} {o e value : Expr} {f : Str} {pos pos' tpos : Pos} {ta tv : TE}
theorem pe_fld (he : PE X e ta) (hb : attributeBase e f X.env (eval e X.env) = eval e X.env) : PE X (.Attribute e f pos) (tFld X.K ta f) := by
 intro pins s σ H Q I h
 refine attr_of hb (thn (he pins s σ H _ I h) fun u s1 ⟨x, H1, I1, rx, a, C, dx, fs, v, ex, ea, c, n, l, q⟩ => ?_)
 subst ex
 obtain rfl : u = Value.ref a := rx
 exact getattr_ok I1 ea c n l fun u' s2 I2 ru => ⟨v, H1, I2, ru, q⟩
theorem ps_fld (ha : PE X o ta) (hv : PE X value tv) (hs : swapsWith value (some (.Attribute o f pos')) pos.line X.env = pure false) : PS X (.Assign [.Attribute o f pos'] value pos) (sFld X.K ta tv f) := by
 intro pins s σ H D I h
 refine plainObj_wpAny_Assign_Attribute (thn (hv pins s σ H _ I h) fun u s1 ⟨y, H1, I1, ry, q⟩ => thn (ha pins s1 σ H1 _ I1 q) fun ov s2 ⟨x, H2, I2, rx, a, C, dx, fs, ex, ea, c, n, l, q2⟩ => ?_) hs
 subst ex
 obtain rfl : ov = Value.ref a := rx
 exact setattr_ok I2 ea c n l ry fun s3 I3 => ⟨σ, _, I3, q2⟩
end
section
variable {X : Cx} {pins : List (Addr × Obj)} {σ : St} {H : Hp} {s : Shared} {A : Around} {E : Value → Shared → Prop} {Q : Value → Shared → Prop} {c : Value} {b : Bool}
inductive TyOf (K : PySem.W.Frag) (H : Hp) : V → Value → Prop where
 | non : TyOf K H .non (.type "NoneType")
 | bl (x : Bool) : TyOf K H (.bl x) (.type "bool")
 | int (i : Int) : TyOf K H (.int i) (.type "int")
 | str (x : Str) : TyOf K H (.str x) (.type "str")
 | flt (x : UInt64) : TyOf K H (.flt x) (.type "float")
 | lst {a : Addr} {xs : List V} (e : H a = some (.lst xs)) : TyOf K H (.ref a) (.type "list")
 | frz {a : Addr} {o : Obj} {xs : List V} (e : H a = some (.frz o (.lst xs))) : TyOf K H (.ref a) (.type "list")
 | tup {a : Addr} {xs : List V} (e : H a = some (.tup xs)) : TyOf K H (.ref a) (.type "tuple")
 | dK {a : Addr} {kvs : List (Key × V)} (e : H a = some (.dK kvs)) : TyOf K H (.ref a) (.type "dict")
 | dT {a : Addr} {kvs : List (List Key × V)} (e : H a = some (.dT kvs)) : TyOf K H (.ref a) (.type "dict")
 | ins {a C dx : Addr} {fs : List (Str × V)} (e : H a = some (.ins C dx fs)) (cl : Cls K C) (ha : PySem.W.findIn K (.ref C) "__class__" = some (some (.builtin "object.__class__")))
  (hn : PySem.W.specialIn K (.builtin "object.__class__") "__get__" = some (some (.builtin "getset_descriptor.__get__"))) (htk : PySem.W.takesIn K (.builtin "object.__class__") = some true)
  (hm : PySem.W.mroIn K C (.type "object") = some true) : TyOf K H (.ref a) (.ref C)
theorem isinst_ok {x : V} {u t : Value} (I : Inv X pins σ H s) (rx : RelV x u) (ty : TyOf X.K H x t) (e : PySem.W.kitOne X.K t c = some b) (h : ∀ tk, Q (.bool b) { s with toks := tk }) :
 wpAny (model X.prog X.w) A (call (.builtin "isinstance") [u, c]) Q E s := by
 cases ty with
 | non => cases (show u = Value.none from rx); exact PySem.W.kia_one PySem.W.kitx_none I.kIn True.intro e (fun z => nomatch z) h
 | bl y => cases (show u = Value.bool y from rx); exact PySem.W.kia_one PySem.W.kitx_bool I.kIn True.intro e (fun z => nomatch z) h
 | int i => obtain ⟨t, q⟩ := (show ∃ t, u = Value.int i t from rx); cases q; exact PySem.W.kia_one PySem.W.kitx_int I.kIn True.intro e (fun z => nomatch z) h
 | str y => obtain ⟨t, q⟩ := (show ∃ t, u = Value.str y t from rx); cases q; exact PySem.W.kia_one PySem.W.kitx_str I.kIn True.intro e (fun z => nomatch z) h
 | flt y => obtain ⟨t, q⟩ := (show ∃ t, u = Value.float y t from rx); cases q; exact PySem.W.kia_one PySem.W.kitx_float I.kIn True.intro e (fun z => nomatch z) h
 | @lst a xs ea =>
   cases (show u = Value.ref a from rx)
   obtain ⟨_, _, n, _, h1⟩ := (show ObjOk X.prog X.w H s.heap a (.lst xs) from I.hok a _ ea)
   exact PySem.W.kia_one PySem.W.kitx_list I.kIn ⟨_, h1, rfl⟩ e (fun z => nomatch z) h
 | @frz a ob xs ea =>
   cases (show u = Value.ref a from rx)
   obtain ⟨_, _, _, n, _, h1⟩ := (show ObjOk X.prog X.w H s.heap a (.frz ob (.lst xs)) from I.hok a _ ea)
   exact PySem.W.kia_one PySem.W.kitx_list I.kIn ⟨_, h1, rfl⟩ e (fun z => nomatch z) h
 | @tup a xs ea =>
   cases (show u = Value.ref a from rx)
   obtain ⟨_, _, _, p⟩ := (show ObjOk X.prog X.w H s.heap a (.tup xs) from I.hok a _ ea)
   obtain ⟨o, h1, h2, _⟩ := p
   exact PySem.W.kia_one PySem.W.kitx_tuple I.kIn ⟨o, h1, h2⟩ e (fun z => nomatch z) h
 | @dK a kvs ea =>
   cases (show u = Value.ref a from rx)
   obtain ⟨_, _, vs, _, p⟩ := (show ObjOk X.prog X.w H s.heap a (.dK kvs) from I.hok a _ ea)
   obtain ⟨o, es, ep, h1, h2, _⟩ := p
   exact PySem.W.kia_one PySem.W.kitx_dict I.kIn ⟨o, h1, h2.1⟩ e (fun z => nomatch z) h
 | @dT a kvs ea =>
   cases (show u = Value.ref a from rx)
   obtain ⟨_, _, xs, _, o, es, ep, h1, h2, _⟩ := (show ObjOk X.prog X.w H s.heap a (.dT kvs) from I.hok a _ ea)
   exact PySem.W.kia_one PySem.W.kitx_dict I.kIn ⟨o, h1, h2.1⟩ e (fun z => nomatch z) h
 | @ins a C dx fs ea cl ha hn htk hm =>
   cases (show u = Value.ref a from rx)
   obtain ⟨mA, O, _⟩ := ins_get I.hok ea
   obtain ⟨od, J, _⟩ := O.look
   exact PySem.W.kia_one (PySem.W.kitx_own (cl.get _) cl.hd ha hn htk hm) I.kIn J e (fun z => nomatch z) h
end
end L2
namespace L2
open PySem PySem.Spec PyProof.Rows
structure Room (k : Nat) (A : Around) : Prop where
 hd : A.handled = none
 dp : A.depth + 3 * k + 5 < recursionLimit
 un : A.units + 16 * k + 200 < cLine
theorem Room.mono {j k : Nat} {A : Around} (r : Room k A) (h : j ≤ k) : Room j A := ⟨r.hd, by have := r.dp; omega, by have := r.un; omega⟩
theorem Room.deeper {k : Nat} {A : Around} (r : Room (k + 1) A) (env : Env) : Room k (A.deeper env) :=
 ⟨r.hd, by have := r.dp; show A.depth + 1 + 3 * k + 5 < _; omega, by have := r.un; show A.units + 3 + 16 * k + 200 < _; omega⟩
theorem make_depth {A : Around} {C : Addr} {us : List Value} {kw : List (Str × Value)} : (A.under (.builtin "type.__call__" ⟨.ref C :: us, kw⟩)).depth = A.depth + 1 := by
 first | rfl | simp [Around.under, Code.weight, Code.isCreation, Code.isGuard, Code.isCaller, Code.frames, Code.isFrame, guardIds]
theorem make_units {A : Around} {C : Addr} {us : List Value} {kw : List (Str × Value)} : (A.under (.builtin "type.__call__" ⟨.ref C :: us, kw⟩)).units = A.units + 1 := by
 first | rfl | simp [Around.under, Code.cUnits, Code.frames, Code.isFrame]
theorem Room.make {k : Nat} {A : Around} (r : Room (k + 1) A) (C : Addr) (us : List Value) (kw : List (Str × Value)) : Room k (A.under (.builtin "type.__call__" ⟨.ref C :: us, kw⟩)) :=
 ⟨r.hd, by have := r.dp; rw [make_depth]; omega, by have := r.un; rw [make_units]; omega⟩
theorem Room.depth {k : Nat} {A : Around} (r : Room k A) : A.depth < recursionLimit := by have := r.dp; omega
theorem Room.units {k : Nat} {A : Around} (r : Room k A) : A.units + 64 < cLine := by have := r.un; omega
def tNil : TA := fun _ H Q => Q [] H
def tCons (ta : TE) (tr : TA) : TA := fun σ H Q => ta σ H fun x H1 => tr σ H1 fun xs H2 => Q (x :: xs) H2
section
variable {X : Cx} {e : Expr} {es : List Expr} {te : TE} {t : TA} {pos : Pos}
theorem pa_nil : PA X [] tNil := fun _ _ _ _ H Q I h => Calls.spliced_nil ⟨[], H, I, .nil, h⟩
theorem pa_cons (ha : PE X e te) (hr : PA X es t) (hs : starEach (e :: es) X.env = (false, eval e X.env) :: starEach es X.env := by rfl) : PA X (e :: es) (tCons te t) := by
 intro pos pins s σ H Q I h
 rw [hs]
 show wpAny _ _ (spliced ((false, eval e X.env) :: backTo pos (starEach es X.env))) _ _ s
 refine Calls.spliced_cons (thn (ha pins s σ H _ I h) fun u s1 ⟨x, H1, I1, r1, q1⟩ => ?_)
 exact thn (hr pos pins s1 σ H1 _ I1 q1) fun us s2 ⟨xs, H2, I2, r2, q2⟩ => ⟨x :: xs, H2, I2, .cons r1 r2, q2⟩
def tTup (t : TA) : TE := fun σ H Q => t σ H fun xs H1 => xs.length ≤ sizeLine ∧ ∀ p, H1 p = none → Q (.ref p) (upd H1 p (.tup xs))
def tLst (t : TA) : TE := fun σ H Q => t σ H fun xs H1 => xs.length ≤ sizeLine ∧ ∀ p, H1 p = none → Q (.ref p) (upd H1 p (.lst xs))
theorem pe_tup {x1} (h : PA X es t) : PE X (.Tuple es x1 pos) (tTup t) := by
 intro pins s σ H Q I hq
 refine wpAny_Tuple_spliced (thn (h pos pins s σ H _ I hq) fun us s1 ⟨xs, H1, I1, r, z, q⟩ => ⟨by rw [← r.length]; exact z, ?_⟩)
 have hf : H1 s1.heap.objs.size = none := I1.hok.fresh (Nat.le_refl _)
 refine ⟨.ref s1.heap.objs.size, upd H1 s1.heap.objs.size (.tup xs), I1.laid (t' := s1.toks) (fun b u e => Heap.get?_push_of_some _ e) (Nat.le_refl _) ?_, rfl, q _ hf⟩
 exact ⟨z, us, r, ⟨_, Heap.get?_push_size _ rfl, rfl, _, rfl⟩⟩
theorem pe_lst (h : PA X es t) : PE X (.List es pos) (tLst t) := by
 intro pins s σ H Q I hq
 refine wpAny_List_spliced (thn (h pos pins s σ H _ I hq) fun us s1 ⟨xs, H1, I1, r, z, q⟩ => ⟨by rw [← r.length]; exact z, ?_⟩)
 have hf : H1 s1.heap.objs.size = none := I1.hok.fresh (Nat.le_refl _)
 refine ⟨.ref s1.heap.objs.size, upd H1 s1.heap.objs.size (.lst xs), I1.laid (t' := s1.toks) (fun b u e => Heap.get?_push_of_some _ e) (Nat.le_refl _) ?_, rfl, q _ hf⟩
 exact ⟨z, us, 0, r, Heap.get?_push_size _ rfl⟩
end
abbrev Sp := List V → Hp → VK → XK → Prop
abbrev CXT := List Env → Hp → Shared → XK → Value → Shared → Prop
structure Env0 (P : Program) (w : World) (K : PySem.W.Frag) (mg : Str → Option Value) (base : Heap) (A : Around) (outer : List Env) (s : Shared) (H : Hp) : Prop where
 frames : A.frames = some outer
 mod : Mod K mg base
 bs : ∀ b o, base.get? b = some o → s.heap.get? b = some o ∧ H b = none
 bsz : base.objs.size ≤ s.heap.objs.size
 funs : s.heap.FunFrames base outer
 frf : ∀ b ∈ frs outer, H b = none
 hok : HOk P w H s.heap
 bare : AllBare s.gens
def CE (outer : List Env) (P : Program) (w : World) (H : Hp) (s : Shared) (Q : VK) (u : Value) (s' : Shared) : Prop :=
 ∃ v H', s'.os = s.os ∧ AllBare s'.gens ∧ Un (frs outer) [] H H' s.heap s'.heap ∧ HOk P w H' s'.heap ∧ RelV v u ∧ Q v H'
def CR (CX : CXT) (outer : List Env) (P : Program) (w : World) (H : Hp) (s : Shared) (Q : VK) (E : XK) (r : Result) (s' : Shared) : Prop :=
 match r with
 | .ok (.ret u) => CE outer P w H s Q u s'
 | .ok _ => False
 | .error e => CX outer H s E e s'
structure FnOk (P : Program) (w : World) (K : PySem.W.Frag) (mg : Str → Option Value) (base : Heap) (CX : CXT) (k : Nat) (f : Addr) (fd : FuncData) (ps : List Str) (sp : Sp) : Prop where
 len : ∀ vs H Q E, sp vs H Q E → vs.length = ps.length
 run : ∀ (A : Around) (outer : List Env) (s : Shared) (H : Hp) (args : Args) (us : List Value) (vs : List V) (Q : VK) (E : XK), Room k A → Env0 P w K mg base A outer s H → BindsTo s fd args (ps.zip us) → Vals vs us → sp vs H Q E →
  codeAny (model P w) A (.call (.ref f) args) (CR CX outer P w H s Q E) s
theorem FnOk.mono {P : Program} {w : World} {K : PySem.W.Frag} {mg : Str → Option Value} {base : Heap} {CX : CXT} {j k : Nat} {f : Addr} {fd : FuncData} {ps : List Str} {sp : Sp} (F : FnOk P w K mg base CX j f fd ps sp) (h : j ≤ k) :
 FnOk P w K mg base CX k f fd ps sp := ⟨F.len, fun A outer s H args us vs Q E hr => F.run A outer s H args us vs Q E (hr.mono h)⟩
theorem Env0.make {P : Program} {w : World} {K : PySem.W.Frag} {mg : Str → Option Value} {base : Heap} {A : Around} {outer : List Env} {s : Shared} {H : Hp} (e : Env0 P w K mg base A outer s H) (C : Addr) (us : List Value) (kw : List (Str × Value)) :
 Env0 P w K mg base (A.under (.builtin "type.__call__" ⟨.ref C :: us, kw⟩)) outer s H := ⟨by first | exact e.frames | (simpa [Around.under, Code.envs, Code.isFrame, pushEnvs] using e.frames), e.mod, e.bs, e.bsz, e.funs, e.frf, e.hok, e.bare⟩
section
variable {X : Cx} {pins : List (Addr × Obj)} {σ : St} {H : Hp} {s s' : Shared}
theorem Inv.env0 (I : Inv X pins σ H s) : Env0 X.prog X.w X.K X.mg X.base X.A X.stack s H :=
 ⟨I.ok.frames, I.ok.mod, I.bs, Nat.le_trans I.ok.bsz I.sz, I.stack, I.stkFree, I.hok, I.bare⟩
theorem Inv.after {Q : VK} {u : Value} (I : Inv X pins σ H s) (h : CE X.stack X.prog X.w H s Q u s') : EP X pins σ Q u s' := by
 obtain ⟨v, H', os, bare, un, hok, r, q⟩ := h
 obtain ⟨hh, g, d, t, os'⟩ := s'
 obtain rfl : os' = s.os := os
 exact ⟨v, H', I.call (h' := hh) (g' := g) (d' := d) (t' := t) (ch := []) un hok bare (fun b z => absurd z (by simp)), r, q⟩
end
def tCall (sp : Sp) (dvs : List V) (E : XK) (t : TA) : TE := fun σ H Q => t σ H fun vs H1 => sp (vs ++ dvs) H1 Q E
def tMake (C : Addr) (sp : Sp) (dvs : List V) (E : XK) (t : TA) : TE := fun σ H Q => t σ H fun vs H1 => ∀ x dx, H1 x = none → H1 dx = none → dx ≠ x →
 sp (.ref x :: (vs ++ dvs)) (upd (upd H1 dx (.own x)) x (.ins C dx [])) (fun v H2 => v = .non ∧ Q (.ref x) H2) E
def Binds (K : PySem.W.Frag) (fd : FuncData) (ps : List Str) (ds : List Value) : Prop :=
 ∀ (s : Shared) (us : List Value), K.In s.heap → (us ++ ds).length = ps.length → BindsTo s fd ⟨us, []⟩ (ps.zip (us ++ ds))
theorem Binds.all {K : PySem.W.Frag} {fd : FuncData} {ps : List Str} (h : ∀ us : List Value, us.length = ps.length → bindArgs fd ⟨us, []⟩ = pure (ps.zip us)) : Binds K fd ps [] := fun s us _ hl => by
 rw [List.append_nil] at hl ⊢
 exact .of_eq (h us hl)
def Passes (CX : CXT) (X : Cx) (E : XK) : Prop := ∀ (pins : List (Addr × Obj)) (σ : St) (H : Hp) (s : Shared) (e : Value) (s' : Shared), Inv X pins σ H s → CX X.stack H s E e s' → X.xe e s'
section
variable {X : Cx} {CX : CXT} {k : Nat} {f C : Addr} {fd : FuncData} {ps : List Str} {sp : Sp} {dvs : List V} {ds : List Value} {E : XK} {x m : Str} {p pos apos : Pos} {e o : Expr} {es : List Expr} {ta : TE} {t : TA}
theorem run_fn {pins : List (Addr × Obj)} {σ : St} {H : Hp} {s : Shared} {Q : VK} {us : List Value} {vs : List V} (F : FnOk X.prog X.w X.K X.mg X.base CX k f fd ps sp) (hr : Room k X.A) (hb : Binds X.K fd ps ds) (hd : Vals dvs ds) (hx : Passes CX X E)
 (I : Inv X pins σ H s) (r : Vals vs us) (h : sp (vs ++ dvs) H Q E) : wpAny (model X.prog X.w) X.A (call (.ref f) us) (EP X pins σ Q) X.xe s := by
 have r2 : Vals (vs ++ dvs) (us ++ ds) := r.append hd
 have hl : (us ++ ds).length = ps.length := by rw [← r2.length]; exact F.len _ _ _ _ h
 refine wpAny_call (codeAny_mono (F.run X.A X.stack s H ⟨us, []⟩ (us ++ ds) (vs ++ dvs) Q E hr I.env0 (hb s us I.kIn hl) r2 h) fun r s' hq => ?_)
 cases r with
 | error e => exact hx pins σ H s e s' I hq
 | ok fl =>
   cases fl with
   | ret u => exact I.after hq
   | next => exact False.elim hq
   | brk => exact False.elim hq
   | cont => exact False.elim hq
theorem pe_call (F : FnOk X.prog X.w X.K X.mg X.base CX k f fd ps sp) (hr : Room k X.A) (hg : Gl X x) (hm : X.mg x = some (.ref f)) (hk : PySem.W.keepIn X.K (.ref f) = true) (hb : Binds X.K fd ps ds) (hd : Vals dvs ds) (hx : Passes CX X E)
 (ha : PA X (e :: es) t) (hdb : (x == ("__debug__" : Str)) = false := by decide) (he : starEach (e :: es) X.env = (false, eval e X.env) :: starEach es X.env := by rfl) (hpl : (backTo pos (starEach es X.env)).any (·.1) = false := by rfl) :
 PE X (.Call (.Name x p) (e :: es) [] pos) (tCall sp dvs E t) := by
 intro pins s σ H Q I h
 refine wpAny_Call_Name_kw (ld_glob I hg hm ?_ hdb)
 refine PySem.W.callWith_K (h₀ := X.base) I.ok.mod.kin hk (thn (ha pos pins s σ H _ I h) fun us s1 ⟨vs, H1, I1, r, q⟩ => ⟨I1.kIn, ?_⟩) he hpl
 exact run_fn F hr hb hd hx I1 r q
structure Mk (K : PySem.W.Frag) (C f : Addr) : Prop where
 makes : PySem.W.makesIn K C = true
 init : PySem.W.findIn K (.ref C) "__init__" = some (some (.ref f))
 fn : PySem.W.isFn K (.ref f) = true
 kp : PySem.W.keepIn K (.ref C) = true
theorem run_make {pins : List (Addr × Obj)} {σ : St} {H : Hp} {s : Shared} {Q : VK} {us : List Value} {vs : List V} (M : Mk X.K C f) (F : FnOk X.prog X.w X.K X.mg X.base CX k f fd ps sp) (hr : Room (k + 1) X.A) (hb : Binds X.K fd ps ds) (hd : Vals dvs ds)
 (hx : Passes CX X E) (I : Inv X pins σ H s) (r : Vals vs us)
 (h : ∀ x dx, H x = none → H dx = none → dx ≠ x → sp (.ref x :: (vs ++ dvs)) (upd (upd H dx (.own x)) x (.ins C dx [])) (fun v H2 => v = .non ∧ Q (.ref x) H2) E) :
 wpAny (model X.prog X.w) X.A (call (.ref C) us) (EP X pins σ Q) X.xe s := by
 have hq := h (s.heap.objs.size + 1) s.heap.objs.size (I.hok.fresh (Nat.le_succ _)) (I.hok.fresh (Nat.le_refl _)) (Nat.ne_of_lt (Nat.lt_succ_self _))
 have I2 := Inv.made (C := C) I
 have r2 : Vals (V.ref (s.heap.objs.size + 1) :: (vs ++ dvs)) (Value.ref (s.heap.objs.size + 1) :: (us ++ ds)) := .cons rfl (r.append hd)
 have hl : (Value.ref (s.heap.objs.size + 1) :: us ++ ds).length = ps.length := by
  have e := r2.length
  rw [F.len _ _ _ _ hq] at e
  exact e.symm
 refine wpAny_call (make_map (f := f) I.kIn M.makes M.init (beq_iff_eq.mp M.fn) (codeAny_mono (F.run _ X.stack _ _ ⟨Value.ref (s.heap.objs.size + 1) :: us, []⟩ (Value.ref (s.heap.objs.size + 1) :: (us ++ ds)) _ _ E (hr.make C us [])
  (I2.env0.make C us []) (hb _ (Value.ref (s.heap.objs.size + 1) :: us) I2.kIn hl) r2 hq) fun r s' hq' => ?_))
 cases r with
 | error e => exact hx pins σ _ _ e s' I2 hq'
 | ok fl =>
   cases fl with
   | ret u =>
     obtain ⟨v, H', I3, rv, ev, q3⟩ := I2.after hq'
     subst ev
     exact ⟨rv, ⟨V.ref (s.heap.objs.size + 1), H', I3, rfl, q3⟩⟩
   | next => exact False.elim hq'
   | brk => exact False.elim hq'
   | cont => exact False.elim hq'
theorem pe_make0 (M : Mk X.K C f) (F : FnOk X.prog X.w X.K X.mg X.base CX k f fd ps sp) (hr : Room (k + 1) X.A) (hg : Gl X x) (hm : X.mg x = some (.ref C)) (hb : Binds X.K fd ps ds) (hd : Vals dvs ds) (hx : Passes CX X E)
 (hdb : (x == ("__debug__" : Str)) = false := by decide) : PE X (.Call (.Name x p) [] [] pos) (tMake C sp dvs E tNil) := by
 intro pins s σ H Q I h
 refine wpAny_Call_Name_kw (ld_glob I hg hm ?_ hdb)
 exact PySem.W.callWith_K0 I.kIn M.kp (run_make (us := []) M F hr hb hd hx I .nil h)
end
section
variable {X : Cx} {CX : CXT} {k : Nat} {f C : Addr} {fd : FuncData} {ps ks : List Str} {sp : Sp} {E : XK} {x m : Str} {p pos apos kpos : Pos} {e o : Expr} {es : List Expr} {kws : List Keyword} {te ta : TE} {t tk : TA} {nm : Option Str}
variable {g : List Value → List Value → List Value} {gV : List V → List V → List V}
end
structure FnScope (N P : List Str) (sc : Scope) : Prop where
 kind : sc.kind = .function
 co : sc.isCoroutine = false
 gen : sc.isGenerator = false
 nd : N.Nodup
 pre : N.take P.length = P
 par : ∀ x ∈ P, sc.names.lookup x = some .local ∨ sc.names.lookup x = some .cell
 nofree : ∀ y ∈ sc.names, y.2 ≠ .free
theorem bindL_out {kindOf : Str → Option NameKind} {x : Str} : ∀ {binds : List (Str × Value)} {m : Str → Option Value}, (∀ v, (x, v) ∉ binds) → bindL kindOf binds m x = m x
 | [], _, _ => rfl
 | (n, v) :: r, m, h => by
   unfold bindL
   rw [bindL_out fun w hw => h w (List.mem_cons_of_mem _ hw)]
   split
   ·have : x ≠ n := by rintro rfl; exact h v List.mem_cons_self
    simp [this]
   ·rfl
theorem bindC_out {kindOf : Str → Option NameKind} {x : Str} : ∀ {binds : List (Str × Value)} {m : Str → Option Value}, (∀ v, (x, v) ∉ binds) → bindC kindOf binds m x = m x
 | [], _, _ => rfl
 | (n, v) :: r, m, h => by
   unfold bindC
   rw [bindC_out fun w hw => h w (List.mem_cons_of_mem _ hw)]
   split
   ·rfl
   ·have : x ≠ n := by rintro rfl; exact h v List.mem_cons_self
    simp [this]
theorem bindL_get {kindOf : Str → Option NameKind} {x : Str} {v : Value} : ∀ {P : List Str} {vs : List Value} {i : Nat} {m : Str → Option Value}, P.Nodup → P[i]? = some x → vs[i]? = some v → kindOf x = some .local →
 bindL kindOf (P.zip vs) m x = some v
 | [], _, _, _, _, h, _, _ => by simp at h
 | _ :: _, [], _, _, _, _, h, _ => by simp at h
 | p :: P, w :: vs, 0, m, nd, h1, h2, hk => by
   simp at h1 h2; subst h1; subst h2
   show bindL kindOf ((p, w) :: P.zip vs) m p = _
   unfold bindL
   rw [bindL_out fun v hv => (List.nodup_cons.mp nd).1 (List.of_mem_zip hv).1, if_pos hk]
   simp
 | p :: P, w :: vs, i + 1, m, nd, h1, h2, hk => by
   show bindL kindOf ((p, w) :: P.zip vs) m x = _
   unfold bindL
   exact bindL_get (i := i) (List.nodup_cons.mp nd).2 (by simpa using h1) (by simpa using h2) hk
theorem bindC_get {kindOf : Str → Option NameKind} {x : Str} {v : Value} : ∀ {P : List Str} {vs : List Value} {i : Nat} {m : Str → Option Value}, P.Nodup → P[i]? = some x → vs[i]? = some v → kindOf x ≠ some .local →
 bindC kindOf (P.zip vs) m x = some v
 | [], _, _, _, _, h, _, _ => by simp at h
 | _ :: _, [], _, _, _, _, h, _ => by simp at h
 | p :: P, w :: vs, 0, m, nd, h1, h2, hk => by
   simp at h1 h2; subst h1; subst h2
   show bindC kindOf ((p, w) :: P.zip vs) m p = _
   unfold bindC
   rw [bindC_out fun v hv => (List.nodup_cons.mp nd).1 (List.of_mem_zip hv).1, if_neg hk]
   simp
 | p :: P, w :: vs, i + 1, m, nd, h1, h2, hk => by
   show bindC kindOf ((p, w) :: P.zip vs) m x = _
   unfold bindC
   exact bindC_get (i := i) (List.nodup_cons.mp nd).2 (by simpa using h1) (by simpa using h2) hk
def start (N : List Str) (vs : List V) : St := vs.map some ++ List.replicate (N.length - vs.length) none
def cxOf (CX : CXT) (P : Program) (w : World) (K : PySem.W.Frag) (mg : Str → Option Value) (base : Heap) (N : List Str) (qual : Str) (scope : Scope) (f : Addr) (cd : Value) (A : Around) (outer : List Env) (s : Shared) (H : Hp) (E : XK) : Cx where
 prog := P
 w := w
 K := K
 mg := mg
 base := base
 A := A.deeper (envOfC qual scope s.heap.objs.size f cd)
 N := N
 s₀ := s
 H₀ := H
 env := envOfC qual scope s.heap.objs.size f cd
 outer := outer
 stack := envOfC qual scope s.heap.objs.size f cd :: outer
 ex := []
 calm := true
 fn := fun _ => true
 pn := []
 xe := fun e s' => wpAny (model P w) (A.deeper (envOfC qual scope s.heap.objs.size f cd)) (leaving (envOfC qual scope s.heap.objs.size f cd) e) (fun _ s'' => CX outer H s E e s'') (fun e' s'' => CX outer H s E e' s'') s'
theorem cell_has {sc : Scope} {n : Nat} {x : Str} (h : sc.names.lookup x = some .cell) : ∃ c, (cellsFrom n sc.names []).lookup x = some c := by
 have q := PySem.W.cellsFrom_some sc.names n [] (.inl h)
 exact Option.isSome_iff_exists.mp q
theorem inv_start {CX : CXT} {P : Program} {w : World} {K : PySem.W.Frag} {mg : Str → Option Value} {base : Heap} {N ps : List Str} {qual : Str} {scope : Scope} {f : Addr} {cd : Value} {A : Around} {outer : List Env} {s s1 : Shared} {H : Hp} {E : XK} {us : List Value} {vs : List V}
 (S : FnScope N ps scope) (hd : A.handled = none) (e0 : Env0 P w K mg base A outer s H) (hl : vs.length = ps.length) (r : Vals vs us)
 (x : InCallC s s.heap.objs.size (bindL (envOfC qual scope s.heap.objs.size f cd).kindOf (ps.zip us) fun _ => none) (cellsFrom (s.heap.objs.size + 1) scope.names []) (bindC (envOfC qual scope s.heap.objs.size f cd).kindOf (ps.zip us) fun _ => none) s1) :
 Inv (cxOf CX P w K mg base N qual scope f cd A outer s H E) [] (start N vs) H s1 := by
 have hpl : ps.length ≤ N.length := by have := congrArg List.length S.pre; rw [List.length_take] at this; omega
 obtain ⟨h1, tk, rfl, hk⟩ := x.done
 have noA : ∀ b : Addr, b ∉ (cxOf CX P w K mg base N qual scope f cd A outer s H E).ex := fun b z => absurd (show b ∈ ([] : List Addr) from z) (by simp)
 refine ⟨⟨e0.mod, S.kind, rfl, rfl, Nat.le_refl _, fun y z c h1 h2 => ?_, fun y hy => ?_, fun y c _ h => ?_, fun _ => hd, Around.frames_deeper e0.frames, .inr ⟨rfl, rfl⟩, fun b z => absurd z (noA b), e0.bs, e0.bsz, fun b _ _ => noA b, fun b z => absurd z (noA b), e0.funs, e0.frf⟩,
  rfl, e0.bare, Un.kept hk, ⟨_, x.toInCall.ns, fun i y v h1 h2 h3 => ?_⟩, fun y c h => ⟨_, x.cell y c h⟩, e0.hok.fresh (Nat.le_refl _), fun y c h => ?_, fun p hp => absurd (show p ∈ ([] : List (Addr × Obj)) from hp) (by simp), e0.hok.kept hk, ?_⟩
 ·exact name_of_addr x.apart (PySem.mem_of_lookup h1) (PySem.mem_of_lookup h2)
 ·have hy : scope.names.lookup y = some .cell ∨ scope.names.lookup y = some .free := hy
  rcases hy with hy | hy
  ·exact cell_has hy
  ·exact absurd rfl (S.nofree _ (PySem.mem_of_lookup hy))
 ·exact Nat.le_of_lt (x.above y c (PySem.mem_of_lookup h))
 ·have hi : i < vs.length := by
   unfold start at h2
   by_cases hi : i < vs.length
   ·exact hi
   ·rw [List.getElem?_append_right (by simpa using hi)] at h2
    rw [List.getElem?_replicate] at h2
    split at h2 <;> cases h2
  have ha : vs[i]? = some v := by
   unfold start at h2
   rw [List.getElem?_append_left (by simpa using hi), List.getElem?_map] at h2
   cases e : vs[i]? with
   | none => rw [e] at h2; cases h2
   | some a => rw [e] at h2; cases h2; rfl
  obtain ⟨u, hu, rv⟩ := r.get ha
  have hp : ps[i]? = some y := by
   rw [← S.pre, List.getElem?_take_of_lt (by omega)]; exact h1
  have ndP : ps.Nodup := by rw [← S.pre]; exact S.nd.sublist (List.take_sublist _ _)
  refine ⟨u, rv, ?_⟩
  rcases S.par y (List.mem_of_getElem? hp) with k | k
  ·exact .inl ⟨k, bindL_get ndP hp hu k⟩
  ·obtain ⟨c, e⟩ := cell_has (n := s.heap.objs.size + 1) k
   refine .inr ⟨.inl k, c, e, ?_⟩
   have q := x.cell y c e
   rw [bindC_get ndP hp hu (by show scope.names.lookup y ≠ _; rw [k]; decide)] at q
   exact q
 ·exact e0.hok.fresh (Nat.le_of_lt (x.above y c (PySem.mem_of_lookup h)))
 ·unfold start
  show _ = N.length
  rw [List.length_append, List.length_map, List.length_replicate]
  omega
theorem fn_of {CX : CXT} {P : Program} {w : World} {K : PySem.W.Frag} {mg : Str → Option Value} {base : Heap} {k : Nat} {f : Addr} {name qual : Str} {params : Arguments} {body : List Stmt} {scope : Scope} {dV kV doc pm cdv ct oc : Value} {an od : Option Addr}
 {osl : Array (Option Value)} {N ps : List Str} {sp : Sp} (lk : K.lookup f = some ⟨oc, od, .func (PySem.W.fnOf name qual params body scope dV kV doc pm an cdv ct), osl⟩) (hcd : PySem.W.codeIn K cdv qual = true) (S : FnScope N ps scope)
 (len : ∀ vs H Q E, sp vs H Q E → vs.length = ps.length)
 (hbody : ∀ (A : Around) (outer : List Env) (s : Shared) (H : Hp) (vs : List V) (Q : VK) (E : XK), Room k (A.deeper (envOfC qual scope s.heap.objs.size f cdv)) → sp vs H Q E →
  ∃ t, PSs (cxOf CX P w K mg base N qual scope f cdv A outer s H E) body t ∧ t { nx := fun _ H' => Q .non H', rt := Q } (start N vs) H) :
 FnOk P w K mg base CX (k + 1) f (PySem.W.fnOf name qual params body scope dV kV doc pm an cdv ct) ps sp := by
 refine ⟨len, fun A outer s H args us vs Q E hr e0 hb r hsp => ?_⟩
 have hl := len _ _ _ _ hsp
 have KX : K.In s.heap := e0.mod.kin.keeps fun b o e => (e0.bs b o e).1
 have lim : s.heap.NoLimit := e0.mod.nolimit.keeps fun b o e => (e0.bs b o e).1
 have hkind : ∀ y ∈ ps.zip us, scope.names.lookup y.1 = some .local ∨ (scope.names.lookup y.1 = some .cell ∧ ((cellsFrom (s.heap.objs.size + 1) scope.names []).lookup y.1).isSome = true) := fun ⟨n, v⟩ hy => by
  rcases S.par n (List.of_mem_zip hy).1 with q | q
  ·exact .inl q
  ·exact .inr ⟨q, PySem.W.cellsFrom_some _ _ _ (.inl q)⟩
 refine codeAny_call_function hr.depth (KX _ _ lk) rfl S.co S.gen rfl (PySem.W.codeRec_of KX hcd) (hb _ _ _ _ ?_)
 refine wpAny_newFunctionEnv_cells S.kind hkind fun env he s1 x => ?_
 subst he
 refine ⟨lim.keeps x.toInCall.keep, codeAny_func ?_⟩
 obtain ⟨t, ht, hq⟩ := hbody A outer s H vs Q E (hr.deeper _) hsp
 have I : Inv (cxOf CX P w K mg base N qual scope f cdv A outer s H E) [] (start N vs) H s1 := inv_start S hr.hd e0 hl r x
 refine wpAny_mono (ht [] s1 (start N vs) H _ I hq) (fun fl s' hs => ?_) fun e s' hs => hs
 have fin : ∀ {σ' : St} {H' : Hp} {v : V} {u : Value}, Inv (cxOf CX P w K mg base N qual scope f cdv A outer s H E) [] σ' H' s' → RelV v u → Q v H' → CE outer P w H s Q u s' :=
  fun {σ' H' v u} J rv q => ⟨v, H', J.os, J.bare, J.base, J.hok, rv, q⟩
 cases fl with
 | ret u =>
   obtain ⟨v, σ', H', J, rv, q⟩ := hs
   exact fin J rv q
 | next =>
   obtain ⟨σ', H', J, q⟩ := hs
   exact fin (v := V.non) (u := Value.none) J rfl q
 | brk =>
   obtain ⟨_, _, _, q⟩ := hs
   exact False.elim q
 | cont =>
   obtain ⟨_, _, _, q⟩ := hs
   exact False.elim q
end L2
namespace L2
open PySem PySem.Spec PyProof.Rows
section
variable {X : Cx} {x : Str} {p pos : Pos} {e : Expr} {es : List Expr} {t : TA} {id T : String} {r : List V → Hp → VK → Prop}
def tCB (r : List V → Hp → VK → Prop) (t : TA) : TE := fun σ H Q => t σ H fun vs H1 => r vs H1 Q
theorem pe_callB (hc : CallR X (.builtin id) r) (hg : Gl X x) (hm : X.mg x = none) (hv : bootBuiltins x = some (.builtin id)) (ha : PA X (e :: es) t) (hn : x ≠ "__name__" := by decide) (hdb : (x == ("__debug__" : Str)) = false := by decide)
 (he : starEach (e :: es) X.env = (false, eval e X.env) :: starEach es X.env := by rfl) (hpl : (backTo pos (starEach es X.env)).any (·.1) = false := by rfl) : PE X (.Call (.Name x p) (e :: es) [] pos) (tCB r t) := by
 intro pins s σ H Q I h
 refine wpAny_Call_Name_kw (ld_blt I hg hm hv ?_ hn hdb)
 exact PyProof.Rows.callWith_builtin1 (thn (ha pos pins s σ H _ I h) fun us s1 ⟨vs, H1, I1, r1, q1⟩ => hc pins s1 σ H1 vs us Q I1 r1 q1) he hpl
theorem pe_callTy (hc : CallR X (.type T) r) (hg : Gl X x) (hm : X.mg x = none) (hv : bootBuiltins x = some (.type T)) (ha : PA X (e :: es) t) (hn : x ≠ "__name__" := by decide) (hdb : (x == ("__debug__" : Str)) = false := by decide)
 (he : starEach (e :: es) X.env = (false, eval e X.env) :: starEach es X.env := by rfl) (hpl : (backTo pos (starEach es X.env)).any (·.1) = false := by rfl) : PE X (.Call (.Name x p) (e :: es) [] pos) (tCB r t) := by
 intro pins s σ H Q I h
 refine wpAny_Call_Name_kw (ld_blt I hg hm hv ?_ hn hdb)
 exact PyProof.Rows.callWith_type1 (thn (ha pos pins s σ H _ I h) fun us s1 ⟨vs, H1, I1, r1, q1⟩ => hc pins s1 σ H1 vs us Q I1 r1 q1) he hpl
end
end L2
namespace HT
open PySem PyProof.Rows
section
open PySem.SeqAt
open PySem.AutoSeq1 (wpAny_loadPart')
open PySem.MeetsSeq PySem.MeetsSeq2 PySem.MeetsSeq3
end
section
variable {prog : Program} {w : World} {A : Around} {E : Value → Shared → Prop} {s : Shared}
def sIx (n d : Nat) : Option Int → Nat
 | none => d
 | some v => if v < 0 then (v + (n : Int)).toNat else min v.toNat n
theorem sIx_none (n d : Nat) : sIx n d none = d := rfl
theorem sIx_nat (n d k : Nat) : sIx n d (some (k : Int)) = min k n := by
 show (if (k : Int) < 0 then ((k : Int) + (n : Int)).toNat else min (k : Int).toNat n) = min k n
 rw [if_neg (by omega), Int.toNat_natCast]
end
end HT
namespace L2
open PySem PySem.Spec PyProof.Rows
abbrev TO := St → Hp → (Option Int → Hp → Prop) → Prop
def PO (X : Cx) (e : Option Expr) (t : TO) : Prop :=
 ∀ (pins : List (Addr × Obj)) (s : Shared) (σ : St) (H : Hp) (Q : Option Int → Hp → Prop), Inv X pins σ H s → t σ H Q →
   wpAny (model X.prog X.w) X.A (evalPart e X.env) (fun u s' => ∃ o H', Inv X pins σ H' s' ∧ IsPart u o ∧ Q o H') X.xe s
def tNoPart : TO := fun _ H Q => Q none H
def tPart (t : TE) : TO := fun σ H Q => t σ H fun x H1 => ∃ i, x = .int i ∧ Q (some i) H1
theorem intsAre_of {ns : List Int} : ∀ {us : List Value}, Vals (ns.map V.int) us → IntsAre us ns := by
 induction ns with
 | nil => intro us r; rw [List.map_nil] at r; cases r; exact .nil
 | cons n ns ih =>
   intro us r
   rw [List.map_cons] at r
   cases r with
   | cons r1 r2 =>
     obtain ⟨t, e⟩ := r1
     subst e
     exact .cons n t (ih r2)
section
variable {X : Cx} {e : Expr} {te : TE} {lo hi : Option Expr} {tl th : TO} {pos p2 : Pos}
theorem po_none : PO X none tNoPart := by
 intro pins s σ H Q I h
 rw [evalPart_none]
 exact wpAny_pure ⟨none, H, I, .none, h⟩
theorem po_some (h : PE X e te) : PO X (some e) (tPart te) := by
 intro pins s σ H Q I hw
 rw [evalPart_some]
 refine thn (h pins s σ H _ I hw) fun u s1 ⟨x, H1, I1, r1, q1⟩ => ?_
 obtain ⟨i, rfl, q⟩ := q1
 obtain ⟨t, rfl⟩ := r1
 exact ⟨some i, H1, I1, .int i t, q⟩
def SlR (X : Cx) (r : V → Option Int → Option Int → Hp → VK → Prop) : Prop :=
 ∀ (pins : List (Addr × Obj)) (s : Shared) (σ : St) (H : Hp) (x : V) (v vl vu : Value) (lo hi : Option Int) (sl : Addr) (Q : VK), Inv X pins σ H s → RelV x v → s.heap.IsSliceOf sl vl vu .none → IsPart vl lo → IsPart vu hi → r x lo hi H Q →
   ∃ T id, typeLookup (.type T) "__getitem__" = pure (some (.builtin id)) ∧ s.TypeIs v T ∧ wpAny (model X.prog X.w) X.A (getItem v (.ref sl)) (EP X pins σ Q) X.xe s
def tSl (r : V → Option Int → Option Int → Hp → VK → Prop) (te : TE) (tl th : TO) : TE := fun σ H Q => te σ H fun x H1 => tl σ H1 fun l H2 => th σ H2 fun u H3 => r x l u H3 Q
theorem pe_slice {r : V → Option Int → Option Int → Hp → VK → Prop} (hr : SlR X r) (he : PE X e te) (hl : PO X lo tl) (hu : PO X hi th) : PE X (.Subscript e (.Slice lo hi none p2) pos) (tSl r te tl th) := by
 intro pins s σ H Q I h
 refine Subscript_ (thn (he pins s σ H _ I h) fun v s1 ⟨x, H1, I1, r1, q1⟩ => ?_)
 refine wpAny_Slice (thn (hl pins s1 σ H1 _ I1 q1) fun vl s2 ⟨l, H2, I2, pl, q2⟩ => thn (hu pins s2 σ H2 _ I2 q2) fun vu s3 ⟨u, H3, I3, pu, q3⟩ => ?_)
 rw [evalPart_none]
 refine wpAny_pure ?_
 have I4 : Inv X pins σ H3 { s3 with heap := s3.heap.push { cls := .type "slice", data := .fields #[vl, vu, .none] } } := I3.kept (t' := s3.toks) fun b ob q => Heap.get?_push_of_some _ q
 obtain ⟨T, id, hT, ht, hg⟩ := hr pins { s3 with heap := s3.heap.push { cls := .type "slice", data := .fields #[vl, vu, .none] } } σ H3 x v vl vu l u s3.heap.objs.size Q I4 r1 (Heap.IsSliceOf.new ..) pl pu q3
 show wpAny (model X.prog X.w) X.A (subscriptTail e (.Slice lo hi none p2) v (.ref s3.heap.objs.size)) (EP X pins σ Q) X.xe { s3 with heap := s3.heap.push { cls := .type "slice", data := .fields #[vl, vu, .none] } }
 exact tail_any (ops := [.ref s3.heap.objs.size, v]) ht hT hg (by with_unfolding_all rfl)
def cutV (xs : List V) (lo hi : Option Int) : List V := (xs.drop (HT.sIx xs.length 0 lo)).take (HT.sIx xs.length xs.length hi - HT.sIx xs.length 0 lo)
theorem cutV_length (xs : List V) (lo hi : Option Int) : (cutV xs lo hi).length ≤ xs.length := by
 unfold cutV
 rw [List.length_take, List.length_drop]
 omega
end
end L2
namespace L2
open PySem PySem.Spec PyProof.Rows
def ixN (n : Nat) (i : Int) : Option Nat := if 0 ≤ i then (if i < n then some i.toNat else none) else if -(n : Int) ≤ i then some (i + n).toNat else none
def atI {α : Type} (xs : List α) (i : Int) : Option α := (ixN xs.length i).bind fun j => xs[j]?
theorem ixN_seq {n : Nat} {i : Int} {j : Nat} (h : ixN n i = some j) : seqIndex? i n = some j ∧ j < n ∧ -(n : Int) ≤ i ∧ i < n := by
 unfold ixN at h
 by_cases h0 : 0 ≤ i
 ·rw [if_pos h0] at h
  by_cases h1 : i < n
  ·rw [if_pos h1] at h
   have e : i.toNat = j := Option.some.inj h
   exact ⟨by rw [seqIndex_of h0 h1, e], by omega, by omega, h1⟩
  ·rw [if_neg h1] at h; cases h
 ·rw [if_neg h0] at h
  by_cases h1 : -(n : Int) ≤ i
  ·rw [if_pos h1] at h
   have e : (i + n).toNat = j := Option.some.inj h
   exact ⟨by rw [seqIndex_neg (by omega) h1, e], by omega, h1, by omega⟩
  ·rw [if_neg h1] at h; cases h
theorem atI_get {α : Type} {xs : List α} {i : Int} {v : α} (h : atI xs i = some v) : ∃ j, seqIndex? i xs.length = some j ∧ xs[j]? = some v ∧ j < xs.length ∧ -(xs.length : Int) ≤ i ∧ i < xs.length := by
 unfold atI at h
 cases e : ixN xs.length i with
 | none => rw [e] at h; cases h
 | some j =>
   rw [e] at h
   obtain ⟨h1, h2, h3, h4⟩ := ixN_seq e
   exact ⟨j, h1, h, h2, h3, h4⟩
theorem atI_nat {α : Type} {xs : List α} {j : Nat} {v : α} (h : xs[j]? = some v) : atI xs (j : Int) = some v := by
 have hj : j < xs.length := (List.getElem?_eq_some_iff.mp h).1
 have e : ixN xs.length (j : Int) = some j := by
  unfold ixN
  rw [if_pos (by omega), if_pos (by omega)]; simp
 unfold atI; rw [e]; exact h
theorem atI_last {α : Type} (xs : List α) (v : α) : atI (xs ++ [v]) (-1) = some v := by
 have hl : (xs ++ [v]).length = xs.length + 1 := by simp
 have e : ixN (xs ++ [v]).length (-1) = some xs.length := by
  unfold ixN
  rw [hl, if_neg (by decide), if_pos (by omega)]
  congr 1
  omega
 unfold atI
 rw [e]
 show (xs ++ [v])[xs.length]? = some v
 simp
def PlainIx (b : Expr) : Prop := ∀ o i, subscripted b false o i = operate [o, i] (getItem o i)
def IxR (X : Cx) (r : R2) : Prop :=
 ∀ (value slice : Expr) (pins : List (Addr × Obj)) (s : Shared) (σ : St) (H : Hp) (x y : V) (v u : Value) (Q : VK), Inv X pins σ H s → RelV x v → RelV y u → r x y H Q →
   subscripted slice false v u = operate [v, u] (getItem v u) → wpAny (model X.prog X.w) X.A (subscriptTail value slice v u) (EP X pins σ Q) X.xe s
def MtR (X : Cx) (id : String) (r : V → List V → Hp → VK → Prop) : Prop :=
 ∀ (pins : List (Addr × Obj)) (s : Shared) (σ : St) (H : Hp) (x : V) (xs : List V) (v : Value) (us : List Value) (Q : VK), Inv X pins σ H s → RelV x v → Vals xs us → r x xs H Q →
   wpAny (model X.prog X.w) X.A (call (.builtin id) (v :: us)) (EP X pins σ Q) X.xe s
section
variable {X : Cx} {a b : Expr} {ta tb : TE} {pos : Pos}
theorem IxR.or {r r' : R2} (h : IxR X r) (h' : IxR X r') : IxR X (fun x y H Q => r x y H Q ∨ r' x y H Q) := by
 intro value slice pins s σ H x y v u Q I rx ry q hs
 rcases q with q | q
 ·exact h value slice pins s σ H x y v u Q I rx ry q hs
 ·exact h' value slice pins s σ H x y v u Q I rx ry q hs
theorem pe_ix {r : R2} (hr : IxR X r) (ha : PE X a ta) (hb : PE X b tb) (hs : PlainIx b) : PE X (.Subscript a b pos) (tOp r ta tb) := by
 intro pins s σ H Q I h
 exact Subscript_ (binT ha hb I h fun v u s2 x y H2 I2 rx ry q => hr a b pins s2 σ H2 x y v u Q I2 rx ry q (hs _ _))
def rIxL (K : PySem.W.Frag) : R2 := fun x y H Q => ∃ p xs i v, x = .ref p ∧ y = .int i ∧ SqL K H p xs ∧ atI xs i = some v ∧ Q v H
def rIxT (K : PySem.W.Frag) : R2 := fun x y H Q => ∃ p xs i v, x = .ref p ∧ y = .int i ∧ SqT K H p xs ∧ atI xs i = some v ∧ Q v H
def rIxS : R2 := fun x y H Q => ∃ z i c, x = .str z ∧ y = .int i ∧ z.length ≤ sizeLine ∧ atI z.cps.toList i = some c ∧ Q (.str ⟨#[c]⟩) H
theorem ix_list : IxR X (rIxL X.K) := by
 intro value slice pins s σ H x y v u Q I rx ry h hs
 obtain ⟨p, xs, i, z, rfl, rfl, hq, he, q⟩ := h
 cases rx
 obtain ⟨t, rfl⟩ := ry
 obtain ⟨its, r, pl, hz⟩ := I.list hq
 obtain ⟨j, h1, h2, h3, h4, h5⟩ := atI_get he
 obtain ⟨w, ew, rw'⟩ := r.get h2
 have hl := r.length
 have hn := line63
 have fin : EP X pins σ Q w s := ⟨z, H, I, rw', q⟩
 by_cases h0 : 0 ≤ i
 ·have hj : i.toNat = j := by
   rw [seqIndex_of h0 h5] at h1
   exact Option.some.inj h1
  exact item_listR pl.isList h0 (by omega) (by rw [hj]; simpa using ew) fin hs
 ·have hj : (i + (its.toArray.size : Int)).toNat = j := by
   rw [seqIndex_neg (by omega) h4] at h1
   rw [List.size_toArray, ← hl]
   exact Option.some.inj h1
  exact subscriptTail_builtinR (x := w) pl.isList.typeIs slot_list_getitem.lookup
   (wpAny_getItem_list_neg (Q := fun r s' => r = w ∧ EP X pins σ Q r s') pl.isList (by omega) (by rw [List.size_toArray] <;> omega) (by omega) (by rw [hj]; simpa using ew) ⟨rfl, fin⟩) hs
theorem ix_tup : IxR X (rIxT X.K) := by
 intro value slice pins s σ H x y v u Q I rx ry h hs
 obtain ⟨p, xs, i, z, rfl, rfl, hq, he, q⟩ := h
 cases rx
 obtain ⟨t, rfl⟩ := ry
 obtain ⟨its, r, pl, hz⟩ := I.tuple hq
 obtain ⟨j, h1, h2, h3, h4, h5⟩ := atI_get he
 obtain ⟨w, ew, rw'⟩ := r.get h2
 have hl := r.length
 have hn := line63
 have fin : EP X pins σ Q w s := ⟨z, H, I, rw', q⟩
 exact subscriptTail_builtinR (x := w) pl.typeIs slot_tuple_getitem.lookup
  (getItem_tuple (j := j) (Q := fun r s' => r = w ∧ EP X pins σ Q r s') pl (by omega) (by omega) (by rw [List.size_toArray, ← hl]; exact h1) (by simpa using ew) ⟨rfl, fin⟩) hs
theorem ix_str : IxR X rIxS := by
 intro value slice pins s σ H x y v u Q I rx ry h hs
 obtain ⟨z, i, c, rfl, rfl, hz, he, q⟩ := h
 obtain ⟨t, rfl⟩ := rx
 obtain ⟨t', rfl⟩ := ry
 obtain ⟨j, h1, h2, h3, h4, h5⟩ := atI_get he
 have hl : z.cps.toList.length = z.length := by simp [Str.length]
 rw [hl] at h1 h4 h5
 have hn := line63
 exact tail_any (typeIs_str s z t) slot_str_getitem.lookup (getItem_str (c := c) (by
  have e1 : decide (i < -(2 ^ 63 : Int)) = false := decide_eq_false (by omega)
  have e2 : decide (i ≥ 2 ^ 63) = false := decide_eq_false (by omega)
  rw [e1, e2, Bool.or_false]) (by rw [h1]; simpa using h2) ⟨.str ⟨#[c]⟩, H, I.tok _, ⟨_, rfl⟩, q⟩) hs
def rIx (K : PySem.W.Frag) : R2 := fun x y H Q => rIxL K x y H Q ∨ rIxT K x y H Q ∨ rIxS x y H Q
theorem ix_seq : IxR X (rIx X.K) := ix_list.or (ix_tup.or ix_str)
theorem slice_bounds (lo hi : Option Int) (n : Nat) : (sliceBounds lo hi none n).1 = ((HT.sIx n 0 lo : Nat) : Int) ∧ (sliceBounds lo hi none n).2.1 = ((HT.sIx n n hi : Nat) : Int) ∧ (sliceBounds lo hi none n).2.2 = 1 := by
 refine ⟨?_, ?_, rfl⟩
 ·cases lo with
  | none => simp [sliceBounds, HT.sIx]
  | some i =>
    simp only [sliceBounds, HT.sIx, Option.getD_none, show (1 : Int) > 0 by decide, if_true]
    by_cases h : i < 0
    ·simp only [h, if_true] <;> omega
    ·simp only [h, if_false] <;> omega
 ·cases hi with
  | none => simp [sliceBounds, HT.sIx]
  | some i =>
    simp only [sliceBounds, HT.sIx, Option.getD_none, show (1 : Int) > 0 by decide, if_true]
    by_cases h : i < 0
    ·simp only [h, if_true] <;> omega
    ·simp only [h, if_false] <;> omega
theorem slicePick_cut (its : List Value) (lo hi : Option Int) : slicePick its.toArray lo hi none = ((its.drop (HT.sIx its.length 0 lo)).take (HT.sIx its.length its.length hi - HT.sIx its.length 0 lo)).toArray := by
 obtain ⟨h1, h2, h3⟩ := slice_bounds lo hi its.toArray.size
 unfold slicePick
 rw [h1, h2, h3]
 simp only [sliceRange_one, pick_run, List.size_toArray] <;> rfl
def rSlL (K : PySem.W.Frag) : V → Option Int → Option Int → Hp → VK → Prop := fun x lo hi H Q => ∃ a xs, x = .ref a ∧ SqL K H a xs ∧ ∀ p, H p = none → Q (.ref p) (upd H p (.lst (cutV xs lo hi)))
theorem sl_list : SlR X (rSlL X.K) := by
 intro pins s σ H x v vl vu lo hi sl Q I rx hs pl pu h
 obtain ⟨a, xs, rfl, hx, q⟩ := h
 cases rx
 obtain ⟨its, r, ht, hz⟩ := I.list hx
 have hlen := r.length
 refine ⟨"list", _, slot_list_getitem.lookup, ht.isList.typeIs, ?_⟩
 refine wpAny_getItem_list_slice ht.isList hs pl pu .none (by simp) ?_ (by rw [List.size_toArray] <;> omega)
 rw [slicePick_cut, ← hlen]
 refine ⟨.ref s.heap.objs.size, _, I.laid (t' := s.toks) (o := .lst (cutV xs lo hi)) (fun b ob q => Heap.get?_push_of_some _ q) (Nat.le_refl _) ?_, rfl, q _ (I.hok.fresh (Nat.le_refl _))⟩
 exact ⟨Nat.le_trans (cutV_length xs lo hi) hz, _, 0, (r.drop (HT.sIx xs.length 0 lo)).take (HT.sIx xs.length xs.length hi - HT.sIx xs.length 0 lo), Heap.get?_push_size _ rfl⟩
theorem call_len_seq : CallR X (.builtin "len") (fun xs H Q => ∃ p ys, xs = [.ref p] ∧ (SqL X.K H p ys ∨ SqT X.K H p ys) ∧ Q (.int ys.length) H) := by
 intro pins s σ H xs us Q I r h
 obtain ⟨p, ys, rfl, hq, q⟩ := h
 obtain ⟨u, rfl, rx⟩ := vals1 r
 cases rx
 have hn := line63
 rcases hq with hq | hq
 ·obtain ⟨its, r', pl, hz⟩ := I.list hq
  have hlen := r'.length
  exact Calls.call_len_list pl.isList (by simp only [List.size_toArray] <;> omega) ⟨.int ys.length, H, I.tok _, ⟨s.toks + 1, by rw [List.size_toArray, hlen]⟩, q⟩
 ·obtain ⟨its, r', pl, hz⟩ := I.tuple hq
  have hlen := r'.length
  exact len_tuple pl (by simp only [List.size_toArray] <;> omega) ⟨.int ys.length, H, I.tok _, ⟨s.toks + 1, by rw [List.size_toArray, hlen]⟩, q⟩
theorem call_list_of : CallR X (.type "list") (fun xs H Q => ∃ p ys, xs = [.ref p] ∧ (SqL X.K H p ys ∨ SqT X.K H p ys) ∧ ∀ l, H l = none → Q (.ref l) (upd H l (.lst ys))) := by
 intro pins s σ H xs us Q I r h
 obtain ⟨p, ys, rfl, hq, q⟩ := h
 obtain ⟨u, rfl, rx⟩ := vals1 r
 cases rx
 have fin : ∀ (its : List Value), Vals ys its → ys.length ≤ sizeLine → ∀ (h' : Heap) (c' : Nat), (∀ b o', s.heap.get? b = some o' → h'.get? b = some o') →
  h'.get? s.heap.objs.size = some { cls := .type "list", dict := none, data := .seq its.toArray c', slots := #[] } → EP X pins σ Q (.ref s.heap.objs.size) { s with heap := h' } := fun its r' hz h' c' kp e =>
  ⟨.ref s.heap.objs.size, _, I.laid (t' := s.toks) kp (Nat.le_refl _) (show ObjOk X.prog X.w _ h' _ (.lst ys) from ⟨hz, its, c', r', e⟩), rfl, q _ (I.hok.fresh (Nat.le_refl _))⟩
 rcases hq with hq | hq
 ·obtain ⟨its, r', pl, hz⟩ := I.list hq
  have hlen := r'.length
  obtain ⟨o, ho, hc, n, hd⟩ := pl.isList
  exact call_list_seq p (.inl rfl) ho hc hd (fun h' c' kp e => fin its r' hz h' c' kp e) (by simp only [List.size_toArray] <;> omega)
 ·obtain ⟨its, r', pl, hz⟩ := I.tuple hq
  have hlen := r'.length
  obtain ⟨o, ho, hc, n, hd⟩ := pl
  exact call_list_seq p (.inr rfl) ho hc hd (fun h' c' kp e => fin its r' hz h' c' kp e) (by simp only [List.size_toArray] <;> omega)
theorem call_tuple_of : CallR X (.type "tuple") (fun xs H Q => ∃ p ys, xs = [.ref p] ∧ ((SqL X.K H p ys ∧ ∀ l, H l = none → Q (.ref l) (upd H l (.tup ys))) ∨ (SqT X.K H p ys ∧ Q (.ref p) H))) := by
 intro pins s σ H xs us Q I r h
 obtain ⟨p, ys, rfl, h⟩ := h
 obtain ⟨u, rfl, rx⟩ := vals1 r
 cases rx
 rcases h with ⟨hq, q⟩ | ⟨hq, q⟩
 ·obtain ⟨its, r', pl, hz⟩ := I.list hq
  have hlen := r'.length
  refine call_tuple_list pl.isList (fun h' kp => ?_) (by simp only [List.size_toArray] <;> omega)
  have I1 : Inv X pins σ H { s with heap := h' } := I.kept (t' := s.toks) kp
  have I2 : Inv X pins σ (upd H h'.objs.size (.tup ys)) { s with heap := h'.push { cls := .type "tuple", data := .seq its.toArray } } :=
   I1.laid (t' := s.toks) (fun b o e => Heap.get?_push_of_some _ e) (Nat.le_refl _) (show ObjOk X.prog X.w _ _ _ (.tup ys) from ⟨hz, its, r', IsTup.new _ _⟩)
  exact ⟨.ref h'.objs.size, _, I2, rfl, q _ (I1.hok.fresh (Nat.le_refl _))⟩
 ·obtain ⟨its, r', pl, hz⟩ := I.tuple hq
  exact call_tuple_same pl ⟨.ref p, H, I, rfl, q⟩
def tyV (K : PySem.W.Frag) (T : String) (x : V) (H : Hp) : Prop := match x with
 | .str _ => T = "str"
 | .int _ => T = "int"
 | .ref p => (T = "list" ∧ ∃ xs, SqL K H p xs) ∨ (T = "tuple" ∧ ∃ o, K.lookup p = some o ∧ o.cls = .type "tuple" ∧ o.dict = none) ∨
  (T = "dict" ∧ ((∃ kvs, H p = some (.dK kvs)) ∨ ∃ kvs, H p = some (.dT kvs))) ∨ (T = "set" ∧ ∃ S n, H p = some (.set S n))
 | _ => False
theorem tyV_is {pins : List (Addr × Obj)} {σ : St} {H : Hp} {s : Shared} {T : String} {x : V} {v : Value} (I : Inv X pins σ H s) (r : RelV x v) (ty : tyV X.K T x H) :
 s.TypeIs v T ∧ ∀ a, v = .ref a → ∃ ob, s.heap.get? a = some ob ∧ ob.dict = none := by
 cases x with
 | str z =>
   obtain ⟨t, rfl⟩ := r
   cases (show T = "str" from ty)
   exact ⟨typeIs_str s z t, fun _ e => nomatch e⟩
 | int i =>
   obtain ⟨t, rfl⟩ := r
   cases (show T = "int" from ty)
   exact ⟨typeIs_int s i t, fun _ e => nomatch e⟩
 | ref p =>
   cases r
   rcases ty with ⟨rfl, xs, hq⟩ | ⟨rfl, o, hk, hc, hd⟩ | ⟨rfl, hk⟩ | ⟨rfl, S, n, hk⟩
   ·obtain ⟨its, _, pl, _⟩ := I.list hq
    refine ⟨pl.isList.typeIs, fun a e => ?_⟩
    cases e
    obtain ⟨o, n, e, c, hd, _⟩ := pl
    exact ⟨o, e, hd⟩
   ·refine ⟨⟨o, I.kIn p o hk, hc⟩, fun a e => ?_⟩
    cases e
    exact ⟨o, I.kIn _ o hk, hd⟩
   ·have z : ∃ o, s.heap.get? p = some o ∧ o.ExactDict := by
     rcases hk with ⟨kvs, hk⟩ | ⟨kvs, hk⟩
     ·obtain ⟨_, _, _, _, o, _, _, e, ex, _⟩ := I.hok p _ hk
      exact ⟨o, e, ex⟩
     ·obtain ⟨_, _, _, _, o, _, _, e, ex, _⟩ := I.hok p _ hk
      exact ⟨o, e, ex⟩
    obtain ⟨o, e, ex⟩ := z
    refine ⟨⟨o, e, ex.1⟩, fun a e2 => ?_⟩
    cases e2
    exact ⟨o, e, ex.2.1⟩
   ·obtain ⟨o, _, _, _, e, ex, _⟩ := I.hok p _ hk
    refine ⟨⟨o, e, ex.1⟩, fun a e2 => ?_⟩
    cases e2
    exact ⟨o, e, ex.2.1⟩
 | _ => exact False.elim ty
def tBM (K : PySem.W.Frag) (T : String) (r : V → List V → Hp → VK → Prop) (to : TE) (t : TA) : TE := fun σ H Q => to σ H fun x H1 => tyV K T x H1 ∧ t σ H1 fun xs H2 => r x xs H2 Q
variable {o e : Expr} {es : List Expr} {to : TE} {t : TA} {name : Str} {apos cpos : Pos} {T id : String} {r : V → List V → Hp → VK → Prop}
theorem pe_bm (pa : PlainAttrs T) (slot : Slot T name id) (hty : typeOf (.builtin id) = pure (.type "method_descriptor")) (hm : MtR X id r) (ho : PE X o to) (ha : PA X (e :: es) t)
 (hbase : attributeBase o name X.env (eval o X.env) = eval o X.env := by rfl)
 (hfew : ((backTo cpos (starEach (e :: es) X.env)).all (fun x => !x.1) && (backToKw cpos (keywordEach [] X.env)).all (fun x => x.1.isSome)
  && decide ((e :: es).length + ([] : List Keyword).length + (if ([] : List Keyword).isEmpty then 0 else 1) < 30)) = true := by rfl)
 (hline : (apos.endLine == cpos.line) = true := by rfl) (hs : starEach (e :: es) X.env = (false, eval e X.env) :: starEach es X.env := by rfl) (hplain : (backTo cpos (starEach es X.env)).any (·.1) = false := by rfl) :
 PE X (.Call (.Attribute o name apos) (e :: es) [] cpos) (tBM X.K T r to t) := by
 intro pins s σ H Q I h
 refine wpAny_Call_method_late hbase hfew hline rfl (thn (ho pins s σ H _ I h) fun v s1 ⟨x, H1, I1, r1, ty, q1⟩ => ?_)
 obtain ⟨h1, h2⟩ := tyV_is I1 r1 ty
 refine ⟨T, id, pa, slot, hty, h1, h2, ?_⟩
 have hA := ha cpos pins s1 σ H1 _ I1 q1
 rw [hs] at hA ⊢
 refine Calls.callWith_builtin (by show (false || (backTo cpos (starEach es X.env)).any (·.1)) = false; rw [hplain] <;> rfl) (Calls.evalArgs_plain ?_)
 exact thn hA fun us s2 ⟨vs, H2, I2, r2, q2⟩ => hm pins s2 σ H2 x vs v us Q I2 r1 r2 q2
end
end L2
namespace L2
open PySem PySem.Spec PyProof.Rows
def MtM (X : Cx) (id : String) (r : V → List V → Hp → VK → Prop) : Prop :=
 ∀ (pins : List (Addr × Obj)) (s : Shared) (σ : St) (H : Hp) (x : V) (xs : List V) (v : Value) (us : List Value) (Q : VK), Inv X pins σ H s → RelV x v → Vals xs us → r x xs H Q →
   wpAny (model X.prog X.w) X.A (call (.builtin id) (v :: us)) (EP X pins σ Q) X.xe s
theorem Vals.one : ∀ {x : V} {us : List Value}, Vals [x] us → ∃ u, us = [u] ∧ RelV x u
 | _, _, .cons r .nil => ⟨_, rfl, r⟩
theorem Vals.zero : ∀ {us : List Value}, Vals [] us → us = []
 | _, .nil => rfl
theorem Vals.rep {xs : List V} {us : List Value} (h : Vals xs us) : ∀ k : Nat, Vals (List.replicate k xs).flatten (List.replicate k us).flatten
 | 0 => .nil
 | k + 1 => by
   rw [List.replicate_succ, List.replicate_succ, List.flatten_cons, List.flatten_cons]
   exact Vals.append h (Vals.rep h k)
theorem foldl_rep (its : List Value) : ∀ (k : Nat) (acc : List Value),
 List.foldl (fun x1 x2 => x1 ++ x2) acc.toArray (List.replicate k its.toArray) = (acc ++ (List.replicate k its).flatten).toArray
 | 0, acc => by simp
 | k + 1, acc => by
   have e : acc.toArray ++ its.toArray = (acc ++ its).toArray := by simp
   have e2 : (acc ++ its) ++ (List.replicate k its).flatten = acc ++ (List.replicate (k + 1) its).flatten := by
    rw [List.replicate_succ, List.flatten_cons, List.append_assoc]
   rw [← e2, ← foldl_rep its k (acc ++ its), ← e, List.replicate_succ, List.foldl_cons]
section
variable {X : Cx} {pins : List (Addr × Obj)} {σ : St} {H : Hp} {s : Shared} {l b : Addr} {xs ys zs : List V}
theorem Inv.lset {its its' : List Value} {n : Nat} {f : Array Value → Array Value} {t' : Nat} (I : Inv X pins σ H s) (hH : H l = some (.lst xs))
 (e : s.heap.get? l = some { cls := .type "list", data := .seq its.toArray n }) (hf : f its.toArray = its'.toArray) (hv : Vals ys its') (hz : ys.length ≤ sizeLine) :
 Inv X pins σ (upd H l (.lst ys)) { s with heap := s.heap.update l (Obj.mapSeq f), toks := t' } := by
 have q := PySem.IsL.update e f
 rw [hf] at q
 refine I.write (x := l) (e := l) (by rw [hH]; exact trivial) (.inl rfl) (fun b' u hb hu => (Heap.get?_update_other s.heap (Obj.mapSeq f) (Ne.symm hb)).trans hu) ⟨_, q⟩ ?_
 exact ⟨hz, its', _, hv, q⟩
theorem Inv.lnew {its : List Value} {t' : Nat} (I : Inv X pins σ H s) (hv : Vals ys its) (hz : ys.length ≤ sizeLine) :
 Inv X pins σ (upd H s.heap.objs.size (.lst ys)) { s with heap := s.heap.push { cls := .type "list", data := .seq its.toArray }, toks := t' } :=
 I.laid (fun _ _ q => Heap.get?_push_of_some _ q) (Nat.le_refl _) ⟨hz, its, 0, hv, Heap.get?_push_size _ rfl⟩
theorem Inv.fresh (I : Inv X pins σ H s) : H s.heap.objs.size = none := I.hok.fresh (Nat.le_refl _)
theorem Inv.lstM (I : Inv X pins σ H s) (hH : H l = some (.lst xs)) : xs.length ≤ sizeLine ∧ ∃ (its : List Value) (n : Nat), Vals xs its ∧ xs.length = its.length ∧ s.heap.get? l = some { cls := .type "list", data := .seq its.toArray n } := by
 obtain ⟨z, its, n, r, e⟩ := I.hok l _ hH
 exact ⟨z, its, n, r, r.length, e⟩
theorem notLongL {n : Nat} (h : n ≤ sizeLine) : Builtin.List.listTooLong n = false := by
 unfold Builtin.List.listTooLong
 exact decide_eq_false (by omega)
end
section
variable {X : Cx}
def rAppend : V → List V → Hp → VK → Prop := fun x vs H Q => ∃ l xs y, x = .ref l ∧ vs = [y] ∧ H l = some (.lst xs) ∧ xs.length < sizeLine ∧ Q .non (upd H l (.lst (xs ++ [y])))
theorem mt_append : MtM X "list.append" rAppend := by
 intro pins s σ H x vs v us Q I rx rv h
 obtain ⟨l, xs, y, rfl, rfl, hH, hz, q⟩ := h
 cases rx
 obtain ⟨u, rfl, ru⟩ := rv.one
 obtain ⟨z, its, n, r, hl, e⟩ := I.lstM hH
 refine call_meets F.slot_list_append ⟨_, e, rfl⟩ F.entry_list_append (F.args_list_append_2 _ _) (PySem.list_append l its.toArray n u (by rw [List.size_toArray]; omega)) ⟨e, ?_⟩
 refine ⟨.non, _, I.lset (its' := its ++ [u]) hH e (by simp) (r.append (.cons ru .nil)) ?_, rfl, q⟩
 rw [List.length_append, List.length_singleton]
 omega
def rExtend : V → List V → Hp → VK → Prop := fun x vs H Q => ∃ l b xs zs, x = .ref l ∧ vs = [.ref b] ∧ H l = some (.lst xs) ∧ H b = some (.lst zs) ∧ xs.length + zs.length ≤ sizeLine ∧ Q .non (upd H l (.lst (xs ++ zs)))
theorem mt_extend : MtM X "list.extend" rExtend := by
 intro pins s σ H x vs v us Q I rx rv h
 obtain ⟨l, b, xs, zs, rfl, rfl, hH, hB, hz, q⟩ := h
 cases rx
 obtain ⟨u, rfl, ru⟩ := rv.one
 cases ru
 obtain ⟨z, its, n, r, hl, e⟩ := I.lstM hH
 obtain ⟨z2, its2, n2, r2, hl2, e2⟩ := I.lstM hB
 have hsz : its.toArray.size + its2.toArray.size ≤ sizeLine := by rw [List.size_toArray, List.size_toArray]; omega
 have hlong : ¬ (!its.toArray.isEmpty && Builtin.List.listTooLong (its.toArray.size + its2.toArray.size)) = true := by
  rw [notLongL hsz, Bool.and_false]
  exact Bool.false_ne_true
 refine call_meets F.slot_list_extend ⟨_, e, rfl⟩ F.entry_list_extend (F.args_list_extend_2 _ _)
  (AutoSeq1.list_extend_list_list_0 l its.toArray n b its2.toArray n2 hlong (by rw [List.size_toArray]; omega) (by omega)) ⟨e, e2, ?_⟩
 refine ⟨.non, _, I.lset (its' := its ++ its2) hH e (by simp) (r.append r2) ?_, rfl, q⟩
 rw [List.length_append]
 omega
def rCat : R2 := fun x y H Q => ∃ l b xs zs, x = .ref l ∧ y = .ref b ∧ H l = some (.lst xs) ∧ H b = some (.lst zs) ∧ xs.length + zs.length ≤ sizeLine ∧ ∀ p, H p = none → Q (.ref p) (upd H p (.lst (xs ++ zs)))
theorem op_cat : OpR X (binaryOp .Add) rCat := by
 intro pins s σ H x y v u Q I rx ry h
 obtain ⟨l, b, xs, zs, rfl, rfl, hH, hB, hz, q⟩ := h
 cases rx
 cases ry
 obtain ⟨z, its, n, r, hl, e⟩ := I.lstM hH
 obtain ⟨z2, its2, n2, r2, hl2, e2⟩ := I.lstM hB
 refine PySem.P.add_list e e2 ?_ (by rw [List.size_toArray, List.size_toArray]; omega)
 have ea : its.toArray ++ its2.toArray = (its ++ its2).toArray := by simp
 rw [ea]
 exact ⟨.ref _, _, I.lnew (t' := s.toks) (r.append r2) (by rw [List.length_append]; omega), rfl, q _ I.fresh⟩
def rRep : R2 := fun x y H Q => ∃ l k xs, x = .ref l ∧ y = .int k ∧ H l = some (.lst xs) ∧ -(2 ^ 63) ≤ k ∧ k < 2 ^ 63 ∧ xs.length * k.toNat ≤ sizeLine ∧
 ∀ p, H p = none → Q (.ref p) (upd H p (.lst (List.replicate k.toNat xs).flatten))
theorem len_rep {α : Type} (xs : List α) (k : Nat) : (List.replicate k xs).flatten.length = k * xs.length := by
 induction k with
 | zero => simp
 | succ k ih => rw [List.replicate_succ, List.flatten_cons, List.length_append, ih, Nat.succ_mul, Nat.add_comm]
theorem op_rep : OpR X (binaryOp .Mult) rRep := by
 intro pins s σ H x y v u Q I rx ry h
 obtain ⟨l, k, xs, rfl, rfl, hH, h1, h2, hz, q⟩ := h
 cases rx
 obtain ⟨t, rfl⟩ := ry
 obtain ⟨z, its, n, r, hl, e⟩ := I.lstM hH
 have hlen : its.toArray.size * k.toNat ≤ sizeLine := by rw [List.size_toArray, ← hl]; exact hz
 have hcap : ¬ its.toArray.size * k.toNat > (2 ^ 63 - 1) / 8 := by
  have : (sizeLine : Nat) ≤ (2 ^ 63 - 1) / 8 := by decide
  omega
 have hfit : ¬ (!Builtin.List.listFitsIndex k) = true := by
  rw [fitsIndex_both h1 h2]
  exact Bool.false_ne_true
 have hlong : ¬ Builtin.List.listTooLong (its.toArray.size * k.toNat) = true := by
  rw [notLongL hlen]
  exact Bool.false_ne_true
 have hnew : List.foldl (fun x1 x2 => x1 ++ x2) #[] (List.replicate (if its.toArray.isEmpty = true then 0 else k.toNat) its.toArray) = (List.replicate k.toNat its).flatten.toArray := by
  have f0 : ∀ m : Nat, List.foldl (fun x1 x2 => x1 ++ x2) #[] (List.replicate m its.toArray) = (List.replicate m its).flatten.toArray := fun m => by
   have := foldl_rep its m []
   rw [List.nil_append] at this
   exact this
  rw [f0]
  cases its with
  | nil => simp
  | cons a r' => rw [if_neg (by simp)]
 refine wpAny_binaryOp_repeat_ref (T := "list") (U := "int") (by decide) ⟨_, e, rfl⟩ (fun s' => typeIs_int s' k t) noFill_list_mul F.fills_int_mul F.slot_int_rmul repeat_list F.slot_int_index.lookup
  (call_meets F.slot_int_rmul (typeIs_int s k t) F.entry_int_rmul (F.args_int_rmul_2 _ _) (int___rmul___int_list k t l its.toArray n)
   ⟨e, rfl, ⟨_, e, rfl⟩, call_meets F.slot_list_mul ⟨_, e, rfl⟩ F.entry_list_mul (F.args_list_mul_2 _ _) (AutoListH.list___mul___list_int_3 l its.toArray n k t hfit hcap hlong) ⟨e, ?_⟩⟩)
 rw [hnew]
 exact ⟨.ref _, _, I.lnew (t' := s.toks) (r.rep k.toNat) (by rw [len_rep, Nat.mul_comm]; exact hz), rfl, q _ I.fresh⟩
end
section
variable {prog : Program} {w : World} {A : Around} {E : Value → Shared → Prop} {s : Shared}
set_option maxRecDepth 100000 in
end
section
variable {X : Cx}
end
end L2
namespace Att
open PySem PySem.W PySem.Calls PyProof.Rows
theorem ints_of_wellAll {P : Params} {h : Heap} : ∀ (ns : List Int) (vs : List Value), WellAll P h vs (ns.map WData.int) → IntsAre vs ns := by
 intro ns
 induction ns with
 | nil =>
   intro vs w
   rw [List.map_nil] at w
   cases w
   exact .nil
 | cons n ns ih =>
   intro vs w
   rw [List.map_cons] at w
   cases w with
   | cons a b =>
     cases a
     exact .cons _ _ (ih _ b)
theorem script_of {l : OpenLaw} {n : Nat} (hn : l.most = some n) {P : Params} {h : Heap} {args : List WData} {vals : List Value}
 (hpre : l.row.toRowW.claim.pre args = true) (hwl : WellAll P h vals args) :
 ∃ a vs ns, vals = [Value.ref a] ∧ args = [WData.list (ns.map WData.int)] ∧ h.get? a = some { cls := .type "list", data := .seq vs.toArray } ∧ IntsAre vs ns ∧ ns.length ≤ n := by
 have hsh : WShape.hasAll [] args [.list .int] = true := (pre_splitW hpre).1
 have hc : l.pre.holds [] { args := args } = true := (pre_splitW hpre).2
 obtain ⟨d, r, rfl, h1, h2⟩ := hasAllW_cons hsh
 obtain rfl := hasAllW_nil h2
 obtain ⟨xs, rfl, h3⟩ := hasW_list h1
 obtain ⟨ns, rfl⟩ := items_int h3
 have hlen : ns.length ≤ n := by
  unfold OpenLaw.pre at hc
  have h4 : (WTm.not (.lt (.lit (.int (n : Int))) (.len (.arg 0)))).holds [] { args := [.list (ns.map .int)] } = true := by
   have h4 := (holds_andW hc).1
   rw [hn] at h4
   exact h4
  have h5 := condW_of h4 (w_not (w_lt w_lit (w_len_list (w_arg rfl))))
  rw [List.length_map] at h5
  refine Nat.le_of_not_lt fun q => ?_
  have q' : (n : Int) < ((ns.length : Nat) : Int) := by omega
  first
   | (rw [decide_eq_true q'] at h5; exact absurd h5 (by decide))
   | (simp at h5; omega)
 cases hwl with
 | cons w1 w2 =>
   cases w2
   cases w1 with
   | list ho hall => exact ⟨_, _, ns, rfl, rfl, ho, ints_of_wellAll ns _ hall, hlen⟩
theorem post_true (l : OpenLaw) (args : List WData) : l.row.toRowW.claim.post args (.bool true) args = true :=
 postW_of (r := l.row.toRowW) (X := (true == true))
  (show WShape.has [] (.bool true) .bool = true by first | rfl | decide | simp [WShape.has, WShape.arms, WShape.armsAll])
  (show (WTm.eq .res (.lit (.bool true))).value [] { args := args, res := some (.bool true), after := args } = some (.bool (true == true)) from w_eq_bool (w_res rfl) w_lit) rfl
theorem attach_call {l : OpenLaw} {n : Nat} {q : Program} {loose : List Str} {XP : (Str → Option Value) → Heap → Prop} {YP : World → Heap → Prop} {d : DefRec}
 (hn : l.most = some n) (hdf : d.params.defaults = [])
 (call : ∀ (w : World) (s₀ s₁ : Shared) (mg mb : Str → Option Value) (fa : Addr) (o : Obj) (pm cd doc : Value) (a : Addr) (vs : List Value) (ns : List Int),
  Ground q loose [] XP w s₀ mg mb s₁.heap → YP w s₁.heap →
  s₁.heap.get? fa = some o → o.data = .func (docDef d.name d.params d.body d.scope pm cd doc) → s₁.heap.CodeRec cd d.name → mg d.name = some (.ref fa) →
  s₁.heap.get? a = some { cls := .type "list", data := .seq vs.toArray } → IntsAre vs ns → ns.length ≤ n → s₁.gens = #[] →
  codeAny (model l.prog w) callerA (.call (.ref fa) ⟨[.ref a], []⟩) (fun r s' => r = .ok (.ret (.bool true)) ∧ OldK s₁.heap s'.heap ∧ s'.os = s₁.os ∧ AllBare s'.gens) s₁) :
 WalkO q loose XP YP l.row.toRowW d [] (fun f vs => PySem.call f vs) := by
 intro w s₀ s₁ mg mb G Y fa o pm cd doc dV kV ho hd hcd hD hmg hg args vals as hpre hlay hrd hwl hlo
 obtain rfl : dV = .none := Dflts.none hD hdf
 obtain rfl : kV = .none := Dflts.noKw hD
 obtain ⟨a, vs, ns, rfl, rfl, hobj, hints, hlen⟩ := script_of hn hpre hwl
 refine enter_call (codeAny_mono (call w s₀ s₁ mg mb fa o pm cd doc a vs ns G Y ho (fd_plain hd) hcd hmg hobj hints hlen hg) fun r s' hq => ?_)
 obtain ⟨rfl, h2, h3, h4⟩ := hq
 exact ⟨.inl ⟨.bool true, .bool true, [], rfl, fun _ => rfl, .bool true, post_true l _, fun _ => ⟨List.Pairwise.nil, fun _ hm => (nomatch hm)⟩⟩, h2, h3, h4⟩
section
variable {prog : Program} {w : World} {A : Around} {E : Value → Shared → Prop} {s : Shared} {K : Frag}
def ledger (h : Heap) (L d : Addr) : List (Addr × Obj) := (List.range h.objs.size).filterMap fun a => if a = L ∨ a = d then none else (h.get? a).map fun o => (a, o)
end
end Att
namespace L2
open PySem PySem.Spec PyProof.Rows
theorem vals_ints : ∀ {vs : List Value} {ns : List Int}, IntsAre vs ns → Vals (ns.map V.int) vs
 | _, _, .nil => .nil
 | _, _, .cons n t h => .cons ⟨t, rfl⟩ (vals_ints h)
def Only (H : Hp) : Prop := ∀ b, H b = none ∨ ∃ o xs, H b = some (.frz o (.lst xs))
theorem law_call {P : Program} {w : World} {K : PySem.W.Frag} {mg mb : Str → Option Value} {CX : CXT} {k : Nat} {fa a : Addr} {fd : FuncData} {x : Str} {sp : Sp} {s₁ : Shared} {vs : List Value} {ns : List Int}
 (KX : K.In s₁.heap) (hns : s₁.heap.Ns mainGlobals mg) (hb : s₁.heap.Ns builtinsNs mb) (hbb : ∀ x : Str, x ≠ "__name__" → mb x = bootBuiltins x) (hlim : s₁.heap.NoLimit) (hg : s₁.gens = #[])
 (ha : s₁.heap.get? a = some { cls := .type "list", data := .seq vs.toArray }) (hi : IntsAre vs ns) (hl : ns.length ≤ sizeLine) (hr : Room k callerA)
 (F : ∀ base : Heap, K.In base → base.Ns mainGlobals mg → FnOk P w K mg base CX k fa fd [x] sp) (hbind : ∀ (s : Shared) (u : Value), BindsTo s fd ⟨[u], []⟩ [(x, u)])
 (hsp : ∀ H : Hp, Only H → SqL K H a (ns.map V.int) → sp [.ref a] H (fun v _ => v = .bl true) fun _ _ _ => False)
 (hCX : ∀ H e s', CX [] H s₁ (fun _ _ _ => False) e s' → False) :
 codeAny (model P w) callerA (.call (.ref fa) ⟨[.ref a], []⟩) (fun r s' => r = .ok (.ret (.bool true)) ∧ OldK s₁.heap s'.heap ∧ s'.os = s₁.os ∧ AllBare s'.gens) s₁ := by
 have rv := vals_ints hi
 have lenV := hi.length
 have core : ∀ H : Hp, Only H → SqL K H a (ns.map V.int) → HOk P w H s₁.heap → (∀ b, H b ≠ none → b = a) → (H a ≠ none → K.lookup a = none) →
  codeAny (model P w) callerA (.call (.ref fa) ⟨[.ref a], []⟩) (fun r s' => r = .ok (.ret (.bool true)) ∧ OldK s₁.heap s'.heap ∧ s'.os = s₁.os ∧ AllBare s'.gens) s₁ := by
  intro H hO hS hok hA hK
  have base_of : ∀ {b : Addr} {o : Obj}, s₁.heap.get? b = some o → H b = none → (hidT s₁.heap H).get? b = some o := fun e n => hidT_get e n
  have noA : ∀ {b : Addr} {o : Obj} {es : Array DictEntry} {ep : Nat}, s₁.heap.get? b = some o → o.data = .dict es ep → H b = none := fun {b o es ep} e d => by
   cases q : H b with
   | none => rfl
   | some u =>
     have e' : b = a := hA b (by rw [q]; simp)
     subst e'
     rw [ha] at e; cases e
     have d' : Data.seq vs.toArray _ = Data.dict es ep := d
     cases d'
  have nsK : ∀ {b : Addr} {m : Str → Option Value}, s₁.heap.Ns b m → (hidT s₁.heap H).Ns b m := fun {b m} ⟨o, es, ep, e, d, r⟩ => ⟨o, es, ep, base_of e (noA e d), d, r⟩
  have hKb : K.In (hidT s₁.heap H) := fun b o e => base_of (KX b o e) (by
   cases q : H b with
   | none => rfl
   | some u =>
     have e' : b = a := hA b (by rw [q]; simp)
     subst e'
     rw [hK (by rw [q]; simp)] at e; cases e)
  have hM : Mod K mg (hidT s₁.heap H) := ⟨hKb, nsK hns, ⟨mb, nsK hb, hbb⟩, let ⟨mc, h1, h2⟩ := hlim; ⟨mc, nsK h1, h2⟩⟩
  have e0 : Env0 P w K mg (hidT s₁.heap H) callerA [] s₁ H := ⟨rfl, hM, fun b o e => of_hidT e, Nat.le_of_eq (hidT_size _ _), trivial, fun b hb => absurd (show b ∈ ([] : List Addr) from hb) (by simp), hok, .of_eq hg⟩
  refine codeAny_mono ((F _ hKb (nsK hns)).run callerA [] s₁ H ⟨[.ref a], []⟩ [.ref a] [.ref a] _ _ hr e0 (hbind s₁ (.ref a)) (.cons rfl .nil) (hsp H hO hS)) fun r s' h => ?_
  cases r with
  | error e => exact (hCX H e s' h).elim
  | ok fl =>
    cases fl with
    | next => exact False.elim h
    | brk => exact False.elim h
    | cont => exact False.elim h
    | ret u =>
      obtain ⟨v, H', os, bare, un, hok', r', q⟩ := h
      have q' : v = .bl true := q
      subst q'
      obtain rfl : u = Value.bool true := r'
      refine ⟨rfl, OldK.of_keep fun b o e => ?_, os, bare⟩
      cases q : H b with
      | none => exact un.keep b o e q (by intro z; exact absurd (show b ∈ ([] : List Addr) from z) (by simp)) (by simp)
      | some u =>
        rcases hO b with z | ⟨ob, xs, z⟩
        ·rw [q] at z; cases z
        ·have z2 := un.frzs b ob _ z
         obtain ⟨e1, _⟩ := hok b _ z
         obtain ⟨e2, _⟩ := hok' b _ z2
         rw [e] at e1; cases e1
         exact e2
 cases hk : K.lookup a with
 | some o =>
   have e := KX a o hk
   rw [ha] at e
   cases e
   refine core (fun _ => none) (fun _ => .inl rfl) (.inr ⟨_, vs.toArray, _, hk, rfl, rfl, rfl, by rw [List.size_toArray, lenV]; exact hl, by simpa using rv⟩) (fun b u z => by have z' : (none : Option HO) = some u := z; cases z') (fun b z => absurd rfl z) fun z => absurd rfl z
 | none =>
   refine core (fun b => if b = a then some (.frz { cls := .type "list", data := .seq vs.toArray } (.lst (ns.map V.int))) else none) (fun b => ?_) (.inl (.inr ⟨{ cls := .type "list", data := .seq vs.toArray }, if_pos rfl⟩)) (fun b u z => ?_) (fun b z => ?_) fun _ => hk
   ·by_cases hb : b = a
    ·exact .inr ⟨_, _, if_pos hb⟩
    ·exact .inl (if_neg hb)
   ·by_cases hb : b = a
    ·have z' := (if_pos hb).symm.trans z
     cases z'
     subst hb
     exact ⟨ha, by rw [List.length_map]; exact hl, vs, _, rv, ha⟩
    ·have z' := (if_neg hb).symm.trans z
     cases z'
   ·by_cases hb : b = a
    ·exact hb
    ·exact absurd (if_neg hb) z
end L2
namespace L2
open PySem PySem.Spec PyProof.Rows
theorem walk_of {l : PySem.W.OpenLaw} {n k : Nat} {q : Program} {loose : List Str} {XP : (Str → Option Value) → Heap → Prop} {YP : World → Heap → Prop} {d : DefRec} {K : Params → PySem.W.Frag} {CX : World → CXT} {sp : World → Sp} {x : Str}
 (hn : l.most = some n) (hn2 : n ≤ sizeLine) (hdf : d.params.defaults = []) (hr : Room k callerA)
 (hY : ∀ (w : World) (h : Heap), YP w h → (K w.params).In h)
 (F : ∀ (w : World) (mg : Str → Option Value) (fa : Addr) (h : Heap), (K w.params).In h → h.Ns mainGlobals mg → mg d.name = some (.ref fa) →
  ∃ fd : FuncData, (∀ (s : Shared) (u : Value), BindsTo s fd ⟨[u], []⟩ [(x, u)]) ∧
    ∀ base : Heap, (K w.params).In base → base.Ns mainGlobals mg → FnOk l.prog w (K w.params) mg base (CX w) k fa fd [x] (sp w))
 (hsp : ∀ (w : World) (H : Hp) (a : Addr) (ns : List Int), ns.length ≤ n → Only H → SqL (K w.params) H a (ns.map V.int) → sp w [.ref a] H (fun v _ => v = .bl true) fun _ _ _ => False)
 (hCX : ∀ (w : World) (H : Hp) (s : Shared) (e : Value) (s' : Shared), CX w [] H s (fun _ _ _ => False) e s' → False) :
 PySem.W.WalkO q loose XP YP l.row.toRowW d [] (fun f vs => PySem.call f vs) := by
 refine Att.attach_call hn hdf fun w s₀ s₁ mg mb fa o pm cd doc a vs ns G Y ho hd hcd hmg hobj hints hlen hg => ?_
 have KX := hY w _ Y
 obtain ⟨fd, hb, hF⟩ := F w mg fa _ KX G.T.g hmg
 exact law_call KX G.T.g G.T.b G.T.builtins G.T.nolimit hg hobj hints (Nat.le_trans hlen hn2) hr hF hb (fun H hO hS => hsp w H a ns hlen hO hS) fun H e s' => hCX w H s₁ e s'
end L2
namespace L2
open PySem PySem.Spec PyProof.Rows
def inClass (s : Stmt) (j : Nat) : Stmt := match s with
 | .ClassDef _ _ _ body _ _ _ _ _ _ _ => body.getD j (.Pass ⟨0, 0, 0, 0⟩)
 | _ => .Pass ⟨0, 0, 0, 0⟩
def defArgs (s : Stmt) : Arguments := match s with
 | .FunctionDef _ a _ _ _ _ _ _ _ _ => a
 | _ => { posonlyargs := [], args := [], vararg := none, kwonlyargs := [], kw_defaults := [], kwarg := none, defaults := [] }
def defBody (s : Stmt) : List Stmt := match s with
 | .FunctionDef _ _ b _ _ _ _ _ _ _ => b
 | _ => []
def defScope (s : Stmt) : Scope := match s with
 | .FunctionDef _ _ _ _ _ _ sc _ _ _ => sc
 | _ => { kind := .function, names := [], isGenerator := false, isCoroutine := false }
abbrev CX0 : CXT := fun _ _ _ _ _ _ => False
abbrev E0 : XK := fun _ _ _ => False
theorem pass0 {X : Cx} : Passes CX0 X E0 := fun _ _ _ _ _ _ _ h => h.elim
structure Fun (K : PySem.W.Frag) (x qual : Str) (st : Stmt) (f : Addr) (fd : FuncData) : Prop where
 ex : ∃ (oc : Value) (od : Option Addr) (kV doc pm : Value) (an : Option Addr) (cdv ct : Value) (osl : Array (Option Value)),
  fd = PySem.W.fnOf x qual (defArgs st) (defBody st) (defScope st) .none kV doc pm an cdv ct ∧ K.lookup f = some ⟨oc, od, .func fd, osl⟩ ∧ PySem.W.codeIn K cdv qual = true
 kp : PySem.W.keepIn K (.ref f) = true
section
variable {P : Program} {w : World} {K : PySem.W.Frag} {mg : Str → Option Value} {base : Heap}
theorem Fun.ok {x qual : Str} {st : Stmt} {f : Addr} {fd : FuncData} {N ps : List Str} {k : Nat} {sp : Sp} (F : Fun K x qual st f fd) (S : FnScope N ps (defScope st)) (len : ∀ vs H Q E, sp vs H Q E → vs.length = ps.length)
 (hbody : ∀ (cdv : Value) (A : Around) (outer : List Env) (s : Shared) (H : Hp) (vs : List V) (Q : VK) (E : XK), Room k (A.deeper (envOfC qual (defScope st) s.heap.objs.size f cdv)) → sp vs H Q E →
  ∃ t, PSs (cxOf CX0 P w K mg base N qual (defScope st) f cdv A outer s H E).nox (defBody st) t ∧ t { nx := fun _ H' => Q .non H', rt := Q } (start N vs) H) : FnOk P w K mg base CX0 (k + 1) f fd ps sp := by
 obtain ⟨oc, od, kV, doc, pm, an, cdv, ct, osl, rfl, lk, hcd⟩ := F.ex
 refine fn_of lk hcd S len fun A outer s H vs Q E hr hsp => ?_
 obtain ⟨t, h, q⟩ := hbody cdv A outer s H vs Q E hr hsp
 exact ⟨t, h.nox, q⟩
theorem Fun.binds {x qual : Str} {st : Stmt} {f : Addr} {fd : FuncData} {ps : List Str} (F : Fun K x qual st f fd)
 (h : ∀ (kV doc pm : Value) (an : Option Addr) (cdv ct : Value) (us : List Value), us.length = ps.length → bindArgs (PySem.W.fnOf x qual (defArgs st) (defBody st) (defScope st) .none kV doc pm an cdv ct) ⟨us, []⟩ = pure (ps.zip us)) : Binds K fd ps [] := by
 obtain ⟨oc, od, kV, doc, pm, an, cdv, ct, osl, rfl, lk, hcd⟩ := F.ex
 exact .all (h kV doc pm an cdv ct)
theorem fun_mk {x qual : Str} {st : Stmt} {f : Addr} {oc : Value} {od an : Option Addr} {osl : Array (Option Value)} {kV doc pm cdv ct : Value} (l : K.lookup f = some ⟨oc, od, .func (PySem.W.fnOf x qual (defArgs st) (defBody st) (defScope st) .none kV doc pm an cdv ct), osl⟩)
 (c : PySem.W.codeIn K cdv qual = true) (k : PySem.W.keepIn K (.ref f) = true) : Fun K x qual st f (PySem.W.fnOf x qual (defArgs st) (defBody st) (defScope st) .none kV doc pm an cdv ct) := ⟨⟨oc, od, kV, doc, pm, an, cdv, ct, osl, rfl, l, c⟩, k⟩
end
theorem small1000 {n : Nat} (h : n ≤ 1000) : n < sizeLine := Nat.lt_of_le_of_lt h (by decide)
section
variable {X : Cx}
theorem pv (i : Nat) {x : Str} {pos : Pos} (hN : X.N[i]? = some x := by rfl) (hv : Vis X.env.scope x := by first | exact Or.inl rfl | exact Or.inr (Or.inl rfl) | exact Or.inr (Or.inr rfl)) (hd : (x == ("__debug__" : Str)) = false := by decide)
 (hcd : (x == ("__classdict__" : Str)) = false := by decide) : PE X (.Name x pos) (tVar i) := pe_var hN hv hd hcd
end
theorem iteF {A B : Prop} (h : B) : if false = true then A else B := by
 rw [if_neg Bool.false_ne_true]
 exact h
theorem iteT {A B : Prop} (h : A) : if true = true then A else B := by
 rw [if_pos rfl]
 exact h
theorem iteNS {c A B : Prop} [Decidable c] (hc : c) (h : B) : if (!decide c) = true then A else B := by
 rw [decide_eq_true hc]
 exact iteF h
def Same (H H' : Hp) : Prop := ∀ b o, H b = some o → H' b = some o
theorem Same.refl (H : Hp) : Same H H := fun _ _ h => h
theorem Same.trans {H H1 H2 : Hp} (a : Same H H1) (b : Same H1 H2) : Same H H2 := fun c o h => b c o (a c o h)
theorem Same.free {H H' : Hp} (e : Same H H') {l : Addr} (h : H' l = Option.none) : H l = Option.none := by
 cases q : H l with
 | none => rfl
 | some o =>
   rw [e l o q] at h
   cases h
theorem Same.seq {K : PySem.W.Frag} {H H' : Hp} {a : Addr} {xs : List V} (e : Same H H') (h : SqL K H a xs) : SqL K H' a xs := by
 rcases h with (h | ⟨o, h⟩) | h
 ·exact .inl (.inl (e _ _ h))
 ·exact .inl (.inr ⟨o, e _ _ h⟩)
 ·exact .inr h
end L2
namespace L2
open PySem PySem.W PySem.Spec PySem.Calls PyProof.Rows
section
variable {X : Cx} {e v1 v2 : Expr} {es rest : List Expr} {te : TE} {pos p2 : Pos}
theorem pe_ccall {CX : CXT} {k : Nat} {f C : Addr} {fd : FuncData} {ps : List Str} {sp : Sp} {E : XK} {c m : Str} {p apos : Pos} {t : TA} {pl : Sem Bool} (hg : Gl X c) (hm : X.mg c = some (.ref C))
 (hs : specialIn X.K (.ref C) "__getattribute__" = some (some (.builtin "type.__getattribute__"))) (hrd : readsIn X.K C (.type "type") = true) (hf : findCls X.K (.ref C) (.type "type") m = some (.val (.ref f)))
 (F : FnOk X.prog X.w X.K X.mg X.base CX k f fd ps sp) (hr : Room k X.A) (hk : PySem.W.keepIn X.K (.ref f) = true) (hb : Binds X.K fd ps []) (hx : Passes CX X E) (ha : PA X (e :: es) t)
 (hd : (c == ("__debug__" : Str)) = false := by decide) (hst : starEach (e :: es) X.env = (false, eval e X.env) :: starEach es X.env := by rfl) (hpl : (backTo pos (starEach es X.env)).any (·.1) = false := by rfl)
 (ht : eval (.Call (.Attribute (.Name c p) m apos) (e :: es) [] pos) X.env = (do
  let ov ← eval (.Name c p) X.env
  standAt apos.atName
  let (f, first) ← holding [ov] (getMethod ov m pl)
  callWith pos f first (backTo pos (starEach (e :: es) X.env)) (backToKw pos (keywordEach [] X.env))) := by rfl) :
 PE X (.Call (.Attribute (.Name c p) m apos) (e :: es) [] pos) (tCall sp [] E t) := by
 intro pins s σ H Q I h
 refine PySem.W.methodCall_KW (pl := pl) (ld_glob I hg hm ?_ hd) ht
 refine method_cls I.kIn hs (cls_value I.kIn hrd hf rfl ?_)
 have I1 := I.tok (s.toks + 1)
 refine PySem.W.callWith_K (first := []) (h₀ := X.base) I.ok.mod.kin hk (thn (ha pos pins _ σ H _ I1 h) fun us s2 ⟨vs, H2, I2, r, q2⟩ => ⟨I2.kIn, ?_⟩) hst hpl
 exact run_fn (us := us) (vs := vs) F hr hb .nil hx I2 r q2
def rIsC (K : PySem.W.Frag) : List V → Hp → VK → Prop := fun xs H Q => ∃ (x : V) (c : Addr) (t : Value) (b : Bool), xs = [x, .ref c] ∧ TyOf K H x t ∧ PySem.W.kitOne K t (.ref c) = some b ∧ Q (.bl b) H
theorem call_isC : CallR X (.builtin "isinstance") (rIsC X.K) := by
 intro pins s σ H xs us Q I r h
 obtain ⟨x, c, t, b, rfl, ty, e, q⟩ := h
 obtain ⟨u, w', rfl, r1, r2⟩ := vals2 r
 cases (show w' = Value.ref c from r2)
 exact isinst_ok I r1 ty e fun tk => ⟨.bl b, H, I.tok tk, rfl, q⟩
end
end L2
namespace S
open PySem PySem.Spec PyProof.Rows L2
def Sz (n : Nat) (x : Int) : Prop := x.natAbs < 2 ^ n
theorem Sz.mono {m n : Nat} {x : Int} (h : Sz m x) (l : m ≤ n) : Sz n x := Nat.lt_of_lt_of_le h (Nat.pow_le_pow_right (by decide) l)
theorem Sz.bits {n : Nat} {x : Int} (h : Sz n x) : Builtin.Int.intBits x ≤ n := intBits_le_iff.mpr h
theorem Sz.of {n : Nat} {x : Int} (h : Builtin.Int.intBits x ≤ n) : Sz n x := intBits_le_iff.mp h
theorem Sz.mulOk {m n : Nat} {x y : Int} (h : Sz m x) (g : Sz n y) (l : m + n ≤ 134217728) : IntMulOk x y := IntMulOk.of_le h.bits g.bits l
theorem Sz.mul {m n : Nat} {x y : Int} (h : Sz m x) (g : Sz n y) : Sz (m + n) (x * y) := Sz.of (intBits_mul_le h.bits g.bits)
theorem Sz.add {n : Nat} {x y : Int} (h : Sz n x) (g : Sz n y) : Sz (n + 1) (x + y) := Sz.of (Nat.le_trans (intBits_add_le h.bits g.bits) (by omega))
theorem Sz.sub {n : Nat} {x y : Int} (h : Sz n x) (g : Sz n y) : Sz (n + 1) (x - y) := Sz.of (Nat.le_trans (intBits_sub_le h.bits g.bits) (by omega))
theorem Sz.le {n : Nat} {x y : Int} (h : Sz n x) (l : y.natAbs ≤ x.natAbs) : Sz n y := Nat.lt_of_le_of_lt l h
theorem Sz.log {n : Nat} {x : Int} (h : Sz n x) (l : n ≤ 8999) : x.natAbs.log2 < 9000 := by
 by_cases h0 : x.natAbs = 0
 ·rw [h0]; decide +kernel
 ·have := (Nat.log2_lt h0).mpr (Sz.mono h l)
  omega
section
variable {X : Cx}
theorem op_mulB : OpR X (binaryOp .Mult) (rI IntMulOk fun i j => .int (i * j)) := opI fun _ _ _ _ _ _ _ hc q => mul_int q hc
def CDv (_ j : Int) : Prop := j ≠ 0 ∧ Sz 8999 j
theorem op_fdivB : OpR X (binaryOp .FloorDiv) (rI CDv fun i j => .int (i.fdiv j)) := opI fun i j _ _ _ _ _ hc q =>
 floordiv_int hc.1 q (.inl (PyProof.noPylong_of_log2 (hc.2.log (Nat.le_refl _))))
end
mutual
def Is (H : Hp) : PyData → V → Prop
 | .none, v => v = .non
 | .bool b, v => v = .bl b
 | .int i, v => v = .int i
 | .str x, v => v = .str x
 | .list xs, v => ∃ p vs, v = .ref p ∧ H p = some (.lst vs) ∧ IsAll H xs vs
 | .tuple xs, v => ∃ p vs, v = .ref p ∧ H p = some (.tup vs) ∧ IsAll H xs vs
 | .dict kvs, v => IsIn H kvs v
def IsAll (H : Hp) : List PyData → List V → Prop
 | [], vs => vs = []
 | x :: xs, vs => ∃ v r, vs = v :: r ∧ Is H x v ∧ IsAll H xs r
def IsIn (H : Hp) : List (PyData × PyData) → V → Prop
 | [(c, x)], v => ∃ (p C dx : Addr) (w : V), c = .int ((C : Nat) : Int) ∧ v = .ref p ∧ H p = some (.ins C dx [("form", w)]) ∧ Is H x w
 | _, _ => False
end
mutual
theorem Is.mono {H H' : Hp} (e : Same H H') : ∀ (d : PyData) (v : V), Is H d v → Is H' d v
 | .none, v, h => by simpa only [Is] using h
 | .bool b, v, h => by simpa only [Is] using h
 | .int i, v, h => by simpa only [Is] using h
 | .str x, v, h => by simpa only [Is] using h
 | .list xs, v, h => by
   rw [Is] at h ⊢
   obtain ⟨p, vs, e1, e2, e3⟩ := h
   exact ⟨p, vs, e1, e _ _ e2, IsAll.mono e xs vs e3⟩
 | .tuple xs, v, h => by
   rw [Is] at h ⊢
   obtain ⟨p, vs, e1, e2, e3⟩ := h
   exact ⟨p, vs, e1, e _ _ e2, IsAll.mono e xs vs e3⟩
 | .dict kvs, v, h => by
   rw [Is] at h ⊢
   exact IsIn.mono e kvs v h
theorem IsIn.mono {H H' : Hp} (e : Same H H') : ∀ (d : List (PyData × PyData)) (v : V), IsIn H d v → IsIn H' d v
 | [], v, h => by rw [IsIn] at h; exact h.elim; simp
 | [(c, x)], v, h => by
   rw [IsIn] at h ⊢
   obtain ⟨p, C, dx, w, e1, e2, e3, e4⟩ := h
   exact ⟨p, C, dx, w, e1, e2, e _ _ e3, Is.mono e x w e4⟩
 | _ :: _ :: _, v, h => by rw [IsIn] at h; exact h.elim; simp
theorem IsAll.mono {H H' : Hp} (e : Same H H') : ∀ (d : List PyData) (v : List V), IsAll H d v → IsAll H' d v
 | [], v, h => by rw [IsAll] at h ⊢; exact h
 | x :: xs, v, h => by
   rw [IsAll] at h ⊢
   obtain ⟨v, r, e1, e2, e3⟩ := h
   exact ⟨v, r, e1, Is.mono e x v e2, IsAll.mono e xs r e3⟩
end
theorem Same.new {H : Hp} {p : Addr} (h : H p = none) (o : HO) : Same H (upd H p o) := fun b u q => by rw [upd_ne (ne_of_none q h)]; exact q
section
variable {X : Cx} {pins : List (Addr × Obj)} {σ : L2.St} {H : Hp} {s : Shared}
mutual
theorem Is.reads (I : Inv X pins σ H s) : ∀ (d : PyData) (v : V) (u : Value), d.canLay0 = true → Is H d v → RelV v u → ∃ as, Reads s.heap u d as
 | .none, v, u, lay, h, r => by rw [Is] at h; subst h; cases (show u = Value.none from r); exact ⟨_, .none⟩
 | .bool b, v, u, lay, h, r => by rw [Is] at h; subst h; cases (show u = Value.bool b from r); exact ⟨_, .bool b⟩
 | .int i, v, u, lay, h, r => by rw [Is] at h; subst h; obtain ⟨t, rfl⟩ := (show ∃ t, u = Value.int i t from r); exact ⟨_, .int i t⟩
 | .str x, v, u, lay, h, r => by rw [Is] at h; subst h; obtain ⟨t, rfl⟩ := (show ∃ t, u = Value.str x t from r); exact ⟨_, .str x t⟩
 | .list xs, v, u, lay, h, r => by
   rw [Is] at h
   obtain ⟨p, vs, e1, e2, e3⟩ := h
   subst e1
   cases (show u = Value.ref p from r)
   obtain ⟨_, its, n, hv, hp⟩ := (show ObjOk X.prog X.w H s.heap p (.lst vs) from I.hok p _ e2)
   obtain ⟨as, q⟩ := IsAll.reads I xs vs its (by rw [PyData.canLay0] at lay; exact lay) e3 hv
   exact ⟨_, .list hp rfl rfl (by simpa using q)⟩
 | .tuple xs, v, u, lay, h, r => by
   rw [Is] at h
   obtain ⟨p, vs, e1, e2, e3⟩ := h
   subst e1
   cases (show u = Value.ref p from r)
   obtain ⟨_, its, hv, hp⟩ := (show ObjOk X.prog X.w H s.heap p (.tup vs) from I.hok p _ e2)
   obtain ⟨o, h1, h2, n, h3⟩ := hp
   obtain ⟨as, q⟩ := IsAll.reads I xs vs its (by rw [PyData.canLay0] at lay; exact lay) e3 hv
   exact ⟨_, .tuple h1 h2 h3 (by simpa using q)⟩
 | .dict _, v, u, lay, h, r => by rw [PyData.canLay0] at lay; cases lay
theorem IsAll.reads (I : Inv X pins σ H s) : ∀ (d : List PyData) (v : List V) (u : List Value), PyData.canLayAll0 d = true → IsAll H d v → Vals v u → ∃ as, ReadsAll s.heap u d as
 | [], v, u, lay, h, r => by rw [IsAll] at h; subst h; cases Vals.zero r; exact ⟨_, .nil⟩
 | x :: xs, v, u, lay, h, r => by
   rw [PyData.canLayAll0, Bool.and_eq_true] at lay
   rw [IsAll] at h
   obtain ⟨v, w, e1, e2, e3⟩ := h
   subst e1
   cases r with
   | cons r1 r2 =>
     obtain ⟨as, q⟩ := Is.reads I x v _ lay.1 e2 r1
     obtain ⟨bs, q2⟩ := IsAll.reads I xs w _ lay.2 e3 r2
     exact ⟨_, .cons q q2⟩
end
end
def rEqD : R2 := fun x y H Q => ∃ d e, Is H d x ∧ Is H e y ∧ SeqAt.shaped d = true ∧ SeqAt.shaped e = true ∧ Q (.bl (PyData.eqv d e)) H
def rNeD : R2 := fun x y H Q => ∃ d e, Is H d x ∧ Is H e y ∧ SeqAt.shaped d = true ∧ SeqAt.shaped e = true ∧ Q (.bl (!PyData.eqv d e)) H
section
variable {X : Cx}
theorem op_eqD (hu : X.A.units + 64 < cLine) : OpR X (compareOp .Eq) rEqD := by
 intro pins s σ H x y v u Q I rx ry h
 obtain ⟨d, e, h1, h2, h3, h4, q⟩ := h
 obtain ⟨as, r1⟩ := Is.reads I d x v (SeqAt.canLay_of_shaped h3) h1 rx
 obtain ⟨bs, r2⟩ := Is.reads I e y u (SeqAt.canLay_of_shaped h4) h2 ry
 exact eq_dataH r1 r2 h3 h4 hu ⟨.bl _, H, I, rfl, q⟩
theorem op_neD (hu : X.A.units + 64 < cLine) : OpR X (compareOp .NotEq) rNeD := by
 intro pins s σ H x y v u Q I rx ry h
 obtain ⟨d, e, h1, h2, h3, h4, q⟩ := h
 obtain ⟨as, r1⟩ := Is.reads I d x v (SeqAt.canLay_of_shaped h3) h1 rx
 obtain ⟨bs, r2⟩ := Is.reads I e y u (SeqAt.canLay_of_shaped h4) h2 ry
 exact ne_dataH r1 r2 h3 h4 hu ⟨.bl _, H, I, rfl, q⟩
end
def rIsi (K : PySem.W.Frag) : List V → Hp → VK → Prop := fun xs H Q => ∃ (x : V) (T : String) (t : Value) (b : Bool), xs = [x, .ty T] ∧ TyOf K H x t ∧ PySem.W.kitOne K t (.type T) = some b ∧ Q (.bl b) H
section
variable {X : Cx}
theorem call_isi : CallR X (.builtin "isinstance") (rIsi X.K) := by
 intro pins s σ H xs us Q I r h
 obtain ⟨x, T, t, b, rfl, ty, e, q⟩ := h
 obtain ⟨u, w', rfl, r1, r2⟩ := vals2 r
 cases (show w' = Value.type T from r2)
 exact isinst_ok I r1 ty e fun tk => ⟨.bl b, H, I.tok tk, rfl, q⟩
end
structure Cal (P : Program) (w : World) (K : PySem.W.Frag) (mg : Str → Option Value) (base : Heap) (CX : CXT) (k : Nat) (x : Str) (ps : List Str) (sp : Sp) : Prop where
 ex : ∃ (f : Addr) (fd : FuncData), FnOk P w K mg base CX k f fd ps sp ∧ mg x = some (.ref f) ∧ PySem.W.keepIn K (.ref f) = true ∧ Binds K fd ps []
section
variable {X : Cx} {CX : CXT} {k j : Nat} {ps : List Str} {sp : Sp} {E : XK} {x : Str} {p pos : Pos} {e : Expr} {es : List Expr} {t : TA}
theorem pe_cal (C : Cal X.prog X.w X.K X.mg X.base CX k x ps sp) (hr : Room j X.A) (hk : k ≤ j) (hx : Passes CX X E) (hg : Gl X x)
 (ha : PA X (e :: es) t) (hdb : (x == ("__debug__" : Str)) = false := by decide) (he : starEach (e :: es) X.env = (false, eval e X.env) :: starEach es X.env := by rfl) (hpl : (backTo pos (starEach es X.env)).any (·.1) = false := by rfl) :
 PE X (.Call (.Name x p) (e :: es) [] pos) (tCall sp [] E t) := by
 obtain ⟨f, fd, F, hm, hk2, hb⟩ := C.ex
 exact pe_call F (hr.mono hk) hg hm hk2 hb .nil hx ha hdb he hpl
end
theorem units_of {A : Around} {k : Nat} (hr : Room k A) : A.units + 64 < cLine := hr.units
def frD (q : Rat) : PyData := .tuple [.int q.num, .int (q.den : Int)]
def SzQ (n : Nat) (q : Rat) : Prop := Sz n q.num ∧ Sz n (q.den : Int)
theorem SzQ.mono {m n : Nat} {q : Rat} (h : SzQ m q) (l : m ≤ n) : SzQ n q := ⟨h.1.mono l, h.2.mono l⟩
theorem den_pos (q : Rat) : (0 : Int) < (q.den : Int) := Int.natCast_pos.mpr q.den_pos
theorem SzQ.divInt {n : Nat} {a b : Int} (ha : Sz n a) (hb : Sz n b) (h0 : b ≠ 0) : SzQ n (Rat.divInt a b) := by
 constructor
 ·refine ha.le ?_
  rw [Rat.num_divInt, Int.natAbs_ediv_of_dvd ?_]
  ·rw [Int.natAbs_mul]
   have e : b.sign.natAbs = 1 := Int.natAbs_sign_of_ne_zero h0
   rw [e, Nat.one_mul]
   exact Nat.div_le_self _ _
  ·exact Int.dvd_trans (Int.gcd_dvd_right b a) (Int.dvd_mul_left _ _)
 ·refine hb.le ?_
  rw [Rat.den_divInt, if_neg h0]
  show b.natAbs / b.gcd a ≤ b.natAbs
  exact Nat.div_le_self _ _
theorem bt_len : bootBuiltins "len" = some (.builtin "len") := by decide +kernel
theorem bt_abs : bootBuiltins "abs" = some (.builtin "abs") := by decide +kernel
theorem bt_min : bootBuiltins "min" = some (.builtin "min") := by decide +kernel
theorem bt_max : bootBuiltins "max" = some (.builtin "max") := by decide +kernel
theorem bt_isinstance : bootBuiltins "isinstance" = some (.builtin "isinstance") := by decide +kernel
theorem bt_int : bootBuiltins "int" = some (.type "int") := by decide +kernel
theorem bt_bool : bootBuiltins "bool" = some (.type "bool") := by decide +kernel
theorem bt_tuple : bootBuiltins "tuple" = some (.type "tuple") := by decide +kernel
theorem bt_list : bootBuiltins "list" = some (.type "list") := by decide +kernel
theorem bt_enumerate : bootBuiltins "enumerate" = some (.type "enumerate") := by decide +kernel
theorem bt_zip : bootBuiltins "zip" = some (.type "zip") := by decide +kernel
theorem bt_reversed : bootBuiltins "reversed" = some (.type "reversed") := by decide +kernel
theorem bt_sum : bootBuiltins "sum" = some (.builtin "sum") := by decide +kernel
structure Bl (mg : Str → Option Value) : Prop where
 len : mg "len" = none
 abs : mg "abs" = none
 min : mg "min" = none
 max : mg "max" = none
 isinstance : mg "isinstance" = none
 range : mg "range" = none
 int : mg "int" = none
 bool : mg "bool" = none
 tuple : mg "tuple" = none
 list : mg "list" = none
 enumerate : mg "enumerate" = none
 zip : mg "zip" = none
 reversed : mg "reversed" = none
 ValueError : mg "ValueError" = none
 sum : mg "sum" = none
 str : mg "str" = none
theorem iteNot {c A B : Prop} [Decidable c] (h1 : ¬ c → A) (h2 : c → B) : if (!decide c) = true then A else B := by
 by_cases hc : c
 ·rw [decide_eq_true hc]; exact h2 hc
 ·rw [decide_eq_false hc]; exact h1 hc
theorem iteD {c A B : Prop} [Decidable c] (h1 : c → A) (h2 : ¬ c → B) : if decide c = true then A else B := by
 by_cases hc : c
 ·rw [decide_eq_true hc]; exact h1 hc
 ·rw [decide_eq_false hc]; exact h2 hc
theorem atI_ints {ms : List Int} {k : Int} (h0 : 0 ≤ k) (h : k < (ms.length : Int)) : atI (ms.map V.int) k = some (.int (ms.getD k.toNat 0)) := by
 have hk : k.toNat < ms.length := by omega
 have ek : k = ((k.toNat : Nat) : Int) := by omega
 have q : atI (ms.map V.int) ((k.toNat : Nat) : Int) = some (.int (ms.getD k.toNat 0)) := atI_nat (by rw [List.getElem?_map, List.getElem?_eq_getElem hk, List.getD_eq_getElem?_getD, List.getElem?_eq_getElem hk]; rfl)
 rwa [← ek] at q
theorem low_pos {a b : Int} (hb : 0 < b) : (a.fdiv (Int.gcd a b : Nat) = (Rat.divInt a b).num) ∧ b.fdiv (Int.gcd a b : Nat) = ((Rat.divInt a b).den : Int) := by
 have g0 : (0 : Int) ≤ ((Int.gcd a b : Nat) : Int) := Int.natCast_nonneg _
 rw [Int.fdiv_eq_ediv_of_nonneg _ g0, Int.fdiv_eq_ediv_of_nonneg _ g0, Rat.num_divInt, Rat.den_divInt, if_neg (by omega), Int.gcd_comm b a, Int.sign_eq_one_of_pos hb, Int.one_mul]
 refine ⟨rfl, ?_⟩
 have e : b = (b.natAbs : Int) := by omega
 rw [Int.natCast_ediv, ← e]
theorem low_neg {a b : Int} (hb : b < 0) : (a.fdiv (-((Int.gcd a b : Nat) : Int)) = (Rat.divInt a b).num) ∧ b.fdiv (-((Int.gcd a b : Nat) : Int)) = ((Rat.divInt a b).den : Int) := by
 have h := low_pos (a := -a) (b := -b) (by omega)
 rw [Rat.neg_divInt_neg, Int.neg_gcd, Int.gcd_neg] at h
 rw [← h.1, ← h.2]
 constructor
 ·rw [← Int.neg_fdiv_neg, Int.neg_neg]
 ·rw [← Int.neg_fdiv_neg, Int.neg_neg]
theorem sz_small {n : Nat} (h : 1 ≤ n) {x : Int} (h1 : -2 < x) (h2 : x < 2) : Sz n x := Sz.mono (show Sz 1 x by unfold Sz; omega) h
theorem gcd_step (a b : Int) : Int.gcd b (a % b) = Int.gcd a b := by
 have e : a % b = a - b * (a / b) := by have := Int.mul_ediv_add_emod a b; omega
 rw [e, Int.gcd_sub_mul_left_right, Int.gcd_comm]
end S
namespace S
open PySem PySem.Spec PyProof.Rows L2
def closOf (cells : List (Str × Addr)) : List (Str × NameKind) → List (Str × Addr) → List (Str × Addr)
 | [], acc => acc
 | (n, k) :: r, acc => closOf cells r (if k == .free then (n, (cells.lookup n).getD 0) :: acc else acc)
theorem closureFor_eq {scope : Scope} {env : Env} (h : ∀ y ∈ scope.names, y.2 = .free → ∃ c, env.cells.lookup y.1 = some c) : closureFor scope env = pure (closOf env.cells scope.names []) := by
 have key : ∀ (names : List (Str × NameKind)) (acc : List (Str × Addr)), (∀ y ∈ names, y.2 = .free → ∃ c, env.cells.lookup y.1 = some c) →
  (forIn names acc fun x r => match x with
   | (name, kind) => if (kind == NameKind.free) = true then do
    let a ← cellOf env name
    pure (ForInStep.yield ((name, a) :: r))
    else pure (ForInStep.yield r) : Sem (List (Str × Addr))) = pure (closOf env.cells names acc) := by
  intro names
  induction names with
  | nil => intro acc _; rfl
  | cons y r ih =>
    intro acc hy
    obtain ⟨n, k⟩ := y
    rw [List.forIn_cons, closOf]
    have hr := fun z hz => hy z (List.mem_cons_of_mem _ hz)
    cases hk : k == NameKind.free with
    | false =>
      simp only [hk, Bool.false_eq_true, if_false, pure_bind]
      exact ih acc hr
    | true =>
      obtain ⟨c, hc⟩ := hy (n, k) (List.mem_cons_self ..) (by simpa using hk)
      have hc' : cellOf env n = pure c := by unfold cellOf; rw [hc]
      simp only [hk, if_true, hc', pure_bind, hc, Option.getD_some]
      exact ih _ hr
 simp only [closureFor]
 rw [key _ _ h]
 rfl
theorem closOf_lookup {cells : List (Str × Addr)} {x : Str} {c : Addr} : ∀ {names : List (Str × NameKind)} {acc : List (Str × Addr)}, (∀ y ∈ names, y.2 = .free → ∃ c, cells.lookup y.1 = some c) → (∀ c, acc.lookup x = some c → cells.lookup x = some c) →
 (closOf cells names acc).lookup x = some c → cells.lookup x = some c
 | [], acc, _, ha, h => ha c h
 | (n, k) :: r, acc, hn, ha, h => by
   rw [closOf] at h
   refine closOf_lookup (fun z hz => hn z (List.mem_cons_of_mem _ hz)) (fun c' hc' => ?_) h
   cases hk : k == NameKind.free with
   | false => rw [hk] at hc'; simp only [Bool.false_eq_true, if_false] at hc'; exact ha c' hc'
   | true =>
     rw [hk] at hc'
     simp only [if_true] at hc'
     obtain ⟨d, hd⟩ := hn (n, k) (List.mem_cons_self ..) (by simpa using hk)
     rw [List.lookup_cons] at hc'
     cases hx : x == n with
     | true =>
       rw [hx] at hc'
       have e : x = n := by simpa using hx
       subst e
       have hd' : cells.lookup x = some d := hd
       rw [hd'] at hc' ⊢
       exact hc'
     | false => rw [hx] at hc'; exact ha c' hc'
theorem closOf_has {cells : List (Str × Addr)} {x : Str} : ∀ {names : List (Str × NameKind)} {acc : List (Str × Addr)}, ((x, NameKind.free) ∈ names ∨ (acc.lookup x).isSome = true) → ((closOf cells names acc).lookup x).isSome = true
 | [], acc, h => by
   rcases h with h | h
   ·exact absurd h (List.not_mem_nil)
   ·exact h
 | (n, k) :: r, acc, h => by
   rw [closOf]
   refine closOf_has ?_
   have keep : (acc.lookup x).isSome = true → ((if (k == NameKind.free) = true then (n, (cells.lookup n).getD 0) :: acc else acc).lookup x).isSome = true := fun z => by
    split
    ·rw [List.lookup_cons]; split <;> simp [z]
    ·exact z
   rcases h with h | h
   ·rcases List.mem_cons.mp h with e | e
    ·cases e
     refine .inr ?_
     simp
    ·exact .inl e
   ·exact .inr (keep h)
def cxComp (X : Cx) (N : List Str) (scope : Scope) (C : Addr) (ex : List Addr) (s : Shared) (H : Hp) : Cx where
 prog := X.prog
 w := X.w
 K := X.K
 mg := X.mg
 base := X.base
 A := X.A
 N := N
 s₀ := s
 H₀ := H
 env := compEnvC scope (closOf X.env.cells scope.names []) C X.env
 outer := X.stack
 stack := X.stack
 ex := ex
 fn := fun _ => false
 calm := X.calm
 pn := []
 xe := fun _ _ => False
def frσ (σ : L2.St) (fr : List Nat) : L2.St := fr.map fun j => (σ[j]?).getD none
structure CompOk (X : Cx) (N : List Str) (n : Nat) (fr : List Nat) (scope : Scope) : Prop where
 kind : scope.kind = .function
 nd : N.Nodup
 names : (N.drop n) = fr.map (fun j => (X.N[j]?).getD ("" : Str))
 own : n ≤ N.length
 inx : (fr.all fun j => decide (j < X.N.length)) = true
 free : ((N.drop n).all fun x => decide (scope.names.lookup x = some .free)) = true
 nocell : (scope.names.all fun y => decide (y.2 ≠ .cell)) = true
 loc : (scope.names.all fun y => decide (y.2 = .local → scope.names.lookup y.1 = some .local)) = true
 seen : (scope.names.all fun y => decide (y.2 = .free → (X.env.kindOf y.1 = some .cell ∨ X.env.kindOf y.1 = some .free))) = true
theorem relabel_kinds {scope : Scope} {env : Env} {x : Str} {k : NameKind} (h : (relabel scope env).names.lookup x = some k) (hk : k = .cell ∨ k = .free) (hc : (scope.names.all fun y => decide (y.2 ≠ .cell)) = true) : (x, NameKind.free) ∈ scope.names := by
 unfold relabel at h
 dsimp only at h
 have key : ∀ names : List (Str × NameKind), (names.all fun y => decide (y.2 ≠ .cell)) = true →
  (names.map fun (n, k) => if (k == NameKind.free && env.scope.kind == .function && env.kindOf n == some .cell) = true then (n, NameKind.cell) else (n, k)).lookup x = some k → (x, NameKind.free) ∈ names := by
  intro names
  induction names with
  | nil => intro _ h; simp at h
  | cons y r ih =>
    intro ha h
    obtain ⟨n, j⟩ := y
    rw [List.all_cons, Bool.and_eq_true] at ha
    rw [List.map_cons] at h
    have e1 : ∀ (b : Bool) (k1 : NameKind), ((if b = true then (n, NameKind.cell) else (n, k1)) : Str × NameKind) = (n, if b = true then NameKind.cell else k1) := by intro b k1; cases b <;> rfl
    dsimp only at h
    rw [e1, List.lookup_cons] at h
    cases hx : x == n with
    | false => rw [hx] at h; exact List.mem_cons_of_mem _ (ih ha.2 h)
    | true =>
      rw [hx] at h
      have e : x = n := by simpa using hx
      subst e
      have h' := Option.some.inj h
      have hj : j ≠ .cell := by simpa using ha.1
      have : j = .free := by
       cases hb : (j == NameKind.free && env.scope.kind == .function && env.kindOf x == some .cell) with
       | true =>
         rw [Bool.and_eq_true, Bool.and_eq_true] at hb
         simpa using hb.1.1
       | false =>
         rw [hb] at h'
         simp only [Bool.false_eq_true, if_false] at h'
         subst h'
         rcases hk with z | z
         ·exact absurd z hj
         ·exact z
      subst this
      exact List.mem_cons_self ..
 exact key _ hc h
theorem relabel_free {scope : Scope} {env : Env} {x : Str} (h : scope.names.lookup x = some .free) : (relabel scope env).names.lookup x = some .cell ∨ (relabel scope env).names.lookup x = some .free := by
 unfold relabel
 dsimp only
 have key : ∀ names : List (Str × NameKind), names.lookup x = some .free →
  (names.map fun (n, k) => if (k == NameKind.free && env.scope.kind == .function && env.kindOf n == some .cell) = true then (n, NameKind.cell) else (n, k)).lookup x = some .cell ∨ (names.map fun (n, k) => if (k == NameKind.free && env.scope.kind == .function && env.kindOf n == some .cell) = true then (n, NameKind.cell) else (n, k)).lookup x = some .free := by
  intro names
  induction names with
  | nil => intro h; simp at h
  | cons y r ih =>
    intro h
    obtain ⟨n, j⟩ := y
    have e1 : ∀ (b : Bool) (k1 : NameKind), ((if b = true then (n, NameKind.cell) else (n, k1)) : Str × NameKind) = (n, if b = true then NameKind.cell else k1) := by intro b k1; cases b <;> rfl
    rw [List.map_cons]
    dsimp only
    rw [e1, List.lookup_cons]
    rw [List.lookup_cons] at h
    cases hx : x == n with
    | false => rw [hx] at h; exact ih h
    | true =>
      rw [hx] at h
      cases Option.some.inj h
      dsimp only
      split
      ·exact .inl rfl
      ·exact .inr rfl
 exact key _ h
section
variable {X : Cx} {N : List Str} {n : Nat} {fr : List Nat} {scope : Scope} {pins : List (Addr × Obj)} {σ : L2.St} {H : Hp} {s : Shared}
theorem CompOk.cells (O : CompOk X N n fr scope) (I : Inv X pins σ H s) : ∀ y ∈ scope.names, y.2 = .free → ∃ c, X.env.cells.lookup y.1 = some c := fun y hy hf => I.ok.has y.1 (of_decide_eq_true (List.all_eq_true.mp O.seen y hy) hf)
theorem comp_start {fp : List Addr} {h' : Heap} {tk : Nat} {m : Str → Option Value} (O : CompOk X N n fr scope) (I : Inv X pins σ H s) (hf : ∀ b ∈ fp, FpOk X pins H b) (hfl : ∀ b ∈ fp, b < s.heap.objs.size)
 (hns : h'.Ns s.heap.objs.size m) (keep : ∀ b o, s.heap.get? b = some o → h'.get? b = some o) :
 Inv (cxComp X N scope s.heap.objs.size fp s H) [] (List.replicate n none ++ frσ σ fr) H { s with heap := h', toks := tk } := by
 have hcl := O.cells I
 have lk : ∀ x c, (closOf X.env.cells scope.names []).lookup x = some c → X.env.cells.lookup x = some c := fun x c h => closOf_lookup hcl (fun c h => by simp at h) h
 have cne : ∀ x c, (closOf X.env.cells scope.names []).lookup x = some c → ∃ v, s.heap.IsCell c v := fun x c h => I.cell x c (lk x c h)
 have clt : ∀ x c, (closOf X.env.cells scope.names []).lookup x = some c → c < s.heap.objs.size := fun x c h => by
  obtain ⟨v, o, ho, _⟩ := cne x c h
  exact Heap.lt_size ho
 refine ⟨⟨I.mod, O.kind, I.ok.glob, I.ok.blt, Nat.le_refl _, fun x y c h1 h2 => I.ok.inj x y c (lk x c h1) (lk y c h2), fun x hx => ?_, fun x c h => (by cases h), I.ok.hd, I.ok.frames, .inl rfl, fun b hb => ⟨Nat.ne_of_lt (hfl b hb), fun x c h => (hf b hb).2.2.2.2.1 x c (lk x c h)⟩, I.bs, Nat.le_trans I.ok.bsz I.sz, fun b o e hb => ?_, fun b hb z => ?_, I.stack, I.stkFree⟩,
  rfl, I.bare, Un.kept keep, ⟨m, hns, fun i x v h1 h2 h3 => ?_⟩, fun x c h => ?_, I.hok.fresh (Nat.le_refl _), fun x c h => I.freeC x c (lk x c h), fun p hp => absurd hp (by simp [cxComp]), I.hok.kept keep, ?_⟩
 ·have hx' : (x, NameKind.free) ∈ scope.names := by
   rcases hx with hx | hx
   ·exact relabel_kinds hx (.inl rfl) O.nocell
   ·exact relabel_kinds hx (.inr rfl) O.nocell
  exact Option.isSome_iff_exists.mp (closOf_has (.inl hx'))
 ·rcases (hf b hb).2.2.2.1 with z | z
  ·exact I.ok.noex b o e z
  ·exact absurd (Nat.lt_of_lt_of_le (Heap.lt_size (I.ok.bs b o e).1) z) (Nat.lt_irrefl _)
 ·rcases List.mem_cons.mp (I.stkSub b z) with q | q
  ·exact (hf b hb).2.1 q
  ·exact (hf b hb).2.2.1 q
 ·by_cases hi : i < n
  ·rw [List.getElem?_append_left (by simpa using hi), List.getElem?_replicate, if_pos hi] at h2
   cases h2
  ·have h1' : (N.drop n)[i - n]? = some x := by rw [List.getElem?_drop, show n + (i - n) = i by omega]; exact h1
   rw [List.getElem?_append_right (by simpa using hi), List.length_replicate] at h2
   unfold frσ at h2
   rw [List.getElem?_map] at h2
   rw [O.names, List.getElem?_map] at h1'
   cases ej : fr[i - n]? with
   | none => rw [ej] at h2; cases h2
   | some j =>
     rw [ej] at h2 h1'
     have hjl : j < X.N.length := of_decide_eq_true (List.all_eq_true.mp O.inx j (List.mem_of_getElem? ej))
     have hx : X.N[j]? = some x := by
      have e := Option.some.inj h1'
      dsimp only at e
      rw [List.getElem?_eq_getElem hjl] at e ⊢
      exact congrArg some e
     have hv : σ[j]? = some (some v) := by
      have e := Option.some.inj h2
      dsimp only at e
      cases es : σ[j]? with
      | none => rw [es] at e; cases e
      | some o => rw [es] at e; rw [show o = some v from e]
     have hfl' : scope.names.lookup x = some .free := by
      refine of_decide_eq_true (List.all_eq_true.mp O.free x ?_)
      exact List.mem_of_getElem? (i := i - n) (by rw [List.getElem?_drop, show n + (i - n) = i by omega]; exact h1)
     have hfx : (x, NameKind.free) ∈ scope.names := PySem.mem_of_lookup hfl'
     have hkX := of_decide_eq_true (List.all_eq_true.mp O.seen _ hfx) rfl
     obtain ⟨mX, hnX, hlX⟩ := I.loc
     obtain ⟨u, ru, lu⟩ := hlX j x v hx hv (hkX.elim (fun z => .inr (.inl z)) fun z => .inr (.inr z))
     refine ⟨u, ru, .inr ⟨?_, ?_⟩⟩
     ·exact relabel_free hfl'
     ·obtain ⟨c, hc⟩ := Option.isSome_iff_exists.mp (closOf_has (cells := X.env.cells) (acc := []) (.inl hfx))
      refine ⟨c, hc, ?_⟩
      rcases lu with ⟨k, _⟩ | ⟨_, c', hc', z⟩
      ·rcases hkX with q | q
       ·rw [show X.env.kindOf x = _ from k] at q; cases q
       ·rw [show X.env.kindOf x = _ from k] at q; cases q
      ·have := lk x c hc
       rw [hc'] at this
       cases this
       obtain ⟨o, ho, hd⟩ := z
       exact ⟨o, keep _ _ ho, hd⟩
 ·obtain ⟨v, o, ho, hd⟩ := cne x c h
  exact ⟨v, o, keep _ _ ho, hd⟩
 ·rw [List.length_append, List.length_replicate]
  unfold frσ
  have e := congrArg List.length O.names
  rw [List.length_drop, List.length_map] at e
  have := O.own
  show _ = N.length
  rw [List.length_map]
  omega
end
def PIf (Y : Cx) (ifs : List Expr) (tt : TT) : Prop :=
 ∀ (pins : List (Addr × Obj)) (s : Shared) (σ : L2.St) (H : Hp) (Q : Bool → Hp → Prop), Inv Y pins σ H s → tt σ H Q →
   wpAny (model Y.prog Y.w) Y.A (forIn ifs true fun c r => if r = true then do let ok ← isTrue c Y.env (eval c Y.env); pure (ForInStep.yield ok) else pure (ForInStep.yield r)) (TP Y pins σ Q) Y.xe s
def tTrue : TT := fun _ H Q => Q true H
theorem pif_nil {Y : Cx} : PIf Y [] tTrue := fun pins s σ H Q I h => wpAny_tests_nil ⟨H, I, h⟩
theorem pif_one {Y : Cx} {c : Expr} {tt : TT} (h : PT Y c tt) : PIf Y [c] tt := fun pins s σ H Q I q => wpAny_tests_one (h pins s σ H Q I q)
abbrev Blk (α : Type) := Addr → List Addr → Shared → Hp → α
def tComp (n : Nat) (fr : List Nat) (wi : TI) (g : Blk TG) (tt : Blk TT) (te : Blk TE) : TE := fun σ H Q => wi σ H fun J H1 => ∀ D, H1 D = none → ∀ C ex s0 H0,
 ∃ W : Nat → Nat → List V → Hp → Prop, (∃ m, W 0 m [] (upd H1 D (.lst []))) ∧ ∀ i m ys H2, W i m ys H2 → H2 D = some (.lst ys) ∧
   ((J.stop i H2 ∧ Q (.ref D) H2) ∨ (J.go i H2 ∧ ∀ x H3, J.yld i H2 x H3 → g C ex s0 H0 x (List.replicate n none ++ frσ σ fr) H3 fun σ4 H4 => σ4.drop n = frσ σ fr ∧ tt C ex s0 H0 σ4 H4 fun b H5 =>
     if b = true then te C ex s0 H0 σ4 H5 fun y H6 => H6 D = some (.lst ys) ∧ ys.length < sizeLine ∧ ∃ m', m' < m ∧ W (i + 1) m' (ys ++ [y]) (upd H6 D (.lst (ys ++ [y])))
     else ∃ m', m' < m ∧ W (i + 1) m' ys H5))
structure Side (X : Cx) (pins : List (Addr × Obj)) (H : Hp) (C : Addr) : Prop where
 nt : H C = none
 nl : C ≠ X.env.locals
 ab : X.s₀.heap.objs.size ≤ C
 nc : ∀ x c, X.env.cells.lookup x = some c → c ≠ C
 np : ∀ p ∈ X.pn ++ pins, p.1 ≠ C
section
variable {X : Cx} {N : List Str} {n : Nat} {fr : List Nat} {scope : Scope}
theorem wpAny_noE {α : Type} {M : Model} {A : Around} {m : Sem α} {Q : α → Shared → Prop} {E : Value → Shared → Prop} {s : Shared} (h : wpAny M A m Q (fun _ _ => False) s) : wpAny M A m Q E s := wpAny_mono h (fun _ _ q => q) fun _ _ z => z.elim
theorem comp_run {tg iter elt : Expr} {ifs : List Expr} {pos : Pos} {g : Blk TG} {tt : Blk TT} {te : Blk TE} {pins : List (Addr × Obj)} {σ : L2.St} {H2 : Hp} {s2 : Shared} {it : Addr} {fp : List Addr} {tn : Nat → Heap → Prop} {J : It} {Q : VK}
 {RR : Value → Addr → Result → Shared → Prop} {E : Value → Shared → Prop}
 (hc : X.calm = true) (O : CompOk X N n fr scope)
 (hg : ∀ C ex s H, PG (cxComp X N scope C ex s H) tg (g C ex s H)) (ht : ∀ C ex s H, PIf (cxComp X N scope C ex s H) ifs (tt C ex s H)) (he : ∀ C ex s H, PE (cxComp X N scope C ex s H) elt (te C ex s H))
 (I2 : Inv X pins σ H2 s2) (T : Turn X.prog X.w X.K tg J fp it tn) (st2 : tn 0 s2.heap) (f2 : ∀ b ∈ fp, FpOk X pins H2 b)
 (hW : ∀ D, H2 D = none → ∀ C ex s0 H0, ∃ W : Nat → Nat → List V → Hp → Prop, (∃ m, W 0 m [] (upd H2 D (.lst []))) ∧ ∀ i m ys H2, W i m ys H2 → H2 D = some (.lst ys) ∧
  ((J.stop i H2 ∧ Q (.ref D) H2) ∨ (J.go i H2 ∧ ∀ x H3, J.yld i H2 x H3 → g C ex s0 H0 x (List.replicate n none ++ frσ σ fr) H3 fun σ4 H4 => σ4.drop n = frσ σ fr ∧ tt C ex s0 H0 σ4 H4 fun b H5 =>
    if b = true then te C ex s0 H0 σ4 H5 fun y H6 => H6 D = some (.lst ys) ∧ ys.length < sizeLine ∧ ∃ m', m' < m ∧ W (i + 1) m' (ys ++ [y]) (upd H6 D (.lst (ys ++ [y])))
    else ∃ m', m' < m ∧ W (i + 1) m' ys H5)))
 (hR : ∀ (D C : Addr) (H' : Hp) (s' : Shared), Q (.ref D) H' → (∃ m, s'.heap.Ns C m) → Side X pins H' C → Inv X pins σ H' s' → RR (.ref D) C (.ok .next) s') :
 wpAny (model X.prog X.w) X.A (newList []) (fun acc s₃ => wpAny (model X.prog X.w) X.A (newFunctionEnv scope X.env.globals (closOf X.env.cells scope.names []) [] X.env.qual none .none (some X.env)) (fun cenv s₄ =>
  codeAny (model X.prog X.w) X.A (.compStart (.ListComp elt [⟨tg, iter, ifs, 0⟩] scope pos) 0 (.ref it) acc { cenv with scope := relabel scope X.env }) (RR acc cenv.locals) s₄) E s₃) E s2 := by
 have nocell : ∀ y ∈ scope.names, y.2 ≠ .cell := fun y hy => of_decide_eq_true (List.all_eq_true.mp O.nocell y hy)
 refine wpAny_newObj_type (wpAny_newFunctionEnv nocell (by intro y hy; simp at hy) (fun h₁ hns₁ hsb₁ => ?_) O.kind)
 have hDn : H2 s2.heap.objs.size = none := I2.fresh
 have I3 : Inv X pins σ (upd H2 s2.heap.objs.size (.lst [])) { s2 with heap := s2.heap.push { cls := .type "list", data := .seq ([] : List Value).toArray }, toks := s2.toks } := I2.lnew (its := []) .nil (Nat.zero_le _)
 generalize hD : s2.heap.objs.size = D at *
 dsimp only at hns₁ hsb₁ ⊢
 generalize hs3 : s2.heap.push { cls := .type "list", dict := none, data := .seq ([] : List Value).toArray } = hp3 at *
 have k23 : ∀ b o, s2.heap.get? b = some o → hp3.get? b = some o := fun b o e => by rw [← hs3]; exact Heap.get?_push_of_some _ e
 have sz3 : hp3.objs.size = D + 1 := by rw [← hs3, Heap.size_push, hD]
 have keep : ∀ b o, hp3.get? b = some o → h₁.get? b = some o := fun b o e => hsb₁.extBut b o (Nat.ne_of_lt (Heap.lt_size e)) (Heap.get?_push_of_some _ e)
 have flt : ∀ b ∈ fp, b < D := fun b hb => by
  obtain ⟨o, ho, _⟩ := T.obj _ _ st2 b hb
  rw [← hD]
  exact Heap.lt_size ho
 have f3 : ∀ b ∈ fp, FpOk X pins (upd H2 D (.lst [])) b := fun b hb => ⟨by rw [upd_ne (Nat.ne_of_lt (flt b hb))]; exact (f2 b hb).1, (f2 b hb).2⟩
 have IY := comp_start (tk := s2.toks + ([] : List (Str × Value)).length) O I3 f3 (fun b hb => by show b < hp3.objs.size; rw [sz3]; exact Nat.lt_succ_of_lt (flt b hb)) hns₁ keep
 obtain ⟨W, ⟨m0, w0⟩, turn⟩ := hW _ hDn hp3.objs.size fp { s2 with heap := hp3, toks := s2.toks } (upd H2 D (.lst []))
 have st4 : tn 0 h₁ := T.keep _ _ _ st2 fun b hb o e => keep b o (k23 b o e)
 generalize hY : cxComp X N scope hp3.objs.size fp { s2 with heap := hp3, toks := s2.toks } (upd H2 D (.lst [])) = Y at *
 have eEnv : Y.env = compEnvC scope (closOf X.env.cells scope.names []) hp3.objs.size X.env := by rw [← hY]; rfl
 have hgY := hg hp3.objs.size fp { s2 with heap := hp3, toks := s2.toks } (upd H2 D (.lst []))
 have htY := ht hp3.objs.size fp { s2 with heap := hp3, toks := s2.toks } (upd H2 D (.lst []))
 have heY := he hp3.objs.size fp { s2 with heap := hp3, toks := s2.toks } (upd H2 D (.lst []))
 rw [hY] at hgY htY heY
 have eP : Y.prog = X.prog := by rw [← hY]; rfl
 have eW : Y.w = X.w := by rw [← hY]; rfl
 have eK : Y.K = X.K := by rw [← hY]; rfl
 have eA : Y.A = X.A := by rw [← hY]; rfl
 have eC : Y.calm = true := by rw [← hY]; exact hc
 have eX : Y.xe = fun _ _ => False := by rw [← hY]; rfl
 have fY : ∀ {H' : Hp}, (∀ b ∈ fp, H' b = none) → ∀ b ∈ fp, FpOk Y [] H' b := fun {H'} hn b hb => by
  have h1 := IY.ok.exf b (by rw [← hY]; exact hb)
  refine ⟨hn b hb, h1.1, IY.ok.exfs b (by rw [← hY]; exact hb), .inl (by rw [← hY]; exact hb), h1.2, fun p hp => absurd hp (by rw [← hY]; simp [cxComp])⟩
 have loop : codeAny (model X.prog X.w) X.A (.compLoop (.ListComp elt [⟨tg, iter, ifs, 0⟩] scope pos) 0 (.ref it) (.ref D) (compEnvC scope (closOf X.env.cells scope.names []) hp3.objs.size X.env))
  (RR (.ref D) hp3.objs.size) { s2 with heap := h₁, toks := s2.toks + ([] : List (Str × Value)).length } := by
  refine codeAny_loop rfl (fun k s' => ∃ i ys H', Inv Y [] (List.replicate n none ++ frσ σ fr) H' s' ∧ tn i s'.heap ∧ (∀ b ∈ fp, H' b = none) ∧ W i k ys H') (fun k s5 hI => ?_) m0 ⟨0, [], _, IY, st4, fun b hb => (f3 b hb).1, w0⟩
  obtain ⟨i, ys, H5, I5, st5, fr5, w5⟩ := hI
  show wpAny _ X.A ((compTurn (.ListComp elt [⟨tg, iter, ifs, 0⟩] scope pos) 0 (.ref it) (.ref D) _).onRaise (fun x => do noteFrame x _; theTreesLotGoes x)) _ _ s5
  refine wpAny_noted ?_
  rw [compTurn_list, ← eEnv]
  refine wpAny_bind (wpAny_standAt (wpAny_bind ?_))
  obtain ⟨hDl, step⟩ := turn i k ys H5 w5
  rcases step with ⟨stop, qn⟩ | ⟨go, step⟩
  ·have d := T.done Y eP eW eK eC i [] s5 _ H5 (fun _ _ => False) I5 (fY fr5) st5 stop
   rw [eA] at d
   refine wpAny_noE (thn d fun r s6 ⟨hr, I6⟩ => ?_)
   subst hr
   refine wpAny_pure ?_
   have hC : H5 hp3.objs.size = none := by have := I6.free; rw [eEnv] at this; exact this
   have hns6 : ∃ m, s6.heap.Ns hp3.objs.size m := by
    have := I6.loc
    rw [eEnv] at this
    obtain ⟨m, hm, _⟩ := this
    exact ⟨m, hm⟩
   have sd : Side X pins H5 hp3.objs.size := ⟨hC, Nat.ne_of_gt I3.lt, I3.sz, fun x c e => Nat.ne_of_lt (let ⟨v, o, ho, _⟩ := I3.cell x c e; Heap.lt_size ho), fun p hp => Nat.ne_of_lt (Heap.lt_size (I3.pin p hp).1)⟩
   refine hR D hp3.objs.size H5 s6 qn hns6 sd ?_
   have un := I6.base
   have e0 : Y.s₀.heap = hp3 := by rw [← hY]; rfl
   have eH0 : Y.H₀ = upd H2 D (.lst []) := by rw [← hY]; rfl
   have eF : Y.fs = frs X.stack := by rw [← hY]; rfl
   have eEx : Y.ex = fp := by rw [← hY]; rfl
   rw [e0, eH0, eF, eEx] at un
   have hok' : HOk X.prog X.w H5 s6.heap := by have := I6.hok; rw [eP, eW] at this; exact this
   have os6 : s6.os = s2.os := I6.os.trans (by rw [← hY]; rfl)
   exact I3.call' (s' := s6) (ch := fp) os6 un hok' I6.bare fun b hb => ⟨(f2 b hb).2.2.2.1, (f2 b hb).2.1, (f2 b hb).2.2.2.2.1, (f2 b hb).2.2.2.2.2⟩
  ·have d := T.item Y eP eW eK eC i [] s5 _ H5 (fun _ _ => False) I5 (fY fr5) st5 go
   rw [eA] at d
   refine wpAny_noE (thn d fun r s6 ⟨u, hr, h6⟩ => ?_)
   subst hr
   refine wpAny_bind (wpAny_noE (thn h6 fun _ s7 ⟨x, H7, I7, r7, y7, st7, fr7⟩ => ?_))
   have I7' := I7.pinned (fY fr7) (T.obj _ _ st7)
   have g7 := hgY _ s7 _ H7 x u _ I7' r7 (step x H7 y7)
   rw [eA, eP, eW, eX] at g7
   refine wpAny_bind (wpAny_noE (thn g7 fun _ s8 ⟨σ8, H8, I8, ed, q8⟩ => ?_))
   have t8 := htY _ s8 σ8 H8 _ I8 q8
   rw [eA, eP, eW, eX] at t8
   refine wpAny_bind (wpAny_noE (thn t8 fun b s9 ⟨H9, I9, q9⟩ => ?_))
   have back : ∀ {s' : Shared} {H' : Hp} {ys' : List V} {m' : Nat}, Inv Y ([] ++ pinsAt fp s7.heap) σ8 H' s' → m' < k → W (i + 1) m' ys' H' → ∃ m, m < k ∧ ∃ i ys H', Inv Y [] (List.replicate n none ++ frσ σ fr) H' s' ∧ tn i s'.heap ∧ (∀ b ∈ fp, H' b = none) ∧ W i m ys H' := fun {s' H' ys' m'} I' hm w' => by
    refine ⟨m', hm, i + 1, ys', H', ?_, T.keep _ _ _ st7 fun b hb o e => (I'.pin (b, o) (List.mem_append_right _ (List.mem_append_right _ (mem_pinsAt hb e)))).1, fun b hb => ?_, w'⟩
    ·refine (Inv.unpinned I').weak ?_ fun j v hj => ?_
     ·exact IY.len.trans I'.len.symm
     ·by_cases hjn : j < n
      ·rw [List.getElem?_append_left (by simpa using hjn), List.getElem?_replicate, if_pos hjn] at hj
       cases hj
      ·rw [List.getElem?_append_right (by simpa using hjn), List.length_replicate, ← ed, List.getElem?_drop, show n + (j - n) = j by omega] at hj
       exact hj
    ·obtain ⟨o, e, d⟩ := T.obj _ _ st7 b hb
     exact (I'.pin (b, o) (List.mem_append_right _ (List.mem_append_right _ (mem_pinsAt hb e)))).2.1
   cases b with
   | false =>
     obtain ⟨m', hm, w9⟩ := q9
     exact wpAny_pure ⟨rfl, back I9 hm w9⟩
   | true =>
     have e9 := heY _ s9 σ8 H9 _ I9 q9
     rw [eA, eP, eW, eX] at e9
     refine wpAny_bind (wpAny_bind (wpAny_noE (thn e9 fun v s10 ⟨y, H10, I10, r10, hD10, hz, m', hm, w10⟩ => ?_)))
     have a10 := mt_append _ s10 σ8 H10 (.ref D) [y] (.ref D) [v] (fun _ H' => H' = upd H10 D (.lst (ys ++ [y]))) I10 rfl (.cons r10 .nil) ⟨D, ys, y, rfl, rfl, hD10, hz, rfl⟩
     rw [eA, eP, eW, eX] at a10
     refine wpAny_bind (wpAny_noE (thn a10 fun _ s11 ⟨_, H11, I11, _, e11⟩ => ?_))
     subst e11
     exact wpAny_pure (wpAny_pure ⟨rfl, back I11 hm w10⟩)
 exact codeAny_compStart_list loop (T.self _ _ _ _ _ st4 loop)
theorem pe_comp {tg iter elt : Expr} {ifs : List Expr} {pos : Pos} {wi : TI} {g : Blk TG} {tt : Blk TT} {te : Blk TE}
 (hc : X.calm = true) (O : CompOk X N n fr scope) (hi : PI X tg iter wi)
 (hg : ∀ C ex s H, PG (cxComp X N scope C ex s H) tg (g C ex s H)) (ht : ∀ C ex s H, PIf (cxComp X N scope C ex s H) ifs (tt C ex s H)) (he : ∀ C ex s H, PE (cxComp X N scope C ex s H) elt (te C ex s H))
 (hs : ∀ x, foldedSetIterable iter X.env x = pure x := by intro _; rfl) :
 PE X (.ListComp elt [⟨tg, iter, ifs, 0⟩] scope pos) (tComp n fr wi g tt te) := by
 intro pins s σ H Q I h
 rw [eval_ListComp]
 refine wpAny_comprehension_free (use := none) rfl hs (closureFor_eq (O.cells I)) O.kind (fun y hy => of_decide_eq_true (List.all_eq_true.mp O.loc y hy)) (thn (hi pins s σ H _ I h) fun v s1 h1 => thn h1 fun itv s2 h2 => ?_)
 obtain ⟨it, fp, tn, J, H2, e, I2, T, st2, f2, hW⟩ := h2
 subst e
 refine comp_run (RR := fun acc C => compPost (model X.prog X.w) X.A X.xe none (EP X pins σ Q) acc C) hc O hg ht he I2 T st2 f2 hW ?_
 intro D C H' s' q ⟨m, hm⟩ sd inv
 exact ⟨m, hm, fun h' hs' => ⟨.ref D, H', inv.turned (t' := s'.toks) (it := C) (fun b o hb e => hs'.extBut b o hb e) sd.nt sd.nl (.inr sd.ab) sd.nc sd.np, rfl, q⟩⟩
theorem ps_setComp {i : Nat} {x : Str} {px : Pos} {tg iter elt : Expr} {ifs : List Expr} {pos spos : Pos} {wi : TI} {g : Blk TG} {tt : Blk TT} {te : Blk TE}
 (hN : X.N.Nodup) (hx : X.N[i]? = some x) (hk : X.env.scope.names.lookup x = some .local)
 (hc : X.calm = true) (O : CompOk X N n fr scope) (hi : PI X tg iter wi)
 (hg : ∀ C ex s H, PG (cxComp X N scope C ex s H) tg (g C ex s H)) (ht : ∀ C ex s H, PIf (cxComp X N scope C ex s H) ifs (tt C ex s H)) (he : ∀ C ex s H, PE (cxComp X N scope C ex s H) elt (te C ex s H))
 (hsw : swapsWith (.ListComp elt [⟨tg, iter, ifs, 0⟩] scope pos) (some (.Name x px)) spos.line X.env = pure true := by rfl)
 (hs : ∀ x, foldedSetIterable iter X.env x = pure x := by intro _; rfl) :
 PS X (.Assign [.Name x px] (.ListComp elt [⟨tg, iter, ifs, 0⟩] scope pos) spos) (tAsg (tComp n fr wi g tt te) (gName i)) := by
 intro pins s σ H D I h
 rw [exec_Assign_Name_used _ _ _ _ hsw]
 refine wpAny_bind (wpAny_standAt (wpAny_bind ?_))
 show wpAny _ X.A (do let _ ← comprehension (.ListComp elt [⟨tg, iter, ifs, 0⟩] scope pos) scope X.env _ (newList []) false (eval iter X.env) (some (assign (.Name x px) X.env))) _ _ s
 refine wpAny_bind (wpAny_mono (wpAny_comprehension_free (use := some (assign (.Name x px) X.env)) (Q := fun _ s' => SP X pins D .next s') rfl hs (closureFor_eq (O.cells I)) O.kind (fun y hy => of_decide_eq_true (List.all_eq_true.mp O.loc y hy))
  (thn (hi pins s σ H _ I h) fun v s1 h1 => thn h1 fun itv s2 h2 => ?_)) (fun _ s' hq => wpAny_pure (wpAny_pure hq)) fun _ _ e => e)
 obtain ⟨it, fp, tn, J, H2, e, I2, T, st2, f2, hW⟩ := h2
 subst e
 refine comp_run (Q := fun x H1 => gName i x σ H1 D.nx) (RR := fun acc C => compPost (model X.prog X.w) X.A X.xe (some (assign (.Name x px) X.env)) (fun _ s' => SP X pins D .next s') acc C) hc O hg ht he I2 T st2 f2 hW ?_
 intro Dl C H' s' q ⟨m, hm⟩ sd inv
 show wpAny _ X.A (assign (.Name x px) X.env (.ref Dl)) _ _ _
 refine wpAny_assign_Name (store_ok2 (i := i) (v := .ref Dl) inv hN hx (.inl hk) rfl (fun s6 I6 ⟨a, hsb, ha⟩ => ?_) (.inr hk))
 have hCa : C ≠ a := by
  rcases ha with z | z
  ·rw [z]; exact sd.nl
  ·exact fun e => sd.nc x a z e.symm
 refine ⟨m, hm.sameBut hsb hCa, fun h' hs' => ?_⟩
 refine ⟨_, H', I6.turned (t' := s6.toks) (it := C) (fun b o hb e => hs'.extBut b o hb e) sd.nt sd.nl (.inr sd.ab) sd.nc sd.np, q⟩
end
end S
namespace S
open PySem PySem.Spec PyProof.Rows L2
open PySem.AutoSeq1 (wpAny_loadPart')
def ItB (b : Bool) (h : Heap) (it a : Addr) (i : Nat) : Prop := match b with | true => h.IsListIter it a i | false => h.IsTupleIter it a i
def SeB (b : Bool) (h : Heap) (a : Addr) (items : Array Value) : Prop := match b with | true => h.IsList a items | false => h.IsTuple a items
def SqB (b : Bool) (K : PySem.W.Frag) (H : Hp) (a : Addr) (xs : List V) : Prop := match b with | true => SqL K H a xs | false => SqT K H a xs
theorem ItB.at {b : Bool} {h h' : Heap} {it a : Addr} {i : Nat} (x : ItB b h it a i) (k : ∀ o, h.get? it = some o → h'.get? it = some o) : ItB b h' it a i := by
 cases b with
 | true => obtain ⟨o, ho, r⟩ := x; exact ⟨o, k o ho, r⟩
 | false => obtain ⟨o, ho, r⟩ := x; exact ⟨o, k o ho, r⟩
theorem ItB.obj {b : Bool} {h : Heap} {it a : Addr} {i : Nat} (x : ItB b h it a i) : ∃ o, h.get? it = some o ∧ ∀ v, o.data ≠ .cell v := by
 cases b with
 | true => obtain ⟨o, ho, c, d⟩ := x; exact ⟨o, ho, fun v z => by rw [d] at z; cases z⟩
 | false => obtain ⟨o, ho, c, d⟩ := x; exact ⟨o, ho, fun v z => by rw [d] at z; cases z⟩
theorem SeB.at {b : Bool} {h h' : Heap} {a : Addr} {items : Array Value} (x : SeB b h a items) (k : ∀ o, h.get? a = some o → h'.get? a = some o) : SeB b h' a items := by
 cases b with
 | true => obtain ⟨o, ho, r⟩ := x; exact ⟨o, k o ho, r⟩
 | false => obtain ⟨o, ho, r⟩ := x; exact ⟨o, k o ho, r⟩
theorem SeB.obj {b : Bool} {h : Heap} {a : Addr} {items : Array Value} (x : SeB b h a items) : ∃ o, h.get? a = some o := by
 cases b with
 | true => obtain ⟨o, ho, r⟩ := x; exact ⟨o, ho⟩
 | false => obtain ⟨o, ho, r⟩ := x; exact ⟨o, ho⟩
section
variable {X : Cx} {pins : List (Addr × Obj)} {σ : L2.St} {H : Hp} {s : Shared} {a : Addr} {xs ys : List V} {b : Bool}
theorem seB (I : Inv X pins σ H s) (h : SqB b X.K H a xs) : ∃ its : List Value, Vals xs its ∧ SeB b s.heap a its.toArray ∧ xs.length ≤ sizeLine := by
 cases b with
 | true => obtain ⟨its, r, p, z⟩ := I.list h; exact ⟨its, r, p.isList, z⟩
 | false => obtain ⟨its, r, p, z⟩ := I.tuple h; exact ⟨its, r, p, z⟩
theorem seB_inj (I : Inv X pins σ H s) (h : SqB b X.K H a xs) (h' : SqB b X.K H a ys) : xs = ys := by
 cases b with
 | true => exact I.list_inj h h'
 | false => exact I.tuple_inj h h'
end
section
variable {prog : Program} {w : World} {A : Around} {E : Value → Shared → Prop} {s : Shared}
theorem nextOf_tuple_item {it t : Addr} {i : Nat} {items} {x : Value} {Q : Value → Shared → Prop} (hit : s.heap.IsTupleIter it t i)
 (ht : s.heap.IsTuple t items) (hx : items[i]? = some x)
 (hQ : ∀ h', h'.IsTupleIter it t (i + 1) → Heap.SameBut it s.heap h' → Q x { s with heap := h' }) :
 wpAny (model prog w) A (Builtin.SmallTypes.nextOf (.ref it)) Q E s := by
 obtain ⟨o, ho, hc, hd⟩ := id hit
 obtain ⟨ol, hol, _, nl, hdl⟩ := ht
 unfold Builtin.SmallTypes.nextOf
 refine wpAny_bind (wpAny_callSpecial?_slot (name := Str.ofString "__next__") hit.typeIs F.slot_tuple_iterator_next
  (wpAny_call_entry F.slot_tuple_iterator_next hit.typeIs F.entry_tuple_iterator_next ?_ (F.args_tuple_iterator_next_1 _)))
 show wpAny _ _ (field (.ref it) 0 >>= _) _ _ s
 refine wpAny_bind (wpAny_field ho hd (x := .ref t) rfl ?_)
 show wpAny _ _ (if (Value.ref t == Value.none) = true then _ else _) _ _ s
 rw [if_neg (show ¬ ((Value.ref t == Value.none) = true) from Bool.false_ne_true)]
 show wpAny _ _ (field (.ref it) 1 >>= _) _ _ s
 refine wpAny_bind (wpAny_field ho hd (x := .int i 0) rfl ?_)
 show wpAny _ _ (seqItems? (.ref t) >>= _) _ _ s
 refine wpAny_bind (wpAny_seqItems hol hdl ?_)
 simp only [Int.toNat_natCast, hx]
 refine wpAny_bind (wpAny_setField ho hd (by simp) (wpAny_pure ⟨x, rfl, wpAny_pure (hQ _ ?_ (Heap.SameBut.update ..))⟩))
 exact ⟨_, Heap.get?_update_self _ ho (Obj.isFreed_of_fields (Obj.data_mapFields hd _)), (Obj.cls_mapFields ..).trans hc, by
  rw [Obj.data_mapFields hd]; simp [rawInt]⟩
theorem nextOf_tuple_end {it t : Addr} {i : Nat} {items} {Q : Value → Shared → Prop} (hh : A.handled = none)
 (hit : s.heap.IsTupleIter it t i) (ht : s.heap.IsTuple t items) (hx : items[i]? = none)
 (hE : ∀ h' e, Heap.ExtBut it s.heap h' → (∃ o, h'.get? e = some o ∧ o.cls = .type "StopIteration") → E (.ref e) { s with heap := h' }) :
 wpAny (model prog w) A (Builtin.SmallTypes.nextOf (.ref it)) Q E s := by
 obtain ⟨o, ho, hc, hd⟩ := id hit
 obtain ⟨ol, hol, _, nl, hdl⟩ := ht
 unfold Builtin.SmallTypes.nextOf
 refine wpAny_bind (wpAny_callSpecial?_slot (name := Str.ofString "__next__") hit.typeIs F.slot_tuple_iterator_next
  (wpAny_call_entry F.slot_tuple_iterator_next hit.typeIs F.entry_tuple_iterator_next ?_ (F.args_tuple_iterator_next_1 _)))
 show wpAny _ _ (field (.ref it) 0 >>= _) _ _ s
 refine wpAny_bind (wpAny_field ho hd (x := .ref t) rfl ?_)
 show wpAny _ _ (if (Value.ref t == Value.none) = true then _ else _) _ _ s
 rw [if_neg (show ¬ ((Value.ref t == Value.none) = true) from Bool.false_ne_true)]
 show wpAny _ _ (field (.ref it) 1 >>= _) _ _ s
 refine wpAny_bind (wpAny_field ho hd (x := .int i 0) rfl ?_)
 show wpAny _ _ (seqItems? (.ref t) >>= _) _ _ s
 refine wpAny_bind (wpAny_seqItems hol hdl ?_)
 simp only [Int.toNat_natCast, hx]
 refine wpAny_bind (wpAny_rule (wpAny_bind (wpAny_setField ho hd (by simp) ?_)))
 show wpAny _ _ (newExc (.type "StopIteration") [] >>= _) _ _ _
 refine wpAny_bind ?_
 simp only [newExc, newTuple]
 refine wpAny_bind (wpAny_newObj_type ?_ (by size_fits))
 refine wpAny_bind (m := firstArgMember _ _) (wpAny_of_eq (a := Value.none) (by first | rfl | (simp only [firstArgMember]; rfl)) ?_)
 refine wpAny_newObj_type ?_ (by size_fits)
 simp only [raiseNew]
 refine wpAny_bind (wpAny_handled ?_)
 first | rw [show A.in1.handled = none from hh] | rw [hh]
 refine wpAny_bind (wpAny_pure (wpAny_throw ?_))
 exact hE _ _ (((Heap.SameBut.update ..).extBut.push _).push _) ⟨_, Heap.get?_push_size _ rfl, rfl⟩
theorem nextB_item {b : Bool} {it a : Addr} {i : Nat} {items} {x : Value} {Q : Value → Shared → Prop} (hit : ItB b s.heap it a i) (hl : SeB b s.heap a items) (hx : items[i]? = some x)
 (hQ : ∀ h', ItB b h' it a (i + 1) → Heap.SameBut it s.heap h' → Q x { s with heap := h' }) : wpAny (model prog w) A (Builtin.SmallTypes.nextOf (.ref it)) Q E s := by
 cases b with
 | true => exact wpAny_nextOf_list_item hit hl hx hQ
 | false => exact nextOf_tuple_item hit hl hx hQ
theorem nextB_end {b : Bool} {it a : Addr} {i : Nat} {items} {Q : Value → Shared → Prop} (hh : A.handled = none) (hit : ItB b s.heap it a i) (hl : SeB b s.heap a items) (hx : items[i]? = none)
 (hE : ∀ h' e, Heap.ExtBut it s.heap h' → (∃ o, h'.get? e = some o ∧ o.cls = .type "StopIteration") → E (.ref e) { s with heap := h' }) :
 wpAny (model prog w) A (Builtin.SmallTypes.nextOf (.ref it)) Q E s := by
 cases b with
 | true => exact wpAny_nextOf_list_end hh hit hl hx hE
 | false => exact nextOf_tuple_end hh hit hl hx hE
end
theorem drawsB {prog : Program} {w : World} {A : Around} (hh : A.handled = none) (b : Bool) (it a : Addr) (hne : a ≠ it) (items : Array Value) :
 Draws prog w A it [it, a] items.size (fun i x => items[i]? = some x) (fun i h => ItB b h it a i ∧ SeB b h a items) where
 live := fun i h hst => by obtain ⟨o, ho, _⟩ := hst.1.obj; exact ⟨o, ho⟩
 frame := fun i h h' hst hk => ⟨hst.1.at fun o e => hk _ (by simp) o e, hst.2.at fun o e => hk _ (by simp) o e⟩
 item := fun i s Q E hi hst hQ => nextB_item hst.1 hst.2 (Array.getElem?_eq_getElem hi) fun h' hit' hs' => hQ _ h' s.toks (Array.getElem?_eq_getElem hi) ⟨hit', hst.2.at fun o e => (hs'.2 _ hne).trans e⟩ hs'
 done := fun s Q E hst hE => nextB_end hh hst.1 hst.2 (by simp) hE
theorem Inv_turnedNew {X : Cx} {pins : List (Addr × Obj)} {σ : L2.St} {H : Hp} {s : Shared} {h' : Heap} {t' : Nat} {ch : List Addr} {a : Addr} {o : HO} (I : Inv X pins σ H s) (hf : ∀ b ∈ ch, FpOk X pins H b)
 (k : ∀ b o, b ∉ ch → s.heap.get? b = some o → h'.get? b = some o) (th : ∀ b ∈ ch, ∃ o, h'.get? b = some o) (ha : s.heap.objs.size ≤ a) (new : ObjOk X.prog X.w (upd H a o) h' a o) :
 Inv X pins σ (upd H a o) { s with heap := h', toks := t' } := by
 have hna : H a = none := I.hok.fresh ha
 have same : Same H (upd H a o) := Same.new hna o
 refine I.step (g' := s.gens) (d' := s.drawn) (ch := ch) (fun b hb => ⟨(hf b hb).2.2.2.1, (hf b hb).2.1, (hf b hb).2.2.2.2.1, (hf b hb).2.2.2.2.2⟩) (fun b u _ _ hc e _ => k b u hc e) (fun b u _ _ hc e _ => ⟨u.slots, k b u hc e⟩)
  (fun b u hc e n => by rw [upd_ne (Nat.ne_of_lt (Nat.lt_of_lt_of_le (Heap.lt_size e) ha))]; exact n) (fun b u hc e => ⟨u, k b u hc e⟩) (fun b xs e => same _ _ e) (fun b u v e => same _ _ e) (fun b ps e => ⟨#[], by rw [same _ _ e]; simp⟩) (fun m hm => ?_) (fun b u e => ?_) I.bare
 ·obtain ⟨ob, es, ep, ho, r⟩ := hm
  exact ⟨ob, es, ep, k _ ob (fun z => (hf _ z).2.1 rfl) ho, r⟩
 ·by_cases hb : b = a
  ·subst hb; rw [upd_same] at e; cases e; exact new
  ·rw [upd_ne hb] at e
   refine (I.hok b u e).stay (fun c v hc q => k c v ?_ q) (fun _ q => same _ _ q) fun _ _ q => same _ _ q
   intro z
   rcases hc with q | q
   ·rw [q] at z; rw [(hf b z).1] at e; cases e
   ·rw [(hf c z).1] at q; cases q
def ItE (b : Bool) (K : PySem.W.Frag) (a : Addr) : It :=
 ⟨fun i H => ∃ xs x, SqB b K H a xs ∧ xs[i]? = some x, fun i H v H' => ∃ p x, (∀ xs, SqB b K H a xs → xs[i]? = some x) ∧ H p = none ∧ v = .ref p ∧ H' = upd H p (.tup [.int i, x]), fun i H => ∃ xs, SqB b K H a xs ∧ xs.length ≤ i⟩
theorem sq_small2 : (2 : Nat) ≤ sizeLine := by decide
theorem turn_enum {P : Program} {w : World} {K : PySem.W.Frag} {elts : List Expr} {k : Nat} {pos : Pos} (b : Bool) (a e it : Addr) (hae : a ≠ it) (hei : e ≠ it) (hea : e ≠ a) :
 Turn P w K (.Tuple elts k pos) (ItE b K a) [e, it] e (fun i h => (∃ old, IsEnum h e it i old) ∧ ItB b h it a i) where
 mem := by simp
 obj := fun i h st c hc => by
  rcases List.mem_cons.mp hc with rfl | hc
  ·obtain ⟨old, z⟩ := st.1
   exact ⟨_, z, fun v q => by cases q⟩
  ·obtain rfl : c = it := by simpa using hc
   exact st.2.obj
 keep := fun i h h' st kk => by
  obtain ⟨⟨old, z⟩, y⟩ := st
  exact ⟨⟨old, kk e (by simp) _ z⟩, y.at fun o q => kk it (by simp) o q⟩
 item := by
  intro X hP hw hK hc i pins s σ H E I hf st hg
  subst hP hw hK
  obtain ⟨⟨old, he⟩, hit⟩ := st
  obtain ⟨xs, x, hq, hx⟩ := hg
  obtain ⟨its, rv, p, hz⟩ := seB I hq
  obtain ⟨u, hu, ru⟩ := rv.get hx
  have hh := I.ok.hd hc
  have hi : i < its.toArray.size := by have := (List.getElem?_eq_some_iff.mp hu).1; simpa using this
  refine wpAny_pyNext_enum_itemD (drawsB (A := X.A.in1) hh b it a hae its.toArray) he ⟨hit, p⟩ hi hei (by simp only [List.mem_cons, List.not_mem_nil, or_false, not_or]; exact ⟨hei, hea⟩) fun x' h' tk hP ho hst hT hsz hk => ?_
  have ex : x' = u := by
   have hP' : its[i]? = some x' := by simpa using hP
   rw [hu] at hP'
   exact (Option.some.inj hP').symm
  subst ex
  refine ⟨_, rfl, wpAny_letOwnedTupleGo_enum ho fun h'' he'' hs'' => ?_⟩
  have helt : e < s.heap.objs.size := Heap.lt_size he
  have hilt : it < s.heap.objs.size := by obtain ⟨o, z, _⟩ := hit.obj; exact Heap.lt_size z
  have hT'' : h''.get? s.heap.objs.size = some { cls := .type "tuple", data := .seq #[.int i tk, x'] } := (hs''.2 _ (Nat.ne_of_gt helt)).trans hT
  refine ⟨.ref s.heap.objs.size, upd H s.heap.objs.size (.tup [.int i, x]), ?_, rfl, ⟨_, x, fun ys hy => by rw [seB_inj I hy hq]; exact hx, I.fresh, rfl, rfl⟩, ⟨⟨x', by simpa using he''⟩, hst.1.at fun o q => (hs''.2 _ hei.symm).trans q⟩, fun c hc => ?_⟩
  ·refine Inv_turnedNew (s := s) (t' := tk + 1) (ch := [e, it]) I hf (fun c o hcn q => (hs''.2 c (fun z => hcn (by simp [z]))).trans (hk c o (fun z => hcn (by simp [z])) (fun z => hcn (by simp [z])) q)) (fun c hc => ?_) (Nat.le_refl _) ⟨sq_small2, [.int i tk, x'], .cons ⟨tk, rfl⟩ (.cons ru .nil), ⟨_, hT'', rfl, _, rfl⟩⟩
   rcases List.mem_cons.mp hc with rfl | hc
   ·exact ⟨_, he''⟩
   ·obtain rfl : c = it := by simpa using hc
    obtain ⟨o, z, _⟩ := hst.1.obj
    exact ⟨o, (hs''.2 _ hei.symm).trans z⟩
  ·have hlt : c < s.heap.objs.size := by
    rcases List.mem_cons.mp hc with rfl | hc
    ·exact helt
    ·obtain rfl : c = it := by simpa using hc
     exact hilt
   rw [upd_ne (Nat.ne_of_lt hlt)]
   exact (hf c hc).1
 done := by
  intro X hP hw hK hc i pins s σ H E I hf st hg
  subst hP hw hK
  obtain ⟨⟨old, he⟩, hit⟩ := st
  obtain ⟨xs, hq, hx⟩ := hg
  obtain ⟨its, rv, p, hz⟩ := seB I hq
  have hh := I.ok.hd hc
  have hl := rv.length
  obtain ⟨f0, f1, f2, f3, f4, f5⟩ := hf it (by simp)
  have hT : s.TypeIs (.ref e) "enumerate" := ⟨_, he, rfl⟩
  unfold pyNext
  refine wpAny_bind (wpAny_attempt (wpAny_callSpecial?_slot (name := Str.ofString "__next__") hT F.slot_enumerate_next (wpAny_call_entry F.slot_enumerate_next hT F.entry_enumerate_next ?_ (F.args_enumerate_next_1 _))))
  show wpAny _ _ (field (.ref e) 2 >>= _) _ _ _
  refine wpAny_bind (wpAny_field he rfl (x := .ref it) rfl ?_)
  refine wpAny_bind (nextB_end (A := X.A.in1) hh hit p (by simp; omega) fun h' y he' hx' => ?_)
  obtain ⟨o, ho, hcl⟩ := hx'
  refine wpAny_bind (wpAny_isInstance (T := "StopIteration") (b := true) ⟨o, ho, hcl⟩ isSubtype_stop ?_)
  exact wpAny_pure ⟨rfl, I.turned (t' := s.toks) (fun c o hb e => he' c o hb e) f0 f1 f3 f4 f5⟩
 self := fun _ _ _ _ _ st h => by
  obtain ⟨⟨old, he⟩, _⟩ := st
  exact wpAny_pyIter_enum he h
theorem meets_enum_T (l : Addr) (items : Array Value) (n : Nat) (dct : Option Addr) (sl : Array (Option Value)) :
 Meets (Builtin.«enumerate.__new__» ⟨[.type "enumerate", .ref l], []⟩) (fun _ R s => s.heap.get? l = some { cls := .type "tuple", dict := dct, data := .seq items n, slots := sl } ∧
  R (.ok (.ret (.ref (s.heap.push { cls := .type "tuple_iterator", data := .fields #[.ref l, .int 0 0] }).objs.size)))
    { s with heap := (s.heap.push { cls := .type "tuple_iterator", data := .fields #[.ref l, .int 0 0] }).push { cls := .type "enumerate", data := .fields #[.none, .bool false, .ref s.heap.objs.size, rawInt 0, .none, .none] } }) :=
 .of_wp fun prog w A R s h => by
  obtain ⟨hp, g, d, tk, os⟩ := s; obtain ⟨hl, h⟩ := h
  have hsub := sub_enumerate
  have hL : Heap.IsTuple (Shared.heap ⟨hp, g, d, tk, os⟩) l items := ⟨_, hl, rfl, n, rfl⟩
  wp_walk using wpAny_loadPart' hl
  refine wpAny_stack_any fun st => wpAny_pure ?_
  split
  ·rename_i c _ _ _ _ _
   cases (c == Value.type "enumerate")
   ·wp_walk using wpAny_loadPart' hl, wpAny_pyIter_tuple hL
    exact ⟨_, rfl, h⟩
   ·wp_walk using wpAny_loadPart' hl, wpAny_pyIter_tuple hL
    exact ⟨_, rfl, h⟩
  ·wp_walk using wpAny_loadPart' hl, wpAny_pyIter_tuple hL
   exact ⟨_, rfl, h⟩
theorem call_enumB {prog : Program} {w : World} {A : Around} {E : Value → Shared → Prop} {s : Shared} {b : Bool} {l : Addr} {items : Array Value} {Q : Value → Shared → Prop} (hL : SeB b s.heap l items)
 (h : ∀ h', IsEnum h' (s.heap.objs.size + 1) s.heap.objs.size 0 .none → ItB b h' s.heap.objs.size l 0 → h'.objs.size = s.heap.objs.size + 2 →
  (∀ b o, s.heap.get? b = some o → h'.get? b = some o) → Q (.ref (s.heap.objs.size + 1)) { s with heap := h' }) :
 wpAny (model prog w) A (call (.type "enumerate") [.ref l]) Q E s := by
 cases b with
 | true => exact call_enumerate_list hL h
 | false =>
   obtain ⟨⟨c, dct, dt, sl⟩, hl, hc, n, hd⟩ := hL
   replace hc : c = .type "tuple" := hc
   replace hd : dt = .seq items n := hd
   subst hc hd
   refine callType_new F.called_enumerate (by decide) (F.typeCall_enumerate_1 _) (F.newCall_enumerate_1 _) (fun obj => F.args_object_init_2 obj _) F.entry_enumerate_new
    (meets_enum_T l items n dct sl) ⟨hl, ?_⟩
   have hz : (s.heap.push { cls := .type "tuple_iterator", data := .fields #[.ref l, .int 0 0] }).objs.size = s.heap.objs.size + 1 := Heap.size_push ..
   show _ ∧ _
   rw [hz]
   have he : IsEnum ((s.heap.push { cls := .type "tuple_iterator", data := .fields #[.ref l, .int 0 0] }).push
    { cls := .type "enumerate", data := .fields #[.none, .bool false, .ref s.heap.objs.size, rawInt 0, .none, .none] }) (s.heap.objs.size + 1) s.heap.objs.size 0 .none := by
    have := Heap.get?_push_size (s.heap.push { cls := .type "tuple_iterator", data := .fields #[.ref l, .int 0 0] })
     (o := { cls := .type "enumerate", data := .fields #[.none, .bool false, .ref s.heap.objs.size, rawInt 0, .none, .none] }) rfl
    rw [hz] at this; exact this
   refine ⟨⟨_, he, rfl⟩, h _ he ⟨_, Heap.get?_push_of_some _ (Heap.get?_push_size _ rfl), rfl, rfl⟩ (by rw [Heap.size_push, hz]) fun b o x => Heap.get?_push_of_some _ (Heap.get?_push_of_some _ x)⟩
section
variable {X : Cx}
def iEnum (b : Bool) (K : PySem.W.Frag) (ta : TA) : TI := fun σ H R => ta σ H fun vs H1 => ∃ a, vs = [.ref a] ∧ (∃ xs, SqB b K H1 a xs) ∧ R (ItE b K a) H1
theorem pi_enum (b : Bool) {elts : List Expr} {k : Nat} {tpos : Pos} {a : Expr} {ta : TA} {p pos : Pos} (hg : Gl X "enumerate") (hm : X.mg "enumerate" = none) (ha : PA X [a] ta) (hs : starEach [a] X.env = [(false, eval a X.env)] := by rfl) :
 PI X (.Tuple elts k tpos) (.Call (.Name "enumerate" p) [a] [] pos) (iEnum b X.K ta) := by
 intro pins s σ H R I h
 refine Call_ (ld_blt I hg hm bt_enumerate (PyProof.Rows.callWith_type1 (thn (ha pos pins s σ H _ I h) fun us s1 ⟨vs, H1, I1, r1, q1⟩ => ?_) hs rfl))
 obtain ⟨l, e, ⟨xs, hq⟩, q⟩ := q1
 subst e
 obtain ⟨u, rfl, ru⟩ := vals1 r1
 cases (show u = Value.ref l from ru)
 obtain ⟨its, rv, p1, hz⟩ := seB I1 hq
 refine call_enumB p1 fun h' he hit hsz hk => wpAny_pyIter_enum he ?_
 have I2 : Inv X pins σ H1 { s1 with heap := h' } := I1.kept (t' := s1.toks) hk
 have hl : l < s1.heap.objs.size := by obtain ⟨o, z⟩ := p1.obj; exact Heap.lt_size z
 refine ⟨s1.heap.objs.size + 1, [s1.heap.objs.size + 1, s1.heap.objs.size], _, _, H1, rfl, I2, turn_enum b l _ _ (Nat.ne_of_lt hl) (Nat.succ_ne_self _) (Nat.ne_of_gt (Nat.lt_succ_of_lt hl)), ⟨⟨_, he⟩, hit⟩, fun c hc => ?_, q⟩
 rcases List.mem_cons.mp hc with rfl | hc
 ·exact I1.fpOk (Nat.le_succ _) (I1.hok.fresh (Nat.le_succ _))
 ·obtain rfl : c = s1.heap.objs.size := by simpa using hc
  exact I1.fpOk (Nat.le_refl _) (I1.hok.fresh (Nat.le_refl _))
end
theorem ItB.extBut {b : Bool} {h h' : Heap} {it a c : Addr} {i : Nat} (x : ItB b h it a i) (hs : Heap.ExtBut c h h') (hne : it ≠ c) : ItB b h' it a i := x.at fun o e => hs _ o hne e
theorem SeB.extBut {b : Bool} {h h' : Heap} {a c : Addr} {items : Array Value} (x : SeB b h a items) (hs : Heap.ExtBut c h h') (hne : a ≠ c) : SeB b h' a items := x.at fun o e => hs _ o hne e
section
variable {prog : Program} {w : World} {A : Around} {E : Value → Shared → Prop} {s : Shared}
open PySem
theorem zipB_item {c1 c2 : Bool} {z TI TO i1 i2 l1 l2 : Addr} {k1 k2 : Nat} {xs ys : Array Value} {x y a b : Value} {Q : Value → Shared → Prop} (D : ZipApart z TI TO i1 i2 l1 l2)
 (hz : IsZip s.heap z TI TO .none) (hTI : IsPair s.heap TI (.ref i1) (.ref i2)) (hTO : IsPair s.heap TO a b)
 (h1 : ItB c1 s.heap i1 l1 k1) (h2 : ItB c2 s.heap i2 l2 k2) (hl1 : SeB c1 s.heap l1 xs) (hl2 : SeB c2 s.heap l2 ys) (hx : xs[k1]? = some x) (hy : ys[k2]? = some y)
 (hQ : ∀ h', IsZip h' z TI TO (rawInt s.heap.objs.size) → IsPair h' TO x y → ItB c1 h' i1 l1 (k1 + 1) → ItB c2 h' i2 l2 (k2 + 1) → IsPair h' s.heap.objs.size x y → h'.objs.size = s.heap.objs.size + 1 →
  (∀ c o, c ≠ z → c ≠ TO → c ≠ i1 → c ≠ i2 → s.heap.get? c = some o → h'.get? c = some o) → Q (.ref s.heap.objs.size) { s with heap := h' }) :
 wpAny (model prog w) A (Builtin.«zip.__next__» ⟨[.ref z], []⟩) (fun fin s' => ∃ v, fin = .done (.ret v) ∧ Q v s') E s := by
 show wpAny _ _ (field (.ref z) 2 >>= _) _ _ _
 refine wpAny_bind (wpAny_field hz rfl (x := .bool false) rfl ?_)
 show wpAny _ _ (field (.ref z) 3 >>= _) _ _ _
 refine wpAny_bind (wpAny_field hz rfl (x := .ref TI) rfl ?_)
 refine wpAny_bind (wpAny_seqItems hTI rfl ?_)
 show wpAny _ _ (Builtin.SmallTypes.ownedTupleIsFree (.ref z) >>= _) _ _ _
 refine wpAny_bind ?_
 unfold Builtin.SmallTypes.ownedTupleIsFree
 refine wpAny_bind (wpAny_field hz rfl (x := .none) rfl (wpAny_pure ?_))
 simp only [if_true]
 refine wpAny_bind (wpAny_rule ?_)
 refine wpAny_bind (wpAny_field hz rfl (x := .ref TO) rfl ?_)
 refine wpAny_bind (wpAny_setField_rec hz (by simp) fun h₁ hz₁ hs₁ => ?_)
 replace hz₁ : IsZip h₁ z TI TO .ellipsis := hz₁
 refine wpAny_bind ?_
 simp only [List.zipIdx_cons, List.zipIdx_nil, List.forIn_cons, List.forIn_nil]
 refine wpAny_bind (wpAny_bind (wpAny_onRaise ?_))
 show wpAny _ _ (Builtin.SmallTypes.nextOf (.ref i1) >>= _) _ _ _
 refine wpAny_bind (nextB_item (h1.extBut hs₁.extBut D.i1z) (hl1.extBut hs₁.extBut D.l1z) hx fun h₂ h1₂ hs₂ => wpAny_pure ?_)
 have hTO₂ : IsPair h₂ TO a b := hs₂.extBut _ _ D.TOi1 (hs₁.extBut _ _ D.TOz hTO)
 refine wpAny_bind (wpAny_seqItems hTO₂ rfl ?_)
 refine wpAny_bind (wpAny_updateSeq_pair hTO₂ fun h₃ hTO₃ hs₃ => ?_)
 replace hTO₃ : IsPair h₃ TO x b := hTO₃
 refine wpAny_bind (wpAny_letGo (wpAny_pure ?_))
 refine wpAny_bind (wpAny_bind (wpAny_onRaise ?_))
 show wpAny _ _ (Builtin.SmallTypes.nextOf (.ref i2) >>= _) _ _ _
 refine wpAny_bind (nextB_item (((h2.extBut hs₁.extBut D.i2z).extBut hs₂.extBut D.i12.symm).extBut hs₃.extBut D.TOi2.symm)
  (((hl2.extBut hs₁.extBut D.l2z).extBut hs₂.extBut D.l2i1).extBut hs₃.extBut D.l2TO) hy fun h₄ h2₄ hs₄ => wpAny_pure ?_)
 have hTO₄ : IsPair h₄ TO x b := hs₄.extBut _ _ D.TOi2 hTO₃
 refine wpAny_bind (wpAny_seqItems hTO₄ rfl ?_)
 refine wpAny_bind (wpAny_updateSeq_pair hTO₄ fun h₅ hTO₅ hs₅ => ?_)
 replace hTO₅ : IsPair h₅ TO x y := hTO₅
 refine wpAny_bind (wpAny_letGo (wpAny_pure (wpAny_pure ?_)))
 refine wpAny_bind (wpAny_seqItems hTO₅ rfl ?_)
 refine wpAny_bind (wpAny_newTuple ?_)
 have hsz : h₅.objs.size = s.heap.objs.size := by rw [hs₅.1, hs₄.1, hs₃.1, hs₂.1, hs₁.1]
 have hz₅ : IsZip h₅ z TI TO .ellipsis := hs₅.extBut _ _ D.TOz.symm (hs₄.extBut _ _ D.i2z.symm (hs₃.extBut _ _ D.TOz.symm (hs₂.extBut _ _ D.i1z.symm hz₁)))
 have hk₅ : ∀ c o, c ≠ z → c ≠ TO → c ≠ i1 → c ≠ i2 → s.heap.get? c = some o → h₅.get? c = some o := fun c o c1 c2 c3 c4 e =>
  hs₅.extBut _ _ c2 (hs₄.extBut _ _ c4 (hs₃.extBut _ _ c2 (hs₂.extBut _ _ c3 (hs₁.extBut _ _ c1 e))))
 have h1₅ : ItB c1 h₅ i1 l1 (k1 + 1) := ((h1₂.extBut hs₃.extBut D.TOi1.symm).extBut hs₄.extBut D.i12).extBut hs₅.extBut D.TOi1.symm
 have h2₅ : ItB c2 h₅ i2 l2 (k2 + 1) := h2₄.extBut hs₅.extBut D.TOi2.symm
 have hzlt : z < h₅.objs.size := Heap.lt_size hz₅
 have hTOlt : TO < h₅.objs.size := Heap.lt_size hTO₅
 have hi1lt : i1 < h₅.objs.size := by obtain ⟨_, e, _⟩ := h1₅.obj; exact Heap.lt_size e
 have hi2lt : i2 < h₅.objs.size := by obtain ⟨_, e, _⟩ := h2₅.obj; exact Heap.lt_size e
 show wpAny _ _ (Builtin.SmallTypes.ownedTupleHandOut (.ref z) (.ref h₅.objs.size) >>= _) _ _ _
 refine wpAny_bind ?_
 unfold Builtin.SmallTypes.ownedTupleHandOut
 have hz₆ : IsZip (h₅.push { cls := .type "tuple", data := .seq #[x, y] }) z TI TO .ellipsis := Heap.get?_push_of_some _ hz₅
 refine wpAny_bind (wpAny_setField_rec hz₆ (by simp) fun h₇ hz₇ hs₇ => ?_)
 replace hz₇ : IsZip h₇ z TI TO (rawInt h₅.objs.size) := hz₇
 refine wpAny_setField_rec hz₇ (by simp) fun h₈ hz₈ hs₈ => ?_
 replace hz₈ : IsZip h₈ z TI TO (rawInt h₅.objs.size) := hz₈
 have up : ∀ c o, c ≠ z → h₅.get? c = some o → h₈.get? c = some o := fun c o c1 e => hs₈.extBut _ _ c1 (hs₇.extBut _ _ c1 (Heap.get?_push_of_some _ e))
 have hT₈ : IsPair h₈ h₅.objs.size x y := hs₈.extBut _ _ (Nat.ne_of_gt hzlt) (hs₇.extBut _ _ (Nat.ne_of_gt hzlt) (Heap.get?_push_size _ rfl))
 have hz8 : h₈.objs.size = h₅.objs.size + 1 := by rw [hs₈.1, hs₇.1, Heap.size_push]
 rw [hsz] at hz₈ hT₈ hz8
 refine wpAny_pure ⟨_, rfl, ?_⟩
 show Q (.ref h₅.objs.size) _
 rw [hsz]
 exact hQ h₈ hz₈ (up _ _ D.TOz hTO₅) (h1₅.at fun o e => up _ o D.i1z e) (h2₅.at fun o e => up _ o D.i2z e) hT₈ hz8 fun c o c1 c2 c3 c4 e => up c o c1 (hk₅ c o c1 c2 c3 c4 e)
theorem zipB_end {c1 c2 : Bool} {z TI TO i1 i2 l1 l2 : Addr} {k1 k2 : Nat} {xs ys : Array Value} {a b : Value} {Q : Fin → Shared → Prop} (hh : A.handled = none) (D : ZipApart z TI TO i1 i2 l1 l2)
 (hz : IsZip s.heap z TI TO .none) (hTI : IsPair s.heap TI (.ref i1) (.ref i2)) (hTO : IsPair s.heap TO a b)
 (h1 : ItB c1 s.heap i1 l1 k1) (h2 : ItB c2 s.heap i2 l2 k2) (hl1 : SeB c1 s.heap l1 xs) (hl2 : SeB c2 s.heap l2 ys) (hend : xs[k1]? = none ∨ ys[k2]? = none)
 (hE : ∀ h' e, (∀ c o, c ≠ z → c ≠ TO → c ≠ i1 → c ≠ i2 → s.heap.get? c = some o → h'.get? c = some o) → (∃ o, h'.get? e = some o ∧ o.cls = .type "StopIteration") → E (.ref e) { s with heap := h' }) :
 wpAny (model prog w) A (Builtin.«zip.__next__» ⟨[.ref z], []⟩) Q E s := by
 show wpAny _ _ (field (.ref z) 2 >>= _) _ _ _
 refine wpAny_bind (wpAny_field hz rfl (x := .bool false) rfl ?_)
 show wpAny _ _ (field (.ref z) 3 >>= _) _ _ _
 refine wpAny_bind (wpAny_field hz rfl (x := .ref TI) rfl ?_)
 refine wpAny_bind (wpAny_seqItems hTI rfl ?_)
 show wpAny _ _ (Builtin.SmallTypes.ownedTupleIsFree (.ref z) >>= _) _ _ _
 refine wpAny_bind ?_
 unfold Builtin.SmallTypes.ownedTupleIsFree
 refine wpAny_bind (wpAny_field hz rfl (x := .none) rfl (wpAny_pure ?_))
 simp only [if_true]
 refine wpAny_bind (wpAny_rule ?_)
 refine wpAny_bind (wpAny_field hz rfl (x := .ref TO) rfl ?_)
 refine wpAny_bind (wpAny_setField_rec hz (by simp) fun h₁ hz₁ hs₁ => ?_)
 replace hz₁ : IsZip h₁ z TI TO .ellipsis := hz₁
 refine wpAny_bind ?_
 simp only [List.zipIdx_cons, List.zipIdx_nil, List.forIn_cons, List.forIn_nil]
 refine wpAny_bind (wpAny_bind (wpAny_onRaise ?_))
 show wpAny _ _ (Builtin.SmallTypes.nextOf (.ref i1) >>= _) _ _ _
 cases hx : xs[k1]? with
 | none =>
   refine wpAny_bind (nextB_end hh (h1.extBut hs₁.extBut D.i1z) (hl1.extBut hs₁.extBut D.l1z) hx fun h₂ e hs₂ he => ?_)
   obtain ⟨oe, hoe, hce⟩ := he
   have hz₂ : IsZip h₂ z TI TO .ellipsis := hs₂ _ _ D.i1z.symm hz₁
   have hez : e ≠ z := fun x => by subst x; rw [hz₂] at hoe; cases hoe; simp at hce
   refine wpAny_setField_rec hz₂ (by simp) fun h₃ _ hs₃ => hE h₃ e (fun c o c1 _ c3 _ x => hs₃.extBut _ _ c1 (hs₂ _ _ c3 (hs₁.extBut _ _ c1 x))) ⟨oe, hs₃.extBut _ _ hez hoe, hce⟩
 | some x =>
   have hy : ys[k2]? = none := by rcases hend with h | h; rw [hx] at h; cases h; exact h
   refine wpAny_bind (nextB_item (h1.extBut hs₁.extBut D.i1z) (hl1.extBut hs₁.extBut D.l1z) hx fun h₂ h1₂ hs₂ => wpAny_pure ?_)
   have hTO₂ : IsPair h₂ TO a b := hs₂.extBut _ _ D.TOi1 (hs₁.extBut _ _ D.TOz hTO)
   refine wpAny_bind (wpAny_seqItems hTO₂ rfl ?_)
   refine wpAny_bind (wpAny_updateSeq_pair hTO₂ fun h₃ hTO₃ hs₃ => ?_)
   refine wpAny_bind (wpAny_letGo (wpAny_pure ?_))
   refine wpAny_bind (wpAny_bind (wpAny_onRaise ?_))
   show wpAny _ _ (Builtin.SmallTypes.nextOf (.ref i2) >>= _) _ _ _
   refine wpAny_bind (nextB_end hh (((h2.extBut hs₁.extBut D.i2z).extBut hs₂.extBut D.i12.symm).extBut hs₃.extBut D.TOi2.symm)
    (((hl2.extBut hs₁.extBut D.l2z).extBut hs₂.extBut D.l2i1).extBut hs₃.extBut D.l2TO) hy fun h₄ e hs₄ he => ?_)
   obtain ⟨oe, hoe, hce⟩ := he
   have hz₄ : IsZip h₄ z TI TO .ellipsis := hs₄ _ _ D.i2z.symm (hs₃.extBut _ _ D.TOz.symm (hs₂.extBut _ _ D.i1z.symm hz₁))
   have hez : e ≠ z := fun x => by subst x; rw [hz₄] at hoe; cases hoe; simp at hce
   refine wpAny_setField_rec hz₄ (by simp) fun h₅ _ hs₅ => hE h₅ e (fun c o c1 c2 c3 c4 x => hs₅.extBut _ _ c1 (hs₄ _ _ c4 (hs₃.extBut _ _ c2 (hs₂.extBut _ _ c3 (hs₁.extBut _ _ c1 x))))) ⟨oe, hs₅.extBut _ _ hez hoe, hce⟩
end
def ItZ (c1 c2 : Bool) (K : PySem.W.Frag) (a1 a2 : Addr) : It :=
 ⟨fun i H => ∃ xs ys x y, SqB c1 K H a1 xs ∧ SqB c2 K H a2 ys ∧ xs[i]? = some x ∧ ys[i]? = some y,
  fun i H v H' => ∃ p x y, (∀ xs, SqB c1 K H a1 xs → xs[i]? = some x) ∧ (∀ ys, SqB c2 K H a2 ys → ys[i]? = some y) ∧ H p = none ∧ v = .ref p ∧ H' = upd H p (.tup [x, y]),
  fun i H => ∃ xs ys, SqB c1 K H a1 xs ∧ SqB c2 K H a2 ys ∧ (xs.length ≤ i ∨ ys.length ≤ i)⟩
theorem turn_zip {P : Program} {w : World} {K : PySem.W.Frag} {elts : List Expr} {k : Nat} {pos : Pos} (c1 c2 : Bool) (z TI TO i1 i2 l1 l2 : Addr) (D : ZipApart z TI TO i1 i2 l1 l2) :
 Turn P w K (.Tuple elts k pos) (ItZ c1 c2 K l1 l2) [z, TI, TO, i1, i2] z (fun i h => IsZip h z TI TO .none ∧ IsPair h TI (.ref i1) (.ref i2) ∧ (∃ a b, IsPair h TO a b) ∧ ItB c1 h i1 l1 i ∧ ItB c2 h i2 l2 i) where
 mem := by simp
 obj := fun i h st c hc => by
  obtain ⟨hz, hTI, ⟨a, b, hTO⟩, h1, h2⟩ := st
  simp only [List.mem_cons, List.not_mem_nil, or_false] at hc
  rcases hc with rfl | rfl | rfl | rfl | rfl
  ·exact ⟨_, hz, fun v q => by cases q⟩
  ·exact ⟨_, hTI, fun v q => by cases q⟩
  ·exact ⟨_, hTO, fun v q => by cases q⟩
  ·exact h1.obj
  ·exact h2.obj
 keep := fun i h h' st kk => by
  obtain ⟨hz, hTI, ⟨a, b, hTO⟩, h1, h2⟩ := st
  exact ⟨kk z (by simp) _ hz, kk TI (by simp) _ hTI, ⟨a, b, kk TO (by simp) _ hTO⟩, h1.at fun o e => kk i1 (by simp) o e, h2.at fun o e => kk i2 (by simp) o e⟩
 item := by
  intro X hP hw hK hc i pins s σ H E I hf st hg
  subst hP hw hK
  obtain ⟨hz, hTI, ⟨a, b, hTO⟩, h1, h2⟩ := st
  obtain ⟨xs, ys, x, y, hq1, hq2, hx, hy⟩ := hg
  obtain ⟨its1, rv1, p1, _⟩ := seB I hq1
  obtain ⟨its2, rv2, p2, _⟩ := seB I hq2
  obtain ⟨u1, hu1, ru1⟩ := rv1.get hx
  obtain ⟨u2, hu2, ru2⟩ := rv2.get hy
  have hT : s.TypeIs (.ref z) "zip" := ⟨_, hz, rfl⟩
  unfold pyNext
  refine wpAny_bind (wpAny_attempt (wpAny_callSpecial?_slot (name := Str.ofString "__next__") hT F.slot_zip_next (wpAny_call_entry F.slot_zip_next hT F.entry_zip_next
   (zipB_item D hz hTI hTO h1 h2 p1 p2 (x := u1) (y := u2) (by simpa using hu1) (by simpa using hu2) fun h' a1 a2 a3 a4 a5 a6 hk => wpAny_pure ?_) (F.args_zip_next_1 _))))
  refine ⟨_, rfl, wpAny_letOwnedTupleGo_zip a1 fun h'' hz'' hs'' => ?_⟩
  have lt : ∀ {c o}, s.heap.get? c = some o → c < s.heap.objs.size := fun e => Heap.lt_size e
  have i1lt : i1 < s.heap.objs.size := by obtain ⟨_, e, _⟩ := h1.obj; exact lt e
  have i2lt : i2 < s.heap.objs.size := by obtain ⟨_, e, _⟩ := h2.obj; exact lt e
  have hTI' : IsPair h' TI (.ref i1) (.ref i2) := hk _ _ D.TIz D.TITO D.TIi1 D.TIi2 hTI
  have up : ∀ c o, c ≠ z → h'.get? c = some o → h''.get? c = some o := fun c o hc e => (hs''.2 c hc).trans e
  have hT'' : h''.get? s.heap.objs.size = some { cls := .type "tuple", data := .seq #[u1, u2] } := up _ _ (Nat.ne_of_gt (lt hz)) a5
  have st'' : IsZip h'' z TI TO .none ∧ IsPair h'' TI (.ref i1) (.ref i2) ∧ (∃ a b, IsPair h'' TO a b) ∧ ItB c1 h'' i1 l1 (i + 1) ∧ ItB c2 h'' i2 l2 (i + 1) :=
   ⟨hz'', up _ _ D.TIz hTI', ⟨u1, u2, up _ _ D.TOz a2⟩, a3.at fun o e => up _ o D.i1z e, a4.at fun o e => up _ o D.i2z e⟩
  refine ⟨.ref s.heap.objs.size, upd H s.heap.objs.size (.tup [x, y]), ?_, rfl, ⟨_, x, y, fun zs hy => by rw [seB_inj I hy hq1]; exact hx, fun zs hy' => by rw [seB_inj I hy' hq2]; exact hy, I.fresh, rfl, rfl⟩, st'', fun c hc => ?_⟩
  ·refine Inv_turnedNew (s := s) (t' := s.toks) (ch := [z, TI, TO, i1, i2]) I hf (fun c o hcn q => ?_) (fun c hc => ?_) (Nat.le_refl _) ⟨sq_small2, [u1, u2], .cons ru1 (.cons ru2 .nil), ⟨_, hT'', rfl, _, rfl⟩⟩
   ·have n1 : c ≠ z := fun e => hcn (by simp [e])
    exact up c o n1 (hk c o n1 (fun e => hcn (by simp [e])) (fun e => hcn (by simp [e])) (fun e => hcn (by simp [e])) q)
   ·obtain ⟨z1, z2, ⟨_, _, z3⟩, z4, z5⟩ := st''
    simp only [List.mem_cons, List.not_mem_nil, or_false] at hc
    rcases hc with rfl | rfl | rfl | rfl | rfl
    ·exact ⟨_, z1⟩
    ·exact ⟨_, z2⟩
    ·exact ⟨_, z3⟩
    ·obtain ⟨o, e, _⟩ := z4.obj; exact ⟨o, e⟩
    ·obtain ⟨o, e, _⟩ := z5.obj; exact ⟨o, e⟩
  ·have hlt : c < s.heap.objs.size := by
    simp only [List.mem_cons, List.not_mem_nil, or_false] at hc
    rcases hc with rfl | rfl | rfl | rfl | rfl
    ·exact lt hz
    ·exact lt hTI
    ·exact lt hTO
    ·exact i1lt
    ·exact i2lt
   rw [upd_ne (Nat.ne_of_lt hlt)]
   exact (hf c hc).1
 done := by
  intro X hP hw hK hc i pins s σ H E I hf st hg
  subst hP hw hK
  obtain ⟨hz, hTI, ⟨a, b, hTO⟩, h1, h2⟩ := st
  obtain ⟨xs, ys, hq1, hq2, hend⟩ := hg
  obtain ⟨its1, rv1, p1, _⟩ := seB I hq1
  obtain ⟨its2, rv2, p2, _⟩ := seB I hq2
  have e1 := rv1.length
  have e2 := rv2.length
  have hh := I.ok.hd hc
  have hT : s.TypeIs (.ref z) "zip" := ⟨_, hz, rfl⟩
  unfold pyNext
  refine wpAny_bind (wpAny_attempt (wpAny_callSpecial?_slot (name := Str.ofString "__next__") hT F.slot_zip_next (wpAny_call_entry F.slot_zip_next hT F.entry_zip_next
   (zipB_end (A := X.A.in1) hh D hz hTI hTO h1 h2 p1 p2 (by simp only [List.getElem?_toArray]; rcases hend with q | q; exact .inl (List.getElem?_eq_none (by omega)); exact .inr (List.getElem?_eq_none (by omega))) fun h' e hk he => ?_) (F.args_zip_next_1 _))))
  obtain ⟨o, ho, hcl⟩ := he
  refine wpAny_bind (wpAny_isInstance (T := "StopIteration") (b := true) ⟨o, ho, hcl⟩ isSubtype_stop ?_)
  refine wpAny_pure ⟨rfl, ?_⟩
  refine I.step (g' := s.gens) (d' := s.drawn) (t' := s.toks) (H' := H) (ch := [z, TO, i1, i2]) (fun b hb => ?_) (fun b u _ _ hcn e _ => hk b u (fun q => hcn (by simp [q])) (fun q => hcn (by simp [q])) (fun q => hcn (by simp [q])) (fun q => hcn (by simp [q])) e)
   (fun b u _ _ hcn e _ => ⟨u.slots, hk b u (fun q => hcn (by simp [q])) (fun q => hcn (by simp [q])) (fun q => hcn (by simp [q])) (fun q => hcn (by simp [q])) e⟩) (fun _ _ _ _ n => n)
   (fun b u hcn e => ⟨u, hk b u (fun q => hcn (by simp [q])) (fun q => hcn (by simp [q])) (fun q => hcn (by simp [q])) (fun q => hcn (by simp [q])) e⟩) (fun _ _ e => e) (fun _ _ _ e => e) (fun b ps e => ⟨#[], by rw [e]; simp⟩) (fun m hm => ?_) (fun b u e => ?_) I.bare
  ·have hb' : b ∈ [z, TI, TO, i1, i2] := by
    simp only [List.mem_cons, List.not_mem_nil, or_false] at hb ⊢
    rcases hb with q | q | q | q <;> simp [q]
   exact ⟨(hf b hb').2.2.2.1, (hf b hb').2.1, (hf b hb').2.2.2.2.1, (hf b hb').2.2.2.2.2⟩
  ·obtain ⟨ob, es, ep, ho, r⟩ := hm
   exact ⟨ob, es, ep, hk _ ob (fun q => (hf z (by simp)).2.1 q.symm) (fun q => (hf TO (by simp)).2.1 q.symm) (fun q => (hf i1 (by simp)).2.1 q.symm) (fun q => (hf i2 (by simp)).2.1 q.symm) ho, r⟩
  ·refine (I.hok b u e).stay (fun c v hcc q => ?_) (fun _ q => q) fun _ _ q => q
   have nf : ∀ d ∈ [z, TI, TO, i1, i2], c ≠ d := fun d hd z => by
    subst z
    rcases hcc with q | q
    ·rw [← q, (hf _ hd).1] at e; cases e
    ·rw [(hf _ hd).1] at q; cases q
   exact hk c v (nf z (by simp)) (nf TO (by simp)) (nf i1 (by simp)) (nf i2 (by simp)) q
 self := fun _ _ _ _ _ st h => wpAny_pyIter_zip st.1 h
def itObj (b : Bool) (l : Addr) : Obj := { cls := .type (match b with | true => "list_iterator" | false => "tuple_iterator"), data := .fields #[.ref l, .int 0 0] }
abbrev zB1 (c1 : Bool) (h : Heap) (l1 : Addr) : Heap := h.push (itObj c1 l1)
abbrev zB2 (c1 c2 : Bool) (h : Heap) (l1 l2 : Addr) : Heap := (zB1 c1 h l1).push (itObj c2 l2)
abbrev zB3 (c1 c2 : Bool) (h : Heap) (l1 l2 : Addr) : Heap := (zB2 c1 c2 h l1 l2).push { cls := .type "tuple", data := .seq #[.ref h.objs.size, .ref (zB1 c1 h l1).objs.size] }
abbrev zB4 (c1 c2 : Bool) (h : Heap) (l1 l2 : Addr) : Heap := (zB3 c1 c2 h l1 l2).push { cls := .type "tuple", data := .seq #[.none, .none] }
abbrev zB5 (c1 c2 : Bool) (h : Heap) (l1 l2 : Addr) : Heap := (zB4 c1 c2 h l1 l2).push { cls := .type "zip", data := .fields #[.none, .bool false, .bool false, .ref (zB2 c1 c2 h l1 l2).objs.size, .ref (zB3 c1 c2 h l1 l2).objs.size] }
theorem SeB.push {b : Bool} {h : Heap} {a : Addr} {items : Array Value} (x : SeB b h a items) (o : Obj) : SeB b (h.push o) a items := x.at fun _ e => Heap.get?_push_of_some _ e
theorem meets_zipB (c1 c2 : Bool) (l1 l2 : Addr) (xs ys : Array Value) :
 Meets (Builtin.«zip.__new__» ⟨[.type "zip", .ref l1, .ref l2], []⟩) (fun _ R s => SeB c1 s.heap l1 xs ∧ SeB c2 s.heap l2 ys ∧
  R (.ok (.ret (.ref (zB4 c1 c2 s.heap l1 l2).objs.size))) { s with heap := zB5 c1 c2 s.heap l1 l2 }) :=
 .of_wp fun prog w A R s h => by
  obtain ⟨hp, g, d, tk, os⟩ := s; obtain ⟨hl1, hl2, h⟩ := h
  have hsub := sub_zip
  cases c1 with
  | true =>
    have hL1 : Heap.IsList (Shared.heap ⟨hp, g, d, tk, os⟩) l1 xs := hl1
    cases c2 with
    | true =>
      have hL2 : Heap.IsList (Shared.heap ⟨hp.push { cls := .type "list_iterator", data := .fields #[.ref l1, .int 0 0] }, g, d, tk, os⟩) l2 ys := SeB.push (b := true) hl2 _
      wp_walk using wpAny_pyIter_list hL1, wpAny_pyIter_list hL2
      exact ⟨_, rfl, h⟩
    | false =>
      have hL2 : Heap.IsTuple (Shared.heap ⟨hp.push { cls := .type "list_iterator", data := .fields #[.ref l1, .int 0 0] }, g, d, tk, os⟩) l2 ys := SeB.push (b := false) hl2 _
      wp_walk using wpAny_pyIter_list hL1, wpAny_pyIter_tuple hL2
      exact ⟨_, rfl, h⟩
  | false =>
    have hL1 : Heap.IsTuple (Shared.heap ⟨hp, g, d, tk, os⟩) l1 xs := hl1
    cases c2 with
    | true =>
      have hL2 : Heap.IsList (Shared.heap ⟨hp.push { cls := .type "tuple_iterator", data := .fields #[.ref l1, .int 0 0] }, g, d, tk, os⟩) l2 ys := SeB.push (b := true) hl2 _
      wp_walk using wpAny_pyIter_tuple hL1, wpAny_pyIter_list hL2
      exact ⟨_, rfl, h⟩
    | false =>
      have hL2 : Heap.IsTuple (Shared.heap ⟨hp.push { cls := .type "tuple_iterator", data := .fields #[.ref l1, .int 0 0] }, g, d, tk, os⟩) l2 ys := SeB.push (b := false) hl2 _
      wp_walk using wpAny_pyIter_tuple hL1, wpAny_pyIter_tuple hL2
      exact ⟨_, rfl, h⟩
theorem itObj_at {b : Bool} {h : Heap} {it l : Addr} (e : h.get? it = some (itObj b l)) : ItB b h it l 0 := by
 cases b with
 | true => exact ⟨_, e, rfl, rfl⟩
 | false => exact ⟨_, e, rfl, rfl⟩
theorem itObj_free (b : Bool) (l : Addr) : (itObj b l).isFreed = false := by cases b <;> rfl
theorem call_zipB {prog : Program} {w : World} {A : Around} {E : Value → Shared → Prop} {s : Shared} {c1 c2 : Bool} {l1 l2 : Addr} {xs ys : Array Value} {Q : Value → Shared → Prop} (hl1 : SeB c1 s.heap l1 xs) (hl2 : SeB c2 s.heap l2 ys)
 (h : ∀ h', IsZip h' (s.heap.objs.size + 4) (s.heap.objs.size + 2) (s.heap.objs.size + 3) .none → IsPair h' (s.heap.objs.size + 2) (.ref s.heap.objs.size) (.ref (s.heap.objs.size + 1)) →
  IsPair h' (s.heap.objs.size + 3) .none .none → ItB c1 h' s.heap.objs.size l1 0 → ItB c2 h' (s.heap.objs.size + 1) l2 0 →
  (∀ c o, s.heap.get? c = some o → h'.get? c = some o) → Q (.ref (s.heap.objs.size + 4)) { s with heap := h' }) :
 wpAny (model prog w) A (call (.type "zip") [.ref l1, .ref l2]) Q E s := by
 refine callType_new F.called_zip (by decide) (F.typeCall_zip_2 _ _) (F.newCall_zip_2 _ _) (fun obj => F.args_object_init_3 obj _ _) F.entry_zip_new
  (meets_zipB c1 c2 l1 l2 xs ys) ⟨hl1, hl2, ?_⟩
 have z1 : (zB1 c1 s.heap l1).objs.size = s.heap.objs.size + 1 := Heap.size_push ..
 have z2 : (zB2 c1 c2 s.heap l1 l2).objs.size = s.heap.objs.size + 2 := by rw [Heap.size_push, z1]
 have z3 : (zB3 c1 c2 s.heap l1 l2).objs.size = s.heap.objs.size + 3 := by rw [Heap.size_push, z2]
 have z4 : (zB4 c1 c2 s.heap l1 l2).objs.size = s.heap.objs.size + 4 := by rw [Heap.size_push, z3]
 have g5 : (zB5 c1 c2 s.heap l1 l2).get? (zB4 c1 c2 s.heap l1 l2).objs.size = some _ := Heap.get?_push_size _ rfl
 have g4 : (zB5 c1 c2 s.heap l1 l2).get? (zB3 c1 c2 s.heap l1 l2).objs.size = some _ := Heap.get?_push_of_some _ (Heap.get?_push_size _ rfl)
 have g3 : (zB5 c1 c2 s.heap l1 l2).get? (zB2 c1 c2 s.heap l1 l2).objs.size = some _ := Heap.get?_push_of_some _ (Heap.get?_push_of_some _ (Heap.get?_push_size _ rfl))
 have g2 : (zB5 c1 c2 s.heap l1 l2).get? (zB1 c1 s.heap l1).objs.size = some _ := Heap.get?_push_of_some _ (Heap.get?_push_of_some _ (Heap.get?_push_of_some _ (Heap.get?_push_size _ (itObj_free c2 l2))))
 have g1 : (zB5 c1 c2 s.heap l1 l2).get? s.heap.objs.size = some _ := Heap.get?_push_of_some _ (Heap.get?_push_of_some _ (Heap.get?_push_of_some _ (Heap.get?_push_of_some _ (Heap.get?_push_size _ (itObj_free c1 l1)))))
 show _ ∧ _
 rw [z2, z3, z4] at g5
 rw [z1, z2] at g3
 rw [z3] at g4
 rw [z1] at g2
 rw [z4]
 exact ⟨⟨_, g5, rfl⟩, h _ g5 g3 g4 (itObj_at g1) (itObj_at g2) fun c o x => Heap.get?_push_of_some _ (Heap.get?_push_of_some _ (Heap.get?_push_of_some _ (Heap.get?_push_of_some _ (Heap.get?_push_of_some _ x))))⟩
section
variable {X : Cx}
def iZip (c1 c2 : Bool) (K : PySem.W.Frag) (ta : TA) : TI := fun σ H R => ta σ H fun vs H1 => ∃ a1 a2, vs = [.ref a1, .ref a2] ∧ (∃ xs, SqB c1 K H1 a1 xs) ∧ (∃ ys, SqB c2 K H1 a2 ys) ∧ R (ItZ c1 c2 K a1 a2) H1
theorem pi_zip (c1 c2 : Bool) {elts : List Expr} {k : Nat} {tpos : Pos} {a b : Expr} {ta : TA} {p pos : Pos} (hg : Gl X "zip") (hm : X.mg "zip" = none) (ha : PA X [a, b] ta) (hs : starEach [a, b] X.env = [(false, eval a X.env), (false, eval b X.env)] := by rfl) (hs2 : starEach [b] X.env = [(false, eval b X.env)] := by rfl) :
 PI X (.Tuple elts k tpos) (.Call (.Name "zip" p) [a, b] [] pos) (iZip c1 c2 X.K ta) := by
 intro pins s σ H R I h
 refine Call_ (ld_blt I hg hm bt_zip (PyProof.Rows.callWith_type1 (thn (ha pos pins s σ H _ I h) fun us s1 ⟨vs, H1, I1, r1, q1⟩ => ?_) (by rw [hs, hs2]) (by rw [hs2]; rfl)))
 obtain ⟨l1, l2, e, ⟨xs, hq1⟩, ⟨ys, hq2⟩, q⟩ := q1
 subst e
 obtain ⟨u1, u2, rfl, ru1, ru2⟩ := vals2 r1
 cases (show u1 = Value.ref l1 from ru1)
 cases (show u2 = Value.ref l2 from ru2)
 obtain ⟨its1, rv1, p1, _⟩ := seB I1 hq1
 obtain ⟨its2, rv2, p2, _⟩ := seB I1 hq2
 have lt1 : l1 < s1.heap.objs.size := by obtain ⟨o, z⟩ := p1.obj; exact Heap.lt_size z
 have lt2 : l2 < s1.heap.objs.size := by obtain ⟨o, z⟩ := p2.obj; exact Heap.lt_size z
 refine call_zipB p1 p2 fun h' a1 a2 a3 a4 a5 hk => wpAny_pyIter_zip a1 ?_
 have I2 : Inv X pins σ H1 { s1 with heap := h' } := I1.kept (t' := s1.toks) hk
 refine ⟨s1.heap.objs.size + 4, [s1.heap.objs.size + 4, s1.heap.objs.size + 2, s1.heap.objs.size + 3, s1.heap.objs.size, s1.heap.objs.size + 1], _, _, H1, rfl, I2, turn_zip c1 c2 _ _ _ _ _ l1 l2 (zipApart_new lt1 lt2), ⟨a1, a2, ⟨_, _, a3⟩, a4, a5⟩, fun c hc => ?_, q⟩
 have hle : s1.heap.objs.size ≤ c := by
  simp only [List.mem_cons, List.not_mem_nil, or_false] at hc
  rcases hc with z | z | z | z | z <;> rw [z] <;> first | exact Nat.le_add_right _ _ | exact Nat.le_refl _
 exact I1.fpOk hle (I1.hok.fresh hle)
end
end S
namespace S
open PySem PySem.Spec PyProof.Rows L2
theorem atI_of {α : Type} {xs : List α} {k : Int} {v : α} (h0 : 0 ≤ k) (h : xs[k.toNat]? = some v) : atI xs k = some v := by
 have ek : k = ((k.toNat : Nat) : Int) := by omega
 rw [ek]
 exact atI_nat h
end S
namespace S
open PySem PySem.Spec PyProof.Rows L2
abbrev Corner := Rat × List Rat
section
variable {H H' : Hp} {qs : List Rat} {c : Corner} {cs : List Corner} {v : V} {vs : List V} {l : Addr} {xs : List V} {o : HO}
end
def partsD (qs : List Rat) : PyData := .tuple (qs.map frD)
def cornD (c : Corner) : PyData := .tuple [frD c.1, partsD c.2]
def pathD (cs : List Corner) : PyData := .list (cs.map cornD)
theorem isAll_of {H : Hp} {α : Type} {R : α → V → Prop} {f : α → PyData} (hR : ∀ a v, R a v → Is H (f a) v) : ∀ {xs : List α} {vs : List V}, xs.length = vs.length → (∀ (i : Nat) (x : α) (v : V), xs[i]? = some x → vs[i]? = some v → R x v) → IsAll H (xs.map f) vs
 | [], [], _, _ => by rw [List.map_nil, IsAll]
 | [], _ :: _, h, _ => by simp at h
 | _ :: _, [], h, _ => by simp at h
 | x :: xs, v :: vs, hl, h => by
   rw [List.map_cons, IsAll]
   exact ⟨v, vs, rfl, hR x v (h 0 x v rfl rfl), isAll_of hR (by simpa using hl) fun i a b ha hb => h (i + 1) a b (by simpa using ha) (by simpa using hb)⟩
theorem lay_all {α : Type} {f : α → PyData} (h : ∀ a, (f a).canLay0 = true) : ∀ xs : List α, PyData.canLayAll0 (xs.map f) = true
 | [] => rfl
 | x :: xs => by rw [List.map_cons, PyData.canLayAll0, h x, lay_all h xs]; rfl
theorem dep_all {α : Type} {f : α → PyData} {n : Nat} (h : ∀ a, (f a).depth ≤ n) : ∀ xs : List α, PyData.depthAll (xs.map f) ≤ n
 | [] => by rw [List.map_nil, PyData.depthAll]; exact Nat.zero_le _
 | x :: xs => by rw [List.map_cons, PyData.depthAll]; exact Nat.max_le.mpr ⟨h x, dep_all h xs⟩
def straight (c0 c1 c2 : Corner) : Prop := ∀ (i : Nat) (a b c : Rat), c0.2[i]? = some a → c1.2[i]? = some b → c2.2[i]? = some c → (b - a) * (c2.1 - c0.1) = (c - a) * (c1.1 - c0.1)
theorem gap_rat (p q : Rat) : Rat.divInt (q.num * p.den - p.num * q.den) (p.den * q.den) = q - p := by
 rw [Rat.sub_def', Int.mul_comm (p.den : Int), ← Int.natCast_mul, Rat.divInt_ofNat]
theorem cross_iff {rn rd nn nd wn wd fn fd : Int} (h1 : rd ≠ 0) (h2 : nd ≠ 0) (h3 : wd ≠ 0) (h4 : fd ≠ 0) :
 Rat.divInt rn rd * Rat.divInt fn fd = Rat.divInt wn wd * Rat.divInt nn nd ↔ rn * nd * wd * fn = wn * fd * rd * nn := by
 rw [Rat.divInt_mul_divInt, Rat.divInt_mul_divInt, Rat.divInt_eq_divInt_iff (Int.mul_ne_zero h1 h4) (Int.mul_ne_zero h3 h2)]
 have e1 : rn * fn * (wd * nd) = rn * nd * wd * fn := by grind
 have e2 : wn * nn * (rd * fd) = wn * fd * rd * nn := by grind
 rw [e1, e2]
end S
namespace S
open PySem PySem.Spec PyProof.Rows L2
abbrev Cells := List (Addr × List PyData)
abbrev Dat := List (PyData × V)
def AllIs (G : Hp) (ds : Dat) : Prop := ∀ p ∈ ds, Is G p.1 p.2
def Has (ds : Dat) (x : PyData) (v : V) : Prop := ∀ G, AllIs G ds → Is G x v
def HasAll (ds : Dat) (xs : List PyData) (vs : List V) : Prop := ∀ G, AllIs G ds → IsAll G xs vs
def StaG (B G0 H : Hp) (cs : Cells) (ds : Dat) (G : Hp) : Prop :=
 Same G0 G ∧ Same G H ∧ Same B H ∧ (∀ p, B p ≠ none → G p = G0 p) ∧ (∀ c ∈ cs, B c.1 = none ∧ G c.1 = none ∧ ∃ vs, H c.1 = some (.lst vs) ∧ IsAll G c.2 vs) ∧ (cs.map (·.1)).Nodup ∧ AllIs G ds
def Sta (B G0 H : Hp) (cs : Cells) (ds : Dat) : Prop := ∃ G, StaG B G0 H cs ds G
structure Grow (G H G' H' : Hp) : Prop where
 h : Same H H'
 g : Same G G'
 sub : Same G' H'
 old : ∀ p, H p ≠ none → G' p = G p
theorem AllIs.mono {G G' : Hp} {ds : Dat} (h : AllIs G ds) (e : Same G G') : AllIs G' ds := fun p hp => Is.mono e _ _ (h p hp)
theorem AllIs.cons {G : Hp} {ds : Dat} {x : PyData} {v : V} (h : AllIs G ds) (g : Is G x v) : AllIs G ((x, v) :: ds) := fun p hp => by
 rcases List.mem_cons.mp hp with rfl | hp
 ·exact g
 ·exact h p hp
theorem Has.int {ds : Dat} {i : Int} : Has ds (.int i) (.int i) := fun _ _ => by rw [Is]
theorem Has.str {ds : Dat} {i : Str} : Has ds (.str i) (.str i) := fun _ _ => by rw [Is]
theorem Has.mem {ds : Dat} {x : PyData} {v : V} (h : (x, v) ∈ ds) : Has ds x v := fun _ a => a _ h
theorem Has.weak {ds ds' : Dat} {x : PyData} {v : V} (h : Has ds x v) (k : ∀ p ∈ ds, Has ds' p.1 p.2) : Has ds' x v := fun G a => h G fun p hp => k p hp G a
theorem Has.tail {ds : Dat} {x : PyData} {v : V} {p : PyData × V} (h : Has ds x v) : Has (p :: ds) x v := h.weak fun q hq => .mem (List.mem_cons_of_mem _ hq)
theorem HasAll.nil {ds : Dat} : HasAll ds [] [] := fun _ _ => by rw [IsAll]
theorem HasAll.cons {ds : Dat} {x : PyData} {v : V} {xs : List PyData} {vs : List V} (h : Has ds x v) (g : HasAll ds xs vs) : HasAll ds (x :: xs) (v :: vs) := fun G a => by
 rw [IsAll]; exact ⟨v, vs, rfl, h G a, g G a⟩
theorem IsAll.len {H : Hp} : ∀ {xs : List PyData} {vs : List V}, IsAll H xs vs → xs.length = vs.length
 | [], vs, h => by rw [IsAll] at h; subst h; rfl
 | x :: xs, vs, h => by
   rw [IsAll] at h
   obtain ⟨v, r, rfl, _, g⟩ := h
   rw [List.length_cons, List.length_cons, IsAll.len g]
theorem IsAll.at {H : Hp} : ∀ {xs : List PyData} {vs : List V} {i : Nat} {x : PyData}, IsAll H xs vs → xs[i]? = some x → ∃ v, vs[i]? = some v ∧ Is H x v
 | [], _, _, _, _, e => by simp at e
 | y :: xs, vs, i, x, h, e => by
   rw [IsAll] at h
   obtain ⟨v, r, rfl, h1, g⟩ := h
   cases i with
   | zero => simp at e; subst e; exact ⟨v, rfl, h1⟩
   | succ i => simpa using IsAll.at g (by simpa using e)
theorem IsAll.app {H : Hp} : ∀ {xs ys : List PyData} {vs ws : List V}, IsAll H xs vs → IsAll H ys ws → IsAll H (xs ++ ys) (vs ++ ws)
 | [], ys, vs, ws, h, g => by rw [IsAll] at h; subst h; exact g
 | x :: xs, ys, vs, ws, h, g => by
   rw [IsAll] at h
   obtain ⟨v, r, rfl, h1, h2⟩ := h
   rw [List.cons_append, List.cons_append, IsAll]
   exact ⟨v, _, rfl, h1, IsAll.app h2 g⟩
theorem isAll_iff {H : Hp} {xs : List PyData} {vs : List V} : IsAll H xs vs ↔ xs.length = vs.length ∧ ∀ (i : Nat) (x : PyData) (v : V), xs[i]? = some x → vs[i]? = some v → Is H x v := by
 constructor
 ·intro h
  refine ⟨h.len, fun i x v hx hv => ?_⟩
  obtain ⟨w, hw, g⟩ := h.at hx
  rw [hv] at hw; cases hw; exact g
 ·rintro ⟨h1, h2⟩
  have := isAll_of (R := fun (a : PyData) v => Is H a v) (f := id) (fun _ _ z => z) h1 h2
  simpa using this
theorem IsAll.take {H : Hp} {xs : List PyData} {vs : List V} (h : IsAll H xs vs) (n : Nat) : IsAll H (xs.take n) (vs.take n) := by
 rw [isAll_iff] at h ⊢
 refine ⟨by rw [List.length_take, List.length_take, h.1], fun i x v hx hv => ?_⟩
 rw [List.getElem?_take] at hx hv
 split at hx
 ·rename_i c; rw [if_pos c] at hv; exact h.2 i x v hx hv
 ·cases hx
theorem IsAll.drop {H : Hp} {xs : List PyData} {vs : List V} (h : IsAll H xs vs) (n : Nat) : IsAll H (xs.drop n) (vs.drop n) := by
 rw [isAll_iff] at h ⊢
 refine ⟨by rw [List.length_drop, List.length_drop, h.1], fun i x v hx hv => ?_⟩
 rw [List.getElem?_drop] at hx hv
 exact h.2 _ x v hx hv
section
variable {B G0 H H' : Hp} {cs cs' : Cells} {ds ds' : Dat} {x y : PyData} {v w : V} {xs ys : List PyData} {vs : List V} {D : Addr} {p : Addr}
theorem Sta.enter {G : Hp} (e : Same G H) (h : AllIs G ds) : Sta H G H [] ds :=
 ⟨G, Same.refl _, e, Same.refl _, fun _ _ => rfl, fun c hc => absurd hc (List.not_mem_nil), List.nodup_nil, h⟩
theorem Sta.base (S : Sta B G0 H cs ds) : Same B H := let ⟨_, _, _, b, _⟩ := S; b
theorem Sta.push (S : Sta B G0 H cs ds) (h : Has ds x v) : Sta B G0 H cs ((x, v) :: ds) :=
 let ⟨G, a, b, c, d, e, f, g⟩ := S; ⟨G, a, b, c, d, e, f, g.cons (h G g)⟩
theorem Sta.weak (S : Sta B G0 H cs ds) (hc : cs'.Sublist cs) (hd : ∀ p ∈ ds', Has ds p.1 p.2) : Sta B G0 H cs' ds' :=
 let ⟨G, a, b, c, d, e, f, g⟩ := S; ⟨G, a, b, c, d, fun q hq => e q (hc.subset hq), f.sublist (hc.map _), fun p hp => hd p hp G g⟩
theorem Sta.dat (S : Sta B G0 H cs ds) (hd : ∀ p ∈ ds', Has ds p.1 p.2) : Sta B G0 H cs ds' := S.weak (List.Sublist.refl _) hd
theorem Sta.drop1 {q : PyData × V} (S : Sta B G0 H cs (q :: ds)) : Sta B G0 H cs ds := S.dat fun p hp => .mem (List.mem_cons_of_mem _ hp)
theorem Sta.dropC {q : Addr × List PyData} (S : Sta B G0 H (q :: cs) ds) : Sta B G0 H cs ds := S.weak (List.sublist_cons_self _ _) fun p hp => .mem hp
theorem Sta.same (S : Sta B G0 H cs ds) (h : Same H H') : Sta B G0 H' cs ds :=
 let ⟨G, a, b, c, d, e, f, g⟩ := S; ⟨G, a, b.trans h, c.trans h, d, fun q hq => let ⟨x, y, vs, z, u⟩ := e q hq; ⟨x, y, vs, h _ _ z, u⟩, f, g⟩
theorem StaG.grow {G G' : Hp} (S : StaG B G0 H cs ds G) (h : Grow G H G' H') : StaG B G0 H' cs ds G' := by
 obtain ⟨a, b, c, d, e, f, g⟩ := S
 refine ⟨a.trans h.g, h.sub, c.trans h.h, fun p hp => ?_, fun q hq => ?_, f, g.mono h.g⟩
 ·rw [h.old p fun z => ?_, d p hp]
  cases hb : B p with
  | none => exact hp hb
  | some o => rw [c _ _ hb] at z; cases z
 ·obtain ⟨x, y, vs, z, u⟩ := e q hq
  exact ⟨x, by rw [h.old q.1 (by rw [z]; simp)]; exact y, vs, h.h _ _ z, IsAll.mono h.g _ _ u⟩
theorem Sta.leave {G : Hp} (S : Sta H G H' cs ds) : ∃ G', Grow G H G' H' ∧ AllIs G' ds :=
 let ⟨G', a, b, c, d, _, _, g⟩ := S; ⟨G', ⟨c, a, b, d⟩, g⟩
theorem Sta.newT (S : Sta B G0 H cs ds) (hp : H p = none) (h : HasAll ds xs vs) : Sta B G0 (upd H p (.tup vs)) cs ((.tuple xs, .ref p) :: ds) := by
 obtain ⟨G, a, b, c, d, e, f, g⟩ := S
 have hG : G p = none := b.free hp
 have eG := Same.new hG (.tup vs)
 refine ⟨upd G p (.tup vs), a.trans eG, fun q o hq => ?_, c.trans (Same.new hp _), fun q hq => ?_, fun q hq => ?_, f, (g.mono eG).cons ?_⟩
 ·by_cases hqp : q = p
  ·subst hqp; rw [upd_same] at hq ⊢; exact hq
  ·rw [upd_ne hqp] at hq ⊢; exact b _ _ hq
 ·have hqp : q ≠ p := fun z => by subst z; exact hq (c.free hp)
  rw [upd_ne hqp]; exact d q hq
 ·obtain ⟨x, y, ws, z, u⟩ := e q hq
  have hqp : q.1 ≠ p := ne_of_none z hp
  exact ⟨x, by rw [upd_ne hqp]; exact y, ws, by rw [upd_ne hqp]; exact z, IsAll.mono eG _ _ u⟩
 ·rw [Is]
  exact ⟨p, vs, rfl, upd_same, IsAll.mono eG _ _ (h G g)⟩
theorem Sta.newL (S : Sta B G0 H cs ds) (hp : H p = none) (h : HasAll ds xs vs) : Sta B G0 (upd H p (.lst vs)) ((p, xs) :: cs) ds := by
 obtain ⟨G, a, b, c, d, e, f, g⟩ := S
 have hG : G p = none := b.free hp
 refine ⟨G, a, b.trans (Same.new hp _), c.trans (Same.new hp _), d, fun q hq => ?_, ?_, g⟩
 ·rcases List.mem_cons.mp hq with rfl | hq
  ·exact ⟨c.free hp, hG, vs, upd_same, h G g⟩
  ·obtain ⟨x, y, ws, z, u⟩ := e q hq
   have hqp : q.1 ≠ p := ne_of_none z hp
   exact ⟨x, y, ws, by rw [upd_ne hqp]; exact z, u⟩
 ·rw [List.map_cons, List.nodup_cons]
  refine ⟨fun z => ?_, f⟩
  obtain ⟨q, hq, hqp⟩ := List.mem_map.mp z
  obtain ⟨_, _, ws, z, _⟩ := e q hq
  rw [hqp, hp] at z; cases z
theorem Sta.freeze (S : Sta B G0 H ((D, xs) :: cs) ds) : Sta B G0 H cs ((.list xs, .ref D) :: ds) := by
 obtain ⟨G, a, b, c, d, e, f, g⟩ := S
 obtain ⟨x, y, vs, z, u⟩ := e _ (List.mem_cons_self ..)
 have eG := Same.new y (.lst vs)
 rw [List.map_cons, List.nodup_cons] at f
 refine ⟨upd G D (.lst vs), a.trans eG, fun q o hq => ?_, c, fun q hq => ?_, fun q hq => ?_, f.2, (g.mono eG).cons ?_⟩
 ·by_cases hqp : q = D
  ·subst hqp; rw [upd_same] at hq; rw [← hq]; exact z
  ·rw [upd_ne hqp] at hq; exact b _ _ hq
 ·have hqp : q ≠ D := fun z => by subst z; exact hq x
  rw [upd_ne hqp]; exact d q hq
 ·obtain ⟨x', y', ws, z', u'⟩ := e q (List.mem_cons_of_mem _ hq)
  have hqp : q.1 ≠ D := fun z => f.1 (List.mem_map.mpr ⟨q, hq, z⟩)
  exact ⟨x', by rw [upd_ne hqp]; exact y', ws, z', IsAll.mono eG _ _ u'⟩
 ·rw [Is]
  exact ⟨D, vs, rfl, upd_same, IsAll.mono eG _ _ u⟩
theorem Sta.cell (S : Sta B G0 H cs ds) (h : (D, xs) ∈ cs) : ∃ vs, H D = some (.lst vs) ∧ xs.length = vs.length ∧ ∀ (i : Nat) (x : PyData), xs[i]? = some x → ∃ v, vs[i]? = some v ∧ Sta B G0 H cs ((x, v) :: ds) := by
 obtain ⟨G, a, b, c, d, e, f, g⟩ := S
 obtain ⟨_, _, vs, z, u⟩ := e _ h
 refine ⟨vs, z, u.len, fun i x hx => ?_⟩
 obtain ⟨v, hv, k⟩ := u.at hx
 exact ⟨v, hv, G, a, b, c, d, e, f, g.cons k⟩
theorem Sta.put (S : Sta B G0 H ((D, xs) :: cs) ds) : ∃ vs, H D = some (.lst vs) ∧ xs.length = vs.length ∧ ∀ ys ws, (∀ G, AllIs G ds → IsAll G xs vs → IsAll G ys ws) → Sta B G0 (upd H D (.lst ws)) ((D, ys) :: cs) ds := by
 obtain ⟨G, a, b, c, d, e, f, g⟩ := S
 obtain ⟨x, y, vs, z, u⟩ := e _ (List.mem_cons_self ..)
 refine ⟨vs, z, u.len, fun ys ws h => ?_⟩
 have key : ∀ {A : Hp}, Same A H → A D = none → Same A (upd H D (.lst ws)) := fun {A} s n q o hq => by
  rw [upd_ne (ne_of_none hq n)]; exact s _ _ hq
 have f' := f
 rw [List.map_cons, List.nodup_cons] at f'
 refine ⟨G, a, key b y, key c x, d, fun q hq => ?_, f, g⟩
 rcases List.mem_cons.mp hq with rfl | hq
 ·exact ⟨x, y, ws, upd_same, h G g u⟩
 ·obtain ⟨x', y', ws', z', u'⟩ := e q (List.mem_cons_of_mem _ hq)
  have hqp : q.1 ≠ D := fun z => f'.1 (List.mem_map.mpr ⟨q, hq, z⟩)
  exact ⟨x', y', ws', by rw [upd_ne hqp]; exact z', u'⟩
theorem Sta.tup (S : Sta B G0 H cs ds) (h : Has ds (.tuple xs) v) : ∃ p vs, v = .ref p ∧ H p = some (.tup vs) ∧ xs.length = vs.length ∧ ∀ (i : Nat) (x : PyData), xs[i]? = some x → ∃ w, vs[i]? = some w ∧ Sta B G0 H cs ((x, w) :: ds) := by
 obtain ⟨G, a, b, c, d, e, f, g⟩ := S
 have q := h G g
 rw [Is] at q
 obtain ⟨p, vs, hv, hp, u⟩ := q
 refine ⟨p, vs, hv, b _ _ hp, u.len, fun i x hx => ?_⟩
 obtain ⟨v, hv, k⟩ := u.at hx
 exact ⟨v, hv, G, a, b, c, d, e, f, g.cons k⟩
theorem Sta.lst (S : Sta B G0 H cs ds) (h : Has ds (.list xs) v) : ∃ p vs, v = .ref p ∧ H p = some (.lst vs) ∧ xs.length = vs.length ∧ ∀ (i : Nat) (x : PyData), xs[i]? = some x → ∃ w, vs[i]? = some w ∧ Sta B G0 H cs ((x, w) :: ds) := by
 obtain ⟨G, a, b, c, d, e, f, g⟩ := S
 have q := h G g
 rw [Is] at q
 obtain ⟨p, vs, hv, hp, u⟩ := q
 refine ⟨p, vs, hv, b _ _ hp, u.len, fun i x hx => ?_⟩
 obtain ⟨v, hv, k⟩ := u.at hx
 exact ⟨v, hv, G, a, b, c, d, e, f, g.cons k⟩
theorem Sta.tupAll (S : Sta B G0 H cs ds) (h : Has ds (.tuple xs) v) : ∃ p vs, v = .ref p ∧ H p = some (.tup vs) ∧ xs.length = vs.length ∧ Sta B G0 H cs (xs.zip vs ++ ds) ∧ ∀ G, AllIs G (xs.zip vs ++ ds) → IsAll G xs vs := by
 obtain ⟨G, a, b, c, d, e, f, g⟩ := S
 have q := h G g
 rw [Is] at q
 obtain ⟨p, vs, hv, hp, u⟩ := q
 refine ⟨p, vs, hv, b _ _ hp, u.len, ⟨G, a, b, c, d, e, f, fun q hq => ?_⟩, fun G' hG => ?_⟩
 ·rcases List.mem_append.mp hq with hq | hq
  ·obtain ⟨i, hi⟩ := List.mem_iff_getElem?.mp hq
   rw [List.getElem?_zip_eq_some] at hi
   exact (isAll_iff.mp u).2 i _ _ hi.1 hi.2
  ·exact g q hq
 ·refine isAll_iff.mpr ⟨u.len, fun i x v hx hv => ?_⟩
  exact hG (x, v) (List.mem_append_left _ (List.mem_iff_getElem?.mpr ⟨i, List.getElem?_zip_eq_some.mpr ⟨hx, hv⟩⟩))
theorem Sta.lstAll (S : Sta B G0 H cs ds) (h : Has ds (.list xs) v) : ∃ p vs, v = .ref p ∧ H p = some (.lst vs) ∧ xs.length = vs.length ∧ Sta B G0 H cs (xs.zip vs ++ ds) ∧ ∀ G, AllIs G (xs.zip vs ++ ds) → IsAll G xs vs := by
 obtain ⟨G, a, b, c, d, e, f, g⟩ := S
 have q := h G g
 rw [Is] at q
 obtain ⟨p, vs, hv, hp, u⟩ := q
 refine ⟨p, vs, hv, b _ _ hp, u.len, ⟨G, a, b, c, d, e, f, fun q hq => ?_⟩, fun G' hG => ?_⟩
 ·rcases List.mem_append.mp hq with hq | hq
  ·obtain ⟨i, hi⟩ := List.mem_iff_getElem?.mp hq
   rw [List.getElem?_zip_eq_some] at hi
   exact (isAll_iff.mp u).2 i _ _ hi.1 hi.2
  ·exact g q hq
 ·refine isAll_iff.mpr ⟨u.len, fun i x v hx hv => ?_⟩
  exact hG (x, v) (List.mem_append_left _ (List.mem_iff_getElem?.mpr ⟨i, List.getElem?_zip_eq_some.mpr ⟨hx, hv⟩⟩))
theorem Sta.cellAll (S : Sta B G0 H cs ds) (h : (D, xs) ∈ cs) : ∃ vs, H D = some (.lst vs) ∧ xs.length = vs.length ∧ Sta B G0 H cs (xs.zip vs ++ ds) ∧ ∀ G, AllIs G (xs.zip vs ++ ds) → IsAll G xs vs := by
 obtain ⟨G, a, b, c, d, e, f, g⟩ := S
 obtain ⟨_, _, vs, z, u⟩ := e _ h
 refine ⟨vs, z, u.len, ⟨G, a, b, c, d, e, f, fun q hq => ?_⟩, fun G' hG => ?_⟩
 ·rcases List.mem_append.mp hq with hq | hq
  ·obtain ⟨i, hi⟩ := List.mem_iff_getElem?.mp hq
   rw [List.getElem?_zip_eq_some] at hi
   exact (isAll_iff.mp u).2 i _ _ hi.1 hi.2
  ·exact g q hq
 ·refine isAll_iff.mpr ⟨u.len, fun i x v hx hv => ?_⟩
  exact hG (x, v) (List.mem_append_left _ (List.mem_iff_getElem?.mpr ⟨i, List.getElem?_zip_eq_some.mpr ⟨hx, hv⟩⟩))
theorem Sta.hp (S : Sta B G0 H cs ds) (h : Has ds x v) : Is H x v := by
 obtain ⟨G, a, b, c, d, e, f, g⟩ := S
 exact Is.mono b _ _ (h G g)
theorem Sta.hpC (S : Sta B G0 H cs ds) (h : (D, xs) ∈ cs) : Is H (.list xs) (.ref D) := by
 obtain ⟨G, a, b, c, d, e, f, g⟩ := S
 obtain ⟨_, _, vs, z, u⟩ := e _ h
 rw [Is]; exact ⟨D, vs, rfl, z, IsAll.mono b _ _ u⟩
end
def mkD (D : Ends) (u : L2.St → Hp → Prop) : Ends := { D with nx := u }
def mkL (D : Ends) (u : L2.St → Hp → Prop) : Ends := { D with nx := u, ct := u, bk := D.nx }
def endD (Q : VK) : Ends := { nx := fun _ H' => Q .non H', rt := Q }
section
variable {B G0 H : Hp} {cs : Cells} {ds : Dat} {D : Ends} {σ : L2.St} {Q : VK} {x y : PyData} {v w : V} {xs : List PyData} {vs : List V} {K : PySem.W.Frag} {X : Cx}
theorem rd_seq {t u : TS} (h : t (mkD D (u D)) σ H) : tSeq t u D σ H := h
theorem rd_asg {te : TE} {g : TG} (h : te σ H fun x H1 => g x σ H1 D.nx) : tAsg te g D σ H := h
theorem rd_name {i : Nat} {N : L2.St → Hp → Prop} (h : N (σ.set i (some v)) H) : gName i v σ H N := h
theorem rd_start {t : TS} (h : t (endD Q) σ H) : t { nx := fun _ H' => Q .non H', rt := Q } σ H := h
theorem rd_nx {u : L2.St → Hp → Prop} (h : u σ H) : Ends.nx (mkD D u) σ H := h
theorem rd_rt {u : L2.St → Hp → Prop} (h : Ends.rt D v H) : Ends.rt (mkD D u) v H := h
theorem rd_rt0 (h : Q v H) : Ends.rt (endD Q) v H := h
theorem rd_nxL {u : L2.St → Hp → Prop} (h : u σ H) : Ends.nx (mkL D u) σ H := h
theorem rd_rtL {u : L2.St → Hp → Prop} (h : Ends.rt D v H) : Ends.rt (mkL D u) v H := h
theorem rd_next (h : D.nx σ H) : tNext D σ H := h
theorem rd_ret {te : TE} (h : te σ H D.rt) : tRet te D σ H := h
theorem rd_drop {te : TE} (h : te σ H fun _ H1 => D.nx σ H1) : tDrop te D σ H := h
theorem rd_if {c : TT} {t u : TS} (h : c σ H fun b H1 => if b = true then t D σ H1 else u D σ H1) : tIfS c t u D σ H := h
theorem rd_var {i : Nat} (e : σ[i]? = some (some v)) (h : Q v H) : tVar i σ H Q := ⟨v, e, h⟩
theorem rd_c (h : Q v H) : tC v σ H Q := h
theorem rd_op {r : R2} {ta tb : TE} (h : ta σ H fun x H1 => tb σ H1 fun y H2 => r x y H2 Q) : tOp r ta tb σ H Q := h
theorem rd_un {r : V → Hp → VK → Prop} {ta : TE} (h : ta σ H fun x H1 => r x H1 Q) : tUn r ta σ H Q := h
theorem rd_rI0 {g : Int → Int → V} {i j : Int} (h : Q (g i j) H) : rI0 g (.int i) (.int j) H Q := ⟨i, j, rfl, rfl, h⟩
theorem rd_mulB {i j : Int} (c : IntMulOk i j) (h : Q (.int (i * j)) H) : rI IntMulOk (fun i j => .int (i * j)) (.int i) (.int j) H Q := ⟨i, j, rfl, rfl, c, h⟩
theorem rd_modL {i j : Int} (c : 0 < j) (h : Q (.int (i % j)) H) : rI (fun _ j => 0 < j) (fun i j => .int (i % j)) (.int i) (.int j) H Q := ⟨i, j, rfl, rfl, c, h⟩
theorem rd_modN {i j : Int} (c : j ≠ 0) (h : Q (.int (i.fmod j)) H) : rI (fun _ j => j ≠ 0) (fun i j => .int (i.fmod j)) (.int i) (.int j) H Q := ⟨i, j, rfl, rfl, c, h⟩
theorem rd_fdivL {i j : Int} (c : CDiv i j) (h : Q (.int (i / j)) H) : rI CDiv (fun i j => .int (i / j)) (.int i) (.int j) H Q := ⟨i, j, rfl, rfl, c, h⟩
theorem rd_fdivB {i j : Int} (c : CDv i j) (h : Q (.int (i.fdiv j)) H) : rI CDv (fun i j => .int (i.fdiv j)) (.int i) (.int j) H Q := ⟨i, j, rfl, rfl, c, h⟩
theorem rd_pow {i j : Int} (c : CPow i j) (h : Q (.int (i ^ j.toNat)) H) : rI CPow (fun i j => .int (i ^ j.toNat)) (.int i) (.int j) H Q := ⟨i, j, rfl, rfl, c, h⟩
theorem rd_rU {g : Int → V} {i : Int} (h : Q (g i) H) : rU g (.int i) H Q := ⟨i, rfl, h⟩
theorem rd_test {t : TE} {R : Bool → Hp → Prop} (h : t σ H fun x H' => ∃ k, x = .bl k ∧ R k H') : tTest t σ H R := h
theorem rd_tB {t : TE} {R : Bool → Hp → Prop} (h : t σ H fun x H' => ∃ k, x = .bl k ∧ R k H') : tB t σ H R := h
theorem rd_isbl {k : Bool} {R : Bool → Prop} (h : R k) : ∃ k', V.bl k = .bl k' ∧ R k' := ⟨k, rfl, h⟩
theorem rd_not {t : TT} {R : Bool → Hp → Prop} (h : t σ H fun c H1 => R (!c) H1) : tNot t σ H R := h
theorem rd_and {t u : TT} {R : Bool → Hp → Prop} (h : t σ H fun c H1 => if c = true then u σ H1 R else R false H1) : tAnd t u σ H R := h
theorem rd_or {t u : TT} {R : Bool → Hp → Prop} (h : t σ H fun c H1 => if c = true then R true H1 else u σ H1 R) : tOr t u σ H R := h
theorem rd_andV {ta tb : TE} (h : ta σ H fun x H1 => ∃ c, x = .bl c ∧ if c = true then tb σ H1 Q else Q (.bl false) H1) : tAndV ta tb σ H Q := h
theorem rd_notV {ta : TE} (h : ta σ H fun x H1 => ∃ c, x = .bl c ∧ Q (.bl (!c)) H1) : tNotV ta σ H Q := h
theorem rd_nil {R : List V → Hp → Prop} (h : R [] H) : tNil σ H R := h
theorem rd_cons {ta : TE} {tr : TA} {R : List V → Hp → Prop} (h : ta σ H fun x H1 => tr σ H1 fun xs H2 => R (x :: xs) H2) : tCons ta tr σ H R := h
theorem rd_call {sp : Sp} {E : XK} {t : TA} (h : t σ H fun vs H1 => sp vs H1 Q E) : tCall sp [] E t σ H Q := by
 unfold tCall
 simpa only [List.append_nil] using h
theorem rd_cb {r : List V → Hp → VK → Prop} {t : TA} (h : t σ H fun vs H1 => r vs H1 Q) : tCB r t σ H Q := h
theorem rd_par {i j : Nat} {ta : TA} (h : ta σ H fun vs H1 => ∃ v w, vs = [v, w] ∧ D.nx ((σ.set i (some v)).set j (some w)) H1) : tPar i j ta D σ H := h
theorem rd_is2 {R : V → V → Prop} (h : R v w) : ∃ v' w', [v, w] = [v', w'] ∧ R v' w' := ⟨v, w, rfl, h⟩
def rEqA : R2 := fun x y H Q => rEq x y H Q ∨ rEqD x y H Q
def rNeA : R2 := fun x y H Q => rNe x y H Q ∨ rNeD x y H Q
theorem op_eqA (hu : X.A.units + 64 < cLine) : OpR X (compareOp .Eq) rEqA := op_eq.or (op_eqD hu)
theorem op_neA (hu : X.A.units + 64 < cLine) : OpR X (compareOp .NotEq) rNeA := op_ne.or (op_neD hu)
theorem dec_congr {a b : Prop} [Decidable a] [Decidable b] (h : a ↔ b) : decide a = decide b := by
 by_cases ha : a
 ·rw [decide_eq_true ha, decide_eq_true (h.mp ha)]
 ·rw [decide_eq_false ha, decide_eq_false (fun z => ha (h.mpr z))]
theorem rd_eqI {i j : Int} (h : Q (.bl (decide (i = j))) H) : rEqA (.int i) (.int j) H Q := .inl ⟨rfl, by
 rw [dec_congr (show V.int i = V.int j ↔ i = j from ⟨V.int.inj, congrArg _⟩)]; exact h⟩
theorem rd_neI {i j : Int} (h : Q (.bl (!decide (i = j))) H) : rNeA (.int i) (.int j) H Q := .inl ⟨rfl, by
 rw [dec_congr (show V.int i = V.int j ↔ i = j from ⟨V.int.inj, congrArg _⟩)]; exact h⟩
theorem rd_eqD (h1 : Is H x v) (h2 : Is H y w) (s1 : SeqAt.shaped x = true) (s2 : SeqAt.shaped y = true) (h : Q (.bl (PyData.eqv x y)) H) : rEqA v w H Q := .inr ⟨x, y, h1, h2, s1, s2, h⟩
theorem rd_neD (h1 : Is H x v) (h2 : Is H y w) (s1 : SeqAt.shaped x = true) (s2 : SeqAt.shaped y = true) (h : Q (.bl (!PyData.eqv x y)) H) : rNeA v w H Q := .inr ⟨x, y, h1, h2, s1, s2, h⟩
def kTup (Q : VK) (xs : List V) (H : Hp) : Prop := xs.length ≤ sizeLine ∧ ∀ p, H p = none → Q (.ref p) (upd H p (.tup xs))
def kLst (Q : VK) (xs : List V) (H : Hp) : Prop := xs.length ≤ sizeLine ∧ ∀ p, H p = none → Q (.ref p) (upd H p (.lst xs))
theorem rd_tup {t : TA} (h : t σ H (kTup Q)) : tTup t σ H Q := h
theorem rd_lst {t : TA} (h : t σ H (kLst Q)) : tLst t σ H Q := h
theorem rd_kTup (S : Sta B G0 H cs ds) (h : HasAll ds xs vs) (hl : vs.length ≤ 1000) (k : ∀ p H', Same H H' → Sta B G0 H' cs ((.tuple xs, .ref p) :: ds) → Q (.ref p) H') : kTup Q vs H :=
 ⟨Nat.le_of_lt (small1000 hl), fun p hp => k p _ (Same.new hp _) (S.newT hp h)⟩
theorem rd_kLst (S : Sta B G0 H cs ds) (h : HasAll ds xs vs) (hl : vs.length ≤ 1000) (k : ∀ p H', Same H H' → Sta B G0 H' ((p, xs) :: cs) ds → Q (.ref p) H') : kLst Q vs H :=
 ⟨Nat.le_of_lt (small1000 hl), fun p hp => k p _ (Same.new hp _) (S.newL hp h)⟩
theorem atI_at {α β : Type} {xs : List α} {ys : List β} {i : Int} {x : α} (hl : xs.length = ys.length) (h : atI xs i = some x) : ∃ j : Nat, xs[j]? = some x ∧ ∀ y, ys[j]? = some y → atI ys i = some y := by
 unfold atI at h ⊢
 rw [← hl]
 cases e : ixN xs.length i with
 | none => rw [e] at h; cases h
 | some j => rw [e] at h; exact ⟨j, h, fun y hy => hy⟩
theorem rd_ixT {i : Int} (S : Sta B G0 H cs ds) (hx : Has ds (.tuple xs) v) (hi : atI xs i = some x) (k : ∀ w, Sta B G0 H cs ((x, w) :: ds) → Q w H) : rIx K v (.int i) H Q := by
 obtain ⟨p, vs, rfl, hp, hl, z⟩ := S.tup hx
 obtain ⟨j, hj, hy⟩ := atI_at hl hi
 obtain ⟨w, hw, S'⟩ := z j x hj
 exact .inr (.inl ⟨p, vs, i, w, rfl, rfl, SqT.of hp, hy _ hw, k w S'⟩)
theorem Sta.top {n : PyData} (S : Sta B G0 H cs ((n, v) :: ds)) : Is H n v := S.hp (.mem (List.mem_cons_self ..))
theorem rd_ixTI {i n : Int} (S : Sta B G0 H cs ds) (hx : Has ds (.tuple xs) v) (hi : atI xs i = some (.int n)) (k : Q (.int n) H) : rIx K v (.int i) H Q :=
 rd_ixT S hx hi fun w S' => by have := S'.top; rw [Is] at this; subst this; exact k
theorem rd_ixL {i : Int} (S : Sta B G0 H cs ds) (hx : Has ds (.list xs) v) (hi : atI xs i = some x) (k : ∀ w, Sta B G0 H cs ((x, w) :: ds) → Q w H) : rIx K v (.int i) H Q := by
 obtain ⟨p, vs, rfl, hp, hl, z⟩ := S.lst hx
 obtain ⟨j, hj, hy⟩ := atI_at hl hi
 obtain ⟨w, hw, S'⟩ := z j x hj
 exact .inl ⟨p, vs, i, w, rfl, rfl, SqL.of hp, hy _ hw, k w S'⟩
theorem rd_ixLI {i n : Int} (S : Sta B G0 H cs ds) (hx : Has ds (.list xs) v) (hi : atI xs i = some (.int n)) (k : Q (.int n) H) : rIx K v (.int i) H Q :=
 rd_ixL S hx hi fun w S' => by have := S'.top; rw [Is] at this; subst this; exact k
theorem rd_ixC {i : Int} {L : Addr} (S : Sta B G0 H cs ds) (hx : (L, xs) ∈ cs) (hi : atI xs i = some x) (k : ∀ w, Sta B G0 H cs ((x, w) :: ds) → Q w H) : rIx K (.ref L) (.int i) H Q := by
 obtain ⟨vs, hp, hl, z⟩ := S.cell hx
 obtain ⟨j, hj, hy⟩ := atI_at hl hi
 obtain ⟨w, hw, S'⟩ := z j x hj
 exact .inl ⟨L, vs, i, w, rfl, rfl, SqL.of hp, hy _ hw, k w S'⟩
theorem rd_ixCI {i n : Int} {L : Addr} (S : Sta B G0 H cs ds) (hx : (L, xs) ∈ cs) (hi : atI xs i = some (.int n)) (k : Q (.int n) H) : rIx K (.ref L) (.int i) H Q :=
 rd_ixC S hx hi fun w S' => by have := S'.top; rw [Is] at this; subst this; exact k
theorem rd_ixS {i : Int} {a : Addr} {ns : List Int} (hS : SqL K H a (ns.map V.int)) (h0 : 0 ≤ i) (h1 : i < (ns.length : Int)) (k : Q (.int (ns.getD i.toNat 0)) H) : rIx K (.ref a) (.int i) H Q :=
 .inl ⟨a, _, i, _, rfl, rfl, hS, atI_ints h0 h1, k⟩
def rLen (K : PySem.W.Frag) : List V → Hp → VK → Prop := fun xs H Q => ∃ p ys, xs = [.ref p] ∧ (SqL K H p ys ∨ SqT K H p ys) ∧ Q (.int ys.length) H
theorem call_lenA : CallR X (.builtin "len") (rLen X.K) := call_len_seq
theorem rd_lenT (S : Sta B G0 H cs ds) (hx : Has ds (.tuple xs) v) (k : Q (.int xs.length) H) : rLen K [v] H Q := by
 obtain ⟨p, vs, rfl, hp, hl, _⟩ := S.tup hx
 exact ⟨p, vs, rfl, .inr (SqT.of hp), by rw [← hl]; exact k⟩
theorem rd_lenL (S : Sta B G0 H cs ds) (hx : Has ds (.list xs) v) (k : Q (.int xs.length) H) : rLen K [v] H Q := by
 obtain ⟨p, vs, rfl, hp, hl, _⟩ := S.lst hx
 exact ⟨p, vs, rfl, .inl (SqL.of hp), by rw [← hl]; exact k⟩
theorem rd_lenS {a : Addr} {ns : List Int} (hS : SqL K H a (ns.map V.int)) (k : Q (.int ns.length) H) : rLen K [.ref a] H Q :=
 ⟨a, _, rfl, .inl hS, by rw [List.length_map]; exact k⟩
def rAbs : List V → Hp → VK → Prop := fun xs H Q => ∃ i, xs = [.int i] ∧ Q (.int (if i < 0 then -i else i)) H
theorem call_absA : CallR X (.builtin "abs") rAbs := call_abs
theorem rd_abs {i : Int} (k : Q (.int (i.natAbs : Int)) H) : rAbs [.int i] H Q := ⟨i, rfl, by
 rw [show (if i < 0 then -i else i) = (i.natAbs : Int) by split <;> omega]; exact k⟩
def rMin : List V → Hp → VK → Prop := fun xs H Q => ∃ i j, xs = [.int i, .int j] ∧ Q (.int (if j < i then j else i)) H
theorem call_minA (hc : X.calm = true) : CallR X (.builtin "min") rMin := call_min2 hc
theorem rd_min {i j : Int} (k : Q (.int (min i j)) H) : rMin [.int i, .int j] H Q := ⟨i, j, rfl, by
 rw [show (if j < i then j else i) = min i j by split <;> omega]; exact k⟩
def rListOf (K : PySem.W.Frag) : List V → Hp → VK → Prop := fun xs H Q => ∃ p ys, xs = [.ref p] ∧ (SqL K H p ys ∨ SqT K H p ys) ∧ ∀ l, H l = none → Q (.ref l) (upd H l (.lst ys))
theorem call_listA : CallR X (.type "list") (rListOf X.K) := call_list_of
def rTupleOf (K : PySem.W.Frag) : List V → Hp → VK → Prop := fun xs H Q => ∃ p ys, xs = [.ref p] ∧ ((SqL K H p ys ∧ ∀ l, H l = none → Q (.ref l) (upd H l (.tup ys))) ∨ (SqT K H p ys ∧ Q (.ref p) H))
theorem call_tupleA : CallR X (.type "tuple") (rTupleOf X.K) := call_tuple_of
theorem rd_listL (S : Sta B G0 H cs ds) (hx : Has ds (.list xs) v) (k : ∀ l H', Same H H' → Sta B G0 H' ((l, xs) :: cs) ds → Q (.ref l) H') : rListOf K [v] H Q := by
 obtain ⟨p, vs, rfl, hp, hl, S', hA⟩ := S.lstAll hx
 exact ⟨p, vs, rfl, .inl (SqL.of hp), fun l hl => k l _ (Same.new hl _) ((S'.newL hl hA).dat fun q hq => .mem (List.mem_append_right _ hq))⟩
theorem rd_tupleC {L : Addr} (S : Sta B G0 H cs ds) (hx : (L, xs) ∈ cs) (k : ∀ l H', Same H H' → Sta B G0 H' cs ((.tuple xs, .ref l) :: ds) → Q (.ref l) H') : rTupleOf K [.ref L] H Q := by
 obtain ⟨vs, hp, hl, S', hA⟩ := S.cellAll hx
 exact ⟨L, vs, rfl, .inl ⟨SqL.of hp, fun l hl => k l _ (Same.new hl _) ((S'.newT hl hA).dat fun q hq => .mem (by
  rcases List.mem_cons.mp hq with rfl | hq
  ·exact List.mem_cons_self ..
  ·exact List.mem_cons_of_mem _ (List.mem_append_right _ hq)))⟩⟩
def kBM (K : PySem.W.Frag) (T : String) (r : V → List V → Hp → VK → Prop) (t : TA) (σ : L2.St) (Q : VK) : VK := fun x H1 => tyV K T x H1 ∧ t σ H1 fun xs H2 => r x xs H2 Q
theorem rd_bm {T : String} {r : V → List V → Hp → VK → Prop} {to : TE} {t : TA} (h : to σ H (kBM K T r t σ Q)) : tBM K T r to t σ H Q := h
theorem rd_kBM {L : Addr} {r : V → List V → Hp → VK → Prop} {t : TA} (S : Sta B G0 H cs ds) (hx : (L, xs) ∈ cs) (h : t σ H fun ys H2 => r (.ref L) ys H2 Q) : kBM K "list" r t σ Q (.ref L) H := by
 obtain ⟨vs, hp, hl, _⟩ := S.cell hx
 exact ⟨.inl ⟨rfl, _, SqL.of hp⟩, h⟩
theorem rd_append {L : Addr} (S : Sta B G0 H ((L, xs) :: cs) ds) (hy : Has ds y w) (hz : xs.length ≤ 1000) (k : ∀ H', Sta B G0 H' ((L, xs ++ [y]) :: cs) ds → Q .non H') : rAppend (.ref L) [w] H Q := by
 obtain ⟨vs, hp, hl, put⟩ := S.put
 exact ⟨L, vs, w, rfl, rfl, hp, small1000 (by omega), k _ (put _ _ fun G a u => u.app (by rw [IsAll]; exact ⟨w, [], rfl, hy G a, by rw [IsAll]⟩))⟩
def cutD (xs : List PyData) (lo hi : Option Int) : List PyData := (xs.drop (HT.sIx xs.length 0 lo)).take (HT.sIx xs.length xs.length hi - HT.sIx xs.length 0 lo)
theorem rd_slL {lo hi : Option Int} (S : Sta B G0 H cs ds) (hx : Has ds (.list xs) v) (k : ∀ l H', Same H H' → Sta B G0 H' ((l, cutD xs lo hi) :: cs) ds → Q (.ref l) H') : rSlL K v lo hi H Q := by
 obtain ⟨p, vs, rfl, hp, hl, S', hA⟩ := S.lstAll hx
 refine ⟨p, vs, rfl, SqL.of hp, fun l hn => k l _ (Same.new hn _) ((S'.newL hn fun G a => ?_).dat fun q hq => .mem (List.mem_append_right _ hq))⟩
 unfold cutD cutV
 rw [hl]
 exact ((hA G a).drop _).take _
end
theorem mulModOk {a b m n : Int} (h : (0 < m ∧ m < 2 ^ 64) ∧ (0 < n ∧ n < 2 ^ 64)) : IntMulOk (a % m) (b % n) := by
 have h1 := Int.emod_nonneg a (show m ≠ 0 by omega)
 have h2 := Int.emod_lt_of_pos a h.1.1
 have h3 := Int.emod_nonneg b (show n ≠ 0 by omega)
 have h4 := Int.emod_lt_of_pos b h.2.1
 have e : (2 : Nat) ^ 64 = 18446744073709551616 := by decide
 have e' : (2 : Int) ^ 64 = 18446744073709551616 := by decide
 rw [e'] at h
 exact Sz.mulOk (m := 64) (n := 64) (by unfold Sz; rw [e]; omega) (by unfold Sz; rw [e]; omega) (by decide)
theorem iteNT {A B : Prop} (h : B) : if (!true) = true then A else B := h
section
variable {B G0 H : Hp} {cs : Cells} {ds : Dat} {Q : VK} {v : V} {xs zs : List PyData} {K : PySem.W.Frag} {X : Cx} {L M : Addr}
def rAddA : R2 := fun x y H Q => rI0 (fun i j => .int (i + j)) x y H Q ∨ rCat x y H Q
theorem op_addA : OpR X (binaryOp .Add) rAddA := op_add.or op_cat
theorem rd_addI {i j : Int} (h : Q (.int (i + j)) H) : rAddA (.int i) (.int j) H Q := .inl ⟨i, j, rfl, rfl, h⟩
def Vw (B G0 H : Hp) (cs : Cells) (ds : Dat) (L : Addr) (xs : List PyData) : Prop := ∃ vs, H L = some (.lst vs) ∧ ∀ G, StaG B G0 H cs ds G → IsAll G xs vs
theorem Sta.vwL (S : Sta B G0 H cs ds) (h : Has ds (.list xs) (.ref L)) : Vw B G0 H cs ds L xs := by
 obtain ⟨G, S⟩ := S
 have q := h G S.2.2.2.2.2.2
 rw [Is] at q
 obtain ⟨p, vs, e, hp, u⟩ := q
 cases e
 have hp' := S.2.1 _ _ hp
 refine ⟨vs, hp', fun G' S' => ?_⟩
 have q := h G' S'.2.2.2.2.2.2
 rw [Is] at q
 obtain ⟨p, vs', e, hp2, u'⟩ := q
 cases e
 have := S'.2.1 _ _ hp2
 rw [hp'] at this; cases this
 exact u'
theorem Sta.vwC (S : Sta B G0 H cs ds) (h : (L, xs) ∈ cs) : Vw B G0 H cs ds L xs := by
 obtain ⟨G, S⟩ := S
 obtain ⟨_, _, vs, z, u⟩ := S.2.2.2.2.1 _ h
 refine ⟨vs, z, fun G' S' => ?_⟩
 obtain ⟨_, _, vs', z', u'⟩ := S'.2.2.2.2.1 _ h
 rw [z] at z'; cases z'
 exact u'
theorem rd_addL (S : Sta B G0 H cs ds) (v1 : Vw B G0 H cs ds L xs) (v2 : Vw B G0 H cs ds M zs) (hz : xs.length + zs.length ≤ 1000)
 (k : ∀ p H', Same H H' → Sta B G0 H' ((p, xs ++ zs) :: cs) ds → Q (.ref p) H') : rAddA (.ref L) (.ref M) H Q := by
 obtain ⟨us, h1, u1⟩ := v1
 obtain ⟨ws, h2, u2⟩ := v2
 obtain ⟨G, S'⟩ := id S
 refine .inr ⟨L, M, us, ws, rfl, rfl, h1, h2, Nat.le_of_lt (small1000 (by rw [← (u1 G S').len, ← (u2 G S').len]; exact hz)), fun p hp => k p _ (Same.new hp _) ?_⟩
 obtain ⟨a, b, c, d, e, f, g⟩ := id S'
 have hG : G p = none := b.free hp
 refine ⟨G, a, b.trans (Same.new hp _), c.trans (Same.new hp _), d, fun q hq => ?_, ?_, g⟩
 ·rcases List.mem_cons.mp hq with rfl | hq
  ·exact ⟨c.free hp, hG, _, upd_same, (u1 G S').app (u2 G S')⟩
  ·obtain ⟨x, y, ws, z, u⟩ := e q hq
   have hqp : q.1 ≠ p := ne_of_none z hp
   exact ⟨x, y, ws, by rw [upd_ne hqp]; exact z, u⟩
 ·rw [List.map_cons, List.nodup_cons]
  refine ⟨fun z => ?_, f⟩
  obtain ⟨q, hq, hqp⟩ := List.mem_map.mp z
  obtain ⟨_, _, ws, z, _⟩ := e q hq
  rw [hqp, hp] at z; cases z
def rSum (K : PySem.W.Frag) : List V → Hp → VK → Prop := fun xs H Q => ∃ (p : Addr) (ns : List Int), xs = [.ref p] ∧ SqL K H p (ns.map V.int) ∧ Q (.int ns.sum) H
theorem call_sumA (hc : X.calm = true) : CallR X (.builtin "sum") (rSum X.K) := by
 intro pins s σ H xs us Q I r h
 obtain ⟨p, ns, rfl, hq, q⟩ := h
 obtain ⟨u, rfl, rx⟩ := vals1 r
 cases rx
 obtain ⟨its, rv, pl, _⟩ := I.list hq
 have hi := intsAre_of rv
 obtain ⟨ys, e⟩ := hi.allInts.items
 have hl : s.heap.IsList p (intItems ys) := e ▸ pl.isList
 have en : ys.toList.map (·.1) = ns := by rw [← nums_intItems, ← e]; exact hi.numsOf
 refine sum_intListG (I.ok.hd hc) hl fun h' tk t' hk => ?_
 refine ⟨.int ns.sum, H, I.kept (t' := tk) hk, ⟨t', ?_⟩, q⟩
 rw [preSum_eq, en, List.take_of_length_le (by rw [← en]; simp)]
theorem isAll_ints {G : Hp} : ∀ {ns : List Int} {vs : List V}, IsAll G (ns.map PyData.int) vs → vs = ns.map V.int
 | [], vs, h => by rw [List.map_nil, IsAll] at h; exact h
 | n :: ns, vs, h => by
   rw [List.map_cons, IsAll] at h
   obtain ⟨v, r, rfl, h1, h2⟩ := h
   rw [Is] at h1
   subst h1
   rw [isAll_ints h2, List.map_cons]
theorem rd_sumC {ns : List Int} (S : Sta B G0 H cs ds) (h : (L, ns.map PyData.int) ∈ cs) (k : Q (.int ns.sum) H) : rSum K [.ref L] H Q := by
 obtain ⟨vs, hp, u⟩ := S.vwC h
 obtain ⟨G, S'⟩ := id S
 rw [isAll_ints (u G S')] at hp
 exact ⟨L, ns, rfl, SqL.of hp, k⟩
theorem rd_sumL {ns : List Int} (S : Sta B G0 H cs ds) (h : Has ds (.list (ns.map PyData.int)) v) (k : Q (.int ns.sum) H) : rSum K [v] H Q := by
 obtain ⟨p, vs, rfl, _⟩ := S.lst h
 obtain ⟨vs, hp, u⟩ := S.vwL h
 obtain ⟨G, S'⟩ := id S
 rw [isAll_ints (u G S')] at hp
 exact ⟨_, ns, rfl, SqL.of hp, k⟩
end
end S
namespace S
open PySem PySem.Spec PyProof.Rows L2
def Ro (B G0 : Hp) (L : Addr) (xs : List PyData) : Prop := G0 L = none ∧ ∃ vs, B L = some (.lst vs) ∧ IsAll G0 xs vs
def Src (B G0 : Hp) (b : Bool) (K : PySem.W.Frag) (a : Addr) (xs : List PyData) (P : Cells → Dat → Prop) : Prop := ∀ {H : Hp} {cs : Cells} {ds : Dat}, Sta B G0 H cs ds → P cs ds →
 ∃ vs, SqB b K H a vs ∧ xs.length = vs.length ∧ ∀ (i : Nat) (x : PyData), xs[i]? = some x → ∃ v, vs[i]? = some v ∧ Sta B G0 H cs ((x, v) :: ds)
structure Wk (B G0 : Hp) (J : It) (xs : List PyData) (P : Cells → Dat → Prop) : Prop where
 go : ∀ {H : Hp} {cs : Cells} {ds : Dat} {i : Nat}, Sta B G0 H cs ds → P cs ds → i < xs.length → J.go i H
 stop : ∀ {H : Hp} {cs : Cells} {ds : Dat} {i : Nat}, Sta B G0 H cs ds → P cs ds → xs.length ≤ i → J.stop i H
 yld : ∀ {H H' : Hp} {cs : Cells} {ds : Dat} {i : Nat} {x : PyData} {v : V}, Sta B G0 H cs ds → P cs ds → xs[i]? = some x → J.yld i H v H' → Same H H' ∧ Sta B G0 H' cs ((x, v) :: ds)
section
variable {B G0 H : Hp} {cs : Cells} {ds : Dat} {K : PySem.W.Frag} {a : Addr} {xs ys : List PyData} {P P' : Cells → Dat → Prop} {b c : Bool} {v : V}
theorem src_list : Src B G0 true K a xs (fun _ ds => Has ds (.list xs) (.ref a)) := fun S h => by
 obtain ⟨p, vs, e, hp, hl, z⟩ := S.lst h
 cases e
 exact ⟨vs, SqL.of hp, hl, z⟩
theorem src_tup : Src B G0 false K a xs (fun _ ds => Has ds (.tuple xs) (.ref a)) := fun S h => by
 obtain ⟨p, vs, e, hp, hl, z⟩ := S.tup h
 cases e
 exact ⟨vs, SqT.of hp, hl, z⟩
theorem src_cell : Src B G0 true K a xs (fun cs _ => (a, xs) ∈ cs) := fun S h => by
 obtain ⟨vs, hp, hl, z⟩ := S.cell h
 exact ⟨vs, SqL.of hp, hl, z⟩
theorem wk_list (s : Src B G0 true K a xs P) : Wk B G0 (Itl K a) xs P where
 go := fun {H cs ds i} S h hi => by
  obtain ⟨vs, q, hl, _⟩ := s S h
  exact ⟨vs, vs[i]'(by omega), q, List.getElem?_eq_getElem _⟩
 stop := fun {H cs ds i} S h hi => by
  obtain ⟨vs, q, hl, _⟩ := s S h
  exact ⟨vs, q, by omega⟩
 yld := fun {H H' cs ds i x v} S h hx y => by
  obtain ⟨e, y⟩ := y
  subst e
  obtain ⟨vs, q, hl, z⟩ := s S h
  obtain ⟨w, hw, S'⟩ := z i x hx
  have := y vs q
  rw [hw] at this; cases this
  exact ⟨Same.refl _, S'⟩
theorem wk_tup (s : Src B G0 false K a xs P) : Wk B G0 (Itt K a) xs P where
 go := fun {H cs ds i} S h hi => by
  obtain ⟨vs, q, hl, _⟩ := s S h
  exact ⟨vs, vs[i]'(by omega), q, List.getElem?_eq_getElem _⟩
 stop := fun {H cs ds i} S h hi => by
  obtain ⟨vs, q, hl, _⟩ := s S h
  exact ⟨vs, q, by omega⟩
 yld := fun {H H' cs ds i x v} S h hx y => by
  obtain ⟨e, y⟩ := y
  subst e
  obtain ⟨vs, q, hl, z⟩ := s S h
  obtain ⟨w, hw, S'⟩ := z i x hx
  have := y vs q
  rw [hw] at this; cases this
  exact ⟨Same.refl _, S'⟩
def rangeD (lo : Int) (n : Nat) : List PyData := (List.range n).map fun i => .int (lo + (i : Nat))
theorem rangeD_len (lo : Int) (n : Nat) : (rangeD lo n).length = n := by unfold rangeD; rw [List.length_map, List.length_range]
theorem rangeD_at {lo : Int} {n i : Nat} {x : PyData} (h : (rangeD lo n)[i]? = some x) : i < n ∧ x = .int (lo + (i : Nat)) := by
 have hi : i < n := by have := (List.getElem?_eq_some_iff.mp h).1; rwa [rangeD_len] at this
 unfold rangeD at h
 rw [List.getElem?_map, List.getElem?_range hi] at h
 exact ⟨hi, (Option.some.inj h).symm⟩
theorem wk_range {lo : Int} {n : Nat} : Wk B G0 (Itr lo n) (rangeD lo n) (fun _ _ => True) where
 go := fun {H cs ds i} S h hi => by rw [rangeD_len] at hi; exact hi
 stop := fun {H cs ds i} S h hi => by rw [rangeD_len] at hi; exact hi
 yld := fun {H H' cs ds i x v} S h hx y => by
  obtain ⟨e, y⟩ := y
  obtain ⟨_, rfl⟩ := rangeD_at hx
  subst e y
  exact ⟨Same.refl _, S.push Has.int⟩
def enumD (xs : List PyData) : List PyData := xs.mapIdx fun i x => .tuple [.int (i : Nat), x]
theorem enumD_len (xs : List PyData) : (enumD xs).length = xs.length := by unfold enumD; rw [List.length_mapIdx]
theorem enumD_at {xs : List PyData} {i : Nat} {y : PyData} (h : (enumD xs)[i]? = some y) : ∃ x, xs[i]? = some x ∧ y = .tuple [.int (i : Nat), x] := by
 unfold enumD at h
 rw [List.getElem?_mapIdx] at h
 cases e : xs[i]? with
 | none => rw [e] at h; cases h
 | some x => rw [e] at h; exact ⟨x, rfl, (Option.some.inj h).symm⟩
theorem wk_enum (s : Src B G0 b K a xs P) : Wk B G0 (ItE b K a) (enumD xs) P where
 go := fun {H cs ds i} S h hi => by
  rw [enumD_len] at hi
  obtain ⟨vs, q, hl, _⟩ := s S h
  exact ⟨vs, vs[i]'(by omega), q, List.getElem?_eq_getElem _⟩
 stop := fun {H cs ds i} S h hi => by
  rw [enumD_len] at hi
  obtain ⟨vs, q, hl, _⟩ := s S h
  exact ⟨vs, q, by omega⟩
 yld := fun {H H' cs ds i x v} S h hx y => by
  obtain ⟨x0, hx0, rfl⟩ := enumD_at hx
  obtain ⟨p, u, hu, hp, rfl, rfl⟩ := y
  obtain ⟨vs, q, hl, z⟩ := s S h
  obtain ⟨w, hw, S'⟩ := z i x0 hx0
  have := hu vs q
  rw [hw] at this; cases this
  refine ⟨Same.new hp _, (S'.newT hp (xs := [.int (i : Nat), x0]) (vs := [.int (i : Nat), u]) (.cons Has.int (.cons (.mem (List.mem_cons_self ..)) .nil))).dat fun r hr => .mem ?_⟩
  rcases List.mem_cons.mp hr with rfl | hr
  ·exact List.mem_cons_self ..
  ·exact List.mem_cons_of_mem _ (List.mem_cons_of_mem _ hr)
def zipD (xs ys : List PyData) : List PyData := List.zipWith (fun x y => .tuple [x, y]) xs ys
theorem zipD_len (xs ys : List PyData) : (zipD xs ys).length = min xs.length ys.length := by unfold zipD; rw [List.length_zipWith]
theorem zipD_at {xs ys : List PyData} {i : Nat} {z : PyData} (h : (zipD xs ys)[i]? = some z) : ∃ x y, xs[i]? = some x ∧ ys[i]? = some y ∧ z = .tuple [x, y] := by
 unfold zipD at h
 rw [List.getElem?_zipWith] at h
 cases e : xs[i]? with
 | none => rw [e] at h; cases h
 | some x =>
   cases e2 : ys[i]? with
   | none => rw [e, e2] at h; cases h
   | some y => rw [e, e2] at h; exact ⟨x, y, rfl, rfl, (Option.some.inj h).symm⟩
theorem wk_zip {a2 : Addr} (s : Src B G0 b K a xs P) (s2 : Src B G0 c K a2 ys P') : Wk B G0 (ItZ b c K a a2) (zipD xs ys) (fun cs ds => P cs ds ∧ (∀ x v, P' cs ds → P' cs ((x, v) :: ds)) ∧ P' cs ds) where
 go := fun {H cs ds i} S h hi => by
  rw [zipD_len] at hi
  obtain ⟨vs, q, hl, _⟩ := s S h.1
  obtain ⟨ws, q2, hl2, _⟩ := s2 S h.2.2
  exact ⟨vs, ws, vs[i]'(by omega), ws[i]'(by omega), q, q2, List.getElem?_eq_getElem _, List.getElem?_eq_getElem _⟩
 stop := fun {H cs ds i} S h hi => by
  rw [zipD_len] at hi
  obtain ⟨vs, q, hl, _⟩ := s S h.1
  obtain ⟨ws, q2, hl2, _⟩ := s2 S h.2.2
  exact ⟨vs, ws, q, q2, by omega⟩
 yld := fun {H H' cs ds i x v} S h hx y => by
  obtain ⟨x0, y0, hx0, hy0, rfl⟩ := zipD_at hx
  obtain ⟨p, u, u2, hu, hu2, hp, rfl, rfl⟩ := y
  obtain ⟨vs, q, hl, z⟩ := s S h.1
  obtain ⟨w, hw, S'⟩ := z i x0 hx0
  obtain ⟨ws, q2, hl2, z2⟩ := s2 S' (h.2.1 _ _ h.2.2)
  obtain ⟨w2, hw2, S''⟩ := z2 i y0 hy0
  have := hu vs q
  rw [hw] at this; cases this
  have := hu2 ws q2
  rw [hw2] at this; cases this
  refine ⟨Same.new hp _, (S''.newT hp (xs := [x0, y0]) (vs := [u, u2]) (.cons (.mem (List.mem_cons_of_mem _ (List.mem_cons_self ..))) (.cons (.mem (List.mem_cons_self ..)) .nil))).dat fun r hr => .mem ?_⟩
  rcases List.mem_cons.mp hr with rfl | hr
  ·exact List.mem_cons_self ..
  ·exact List.mem_cons_of_mem _ (List.mem_cons_of_mem _ (List.mem_cons_of_mem _ hr))
def kIL (K : PySem.W.Frag) (R : It → Hp → Prop) : VK := fun x H1 => ∃ a, x = .ref a ∧ (∃ xs, SqL K H1 a xs) ∧ R (Itl K a) H1
def kIT (K : PySem.W.Frag) (R : It → Hp → Prop) : VK := fun x H1 => ∃ a, x = .ref a ∧ (∃ xs, SqT K H1 a xs) ∧ R (Itt K a) H1
def kR1 (R : It → Hp → Prop) : List V → Hp → Prop := fun vs H1 => ∃ j : Int, vs = [.int j] ∧ -(2 ^ 62) ≤ j ∧ j < 2 ^ 62 ∧ R (Itr 0 j.toNat) H1
def kEn (b : Bool) (K : PySem.W.Frag) (R : It → Hp → Prop) : List V → Hp → Prop := fun vs H1 => ∃ a, vs = [.ref a] ∧ (∃ xs, SqB b K H1 a xs) ∧ R (ItE b K a) H1
def kZi (b c : Bool) (K : PySem.W.Frag) (R : It → Hp → Prop) : List V → Hp → Prop := fun vs H1 => ∃ a1 a2, vs = [.ref a1, .ref a2] ∧ (∃ xs, SqB b K H1 a1 xs) ∧ (∃ ys, SqB c K H1 a2 ys) ∧ R (ItZ b c K a1 a2) H1
section
variable {σ : L2.St} {R : It → Hp → Prop} {tl : TE} {ta : TA}
theorem rd_iList (h : tl σ H (kIL K R)) : iList K tl σ H R := h
theorem rd_iTup (h : tl σ H (kIT K R)) : iTup K tl σ H R := h
theorem rd_iR1 (h : ta σ H (kR1 R)) : iRng1 ta σ H R := h
theorem rd_iEn (h : ta σ H (kEn b K R)) : iEnum b K ta σ H R := h
theorem rd_iZi (h : ta σ H (kZi b c K R)) : iZip b c K ta σ H R := h
theorem rd_kR1 {j : Int} (B G0 : Hp) (h1 : -1000 ≤ j) (h2 : j ≤ 1000000) (k : ∀ J, Wk B G0 J (rangeD 0 j.toNat) (fun _ _ => True) → R J H) : kR1 R [.int j] H := ⟨j, rfl, by omega, by omega, k _ wk_range⟩
end
def kGT (K : PySem.W.Frag) (n : Nat) (t : TGs) (σ : L2.St) (N : L2.St → Hp → Prop) : VK := fun v H => ∃ a xs, v = .ref a ∧ SqT K H a xs ∧ xs.length = n ∧ t xs σ H N
theorem rd_gTup {n : Nat} {t : TGs} {σ : L2.St} {N : L2.St → Hp → Prop} (h : kGT K n t σ N v H) : gTup K n t v σ H N := h
theorem rd_kGT {n : Nat} {t : TGs} {σ : L2.St} {N : L2.St → Hp → Prop} (S : Sta B G0 H cs ds) (h : Has ds (.tuple xs) v) (hn : xs.length = n) (k : ∀ vs, xs.length = vs.length → Sta B G0 H cs (xs.zip vs ++ ds) → t vs σ H N) : kGT K n t σ N v H := by
 obtain ⟨p, vs, rfl, hp, hl, S', _⟩ := S.tupAll h
 exact ⟨p, vs, rfl, SqT.of hp, by omega, k vs hl S'⟩
theorem rd_kGT2 {t : TGs} {σ : L2.St} {N : L2.St → Hp → Prop} {x y : PyData} (S : Sta B G0 H cs ds) (h : Has ds (.tuple [x, y]) v) (k : ∀ w1 w2, Sta B G0 H cs ((x, w1) :: (y, w2) :: ds) → t [w1, w2] σ H N) : kGT K 2 t σ N v H := by
 refine rd_kGT S h rfl fun vs hl S' => ?_
 match vs, hl with
 | [w1, w2], _ => exact k w1 w2 S'
theorem rd_gCons {t : TG} {u : TGs} {σ : L2.St} {N : L2.St → Hp → Prop} {vs : List V} (h : t v σ H fun σ' H' => u vs σ' H' N) : gCons t u (v :: vs) σ H N := ⟨v, vs, rfl, h⟩
theorem rd_gNil {σ : L2.St} {N : L2.St → Hp → Prop} (h : N σ H) : gNil [] σ H N := ⟨rfl, h⟩
def kFor (g : TG) (tb : TS) (D : Ends) (σ : L2.St) : It → Hp → Prop := fun J H1 => ∃ W : Nat → Nat → L2.St → Hp → Prop, (∃ m, W 0 m σ H1) ∧ ∀ i m σ H, W i m σ H →
 (J.stop i H ∧ D.nx σ H) ∨ (J.go i H ∧ ∃ N : L2.St → Hp → Prop, (∀ σ' H', N σ' H' → ∃ m', m' < m ∧ W (i + 1) m' σ' H') ∧ ∀ x H', J.yld i H x H' → g x σ H' fun σ2 H2 => tb { D with nx := N, ct := N, bk := D.nx } σ2 H2)
theorem rd_for {wi : TI} {g : TG} {tb : TS} {D : Ends} {σ : L2.St} (h : wi σ H (kFor g tb D σ)) : tFor wi g tb D σ H := h
def AtP (B G0 : Hp) (Pv : L2.St → Cells → Dat → Prop) : L2.St → Hp → Prop := fun σ H => ∃ cs ds, Sta B G0 H cs ds ∧ Pv σ cs ds
theorem rd_at {Pv : L2.St → Cells → Dat → Prop} {σ : L2.St} (S : Sta B G0 H cs ds) (h : Pv σ cs ds) : AtP B G0 Pv σ H := ⟨cs, ds, S, h⟩
theorem for_wk {J : It} {g : TG} {tb : TS} {D : Ends} {σ : L2.St} (w : Wk B G0 J xs P) (Pv : Nat → L2.St → Cells → Dat → Prop) (S : Sta B G0 H cs ds) (h0 : Pv 0 σ cs ds) (hP : ∀ i σ cs ds, Pv i σ cs ds → P cs ds)
 (hs : ∀ (i : Nat) (x : PyData) (v : V) (σ : L2.St) (H : Hp) (cs : Cells) (ds : Dat), xs[i]? = some x → Pv i σ cs ds → Sta B G0 H cs ((x, v) :: ds) → g v σ H fun σ2 H2 => tb (mkL D (AtP B G0 (Pv (i + 1)))) σ2 H2)
 (hd : ∀ (σ : L2.St) (H : Hp) (cs : Cells) (ds : Dat), Pv xs.length σ cs ds → Sta B G0 H cs ds → D.nx σ H) : kFor g tb D σ J H := by
 refine ⟨fun i m σ H => m = xs.length - i ∧ i ≤ xs.length ∧ AtP B G0 (Pv i) σ H, ⟨xs.length, by simp, Nat.zero_le _, cs, ds, S, h0⟩, ?_⟩
 rintro i m σ H ⟨rfl, hi, cs, ds, S, p⟩
 by_cases hlt : i < xs.length
 ·refine .inr ⟨w.go S (hP _ _ _ _ p) hlt, AtP B G0 (Pv (i + 1)), fun σ' H' p' => ⟨xs.length - (i + 1), by omega, rfl, hlt, p'⟩, fun x H' y => ?_⟩
  exact hs i _ x σ H' cs ds (List.getElem?_eq_getElem hlt) p (w.yld S (hP _ _ _ _ p) (List.getElem?_eq_getElem hlt) y).2
 ·have e : i = xs.length := by omega
  subst e
  exact .inl ⟨w.stop S (hP _ _ _ _ p) (Nat.le_refl _), hd σ H cs ds p S⟩
def kWh (W : Nat → L2.St → Hp → Prop) (tb : TS) (D : Ends) (m : Nat) (σ : L2.St) : Bool → Hp → Prop := fun b H1 => if b = true then ∃ N : L2.St → Hp → Prop, (∀ σ' H', N σ' H' → ∃ m', m' < m ∧ W m' σ' H') ∧ tb { D with nx := N, ct := N, bk := D.nx } σ H1 else D.nx σ H1
theorem rd_wh {tb : TS} {D : Ends} {m : Nat} {σ : L2.St} {b : Bool} {W : Nat → L2.St → Hp → Prop} (h1 : b = true → tb (mkL D (fun σ' H' => ∃ m', m' < m ∧ W m' σ' H')) σ H)
 (h2 : b = false → D.nx σ H) : kWh W tb D m σ b H := by
 cases b with
 | true => exact ⟨_, fun σ' H' q => q, h1 rfl⟩
 | false => exact h2 rfl
theorem while_h {c : TT} {tb : TS} {D : Ends} {σ : L2.St} (W : Nat → L2.St → Hp → Prop) (m : Nat) (h0 : W m σ H) (hs : ∀ (m : Nat) (σ : L2.St) (H : Hp), W m σ H → c σ H (kWh W tb D m σ)) : tWhile c tb D σ H := ⟨W, ⟨m, h0⟩, hs⟩
def kComp (n : Nat) (fr : List Nat) (g : Blk TG) (tt : Blk TT) (te : Blk TE) (σ : L2.St) (Q : VK) : It → Hp → Prop := fun J H1 => ∀ D, H1 D = none → ∀ C ex s0 H0,
 ∃ W : Nat → Nat → List V → Hp → Prop, (∃ m, W 0 m [] (upd H1 D (.lst []))) ∧ ∀ i m ys H2, W i m ys H2 → H2 D = some (.lst ys) ∧
   ((J.stop i H2 ∧ Q (.ref D) H2) ∨ (J.go i H2 ∧ ∀ x H3, J.yld i H2 x H3 → g C ex s0 H0 x (List.replicate n none ++ frσ σ fr) H3 fun σ4 H4 => σ4.drop n = frσ σ fr ∧ tt C ex s0 H0 σ4 H4 fun b H5 =>
     if b = true then te C ex s0 H0 σ4 H5 fun y H6 => H6 D = some (.lst ys) ∧ ys.length < sizeLine ∧ ∃ m', m' < m ∧ W (i + 1) m' (ys ++ [y]) (upd H6 D (.lst (ys ++ [y])))
     else ∃ m', m' < m ∧ W (i + 1) m' ys H5))
theorem rd_comp {n : Nat} {fr : List Nat} {wi : TI} {g : Blk TG} {tt : Blk TT} {te : Blk TE} {σ : L2.St} {Q : VK} (h : wi σ H (kComp n fr g tt te σ Q)) : tComp n fr wi g tt te σ H Q := h
structure Turn1 (B G0 : Hp) (cs : Cells) (B' G' : Hp) : Prop where
 b : Same B B'
 ro : ∀ c ∈ cs, Ro B' G' c.1 c.2
 old : ∀ {L : Addr} {xs : List PyData}, Ro B G0 L xs → Ro B' G' L xs
theorem comp_wk {J : It} {n : Nat} {fr : List Nat} {g : Blk TG} {tt : Blk TT} {te : Blk TE} {σ : L2.St} {Q : VK} (w : Wk B G0 J xs P) (f : Nat → Option PyData) (S : Sta B G0 H cs ds) (hPm : ∀ D ys, P ((D, ys) :: cs) ds) (hn : xs.length ≤ 1000)
 (hs : ∀ (i : Nat) (x : PyData) (v : V) (B' G' : Hp) (Kd : VK) (Kn : Hp → Prop), xs[i]? = some x → Turn1 B G0 cs B' G' → Sta B' G' B' [] ((x, v) :: ds) →
  (∀ {z : PyData} {y : V} {H6 : Hp} {cs' : Cells} {ds' : Dat}, f i = some z → Sta B' G' H6 cs' ds' → Has ds' z y → Kd y H6) → (∀ {H5 : Hp} {cs' : Cells} {ds' : Dat}, f i = none → Sta B' G' H5 cs' ds' → Kn H5) →
  ∀ C ex s0 H0, g C ex s0 H0 v (List.replicate n none ++ frσ σ fr) B' fun σ4 H4 => σ4.drop n = frσ σ fr ∧ tt C ex s0 H0 σ4 H4 fun b H5 => if b = true then te C ex s0 H0 σ4 H5 Kd else Kn H5)
 (k : ∀ D H', Same H H' → Sta B G0 H' ((D, (List.range xs.length).filterMap f) :: cs) ds → Q (.ref D) H') : kComp n fr g tt te σ Q J H := by
 intro D hD C ex s0 H0
 have len : ∀ i, ((List.range i).filterMap f).length ≤ i := fun i => Nat.le_trans (List.length_filterMap_le _ _) (by rw [List.length_range]; exact Nat.le_refl _)
 refine ⟨fun i m ys H2 => m = xs.length - i ∧ i ≤ xs.length ∧ H2 D = some (.lst ys) ∧ Same H H2 ∧ Sta B G0 H2 ((D, (List.range i).filterMap f) :: cs) ds, ⟨xs.length, by simp, Nat.zero_le _, upd_same, Same.new hD _, S.newL hD .nil⟩, ?_⟩
 rintro i m ys H2 ⟨rfl, hi, hDl, hS, S2⟩
 refine ⟨hDl, ?_⟩
 by_cases hlt : i < xs.length
 ·refine .inr ⟨w.go S2 (hPm _ _) hlt, fun v H3 y => ?_⟩
  obtain ⟨e3, G3, S3⟩ := w.yld S2 (hPm _ _) (List.getElem?_eq_getElem hlt) y
  obtain ⟨a, b, c, d, e, f', g'⟩ := id S3
  have h3D : H3 D = some (.lst ys) := e3 _ _ hDl
  have t1 : Turn1 B G0 cs H3 G3 := by
   refine ⟨c, fun q hq => ?_, fun {L zs} ⟨r1, vs, r2, r3⟩ => ?_⟩
   ·obtain ⟨_, y', vs, z', u'⟩ := e q (List.mem_cons_of_mem _ hq)
    exact ⟨y', vs, z', u'⟩
   ·exact ⟨by rw [d L (by rw [r2]; simp)]; exact r1, vs, c _ _ r2, IsAll.mono a _ _ r3⟩
  have up : ∀ {H6 : Hp} {cs' : Cells} {ds' : Dat} {o : HO}, Same H H3 → H D = none → Same H H6 → Same H (upd H6 D o) := fun {H6 cs' ds' o} _ hn h q u hq => by
   rw [upd_ne (ne_of_none hq hn)]; exact h _ _ hq
  refine hs i _ v H3 G3 _ _ (List.getElem?_eq_getElem hlt) t1 (Sta.enter b g') ?_ ?_ C ex s0 H0
  ·intro z y6 H6 cs' ds' fz S6 hz
   obtain ⟨G6, gr, al⟩ := S6.leave
   have h6D : H6 D = some (.lst ys) := gr.h _ _ h3D
   have S6' : StaG B G0 H6 ((D, (List.range i).filterMap f) :: cs) ((xs[i], v) :: ds) G6 := S3.grow gr
   have S7 : Sta B G0 H6 ((D, (List.range i).filterMap f) :: cs) ((z, y6) :: ds) := by
    obtain ⟨a', b', c', d', e', f'', g''⟩ := S6'
    exact ⟨G6, a', b', c', d', e', f'', AllIs.cons (fun p hp => g'' p (List.mem_cons_of_mem _ hp)) (hz G6 al)⟩
   obtain ⟨vs, hv, hl, put⟩ := S7.put
   rw [h6D] at hv
   cases hv
   refine ⟨h6D, small1000 (by have := len i; omega), xs.length - (i + 1), by omega, rfl, hlt, upd_same, up (cs' := cs') (ds' := ds') (hS.trans e3) hD ((hS.trans e3).trans gr.h), ?_⟩
   have er : (List.range (i + 1)).filterMap f = (List.range i).filterMap f ++ [z] := by
    rw [List.range_succ, List.filterMap_append]; simp [fz]
   rw [er]
   exact (put _ _ fun G a u => u.app (by rw [IsAll]; exact ⟨y6, [], rfl, a _ (List.mem_cons_self ..), by rw [IsAll]⟩)).drop1
  ·intro H5 cs' ds' fz S5
   obtain ⟨G5, gr, al⟩ := S5.leave
   have S5' : Sta B G0 H5 ((D, (List.range i).filterMap f) :: cs) ((xs[i], v) :: ds) := ⟨G5, S3.grow gr⟩
   have er : (List.range (i + 1)).filterMap f = (List.range i).filterMap f := by
    rw [List.range_succ, List.filterMap_append]; simp [fz]
   exact ⟨xs.length - (i + 1), by omega, rfl, hlt, gr.h _ _ h3D, (hS.trans e3).trans gr.h, by rw [er]; exact S5'.drop1⟩
 ·have e : i = xs.length := by omega
  subst e
  exact .inl ⟨w.stop S2 (hPm _ _) (Nat.le_refl _), k D H2 hS S2⟩
theorem fm_some {α β : Type} (g : α → β) (l : List α) : l.filterMap (fun i => some (g i)) = l.map g := by
 induction l with
 | nil => rfl
 | cons a l ih => simp [ih]
theorem comp_map {J : It} {n : Nat} {fr : List Nat} {g : Blk TG} {tt : Blk TT} {te : Blk TE} {σ : L2.St} {Q : VK} (w : Wk B G0 J xs P) (f : Nat → PyData) (hy : (List.range xs.length).map f = ys) (S : Sta B G0 H cs ds) (hPm : ∀ D ys, P ((D, ys) :: cs) ds) (hn : xs.length ≤ 1000)
 (hs : ∀ (i : Nat) (x : PyData) (v : V) (B' G' : Hp) (Kd : VK) (Kn : Hp → Prop), xs[i]? = some x → Turn1 B G0 cs B' G' → Sta B' G' B' [] ((x, v) :: ds) →
  (∀ {y : V} {H6 : Hp} {cs' : Cells} {ds' : Dat}, Sta B' G' H6 cs' ds' → Has ds' (f i) y → Kd y H6) →
  ∀ C ex s0 H0, g C ex s0 H0 v (List.replicate n none ++ frσ σ fr) B' fun σ4 H4 => σ4.drop n = frσ σ fr ∧ tt C ex s0 H0 σ4 H4 fun b H5 => if b = true then te C ex s0 H0 σ4 H5 Kd else Kn H5)
 (k : ∀ D H', Same H H' → Sta B G0 H' ((D, ys) :: cs) ds → Q (.ref D) H') : kComp n fr g tt te σ Q J H := by
 refine comp_wk w (fun i => some (f i)) S hPm hn (fun i x v B' G' Kd Kn hx t1 S' hd _ => hs i x v B' G' Kd Kn hx t1 S' fun {y H6 cs' ds'} a b => hd rfl a b) fun D H' e S' => k D H' e ?_
 rw [fm_some, hy] at S'
 exact S'
theorem rd_kILd {R : It → Hp → Prop} (S : Sta B G0 H cs ds) (h : Has ds (.list xs) v) (k : ∀ J, Wk B G0 J xs (fun _ ds => Has ds (.list xs) v) → R J H) : kIL K R v H := by
 obtain ⟨p, vs, rfl, hp, _⟩ := S.lst h
 exact ⟨p, rfl, ⟨_, SqL.of hp⟩, k _ (wk_list src_list)⟩
theorem rd_kITd {R : It → Hp → Prop} (S : Sta B G0 H cs ds) (h : Has ds (.tuple xs) v) (k : ∀ J, Wk B G0 J xs (fun _ ds => Has ds (.tuple xs) v) → R J H) : kIT K R v H := by
 obtain ⟨p, vs, rfl, hp, _⟩ := S.tup h
 exact ⟨p, rfl, ⟨_, SqT.of hp⟩, k _ (wk_tup src_tup)⟩
theorem rd_kILc {R : It → Hp → Prop} {L : Addr} (S : Sta B G0 H cs ds) (h : (L, xs) ∈ cs) (k : ∀ J, Wk B G0 J xs (fun cs _ => (L, xs) ∈ cs) → R J H) : kIL K R (.ref L) H := by
 obtain ⟨vs, hp, _⟩ := S.cell h
 exact ⟨L, rfl, ⟨_, SqL.of hp⟩, k _ (wk_list src_cell)⟩
theorem rd_kEnT {R : It → Hp → Prop} (S : Sta B G0 H cs ds) (h : Has ds (.tuple xs) v) (k : ∀ J, Wk B G0 J (enumD xs) (fun _ ds => Has ds (.tuple xs) v) → R J H) : kEn false K R [v] H := by
 obtain ⟨p, vs, rfl, hp, _⟩ := S.tup h
 exact ⟨p, rfl, ⟨_, SqT.of hp⟩, k _ (wk_enum src_tup)⟩
theorem rd_kEnL {R : It → Hp → Prop} (S : Sta B G0 H cs ds) (h : Has ds (.list xs) v) (k : ∀ J, Wk B G0 J (enumD xs) (fun _ ds => Has ds (.list xs) v) → R J H) : kEn true K R [v] H := by
 obtain ⟨p, vs, rfl, hp, _⟩ := S.lst h
 exact ⟨p, rfl, ⟨_, SqL.of hp⟩, k _ (wk_enum src_list)⟩
theorem rd_kZiTT {R : It → Hp → Prop} {w : V} (S : Sta B G0 H cs ds) (h : Has ds (.tuple xs) v) (h2 : Has ds (.tuple ys) w) (k : ∀ J, Wk B G0 J (zipD xs ys) (fun cs ds => Has ds (.tuple xs) v ∧ (∀ x u, Has ds (.tuple ys) w → Has ((x, u) :: ds) (.tuple ys) w) ∧ Has ds (.tuple ys) w) → R J H) : kZi false false K R [v, w] H := by
 obtain ⟨p, vs, rfl, hp, _⟩ := S.tup h
 obtain ⟨q, ws, rfl, hq, _⟩ := S.tup h2
 exact ⟨p, q, rfl, ⟨_, SqT.of hp⟩, ⟨_, SqT.of hq⟩, k _ (wk_zip src_tup src_tup)⟩
theorem Sta.refL (S : Sta B G0 H cs ds) (h : Has ds (.list xs) v) : ∃ a, v = .ref a := let ⟨p, _, e, _⟩ := S.lst h; ⟨p, e⟩
section
variable {α : Type}
def spT (enc : α → List PyData) (dom : α → Prop) (res : α → PyData) : Sp := fun vs H Q _ => ∃ (G : Hp) (a : α), Same G H ∧ IsAll G (enc a) vs ∧ dom a ∧ ∀ v H' G', Grow G H G' H' → Is G' (res a) v → Q v H'
def spL (enc : α → List PyData) (dom : α → Prop) (res : α → List PyData) : Sp := fun vs H Q _ => ∃ (G : Hp) (a : α), Same G H ∧ IsAll G (enc a) vs ∧ dom a ∧ ∀ p H' G' us, Grow G H G' H' → H p = none → G' p = none → H' p = some (.lst us) → IsAll G' (res a) us → Q (.ref p) H'
def spB (enc : α → List PyData) (dom : α → Prop) (res : α → V) : Sp := fun vs H Q _ => ∃ (a : α), IsAll H (enc a) vs ∧ dom a ∧ ∀ H', Same H H' → Q (res a) H'
variable {enc : α → List PyData} {dom : α → Prop} {res : α → PyData} {resL : α → List PyData} {resB : α → V} {Q : VK} {E : XK} {vs : List V}
theorem rd_spT (a : α) (S : Sta B G0 H cs ds) (hx : HasAll ds (enc a) vs) (hd : dom a) (k : ∀ v H', Same H H' → Sta B G0 H' cs ((res a, v) :: ds) → Q v H') : spT enc dom res vs H Q E := by
 obtain ⟨G, S⟩ := S
 refine ⟨G, a, S.2.1, hx G S.2.2.2.2.2.2, hd, fun v H' G' gr hv => k v H' gr.h ?_⟩
 obtain ⟨a', b', c', d', e', f', g'⟩ := S.grow gr
 exact ⟨G', a', b', c', d', e', f', g'.cons hv⟩
theorem rd_spL (a : α) (S : Sta B G0 H cs ds) (hx : HasAll ds (enc a) vs) (hd : dom a) (k : ∀ p H', Same H H' → Sta B G0 H' ((p, resL a) :: cs) ds → Q (.ref p) H') : spL enc dom resL vs H Q E := by
 obtain ⟨G, S⟩ := S
 refine ⟨G, a, S.2.1, hx G S.2.2.2.2.2.2, hd, fun p H' G' us gr hp hg hu hv => k p H' gr.h ?_⟩
 have hc := S.2.2.1.free hp
 obtain ⟨_, _, _, _, e0, _, _⟩ := id S
 obtain ⟨a', b', c', d', e', f', g'⟩ := S.grow gr
 refine ⟨G', a', b', c', d', fun q hq => ?_, ?_, g'⟩
 ·rcases List.mem_cons.mp hq with rfl | hq
  ·exact ⟨hc, hg, us, hu, hv⟩
  ·exact e' q hq
 ·rw [List.map_cons, List.nodup_cons]
  refine ⟨fun z => ?_, f'⟩
  obtain ⟨q, hq, hqp⟩ := List.mem_map.mp z
  obtain ⟨_, _, ws, z, _⟩ := e0 q hq
  rw [hqp, hp] at z; cases z
theorem rd_spB (a : α) (hx : IsAll H (enc a) vs) (hd : dom a) (k : ∀ H', Same H H' → Q (resB a) H') : spB enc dom resB vs H Q E := ⟨a, hx, hd, k⟩
theorem Sta.hpAll (S : Sta B G0 H cs ds) {xs : List PyData} (h : HasAll ds xs vs) : IsAll H xs vs := by
 obtain ⟨G, a, b, c, d, e, f, g⟩ := S
 exact IsAll.mono b _ _ (h G g)
theorem ret_T {G H' : Hp} {r : PyData} {v : V} (S : Sta H G H' cs ds) (k : ∀ v H' G', Grow G H G' H' → Is G' r v → Q v H') (h : Has ds r v) : Q v H' :=
 let ⟨G', gr, al⟩ := S.leave; k v H' G' gr (h G' al)
theorem ret_L {G H' : Hp} {r : List PyData} {p : Addr} (S : Sta H G H' ((p, r) :: cs) ds) (k : ∀ p H' G' us, Grow G H G' H' → H p = none → G' p = none → H' p = some (.lst us) → IsAll G' r us → Q (.ref p) H') : Q (.ref p) H' := by
 obtain ⟨G', a, b, c, d, e, f, g⟩ := S
 obtain ⟨x, y, us, z, u⟩ := e _ (List.mem_cons_self ..)
 exact k p H' G' us ⟨c, a, b, d⟩ x y z u
theorem ret_B {G H' : Hp} {r : V} (S : Sta H G H' cs ds) (k : ∀ H', Same H H' → Q r H') : Q r H' := k H' S.base
theorem isAll1 {G : Hp} {x : PyData} {vs : List V} (h : IsAll G [x] vs) : ∃ v, vs = [v] ∧ AllIs G [(x, v)] := by
 simp only [IsAll] at h
 obtain ⟨v, _, rfl, h1, rfl⟩ := h
 exact ⟨v, rfl, fun p hp => by simp at hp; subst hp; exact h1⟩
theorem isAll2 {G : Hp} {x y : PyData} {vs : List V} (h : IsAll G [x, y] vs) : ∃ v w, vs = [v, w] ∧ AllIs G [(x, v), (y, w)] := by
 simp only [IsAll] at h
 obtain ⟨v, _, rfl, h1, w, _, rfl, h2, rfl⟩ := h
 exact ⟨v, w, rfl, fun p hp => by simp at hp; rcases hp with rfl | rfl <;> assumption⟩
theorem isAll3 {G : Hp} {x y z : PyData} {vs : List V} (h : IsAll G [x, y, z] vs) : ∃ v w u, vs = [v, w, u] ∧ AllIs G [(x, v), (y, w), (z, u)] := by
 simp only [IsAll] at h
 obtain ⟨v, _, rfl, h1, w, _, rfl, h2, u, _, rfl, h3, rfl⟩ := h
 exact ⟨v, w, u, rfl, fun p hp => by simp at hp; rcases hp with rfl | rfl | rfl <;> assumption⟩
theorem Is.int_of {G : Hp} {i : Int} {v : V} (h : Is G (.int i) v) : v = .int i := by rw [Is] at h; exact h
end
end
end S
namespace S
open PySem PySem.Spec PyProof.Rows L2
theorem newEnv_one {M : Model} {A : Around} {E : Value → Shared → Prop} {s : Shared} {scope : Scope} {globals : Addr} {closure : List (Str × Addr)} {qual y : Str} {func : Option Addr} {code : Value} {env : Env} {builtins : Addr} {Q : Env → Shared → Prop}
 (one : ∀ n acc, cellsFrom n scope.names acc = (y, n) :: acc) (push : ∀ h, pushCells h scope.names = h.push { cls := .type "cell", data := .cell none })
 (hQ : Q (newEnv scope s.heap.objs.size globals ((y, s.heap.objs.size + 1) :: closure) qual func code (some env) builtins) { s with heap := (s.heap.push { cls := .type "dict", data := .dict #[] }).push { cls := .type "cell", data := .cell none } }) :
 wpAny M A (newFunctionEnv scope globals closure [] qual func code (some env) builtins) Q E s := by
 simp only [newFunctionEnv, Option.isSome_some, if_true]
 refine wpAny_bind (wpAny_alloc ?_)
 refine wpAny_bind (wpAny_layCells _ (fun name kind cells => by cases hkc : kind == NameKind.cell <;> simp [hkc]) _ _ _ _ ?_)
 rw [one, push, show ({ s with heap := s.heap.push { cls := .type "dict", data := .dict #[] } } : Shared).heap.objs.size = s.heap.objs.size + 1 from Heap.size_push ..]
 refine wpAny_bind ?_
 rw [List.forIn_nil]
 exact wpAny_pure (wpAny_pure hQ)
def cxComp1 (X : Cx) (N : List Str) (scope : Scope) (y : Str) (C : Addr) (ex : List Addr) (s : Shared) (H : Hp) : Cx where
 prog := X.prog
 w := X.w
 K := X.K
 mg := X.mg
 base := X.base
 A := X.A
 N := N
 s₀ := s
 H₀ := H
 env := compEnvC scope ((y, C + 1) :: closOf X.env.cells scope.names []) C X.env
 outer := X.stack
 stack := X.stack
 ex := ex
 fn := fun x => x == y
 calm := X.calm
 pn := []
 xe := fun _ _ => False
structure CompOk1 (X : Cx) (N : List Str) (n : Nat) (fr : List Nat) (scope : Scope) (y : Str) : Prop where
 kind : scope.kind = .function
 nd : N.Nodup
 names : (N.drop n) = fr.map (fun j => (X.N[j]?).getD ("" : Str))
 own : n ≤ N.length
 inx : (fr.all fun j => decide (j < X.N.length)) = true
 free : ((N.drop n).all fun x => decide (scope.names.lookup x = some .free)) = true
 one : ∀ n acc, cellsFrom n scope.names acc = (y, n) :: acc
 push : ∀ h, pushCells h scope.names = h.push { cls := .type "cell", data := .cell none }
 oth : (scope.names.all fun z => decide (z.2 = .cell → z.1 = y)) = true
 yfree : (scope.names.all fun z => decide (z.2 = .free → z.1 ≠ y)) = true
 loc : (scope.names.all fun y => decide (y.2 = .local → scope.names.lookup y.1 = some .local)) = true
 seen : (scope.names.all fun y => decide (y.2 = .free → (X.env.kindOf y.1 = some .cell ∨ X.env.kindOf y.1 = some .free))) = true
theorem relabel_kinds1 {scope : Scope} {env : Env} {x y : Str} {k : NameKind} (h : (relabel scope env).names.lookup x = some k) (hk : k = .cell ∨ k = .free) (hc : (scope.names.all fun z => decide (z.2 = .cell → z.1 = y)) = true) : x = y ∨ (x, NameKind.free) ∈ scope.names := by
 unfold relabel at h
 dsimp only at h
 have key : ∀ names : List (Str × NameKind), (names.all fun z => decide (z.2 = .cell → z.1 = y)) = true →
  (names.map fun (n, k) => if (k == NameKind.free && env.scope.kind == .function && env.kindOf n == some .cell) = true then (n, NameKind.cell) else (n, k)).lookup x = some k → x = y ∨ (x, NameKind.free) ∈ names := by
  intro names
  induction names with
  | nil => intro _ h; simp at h
  | cons z r ih =>
    intro ha h
    obtain ⟨n, j⟩ := z
    rw [List.all_cons, Bool.and_eq_true] at ha
    rw [List.map_cons] at h
    have e1 : ∀ (b : Bool) (k1 : NameKind), ((if b = true then (n, NameKind.cell) else (n, k1)) : Str × NameKind) = (n, if b = true then NameKind.cell else k1) := by intro b k1; cases b <;> rfl
    dsimp only at h
    rw [e1, List.lookup_cons] at h
    cases hx : x == n with
    | false =>
      rw [hx] at h
      exact (ih ha.2 h).imp id (List.mem_cons_of_mem _)
    | true =>
      rw [hx] at h
      have e : x = n := by simpa using hx
      subst e
      have h' := Option.some.inj h
      have hj : j = .cell → x = y := of_decide_eq_true ha.1
      cases hb : (j == NameKind.free && env.scope.kind == .function && env.kindOf x == some .cell) with
      | true =>
        rw [Bool.and_eq_true, Bool.and_eq_true] at hb
        have : j = .free := by simpa using hb.1.1
        subst this
        exact .inr (List.mem_cons_self ..)
      | false =>
        rw [hb] at h'
        simp only [Bool.false_eq_true, if_false] at h'
        subst h'
        rcases hk with z | z
        ·exact .inl (hj z)
        ·subst z; exact .inr (List.mem_cons_self ..)
 exact key _ hc h
section
variable {X : Cx} {N : List Str} {n : Nat} {fr : List Nat} {scope : Scope} {pins : List (Addr × Obj)} {σ : L2.St} {H : Hp} {s : Shared} {y : Str}
theorem CompOk1.cells (O : CompOk1 X N n fr scope y) (I : Inv X pins σ H s) : ∀ y ∈ scope.names, y.2 = .free → ∃ c, X.env.cells.lookup y.1 = some c := fun y hy hf => I.ok.has y.1 (of_decide_eq_true (List.all_eq_true.mp O.seen y hy) hf)
theorem lookup_y {y x : Str} {a : Addr} {l : List (Str × Addr)} : ((y, a) :: l).lookup x = if x = y then some a else l.lookup x := by
 rw [List.lookup_cons]
 cases h : x == y with
 | true => rw [if_pos (by simpa using h)]
 | false => rw [if_neg (by simpa using h)]
theorem comp_start1 {fp : List Addr} {h' : Heap} {tk : Nat} {m : Str → Option Value} (O : CompOk1 X N n fr scope y) (I : Inv X pins σ H s) (hf : ∀ b ∈ fp, FpOk X pins H b) (hfl : ∀ b ∈ fp, b < s.heap.objs.size)
 (hns : h'.Ns s.heap.objs.size m) (hcl1 : h'.IsCell (s.heap.objs.size + 1) none) (keep : ∀ b o, s.heap.get? b = some o → h'.get? b = some o) :
 Inv (cxComp1 X N scope y s.heap.objs.size fp s H) [] (List.replicate n none ++ frσ σ fr) H { s with heap := h', toks := tk } := by
 have hcl := O.cells I
 have lk : ∀ x c, (closOf X.env.cells scope.names []).lookup x = some c → X.env.cells.lookup x = some c := fun x c h => closOf_lookup hcl (fun c h => by simp at h) h
 have cne : ∀ x c, (closOf X.env.cells scope.names []).lookup x = some c → ∃ v, s.heap.IsCell c v := fun x c h => I.cell x c (lk x c h)
 have clt : ∀ x c, (closOf X.env.cells scope.names []).lookup x = some c → c < s.heap.objs.size := fun x c h => by
  obtain ⟨v, o, ho, _⟩ := cne x c h
  exact Heap.lt_size ho
 have cases1 : ∀ x c, ((y, s.heap.objs.size + 1) :: closOf X.env.cells scope.names []).lookup x = some c → (x = y ∧ c = s.heap.objs.size + 1) ∨ (closOf X.env.cells scope.names []).lookup x = some c := fun x c h => by
  rw [lookup_y] at h
  by_cases e : x = y
  ·rw [if_pos e] at h; exact .inl ⟨e, (Option.some.inj h).symm⟩
  ·rw [if_neg e] at h; exact .inr h
 have injY : ∀ x x' c, ((y, s.heap.objs.size + 1) :: closOf X.env.cells scope.names []).lookup x = some c → ((y, s.heap.objs.size + 1) :: closOf X.env.cells scope.names []).lookup x' = some c → x = x' := fun x x' c h1 h2 => by
  rcases cases1 x c h1 with ⟨a, b⟩ | a
  ·rcases cases1 x' c h2 with ⟨a', _⟩ | a'
   ·rw [a, a']
   ·have := clt x' c a'
    rw [b] at this
    exact absurd (Nat.lt_trans (Nat.lt_succ_self _) this) (Nat.lt_irrefl _)
  ·rcases cases1 x' c h2 with ⟨_, b⟩ | a'
   ·have := clt x c a
    rw [b] at this
    exact absurd (Nat.lt_trans (Nat.lt_succ_self _) this) (Nat.lt_irrefl _)
   ·exact I.ok.inj x x' c (lk x c a) (lk x' c a')
 have cabY : ∀ x c, (x == y) = true → ((y, s.heap.objs.size + 1) :: closOf X.env.cells scope.names []).lookup x = some c → s.heap.objs.size ≤ c := fun x c hx h => by
  rcases cases1 x c h with ⟨_, b⟩ | a
  ·rw [b]; exact Nat.le_succ _
  ·rw [lookup_y, if_pos (by simpa using hx)] at h
   cases h
   exact Nat.le_succ _
 refine ⟨⟨I.mod, O.kind, I.ok.glob, I.ok.blt, Nat.le_refl _, injY, fun x hx => ?_, cabY, I.ok.hd, I.ok.frames, .inl rfl, fun b hb => ⟨Nat.ne_of_lt (hfl b hb), fun x c h => by
  rcases cases1 x c h with ⟨_, z⟩ | z
  ·rw [z]; exact fun e => absurd (hfl b hb) (by rw [← e]; exact Nat.not_lt.mpr (Nat.le_succ _))
  ·exact (hf b hb).2.2.2.2.1 x c (lk x c z)⟩, I.bs, Nat.le_trans I.ok.bsz I.sz, fun b o e hb => ?_, fun b hb z => ?_, I.stack, I.stkFree⟩,
  rfl, I.bare, Un.kept keep, ⟨m, hns, fun i x v h1 h2 h3 => ?_⟩, fun x c h => ?_, I.hok.fresh (Nat.le_refl _), fun x c h => by
   rcases cases1 x c h with ⟨_, z⟩ | z
   ·rw [z]; exact I.hok.fresh (Nat.le_succ _)
   ·exact I.freeC x c (lk x c z), fun p hp => absurd hp (by simp [cxComp1]), I.hok.kept keep, ?_⟩
 ·have hx' : x = y ∨ (x, NameKind.free) ∈ scope.names := by
   rcases hx with hx | hx
   ·exact relabel_kinds1 hx (.inl rfl) O.oth
   ·exact relabel_kinds1 hx (.inr rfl) O.oth
  show ∃ c, ((y, s.heap.objs.size + 1) :: closOf X.env.cells scope.names []).lookup x = some c
  rw [lookup_y]
  by_cases e : x = y
  ·exact ⟨_, if_pos e⟩
  ·rw [if_neg e]
   exact Option.isSome_iff_exists.mp (closOf_has (.inl (hx'.resolve_left e)))
 ·rcases (hf b hb).2.2.2.1 with z | z
  ·exact I.ok.noex b o e z
  ·exact absurd (Nat.lt_of_lt_of_le (Heap.lt_size (I.ok.bs b o e).1) z) (Nat.lt_irrefl _)
 ·rcases List.mem_cons.mp (I.stkSub b z) with q | q
  ·exact (hf b hb).2.1 q
  ·exact (hf b hb).2.2.1 q
 ·by_cases hi : i < n
  ·rw [List.getElem?_append_left (by simpa using hi), List.getElem?_replicate, if_pos hi] at h2
   cases h2
  ·have h1' : (N.drop n)[i - n]? = some x := by rw [List.getElem?_drop, show n + (i - n) = i by omega]; exact h1
   rw [List.getElem?_append_right (by simpa using hi), List.length_replicate] at h2
   unfold frσ at h2
   rw [List.getElem?_map] at h2
   rw [O.names, List.getElem?_map] at h1'
   cases ej : fr[i - n]? with
   | none => rw [ej] at h2; cases h2
   | some j =>
     rw [ej] at h2 h1'
     have hjl : j < X.N.length := of_decide_eq_true (List.all_eq_true.mp O.inx j (List.mem_of_getElem? ej))
     have hx : X.N[j]? = some x := by
      have e := Option.some.inj h1'
      dsimp only at e
      rw [List.getElem?_eq_getElem hjl] at e ⊢
      exact congrArg some e
     have hv : σ[j]? = some (some v) := by
      have e := Option.some.inj h2
      dsimp only at e
      cases es : σ[j]? with
      | none => rw [es] at e; cases e
      | some o => rw [es] at e; rw [show o = some v from e]
     have hfl' : scope.names.lookup x = some .free := by
      refine of_decide_eq_true (List.all_eq_true.mp O.free x ?_)
      exact List.mem_of_getElem? (i := i - n) (by rw [List.getElem?_drop, show n + (i - n) = i by omega]; exact h1)
     have hfx : (x, NameKind.free) ∈ scope.names := PySem.mem_of_lookup hfl'
     have hkX := of_decide_eq_true (List.all_eq_true.mp O.seen _ hfx) rfl
     obtain ⟨mX, hnX, hlX⟩ := I.loc
     obtain ⟨u, ru, lu⟩ := hlX j x v hx hv (hkX.elim (fun z => .inr (.inl z)) fun z => .inr (.inr z))
     refine ⟨u, ru, .inr ⟨?_, ?_⟩⟩
     ·exact relabel_free hfl'
     ·obtain ⟨c, hc⟩ := Option.isSome_iff_exists.mp (closOf_has (cells := X.env.cells) (acc := []) (.inl hfx))
      refine ⟨c, (by
       show ((y, s.heap.objs.size + 1) :: closOf X.env.cells scope.names []).lookup x = some c
       rw [lookup_y, if_neg (of_decide_eq_true (List.all_eq_true.mp O.yfree _ hfx) rfl)]
       exact hc), ?_⟩
      rcases lu with ⟨k, _⟩ | ⟨_, c', hc', z⟩
      ·rcases hkX with q | q
       ·rw [show X.env.kindOf x = _ from k] at q; cases q
       ·rw [show X.env.kindOf x = _ from k] at q; cases q
      ·have := lk x c hc
       rw [hc'] at this
       cases this
       obtain ⟨o, ho, hd⟩ := z
       exact ⟨o, keep _ _ ho, hd⟩
 ·rcases cases1 x c h with ⟨_, z⟩ | z
  ·rw [z]; exact ⟨_, hcl1⟩
  ·obtain ⟨v, o, ho, hd⟩ := cne x c z
   exact ⟨v, o, keep _ _ ho, hd⟩
 ·rw [List.length_append, List.length_replicate]
  unfold frσ
  have e := congrArg List.length O.names
  rw [List.length_drop, List.length_map] at e
  have := O.own
  show _ = N.length
  rw [List.length_map]
  omega
end
section
variable {X : Cx} {N : List Str} {n : Nat} {fr : List Nat} {scope : Scope} {y : Str}
theorem comp_run1 {tg iter elt : Expr} {ifs : List Expr} {pos : Pos} {g : Blk TG} {tt : Blk TT} {te : Blk TE} {pins : List (Addr × Obj)} {σ : L2.St} {H2 : Hp} {s2 : Shared} {it : Addr} {fp : List Addr} {tn : Nat → Heap → Prop} {J : It} {Q : VK}
 {RR : Value → Addr → Result → Shared → Prop} {E : Value → Shared → Prop}
 (hc : X.calm = true) (O : CompOk1 X N n fr scope y)
 (hg : ∀ C ex s H, PG (cxComp1 X N scope y C ex s H) tg (g C ex s H)) (ht : ∀ C ex s H, PIf (cxComp1 X N scope y C ex s H) ifs (tt C ex s H)) (he : ∀ C ex s H, PE (cxComp1 X N scope y C ex s H) elt (te C ex s H))
 (I2 : Inv X pins σ H2 s2) (T : Turn X.prog X.w X.K tg J fp it tn) (st2 : tn 0 s2.heap) (f2 : ∀ b ∈ fp, FpOk X pins H2 b)
 (hW : ∀ D, H2 D = none → ∀ C ex s0 H0, ∃ W : Nat → Nat → List V → Hp → Prop, (∃ m, W 0 m [] (upd H2 D (.lst []))) ∧ ∀ i m ys H2, W i m ys H2 → H2 D = some (.lst ys) ∧
  ((J.stop i H2 ∧ Q (.ref D) H2) ∨ (J.go i H2 ∧ ∀ x H3, J.yld i H2 x H3 → g C ex s0 H0 x (List.replicate n none ++ frσ σ fr) H3 fun σ4 H4 => σ4.drop n = frσ σ fr ∧ tt C ex s0 H0 σ4 H4 fun b H5 =>
    if b = true then te C ex s0 H0 σ4 H5 fun y H6 => H6 D = some (.lst ys) ∧ ys.length < sizeLine ∧ ∃ m', m' < m ∧ W (i + 1) m' (ys ++ [y]) (upd H6 D (.lst (ys ++ [y])))
    else ∃ m', m' < m ∧ W (i + 1) m' ys H5)))
 (hR : ∀ (D C : Addr) (H' : Hp) (s' : Shared), Q (.ref D) H' → (∃ m, s'.heap.Ns C m) → Side X pins H' C → Inv X pins σ H' s' → RR (.ref D) C (.ok .next) s') :
 wpAny (model X.prog X.w) X.A (newList []) (fun acc s₃ => wpAny (model X.prog X.w) X.A (newFunctionEnv scope X.env.globals (closOf X.env.cells scope.names []) [] X.env.qual none .none (some X.env)) (fun cenv s₄ =>
  codeAny (model X.prog X.w) X.A (.compStart (.ListComp elt [⟨tg, iter, ifs, 0⟩] scope pos) 0 (.ref it) acc { cenv with scope := relabel scope X.env }) (RR acc cenv.locals) s₄) E s₃) E s2 := by
 refine wpAny_newObj_type (newEnv_one O.one O.push ?_)
 have hDn : H2 s2.heap.objs.size = none := I2.fresh
 have I3 : Inv X pins σ (upd H2 s2.heap.objs.size (.lst [])) { s2 with heap := s2.heap.push { cls := .type "list", data := .seq ([] : List Value).toArray }, toks := s2.toks } := I2.lnew (its := []) .nil (Nat.zero_le _)
 generalize hD : s2.heap.objs.size = D at *
 dsimp only
 generalize hs3 : s2.heap.push { cls := .type "list", dict := none, data := .seq ([] : List Value).toArray } = hp3 at *
 have k23 : ∀ b o, s2.heap.get? b = some o → hp3.get? b = some o := fun b o e => by rw [← hs3]; exact Heap.get?_push_of_some _ e
 have sz3 : hp3.objs.size = D + 1 := by rw [← hs3, Heap.size_push, hD]
 have hns₁ : ((hp3.push { cls := .type "dict", dict := none, data := .dict #[], slots := #[] }).push { cls := .type "cell", dict := none, data := .cell none, slots := #[] }).Ns hp3.objs.size (fun _ => none) := (Heap.Ns.new hp3 (.type "dict")).keeps fun b o e => Heap.get?_push_of_some _ e
 have hcl₁ : ((hp3.push { cls := .type "dict", dict := none, data := .dict #[], slots := #[] }).push { cls := .type "cell", dict := none, data := .cell none, slots := #[] }).IsCell (hp3.objs.size + 1) none := ⟨_, by
  have := Heap.get?_push_size (hp3.push { cls := .type "dict", dict := none, data := .dict #[], slots := #[] }) (o := { cls := .type "cell", dict := none, data := .cell none, slots := #[] }) rfl
  rw [Heap.size_push] at this
  exact this, rfl⟩
 have keep : ∀ b o, hp3.get? b = some o → ((hp3.push { cls := .type "dict", dict := none, data := .dict #[], slots := #[] }).push { cls := .type "cell", dict := none, data := .cell none, slots := #[] }).get? b = some o := fun b o e => Heap.get?_push_of_some _ (Heap.get?_push_of_some _ e)
 generalize (hp3.push { cls := .type "dict", dict := none, data := .dict #[], slots := #[] }).push { cls := .type "cell", dict := none, data := .cell none, slots := #[] } = h₁ at *
 have flt : ∀ b ∈ fp, b < D := fun b hb => by
  obtain ⟨o, ho, _⟩ := T.obj _ _ st2 b hb
  rw [← hD]
  exact Heap.lt_size ho
 have f3 : ∀ b ∈ fp, FpOk X pins (upd H2 D (.lst [])) b := fun b hb => ⟨by rw [upd_ne (Nat.ne_of_lt (flt b hb))]; exact (f2 b hb).1, (f2 b hb).2⟩
 have IY := comp_start1 (tk := s2.toks) O I3 f3 (fun b hb => by show b < hp3.objs.size; rw [sz3]; exact Nat.lt_succ_of_lt (flt b hb)) hns₁ hcl₁ keep
 obtain ⟨W, ⟨m0, w0⟩, turn⟩ := hW _ hDn hp3.objs.size fp { s2 with heap := hp3, toks := s2.toks } (upd H2 D (.lst []))
 have st4 : tn 0 h₁ := T.keep _ _ _ st2 fun b hb o e => keep b o (k23 b o e)
 generalize hY : cxComp1 X N scope y hp3.objs.size fp { s2 with heap := hp3, toks := s2.toks } (upd H2 D (.lst [])) = Y at *
 have eEnv : Y.env = compEnvC scope ((y, hp3.objs.size + 1) :: closOf X.env.cells scope.names []) hp3.objs.size X.env := by rw [← hY]; rfl
 have hgY := hg hp3.objs.size fp { s2 with heap := hp3, toks := s2.toks } (upd H2 D (.lst []))
 have htY := ht hp3.objs.size fp { s2 with heap := hp3, toks := s2.toks } (upd H2 D (.lst []))
 have heY := he hp3.objs.size fp { s2 with heap := hp3, toks := s2.toks } (upd H2 D (.lst []))
 rw [hY] at hgY htY heY
 have eP : Y.prog = X.prog := by rw [← hY]; rfl
 have eW : Y.w = X.w := by rw [← hY]; rfl
 have eK : Y.K = X.K := by rw [← hY]; rfl
 have eA : Y.A = X.A := by rw [← hY]; rfl
 have eC : Y.calm = true := by rw [← hY]; exact hc
 have eX : Y.xe = fun _ _ => False := by rw [← hY]; rfl
 have fY : ∀ {H' : Hp}, (∀ b ∈ fp, H' b = none) → ∀ b ∈ fp, FpOk Y [] H' b := fun {H'} hn b hb => by
  have h1 := IY.ok.exf b (by rw [← hY]; exact hb)
  refine ⟨hn b hb, h1.1, IY.ok.exfs b (by rw [← hY]; exact hb), .inl (by rw [← hY]; exact hb), h1.2, fun p hp => absurd hp (by rw [← hY]; simp [cxComp1])⟩
 have loop : codeAny (model X.prog X.w) X.A (.compLoop (.ListComp elt [⟨tg, iter, ifs, 0⟩] scope pos) 0 (.ref it) (.ref D) (compEnvC scope ((y, hp3.objs.size + 1) :: closOf X.env.cells scope.names []) hp3.objs.size X.env))
  (RR (.ref D) hp3.objs.size) { s2 with heap := h₁, toks := s2.toks } := by
  refine codeAny_loop rfl (fun k s' => ∃ i ys H', Inv Y [] (List.replicate n none ++ frσ σ fr) H' s' ∧ tn i s'.heap ∧ (∀ b ∈ fp, H' b = none) ∧ W i k ys H') (fun k s5 hI => ?_) m0 ⟨0, [], _, IY, st4, fun b hb => (f3 b hb).1, w0⟩
  obtain ⟨i, ys, H5, I5, st5, fr5, w5⟩ := hI
  show wpAny _ X.A ((compTurn (.ListComp elt [⟨tg, iter, ifs, 0⟩] scope pos) 0 (.ref it) (.ref D) _).onRaise (fun x => do noteFrame x _; theTreesLotGoes x)) _ _ s5
  refine wpAny_noted ?_
  rw [compTurn_list, ← eEnv]
  refine wpAny_bind (wpAny_standAt (wpAny_bind ?_))
  obtain ⟨hDl, step⟩ := turn i k ys H5 w5
  rcases step with ⟨stop, qn⟩ | ⟨go, step⟩
  ·have d := T.done Y eP eW eK eC i [] s5 _ H5 (fun _ _ => False) I5 (fY fr5) st5 stop
   rw [eA] at d
   refine wpAny_noE (thn d fun r s6 ⟨hr, I6⟩ => ?_)
   subst hr
   refine wpAny_pure ?_
   have hC : H5 hp3.objs.size = none := by have := I6.free; rw [eEnv] at this; exact this
   have hns6 : ∃ m, s6.heap.Ns hp3.objs.size m := by
    have := I6.loc
    rw [eEnv] at this
    obtain ⟨m, hm, _⟩ := this
    exact ⟨m, hm⟩
   have sd : Side X pins H5 hp3.objs.size := ⟨hC, Nat.ne_of_gt I3.lt, I3.sz, fun x c e => Nat.ne_of_lt (let ⟨v, o, ho, _⟩ := I3.cell x c e; Heap.lt_size ho), fun p hp => Nat.ne_of_lt (Heap.lt_size (I3.pin p hp).1)⟩
   refine hR D hp3.objs.size H5 s6 qn hns6 sd ?_
   have un := I6.base
   have e0 : Y.s₀.heap = hp3 := by rw [← hY]; rfl
   have eH0 : Y.H₀ = upd H2 D (.lst []) := by rw [← hY]; rfl
   have eF : Y.fs = frs X.stack := by rw [← hY]; rfl
   have eEx : Y.ex = fp := by rw [← hY]; rfl
   rw [e0, eH0, eF, eEx] at un
   have hok' : HOk X.prog X.w H5 s6.heap := by have := I6.hok; rw [eP, eW] at this; exact this
   have os6 : s6.os = s2.os := I6.os.trans (by rw [← hY]; rfl)
   exact I3.call' (s' := s6) (ch := fp) os6 un hok' I6.bare fun b hb => ⟨(f2 b hb).2.2.2.1, (f2 b hb).2.1, (f2 b hb).2.2.2.2.1, (f2 b hb).2.2.2.2.2⟩
  ·have d := T.item Y eP eW eK eC i [] s5 _ H5 (fun _ _ => False) I5 (fY fr5) st5 go
   rw [eA] at d
   refine wpAny_noE (thn d fun r s6 ⟨u, hr, h6⟩ => ?_)
   subst hr
   refine wpAny_bind (wpAny_noE (thn h6 fun _ s7 ⟨x, H7, I7, r7, y7, st7, fr7⟩ => ?_))
   have I7' := I7.pinned (fY fr7) (T.obj _ _ st7)
   have g7 := hgY _ s7 _ H7 x u _ I7' r7 (step x H7 y7)
   rw [eA, eP, eW, eX] at g7
   refine wpAny_bind (wpAny_noE (thn g7 fun _ s8 ⟨σ8, H8, I8, ed, q8⟩ => ?_))
   have t8 := htY _ s8 σ8 H8 _ I8 q8
   rw [eA, eP, eW, eX] at t8
   refine wpAny_bind (wpAny_noE (thn t8 fun b s9 ⟨H9, I9, q9⟩ => ?_))
   have back : ∀ {s' : Shared} {H' : Hp} {ys' : List V} {m' : Nat}, Inv Y ([] ++ pinsAt fp s7.heap) σ8 H' s' → m' < k → W (i + 1) m' ys' H' → ∃ m, m < k ∧ ∃ i ys H', Inv Y [] (List.replicate n none ++ frσ σ fr) H' s' ∧ tn i s'.heap ∧ (∀ b ∈ fp, H' b = none) ∧ W i m ys H' := fun {s' H' ys' m'} I' hm w' => by
    refine ⟨m', hm, i + 1, ys', H', ?_, T.keep _ _ _ st7 fun b hb o e => (I'.pin (b, o) (List.mem_append_right _ (List.mem_append_right _ (mem_pinsAt hb e)))).1, fun b hb => ?_, w'⟩
    ·refine (Inv.unpinned I').weak ?_ fun j v hj => ?_
     ·exact IY.len.trans I'.len.symm
     ·by_cases hjn : j < n
      ·rw [List.getElem?_append_left (by simpa using hjn), List.getElem?_replicate, if_pos hjn] at hj
       cases hj
      ·rw [List.getElem?_append_right (by simpa using hjn), List.length_replicate, ← ed, List.getElem?_drop, show n + (j - n) = j by omega] at hj
       exact hj
    ·obtain ⟨o, e, d⟩ := T.obj _ _ st7 b hb
     exact (I'.pin (b, o) (List.mem_append_right _ (List.mem_append_right _ (mem_pinsAt hb e)))).2.1
   cases b with
   | false =>
     obtain ⟨m', hm, w9⟩ := q9
     exact wpAny_pure ⟨rfl, back I9 hm w9⟩
   | true =>
     have e9 := heY _ s9 σ8 H9 _ I9 q9
     rw [eA, eP, eW, eX] at e9
     refine wpAny_bind (wpAny_bind (wpAny_noE (thn e9 fun v s10 ⟨y, H10, I10, r10, hD10, hz, m', hm, w10⟩ => ?_)))
     have a10 := mt_append _ s10 σ8 H10 (.ref D) [y] (.ref D) [v] (fun _ H' => H' = upd H10 D (.lst (ys ++ [y]))) I10 rfl (.cons r10 .nil) ⟨D, ys, y, rfl, rfl, hD10, hz, rfl⟩
     rw [eA, eP, eW, eX] at a10
     refine wpAny_bind (wpAny_noE (thn a10 fun _ s11 ⟨_, H11, I11, _, e11⟩ => ?_))
     subst e11
     exact wpAny_pure (wpAny_pure ⟨rfl, back I11 hm w10⟩)
 exact codeAny_compStart_list loop (T.self _ _ _ _ _ st4 loop)
theorem pe_comp1 {tg iter elt : Expr} {ifs : List Expr} {pos : Pos} {wi : TI} {g : Blk TG} {tt : Blk TT} {te : Blk TE}
 (hc : X.calm = true) (O : CompOk1 X N n fr scope y) (hi : PI X tg iter wi)
 (hg : ∀ C ex s H, PG (cxComp1 X N scope y C ex s H) tg (g C ex s H)) (ht : ∀ C ex s H, PIf (cxComp1 X N scope y C ex s H) ifs (tt C ex s H)) (he : ∀ C ex s H, PE (cxComp1 X N scope y C ex s H) elt (te C ex s H))
 (hs : ∀ x, foldedSetIterable iter X.env x = pure x := by intro _; rfl) :
 PE X (.ListComp elt [⟨tg, iter, ifs, 0⟩] scope pos) (tComp n fr wi g tt te) := by
 intro pins s σ H Q I h
 rw [eval_ListComp]
 refine wpAny_comprehension_free (use := none) rfl hs (closureFor_eq (O.cells I)) O.kind (fun y hy => of_decide_eq_true (List.all_eq_true.mp O.loc y hy)) (thn (hi pins s σ H _ I h) fun v s1 h1 => thn h1 fun itv s2 h2 => ?_)
 obtain ⟨it, fp, tn, J, H2, e, I2, T, st2, f2, hW⟩ := h2
 subst e
 refine comp_run1 (RR := fun acc C => compPost (model X.prog X.w) X.A X.xe none (EP X pins σ Q) acc C) hc O hg ht he I2 T st2 f2 hW ?_
 intro D C H' s' q ⟨m, hm⟩ sd inv
 exact ⟨m, hm, fun h' hs' => ⟨.ref D, H', inv.turned (t' := s'.toks) (it := C) (fun b o hb e => hs'.extBut b o hb e) sd.nt sd.nl (.inr sd.ab) sd.nc sd.np, rfl, q⟩⟩
end
end S
namespace S
def par (c t : List Int) : Prop := c.map (· * t.sum) = t.map (· * c.sum)
instance (c t : List Int) : Decidable (par c t) := inferInstanceAs (Decidable (_ = _))
open Classical in
noncomputable def keepFrom (a : Rat × List Rat) : List (Rat × List Rat) → List (Rat × List Rat)
 | [] => []
 | [b] => [b]
 | b :: c :: r => if straight a b c then keepFrom b (c :: r) else b :: keepFrom b (c :: r)
open Classical in
noncomputable def keptAt (cs : List Corner) (i : Nat) : Bool := decide (i = 0 ∨ i + 1 = cs.length ∨ ¬ ∀ (a b c : Corner), cs[i - 1]? = some a → cs[i]? = some b → cs[i + 1]? = some c → straight a b c)
open Classical in
theorem kept_true {cs : List Corner} {i : Nat} (h : i = 0 ∨ i + 1 = cs.length ∨ ¬ ∀ (a b c : Corner), cs[i - 1]? = some a → cs[i]? = some b → cs[i + 1]? = some c → straight a b c) : keptAt cs i = true := by
 unfold keptAt; exact decide_eq_true h
open Classical in
theorem kept_false {cs : List Corner} {i : Nat} (h : ¬ (i = 0 ∨ i + 1 = cs.length ∨ ¬ ∀ (a b c : Corner), cs[i - 1]? = some a → cs[i]? = some b → cs[i + 1]? = some c → straight a b c)) : keptAt cs i = false := by
 unfold keptAt; exact decide_eq_false h
noncomputable def keepAll : List Corner → List Corner
 | [] => []
 | c :: r => c :: keepFrom c r
theorem keep_aux : ∀ (r pre : List Corner) (a : Corner), (List.range' (pre.length + 1) r.length).filterMap (fun j => if keptAt (pre ++ a :: r) j then (pre ++ a :: r)[j]? else none) = keepFrom a r
 | [], pre, a => by simp [keepFrom]
 | [b], pre, a => by
   have hk : keptAt (pre ++ [a, b]) (pre.length + 1) = true := kept_true (.inr (.inl (by simp)))
   simp [keepFrom, hk]
 | b :: c :: r, pre, a => by
   have ih := keep_aux (c :: r) (pre ++ [a]) b
   rw [List.length_append, List.length_singleton, List.append_assoc, List.singleton_append] at ih
   rw [List.length_cons, List.range'_succ, List.filterMap_cons, keepFrom]
   have g0 : (pre ++ a :: b :: c :: r)[pre.length + 1 - 1]? = some a := by
    rw [Nat.add_sub_cancel, List.getElem?_append_right (Nat.le_refl _), Nat.sub_self]; rfl
   have g1 : (pre ++ a :: b :: c :: r)[pre.length + 1]? = some b := by
    rw [List.getElem?_append_right (by omega), show pre.length + 1 - pre.length = 1 by omega]; rfl
   have g2 : (pre ++ a :: b :: c :: r)[pre.length + 1 + 1]? = some c := by
    rw [List.getElem?_append_right (by omega), show pre.length + 1 + 1 - pre.length = 2 by omega]; rfl
   by_cases hs : straight a b c
   ·have hk : keptAt (pre ++ a :: b :: c :: r) (pre.length + 1) = false := by
     refine kept_false ?_
     rintro (q | q | q)
     ·omega
     ·simp at q; omega
     ·refine q fun x y z hx hy hz => ?_
      rw [g0] at hx; rw [g1] at hy; rw [g2] at hz
      cases hx; cases hy; cases hz
      exact hs
    rw [hk, if_pos hs]
    simpa using ih
   ·have hk : keptAt (pre ++ a :: b :: c :: r) (pre.length + 1) = true := kept_true (.inr (.inr fun q => hs (q a b c g0 g1 g2)))
    rw [hk, if_neg hs, if_pos rfl, g1]
    dsimp only
    rw [ih]
theorem keep_range {β : Type} (cs : List Corner) (g : Corner → β) : (List.range cs.length).filterMap (fun j => if keptAt cs j then (cs[j]?).map g else none) = (keepAll cs).map g := by
 have e : (List.range cs.length).filterMap (fun j => if keptAt cs j then (cs[j]?).map g else none) = ((List.range cs.length).filterMap (fun j => if keptAt cs j then cs[j]? else none)).map g := by
  rw [List.map_filterMap]
  congr 1
  funext j
  split <;> rfl
 rw [e]
 congr 1
 cases cs with
 | nil => rfl
 | cons c r =>
   rw [List.length_cons, List.range_eq_range', List.range'_succ, List.filterMap_cons]
   have hk : keptAt (c :: r) 0 = true := kept_true (.inl rfl)
   rw [hk, if_pos rfl]
   have := keep_aux r [] c
   simp only [List.length_nil, List.nil_append, Nat.zero_add] at this
   simp only [List.getElem?_cons_zero, Nat.zero_add]
   rw [this, keepAll]
end S
namespace S
open PySem PySem.Spec PyProof.Rows L2
section
variable {α : Type} {enc : α → List PyData} {dom : α → Prop} {res : α → V} {B G0 H : Hp} {cs : Cells} {ds : Dat} {Q : VK} {E : XK} {vs : List V} {v w : V}
def spP (enc : α → List PyData) (dom : α → Prop) (res : α → V) : Sp := fun vs H Q _ => ∃ (a : α), IsAll H (enc a) vs ∧ dom a ∧ Q (res a) H
theorem rd_spP (a : α) (S : Sta B G0 H cs ds) (hx : HasAll ds (enc a) vs) (hd : dom a) (k : Q (res a) H) : spP enc dom res vs H Q E := ⟨a, S.hpAll hx, hd, k⟩
theorem SzQ.of_div {n : Nat} {q : Rat} {a b : Int} (e : q = Rat.divInt a b) (ha : Sz n a) (hb : Sz n b) (h0 : b ≠ 0) : SzQ n q := by rw [e]; exact SzQ.divInt ha hb h0
theorem den_mul_ne (p q : Rat) : (p.den : Int) * (q.den : Int) ≠ 0 := Int.ne_of_gt (Int.mul_pos (den_pos p) (den_pos q))
theorem add_div (p q : Rat) : Rat.divInt (p.num * (q.den : Int) + q.num * (p.den : Int)) ((p.den : Int) * (q.den : Int)) = p + q := by
 rw [Rat.add_def', ← Int.natCast_mul, Rat.divInt_ofNat]
theorem sub_div (p q : Rat) : Rat.divInt (p.num * (q.den : Int) - q.num * (p.den : Int)) ((p.den : Int) * (q.den : Int)) = p - q := by
 rw [Rat.sub_def', ← Int.natCast_mul, Rat.divInt_ofNat]
theorem mul_div (p q : Rat) : Rat.divInt (p.num * q.num) ((p.den : Int) * (q.den : Int)) = p * q := by
 rw [Rat.mul_def', ← Int.natCast_mul, Rat.divInt_ofNat]
theorem num_ne {q : Rat} (h : q ≠ 0) : q.num ≠ 0 := fun z => h (Rat.num_eq_zero.mp z)
theorem div_div (p q : Rat) (h : q ≠ 0) : Rat.divInt (p.num * (q.den : Int)) ((p.den : Int) * q.num) = p / q := by
 rw [← Rat.divInt_mul_divInt, Rat.num_divInt_den, Rat.div_def, Rat.inv_def]
section
variable {m n : Nat} {p q : Rat}
theorem SzQ.add (hp : SzQ m p) (hq : SzQ n q) : SzQ (m + n + 1) (p + q) :=
 SzQ.of_div (add_div p q).symm (((hp.1.mul hq.2).add ((hq.1.mul hp.2).mono (Nat.le_of_eq (Nat.add_comm n m))))) ((hp.2.mul hq.2).mono (Nat.le_succ _)) (den_mul_ne p q)
theorem SzQ.sub (hp : SzQ m p) (hq : SzQ n q) : SzQ (m + n + 1) (p - q) :=
 SzQ.of_div (sub_div p q).symm (((hp.1.mul hq.2).sub ((hq.1.mul hp.2).mono (Nat.le_of_eq (Nat.add_comm n m))))) ((hp.2.mul hq.2).mono (Nat.le_succ _)) (den_mul_ne p q)
theorem SzQ.mul (hp : SzQ m p) (hq : SzQ n q) : SzQ (m + n) (p * q) :=
 SzQ.of_div (mul_div p q).symm (hp.1.mul hq.1) (hp.2.mul hq.2) (den_mul_ne p q)
theorem SzQ.div (hp : SzQ m p) (hq : SzQ n q) : SzQ (m + n) (p / q) := by
 by_cases h : q = 0
 ·subst h
  rw [Rat.div_def, Rat.inv_zero, Rat.mul_zero]
  have hm : 1 ≤ m := by
   cases m with
   | zero =>
     have h1 : (p.den : Int).natAbs < 2 ^ 0 := hp.2
     have h2 := den_pos p
     simp at h1
     omega
   | succ m => omega
  exact ⟨sz_small (n := m + n) (by omega) (show (-2 : Int) < 0 by decide) (show (0 : Int) < 2 by decide), sz_small (n := m + n) (by omega) (show (-2 : Int) < 1 by decide) (show (1 : Int) < 2 by decide)⟩
 ·exact SzQ.of_div (div_div p q h).symm (hp.1.mul hq.2) (hp.2.mul hq.1) (Int.mul_ne_zero (Int.ne_of_gt (den_pos p)) (num_ne h))
end
def spLowest : Sp := spT (α := Int × Int) (fun a => [.int a.1, .int a.2]) (fun a => a.2 ≠ 0 ∧ Sz 8999 a.2) (fun a => frD (Rat.divInt a.1 a.2))
theorem rd_lowest {i j : Int} (S : Sta B G0 H cs ds) (h0 : j ≠ 0) (hz : Sz 8999 j) (k : ∀ r H', Same H H' → Sta B G0 H' cs ((frD (Rat.divInt i j), r) :: ds) → Q r H') : spLowest [.int i, .int j] H Q E :=
 rd_spT (i, j) S (.cons Has.int (.cons Has.int .nil)) ⟨h0, hz⟩ k
def spQ2 (dom : Rat → Rat → Prop) (g : Rat → Rat → Rat) : Sp := spT (α := Rat × Rat) (fun a => [frD a.1, frD a.2]) (fun a => (∃ m n, SzQ m a.1 ∧ SzQ n a.2 ∧ m + n ≤ 8999) ∧ dom a.1 a.2) (fun a => frD (g a.1 a.2))
theorem rd_q2 {dm : Rat → Rat → Prop} {g : Rat → Rat → Rat} {p q : Rat} {m n : Nat} (S : Sta B G0 H cs ds) (h1 : Has ds (frD p) v) (h2 : Has ds (frD q) w) (s1 : SzQ m p) (s2 : SzQ n q) (hmn : m + n ≤ 8999) (hd : dm p q)
 (k : ∀ r H', Same H H' → Sta B G0 H' cs ((frD (g p q), r) :: ds) → Q r H') : spQ2 dm g [v, w] H Q E :=
 rd_spT (p, q) S (.cons h1 (.cons h2 .nil)) ⟨⟨m, n, s1, s2, hmn⟩, hd⟩ k
abbrev domT : Rat → Rat → Prop := fun _ _ => True
abbrev spPlus : Sp := spQ2 domT fun p q => p + q
abbrev spMinus : Sp := spQ2 domT fun p q => p - q
abbrev spTimes : Sp := spQ2 domT fun p q => p * q
abbrev spOver : Sp := spQ2 (fun _ q => q ≠ 0) fun p q => p / q
def spBefore : Sp := spP (α := Rat × Rat) (fun a => [frD a.1, frD a.2]) (fun a => ∃ m n, SzQ m a.1 ∧ SzQ n a.2 ∧ m + n ≤ 100000000) (fun a => .bl (decide (a.1 < a.2)))
theorem rd_before {p q : Rat} {m n : Nat} (S : Sta B G0 H cs ds) (h1 : Has ds (frD p) v) (h2 : Has ds (frD q) w) (s1 : SzQ m p) (s2 : SzQ n q) (hmn : m + n ≤ 100000000) (k : Q (.bl (decide (p < q))) H) : spBefore [v, w] H Q E :=
 rd_spP (p, q) S (.cons h1 (.cons h2 .nil)) ⟨m, n, s1, s2, hmn⟩ k
def cellAt (ns : List Int) (k : Int) : Int := if k < (ns.length : Int) then ns.getD k.toNat 0 else 0
def spCell (K : PySem.W.Frag) : Sp := fun vs H Q _ => ∃ (a : Addr) (ns : List Int) (k : Int), vs = [.ref a, .int k] ∧ SqL K H a (ns.map V.int) ∧ 0 ≤ k ∧ Q (.int (cellAt ns k)) H
theorem rd_cell {K : PySem.W.Frag} {a : Addr} {ns : List Int} {k : Int} (hS : SqL K H a (ns.map V.int)) (h0 : 0 ≤ k) (h : Q (.int (cellAt ns k)) H) : spCell K [.ref a, .int k] H Q E := ⟨a, ns, k, rfl, hS, h0, h⟩
def spDiv2 : Sp := fun vs H Q _ => ∃ a b : Int, vs = [.int a, .int b] ∧ 0 ≤ b ∧ Q (.int (Int.gcd a b : Nat)) H
theorem rd_div2 {a b : Int} (h0 : 0 ≤ b) (h : Q (.int (Int.gcd a b : Nat)) H) : spDiv2 [.int a, .int b] H Q E := ⟨a, b, rfl, h0, h⟩
def spLawLow : Sp := spT (α := Int × Int) (fun a => [.int a.1, .int a.2]) (fun a => 0 < a.2 ∧ Sz 8999 a.2) (fun a => frD (Rat.divInt a.1 a.2))
theorem rd_lawlow {i j : Int} (S : Sta B G0 H cs ds) (h0 : 0 < j) (hz : Sz 8999 j) (k : ∀ r H', Same H H' → Sta B G0 H' cs ((frD (Rat.divInt i j), r) :: ds) → Q r H') : spLawLow [.int i, .int j] H Q E :=
 rd_spT (i, j) S (.cons Has.int (.cons Has.int .nil)) ⟨h0, hz⟩ k
def mixV (c p : Int) : Int := (((c % 2147483629 * 16807 + 69621 * p + 11) % 2147483629) * ((c % 2147483629 * 16807 + 69621 * p + 11) % 2147483629) + 48271 * p + 7) % 2147483629 * 69621 % 2147483587
def spMix : Sp := fun vs H Q _ => ∃ c p : Int, vs = [.int c, .int p] ∧ Q (.int (mixV c p)) H
theorem rd_mix {c p : Int} (h : Q (.int (mixV c p)) H) : spMix [.int c, .int p] H Q E := ⟨c, p, rfl, h⟩
def rowD (r : List Int) : PyData := .list (r.map PyData.int)
theorem Sta.put_call {G G' H' : Hp} {p : Addr} {us : List V} {xs : List PyData} (S : StaG B G0 H cs ds G) (gr : Grow G H G' H') (hp : H p = none) (hg : G' p = none) (hu : H' p = some (.lst us)) (hv : IsAll G' xs us) : Sta B G0 H' ((p, xs) :: cs) ds := by
 have hc := S.2.2.1.free hp
 obtain ⟨_, _, _, _, e0, _, _⟩ := id S
 obtain ⟨a', b', c', d', e', f', g'⟩ := S.grow gr
 refine ⟨G', a', b', c', d', fun q hq => ?_, ?_, g'⟩
 ·rcases List.mem_cons.mp hq with rfl | hq
  ·exact ⟨hc, hg, us, hu, hv⟩
  ·exact e' q hq
 ·rw [List.map_cons, List.nodup_cons]
  refine ⟨fun z => ?_, f'⟩
  obtain ⟨q, hq, hqp⟩ := List.mem_map.mp z
  obtain ⟨_, _, ws, z, _⟩ := e0 q hq
  rw [hqp, hp] at z; cases z
theorem rd_true {σ : L2.St} {R : Bool → Hp → Prop} (h : R true H) : tTrue σ H R := h
def zeroV (m : Nat) : List Int := List.replicate m 0
theorem zeroV_len (m : Nat) : (zeroV m).length = m := List.length_replicate
theorem eqvAll_map {β : Type} [DecidableEq β] {f : β → PyData} (hf : ∀ a b, PyData.eqv (f a) (f b) = decide (a = b)) : ∀ xs ys : List β, PyData.eqvAll (xs.map f) (ys.map f) = decide (xs = ys)
 | [], [] => by rw [List.map_nil, PyData.eqvAll]; rfl
 | [], _ :: _ => by rw [List.map_nil, List.map_cons, PyData.eqvAll, decide_eq_false (by simp)]
 | _ :: _, [] => by rw [List.map_nil, List.map_cons, PyData.eqvAll, decide_eq_false (by simp)]
 | x :: xs, y :: ys => by
   rw [List.map_cons, List.map_cons, PyData.eqvAll, hf, eqvAll_map hf xs ys, ← Bool.decide_and]
   exact dec_congr (by simp)
theorem eqv_int (a b : Int) : PyData.eqv (.int a) (.int b) = decide (a = b) := by rw [PyData.eqv]; rfl
theorem eqv_row (a b : List Int) : PyData.eqv (rowD a) (rowD b) = decide (a = b) := by unfold rowD; rw [PyData.eqv]; exact eqvAll_map eqv_int a b
theorem lay_int (a : Int) : (PyData.int a).canLay0 = true := by rw [PyData.canLay0]
theorem dep_int (a : Int) : (PyData.int a).depth ≤ 1 := by rw [PyData.depth]; exact Nat.zero_le _
theorem lay_row (a : List Int) : (rowD a).canLay0 = true := by unfold rowD; rw [PyData.canLay0]; exact lay_all lay_int a
theorem dep_row (a : List Int) : (rowD a).depth ≤ 2 := by unfold rowD; rw [PyData.depth]; exact Nat.succ_le_succ (dep_all dep_int a)
theorem shaped_of {d : PyData} {n : Nat} (h : d.canLay0 = true) (g : d.depth ≤ n) (l : n ≤ 64) : SeqAt.shaped d = true := by
 unfold SeqAt.shaped
 rw [h, decide_eq_true (Nat.le_trans g l)]; rfl
theorem shaped_row (a : List Int) : SeqAt.shaped (rowD a) = true := shaped_of (lay_row a) (dep_row a) (by decide)
def tyD : PyData → String
 | .none => "NoneType"
 | .bool _ => "bool"
 | .int _ => "int"
 | .str _ => "str"
 | .list _ => "list"
 | .tuple _ => "tuple"
 | .dict _ => "dict"
def noIns : PyData → Bool
 | .dict _ => false
 | _ => true
theorem Is.ty {K : PySem.W.Frag} {d : PyData} (h : Is H d v) (nd : noIns d = true) : TyOf K H v (.type (tyD d)) := by
 cases d with
 | none => rw [Is] at h; subst h; exact .non
 | bool b => rw [Is] at h; subst h; exact .bl b
 | int b => rw [Is] at h; subst h; exact .int b
 | str b => rw [Is] at h; subst h; exact .str b
 | list xs => rw [Is] at h; obtain ⟨p, vs, rfl, e, _⟩ := h; exact .lst e
 | tuple xs => rw [Is] at h; obtain ⟨p, vs, rfl, e, _⟩ := h; exact .tup e
 | dict _ => cases nd
theorem rd_isi {K : PySem.W.Frag} {d : PyData} {T : String} {b : Bool} (h : Is H d v) (e : PySem.W.kitOne K (.type (tyD d)) (.type T) = some b) (k : Q (.bl b) H) (nd : noIns d = true) : rIsi K [v, .ty T] H Q := ⟨v, T, _, b, rfl, h.ty nd, e, k⟩
section
variable {K : PySem.W.Frag}
theorem kit_tt : PySem.W.kitOne K (.type "tuple") (.type "tuple") = some true := by rfl
theorem kit_ib : PySem.W.kitOne K (.type "int") (.type "bool") = some false := by rfl
theorem kit_ii : PySem.W.kitOne K (.type "int") (.type "int") = some true := by rfl
end
theorem mapAt {α β : Type} {f : α → β} {l : List α} {i : Nat} {x : β} (h : (l.map f)[i]? = some x) : ∃ n, l[i]? = some n ∧ x = f n := by
 rw [List.getElem?_map] at h
 cases e : l[i]? with
 | none => rw [e] at h; cases h
 | some n => rw [e] at h; exact ⟨n, rfl, (Option.some.inj h).symm⟩
theorem range_getD {α β : Type} (g : α → β) (d : α) : ∀ l : List α, (List.range l.length).map (fun i => g (l.getD i d)) = l.map g := by
 intro l
 apply List.ext_getElem?
 intro i
 rw [List.getElem?_map, List.getElem?_map]
 by_cases h : i < l.length
 ·rw [List.getElem?_range h, List.getElem?_eq_getElem h]
  simp [h]
 ·rw [List.getElem?_eq_none (by simpa using Nat.le_of_not_lt h), List.getElem?_eq_none (by omega)]; rfl
theorem getD_of {α : Type} {l : List α} {i : Nat} {n d : α} (h : l[i]? = some n) : l.getD i d = n := by rw [List.getD_eq_getElem?_getD, h]; rfl
theorem Sta.int1 {n : Int} (S : Sta B G0 H cs ((.int n, v) :: ds)) : v = .int n := S.top.int_of
theorem atI_neg1 {α : Type} {xs : List α} {x : α} (h : xs.getLast? = some x) : atI xs (-1) = some x := by
 obtain ⟨ys, rfl⟩ : ∃ ys, xs = ys ++ [x] := by
  have hne : xs ≠ [] := by intro e; subst e; simp at h
  refine ⟨xs.dropLast, ?_⟩
  rw [List.getLast?_eq_some_getLast hne] at h
  rw [← Option.some.inj h, List.dropLast_concat_getLast]
 exact atI_last ys x
theorem Dats.nil : ∀ p ∈ ([] : Dat), Has ds p.1 p.2 := fun p hp => absurd hp List.not_mem_nil
theorem Dats.cons {x : PyData} {r : Dat} (h : Has ds x v) (g : ∀ p ∈ r, Has ds p.1 p.2) : ∀ p ∈ (x, v) :: r, Has ds p.1 p.2 := fun p hp => by
 rcases List.mem_cons.mp hp with rfl | hp
 ·exact h
 ·exact g p hp
theorem sum_mulL (c : Int) : ∀ l : List Int, (l.map (c * ·)).sum = c * l.sum
 | [] => by simp
 | x :: l => by rw [List.map_cons, List.sum_cons, List.sum_cons, sum_mulL c l]; grind
def gapD (p q : Rat) : PyData := .tuple [.int (q.num * (p.den : Int) - p.num * (q.den : Int)), .int ((p.den : Int) * (q.den : Int))]
def spGap : Sp := spT (α := Rat × Rat) (fun a => [frD a.1, frD a.2]) (fun a => SzQ 2000 a.1 ∧ SzQ 2000 a.2) (fun a => gapD a.1 a.2)
theorem rd_gap {p q : Rat} (S : Sta B G0 H cs ds) (h1 : Has ds (frD p) v) (h2 : Has ds (frD q) w) (s1 : SzQ 2000 p) (s2 : SzQ 2000 q) (k : ∀ r H', Same H H' → Sta B G0 H' cs ((gapD p q, r) :: ds) → Q r H') : spGap [v, w] H Q E :=
 rd_spT (p, q) S (.cons h1 (.cons h2 .nil)) ⟨s1, s2⟩ k
def SzC (n : Nat) (c : Corner) : Prop := SzQ n c.1 ∧ ∀ q ∈ c.2, SzQ n q
theorem gap_sz {p q : Rat} (hp : SzQ 2000 p) (hq : SzQ 2000 q) : Sz 4001 (q.num * (p.den : Int) - p.num * (q.den : Int)) ∧ Sz 4001 ((p.den : Int) * (q.den : Int)) :=
 ⟨(hq.1.mul hp.2).sub (hp.1.mul hq.2), (hp.2.mul hq.2).mono (by decide)⟩
open Classical in
noncomputable def spStr : Sp := spB (α := Corner × Corner × Corner) (fun a => [cornD a.1, cornD a.2.1, cornD a.2.2]) (fun a => SzC 2000 a.1 ∧ SzC 2000 a.2.1 ∧ SzC 2000 a.2.2 ∧ a.2.1.2.length = a.1.2.length ∧ a.2.2.2.length = a.1.2.length ∧ a.1.2.length ≤ 1000) (fun a => .bl (decide (straight a.1 a.2.1 a.2.2)))
open Classical in
theorem rd_str {a b c : Corner} {u : V} (S : Sta B G0 H cs ds) (h1 : Has ds (cornD a) v) (h2 : Has ds (cornD b) w) (h3 : Has ds (cornD c) u) (sa : SzC 2000 a) (sb : SzC 2000 b) (sc : SzC 2000 c) (l1 : b.2.length = a.2.length) (l2 : c.2.length = a.2.length) (l3 : a.2.length ≤ 1000)
 (k : ∀ H', Sta B G0 H' cs ds → Q (.bl (decide (straight a b c))) H') : spStr [v, w, u] H Q E :=
 rd_spB (a, b, c) (S.hpAll (.cons h1 (.cons h2 (.cons h3 .nil)))) ⟨sa, sb, sc, l1, l2, l3⟩ fun H' e => k H' (S.same e)
structure PathOk (m : Nat) (cs : List Corner) : Prop where
 sz : ∀ c ∈ cs, SzC 2000 c
 len : ∀ c ∈ cs, c.2.length = m
 m : m ≤ 1000
 few : cs.length ≤ 900
noncomputable def spThinned : Sp := spL (α := List Corner) (fun a => [pathD a]) (fun a => ∃ m, PathOk m a) (fun a => (keepAll a).map cornD)
theorem rd_thinned {a : List Corner} {m : Nat} (S : Sta B G0 H cs ds) (h : Has ds (pathD a) v) (ok : PathOk m a) (k : ∀ p H', Same H H' → Sta B G0 H' ((p, (keepAll a).map cornD) :: cs) ds → Q (.ref p) H') : spThinned [v] H Q E :=
 rd_spL a S (.cons h .nil) ⟨m, ok⟩ k
def kPart (R : Option Int → Hp → Prop) : VK := fun x H1 => ∃ i, x = .int i ∧ R (some i) H1
section
variable {σ : L2.St} {R : Option Int → Hp → Prop} {K : PySem.W.Frag}
theorem rd_sl {r : V → Option Int → Option Int → Hp → VK → Prop} {te : TE} {tl th : TO} (h : te σ H fun x H1 => tl σ H1 fun l H2 => th σ H2 fun u H3 => r x l u H3 Q) : tSl r te tl th σ H Q := h
theorem rd_noPart (h : R none H) : tNoPart σ H R := h
theorem rd_part {t : TE} (h : t σ H (kPart R)) : tPart t σ H R := h
theorem rd_kPart {i : Int} (h : R (some i) H) : kPart R (.int i) H := ⟨i, rfl, h⟩
def cutI (ns : List Int) (lo hi : Option Int) : List Int := (ns.drop (HT.sIx ns.length 0 lo)).take (HT.sIx ns.length ns.length hi - HT.sIx ns.length 0 lo)
theorem isAll_of_ints {G : Hp} : ∀ ns : List Int, IsAll G (ns.map PyData.int) (ns.map V.int)
 | [] => by rw [List.map_nil, List.map_nil, IsAll]
 | n :: ns => by rw [List.map_cons, List.map_cons, IsAll]; exact ⟨_, _, rfl, by rw [Is], isAll_of_ints ns⟩
theorem rd_slS {a : Addr} {ns : List Int} {lo hi : Option Int} (S : Sta B G0 H cs ds) (hS : SqL K H a (ns.map V.int)) (k : ∀ l H', Same H H' → Sta B G0 H' ((l, (cutI ns lo hi).map PyData.int) :: cs) ds → Q (.ref l) H') : rSlL K (.ref a) lo hi H Q := by
 refine ⟨a, _, rfl, hS, fun l hl => k l _ (Same.new hl _) ?_⟩
 have e : cutV (ns.map V.int) lo hi = (cutI ns lo hi).map V.int := by
  unfold cutV cutI
  rw [List.length_map, ← List.map_drop, ← List.map_take]
 rw [e]
 exact S.newL hl fun G _ => isAll_of_ints _
end
end
end S
namespace S
open PySem PySem.Spec PyProof.Rows L2
inductive Rl where
 | shares | evenly | losses | halves
 | other (r : Rl) | ranks (r : Rl) | groups (a b : Rl) | upto (t b : Int) (x y : Rl)
def itS (i : Int) : Str := Str.ofString (toString i)
def Rl.shape : Rl → PyData
 | .shares => .tuple [.str "shares"]
 | .evenly => .tuple [.str "evenly"]
 | .losses => .tuple [.str "losses"]
 | .halves => .tuple [.str "halves"]
 | .other r => .tuple [.str "other", r.shape]
 | .ranks r => .tuple [.str "ranks", r.shape]
 | .groups a b => .tuple [.str "groups", a.shape, b.shape]
 | .upto t b x y => .tuple [.str "upto", .tuple [.int t, .int b], x.shape, y.shape]
def Rl.text : Rl → Str
 | .shares => "shares"
 | .evenly => "evenly"
 | .losses => "losses"
 | .halves => "halves"
 | .other r => ("other(" : Str) ++ r.text ++ (")" : Str)
 | .ranks r => ("ranks(" : Str) ++ r.text ++ (")" : Str)
 | .groups a b => ("groups(" : Str) ++ a.text ++ (", " : Str) ++ b.text ++ (")" : Str)
 | .upto t b x y => ("upto(" : Str) ++ itS t ++ ("/" : Str) ++ itS b ++ (", " : Str) ++ x.text ++ (", " : Str) ++ y.text ++ (")" : Str)
def Rl.size : Rl → Nat
 | .other r => r.size + 1
 | .ranks r => r.size + 1
 | .groups a b => a.size + b.size + 1
 | .upto _ _ x y => x.size + y.size + 1
 | _ => 1
structure RAd where
 (sh ev lo ha ot ra gr up : Addr)
def RAd.cls (A : RAd) : Rl → Addr
 | .shares => A.sh
 | .evenly => A.ev
 | .losses => A.lo
 | .halves => A.ha
 | .other _ => A.ot
 | .ranks _ => A.ra
 | .groups _ _ => A.gr
 | .upto _ _ _ _ => A.up
def insD (C : Addr) (form : PyData) : PyData := .dict [(.int ((C : Nat) : Int), form)]
def Rl.ins (A : RAd) (r : Rl) : PyData := insD (A.cls r) r.shape
structure ROk (K : PySem.W.Frag) (fS fT Ru C : Addr) : Prop where
 cl : Cls K C
 na : NoAttr K C "form"
 ms : Meth K C "shape" fS
 mt : Meth K C "text" fT
 ha : PySem.W.findIn K (.ref C) "__class__" = some (some (.builtin "object.__class__"))
 hn : PySem.W.specialIn K (.builtin "object.__class__") "__get__" = some (some (.builtin "getset_descriptor.__get__"))
 htk : PySem.W.takesIn K (.builtin "object.__class__") = some true
 hm : PySem.W.mroIn K C (.type "object") = some true
 kit : PySem.W.kitOne K (.ref C) (.ref Ru) = some true
section
variable {B G0 H : Hp} {cs : Cells} {ds : Dat} {Q : VK} {E : XK} {v w u : V} {K : PySem.W.Frag} {α : Type} {C : Addr} {x : PyData} {vs : List V}
theorem is_ins {G : Hp} (h : Is G (insD C x) v) : ∃ p dx w, v = .ref p ∧ G p = some (.ins C dx [("form", w)]) ∧ Is G x w := by
 unfold insD at h
 rw [Is, IsIn] at h
 obtain ⟨p, C', dx, w, e, h1, h2, h3⟩ := h
 have : C = C' := Int.ofNat.inj (PyData.int.inj e)
 subst this
 exact ⟨p, dx, w, h1, h2, h3⟩
theorem Sta.ins (S : Sta B G0 H cs ds) (h : Has ds (insD C x) v) : ∃ p dx w, v = .ref p ∧ H p = some (.ins C dx [("form", w)]) ∧ Sta B G0 H cs ((x, w) :: ds) := by
 obtain ⟨G, a, b, c, d, e, f, g⟩ := S
 obtain ⟨p, dx, w, h1, h2, h3⟩ := is_ins (h G g)
 exact ⟨p, dx, w, h1, b _ _ h2, G, a, b, c, d, e, f, g.cons h3⟩
def kFld (K : PySem.W.Frag) (f : Str) (Q : VK) : VK := fun x H1 => ∃ a C dx fs v, x = .ref a ∧ H1 a = some (.ins C dx fs) ∧ Cls K C ∧ NoAttr K C f ∧ fs.lookup f = some v ∧ Q v H1
theorem rd_fld {ta : TE} {f : Str} {σ : L2.St} (h : ta σ H (kFld K f Q)) : tFld K ta f σ H Q := h
theorem rd_kFld {fS fT Ru : Addr} (S : Sta B G0 H cs ds) (h : Has ds (insD C x) v) (ok : ROk K fS fT Ru C) (k : ∀ w, Sta B G0 H cs ((x, w) :: ds) → Q w H) : kFld K "form" Q v H := by
 obtain ⟨p, dx, w, rfl, hp, S'⟩ := S.ins h
 exact ⟨p, C, dx, _, w, rfl, hp, ok.cl, ok.na, rfl, k w S'⟩
theorem rd_isC {fS fT Ru : Addr} (S : Sta B G0 H cs ds) (h : Has ds (insD C x) v) (ok : ROk K fS fT Ru C) (k : Q (.bl true) H) : rIsC K [v, .ref Ru] H Q := by
 obtain ⟨p, dx, w, rfl, hp, S'⟩ := S.ins h
 exact ⟨_, Ru, _, true, rfl, .ins hp ok.cl ok.ha ok.hn ok.htk ok.hm, ok.kit, k⟩
def spInit (C : Addr) (enc : α → List PyData) (form : α → PyData) : Sp := fun vs H Q _ => ∃ (G : Hp) (a : α) (x dx : Addr) (us : List V), vs = .ref x :: us ∧ Same G H ∧ G x = none ∧ H x = some (.ins C dx []) ∧ IsAll G (enc a) us ∧
 ∀ H' G' w, (∀ p o, p ≠ x → H p = some o → H' p = some o) → Same G G' → Same G' H' → (∀ p, H p ≠ none → G' p = G p) → H' x = some (.ins C dx [("form", w)]) → Is G' (form a) w → Q .non H'
def kMake (C : Addr) (sp : Sp) (E : XK) (Q : VK) (vs : List V) (H1 : Hp) : Prop := ∀ x dx, H1 x = none → H1 dx = none → dx ≠ x → sp (.ref x :: (vs ++ [])) (upd (upd H1 dx (.own x)) x (.ins C dx [])) (fun v H2 => v = .non ∧ Q (.ref x) H2) E
theorem rd_make {sp : Sp} {t : TA} {σ : L2.St} (h : t σ H (kMake C sp E Q)) : tMake C sp [] E t σ H Q := h
theorem rd_kMake {enc : α → List PyData} {form : α → PyData} (a : α) (S : Sta B G0 H cs ds) (hx : HasAll ds (enc a) vs) (k : ∀ x H', Same H H' → Sta B G0 H' cs ((insD C (form a), .ref x) :: ds) → Q (.ref x) H') : kMake C (spInit C enc form) E Q vs H := by
 intro x dx hx0 hd0 hne
 obtain ⟨G, s1, s2, s3, s4, s5, s6, s7⟩ := S
 have gx : G x = none := s2.free hx0
 have gd : G dx = none := s2.free hd0
 have old : ∀ p o, H p = some o → upd (upd H dx (.own x)) x (.ins C dx []) p = some o := fun p o hp => by
  rw [upd_ne (ne_of_none hp hx0), upd_ne (ne_of_none hp hd0)]; exact hp
 refine ⟨G, a, x, dx, vs, by rw [List.append_nil], fun p o hp => old p o (s2 p o hp), gx, upd_same, hx G s7, fun H' G' w h1 h2 h3 h4 h5 h6 => ⟨rfl, ?_⟩⟩
 have keep : ∀ p o, H p = some o → H' p = some o := fun p o hp => h1 p o (ne_of_none hp hx0) (old p o hp)
 have gx' : G' x = none := by rw [h4 x (by rw [upd_same]; simp)]; exact gx
 have eG := Same.new gx' (.ins C dx [("form", w)])
 refine k x H' keep ⟨upd G' x (.ins C dx [("form", w)]), (s1.trans h2).trans eG, fun p o hp => ?_, fun p o hp => keep p o (s3 p o hp), fun p hp => ?_, fun c hc => ?_, s6, (s7.mono (h2.trans eG)).cons ?_⟩
 ·by_cases hpx : p = x
  ·subst hpx; rw [upd_same] at hp; rw [← hp]; exact h5
  ·rw [upd_ne hpx] at hp; exact h3 p o hp
 ·cases hb : B p with
  | none => exact absurd hb hp
  | some o =>
    have hH := s3 p o hb
    rw [upd_ne (ne_of_none hH hx0), h4 p (by rw [old p o hH]; simp), s4 p hp]
 ·obtain ⟨z1, z2, us, z3, z4⟩ := s5 c hc
  have hcx := ne_of_none z3 hx0
  exact ⟨z1, by rw [upd_ne hcx, h4 c.1 (by rw [old _ _ z3]; simp)]; exact z2, us, keep _ _ z3, IsAll.mono (h2.trans eG) _ _ z4⟩
 ·unfold insD
  rw [Is, IsIn]
  exact ⟨x, C, dx, w, rfl, rfl, upd_same, Is.mono eG _ _ h6⟩
def spRInit (K : PySem.W.Frag) (fS fT Ru : Addr) : Sp := fun vs H Q E => ∃ C, ROk K fS fT Ru C ∧ spInit C (α := PyData) (fun d => [d]) (fun d => d) vs H Q E
theorem rd_rinit {fS fT Ru y dx : Addr} {G H1 : Hp} {d : PyData} (S : Sta H G H1 [] ds) (gx : G y = none) (hx : H y = some (.ins C dx [])) (ok : ROk K fS fT Ru C) (hd : Has ds d v)
 (k : ∀ H' G' w, (∀ p o, p ≠ y → H p = some o → H' p = some o) → Same G G' → Same G' H' → (∀ p, H p ≠ none → G' p = G p) → H' y = some (.ins C dx [("form", w)]) → Is G' d w → Q .non H') : spRInit K fS fT Ru [.ref y, v] H1 Q E := by
 obtain ⟨G1, a1, b1, c1, d1, _, _, g1⟩ := S
 refine ⟨C, ok, G1, d, y, dx, [v], rfl, b1, by rw [d1 y (by rw [hx]; simp)]; exact gx, c1 _ _ hx, (HasAll.cons hd HasAll.nil) G1 g1, fun H' G' w h1 h2 h3 h4 h5 h6 => k H' G' w (fun p o hp ho => h1 p o hp (c1 p o ho)) (a1.trans h2) h3 (fun p hp => ?_) h5 h6⟩
 rw [h4 p ?_, d1 p hp]
 cases hb : H p with
 | none => exact absurd hb hp
 | some o => rw [c1 p o hb]; simp
theorem rd_eqS {i j : Str} (h : Q (.bl (decide (i = j))) H) : rEqA (.str i) (.str j) H Q := .inl ⟨rfl, by
 rw [dec_congr (show V.str i = V.str j ↔ i = j from ⟨V.str.inj, congrArg _⟩)]; exact h⟩
theorem rd_ixTS {i : Int} {n : Str} {xs : List PyData} (S : Sta B G0 H cs ds) (hx : Has ds (.tuple xs) v) (hi : atI xs i = some (.str n)) (k : Q (.str n) H) : rIx K v (.int i) H Q :=
 rd_ixT S hx hi fun w S' => by have := S'.top; rw [Is] at this; subst this; exact k
theorem isAll4R {G : Hp} {x y z t : PyData} {vs : List V} (h : IsAll G [x, y, z, t] vs) : ∃ v w u r, vs = [v, w, u, r] ∧ AllIs G [(x, v), (y, w), (z, u), (t, r)] := by
 simp only [IsAll] at h
 obtain ⟨v, _, rfl, h1, w, _, rfl, h2, u, _, rfl, h3, r, _, rfl, h4, rfl⟩ := h
 exact ⟨v, w, u, r, rfl, fun p hp => by simp at hp; rcases hp with rfl | rfl | rfl | rfl <;> assumption⟩
end
def Maker (P : Program) (w : World) (K : PySem.W.Frag) (mg : Str → Option Value) (base : Heap) (x : Str) (C : Addr) (ps : List Str) (sp : Sp) : Prop := ∃ f fd, Mk K C f ∧ FnOk P w K mg base CX0 2 f fd ps sp ∧ Binds K fd ps [] ∧ mg x = some (.ref C)
end S
namespace S
open PySem PySem.Spec PyProof.Rows L2
def ItRev (K : PySem.W.Frag) (a : Addr) (n : Nat) : It :=
 ⟨fun i H => i < n ∧ ∃ xs x, SqL K H a xs ∧ xs[n - 1 - i]? = some x, fun i H x H' => H' = H ∧ ∀ xs, SqL K H a xs → xs[n - 1 - i]? = some x, fun i _ => n ≤ i⟩
theorem turn_rev {P : Program} {w : World} {K : PySem.W.Frag} {tg : Expr} (a it : Addr) (n : Nat) : Turn P w K tg (ItRev K a n) [it] it (fun i h => i ≤ n ∧ h.IsRevIter it a ((n : Int) - 1 - (i : Nat))) where
 mem := by simp
 obj := fun i h st b hb => by
  have e : b = it := by simpa using hb
  subst e
  obtain ⟨_, o, e, c, d⟩ := st
  exact ⟨o, e, fun v z => by rw [d] at z; cases z⟩
 keep := fun i h h' st k => ⟨st.1, st.2.at fun o e => k it (by simp) o e⟩
 item := by
  intro X hP hw hK hc i pins s σ H E I hf st hg
  subst hP hw hK
  obtain ⟨hi, xs, x, hq, hx⟩ := hg
  obtain ⟨its, rv, p, hz⟩ := I.list hq
  obtain ⟨u, hu, ru⟩ := rv.get hx
  obtain ⟨f0, f1, f2, f3, f4, f5⟩ := hf it (by simp)
  have ek : (n : Int) - 1 - (i : Nat) = ((n - 1 - i : Nat) : Int) := by omega
  have st2 := st.2
  rw [ek] at st2
  refine wpAny_pyNext_rev_item st2 p.isList (x := u) (by simpa using hu) fun h' st' sb => ?_
  have I1 : Inv X pins σ H { s with heap := h' } := I.turned (t' := s.toks) (fun b o hb e => (sb.2 b hb).trans e) f0 f1 f3 f4 f5
  obtain ⟨o, e, c, d⟩ := id st'
  exact ⟨u, rfl, go_of (s := { s with heap := h' }) e c d (by decide) ⟨x, H, I1, ru, ⟨rfl, fun ys hy => by rw [I.list_inj hy hq]; exact hx⟩, ⟨by omega, by
   rw [show (n : Int) - 1 - ((i + 1 : Nat) : Int) = ((n - 1 - i : Nat) : Int) - 1 by omega]; exact st'⟩, fun b hb => (hf b hb).1⟩⟩
 done := by
  intro X hP hw hK hc i pins s σ H E I hf st hg
  subst hP hw hK
  obtain ⟨f0, f1, f2, f3, f4, f5⟩ := hf it (by simp)
  have hg' : n ≤ i := hg
  have st2 := st.2
  rw [show (n : Int) - 1 - (i : Nat) = -1 by have := st.1; omega] at st2
  exact wpAny_pyNext_rev_end (I.ok.hd hc) st2 fun h' eb => ⟨rfl, I.turned (t' := s.toks) (fun b o hb e => eb b o hb e) f0 f1 f3 f4 f5⟩
 self := fun _ _ _ _ _ st h => wpAny_pyIter_revIter st.2 h
def iRev (K : PySem.W.Frag) (ta : TA) : TI := fun σ H R => ta σ H fun vs H1 => ∃ a xs, vs = [.ref a] ∧ SqL K H1 a xs ∧ R (ItRev K a xs.length) H1
section
variable {X : Cx}
theorem pi_rev {tg a : Expr} {ta : TA} {p pos : Pos} (hg : Gl X "reversed") (hm : X.mg "reversed" = none) (ha : PA X [a] ta) (hs : starEach [a] X.env = [(false, eval a X.env)] := by rfl) :
 PI X tg (.Call (.Name "reversed" p) [a] [] pos) (iRev X.K ta) := by
 intro pins s σ H R I h
 refine Call_ (ld_blt I hg hm bt_reversed (PyProof.Rows.callWith_type1 (thn (ha pos pins s σ H _ I h) fun us s1 ⟨vs, H1, I1, r1, q1⟩ => ?_) hs rfl))
 obtain ⟨l, xs, e, hq, q⟩ := q1
 subst e
 obtain ⟨u, rfl, ru⟩ := vals1 r1
 cases (show u = Value.ref l from ru)
 obtain ⟨its, rv, p1, hz⟩ := I1.list hq
 have hl := rv.length
 refine call_reversed_list p1.isList ?_
 have hit : Heap.IsRevIter (s1.heap.push (revObj l ((its.toArray.size : Int) - 1))) s1.heap.objs.size l ((xs.length : Int) - 1 - ((0 : Nat) : Int)) := ⟨_, Heap.get?_push_size _ rfl, rfl, by
  show Data.fields #[.ref l, rawInt ((its.toArray.size : Int) - 1)] = _
  rw [List.size_toArray, ← hl]; simp⟩
 refine wpAny_pyIter_revIter (s := { s1 with heap := s1.heap.push (revObj l ((its.toArray.size : Int) - 1)) }) hit ?_
 have I2 : Inv X pins σ H1 { s1 with heap := s1.heap.push (revObj l ((its.toArray.size : Int) - 1)) } := I1.kept (t' := s1.toks) fun b o e => Heap.get?_push_of_some _ e
 refine ⟨s1.heap.objs.size, [s1.heap.objs.size], _, _, H1, rfl, I2, turn_rev l _ xs.length, ⟨Nat.zero_le _, hit⟩, fun b hb => ?_, q⟩
 have e : b = s1.heap.objs.size := by simpa using hb
 subst e
 exact I1.fpOk (Nat.le_refl _) (I1.hok.fresh (Nat.le_refl _))
end
def kRv (K : PySem.W.Frag) (R : It → Hp → Prop) : List V → Hp → Prop := fun vs H1 => ∃ a xs, vs = [.ref a] ∧ SqL K H1 a xs ∧ R (ItRev K a xs.length) H1
section
variable {B G0 H : Hp} {cs : Cells} {ds : Dat} {K : PySem.W.Frag} {a : Addr} {xs ys : List PyData} {P : Cells → Dat → Prop} {v : V} {σ : L2.St} {R : It → Hp → Prop} {ta : TA}
theorem rd_iRv (h : ta σ H (kRv K R)) : iRev K ta σ H R := h
theorem wk_rev (s : Src B G0 true K a xs P) : Wk B G0 (ItRev K a xs.length) xs.reverse P where
 go := fun {H cs ds i} S h hi => by
  rw [List.length_reverse] at hi
  obtain ⟨vs, q, hl, _⟩ := s S h
  exact ⟨hi, vs, vs[xs.length - 1 - i]'(by omega), q, List.getElem?_eq_getElem _⟩
 stop := fun {H cs ds i} S h hi => by rw [List.length_reverse] at hi; exact hi
 yld := fun {H H' cs ds i x v} S h hx y => by
  obtain ⟨e, y⟩ := y
  subst e
  obtain ⟨vs, q, hl, z⟩ := s S h
  have hi : i < xs.length := by have := (List.getElem?_eq_some_iff.mp hx).1; rwa [List.length_reverse] at this
  rw [List.getElem?_reverse hi] at hx
  obtain ⟨w, hw, S'⟩ := z _ x hx
  have := y vs q
  rw [hw] at this; cases this
  exact ⟨Same.refl _, S'⟩
theorem rd_kRvL (S : Sta B G0 H cs ds) (h : Has ds (.list xs) v) (k : ∀ J, Wk B G0 J xs.reverse (fun _ ds => Has ds (.list xs) v) → R J H) : kRv K R [v] H := by
 obtain ⟨p, vs, rfl, hp, hl, _⟩ := S.lst h
 refine ⟨p, vs, rfl, SqL.of hp, ?_⟩
 rw [← hl]
 exact k _ (wk_rev src_list)
end
end S
namespace S
open PySem PySem.Spec PyProof.Rows L2
def turnC (l c : Corner) : Corner := (l.1 - c.1, List.zipWith (· - ·) l.2 c.2)
def plusC (l c : Corner) : Corner := (l.1 + c.1, List.zipWith (· + ·) l.2 c.2)
def lastC (a : List Corner) : Corner := a.getLast?.getD (0, [])
def turnedV (a : List Corner) : List Corner := a.reverse.map (turnC (lastC a))
def scaledV (p : Rat) (a : List Corner) : List Corner := a.map fun c => (c.1 * p, c.2.map (· * p))
def movedV (a b : List Corner) : List Corner := b.tail.map (plusC (lastC a))
section
variable {B G0 H : Hp} {cs : Cells} {ds : Dat} {Q : VK} {E : XK} {v w : V}
def spEach (g : Rat → Rat → Rat) : Sp := spT (α := List Rat × List Rat) (fun a => [partsD a.1, partsD a.2]) (fun a => (∀ q ∈ a.1, SzQ 4000 q) ∧ (∀ q ∈ a.2, SzQ 4000 q) ∧ a.1.length ≤ 1000) (fun a => partsD (List.zipWith g a.1 a.2))
theorem rd_each {g : Rat → Rat → Rat} {p q : List Rat} (S : Sta B G0 H cs ds) (h1 : Has ds (partsD p) v) (h2 : Has ds (partsD q) w) (s1 : ∀ x ∈ p, SzQ 4000 x) (s2 : ∀ x ∈ q, SzQ 4000 x) (hl : p.length ≤ 1000)
 (k : ∀ r H', Same H H' → Sta B G0 H' cs ((partsD (List.zipWith g p q), r) :: ds) → Q r H') : spEach g [v, w] H Q E :=
 rd_spT (p, q) S (.cons h1 (.cons h2 .nil)) ⟨s1, s2, hl⟩ k
structure PathIn (a : List Corner) : Prop where
 ne : a ≠ []
 sz : ∀ c ∈ a, SzC 4000 c
 len : ∀ c ∈ a, c.2.length ≤ 1000
 few : a.length ≤ 450
theorem PathIn.last {a : List Corner} (h : PathIn a) : a.getLast? = some (lastC a) ∧ lastC a ∈ a := by
 obtain ⟨l, hl⟩ : ∃ l, a.getLast? = some l := ⟨_, List.getLast?_eq_some_getLast h.ne⟩
 have e : lastC a = l := by unfold lastC; rw [hl]; rfl
 rw [e]
 exact ⟨hl, List.mem_of_getLast? hl⟩
theorem SzC.mono {m n : Nat} {c : Corner} (h : SzC m c) (l : m ≤ n) : SzC n c := ⟨h.1.mono l, fun q hq => (h.2 q hq).mono l⟩
def spTurned : Sp := spL (α := List Corner) (fun a => [pathD a]) PathIn (fun a => (turnedV a).map cornD)
theorem rd_turned {a : List Corner} (S : Sta B G0 H cs ds) (h : Has ds (pathD a) v) (ok : PathIn a) (k : ∀ p H', Same H H' → Sta B G0 H' ((p, (turnedV a).map cornD) :: cs) ds → Q (.ref p) H') : spTurned [v] H Q E :=
 rd_spL a S (.cons h .nil) ok k
def spScaled : Sp := spL (α := List Corner × Rat) (fun a => [pathD a.1, frD a.2]) (fun a => PathIn a.1 ∧ SzQ 4000 a.2) (fun a => (scaledV a.2 a.1).map cornD)
theorem rd_scaled {a : List Corner} {p : Rat} (S : Sta B G0 H cs ds) (h : Has ds (pathD a) v) (h2 : Has ds (frD p) w) (ok : PathIn a) (sp : SzQ 4000 p) (k : ∀ q H', Same H H' → Sta B G0 H' ((q, (scaledV p a).map cornD) :: cs) ds → Q (.ref q) H') : spScaled [v, w] H Q E :=
 rd_spL (a, p) S (.cons h (.cons h2 .nil)) ⟨ok, sp⟩ k
noncomputable def spBehind : Sp := spL (α := List Corner × List Corner) (fun a => [pathD a.1, pathD a.2]) (fun a => PathIn a.1 ∧ PathIn a.2 ∧ ∃ m, PathOk m (a.1 ++ movedV a.1 a.2)) (fun a => (keepAll (a.1 ++ movedV a.1 a.2)).map cornD)
theorem rd_behind {a b : List Corner} {m : Nat} (S : Sta B G0 H cs ds) (h : Has ds (pathD a) v) (h2 : Has ds (pathD b) w) (ok : PathIn a) (ok2 : PathIn b) (ok3 : PathOk m (a ++ movedV a b))
 (k : ∀ p H', Same H H' → Sta B G0 H' ((p, (keepAll (a ++ movedV a b)).map cornD) :: cs) ds → Q (.ref p) H') : spBehind [v, w] H Q E :=
 rd_spL (a, b) S (.cons h (.cons h2 .nil)) ⟨ok, ok2, m, ok3⟩ k
end
end S
namespace S
open PySem PySem.Spec PyProof.Rows L2
def mixR (t x y : Rat) : Rat := x + t * (y - x)
def betw (c d : Corner) (E : Rat) : List Rat := List.zipWith (mixR ((E - c.1) / (d.1 - c.1))) c.2 d.2
def partsV : List Corner → Rat → List Rat
 | [], _ => []
 | [c], _ => c.2
 | c :: d :: r, E => if E < d.1 then betw c d E else partsV (d :: r) E
def Rising (a : List Corner) : Prop := a.Pairwise fun c d => c.1 < d.1
theorem partsV_at {E : Rat} : ∀ {a : List Corner} {i : Nat} {c : Corner}, Rising a → a[i]? = some c → c.1 ≤ E → (i + 1 = a.length ∨ ∃ d, a[i + 1]? = some d ∧ E < d.1) → partsV a E = match a[i + 1]? with | none => c.2 | some d => betw c d E
 | [], i, c, _, h, _, _ => by simp at h
 | [b], i, c, _, h, _, _ => by
   cases i with
   | zero => cases h; rfl
   | succ i => simp at h
 | b :: d :: r, i, c, hr, h, hc, hE => by
   cases i with
   | zero =>
     cases h
     rcases hE with hE | ⟨d', hd', hE⟩
     ·simp at hE
     ·cases hd'
      rw [partsV, if_pos hE]
      rfl
   | succ i =>
     have hr' : Rising (d :: r) := (List.pairwise_cons.mp hr).2
     have h' : (d :: r)[i]? = some c := by simpa using h
     have hd : d.1 ≤ c.1 := by
      cases i with
      | zero => cases h'; exact Rat.le_refl
      | succ i => exact Rat.le_of_lt ((List.pairwise_cons.mp hr').1 c (List.mem_of_getElem? (by simpa using h')))
     have hnd : ¬ E < d.1 := Rat.not_lt.mpr (Rat.le_trans hd hc)
     rw [partsV, if_neg hnd]
     have := partsV_at (a := d :: r) (i := i) (c := c) hr' h' hc (by
      rcases hE with hE | ⟨d', hd', hE⟩
      ·left; simpa using hE
      ·right; exact ⟨d', by simpa using hd', hE⟩)
     rw [this]
     simp
theorem mixR_zero (x y : Rat) : mixR 0 x y = x := by unfold mixR; grind
theorem zipW_left {f : Rat → Rat → Rat} (hf : ∀ x y, f x y = x) : ∀ {l r : List Rat}, l.length = r.length → List.zipWith f l r = l
 | [], [], _ => rfl
 | x :: l, y :: r, h => by rw [List.zipWith_cons_cons, hf, zipW_left hf (by simpa using h)]
 | [], _ :: _, h => by simp at h
 | _ :: _, [], h => by simp at h
theorem betw_start {c d : Corner} (h : c.2.length = d.2.length) : betw c d c.1 = c.2 := by
 unfold betw
 have : (c.1 - c.1) / (d.1 - c.1) = 0 := by rw [Rat.sub_self, Rat.div_def, Rat.zero_mul]
 rw [this]
 exact zipW_left mixR_zero h
section
variable {B G0 H : Hp} {cs : Cells} {ds : Dat} {Q : VK} {E : XK} {v w u : V}
def spLast : Sp := fun vs H Q _ => ∃ (qs : List Rat) (e : Rat) (n : Nat), IsAll H [.list (qs.map frD), frD e] vs ∧ (0 < qs.length ∧ qs.length ≤ 1000000 ∧ (∀ q ∈ qs, SzQ n q) ∧ SzQ n e ∧ n ≤ 40000000 ∧ ∀ q, qs[0]? = some q → q ≤ e) ∧
 ∀ (i : Nat) (q : Rat), qs[i]? = some q → q ≤ e → (i + 1 = qs.length ∨ ∃ r, qs[i + 1]? = some r ∧ e < r) → Q (.int (i : Nat)) H
theorem rd_last {qs : List Rat} {e : Rat} {n : Nat} (S : Sta B G0 H cs ds) (h1 : Is H (.list (qs.map frD)) v) (h2 : Is H (frD e) w) (hd : 0 < qs.length ∧ qs.length ≤ 1000000 ∧ (∀ q ∈ qs, SzQ n q) ∧ SzQ n e ∧ n ≤ 40000000 ∧ ∀ q, qs[0]? = some q → q ≤ e)
 (k : ∀ (i : Nat) (q : Rat), qs[i]? = some q → q ≤ e → (i + 1 = qs.length ∨ ∃ r, qs[i + 1]? = some r ∧ e < r) → Q (.int (i : Nat)) H) : spLast [v, w] H Q E :=
 ⟨qs, e, n, by simp only [IsAll]; exact ⟨_, _, rfl, h1, _, _, rfl, h2, rfl⟩, hd, k⟩
def spPortion : Sp := spT (α := Rat × Rat × Rat) (fun a => [frD a.1, frD a.2.1, frD a.2.2]) (fun a => (∃ m n, SzQ n a.1 ∧ SzQ n a.2.1 ∧ SzQ m a.2.2 ∧ m + 3 * n + 2 ≤ 8999) ∧ a.2.1 ≠ a.1) (fun a => frD ((a.2.2 - a.1) / (a.2.1 - a.1)))
theorem rd_portion {s e x : Rat} {m n : Nat} (S : Sta B G0 H cs ds) (h1 : Has ds (frD s) v) (h2 : Has ds (frD e) w) (h3 : Has ds (frD x) u) (z1 : SzQ n s) (z2 : SzQ n e) (z3 : SzQ m x) (hz : m + 3 * n + 2 ≤ 8999) (hne : e ≠ s)
 (k : ∀ r H', Same H H' → Sta B G0 H' cs ((frD ((x - s) / (e - s)), r) :: ds) → Q r H') : spPortion [v, w, u] H Q E :=
 rd_spT (s, e, x) S (.cons h1 (.cons h2 (.cons h3 .nil))) ⟨⟨m, n, z1, z2, z3, hz⟩, hne⟩ k
def spAmount : Sp := spT (α := Rat × Rat × Rat) (fun a => [frD a.1, frD a.2.1, frD a.2.2]) (fun a => ∃ m n, SzQ n a.1 ∧ SzQ n a.2.1 ∧ SzQ m a.2.2 ∧ m + 3 * n + 2 ≤ 8999) (fun a => frD (mixR a.2.2 a.1 a.2.1))
theorem rd_amount {s e t : Rat} {m n : Nat} (S : Sta B G0 H cs ds) (h1 : Has ds (frD s) v) (h2 : Has ds (frD e) w) (h3 : Has ds (frD t) u) (z1 : SzQ n s) (z2 : SzQ n e) (z3 : SzQ m t) (hz : m + 3 * n + 2 ≤ 8999)
 (k : ∀ r H', Same H H' → Sta B G0 H' cs ((frD (mixR t s e), r) :: ds) → Q r H') : spAmount [v, w, u] H Q E :=
 rd_spT (s, e, t) S (.cons h1 (.cons h2 (.cons h3 .nil))) ⟨m, n, z1, z2, z3, hz⟩ k
def spBetween : Sp := spT (α := Corner × Corner × Rat) (fun a => [cornD a.1, cornD a.2.1, frD a.2.2]) (fun a => (∃ m n, SzC n a.1 ∧ SzC n a.2.1 ∧ SzQ m a.2.2 ∧ m + 6 * n + 4 ≤ 8999) ∧ a.1.1 < a.2.1.1 ∧ a.1.2.length ≤ 1000) (fun a => partsD (betw a.1 a.2.1 a.2.2))
theorem rd_between {c d : Corner} {e : Rat} {m n : Nat} (S : Sta B G0 H cs ds) (h1 : Has ds (cornD c) v) (h2 : Has ds (cornD d) w) (h3 : Has ds (frD e) u) (z1 : SzC n c) (z2 : SzC n d) (z3 : SzQ m e) (hz : m + 6 * n + 4 ≤ 8999) (hlt : c.1 < d.1) (hl : c.2.length ≤ 1000)
 (k : ∀ r H', Same H H' → Sta B G0 H' cs ((partsD (betw c d e), r) :: ds) → Q r H') : spBetween [v, w, u] H Q E :=
 rd_spT (c, d, e) S (.cons h1 (.cons h2 (.cons h3 .nil))) ⟨⟨m, n, z1, z2, z3, hz⟩, hlt, hl⟩ k
structure PathR (n : Nat) (a : List Corner) : Prop where
 ne : a ≠ []
 sz : ∀ c ∈ a, SzC n c
 len : ∀ c ∈ a, c.2.length ≤ 1000
 few : a.length ≤ 900
 rise : Rising a
 zero : ∀ c, a[0]? = some c → c.1 = 0
def spPartsAt : Sp := spT (α := List Corner × Rat) (fun a => [pathD a.1, frD a.2]) (fun a => ∃ m n, PathR n a.1 ∧ SzQ m a.2 ∧ m + 6 * n + 4 ≤ 8999 ∧ 0 ≤ a.2) (fun a => partsD (partsV a.1 a.2))
theorem rd_partsat {a : List Corner} {e : Rat} {m n : Nat} (S : Sta B G0 H cs ds) (h1 : Has ds (pathD a) v) (h2 : Has ds (frD e) w) (ok : PathR n a) (z : SzQ m e) (hz : m + 6 * n + 4 ≤ 8999) (h0 : 0 ≤ e)
 (k : ∀ r H', Same H H' → Sta B G0 H' cs ((partsD (partsV a e), r) :: ds) → Q r H') : spPartsAt [v, w] H Q E :=
 rd_spT (a, e) S (.cons h1 (.cons h2 .nil)) ⟨m, n, ok, z, hz, h0⟩ k
end
end S
namespace S
open PySem PySem.Spec PyProof.Rows L2
theorem rat_mul_zero {a b : Rat} (h : a * b = 0) (hb : b ≠ 0) : a = 0 := by
 have h1 := Rat.mul_inv_cancel b hb
 have : a = a * b * b⁻¹ := by rw [Rat.mul_assoc, h1, Rat.mul_one]
 rw [this, h, Rat.zero_mul]
theorem sub_ne {a b : Rat} (h : a < b) : b - a ≠ 0 := fun z => by
 have : b = a := by grind
 rw [this] at h
 exact Rat.lt_irrefl h
theorem mixR_line {s e x y E : Rat} (h : s < e) : (mixR ((E - s) / (e - s)) x y - x) * (e - s) = (E - s) * (y - x) := by
 have h1 := Rat.mul_inv_cancel _ (sub_ne h)
 unfold mixR
 rw [Rat.div_def]
 generalize (e - s)⁻¹ = i at *
 grind
theorem betw_get {c d : Corner} {E : Rat} {i : Nat} {z : Rat} (h : (betw c d E)[i]? = some z) : ∃ x y, c.2[i]? = some x ∧ d.2[i]? = some y ∧ z = mixR ((E - c.1) / (d.1 - c.1)) x y := by
 unfold betw at h
 rw [List.getElem?_zipWith] at h
 cases hx : c.2[i]? with
 | none => rw [hx] at h; cases h
 | some x =>
   cases hy : d.2[i]? with
   | none => rw [hx, hy] at h; cases h
   | some y => rw [hx, hy] at h; exact ⟨x, y, rfl, rfl, (Option.some.inj h).symm⟩
theorem partsV_skip {c d : Corner} {r : List Corner} {E : Rat} (h : d.1 ≤ E) : partsV (c :: d :: r) E = partsV (d :: r) E := by
 rw [partsV, if_neg (Rat.not_lt.mpr h)]
theorem lastC_cons (c d : Corner) (r : List Corner) : lastC (c :: d :: r) = lastC (d :: r) := by unfold lastC; rw [List.getLast?_cons_cons]
theorem partsV_len {m : Nat} {E : Rat} : ∀ {c : Corner} {r : List Corner}, (∀ x ∈ c :: r, x.2.length = m) → (partsV (c :: r) E).length = m
 | c, [], h => h c (List.mem_cons_self ..)
 | c, d :: r, h => by
   rw [partsV]
   split
   ·unfold betw
    rw [List.length_zipWith, h c (List.mem_cons_self ..), h d (List.mem_cons_of_mem _ (List.mem_cons_self ..)), Nat.min_self]
   ·exact partsV_len fun x hx => h x (List.mem_cons_of_mem _ hx)
end S
namespace S
open PySem PySem.Spec PyProof.Rows L2
theorem rat_lt_trans {a b c : Rat} (h : a < b) (g : b < c) : a < c := by grind
def RiseQ (l : List Rat) : Prop := l.Pairwise (· < ·)
section
variable {B G0 H : Hp} {cs : Cells} {ds : Dat} {Q : VK} {E : XK} {v w u : V}
def pursesV (a : List Corner) : List Rat := a.map fun c => c.1
end
end S
namespace S
open PySem PySem.Spec PyProof.Rows L2
theorem zeroV_sum (m : Nat) : (zeroV m).sum = 0 := by
 unfold zeroV
 induction m with
 | zero => rfl
 | succ m ih => rw [List.replicate_succ, List.sum_cons, ih]; rfl
theorem purses_rise {a : List Corner} (h : Rising a) : RiseQ (pursesV a) := by
 unfold RiseQ pursesV
 rw [List.pairwise_map]
 exact h
section
variable {B G0 H : Hp} {cs : Cells} {ds : Dat} {Q : VK} {E : XK} {v w u : V}
def spWhole : Sp := fun vs H Q _ => ∃ n : Int, vs = [.int n] ∧ Q (.bl true) H
theorem rd_whole {n : Int} (k : Q (.bl true) H) : spWhole [.int n] H Q E := ⟨n, rfl, k⟩
def spFrac : Sp := spB (α := Rat) (fun a => [frD a]) (fun _ => True) (fun _ => .bl true)
theorem rd_frac {q : Rat} (S : Sta B G0 H cs ds) (h : Has ds (frD q) v) (k : ∀ H', Sta B G0 H' cs ds → Q (.bl true) H') : spFrac [v] H Q E :=
 rd_spB q (S.hpAll (.cons h .nil)) trivial fun H' e => k H' (S.same e)
end
end S
namespace S
open PySem PySem.Spec PyProof.Rows L2
def sumQ : List Rat → Rat
 | [] => 0
 | x :: r => x + sumQ r
theorem sumQ_zeros (m : Nat) : sumQ (List.replicate m 0) = 0 := by
 induction m with
 | zero => rfl
 | succ m ih => rw [List.replicate_succ, sumQ, ih]; grind
theorem sumQ_mix (t : Rat) : ∀ x y : List Rat, x.length = y.length → sumQ (List.zipWith (mixR t) x y) = mixR t (sumQ x) (sumQ y)
 | [], [], _ => by rw [List.zipWith_nil_left, sumQ]; unfold mixR; grind
 | a :: x, b :: y, h => by
   rw [List.zipWith_cons_cons, sumQ, sumQ, sumQ, sumQ_mix t x y (by simpa using h)]
   unfold mixR; grind
 | [], _ :: _, h => by simp at h
 | _ :: _, [], h => by simp at h
end S
namespace S
open PySem PySem.Spec PyProof.Rows L2
def linV (x y z : List Rat) (a b : Rat) : Prop := ∀ (i : Nat) (p q r : Rat), x[i]? = some p → y[i]? = some q → z[i]? = some r → (r - p) * b = (q - p) * a
end S
namespace S
open PySem PySem.Spec PyProof.Rows L2
section
variable {P : List Corner} {Qs : List (List Corner)}
theorem rise_at {M : List Rat} (hM : RiseQ M) {j : Nat} {u v : Rat} (hu : M[j]? = some u) (hv : M[j + 1]? = some v) : u < v := by
 obtain ⟨lu, eu⟩ := List.getElem?_eq_some_iff.mp hu
 obtain ⟨lv, ev⟩ := List.getElem?_eq_some_iff.mp hv
 have := List.pairwise_iff_getElem.mp hM j (j + 1) lu lv (by omega)
 rw [eu, ev] at this
 exact this
end
end S
namespace S
open PySem PySem.Spec PyProof.Rows PyProof L2
section
variable {X : Cx}
end
section
variable {B G0 H : Hp} {cs : Cells} {ds : Dat} {Q : VK} {v w : V} {xs zs : List PyData} {K : PySem.W.Frag} {L M : Addr}
end
end S
namespace S
open PySem PySem.Spec PyProof.Rows L2
theorem find_at {E : Rat} : ∀ {M : List Rat} {z : Rat}, M[0]? = some z → z ≤ E → ∃ (i : Nat) (q : Rat), M[i]? = some q ∧ q ≤ E ∧ (i + 1 = M.length ∨ ∃ r, M[i + 1]? = some r ∧ E < r)
 | [], z, h, _ => by simp at h
 | [a], z, h, hz => by
   cases h
   exact ⟨0, a, rfl, hz, .inl rfl⟩
 | a :: b :: M, z, h, hz => by
   cases h
   by_cases hb : b ≤ E
   ·obtain ⟨i, q, h1, h2, h3⟩ := find_at (M := b :: M) (z := b) rfl hb
    refine ⟨i + 1, q, by simpa using h1, h2, ?_⟩
    rcases h3 with h3 | ⟨r, h3, h4⟩
    ·left; simp only [List.length_cons] at h3 ⊢; omega
    ·right; exact ⟨r, by simpa using h3, h4⟩
   ·exact ⟨0, a, rfl, hz, .inr ⟨b, rfl, Rat.not_le.mp hb⟩⟩
theorem betw_of_lin {c d : Corner} {E : Rat} {w : List Rat} (hlt : c.1 < d.1) (l1 : c.2.length = d.2.length) (l2 : c.2.length = w.length) (h : linV c.2 d.2 w (E - c.1) (d.1 - c.1)) : betw c d E = w := by
 apply List.ext_getElem?
 intro i
 by_cases hi : i < c.2.length
 ·have e1 := List.getElem?_eq_getElem hi
  have e2 := List.getElem?_eq_getElem (l := d.2) (i := i) (by omega)
  have e3 := List.getElem?_eq_getElem (l := w) (i := i) (by omega)
  have := h i _ _ _ e1 e2 e3
  unfold betw
  rw [List.getElem?_zipWith, e1, e2, e3]
  show some (mixR _ _ _) = _
  have l := mixR_line (x := c.2[i]) (y := d.2[i]) (E := E) hlt
  have k := rat_mul_zero (a := mixR ((E - c.1) / (d.1 - c.1)) c.2[i] d.2[i] - w[i]) (b := d.1 - c.1) (by grind) (sub_ne hlt)
  have : mixR ((E - c.1) / (d.1 - c.1)) c.2[i] d.2[i] = w[i] := by grind
  rw [this]
 ·unfold betw
  rw [List.getElem?_eq_none (by rw [List.length_zipWith]; omega), List.getElem?_eq_none (by omega)]
section
variable {P : List Corner} {Qs : List (List Corner)}
theorem SzQ.mix {m n : Nat} {t x y : Rat} (ht : SzQ m t) (hx : SzQ n x) (hy : SzQ n y) : SzQ (m + 3 * n + 2) (mixR t x y) := by
 unfold mixR
 exact (hx.add (ht.mul (hy.sub hx))).mono (by omega)
theorem SzQ.port {m n : Nat} {L x y : Rat} (hL : SzQ m L) (hx : SzQ n x) (hy : SzQ n y) : SzQ (m + 3 * n + 2) ((L - x) / (y - x)) := ((hL.sub hx).div (hy.sub hx)).mono (by omega)
theorem partsV_sz {m n : Nat} {e : Rat} (he : SzQ m e) : ∀ {a : List Corner}, (∀ c ∈ a, SzC n c) → ∀ x ∈ partsV a e, SzQ (m + 6 * n + 4) x
 | [], _, x, hx => by simp [partsV] at hx
 | [c], h, x, hx => ((h c (List.mem_cons_self ..)).2 x hx).mono (by omega)
 | c :: d :: r, h, x, hx => by
   rw [partsV] at hx
   split at hx
   ·obtain ⟨i, hi⟩ := List.mem_iff_getElem?.mp hx
    obtain ⟨p, q, hp, hq, rfl⟩ := betw_get hi
    have hc := h c (List.mem_cons_self ..)
    have hd := h d (List.mem_cons_of_mem _ (List.mem_cons_self ..))
    exact (SzQ.mix (SzQ.port he hc.1 hd.1) (hc.2 p (List.mem_of_getElem? hp)) (hd.2 q (List.mem_of_getElem? hq))).mono (by omega)
   ·exact partsV_sz he (fun c hc => h c (List.mem_cons_of_mem _ hc)) x hx
end
end S
namespace S
open PySem PySem.Spec PyProof.Rows L2
section
variable {C F G D : List Corner} {c x y : Corner} {m : Nat}
end
end S
namespace S
open PySem
def Ris (xs : Array Nat) : Prop := xs.toList.Pairwise (· < ·)
theorem Ris.lt {xs : Array Nat} (h : Ris xs) {i k a b : Nat} (hik : i < k) (ha : xs[i]? = some a) (hb : xs[k]? = some b) : a < b := by
 have ha' : xs.toList[i]? = some a := by simpa using ha
 have hb' : xs.toList[k]? = some b := by simpa using hb
 obtain ⟨la, ea⟩ := List.getElem?_eq_some_iff.mp ha'
 obtain ⟨lb, eb⟩ := List.getElem?_eq_some_iff.mp hb'
 have := List.pairwise_iff_getElem.mp h i k la lb hik
 rw [ea, eb] at this
 exact this
theorem below_go {xs : Array Nat} {j : Nat} (h : Ris xs) : ∀ (fuel lo hi : Nat), hi - lo ≤ fuel → lo ≤ hi → hi ≤ xs.size → (∀ k a, k < lo → xs[k]? = some a → a < j) → (∀ k a, hi ≤ k → xs[k]? = some a → j ≤ a) →
 SetTable.below.go xs j fuel lo hi ≤ xs.size ∧ (∀ k a, k < SetTable.below.go xs j fuel lo hi → xs[k]? = some a → a < j) ∧ (∀ k a, SetTable.below.go xs j fuel lo hi ≤ k → xs[k]? = some a → j ≤ a)
 | 0, lo, hi, hf, hl, hs, h1, h2 => by
   rw [SetTable.below.go]
   have e : lo = hi := by omega
   subst e
   exact ⟨hs, h1, h2⟩
 | fuel + 1, lo, hi, hf, hl, hs, h1, h2 => by
   rw [SetTable.below.go]
   by_cases c : lo < hi
   ·rw [if_pos c]
    dsimp only
    have hm : (lo + hi) / 2 < xs.size := by omega
    have em : xs[(lo + hi) / 2]? = some xs[(lo + hi) / 2] := by simp [hm]
    have eg : xs.getD ((lo + hi) / 2) j = xs[(lo + hi) / 2] := by simp [Array.getD, hm]
    rw [eg]
    by_cases c2 : xs[(lo + hi) / 2] < j
    ·rw [if_pos c2]
     refine below_go h fuel _ hi (by omega) (by omega) hs (fun k a hk ha => ?_) h2
     by_cases ek : k = (lo + hi) / 2
     ·subst ek; rw [em] at ha; cases ha; exact c2
     ·have := h.lt (show k < (lo + hi) / 2 by omega) ha em; omega
    ·rw [if_neg c2]
     refine below_go h fuel lo _ (by omega) (by omega) (by omega) h1 fun k a hk ha => ?_
     by_cases ek : k = (lo + hi) / 2
     ·subst ek; rw [em] at ha; cases ha; omega
     ·have := h.lt (show (lo + hi) / 2 < k by omega) em ha; omega
   ·rw [if_neg c]
    have e : lo = hi := by omega
    subst e
    exact ⟨hs, h1, h2⟩
theorem below_spec {xs : Array Nat} (h : Ris xs) (j : Nat) : SetTable.below xs j ≤ xs.size ∧ (∀ k a, k < SetTable.below xs j → xs[k]? = some a → a < j) ∧ (∀ k a, SetTable.below xs j ≤ k → xs[k]? = some a → j ≤ a) :=
 below_go h _ 0 xs.size (by omega) (Nat.zero_le _) (Nat.le_refl _) (fun k a hk => absurd hk (Nat.not_lt_zero _)) fun k a hk ha => by
  have : k < xs.size := by
   have := Array.getElem?_eq_some_iff.mp ha
   exact this.1
  omega
theorem insert_ris {xs : Array Nat} (h : Ris xs) {j : Nat} (hj : ∀ a ∈ xs.toList, a ≠ j) : Ris (SetTable.insertAt xs (SetTable.below xs j) j) := by
 obtain ⟨b1, b2, b3⟩ := below_spec h j
 unfold Ris
 rw [SetTable.toList_insertAt]
 have hlo : ∀ a ∈ xs.toList.take (SetTable.below xs j), a < j := fun a ha => by
  obtain ⟨i, hi⟩ := List.mem_iff_getElem?.mp ha
  rw [List.getElem?_take] at hi
  split at hi
  ·rename_i hlt
   exact b2 i a hlt (by simpa using hi)
  ·cases hi
 have hhi : ∀ a ∈ xs.toList.drop (SetTable.below xs j), j < a := fun a ha => by
  obtain ⟨i, hi⟩ := List.mem_iff_getElem?.mp ha
  rw [List.getElem?_drop] at hi
  have := b3 _ a (Nat.le_add_right _ i) (by simpa using hi)
  have ne := hj a (List.mem_of_mem_drop ha)
  omega
 have h' := h
 unfold Ris at h'
 rw [← List.take_append_drop (SetTable.below xs j) xs.toList] at h'
 obtain ⟨p1, p2, p3⟩ := List.pairwise_append.mp h'
 refine List.pairwise_append.mpr ⟨p1, List.pairwise_cons.mpr ⟨hhi, p2⟩, fun a ha b hb => ?_⟩
 rcases List.mem_cons.mp hb with rfl | hb
 ·exact hlo a ha
 ·exact p3 a ha b hb
theorem slot_free {t : SetTable} (h : Ris t.place) {j : Nat} (hs : ∀ i, t.slot j ≠ .live i) : ∀ a ∈ t.place.toList, a ≠ j := fun a ha e => by
 subst e
 obtain ⟨i, hi⟩ := List.mem_iff_getElem?.mp ha
 have hi' : t.place[i]? = some a := by simpa using hi
 obtain ⟨b1, b2, b3⟩ := below_spec h a
 have e : SetTable.below t.place a = i := by
  rcases Nat.lt_trichotomy (SetTable.below t.place a) i with c | c | c
  ·have hk : t.place[SetTable.below t.place a]? = some (t.place[SetTable.below t.place a]'(by have := (Array.getElem?_eq_some_iff.mp hi').1; omega)) := by simp
   have h1 := h.lt c hk hi'
   have h2 := b3 _ _ (Nat.le_refl _) hk
   omega
  ·exact c
  ·have := b2 i a c hi'; omega
 refine hs i ?_
 unfold SetTable.slot
 dsimp only
 rw [e, hi']
 simp
theorem probe_free {t : SetTable} {hashAt : Nat → Int} {h : Int} : ∀ {fuel : Nat} {p : SetTable.Probe} {j : Nat} {d : Option Nat}, (∀ x, p.dummy = some x → ∀ i, t.slot x ≠ .live i) → SetTable.probe.go t hashAt h fuel p = some (.empty j d) → (∀ i, t.slot j ≠ .live i) ∧ ∀ x, d = some x → ∀ i, t.slot x ≠ .live i
 | 0, p, j, d, _, e => by rw [SetTable.probe.go] at e; cases e
 | fuel + 1, p, j, d, hd, e => by
   rw [SetTable.probe.go] at e
   cases hs : t.slot p.j with
   | empty =>
     rw [hs] at e
     cases e
     exact ⟨fun i z => (by rw [hs] at z; cases z), hd⟩
   | dummy =>
     rw [hs] at e
     refine probe_free (fuel := fuel) (fun x hx => ?_) e
     have : x = p.j := by
      unfold SetTable.advance at hx
      dsimp only at hx
      split at hx <;> (cases hx; rfl)
     subst this
     intro i z
     rw [hs] at z; cases z
   | live i =>
     rw [hs] at e
     dsimp only at e
     split at e
     ·cases e
     ·refine probe_free (fuel := fuel) (fun x hx => hd x ?_) e
      unfold SetTable.advance at hx
      dsimp only at hx
      split at hx <;> exact hx
theorem free_slot {t : SetTable} {h : Int} {j : Nat} {b : Bool} (e : t.freeSlot h = some (j, b)) : ∀ i, t.slot j ≠ .live i := by
 unfold SetTable.freeSlot SetTable.probe at e
 split at e
 ·rename_i j' dm hp
  have := probe_free (fun x hx => by unfold SetTable.probeStart at hx; cases hx) hp
  cases dm with
  | none => cases e; exact this.1
  | some d => cases e; exact this.2 d rfl
 ·cases e
def TGood (b : Bool) (t : SetTable) : Prop := Ris t.place ∧ t.led = b
theorem range_ris (n : Nat) : Ris (Array.range n) := by
 unfold Ris
 rw [Array.toList_range]
 exact List.pairwise_lt_range
theorem standIn_good {b : Bool} {t : SetTable} (h : t.led = b) (n : Nat) : TGood b (t.standIn n) := ⟨range_ris n, h⟩
theorem layNew_good {b : Bool} {t : SetTable} (hg : TGood b t) (es : Array (Int × Value)) (h : Int) (x : Value) : TGood b (layNew t es h x).2.1 := by
 unfold layNew
 split
 ·rename_i slot wd hf
  dsimp only
  unfold SetTable.orStandIn
  split
  ·exact ⟨insert_ris hg.1 (slot_free hg.1 (free_slot hf)), hg.2⟩
  ·exact standIn_good hg.2 _
 ·exact standIn_good hg.2 _
theorem live_ris {mask : Nat} {owner : Array (Option Nat)} : (((List.range (mask + 1)).filterMap fun j => (owner.getD j none).map (j, ·)).map (·.1)).Pairwise (· < ·) := by
 rw [List.pairwise_map, List.pairwise_filterMap]
 refine List.pairwise_lt_range.imp fun {i k} hik a ha b hb => ?_
 obtain ⟨_, _, rfl⟩ := Option.map_eq_some_iff.mp ha
 obtain ⟨_, _, rfl⟩ := Option.map_eq_some_iff.mp hb
 exact hik
theorem relayAll_good {b : Bool} {t : SetTable} (hg : TGood b t) (es : Array (Int × Value)) (wanted : Nat) : TGood b (relayAll t es wanted).2.1 := by
 unfold relayAll
 split
 ·rename_i t' order hr
  dsimp only
  split
  ·unfold SetTable.relaid SetTable.laid at hr
   obtain ⟨owner, _, hr⟩ := Option.bind_eq_some_iff.mp hr
   cases hr
   refine ⟨?_, hg.2⟩
   show (List.toArray _).toList.Pairwise _
   exact live_ris
  ·exact standIn_good hg.2 _
 ·exact standIn_good hg.2 _
def valI : Value → Int
 | .int n _ => n
 | _ => 0
def SetT (prog : Program) (w : World) (h : Heap) (a : Addr) (b : Bool) (ns : List Int) : Prop :=
 ∃ (o : Obj) (es : Array (Int × Value)) (ep : Nat) (t : SetTable), (h.get? a = some o ∧ o.ExactSet ∧ o.data = .set es ep t) ∧ ElemsOf (intKind prog w) es.toList ∧ (t.fits es.size = true ∧ TGood b t) ∧ ns = es.toList.map (fun e => valI e.2) ∧ ns.Nodup
section
variable {prog : Program} {w : World} {A : Around} {E : Value → Shared → Prop} {s : Shared}
theorem val_of {v : Value} {k : Int} (h : (intKind prog w).is k v = true) : valI v = k := by
 obtain ⟨t, ht⟩ := Value.isInt_shape h
 rw [ht]; rfl
theorem SetT.kept {h h' : Heap} {a : Addr} {b : Bool} {ns : List Int} (T : SetT prog w h a b ns) (k : ∀ o, h.get? a = some o → h'.get? a = some o) : SetT prog w h' a b ns := by
 obtain ⟨o, es, ep, t, ⟨gets, ex, data⟩, rest⟩ := T
 exact ⟨o, es, ep, t, ⟨k o gets, ex, data⟩, rest⟩
theorem stored {h : Heap} {a : Addr} {o : Obj} {es es1 : Array (Int × Value)} {ep : Nat} {t t1 : SetTable} (gets : h.get? a = some o) (data : o.data = .set es ep t) : (h.update a (Obj.putSet es1 t1)).get? a = some { o with data := .set es1 (ep + 1) t1 } := by
 have z := Heap.get?_update_self (Obj.putSet es1 t1) gets (by rw [putSet_of es1 t1 data]; rfl)
 rwa [putSet_of es1 t1 data] at z
theorem add_T {a : Addr} {b : Bool} {ns : List Int} {k : Int} {tk : Tok} {Q : Bool → Shared → Prop} (T : SetT prog w s.heap a b ns) (few : ns.length < 1000)
 (h : ∀ (r : Bool) (h' : Heap) (ns' : List Int), Heap.SameBut a s.heap h' → SetT prog w h' a b ns' → (∀ x, x ∈ ns' ↔ x ∈ ns ∨ x = k) → ns'.length ≤ ns.length + 1 → Q r { s with heap := h' }) :
 wpAny (model prog w) A (setAddHashed a (.int k tk) ((intKind prog w).hash k)) Q E s := by
 obtain ⟨o, es, ep, t, ⟨gets, ex, data⟩, elems, ⟨fit, good⟩, rfl, nd⟩ := T
 have sz : es.size = (es.toList.map fun e => valI e.2).length := by simp
 have e4 : scanBound = 4096 := rfl
 have bound : es.size < scanBound := by omega
 have isk := intKind_is prog w k tk
 unfold setAddHashed setAddHashedIn
 refine wpAny_holding (wpAny_bind (wpAny_setState_of gets data fit ?_))
 dsimp only
 rw [byScan_of (knd := intKind prog w) (x := .int k tk) rfl bound elems, if_pos rfl]
 unfold setAddByScan
 refine wpAny_bind (wpAny_bind (wpAny_rule (wpAny_bind (wpAny_setScan_of isk gets data fit elems ?_))))
 cases found : List.findIdx? (fun e => (intKind prog w).is k e.2) es.toList with
 | some j =>
   dsimp only
   obtain ⟨hj, pj, _⟩ := List.findIdx?_eq_some_iff_getElem.mp found
   have mem : k ∈ es.toList.map fun e => valI e.2 := List.mem_map.mpr ⟨es.toList[j], List.getElem_mem hj, val_of pj⟩
   refine wpAny_pure (wpAny_pure ?_)
   exact h false s.heap _ (Heap.SameBut.refl a s.heap) ⟨o, es, ep, t, ⟨gets, ex, data⟩, elems, ⟨fit, good⟩, rfl, nd⟩ (fun x => ⟨.inl, fun z => z.elim id fun e => e ▸ mem⟩) (Nat.le_succ _)
 | none =>
   dsimp only
   have new : k ∉ es.toList.map fun e => valI e.2 := fun z => by
    obtain ⟨e, he, hv⟩ := List.mem_map.mp z
    obtain ⟨⟨k', hk', _⟩, _⟩ := elems e he
    have ek : k' = k := (val_of hk').symm.trans hv
    subst ek
    have := List.findIdx?_eq_none_iff.mp found e he
    rw [hk'] at this; cases this
   have perm := layNew_perm t es ((intKind prog w).hash k) (.int k tk)
   have fits := layNew_fits t es ((intKind prog w).hash k) (.int k tk)
   have good1 := layNew_good good es ((intKind prog w).hash k) (.int k tk)
   generalize layNew t es ((intKind prog w).hash k) (.int k tk) = L at perm fits good1 ⊢
   obtain ⟨es1, t1, wasDummy, gave⟩ := L
   dsimp only at perm fits good1 ⊢
   rw [Array.toList_push] at perm
   have elems1 : ElemsOf (intKind prog w) es1.toList := (elems.push isk rfl).perm perm
   have pm : (es1.toList.map fun e => valI e.2).Perm ((es.toList.map fun e => valI e.2) ++ [k]) := by
    have := perm.map fun e => valI e.2
    rwa [List.map_append] at this
   have nd1 : (es1.toList.map fun e => valI e.2).Nodup := by
    refine (pm.nodup_iff).mpr (List.nodup_append.mpr ⟨nd, by simp, fun x hx y hy => ?_⟩)
    rw [List.mem_singleton.mp hy]
    exact fun e => new (e ▸ hx)
   have len1 := pm.length_eq
   rw [List.length_append, List.length_singleton] at len1
   have sz1 : es1.size = (es1.toList.map fun e => valI e.2).length := by simp
   have bound1 : es1.size < scanBound := by omega
   have mem1 : ∀ x, x ∈ (es1.toList.map fun e => valI e.2) ↔ x ∈ (es.toList.map fun e => valI e.2) ∨ x = k := fun x => by
    rw [pm.mem_iff, List.mem_append, List.mem_singleton]
   have g1 := stored (es1 := es1) (t1 := t1) gets data
   have sb1 := Heap.SameBut.update s.heap a (Obj.putSet es1 t1)
   have perm2 := relayAll_perm t1 es1 (SetTable.grown es1.size)
   have fits2 := relayAll_fits t1 es1 (SetTable.grown es1.size)
   have good2 := relayAll_good good1 es1 (SetTable.grown es1.size)
   have tail : ∀ {g : Bool → Sem Unit} {R : Option Bool → Shared → Prop}, (∀ (b : Bool) (s₁ : Shared) (Q' : Unit → Shared → Prop), Q' () s₁ → wpAny (model prog w) A (g b) Q' E s₁) →
    (∀ (h' : Heap) (ns' : List Int), Heap.SameBut a s.heap h' → SetT prog w h' a b ns' → (∀ x, x ∈ ns' ↔ x ∈ (es.toList.map fun e => valI e.2) ∨ x = k) → ns'.length ≤ (es.toList.map fun e => valI e.2).length + 1 → R (some true) { s with heap := h' }) →
    wpAny (model prog w) A (do
     storeSet a es1 t1
     if (!wasDummy && t1.tooFull) = true then do
         g (relayAll t1 es1 (SetTable.grown es1.size)).2.2
         storeSet a (relayAll t1 es1 (SetTable.grown es1.size)).1 (relayAll t1 es1 (SetTable.grown es1.size)).2.1
         pure (some true)
      else pure (some true)) R E s := fun {g R} hg hR => by
    refine wpAny_bind (wpAny_storeSet_of gets data ?_ (fits_of_scanBound bound1))
    split
    ·generalize relayAll t1 es1 (SetTable.grown es1.size) = L2 at perm2 fits2 good2 ⊢
     obtain ⟨es2, t2, gave2⟩ := L2
     dsimp only at perm2 fits2 good2 ⊢
     have p2 : (es2.toList.map fun e => valI e.2).Perm (es1.toList.map fun e => valI e.2) := perm2.map _
     have sz2 : es2.size = es1.size := by rw [← Array.length_toList, perm2.length_eq, Array.length_toList]
     have bound2 : es2.size < scanBound := by omega
     refine wpAny_bind (hg _ _ _ (wpAny_bind (wpAny_storeSet_of g1 rfl (wpAny_pure ?_) (fits_of_scanBound bound2))))
     refine hR _ _ (sb1.trans (Heap.SameBut.update _ a _)) ⟨_, es2, _, t2, ⟨stored g1 rfl, ex, rfl⟩, elems1.perm perm2, ⟨fits2, good2⟩, rfl, p2.nodup_iff.mpr nd1⟩ (fun x => by rw [p2.mem_iff]; exact mem1 x) (by rw [p2.length_eq, len1]; exact Nat.le_refl _)
    ·exact wpAny_pure (hR _ _ sb1 ⟨_, es1, _, t1, ⟨g1, ex, rfl⟩, elems1, ⟨fits, good1⟩, rfl, nd1⟩ mem1 (by rw [len1]; exact Nat.le_refl _))
   have fin : ∀ (h' : Heap) (ns' : List Int), Heap.SameBut a s.heap h' → SetT prog w h' a b ns' → (∀ x, x ∈ ns' ↔ x ∈ (es.toList.map fun e => valI e.2) ∨ x = k) → ns'.length ≤ (es.toList.map fun e => valI e.2).length + 1 → Q true { s with heap := h' } := h true
   have pass : ∀ (c : Bool) (s₁ : Shared) (Q' : Unit → Shared → Prop), Q' () s₁ → wpAny (model prog w) A (match c with | true => rule "set.scan.the-table-gave-way" | false => pure ()) Q' E s₁ := fun c s₁ Q' q => by
    cases c
    ·exact wpAny_pure q
    ·exact wpAny_rule q
   refine wpAny_bind (pass _ _ _ ?_)
   have hv : hashByValue 8 (.int k tk) = pure true := rfl
   split
   ·refine wpAny_bind ?_
    rw [hv]
    refine wpAny_pure ?_
    exact tail (fun c s₁ Q' q => pass c s₁ Q' q) fun h' ns' x1 x2 x3 x4 => wpAny_pure (fin h' ns' x1 x2 x3 x4)
   ·refine wpAny_bind (wpAny_pure ?_)
    exact tail (fun c s₁ Q' q => pass c s₁ Q' q) fun h' ns' x1 x2 x3 x4 => wpAny_pure (fin h' ns' x1 x2 x3 x4)
def setB (w : World) : Bool := !(w.params.followText "set-order")
def freshS (w : World) : Obj := { cls := .type "set", dict := none, data := .set #[] 0 (.fresh 0 0 (setB w)) }
theorem new_led (x : Value) {R : Value → Shared → Prop} (k : R (.ref s.heap.objs.size) { s with heap := s.heap.push (freshS w) }) :
 codeAny (model prog w) A (.call (.builtin "set.__new__") ⟨[.type "set", x], []⟩) (wants R E) s := by
 refine codeAny_of_tree (show wpAny _ A.in1 (do checkBuiltinCall "set.__new__" ⟨[.type "set", x], []⟩; again (.builtin "set.__new__" ⟨[.type "set", x], []⟩)) _ _ s from ?_)
 refine wpAny_bind (wpAny_of_eq (F.newCall_set_1 x) (wpAny_pure ⟨plainId_quiet F.plain_set_new _, codeAny_builtin F.entry_set_new (by
  rw [Around.under_plainId F.plain_set_new _]
  unfold Builtin.«set.__new__» Builtin.Frozenset.newClass
  have sub := sub_set_self
  obtain ⟨hp, g, d, tk, os⟩ := s
  dsimp only
  wp_walk
  refine wpAny_askSetting (wpAny_pure ?_)
  dsimp only
  simp only [newObj]
  exact wpAny_bind (wpAny_alloc (wpAny_pure (wpAny_pure k))))⟩))
theorem SetT.fresh {h : Heap} {a : Addr} (gets : h.get? a = some (freshS w)) : SetT prog w h a (setB w) [] :=
 ⟨_, #[], 0, _, ⟨gets, ⟨rfl, rfl, rfl⟩, rfl⟩, fun e he => by simp at he, ⟨rfl, by unfold Ris SetTable.fresh; exact List.Pairwise.nil, rfl⟩, rfl, List.nodup_nil⟩
theorem upd_T {I : Addr} {fp wr : List Addr} {G : Array GenState → Array GenState → Prop} {n : Nat} {P : Nat → Value → Prop} {St : Nat → Shared → Prop} {R : Result → Shared → Prop} {b : Bool}
 (W : WalksS prog w A.in1 I fp wr G n P St) (a : Addr) (out : a ∉ fp) (ns : List Int) (val : ∀ i v, P i v → ∃ k t, ns[i]? = some k ∧ v = .int k t) (few : n < 900) :
 ∀ (m i : Nat) (s : Shared) (T : List Int), n - i = m → i ≤ n → St i s → SetT prog w s.heap a b T → (∀ x, x ∈ T ↔ x ∈ ns.take i) → T.length ≤ i →
   (∀ s' T', Moved (a :: wr) G s s' → SetT prog w s'.heap a b T' → (∀ x, x ∈ T' ↔ x ∈ ns.take n) → T'.length ≤ n → R (.ok (.ret .none)) s') →
   codeAny (model prog w) A (.builtin "set.update.loop" ⟨[.ref a, .ref I], []⟩) R s := by
 have outW : a ∉ wr := fun z => out (W.sub _ z)
 have more : ∀ c ∈ wr, c ∈ a :: wr := fun c hc => List.mem_cons_of_mem _ hc
 intro m
 induction m with
 | zero =>
   intro i s T hm hi st hT hx hl hR
   have e : i = n := by omega
   subst e
   refine codeAny_builtin PyProof.Rows.F.entry_set_update_loop ?_
   rw [Around.under_plainId PyProof.Rows.F.plain_set_update_loop _]
   show wpAny _ A.in1 (pyNext (.ref I) >>= _) _ _ s
   exact wpAny_bind (W.done s _ _ st fun s' mv => wpAny_pure (hR s' T (mv.mono more) (hT.kept fun o => mv.heap a o outW) hx hl))
 | succ m ih =>
   intro i s T hm hi st hT hx hl hR
   have lt : i < n := by omega
   refine codeAny_builtin PyProof.Rows.F.entry_set_update_loop ?_
   rw [Around.under_plainId PyProof.Rows.F.plain_set_update_loop _]
   show wpAny _ A.in1 (pyNext (.ref I) >>= _) _ _ s
   refine wpAny_bind (W.item i s _ _ lt st fun v s' hP st' mv => ?_)
   obtain ⟨k, tk, hk, rfl⟩ := val i v hP
   show wpAny _ A.in1 (holding [Value.int k tk] (setAdd a (.int k tk)) >>= _) _ _ s'
   refine wpAny_bind (wpAny_holding ?_)
   unfold setAdd
   refine wpAny_holding (wpAny_bind ((intKind prog w).pyHash (k := k) (intKind_is _ _ _ _) ?_))
   refine add_T (b := b) (ns := T) (s := { s' with toks := s'.toks + 1 }) (hT.kept fun o => mv.heap a o outW) (by omega) fun r h' T' sb hT' hx' hl' => ?_
   refine wpAny_pure ⟨plainId_quiet PyProof.Rows.F.plain_set_update_loop _, ih (i + 1) _ T' (by omega) lt (W.frame _ s' _ _ st' (Nat.le_succ _) fun c hc o e => ?_) hT' (fun x => ?_) (by omega) fun s'' T'' mv'' hT'' hx'' hl'' => ?_⟩
   ·rw [sb.2 c (fun z : c = a => out (by rw [← z]; exact hc))]; exact e
   ·rw [hx' x, hx x, List.take_add_one, hk]
    simp
   ·refine hR s'' T'' (Moved.trans W.gtrans ((mv.mono more).then_heap (Nat.le_succ _) fun c o hc e => ?_) mv'') hT'' hx'' hl''
    rw [sb.2 c (fun z : c = a => hc (by rw [z]; exact List.mem_cons_self))]; exact e
set_option maxHeartbeats 8000000 in
theorem call_set_T {l : Addr} {items : Array Value} {ns : List Int} {Q : Value → Shared → Prop} (quiet : A.handled = none) (hl : s.heap.IsList l items) (hi : PyProof.Rows.IntsAre items.toList ns) (few : items.size < 900)
 (k : ∀ (h' : Heap) (tk : Nat) (T : List Int), SetT prog w h' s.heap.objs.size (setB w) T → (∀ x, x ∈ T ↔ x ∈ ns) → T.length ≤ ns.length → (∀ b o, b < s.heap.objs.size → s.heap.get? b = some o → h'.get? b = some o) → Q (.ref s.heap.objs.size) { s with heap := h', toks := tk }) :
 wpAny (model prog w) A (call (.type "set") [.ref l]) Q E s := by
 have lenN : items.size = ns.length := by have := hi.length; simpa using this
 obtain ⟨c1, tl1, mro1⟩ := F.called_set.mro
 have made1 := F.called_set.made
 have sub1 := F.called_set.sub
 refine wpAny_call (codeAny_of_tree (show wpAny _ _ (callAny (.type "set") _) _ _ _ from ?_))
 refine wpAny_pure ⟨Code.quiet_builtin _ (by decide +kernel), codeAny_builtin F.entry_type_call ?_⟩
 rw [Around.under_plain (weight_type_call_type "set" [.ref l] []) rfl]
 have nt1 := F.called_set.notType
 have cc1 := F.called_set.canCreate
 have ct1 := F.typeCall_set_1 (.ref l)
 repeat any_goals (first | wp_step | assumption)
 refine codeAny_mono (new_led (.ref l) (E := E) (R := fun obj s₁ => obj = .ref s.heap.objs.size ∧ s₁ = { s with heap := s.heap.push (freshS w) }) ⟨rfl, rfl⟩) fun r s₁ hr => ?_
 cases r with
 | error e => exact hr
 | ok fl =>
   cases fl with
   | ret obj =>
     obtain ⟨rfl, rfl⟩ := hr
     have gets : (s.heap.push (freshS w)).get? s.heap.objs.size = some (freshS w) := Heap.get?_push_size _ rfl
     have ty : Shared.TypeIs { s with heap := s.heap.push (freshS w) } (.ref s.heap.objs.size) "set" := ⟨_, gets, rfl⟩
     have lk1 := F.called_set.init.lookup
     have bd1 := F.called_set.init.bind (.ref s.heap.objs.size)
     repeat any_goals (first | wp_step | assumption)
     refine codeAny_mono (codeAny_call_builtin (R := wants (fun r s₂ => r = .none ∧ ∃ h' tk T, s₂ = { s with heap := h', toks := tk } ∧ SetT prog w h' s.heap.objs.size (setB w) T ∧ (∀ x, x ∈ T ↔ x ∈ ns) ∧ T.length ≤ ns.length ∧
      (∀ b o, b < s.heap.objs.size → s.heap.get? b = some o → h'.get? b = some o)) E) F.called_set.init.plain F.entry_set_init (check_set_init_1 ty ?_)) fun r₂ s₂ hr₂ => ?_
     ·obtain ⟨ol, gol, clsl, nl, datl⟩ := hl
      obtain ⟨ocls, odict, odata, oslots⟩ := ol
      simp only at clsl datl
      subst clsl; subst datl
      have gol1 : (s.heap.push (freshS w)).get? l = some { cls := .type "list", dict := odict, data := .seq items nl, slots := oslots } := Heap.get?_push_of_some _ gol
      have sls := F.sub_list_set
      have slf := F.sub_list_frozenset
      have nd1 : (Value.type "list" == Value.type "dict") = false := by decide
      have il1 : (s.heap.push (freshS w)).IsList l items := ⟨_, gol1, rfl, nl, rfl⟩
      have fr1 := gets
      unfold freshS at fr1 gol1
      unfold Builtin.«set.__init__» noKeywords Builtin.Frozenset.updateFrom
      generalize hPI : pyIter = PI
      wp_walk
      subst hPI
      refine wpAny_pyIter_list il1 (wpAny_bind (wpAny_runValue ?_))
      have lts : l < s.heap.objs.size := Heap.lt_size gol
      have q3 : A.in1.in1.in1.handled = none := by simp [quiet]
      have szp : (s.heap.push (freshS w)).objs.size = s.heap.objs.size + 1 := Heap.size_push ..
      have neI : l ≠ (s.heap.push (freshS w)).objs.size := by rw [szp]; exact Nat.ne_of_lt (Nat.lt_succ_of_lt lts)
      have out : s.heap.objs.size ∉ [(s.heap.push (freshS w)).objs.size, l] := by
       rw [szp]
       intro z
       rcases List.mem_cons.mp z with z | z
       ·exact absurd z (Nat.ne_of_lt (Nat.lt_succ_self _))
       ·exact absurd (List.mem_singleton.mp z) (Nat.ne_of_gt lts)
      refine upd_T (b := setB w) ((Walks.list q3 _ l neI items).toS) s.heap.objs.size out ns (fun i v hv => ?_) few (items.size - 0) 0 _ [] (by omega) (Nat.zero_le _) ⟨⟨_, Heap.get?_push_size _ rfl, rfl, rfl⟩, il1.push _⟩ (SetT.fresh (Heap.get?_push_of_some _ gets)) (fun x => by simp) (Nat.zero_le _) fun s' T' mv hT' hx' hl' => ?_
      ·have hv' : items.toList[i]? = some v := by rw [Array.getElem?_toList]; exact hv
       obtain ⟨t, ht⟩ := PyProof.Rows.IntsAre.int_at hi i v hv'
       have lt : i < ns.length := by
        have := (List.getElem?_eq_some_iff.mp hv').1
        rw [Array.length_toList] at this
        omega
       refine ⟨ns.getD i 0, t, ?_, ht⟩
       rw [List.getD_eq_getElem?_getD, List.getElem?_eq_getElem lt]; rfl
      ·obtain ⟨h', g', d', tk', os'⟩ := s'
       have eg : g' = s.gens := mv.gens
       have ed : d' = s.drawn := mv.drawn
       have eo : os' = s.os := mv.os
       subst eg; subst ed; subst eo
       show wpAny _ _ _ _ _ _
       refine wpAny_pure (show wpAny _ _ (ret Value.none) _ _ _ from wpAny_pure ⟨rfl, h', tk', T', rfl, hT', fun x => ?_, by omega, fun b o hb e => ?_⟩)
       ·rw [hx' x, List.take_of_length_le (by omega)]
       ·refine mv.heap b o (fun z => ?_) (Heap.get?_push_of_some _ (Heap.get?_push_of_some _ e))
        rcases List.mem_cons.mp z with z | z
        ·exact absurd z (Nat.ne_of_lt hb)
        ·rw [List.mem_singleton.mp z, szp] at hb
         exact absurd hb (Nat.not_lt.mpr (Nat.le_succ _))
     ·cases r₂ with
      | error e => exact hr₂
      | ok fl₂ =>
        cases fl₂ with
        | ret r =>
          obtain ⟨rfl, h', tk, T, rfl, hT, hx, hlT, keep⟩ := hr₂
          repeat any_goals (first | wp_step | assumption)
          exact k _ _ T hT hx hlT keep
        | _ => exact hr₂.elim
   | _ => exact hr.elim
end
end S
namespace S
open PySem
theorem own_sit : Manifest.owners.lookup (String.ofList ['r', 'o', 't', 'a', 'r', 'e', 't', 'i', '_', 't', 'e', 's'].reverse) = some Manifest.sig_set_iterator := by kernel_rfl
theorem args_sit_next (x : Value) : argsOk "set_iterator.__next__" ⟨[x], []⟩ := by
 unfold argsOk
 rw [signature?_of (id := "set_iterator.__next__") (n := ['_', '_', 't', 'x', 'e', 'n', '_', '_']) (o := ['r', 'o', 't', 'a', 'r', 'e', 't', 'i', '_', 't', 'e', 's']) (by kernel_rfl) own_sit]
 kernel_rfl
theorem slot_sit_next : Slot "set_iterator" "__next__" "set_iterator.__next__" := .of (owner := "set_iterator") (n := "__next__") (by rw [typeLookup_type, builtinLookup_eq_fast]; kernel_rfl) (by decide +kernel) (by decide +kernel) (by decide +kernel) (by first | exact .inl (by decide +kernel) | exact .inr (by decide +kernel)) (by rw [isSubtype_type]; kernel_rfl)
theorem entry_sit_next : entryFor table "set_iterator.__next__" = some Builtin.«set_iterator.__next__» := entryFor_of_tree (by kernel_rfl)
theorem slot_sit_iter : Slot "set_iterator" "__iter__" "set_iterator.__iter__" := .of (owner := "set_iterator") (n := "__iter__") (by rw [typeLookup_type, builtinLookup_eq_fast]; kernel_rfl) (by decide +kernel) (by decide +kernel) (by decide +kernel) (by first | exact .inl (by decide +kernel) | exact .inr (by decide +kernel)) (by rw [isSubtype_type]; kernel_rfl)
theorem args_sit_iter (x : Value) : argsOk "set_iterator.__iter__" ⟨[x], []⟩ := by
 unfold argsOk
 rw [signature?_of (id := "set_iterator.__iter__") (n := ['_', '_', 'r', 'e', 't', 'i', '_', '_']) (o := ['r', 'o', 't', 'a', 'r', 'e', 't', 'i', '_', 't', 'e', 's']) (by kernel_rfl) own_sit]
 kernel_rfl
theorem entry_sit_iter : entryFor table "set_iterator.__iter__" = some Builtin.«dict_keyiterator.__iter__» := entryFor_alias (id' := "dict_keyiterator.__iter__") (by kernel_rfl) rfl (by decide +kernel) (by kernel_rfl)
theorem entry_set_iter : entryFor table "set.__iter__" = some Builtin.«frozenset.__iter__» := entryFor_alias (id' := "frozenset.__iter__") (by kernel_rfl) rfl (by decide +kernel) (by kernel_rfl)
theorem erase_perm {α : Type} : ∀ {xs : List α} {i : Nat} (h : i < xs.length), (xs[i] :: xs.eraseIdx i).Perm xs
 | [], i, h => by simp at h
 | x :: xs, 0, h => List.Perm.refl _
 | x :: xs, i + 1, h => by
   have ih := erase_perm (xs := xs) (i := i) (by simpa using h)
   exact (List.Perm.swap _ _ _).trans (ih.cons x)
section
variable {prog : Program} {w : World} {A : Around} {E : Value → Shared → Prop} {s : Shared}
theorem choose_any {src : Source} {n : Nat} {Q : Nat → Shared → Prop} (hn : n ≠ 0) (k : ∀ i d, i < n → Q i { s with drawn := d }) : wpAny (model prog w) A (choose src n) Q E s := fun Γ p hΓ => by
 show Sem.wp _ _ (Sem.choose src n _) _ _ _ _
 rw [Sem.wp_choose]
 exact ⟨hn, k _ _ (Nat.mod_lt _ (by omega))⟩
theorem draw_T {α : Type} : ∀ (n : Nat) (xs : List α) (s : Shared) (Q : List α → Shared → Prop), xs.length = n → (∀ d ys, ys.Perm xs → Q ys { s with drawn := d }) → wpAny (model prog w) A (drawOrder n xs) Q E s
 | 0, [], s, Q, _, k => by rw [drawOrder]; exact wpAny_pure (k s.drawn [] (List.Perm.refl _))
 | n + 1, x :: xs, s, Q, hl, k => by
   rw [drawOrder]
   ·refine wpAny_bind (choose_any (by simp) fun i d hi => ?_)
    have e : (x :: xs)[i]? = some (x :: xs)[i] := List.getElem?_eq_getElem hi
    rw [e]
    dsimp only
    refine wpAny_bind (draw_T n _ _ _ (by rw [List.length_eraseIdx, if_pos hi, hl]; rfl) fun d2 ys hp => wpAny_pure (k d2 _ ?_))
    have hc := List.Perm.cons (x :: xs)[i] hp
    refine hc.trans ?_
    exact erase_perm hi
   ·intro z; cases z
 | 0, _ :: _, s, Q, h, _ => by simp at h
 | _ + 1, [], s, Q, h, _ => by simp at h
structure SetD (prog : Program) (w : World) (oS : Obj) (es : Array (Int × Value)) (ep : Nat) (t : SetTable) : Prop where
 ex : oS.ExactSet
 data : oS.data = .set es ep t
 elems : ElemsOf (intKind prog w) es.toList
 fit : t.fits es.size = true
 good : TGood (setB w) t
theorem below_zero {xs : Array Nat} (h : Ris xs) : SetTable.below xs 0 = 0 := by
 obtain ⟨b1, b2, b3⟩ := below_spec h 0
 rcases Nat.eq_zero_or_pos (SetTable.below xs 0) with z | z
 ·exact z
 ·have : xs[0]? = some (xs[0]'(by omega)) := by simp
  exact absurd (b2 0 _ z this) (Nat.not_lt_zero _)
theorem below_succ {xs : Array Nat} (h : Ris xs) {i j : Nat} (hj : xs[i]? = some j) : SetTable.below xs (j + 1) = i + 1 := by
 obtain ⟨b1, b2, b3⟩ := below_spec h (j + 1)
 have li : i < xs.size := (Array.getElem?_eq_some_iff.mp hj).1
 rcases Nat.lt_trichotomy (SetTable.below xs (j + 1)) (i + 1) with z | z | z
 ·have := b3 i j (by omega) hj; omega
 ·exact z
 ·have l2 : i + 1 < xs.size := by omega
  have h2 : xs[i + 1]? = some xs[i + 1] := by simp [l2]
  have := b2 (i + 1) _ z h2
  have := h.lt (Nat.lt_succ_self i) hj h2
  omega
def byT (w : World) : Bool := w.params.followText "set-order"
def ordT (w : World) (a : Addr) (ep : Nat) (es : Array (Int × Value)) : Array (Int × Value) := if byT w = true then pickOrder (w.params.setOrder a ep) es else es
def stT (w : World) (t : SetTable) (i slot : Nat) : Prop := byT w = true ∨ SetTable.below t.place slot = i
theorem pick_perm {α : Type} (f : Nat → Nat) : ∀ (n k : Nat) (left : List α) (out : Array α), left.length = n → (pickOrder.go f n k left out).toList.Perm (out.toList ++ left)
 | 0, k, [], out, _ => by rw [pickOrder.go]; simp
 | 0, k, _ :: _, out, h => by simp at h
 | n + 1, k, [], out, h => by simp at h
 | n + 1, k, x :: left, out, h => by
   rw [pickOrder.go]
   have hi : f k % (x :: left).length < (x :: left).length := Nat.mod_lt _ (by simp)
   rw [List.getElem?_eq_getElem hi]
   dsimp only
   have ih := pick_perm f n (k + 1) ((x :: left).eraseIdx (f k % (x :: left).length)) (out.push (x :: left)[f k % (x :: left).length]) (by rw [List.length_eraseIdx, if_pos hi, h]; rfl)
   refine ih.trans ?_
   rw [Array.toList_push, List.append_assoc]
   exact (erase_perm hi).append_left _
theorem ord_perm (w : World) (a : Addr) (ep : Nat) (es : Array (Int × Value)) : (ordT w a ep es).toList.Perm es.toList := by
 unfold ordT
 split
 ·unfold pickOrder
  have := pick_perm (w.params.setOrder a ep) es.size 0 es.toList #[] (by simp)
  simpa using this
 ·exact List.Perm.refl _
section
variable {a : Addr} {oS : Obj} {es : Array (Int × Value)} {ep : Nat} {t : SetTable} {slot i : Nat}
theorem by_text {Q : Bool → Shared → Prop} (k : Q (byT w) s) : wpAny (model prog w) A setsByText Q E s := by
 unfold setsByText
 exact wpAny_bind (wpAny_askSetting (wpAny_pure k))
theorem walk_text {Q : Array (Int × Value) → Shared → Prop} (gets : s.heap.get? a = some oS) (D : SetD prog w oS es ep t) (hb : byT w = true) (k : Q (pickOrder (w.params.setOrder a ep) es) s) : wpAny (model prog w) A (setWalk a) Q E s := by
 unfold setWalk
 refine wpAny_bind (wpAny_setState_of gets D.data D.fit ?_)
 dsimp only
 refine wpAny_bind (by_text ?_)
 rw [hb, if_pos rfl]
 exact wpAny_bind (wpAny_askSetting (wpAny_pure k))
theorem next_T {Q : Option (Value × Nat) → Shared → Prop} (gets : s.heap.get? a = some oS) (D : SetD prog w oS es ep t) (pl : byT w = true ∨ (t.plain = true ∨ es.size ≤ 1)) (st : stT w t i slot)
 (k1 : ∀ e slot', (ordT w a ep es)[i]? = some e → stT w t (i + 1) slot' → Q (some (e.2, slot')) s) (k2 : es.size ≤ i → Q none s) : wpAny (model prog w) A (setNext a slot i ep) Q E s := by
 have osz : (ordT w a ep es).size = es.size := by
  have := (ord_perm w a ep es).length_eq
  simpa using this
 unfold setNext
 refine wpAny_bind (wpAny_setState_of gets D.data D.fit ?_)
 dsimp only
 refine wpAny_bind (by_text ?_)
 cases hb : byT w with
 | true =>
   rw [if_pos rfl, if_neg (by simp)]
   refine wpAny_bind (walk_text gets D hb (wpAny_pure ?_))
   have eo : ordT w a ep es = pickOrder (w.params.setOrder a ep) es := by unfold ordT; rw [if_pos hb]
   rw [← eo]
   by_cases c : i < (ordT w a ep es).size
   ·have e : (ordT w a ep es)[i]? = some (ordT w a ep es)[i] := by simp [c]
    rw [e]
    exact k1 _ slot e (.inl hb)
   ·rw [Array.getElem?_eq_none (by omega)]
    exact k2 (by omega)
 | false =>
   have st' : SetTable.below t.place slot = i := st.resolve_left (by rw [hb]; exact Bool.false_ne_true)
   have pl' := pl.resolve_left (by rw [hb]; exact Bool.false_ne_true)
   rw [if_neg Bool.false_ne_true]
   split
   ·rename_i z
    exfalso
    have z' : (!t.plain && decide (es.size > 1)) = true := z
    rw [Bool.and_eq_true, decide_eq_true_eq] at z'
    rcases pl' with p | p
    ·rw [p] at z'; exact Bool.false_ne_true z'.1
    ·omega
   have led : t.led = true := by
    have := D.good.2
    unfold setB at this
    rw [this, show w.params.followText "set-order" = false from hb]; rfl
   refine wpAny_bind (show wpAny _ _ (if (!t.led && !es.isEmpty) = true then unsupported "set:maker-not-led" else pure ()) _ _ s from ?_)
   rw [led, if_neg (by simp)]
   refine wpAny_pure (wpAny_pure ?_)
   rw [st']
   have eo : ordT w a ep es = es := by unfold ordT; rw [if_neg (by rw [hb]; exact Bool.false_ne_true)]
   have psz : t.place.size = es.size := by
    have := D.fit
    unfold SetTable.fits at this
    rw [Bool.and_eq_true] at this
    simpa using this.1
   by_cases c : i < es.size
   ·have e : es[i]? = some es[i] := by simp [c]
    have ep' : t.place[i]? = some (t.place[i]'(by omega)) := by simp
    rw [e, ep']
    exact k1 es[i] _ (by rw [eo]; exact e) (.inr (below_succ D.good.1 ep'))
   ·rw [Array.getElem?_eq_none (show es.size ≤ i by omega)]
    exact k2 (by omega)
end
end
end S
namespace S
open PySem
section
variable {prog : Program} {w : World} {A : Around} {E : Value → Shared → Prop} {s : Shared} {a I : Addr} {oS : Obj} {es : Array (Int × Value)} {ep : Nat} {t : SetTable} {slot i : Nat}
def ItF (h : Heap) (I : Addr) (vs : Array Value) : Prop := ∃ o, h.get? I = some o ∧ o.cls = .type "set_iterator" ∧ o.data = .fields vs
theorem ItF.ty {vs : Array Value} (x : ItF s.heap I vs) : s.TypeIs (.ref I) "set_iterator" := let ⟨_, e, c, _⟩ := x; ⟨_, e, c⟩
theorem ItF.set {h : Heap} {vs : Array Value} (x : ItF h I vs) (j : Nat) (v : Value) : ItF (h.update I (Obj.mapFields (·.setIfInBounds j v))) I (vs.setIfInBounds j v) := by
 obtain ⟨o, e, c, d⟩ := x
 exact ⟨_, Heap.get?_update_self _ e (Obj.isFreed_of_fields (Obj.data_mapFields d _)), (Obj.cls_mapFields ..).trans c, Obj.data_mapFields d _⟩
theorem sit_item {Q : Option Value → Shared → Prop} (x : ItF s.heap I #[.int slot 0, .int i 0, .ref a, .int es.size 0, .int ep 0]) (ne : a ≠ I) (gets : s.heap.get? a = some oS) (D : SetD prog w oS es ep t) (pl : byT w = true ∨ (t.plain = true ∨ es.size ≤ 1)) (st : stT w t i slot) (hi : i < es.size)
 (k1 : ∀ e slot' h', (ordT w a ep es)[i]? = some e → stT w t (i + 1) slot' → ItF h' I #[.int slot' 0, .int (i + 1 : Nat) 0, .ref a, .int es.size 0, .int ep 0] → Heap.SameBut I s.heap h' → Q (some e.2) { s with heap := h' }) : wpAny (model prog w) A (pyNext (.ref I)) Q E s := by
 have x' := x
 obtain ⟨o, go, gc, gd⟩ := x'
 unfold pyNext
 refine wpAny_bind (wpAny_attempt (wpAny_callSpecial?_slot (name := Str.ofString "__next__") x.ty slot_sit_next (wpAny_call_entry slot_sit_next x.ty entry_sit_next ?_ (args_sit_next _))))
 unfold Builtin.«set_iterator.__next__»
 refine wpAny_bind (wpAny_pure ?_)
 refine wpAny_bind (wpAny_fieldsOf go gd ?_)
 dsimp only
 refine wpAny_bind (wpAny_setEntries_of gets D.data D.fit ?_)
 rw [if_neg (by simp)]
 refine wpAny_bind (next_T (slot := slot) (i := i) gets D pl st (fun e slot' he hst => ?_) (fun z => absurd hi (by omega)))
 dsimp only
 refine wpAny_bind (wpAny_setField go gd (by simp) ?_)
 have x1 := x.set 0 (rawInt (slot' : Nat))
 have x2 := x1.set 1 (rawInt ((i : Int) + 1))
 obtain ⟨o1, go1, gc1, gd1⟩ := x1
 refine wpAny_bind (wpAny_setField go1 gd1 (by simp) ?_)
 refine wpAny_pure ⟨_, rfl, wpAny_pure (k1 e slot' _ he hst ?_ ((Heap.SameBut.update ..).trans (Heap.SameBut.update ..)))⟩
 simpa [rawInt] using x2
theorem stop_T {j : Nat} {x : Value} {h1 : Heap} {Q : Option Value → Shared → Prop} (quiet : A.handled = none) (k : ∀ h', (∀ b o, h1.get? b = some o → h'.get? b = some o) → Q none { s with heap := h' }) :
 wpAny (model prog w) A.in1 (newExc (.type "StopIteration") [] >>= fun e => (raiseNew e : Sem Fin)) (fun fin s' => ∃ v, fin = Fin.done (Flow.ret v) ∧ wpAny (model prog w) A (pure (some v)) Q E s')
  (fun e s' => wpAny (model prog w) A (isInstance e (Value.type "StopIteration") >>= fun b => if b = true then pure none else throw e) Q E s') { s with heap := h1 } := by
 refine wpAny_bind ?_
 simp only [newExc, newTuple]
 refine wpAny_bind (wpAny_newObj_type (wpAny_bind (m := firstArgMember _ _) (wpAny_of_eq (a := Value.none) (by first | rfl | (simp only [firstArgMember]; rfl)) (wpAny_newObj_type ?_ (by size_fits)))) (by size_fits))
 simp only [raiseNew]
 refine wpAny_bind (wpAny_handled ?_)
 rw [show A.in1.handled = none from quiet]
 refine' wpAny_bind (wpAny_pure (wpAny_throw ?told))
 case told =>
  refine' wpAny_bind (wpAny_isInstance (T := "StopIteration") (b := true) ⟨_, Heap.get?_push_size _ rfl, rfl⟩ isSubtype_stop ?yes)
  case yes => exact wpAny_pure (k _ fun b o e => Heap.get?_push_of_some _ (Heap.get?_push_of_some _ e))
theorem sit_done {Q : Option Value → Shared → Prop} (quiet : A.handled = none) (x : ItF s.heap I #[.int slot 0, .int i 0, .ref a, .int es.size 0, .int ep 0]) (gets : s.heap.get? a = some oS) (D : SetD prog w oS es ep t) (pl : byT w = true ∨ (t.plain = true ∨ es.size ≤ 1)) (st : stT w t i slot) (hi : es.size ≤ i)
 (k : ∀ h', (∀ b o, b ≠ I → s.heap.get? b = some o → h'.get? b = some o) → Q none { s with heap := h' }) : wpAny (model prog w) A (pyNext (.ref I)) Q E s := by
 have osz : (ordT w a ep es).size = es.size := by
  have := (ord_perm w a ep es).length_eq
  simpa using this
 have x' := x
 obtain ⟨o, go, gc, gd⟩ := x'
 unfold pyNext
 refine wpAny_bind (wpAny_attempt (wpAny_callSpecial?_slot (name := Str.ofString "__next__") x.ty slot_sit_next (wpAny_call_entry slot_sit_next x.ty entry_sit_next ?_ (args_sit_next _))))
 unfold Builtin.«set_iterator.__next__»
 refine wpAny_bind (wpAny_pure (wpAny_bind (wpAny_fieldsOf go gd ?_)))
 dsimp only
 refine wpAny_bind (wpAny_setEntries_of gets D.data D.fit ?_)
 rw [if_neg (by simp)]
 refine wpAny_bind (next_T (slot := slot) (i := i) gets D pl st (fun e slot' he hst => ?_) (fun _ => ?_))
 ·have := (Array.getElem?_eq_some_iff.mp he).1
  exact absurd this (by have z : (ordT w a ep es).size = es.size := osz
                        show ¬ i < (ordT w a ep es).size
                        omega)
 dsimp only
 refine wpAny_bind (wpAny_setField go gd (by simp) ?_)
 exact stop_T (j := 0) (x := .none) quiet fun h' keep => k h' fun b o hb e => keep b o ((Heap.SameBut.update s.heap I _).extBut b o hb e)
theorem sit_self {vs : Array Value} {Q : Value → Shared → Prop} (x : ItF s.heap I vs) (k : Q (.ref I) s) : wpAny (model prog w) A (pyIter (.ref I)) Q E s := by
 refine wpAny_pyIter_slot x.ty slot_sit_iter (wpAny_call_entry slot_sit_iter x.ty entry_sit_iter (show wpAny _ _ (ret (.ref I)) _ _ s from ?_) (args_sit_iter _))
 exact wpAny_pure ⟨_, rfl, "set_iterator", _, x.ty, slot_sit_next.lookup, k⟩
theorem sit_itemD {tp : Addr} {pls : List Nat} {oT : Obj} {nT p : Nat} {e : Int × Value} {Q : Option Value → Shared → Prop} (x : ItF s.heap I #[.ref tp, .int i 0, .ref a, .int es.size 0, .int ep 0]) (gt : s.heap.get? tp = some oT) (gtd : oT.data = .seq (pls.map fun (p : Nat) => rawInt p).toArray nT)
 (gets : s.heap.get? a = some oS) (D : SetD prog w oS es ep t) (hp : pls[i]? = some p) (he : es[p]? = some e)
 (k1 : ∀ h', ItF h' I #[.ref tp, .int (i + 1 : Nat) 0, .ref a, .int es.size 0, .int ep 0] → Heap.SameBut I s.heap h' → Q (some e.2) { s with heap := h' }) : wpAny (model prog w) A (pyNext (.ref I)) Q E s := by
 have x' := x
 obtain ⟨o, go, gc, gd⟩ := x'
 unfold pyNext
 refine wpAny_bind (wpAny_attempt (wpAny_callSpecial?_slot (name := Str.ofString "__next__") x.ty slot_sit_next (wpAny_call_entry slot_sit_next x.ty entry_sit_next ?_ (args_sit_next _))))
 unfold Builtin.«set_iterator.__next__»
 refine wpAny_bind (wpAny_pure (wpAny_bind (wpAny_fieldsOf go gd ?_)))
 dsimp only
 refine wpAny_bind (wpAny_setEntries_of gets D.data D.fit ?_)
 rw [if_neg (by simp)]
 refine wpAny_bind (show wpAny _ _ (load tp >>= _) _ _ s from wpAny_bind (wpAny_load gt ?_))
 rw [gtd]
 refine wpAny_pure ?_
 dsimp only
 have ei : (pls.map fun (p : Nat) => rawInt p).toArray[(i : Int).toNat]? = some (rawInt p) := by
  rw [Int.toNat_natCast, List.getElem?_toArray, List.getElem?_map, hp]; rfl
 rw [ei]
 show wpAny _ _ (setNextDrawn a (p : Int).toNat (ep : Int).toNat >>= _) _ _ s
 refine wpAny_bind ?_
 unfold setNextDrawn
 refine wpAny_bind (wpAny_setState_of gets D.data D.fit ?_)
 dsimp only
 rw [Int.toNat_natCast, Int.toNat_natCast, if_neg (by simp), he]
 refine wpAny_bind (wpAny_pure (wpAny_pure ?_))
 refine wpAny_bind (wpAny_setField go gd (by simp) ?_)
 have x2 := x.set 1 (rawInt ((i : Int) + 1))
 refine wpAny_pure ⟨_, rfl, wpAny_pure (k1 _ ?_ (Heap.SameBut.update ..))⟩
 simpa [rawInt] using x2
theorem sit_doneD {tp : Addr} {pls : List Nat} {oT : Obj} {nT : Nat} {Q : Option Value → Shared → Prop} (quiet : A.handled = none) (x : ItF s.heap I #[.ref tp, .int i 0, .ref a, .int es.size 0, .int ep 0]) (gt : s.heap.get? tp = some oT) (gtd : oT.data = .seq (pls.map fun (p : Nat) => rawInt p).toArray nT)
 (gets : s.heap.get? a = some oS) (D : SetD prog w oS es ep t) (hp : pls.length ≤ i)
 (k : ∀ h', (∀ b o, b ≠ I → s.heap.get? b = some o → h'.get? b = some o) → Q none { s with heap := h' }) : wpAny (model prog w) A (pyNext (.ref I)) Q E s := by
 have x' := x
 obtain ⟨o, go, gc, gd⟩ := x'
 unfold pyNext
 refine wpAny_bind (wpAny_attempt (wpAny_callSpecial?_slot (name := Str.ofString "__next__") x.ty slot_sit_next (wpAny_call_entry slot_sit_next x.ty entry_sit_next ?_ (args_sit_next _))))
 unfold Builtin.«set_iterator.__next__»
 refine wpAny_bind (wpAny_pure (wpAny_bind (wpAny_fieldsOf go gd ?_)))
 dsimp only
 refine wpAny_bind (wpAny_setEntries_of gets D.data D.fit ?_)
 rw [if_neg (by simp)]
 refine wpAny_bind (show wpAny _ _ (load tp >>= _) _ _ s from wpAny_bind (wpAny_load gt ?_))
 rw [gtd]
 refine wpAny_pure ?_
 dsimp only
 have ei : (pls.map fun (p : Nat) => rawInt p).toArray[(i : Int).toNat]? = none := by
  rw [Int.toNat_natCast, List.getElem?_toArray, List.getElem?_map, List.getElem?_eq_none hp]; rfl
 rw [ei]
 dsimp only
 refine wpAny_bind (wpAny_setField go gd (by simp) ?_)
 have x1 := x.set 0 (rawInt 0)
 obtain ⟨o1, go1, gc1, gd1⟩ := x1
 refine wpAny_bind (wpAny_setField go1 gd1 (by simp) ?_)
 exact stop_T (j := 0) (x := .none) quiet fun h' keep => k h' fun b o hb e => keep b o (((Heap.SameBut.update s.heap I _).trans (Heap.SameBut.update _ I _)).extBut b o hb e)
end
end S
namespace S
open PySem
section
variable {prog : Program} {w : World} {A : Around} {E : Value → Shared → Prop} {s : Shared} {a I : Addr} {oS : Obj} {es : Array (Int × Value)} {ep : Nat} {t : SetTable} {slot i : Nat}
theorem ItF.at {h h' : Heap} {vs : Array Value} (x : ItF h I vs) (k : ∀ o, h.get? I = some o → h'.get? I = some o) : ItF h' I vs := let ⟨o, e, r⟩ := x; ⟨o, k o e, r⟩
theorem walks_int (quiet : A.handled = none) (ne : a ≠ I) (D : SetD prog w oS es ep t) (pl : byT w = true ∨ (t.plain = true ∨ es.size ≤ 1)) :
 Walks prog w A I [I, a] [I] es.size (fun i v => ∃ e, (ordT w a ep es)[i]? = some e ∧ v = e.2) (fun i h => (∃ slot, stT w t i slot ∧ ItF h I #[.int (slot : Nat) 0, .int (i : Nat) 0, .ref a, .int es.size 0, .int ep 0]) ∧ h.get? a = some oS) where
 sub := fun b hb => by rw [List.mem_singleton.mp hb]; exact List.mem_cons_self
 frame := fun i h h' st keep => ⟨let ⟨sl, h1, h2⟩ := st.1; ⟨sl, h1, h2.at fun o e => keep I List.mem_cons_self o e⟩, keep a (by simp) _ st.2⟩
 item := fun i s Q E hi st k => by
  obtain ⟨⟨sl, h1, h2⟩, h3⟩ := st
  refine sit_item h2 ne h3 D pl h1 hi fun e slot' h' he hst x sb => ?_
  exact k e.2 h' s.toks ⟨e, he, rfl⟩ ⟨⟨slot', hst, x⟩, sb.extBut a _ ne h3⟩ fun b o hb e => sb.extBut b o (fun z => hb (by rw [z]; exact List.mem_singleton.mpr rfl)) e
 done := fun s Q E st k => by
  obtain ⟨⟨sl, h1, h2⟩, h3⟩ := st
  exact sit_done quiet h2 h3 D pl h1 (Nat.le_refl _) fun h' keep => k h' s.toks fun b o hb e => keep b o (fun z => hb (by rw [z]; exact List.mem_singleton.mpr rfl)) e
 self := fun i s Q E st k => let ⟨sl, h1, h2⟩ := st.1; sit_self h2 k
theorem walks_drawn {tp : Addr} {pls : List Nat} {oT : Obj} {nT : Nat} (quiet : A.handled = none) (ne : a ≠ I) (ne2 : tp ≠ I) (D : SetD prog w oS es ep t) (gtd : oT.data = .seq (pls.map fun (p : Nat) => rawInt p).toArray nT) (hp : ∀ p ∈ pls, p < es.size) :
 Walks prog w A I [I, a, tp] [I] pls.length (fun i v => ∃ p e, pls[i]? = some p ∧ es[p]? = some e ∧ v = e.2) (fun i h => ItF h I #[.ref tp, .int (i : Nat) 0, .ref a, .int es.size 0, .int ep 0] ∧ h.get? a = some oS ∧ h.get? tp = some oT) where
 sub := fun b hb => by rw [List.mem_singleton.mp hb]; exact List.mem_cons_self
 frame := fun i h h' st keep => ⟨st.1.at fun o e => keep I List.mem_cons_self o e, keep a (by simp) _ st.2.1, keep tp (by simp) _ st.2.2⟩
 item := fun i s Q E hi st k => by
  have e1 := List.getElem?_eq_getElem hi
  have lt := hp _ (List.getElem_mem hi)
  have e2 : es[pls[i]]? = some es[pls[i]] := by simp [lt]
  refine sit_itemD st.1 st.2.2 gtd st.2.1 D e1 e2 fun h' x sb => ?_
  exact k _ h' s.toks ⟨_, _, e1, e2, rfl⟩ ⟨x, sb.extBut a _ ne st.2.1, sb.extBut tp _ ne2 st.2.2⟩ fun b o hb e => sb.extBut b o (fun z => hb (by rw [z]; exact List.mem_singleton.mpr rfl)) e
 done := fun s Q E st k => sit_doneD quiet st.1 st.2.2 gtd st.2.1 D (Nat.le_refl _) fun h' keep => k h' s.toks fun b o hb e => keep b o (fun z => hb (by rw [z]; exact List.mem_singleton.mpr rfl)) e
 self := fun i s Q E st k => sit_self st.1 k
def WalkOk (prog : Program) (w : World) (h : Heap) (I a : Addr) (lo : Nat) (ns : List Int) : Prop :=
 ∃ (fp : List Addr) (n : Nat) (P : Nat → Value → Prop) (St : Nat → Heap → Prop) (os : List Int), St 0 h ∧ I ∈ fp ∧ (∀ b ∈ fp, b < h.objs.size ∧ (b = a ∨ lo ≤ b)) ∧ n = os.length ∧ os.Perm ns ∧ (∀ i v, P i v → ∃ tk k, os[i]? = some k ∧ v = .int k tk) ∧ ∀ A' : Around, A'.handled = none → Walks prog w A' I fp [I] n P St
theorem elem_int (D : SetD prog w oS es ep t) {e : Int × Value} (he : e ∈ es.toList) : ∃ tk, e.2 = .int (valI e.2) tk := by
 obtain ⟨⟨k, hk, _⟩, _⟩ := D.elems e he
 obtain ⟨tk, h⟩ := Value.isInt_shape hk
 exact ⟨tk, by rw [h]; rfl⟩
theorem range_map {α β : Type} (g : α → β) (d : α) (l : List α) : (List.range l.length).map (fun i => g (l.getD i d)) = l.map g := by
 apply List.ext_getElem
 ·simp
 ·intro i h1 h2
  simp at h1
  simp [h1]
theorem iter_T {ns : List Int} {Q : Value → Shared → Prop} (T : SetT prog w s.heap a (setB w) ns) (few : ns.length < 1000)
 (k : ∀ (h' : Heap) (d) (I : Addr), (∀ b o, s.heap.get? b = some o → h'.get? b = some o) → s.heap.objs.size ≤ I → I < h'.objs.size → h'.objs.size ≤ s.heap.objs.size + 2 → WalkOk prog w h' I a s.heap.objs.size ns → Q (.ref I) { s with heap := h', drawn := d }) :
 wpAny (model prog w) A (pyIter (.ref a)) Q E s := by
 obtain ⟨o, es, ep, t, ⟨gets, ex, data⟩, elems, ⟨fit, good⟩, rfl, nd⟩ := T
 have D : SetD prog w o es ep t := ⟨ex, data, elems, fit, good⟩
 have ty : s.TypeIs (.ref a) "set" := ⟨_, gets, ex.1⟩
 have la : a < s.heap.objs.size := Heap.lt_size gets
 refine wpAny_pyIter_slot ty F.slot_set_iter (wpAny_call_entry F.slot_set_iter ty entry_set_iter ?_ (F.args_set_iter_1 _))
 unfold Builtin.«frozenset.__iter__» Builtin.Frozenset.slot0 Builtin.Frozenset.sizeOf
 refine wpAny_bind (wpAny_bind (wpAny_pure (show wpAny _ _ (pure a) _ _ s from wpAny_pure ?_)))
 refine wpAny_bind (wpAny_bind (wpAny_setEntries_of gets data fit (wpAny_pure ?_)))
 unfold setDrawn
 refine wpAny_bind (wpAny_bind (wpAny_setState_of gets data fit ?_))
 dsimp only
 refine wpAny_bind (by_text (wpAny_pure ?_))
 have vals : ∀ l : List (Int × Value), l.Perm es.toList → (l.map fun e => valI e.2).Perm (es.toList.map fun e => valI e.2) := fun l p => p.map _
 have szn : es.size < 1000 := by simpa using few
 split
 ·refine wpAny_bind (draw_T es.size (List.range es.size) _ _ List.length_range fun d ys hp => ?_)
  have ly : ys.length = es.size := by rw [hp.length_eq, List.length_range]
  simp only [newTuple]
  refine wpAny_bind (wpAny_newObj_type ?_ (by
   show (List.map _ ys).toArray.size ≤ sizeLine
   rw [sizeLine_eq, List.size_toArray, List.length_map]; omega))
  dsimp only
  have g1 : (s.heap.push { cls := .type "tuple", data := .seq (ys.map fun (p : Nat) => rawInt p).toArray }).get? a = some o := Heap.get?_push_of_some _ gets
  have gt : (s.heap.push { cls := .type "tuple", data := .seq (ys.map fun (p : Nat) => rawInt p).toArray }).get? s.heap.objs.size = some { cls := .type "tuple", data := .seq (ys.map fun (p : Nat) => rawInt p).toArray } := Heap.get?_push_size _ rfl
  have sz1 : (s.heap.push { cls := .type "tuple", data := .seq (ys.map fun (p : Nat) => rawInt p).toArray }).objs.size = s.heap.objs.size + 1 := Heap.size_push ..
  generalize hh1 : s.heap.push { cls := .type "tuple", data := .seq (ys.map fun (p : Nat) => rawInt p).toArray } = h1 at g1 gt sz1 ⊢
  have k1 : ∀ b o, s.heap.get? b = some o → h1.get? b = some o := fun b o e => by rw [← hh1]; exact Heap.get?_push_of_some _ e
  refine wpAny_bind (wpAny_setEpoch_of (s := { s with heap := h1, drawn := d }) g1 data fit ?_)
  simp only [newFields]
  refine wpAny_bind (wpAny_newObj_type (wpAny_pure ⟨_, rfl, "set_iterator", _, ⟨_, Heap.get?_push_size _ rfl, rfl⟩, slot_sit_next.lookup, ?_⟩))
  refine k _ d _ (fun b o e => Heap.get?_push_of_some _ (k1 b o e)) (by show _ ≤ h1.objs.size; rw [sz1]; exact Nat.le_succ _) (by rw [Heap.size_push]; exact Nat.lt_succ_self _) (by rw [Heap.size_push, sz1]; exact Nat.le_refl _) ?_
  have nea : a ≠ h1.objs.size := by rw [sz1]; exact Nat.ne_of_lt (Nat.lt_succ_of_lt la)
  have net : s.heap.objs.size ≠ h1.objs.size := by rw [sz1]; exact Nat.ne_of_lt (Nat.lt_succ_self _)
  have hpl : ∀ p ∈ ys, p < es.size := fun p hp' => by
   have := hp.mem_iff.mp hp'
   exact List.mem_range.mp this
  refine ⟨[h1.objs.size, a, s.heap.objs.size], ys.length, _, _, ys.map fun p => valI (es.toList.getD p (0, .none)).2, ⟨⟨_, Heap.get?_push_size _ rfl, rfl, rfl⟩, Heap.get?_push_of_some _ g1, Heap.get?_push_of_some _ gt⟩, List.mem_cons_self, fun b hb => ?_, (List.length_map ..).symm, ?_, fun i v hv => ?_, fun A' q => walks_drawn q nea net D rfl hpl⟩
  ·rw [Heap.size_push]
   rcases List.mem_cons.mp hb with z | hb
   ·rw [z]; exact ⟨Nat.lt_succ_self _, .inr (by rw [sz1]; exact Nat.le_succ _)⟩
   rcases List.mem_cons.mp hb with z | hb
   ·rw [z, sz1]; exact ⟨Nat.lt_succ_of_lt (Nat.lt_succ_of_lt la), .inl rfl⟩
   ·rw [List.mem_singleton.mp hb, sz1]; exact ⟨Nat.lt_succ_of_lt (Nat.lt_succ_self _), .inr (Nat.le_refl _)⟩
  ·have p1 := hp.map fun p => valI (es.toList.getD p (0, .none)).2
   have e := range_map (fun e : Int × Value => valI e.2) (0, .none) es.toList
   rw [Array.length_toList] at e
   rw [e] at p1
   exact p1
  ·obtain ⟨p, e, h1', h2', rfl⟩ := hv
   have me : e ∈ es.toList := List.mem_of_getElem? (i := p) (by simpa using h2')
   obtain ⟨tk, ht⟩ := elem_int D me
   refine ⟨tk, valI e.2, ?_, ht⟩
   have eg : es.toList.getD p (0, .none) = e := by rw [List.getD_eq_getElem?_getD, Array.getElem?_toList, h2']; rfl
   rw [List.getElem?_map, h1']
   show some (valI (es.toList.getD p (0, .none)).2) = _
   rw [eg]
 ·rename_i z
  have pl : byT w = true ∨ (t.plain = true ∨ es.size ≤ 1) := by
   have z' : ¬ (!byT w && (!t.plain && decide (es.size > 1))) = true := z
   cases h1 : byT w with
   | true => exact .inl rfl
   | false =>
     cases h2 : t.plain with
     | true => exact .inr (.inl rfl)
     | false =>
       right; right
       rw [h1, h2] at z'
       simp at z'
       exact z'
  refine wpAny_bind (wpAny_pure (wpAny_bind (wpAny_setEpoch_of gets data fit ?_)))
  simp only [newFields]
  refine wpAny_bind (wpAny_newObj_type (wpAny_pure ⟨_, rfl, "set_iterator", _, ⟨_, Heap.get?_push_size _ rfl, rfl⟩, slot_sit_next.lookup, ?_⟩))
  refine k _ s.drawn _ (fun b o e => Heap.get?_push_of_some _ e) (Nat.le_refl _) (by rw [Heap.size_push]; exact Nat.lt_succ_self _) (by rw [Heap.size_push]; exact Nat.le_succ _) ?_
  have osz : (ordT w a ep es).size = es.size := by
   have := (ord_perm w a ep es).length_eq
   simpa using this
  refine ⟨[s.heap.objs.size, a], es.size, _, _, (ordT w a ep es).toList.map fun e => valI e.2, ⟨⟨0, Or.inr (below_zero good.1), _, Heap.get?_push_size _ rfl, rfl, rfl⟩, Heap.get?_push_of_some _ gets⟩, List.mem_cons_self, fun b hb => ?_, by rw [List.length_map, Array.length_toList, osz], vals _ (ord_perm w a ep es), fun i v hv => ?_, fun A' q => walks_int q (Nat.ne_of_lt la) D pl⟩
  ·rw [Heap.size_push]
   rcases List.mem_cons.mp hb with z | hb
   ·rw [z]; exact ⟨Nat.lt_succ_self _, .inr (Nat.le_refl _)⟩
   ·rw [List.mem_singleton.mp hb]; exact ⟨Nat.lt_succ_of_lt la, .inl rfl⟩
  ·obtain ⟨e, he, rfl⟩ := hv
   have me : e ∈ es.toList := (ord_perm w a ep es).mem_iff.mp (List.mem_of_getElem? (i := i) (by simpa using he))
   obtain ⟨tk, ht⟩ := elem_int D me
   refine ⟨tk, valI e.2, ?_, ht⟩
   rw [List.getElem?_map, Array.getElem?_toList, he]; rfl
end
end S
namespace S
open PySem
section
variable {prog : Program} {w : World} {A : Around} {E : Value → Shared → Prop} {s : Shared} {a I : Addr}
theorem hint_T {ns : List Int} {Q : Bool → Shared → Prop} (ty : s.TypeIs (.ref a) "set") (k : Q false s) : wpAny (model prog w) A (Builtin.List.listLengthHint (.ref a)) Q E s := by
 unfold Builtin.List.listLengthHint
 refine wpAny_bind (wpAny_specialOf ty F.slot_set_len.lookup ?_)
 dsimp only
 rw [show splitId "set.__len__" = some ("set", "__len__") by decide +kernel]
 dsimp only
 refine wpAny_bind (wpAny_isInstance ty sub_set_self ?_)
 rw [if_neg (by simp), if_pos (by decide +kernel)]
 exact wpAny_bind (wpAny_typeOf ty (wpAny_pure k))
theorem ints_at : ∀ {vs : List Value} {os : List Int}, vs.length = os.length → (∀ (j : Nat) (v : Value), vs[j]? = some v → ∃ tk k, os[j]? = some k ∧ v = Value.int k tk) → PyProof.Rows.IntsAre vs os
 | [], [], _, _ => .nil
 | v :: vs, k :: os, hl, h => by
   obtain ⟨tk, k', h1, rfl⟩ := h 0 v rfl
   cases h1
   exact .cons k tk (ints_at (by simpa using hl) fun j v hv => by
    obtain ⟨tk, k, h1, h2⟩ := h (j + 1) v (by simpa using hv)
    exact ⟨tk, k, by simpa using h1, h2⟩)
 | [], _ :: _, h, _ => by simp at h
 | _ :: _, [], h, _ => by simp at h
theorem collect_T {ns : List Int} {Q : List Value → Shared → Prop} (quiet : A.handled = none) (T : SetT prog w s.heap a (setB w) ns) (few : ns.length < 1000)
 (k : ∀ (h' : Heap) (d) (tk : Nat) (vs : List Value) (os : List Int), (∀ b o, s.heap.get? b = some o → h'.get? b = some o) → s.heap.objs.size < h'.objs.size → PyProof.Rows.IntsAre vs os → os.Perm ns → Q vs { s with heap := h', drawn := d, toks := tk }) : wpAny (model prog w) A (collect (.ref a)) Q E s := by
 have la : a < s.heap.objs.size := let ⟨_, _, _, _, ⟨g, _⟩, _⟩ := T; Heap.lt_size g
 unfold collect
 refine wpAny_bind (wpAny_runValue (codeAny_builtin PySem.F.entry_proto_collect ?_))
 rw [Around.under_plainId PySem.F.plain_proto_collect _]
 show wpAny _ A.in1 (newList [] >>= fun l => again (.builtin "list.__iadd__" ⟨[l, .ref a], []⟩)) _ _ s
 refine wpAny_bind (wpAny_newObj_type (wpAny_pure ⟨plainId_quiet PySem.F.plain_list_iadd _, codeAny_builtin PySem.F.entry_list_iadd ?_⟩))
 rw [Around.under_plainId PySem.F.plain_list_iadd _]
 show wpAny _ A.in1 (Builtin.List.listExtendWith (.ref s.heap.objs.size) (.ref a) (.ref s.heap.objs.size)) _ _ _
 unfold Builtin.List.listExtendWith
 generalize hh1 : s.heap.push { cls := .type "list", data := .seq ([] : List Value).toArray } = h1
 have g1 : h1.get? s.heap.objs.size = some { cls := .type "list", data := .seq ([] : List Value).toArray } := by rw [← hh1]; exact Heap.get?_push_size _ rfl
 have sz1 : h1.objs.size = s.heap.objs.size + 1 := by rw [← hh1]; exact Heap.size_push ..
 have k1 : ∀ b o, s.heap.get? b = some o → h1.get? b = some o := fun b o e => by rw [← hh1]; exact Heap.get?_push_of_some _ e
 have T1 : SetT prog w h1 a (setB w) ns := T.kept fun o e => k1 a o e
 have ty1 : Shared.TypeIs { s with heap := h1 } (.ref a) "set" := let ⟨_, _, _, _, ⟨g, x, _⟩, _⟩ := T1; ⟨_, g, x.1⟩
 have ne : s.heap.objs.size ≠ a := Nat.ne_of_gt la
 refine wpAny_bind (wpAny_typeOf (s := { s with heap := h1 }) ty1 ?_)
 have c1 : Builtin.List.listSameRef (.ref s.heap.objs.size) (.ref a) = false := by unfold Builtin.List.listSameRef; simpa using ne
 rw [c1, show (Value.type "set" == Value.type "list") = false by decide, show (Value.type "set" == Value.type "tuple") = false by decide, if_neg (by simp)]
 refine wpAny_bind (iter_T (s := { s with heap := h1 }) T1 few fun h2 d I k2 lI hI sz2 W => ?_)
 dsimp only at k2 lI sz2
 have T2 : SetT prog w h2 a (setB w) ns := T1.kept fun o e => k2 a o e
 have ty2 : Shared.TypeIs { s with heap := h2, drawn := d } (.ref a) "set" := let ⟨_, _, _, _, ⟨g, x, _⟩, _⟩ := T2; ⟨_, g, x.1⟩
 refine wpAny_bind (wpAny_holding (hint_T (ns := ns) (s := { s with heap := h2, drawn := d }) ty2 ?_))
 rw [if_pos (by decide +kernel)]
 refine wpAny_bind (wpAny_rule ?_)
 have g2 := k2 _ _ g1
 have g3 := Heap.get?_update_self (Obj.mapSeq (·.push Value.none)) g2 rfl
 have g4 := Heap.get?_update_self (Obj.mapSeq (·.pop)) g3 rfl
 refine wpAny_bind (show wpAny _ A.in1 (updateSeq s.heap.objs.size (·.push .none) >>= fun _ => updateSeq s.heap.objs.size (·.pop)) _ _ _ from wpAny_bind (wpAny_updateSeq g2 rfl (wpAny_updateSeq g3 rfl ?_)))
 obtain ⟨fp, n, P, St, os, st0, mI, bfp, hn, perm, val, Wk⟩ := W
 have out : s.heap.objs.size ∉ fp := fun z => by
  rcases (bfp _ z).2 with e | e
  ·exact ne e
  ·dsimp only at e
   rw [sz1] at e
   exact absurd e (Nat.not_le.mpr (Nat.lt_succ_self _))
 have nsz : n ≤ sizeLine := by
  have := perm.length_eq
  rw [sizeLine_eq]; omega
 have oth : ∀ b o, b ≠ s.heap.objs.size → h2.get? b = some o → ((h2.update s.heap.objs.size (Obj.mapSeq (·.push Value.none))).update s.heap.objs.size (Obj.mapSeq (·.pop))).get? b = some o :=
  fun b o hb e => (Heap.get?_update_other _ _ (Ne.symm hb)).trans ((Heap.get?_update_other _ _ (Ne.symm hb)).trans e)
 have WS := (Wk A.in1 (by simp [quiet])).toS
 refine wpAny_pure ⟨plainId_quiet PySem.F.plain_extend_loop _, codeAny_extend_loopS WS nsz _ out _ n 0 _ _ _ rfl (Nat.zero_le _) ((Wk A.in1 (by simp [quiet])).frame 0 h2 _ st0 fun b hb o e => oth b o (fun z => out (z ▸ hb)) e) g4 (ItemsOf.nil P) fun s' acc c mv gS items => ?_⟩
 refine (show wpAny _ A (load s.heap.objs.size >>= _) _ _ s' from wpAny_bind (wpAny_load gS (wpAny_pure ?_)))
 obtain ⟨h', g', d', tk', os'⟩ := s'
 have eg : g' = s.gens := mv.gens
 have ed : d' = d := mv.drawn
 have eo : os' = s.os := mv.os
 subst eg; subst ed; subst eo
 refine k h' d' tk' acc.toList os (fun b o e => ?_) (Heap.lt_size gS) (ints_at ?_ fun j v hv => ?_) perm
 ·have hb : b < s.heap.objs.size := Heap.lt_size e
  refine mv.heap b o (fun z => ?_) (oth b o (Nat.ne_of_lt hb) (k2 b o (k1 b o e)))
  rcases List.mem_cons.mp z with z | z
  ·exact absurd hb (by rw [z]; exact Nat.lt_irrefl _)
  ·rw [List.mem_singleton.mp z] at hb
   rw [sz1] at lI
   exact absurd hb (Nat.not_lt.mpr (Nat.le_trans (Nat.le_succ _) lI))
 ·rw [Array.length_toList, items.1, hn]
 ·obtain ⟨tk, kk, h1', h2'⟩ := val j v (items.2 j v (by simpa using hv))
  exact ⟨tk, kk, h1', h2'⟩
theorem sorted_T {ns : List Int} {Q : Value → Shared → Prop} (quiet : A.handled = none) (T : SetT prog w s.heap a (setB w) ns) (few : ns.length < 64)
 (k : ∀ (h' : Heap) (d) (tk : Nat) (L : Addr) (out : Array Value) (os : List Int) (e : Nat), (∀ b o, s.heap.get? b = some o → h'.get? b = some o) → s.heap.objs.size ≤ L → h'.get? L = some (PyProof.Rows.seqObj "list" out e) → PyProof.Rows.IntsAre out.toList os → os.Perm ns → os.Pairwise (· ≤ ·) → Q (.ref L) { s with heap := h', drawn := d, toks := tk }) :
 wpAny (model prog w) A (call (.builtin "sorted") [.ref a]) Q E s := by
 refine Calls.call_function_entry PyProof.Rows.kind_sorted PyProof.Rows.plain_sorted PyProof.Rows.entry_sorted (PyProof.Rows.args_sorted1 _) ?_
 unfold Builtin.«sorted»
 refine wpAny_bind (m := checkCount "sorted" 1 1 _) (wpAny_pure (wpAny_bind (collect_T (by simp [quiet]) T (by omega) fun h1 d tk vs os keep lt isI perm => wpAny_bind (wpAny_newList ?_ (by rw [sizeLine_eq, isI.length, perm.length_eq]; omega)))))
 have gL : (h1.push (PyProof.Rows.seqObj "list" vs.toArray 0)).get? h1.objs.size = some (PyProof.Rows.seqObj "list" vs.toArray 0) := Heap.get?_push_size _ rfl
 have lv : vs.length < 64 := by
  have e1 := isI.length
  have e2 := perm.length_eq
  omega
 show wpAny _ _ _ _ _ { s with heap := h1.push (PyProof.Rows.seqObj "list" vs.toArray 0), drawn := d, toks := tk }
 refine wpAny_bind (wpAny_holding (wpAny_call_entry PyProof.Rows.slot_list_sort ⟨_, gL, rfl⟩ PyProof.Rows.entry_list_sort (PyProof.Rows.list_sort_tree (s := { s with heap := h1.push (PyProof.Rows.seqObj "list" vs.toArray 0), drawn := d, toks := tk }) gL isI lv fun out os' a1 a2 a3 => ⟨_, rfl, ?_⟩) (PyProof.Rows.args_list_sort _)))
 obtain ⟨e, he⟩ := PyProof.Rows.sortedHeap_at (out := out) gL
 refine wpAny_pure ⟨_, rfl, k _ d tk _ out os' e (fun b o g => ?_) (Nat.le_of_lt lt) he a1 (a2.trans perm) a3⟩
 have lb : b < h1.objs.size := Heap.lt_size (keep b o g)
 rw [PyProof.Rows.sortedHeap_old (Nat.ne_of_lt lb) (by rw [Heap.size_push]; exact Nat.lt_succ_of_lt lb)]
 exact Heap.get?_push_of_some _ (keep b o g)
end
end S
namespace S
open PySem PySem.Spec PyProof.Rows L2
theorem SetT.nodup {prog : Program} {w : World} {h : Heap} {a : Addr} {b : Bool} {ns : List Int} (T : SetT prog w h a b ns) : ns.Nodup := let ⟨_, _, _, _, _, _, _, _, nd⟩ := T; nd
theorem bt_set : bootBuiltins "set" = some (.type "set") := by decide +kernel
theorem bt_sorted' : bootBuiltins "sorted" = some (.builtin "sorted") := by decide +kernel
theorem le_lt : ∀ {l : List Int}, l.Pairwise (· ≤ ·) → l.Nodup → l.Pairwise (· < ·)
 | [], _, _ => List.Pairwise.nil
 | x :: l, h, nd => by
   obtain ⟨h1, h2⟩ := List.pairwise_cons.mp h
   obtain ⟨n1, n2⟩ := List.nodup_cons.mp nd
   refine List.pairwise_cons.mpr ⟨fun y hy => ?_, le_lt h2 n2⟩
   have := h1 y hy
   have : x ≠ y := fun e => n1 (e ▸ hy)
   omega
section
variable {X : Cx}
theorem Inv.redrawn {pins : List (Addr × Obj)} {σ : L2.St} {H : Hp} {s : Shared} {d : Drawn} (I : Inv X pins σ H s) : Inv X pins σ H { s with drawn := d } := ⟨I.ok, I.os, I.bare, I.base, I.loc, I.cell, I.free, I.freeC, I.pin, I.hok, I.len⟩
def rSortS (K : PySem.W.Frag) : V → Hp → VK → Prop := fun x H1 Q => ∃ (p : Addr) (ns : List Int), x = .ref p ∧ SqL K H1 p (ns.map V.int) ∧ ns.length < 60 ∧ ∀ (os : List Int) (l : Addr), os.Pairwise (· < ·) → (∀ k, k ∈ os ↔ k ∈ ns) → H1 l = none → Q (.ref l) (upd H1 l (.lst (os.map V.int)))
def tSortS (K : PySem.W.Frag) (te : TE) : TE := fun σ H Q => te σ H fun x H1 => rSortS K x H1 Q
theorem vals_of_ints : ∀ {ns : List Int} {us : List Value}, IntsAre us ns → Vals (ns.map V.int) us
 | [], _, .nil => .nil
 | n :: ns, _, .cons _ t r => .cons ⟨t, rfl⟩ (vals_of_ints r)
theorem pe_sortS {e : Expr} {te : TE} {p1 p2 q1 q2 : Pos} (hc : X.calm = true) (g1 : Gl X "sorted") (m1 : X.mg "sorted" = none) (g2 : Gl X "set") (m2 : X.mg "set" = none) (he : PE X e te)
 (st1 : starEach [.Call (.Name "set" p2) [e] [] q2] X.env = [(false, eval (.Call (.Name "set" p2) [e] [] q2) X.env)] := by rfl) (st2 : starEach [e] X.env = [(false, eval e X.env)] := by rfl) :
 PE X (.Call (.Name "sorted" p1) [.Call (.Name "set" p2) [e] [] q2] [] q1) (tSortS X.K te) := by
 intro pins s σ H Q I h
 refine wpAny_Call_Name_kw (ld_blt I g1 m1 bt_sorted' ?_ (by decide) (by decide))
 refine PyProof.Rows.callWith_builtin1 ?_ st1 (by rfl)
 rw [st1]
 show wpAny _ _ (spliced ((false, eval (.Call (.Name "set" p2) [e] [] q2) X.env) :: backTo q1 (starEach [] X.env))) _ _ s
 refine Calls.spliced_cons ?_
 refine wpAny_Call_Name_kw (ld_blt I g2 m2 bt_set ?_ (by decide) (by decide))
 refine PyProof.Rows.callWith_type1 (thn ((pa_cons he pa_nil st2) q2 pins s σ H (fun vs H1 => match vs with | [x] => rSortS X.K x H1 Q | _ => False) I h) fun us s1 ⟨vs, H1, I1, r1, r2⟩ => ?_) st2 (by rfl)
 match vs, r1, r2 with
 | [x], r1, r2 =>
   obtain ⟨p, ns, rfl, hq, few, k⟩ := r2
   obtain ⟨u, rfl, rx⟩ := vals1 r1
   cases rx
   obtain ⟨its, rv, pl, _⟩ := I1.list hq
   have hi := intsAre_of rv
   have hl := hi.length
   have quiet := I1.ok.hd hc
   refine call_set_T quiet pl.isList (by simpa using hi) (by simpa using (by omega : its.length < 900)) fun h2 tk2 T hT hx hlT keep2 => ?_
   refine Calls.spliced_nil ?_
   have kp2 : ∀ b o, s1.heap.get? b = some o → h2.get? b = some o := fun b o e => keep2 b o (Heap.lt_size e) e
   have I2 : Inv X pins σ H1 { s1 with heap := h2, toks := tk2 } := I1.kept (t' := tk2) kp2
   refine sorted_T (s := { s1 with heap := h2, toks := tk2 }) quiet hT (by omega) fun h3 d tk3 L out os e keep3 le gL isO perm sorted => ?_
   have I3 := Inv.redrawn (d := d) I2
   have nd : os.Nodup := perm.nodup_iff.mpr hT.nodup
   have lo := isO.length
   have po := perm.length_eq
   have I4 : Inv X pins σ (upd H1 L (.lst (os.map V.int))) { s1 with heap := h3, drawn := d, toks := tk3 } := I3.laid (t' := tk3) keep3 le (show ObjOk X.prog X.w _ _ _ (.lst (os.map V.int)) from ⟨?_, out.toList, e, vals_of_ints isO, ?_⟩)
   ·exact ⟨.ref L, _, I4, rfl, k os L (le_lt sorted nd) (fun x => by rw [perm.mem_iff]; exact hx x) (I2.hok.fresh le)⟩
   ·rw [List.length_map, sizeLine_eq]; omega
   ·simpa using gL
end
end S
namespace S
open PySem PySem.Spec PyProof.Rows L2
section
variable {X : Cx}
def rMinT (K : PySem.W.Frag) : List V → Hp → VK → Prop := fun xs H Q => ∃ (p : Addr) (ns : List Int), xs = [.ref p] ∧ SqT K H p (ns.map V.int) ∧ 0 < ns.length ∧ ∀ m, m ∈ ns → (∀ x ∈ ns, m ≤ x) → Q (.int m) H
def rMaxL (K : PySem.W.Frag) : List V → Hp → VK → Prop := fun xs H Q => ∃ (p : Addr) (ns : List Int), xs = [.ref p] ∧ SqL K H p (ns.map V.int) ∧ 0 < ns.length ∧ ∀ m, m ∈ ns → (∀ x ∈ ns, x ≤ m) → Q (.int m) H
theorem int_item {its : List Value} {ns : List Int} (hi : IntsAre its ns) : ∀ (i : Nat) (v : Value), its.toArray[i]? = some v → ∃ t, v = .int ((fun i => ns.getD i 0) i) t := fun i v hv => PyProof.Rows.IntsAre.int_at hi i v (by simpa using hv)
theorem call_minT (hc : X.calm = true) : CallR X (.builtin "min") (rMinT X.K) := by
 intro pins s σ H xs us Q I r h
 obtain ⟨p, ns, rfl, hq, hne, q⟩ := h
 obtain ⟨u, rfl, rx⟩ := vals1 r
 cases rx
 obtain ⟨its, rv, ht, hz⟩ := I.tuple hq
 have hi := intsAre_of rv
 have hl := hi.length
 have below : p ≠ s.heap.objs.size := let ⟨_, e, _⟩ := ht; Nat.ne_of_lt (Heap.lt_size e)
 refine call_min_walk (wpAny_pyIter_tuple ht ⟨_, _, _, _, _, _, _, rfl, Walks.tuple (A := X.A.in1) (I.ok.hd hc) _ p below its.toArray, ⟨⟨_, Heap.get?_push_size _ rfl, rfl, rfl⟩, ht.push _⟩, fun b hb => ?_, by simpa using (by omega : 0 < its.length), CmpOf.ints_lt (fun i => ns.getD i 0) (int_item hi), fun v h' tk hP hk => ?_⟩)
 ·rw [Heap.size_push]
  rcases List.mem_cons.mp hb with z | z
  ·rw [z]; exact Nat.lt_succ_self _
  ·rw [List.mem_singleton.mp z]
   obtain ⟨_, e, _⟩ := ht
   exact Nat.lt_succ_of_lt (Heap.lt_size e)
 ·obtain ⟨t, rfl⟩ := int_item hi _ v hP
  obtain ⟨h1, h2⟩ := argBest_lt (fun i => ns.getD i 0) (its.toArray.size - 1)
  have szn : its.toArray.size = ns.length := by simpa using hl
  rw [szn] at h1 h2
  rw [szn]
  refine ⟨.int _, H, I.kept (t' := tk) fun b o e => hk b o (fun z => ?_) (Heap.get?_push_of_some _ e), ⟨t, rfl⟩, q _ ?_ fun x hx => ?_⟩
  ·rw [List.mem_singleton.mp z] at e
   exact absurd (Heap.lt_size e) (Nat.lt_irrefl _)
  ·dsimp only
   rw [List.getD_eq_getElem?_getD, List.getElem?_eq_getElem (by omega)]
   exact List.getElem_mem _
  ·obtain ⟨j, hj, rfl⟩ := List.getElem_of_mem hx
   have := h2 j (by omega)
   rwa [show ns.getD j 0 = ns[j] by rw [List.getD_eq_getElem?_getD, List.getElem?_eq_getElem hj]; rfl] at this
theorem call_maxL (hc : X.calm = true) : CallR X (.builtin "max") (rMaxL X.K) := by
 intro pins s σ H xs us Q I r h
 obtain ⟨p, ns, rfl, hq, hne, q⟩ := h
 obtain ⟨u, rfl, rx⟩ := vals1 r
 cases rx
 obtain ⟨its, rv, pl, hz⟩ := I.list hq
 have ht := pl.isList
 have hi := intsAre_of rv
 have hl := hi.length
 have below : p ≠ s.heap.objs.size := let ⟨_, e, _⟩ := ht; Nat.ne_of_lt (Heap.lt_size e)
 refine call_max_walk (wpAny_pyIter_list ht ⟨_, _, _, _, _, _, _, rfl, Walks.list (A := X.A.in1) (I.ok.hd hc) _ p below its.toArray, ⟨⟨_, Heap.get?_push_size _ rfl, rfl, rfl⟩, ht.push _⟩, fun b hb => ?_, by simpa using (by omega : 0 < its.length), CmpOf.ints_gt (fun i => ns.getD i 0) (int_item hi), fun v h' tk hP hk => ?_⟩)
 ·rw [Heap.size_push]
  rcases List.mem_cons.mp hb with z | z
  ·rw [z]; exact Nat.lt_succ_self _
  ·rw [List.mem_singleton.mp z]
   obtain ⟨_, e, _⟩ := ht
   exact Nat.lt_succ_of_lt (Heap.lt_size e)
 ·obtain ⟨t, rfl⟩ := int_item hi _ v hP
  obtain ⟨h1, h2⟩ := argBest_gt (fun i => ns.getD i 0) (its.toArray.size - 1)
  have szn : its.toArray.size = ns.length := by simpa using hl
  rw [szn] at h1 h2
  rw [szn]
  refine ⟨.int _, H, I.kept (t' := tk) fun b o e => hk b o (fun z => ?_) (Heap.get?_push_of_some _ e), ⟨t, rfl⟩, q _ ?_ fun x hx => ?_⟩
  ·rw [List.mem_singleton.mp z] at e
   exact absurd (Heap.lt_size e) (Nat.lt_irrefl _)
  ·dsimp only
   rw [List.getD_eq_getElem?_getD, List.getElem?_eq_getElem (by omega)]
   exact List.getElem_mem _
  ·obtain ⟨j, hj, rfl⟩ := List.getElem_of_mem hx
   have := h2 j (by omega)
   rwa [show ns.getD j 0 = ns[j] by rw [List.getD_eq_getElem?_getD, List.getElem?_eq_getElem hj]; rfl] at this
end
end S
namespace S
open PySem PySem.Spec PyProof.Rows L2
theorem straight_fwd {m : Nat} {k a b c : Corner} (hab : a.1 < b.1) (lk : k.2.length = m) (la : a.2.length = m) (h1 : straight k a b) (h2 : straight a b c) : straight k b c := fun i K B C hK hB hC => by
 have hi : i < m := by rw [← lk]; exact (List.getElem?_eq_some_iff.mp hK).1
 have hA := List.getElem?_eq_getElem (l := a.2) (i := i) (by omega)
 have e1 := h1 i K _ B hK hA hB
 have e2 := h2 i _ B C hA hB hC
 generalize a.2[i] = A at *
 have e3 : (B - K) * (b.1 - a.1) = (B - A) * (b.1 - k.1) := by grind
 have e4 : (C - K) * (b.1 - a.1) = (B - A) * (c.1 - k.1) := by grind
 have e5 : ((B - K) * (c.1 - k.1) - (C - K) * (b.1 - k.1)) * (b.1 - a.1) = 0 := by
  have : ((B - K) * (c.1 - k.1) - (C - K) * (b.1 - k.1)) * (b.1 - a.1) = ((B - K) * (b.1 - a.1)) * (c.1 - k.1) - ((C - K) * (b.1 - a.1)) * (b.1 - k.1) := by grind
  rw [this, e3, e4]; grind
 have := rat_mul_zero e5 (sub_ne hab)
 grind
theorem betw_len {m : Nat} {c d : Corner} {e : Rat} (lc : c.2.length = m) (ld : d.2.length = m) : (betw c d e).length = m := by
 unfold betw; rw [List.length_zipWith, lc, ld]; exact Nat.min_self _
theorem partsV_drop {m : Nat} {a b c : Corner} {r : List Corner} {e : Rat} (hab : a.1 < b.1) (hbc : b.1 < c.1) (la : a.2.length = m) (lb : b.2.length = m) (lc : c.2.length = m) (st : straight a b c) (hae : a.1 ≤ e) : partsV (a :: b :: c :: r) e = partsV (a :: c :: r) e := by
 have hac := rat_lt_trans hab hbc
 by_cases h1 : e < b.1
 ·rw [partsV, if_pos h1, partsV, if_pos (rat_lt_trans h1 hbc)]
  refine (betw_of_lin hac (by rw [la, lc]) (by rw [la, betw_len la lb]) fun i p q z hp hq hz => ?_).symm
  obtain ⟨p', b', hp', hb', ez⟩ := betw_get hz
  rw [hp] at hp'; cases hp'
  have l1 := mixR_line (x := p) (y := b') (E := e) hab
  rw [← ez] at l1
  have s := st i p b' q hp hb' hq
  have : ((z - p) * (c.1 - a.1) - (q - p) * (e - a.1)) * (b.1 - a.1) = 0 := by
   have : ((z - p) * (c.1 - a.1) - (q - p) * (e - a.1)) * (b.1 - a.1) = ((z - p) * (b.1 - a.1)) * (c.1 - a.1) - ((q - p) * (b.1 - a.1)) * (e - a.1) := by grind
   rw [this, l1, ← s]; grind
  have := rat_mul_zero this (sub_ne hab)
  grind
 ·rw [partsV_skip (Rat.not_lt.mp h1)]
  by_cases h2 : e < c.1
  ·rw [partsV, if_pos h2, partsV, if_pos h2]
   refine (betw_of_lin hac (by rw [la, lc]) (by rw [la, betw_len lb lc]) fun i p q z hp hq hz => ?_).symm
   obtain ⟨b', q', hb', hq', ez⟩ := betw_get hz
   rw [hq] at hq'; cases hq'
   have l1 := mixR_line (x := b') (y := q) (E := e) hbc
   rw [← ez] at l1
   have s := st i p b' q hp hb' hq
   have s1 : (b' - p) * (c.1 - b.1) = (q - b') * (b.1 - a.1) := by grind
   have : ((z - p) * (c.1 - a.1) - (q - p) * (e - a.1)) * (c.1 - b.1) = 0 := by
    have k1 : (z - p) * (c.1 - b.1) = (e - b.1) * (q - b') + (b' - p) * (c.1 - b.1) := by grind
    have k2 : ((z - p) * (c.1 - a.1) - (q - p) * (e - a.1)) * (c.1 - b.1) = ((z - p) * (c.1 - b.1)) * (c.1 - a.1) - (q - p) * (e - a.1) * (c.1 - b.1) := by grind
    rw [k2, k1, s1]
    grind
   have := rat_mul_zero this (sub_ne hbc)
   grind
  ·rw [partsV_skip (Rat.not_lt.mp h2), partsV_skip (Rat.not_lt.mp h2)]
theorem keep_parts {m : Nat} {e : Rat} : ∀ (r : List Corner) (k a b : Corner), Rising (k :: b :: r) → (∀ x ∈ k :: b :: r, x.2.length = m) → k.1 ≤ e → (a = k ∨ (k.1 < a.1 ∧ a.1 < b.1 ∧ a.2.length = m ∧ straight k a b)) →
 partsV (k :: keepFrom a (b :: r)) e = partsV (k :: b :: r) e
 | [], k, a, b, _, _, _, _ => by rw [keepFrom]
 | c :: r, k, a, b, hr, hl, hk, ha => by
   obtain ⟨h1, h2⟩ := List.pairwise_cons.mp hr
   obtain ⟨h3, h4⟩ := List.pairwise_cons.mp h2
   have hkb := h1 b (List.mem_cons_self ..)
   have hbc := h3 c (List.mem_cons_self ..)
   have lk := hl k (List.mem_cons_self ..)
   have lb := hl b (List.mem_cons_of_mem _ (List.mem_cons_self ..))
   have lc := hl c (List.mem_cons_of_mem _ (List.mem_cons_of_mem _ (List.mem_cons_self ..)))
   rw [keepFrom]
   split
   ·rename_i st
    have st' : straight k b c := by
     rcases ha with rfl | ⟨_, hab, la, s0⟩
     ·exact st
     ·exact straight_fwd hab lk la s0 st
    have rk : Rising (k :: c :: r) := List.pairwise_cons.mpr ⟨fun x hx => h1 x (List.mem_cons_of_mem _ hx), h4⟩
    rw [keep_parts r k b c rk (fun x hx => hl x (by
     rcases List.mem_cons.mp hx with rfl | hx
     ·exact List.mem_cons_self ..
     ·exact List.mem_cons_of_mem _ (List.mem_cons_of_mem _ hx))) hk (.inr ⟨hkb, hbc, lb, st'⟩), partsV_drop hkb hbc lk lb lc st' hk]
   ·by_cases h5 : e < b.1
    ·rw [partsV, if_pos h5, partsV, if_pos h5]
    ·rw [partsV_skip (Rat.not_lt.mp h5), partsV_skip (Rat.not_lt.mp h5)]
     exact keep_parts r b b c h2 (fun x hx => hl x (List.mem_cons_of_mem _ hx)) (Rat.not_lt.mp h5) (.inl rfl)
theorem keepAll_parts {m : Nat} {e : Rat} {c : Corner} {r : List Corner} (hr : Rising (c :: r)) (hl : ∀ x ∈ c :: r, x.2.length = m) (hc : c.1 ≤ e) : partsV (keepAll (c :: r)) e = partsV (c :: r) e := by
 rw [keepAll]
 cases r with
 | nil => rw [keepFrom]
 | cons b r => exact keep_parts r c c b hr hl hc (.inl rfl)
theorem partsV_app_left {e : Rat} {M : List Corner} : ∀ {c : Corner} {r : List Corner}, c.1 ≤ e → e < (lastC (c :: r)).1 → partsV (c :: r ++ M) e = partsV (c :: r) e
 | c, [], hc, he => absurd he (Rat.not_lt.mpr hc)
 | c, d :: r, hc, he => by
   rw [List.cons_append, List.cons_append, partsV, partsV]
   by_cases h : e < d.1
   ·rw [if_pos h, if_pos h]
   ·rw [if_neg h, if_neg h]
    rw [lastC_cons] at he
    exact partsV_app_left (c := d) (r := r) (Rat.not_lt.mp h) he
theorem partsV_app_right {e : Rat} {M : List Corner} : ∀ {c : Corner} {r : List Corner}, Rising (c :: r) → (lastC (c :: r)).1 ≤ e → partsV (c :: r ++ M) e = partsV (lastC (c :: r) :: M) e
 | c, [], _, _ => rfl
 | c, d :: r, hr, he => by
   have h2 := (List.pairwise_cons.mp hr).2
   rw [lastC_cons] at he ⊢
   have hd : d.1 ≤ e := by
    refine Rat.le_trans ?_ he
    have m : lastC (d :: r) ∈ d :: r := by
     unfold lastC
     rw [List.getLast?_eq_some_getLast (by simp)]
     exact List.getLast_mem _
    rcases List.mem_cons.mp m with z | z
    ·rw [z]; exact Rat.le_refl
    ·exact Rat.le_of_lt ((List.pairwise_cons.mp h2).1 _ z)
   rw [List.cons_append, List.cons_append, partsV_skip hd]
   exact partsV_app_right h2 he
theorem betw_plus {m : Nat} {c q d : Corner} {e : Rat} (lc : c.2.length = m) (lq : q.2.length = m) (ld : d.2.length = m) : betw (plusC c q) (plusC c d) e = List.zipWith (· + ·) c.2 (betw q d (e - c.1)) := by
 have et : (e - (plusC c q).1) / ((plusC c d).1 - (plusC c q).1) = (e - c.1 - q.1) / (d.1 - q.1) := by
  show (e - (c.1 + q.1)) / ((c.1 + d.1) - (c.1 + q.1)) = _
  rw [show e - (c.1 + q.1) = e - c.1 - q.1 by grind, show c.1 + d.1 - (c.1 + q.1) = d.1 - q.1 by grind]
 unfold betw
 rw [et]
 generalize (e - c.1 - q.1) / (d.1 - q.1) = t
 show List.zipWith (mixR t) (List.zipWith (· + ·) c.2 q.2) (List.zipWith (· + ·) c.2 d.2) = _
 apply List.ext_getElem
 ·simp only [List.length_zipWith]; omega
 ·intro i h1 h2
  simp only [List.getElem_zipWith]
  unfold mixR
  grind
theorem partsV_plus {m : Nat} {c : Corner} {e : Rat} (lc : c.2.length = m) : ∀ {q : Corner} {r : List Corner}, (∀ x ∈ q :: r, x.2.length = m) → partsV ((q :: r).map (plusC c)) e = List.zipWith (· + ·) c.2 (partsV (q :: r) (e - c.1))
 | q, [], _ => rfl
 | q, d :: r, h => by
   rw [List.map_cons, List.map_cons, partsV, partsV]
   have hd : e < (plusC c d).1 ↔ e - c.1 < d.1 := by
    show e < c.1 + d.1 ↔ _
    constructor <;> intro h <;> grind
   by_cases h1 : e - c.1 < d.1
   ·rw [if_pos h1, if_pos (hd.mpr h1)]
    exact betw_plus lc (h q (List.mem_cons_self ..)) (h d (List.mem_cons_of_mem _ (List.mem_cons_self ..)))
   ·rw [if_neg h1, if_neg fun z => h1 (hd.mp z)]
    have := partsV_plus (e := e) lc (q := d) (r := r) fun x hx => h x (List.mem_cons_of_mem _ hx)
    rw [List.map_cons] at this
    exact this
theorem div_lt' {a b p : Rat} (hp : 0 < p) : a < b * p ↔ a / p < b := by
 have hne : p ≠ 0 := fun z => by rw [z] at hp; exact Rat.lt_irrefl hp
 have hc : a = a / p * p := by rw [Rat.div_def, Rat.mul_assoc, Rat.inv_mul_cancel _ hne, Rat.mul_one]
 constructor
 ·intro h
  refine Rat.not_le.mp fun hle => ?_
  have := Rat.mul_le_mul_of_nonneg_right hle (Rat.le_of_lt hp)
  rw [← hc] at this
  exact Rat.not_lt.mpr this h
 ·intro h
  have := Rat.mul_lt_mul_of_pos_right h hp
  rwa [← hc] at this
theorem partsV_scale {p e : Rat} (hp : 0 < p) : ∀ {a : List Corner}, partsV (scaledV p a) e = (partsV a (e / p)).map (· * p)
 | [] => rfl
 | [c] => rfl
 | c :: d :: r => by
   have ih := partsV_scale (e := e) hp (a := d :: r)
   unfold scaledV at *
   rw [List.map_cons, List.map_cons, partsV, partsV]
   by_cases h : e / p < d.1
   ·rw [if_pos h, if_pos ((div_lt' hp).mpr h)]
    have hne : p ≠ 0 := fun z => by rw [z] at hp; exact Rat.lt_irrefl hp
    have et : (e - c.1 * p) / (d.1 * p - c.1 * p) = (e / p - c.1) / (d.1 - c.1) := by
     have i1 := Rat.mul_inv_cancel p hne
     have k1 : e - c.1 * p = (e / p - c.1) * p := by
      rw [Rat.div_def]; generalize p⁻¹ = j at *; grind
     have k2 : d.1 * p - c.1 * p = (d.1 - c.1) * p := by grind
     rw [k1, k2]
     by_cases z : d.1 - c.1 = 0
     ·rw [z, Rat.zero_mul, Rat.div_def, Rat.inv_zero, Rat.mul_zero, Rat.div_def, Rat.inv_zero, Rat.mul_zero]
     ·have z2 : (d.1 - c.1) * p ≠ 0 := fun h => z (rat_mul_zero h hne)
      have i2 := Rat.mul_inv_cancel _ z
      have i3 := Rat.mul_inv_cancel _ z2
      rw [Rat.div_def, Rat.div_def ((e / p - c.1))]
      generalize (d.1 - c.1)⁻¹ = j at *
      generalize ((d.1 - c.1) * p)⁻¹ = l at *
      generalize e / p - c.1 = u at *
      generalize d.1 - c.1 = v at *
      have : u * p * l = u * p * l * (v * j) := by rw [i2, Rat.mul_one]
      rw [this]
      have : u * p * l * (v * j) = u * j * (v * p * l) := by grind
      rw [this, i3, Rat.mul_one]
    unfold betw
    dsimp only
    rw [et]
    generalize (e / p - c.1) / (d.1 - c.1) = t
    apply List.ext_getElem
    ·simp
    ·intro i h1 h2
     simp only [List.getElem_zipWith, List.getElem_map]
     unfold mixR
     grind
   ·rw [if_neg h, if_neg fun z => h ((div_lt' hp).mp z)]
    rw [List.map_cons] at ih
    exact ih
def mn (a l : Rat) : Rat := if a ≤ l then a else l
theorem mn_int (a l : Int) : ((min a l : Int) : Rat) = mn (a : Rat) (l : Rat) := by
 unfold mn
 by_cases h : a ≤ l
 ·rw [if_pos (Rat.intCast_le_intCast.mpr h), Int.min_eq_left h]
 ·rw [if_neg fun z => h (Rat.intCast_le_intCast.mp z), Int.min_eq_right (by omega)]
theorem mix_range {t x y lo hi : Rat} (t0 : 0 ≤ t) (t1 : t ≤ 1) (hx : lo ≤ x ∧ x ≤ hi) (hy : lo ≤ y ∧ y ≤ hi) : lo ≤ mixR t x y ∧ mixR t x y ≤ hi := by
 have a1 := Rat.mul_nonneg t0 (show 0 ≤ y - lo by grind)
 have a2 := Rat.mul_nonneg (show 0 ≤ 1 - t by grind) (show 0 ≤ x - lo by grind)
 have a3 := Rat.mul_nonneg t0 (show 0 ≤ hi - y by grind)
 have a4 := Rat.mul_nonneg (show 0 ≤ 1 - t by grind) (show 0 ≤ hi - x by grind)
 unfold mixR
 constructor <;> grind
theorem mn_mix {a x y t : Rat} (t0 : 0 ≤ t) (t1 : t ≤ 1) (h : (a ≤ x ∧ a ≤ y) ∨ (x ≤ a ∧ y ≤ a)) : mixR t (mn a x) (mn a y) = mn a (mixR t x y) := by
 rcases h with ⟨h1, h2⟩ | ⟨h1, h2⟩
 ·have e1 : mn a x = a := by unfold mn; rw [if_pos h1]
  have e2 : mn a y = a := by unfold mn; rw [if_pos h2]
  have r : a ≤ mixR t x y := by
   have a1 := Rat.mul_nonneg t0 (show 0 ≤ y - a by grind)
   have a2 := Rat.mul_nonneg (show 0 ≤ 1 - t by grind) (show 0 ≤ x - a by grind)
   unfold mixR; grind
  have e3 : mn a (mixR t x y) = a := by unfold mn; rw [if_pos r]
  rw [e1, e2, e3]; unfold mixR; grind
 ·have m : ∀ z, z ≤ a → mn a z = z := fun z hz => by
   unfold mn
   split
   ·exact Rat.le_antisymm (by assumption) hz
   ·rfl
  have r : mixR t x y ≤ a := by
   have a1 := Rat.mul_nonneg t0 (show 0 ≤ a - y by grind)
   have a2 := Rat.mul_nonneg (show 0 ≤ 1 - t by grind) (show 0 ≤ a - x by grind)
   unfold mixR; grind
  rw [m x h1, m y h2, m _ r]
theorem port_range {s d e : Rat} (h : s < d) (h1 : s ≤ e) (h2 : e < d) : 0 ≤ (e - s) / (d - s) ∧ (e - s) / (d - s) ≤ 1 := by
 have hp : 0 < d - s := by grind
 have hi := Rat.mul_inv_cancel _ (sub_ne h)
 have ip : 0 < (d - s)⁻¹ := Rat.inv_pos.mpr hp
 rw [Rat.div_def]
 have a1 := Rat.mul_nonneg (show 0 ≤ e - s by grind) (Rat.le_of_lt ip)
 have a2 := Rat.mul_nonneg (show 0 ≤ d - e by grind) (Rat.le_of_lt ip)
 generalize (d - s)⁻¹ = j at *
 constructor
 ·exact a1
 ·grind
theorem seg_parts {as ls : List Int} {G : Rat → Rat → Rat} {C : Int → Corner} (hC : ∀ l, (C l).2 = as.map fun (a : Int) => G (a : Rat) (l : Rat)) (rise : Rising (ls.map C)) (nn : ∀ l ∈ ls, 0 ≤ l)
 (mix : ∀ (i : Nat) (l l' : Int), ls[i]? = some l → ls[i + 1]? = some l' → ∀ a ∈ as, ∀ t : Rat, 0 ≤ t → t ≤ 1 → mixR t (G (a : Rat) (l : Rat)) (G (a : Rat) (l' : Rat)) = G (a : Rat) (mixR t (l : Rat) (l' : Rat)))
 {e : Rat} {l0 : Int} (h0 : ls[0]? = some l0) (he : (C l0).1 ≤ e) : ∃ z : Rat, 0 ≤ z ∧ partsV (ls.map C) e = as.map fun (a : Int) => G (a : Rat) z := by
 obtain ⟨i, q, hq, hqe, nx⟩ := find_at (M := pursesV (ls.map C)) (z := (C l0).1) (by unfold pursesV; rw [List.map_map, List.getElem?_map, h0]; rfl) he
 unfold pursesV at hq nx
 obtain ⟨c, hc, rfl⟩ := mapAt hq
 obtain ⟨l, hl, rfl⟩ := mapAt hc
 have l0' : (0 : Rat) ≤ (l : Rat) := by exact_mod_cast Rat.intCast_nonneg.mpr (nn l (List.mem_of_getElem? hl))
 have key := partsV_at (E := e) rise hc hqe (by
  rcases nx with h | ⟨r, hr, h⟩
  ·left; simpa using h
  ·obtain ⟨d, hd, rfl⟩ := mapAt hr
   exact .inr ⟨d, hd, h⟩)
 rcases nx with h | ⟨r, hr, h⟩
 ·rw [List.getElem?_eq_none (by simp only [List.length_map] at h ⊢; omega)] at key
  refine ⟨l, l0', ?_⟩
  rw [key]
  exact hC l
 ·obtain ⟨d, hd, rfl⟩ := mapAt hr
  obtain ⟨l', hl', rfl⟩ := mapAt hd
  rw [hd] at key
  have l1' : (0 : Rat) ≤ (l' : Rat) := by exact_mod_cast Rat.intCast_nonneg.mpr (nn l' (List.mem_of_getElem? hl'))
  have hlt : (C l).1 < (C l').1 := by
   have := rise_at (M := pursesV (ls.map C)) (purses_rise rise) (j := i) (by unfold pursesV; rw [List.getElem?_map, hc]; rfl) (by unfold pursesV; rw [List.getElem?_map, hd]; rfl)
   exact this
  obtain ⟨t0, t1⟩ := port_range hlt hqe h
  refine ⟨mixR ((e - (C l).1) / ((C l').1 - (C l).1)) l l', ?_, ?_⟩
  ·have a1 := Rat.mul_nonneg t0 l1'
   have a2 := Rat.mul_nonneg (show 0 ≤ 1 - (e - (C l).1) / ((C l').1 - (C l).1) by grind) l0'
   unfold mixR; grind
  ·rw [key]
   show betw (C l) (C l') e = _
   unfold betw
   generalize (e - (C l).1) / ((C l').1 - (C l).1) = t at *
   rw [hC, hC]
   apply List.ext_getElem
   ·simp
   ·intro j h1 h2
    simp only [List.getElem_zipWith, List.getElem_map]
    exact mix i l l' hl hl' _ (List.getElem_mem _) t t0 t1
theorem partsV_sumS {m : Nat} {e : Rat} : ∀ {c : Corner} {r : List Corner}, Rising (c :: r) → (∀ x ∈ c :: r, x.2.length = m ∧ sumQ x.2 = x.1) → c.1 ≤ e → e ≤ (lastC (c :: r)).1 → sumQ (partsV (c :: r) e) = e
 | c, [], _, h, hc, hl => by
   have e1 : e = c.1 := Rat.le_antisymm hl hc
   rw [e1]
   exact (h c (List.mem_cons_self ..)).2
 | c, d :: r, hr, h, hc, hl => by
   have hcd := (List.pairwise_cons.mp hr).1 d (List.mem_cons_self ..)
   have hc' := h c (List.mem_cons_self ..)
   have hd' := h d (List.mem_cons_of_mem _ (List.mem_cons_self ..))
   by_cases hd : d.1 ≤ e
   ·rw [partsV_skip hd]
    exact partsV_sumS (List.pairwise_cons.mp hr).2 (fun x hx => h x (List.mem_cons_of_mem _ hx)) hd (by rw [← lastC_cons c]; exact hl)
   ·have hud : e < d.1 := Rat.not_le.mp hd
    rw [partsV, if_pos hud]
    unfold betw
    rw [sumQ_mix _ _ _ (by rw [hc'.1, hd'.1]), hc'.2, hd'.2]
    have l1 := mixR_line (x := c.1) (y := d.1) (E := e) hcd
    have := rat_mul_zero (a := mixR ((e - c.1) / (d.1 - c.1)) c.1 d.1 - e) (b := d.1 - c.1) (by grind) (sub_ne hcd)
    grind
theorem partsV_past {c : Corner} {r : List Corner} {e : Rat} (hr : Rising (c :: r)) (he : (lastC (c :: r)).1 ≤ e) : partsV (c :: r) e = (lastC (c :: r)).2 := by
 have := partsV_app_right (M := []) hr he
 rw [List.append_nil] at this
 rw [this]; rfl
def wholeC (h : List Int) : Corner := ((h.sum : Int), h.map fun (x : Int) => (x : Rat))
theorem sumQ_cast : ∀ h : List Int, sumQ (h.map fun (x : Int) => (x : Rat)) = ((h.sum : Int) : Rat)
 | [] => rfl
 | x :: h => by rw [List.map_cons, sumQ, sumQ_cast h, List.sum_cons, Rat.intCast_add]
theorem sum_map_le {f g : Int → Int} : ∀ {as : List Int}, (∀ a ∈ as, f a ≤ g a) → (as.map f).sum ≤ (as.map g).sum
 | [], _ => Int.le_refl _
 | a :: as, h => by
   have ih := sum_map_le fun x hx => h x (List.mem_cons_of_mem _ hx)
   have := h a (List.mem_cons_self ..)
   rw [List.map_cons, List.map_cons, List.sum_cons, List.sum_cons]; omega
theorem sum_map_lt {f g : Int → Int} : ∀ {as : List Int} {b : Int}, (∀ a ∈ as, f a ≤ g a) → b ∈ as → f b < g b → (as.map f).sum < (as.map g).sum
 | [], b, _, hb, _ => by simp at hb
 | a :: as, b, h, hb, hlt => by
   rw [List.map_cons, List.map_cons, List.sum_cons, List.sum_cons]
   have ha := h a (List.mem_cons_self ..)
   rcases List.mem_cons.mp hb with rfl | hb
   ·have := sum_map_le fun x hx => h x (List.mem_cons_of_mem _ hx)
    omega
   ·have := sum_map_lt (fun x hx => h x (List.mem_cons_of_mem _ hx)) hb hlt
    omega
structure LvOk (as ls : List Int) : Prop where
 rise : ls.Pairwise (· < ·)
 mem : ∀ k, k ∈ ls ↔ k = 0 ∨ k ∈ as
 nn : ∀ a ∈ as, 0 ≤ a
def minV (as : List Int) (l : Int) : List Int := as.map fun a => min a l
def lackV (as : List Int) (l : Int) : List Int := as.map fun a => a - min a l
def evP (as ls : List Int) : List Corner := ls.map fun l => wholeC (minV as l)
def loP (as ls : List Int) : List Corner := ls.reverse.map fun l => wholeC (lackV as l)
section
variable {as ls : List Int}
theorem LvOk.nnL (h : LvOk as ls) : ∀ l ∈ ls, 0 ≤ l := fun l hl => by
 rcases (h.mem l).mp hl with rfl | z
 ·exact Int.le_refl _
 ·exact h.nn l z
theorem LvOk.zero (h : LvOk as ls) : ls[0]? = some 0 := by
 have m0 : (0 : Int) ∈ ls := (h.mem 0).mpr (.inl rfl)
 cases ls with
 | nil => simp at m0
 | cons a l =>
   have ha := h.nnL a (List.mem_cons_self ..)
   rcases List.mem_cons.mp m0 with e | e
   ·rw [e]; rfl
   ·have := (List.pairwise_cons.mp h.rise).1 0 e
    omega
theorem LvOk.gap (h : LvOk as ls) {i : Nat} {l l' a : Int} (hl : ls[i]? = some l) (hl' : ls[i + 1]? = some l') (ha : a ∈ as) : a ≤ l ∨ l' ≤ a := by
 have m := (h.mem a).mpr (.inr ha)
 obtain ⟨j, hj, ej⟩ := List.getElem_of_mem m
 obtain ⟨li, ei⟩ := List.getElem?_eq_some_iff.mp hl
 obtain ⟨li', ei'⟩ := List.getElem?_eq_some_iff.mp hl'
 have P := List.pairwise_iff_getElem.mp h.rise
 rcases Nat.lt_or_ge j (i + 1) with c | c
 ·left
  by_cases e : j = i
  ·subst e; rw [← ej, ← ei]; exact Int.le_refl _
  ·have := P j i hj li (by omega)
   rw [ej, ei] at this; omega
 ·right
  by_cases e : j = i + 1
  ·subst e; rw [← ej, ← ei']; exact Int.le_refl _
  ·have := P (i + 1) j li' hj (by omega)
   rw [ej, ei'] at this; omega
theorem LvOk.sumlt (h : LvOk as ls) {l l' : Int} (hl : l ∈ ls) (hl' : l' ∈ ls) (lt : l < l') : (minV as l).sum < (minV as l').sum := by
 have m : l' ∈ as := ((h.mem l').mp hl').resolve_left (by have := h.nnL l hl; omega)
 exact sum_map_lt (fun a _ => by omega) m (by omega)
theorem lack_sum : ∀ (as : List Int) (l : Int), (lackV as l).sum = as.sum - (minV as l).sum
 | [], _ => rfl
 | a :: as, l => by
   have := lack_sum as l
   unfold lackV minV at *
   rw [List.map_cons, List.map_cons, List.sum_cons, List.sum_cons, List.sum_cons, this]; omega
theorem LvOk.riseE (h : LvOk as ls) : Rising (evP as ls) := by
 unfold Rising evP
 rw [List.pairwise_map]
 exact h.rise.imp_of_mem fun {a b} ha hb lt => Rat.intCast_lt_intCast.mpr (h.sumlt ha hb lt)
theorem LvOk.riseL (h : LvOk as ls) : Rising (loP as ls) := by
 unfold Rising loP
 rw [List.pairwise_map, List.pairwise_reverse]
 refine h.rise.imp_of_mem fun {a b} ha hb lt => Rat.intCast_lt_intCast.mpr ?_
 have := h.sumlt ha hb lt
 rw [lack_sum, lack_sum]; omega
theorem LvOk.top (h : LvOk as ls) : ∃ t, ls.getLast? = some t ∧ ∀ a ∈ as, a ≤ t := by
 have ne : ls ≠ [] := fun e => by have := h.zero; rw [e] at this; simp at this
 refine ⟨_, List.getLast?_eq_some_getLast ne, fun a ha => ?_⟩
 have m := (h.mem a).mpr (.inr ha)
 rw [← List.dropLast_concat_getLast ne] at m
 have R := h.rise
 rw [← List.dropLast_concat_getLast ne] at R
 rcases List.mem_append.mp m with z | z
 ·exact Int.le_of_lt ((List.pairwise_append.mp R).2.2 a z _ (by simp))
 ·rw [List.mem_singleton.mp z]; exact Int.le_refl _
theorem min_top {t : Int} (h : ∀ a ∈ as, a ≤ t) : minV as t = as := by
 unfold minV
 conv => rhs; rw [← List.map_id as]
 exact List.map_congr_left fun a ha => by show min a t = a; have := h a ha; omega
theorem min_zero (h : ∀ a ∈ as, 0 ≤ a) : minV as 0 = zeroV as.length := by
 unfold minV zeroV
 rw [← List.map_const']
 exact List.map_congr_left fun a ha => by have := h a ha; omega
theorem LvOk.evenly (h : LvOk as ls) {e : Rat} (h0 : 0 ≤ e) : ∃ z : Rat, 0 ≤ z ∧ partsV (evP as ls) e = as.map fun (a : Int) => mn (a : Rat) z := by
 refine seg_parts (G := mn) (C := fun l => wholeC (minV as l)) (fun l => ?_) h.riseE h.nnL (fun i l l' hl hl' a ha t t0 t1 => mn_mix t0 t1 ?_) h.zero ?_
 ·unfold wholeC minV
  rw [List.map_map]
  exact List.map_congr_left fun a _ => mn_int a l
 ·obtain ⟨li, ei⟩ := List.getElem?_eq_some_iff.mp hl
  obtain ⟨li', ei'⟩ := List.getElem?_eq_some_iff.mp hl'
  have lt := List.pairwise_iff_getElem.mp h.rise i (i + 1) li li' (by omega)
  rw [ei, ei'] at lt
  rcases h.gap hl hl' ha with z | z
  ·exact .inl ⟨Rat.intCast_le_intCast.mpr z, Rat.intCast_le_intCast.mpr (by omega)⟩
  ·exact .inr ⟨Rat.intCast_le_intCast.mpr (by omega), Rat.intCast_le_intCast.mpr z⟩
 ·show ((minV as 0).sum : Rat) ≤ e
  rw [min_zero h.nn, zeroV_sum]
  exact h0
theorem LvOk.losses (h : LvOk as ls) {e : Rat} (h0 : 0 ≤ e) : ∃ z : Rat, 0 ≤ z ∧ partsV (loP as ls) e = as.map fun (a : Int) => (a : Rat) - mn (a : Rat) z := by
 obtain ⟨t, ht, top⟩ := h.top
 refine seg_parts (as := as) (ls := ls.reverse) (G := fun a z => a - mn a z) (C := fun l => wholeC (lackV as l)) (fun l => ?_) h.riseL (fun l hl => h.nnL l (List.mem_reverse.mp hl)) (fun i l l' hl hl' a ha t t0 t1 => ?_) (l0 := t) ?_ ?_
 ·unfold wholeC lackV
  rw [List.map_map]
  refine List.map_congr_left fun a _ => ?_
  show ((a - min a l : Int) : Rat) = _
  rw [Rat.intCast_sub, mn_int]
 ·obtain ⟨li, ei⟩ := List.getElem?_eq_some_iff.mp hl
  obtain ⟨li', ei'⟩ := List.getElem?_eq_some_iff.mp hl'
  rw [List.length_reverse] at li li'
  have g1 : ls[ls.length - 1 - (i + 1)]? = some l' := by rw [← ei', List.getElem_reverse]; exact List.getElem?_eq_getElem _
  have g2 : ls[ls.length - 1 - (i + 1) + 1]? = some l := by
   rw [← ei, List.getElem_reverse, show ls.length - 1 - (i + 1) + 1 = ls.length - 1 - i by omega]; exact List.getElem?_eq_getElem _
  obtain ⟨lj, ej⟩ := List.getElem?_eq_some_iff.mp g1
  obtain ⟨lj', ej'⟩ := List.getElem?_eq_some_iff.mp g2
  have lt := List.pairwise_iff_getElem.mp h.rise _ _ lj lj' (by omega)
  rw [ej, ej'] at lt
  have mm : mixR t (mn (a : Rat) (l : Rat)) (mn (a : Rat) (l' : Rat)) = mn (a : Rat) (mixR t (l : Rat) (l' : Rat)) := by
   refine mn_mix t0 t1 ?_
   rcases h.gap g1 g2 ha with z | z
   ·exact .inl ⟨Rat.intCast_le_intCast.mpr (by omega), Rat.intCast_le_intCast.mpr z⟩
   ·exact .inr ⟨Rat.intCast_le_intCast.mpr z, Rat.intCast_le_intCast.mpr (by omega)⟩
  rw [← mm]
  unfold mixR; grind
 ·rw [← ht, ← List.head?_reverse, List.head?_eq_getElem?]
 ·show ((lackV as t).sum : Rat) ≤ e
  rw [lack_sum, min_top top, Int.sub_self]
  exact h0
end
end S
namespace S
open PySem PySem.Spec PyProof.Rows L2
section
variable {as ls : List Int}
theorem evP_ne (h : LvOk as ls) : ∃ r, evP as ls = wholeC (zeroV as.length) :: r := by
 have z := h.zero
 cases ls with
 | nil => simp at z
 | cons a l =>
   have : a = 0 := by simpa using z
   subst this
   exact ⟨_, by unfold evP; rw [List.map_cons, min_zero h.nn]⟩
theorem evP_last (h : LvOk as ls) : lastC (evP as ls) = wholeC as := by
 obtain ⟨t, ht, top⟩ := h.top
 unfold lastC evP
 rw [List.getLast?_map, ht]
 show wholeC (minV as t) = _
 rw [min_top top]
theorem turn_whole : ∀ (as : List Int) (l : Int), turnC (wholeC as) (wholeC (minV as l)) = wholeC (lackV as l) := fun as l => by
 unfold turnC wholeC
 refine Prod.ext ?_ ?_
 ·show ((as.sum : Int) : Rat) - ((minV as l).sum : Int) = ((lackV as l).sum : Int)
  rw [lack_sum, Rat.intCast_sub]
 ·show List.zipWith (· - ·) (as.map fun (x : Int) => (x : Rat)) ((minV as l).map fun (x : Int) => (x : Rat)) = (lackV as l).map fun (x : Int) => (x : Rat)
  unfold minV lackV
  apply List.ext_getElem
  ·simp
  ·intro i h1 h2
   simp only [List.getElem_zipWith, List.getElem_map]
   rw [Rat.intCast_sub]
theorem turned_ev (h : LvOk as ls) : turnedV (evP as ls) = loP as ls := by
 unfold turnedV
 rw [evP_last h]
 unfold evP loP
 rw [← List.map_reverse, List.map_map]
 exact List.map_congr_left fun l _ => turn_whole as l
theorem loP_ne (h : LvOk as ls) : ∃ r, loP as ls = wholeC (zeroV as.length) :: r := by
 obtain ⟨t, ht, top⟩ := h.top
 have ne : ls ≠ [] := fun e => by rw [e] at ht; simp at ht
 obtain ⟨ini, ei⟩ := List.getLast?_eq_some_iff.mp ht
 refine ⟨ini.reverse.map fun l => wholeC (lackV as l), ?_⟩
 unfold loP
 rw [ei, List.reverse_append, List.reverse_singleton, List.singleton_append, List.map_cons]
 congr 2
 unfold lackV zeroV
 rw [← List.map_const']
 exact List.map_congr_left fun a ha => by have := top a ha; omega
theorem loP_last (h : LvOk as ls) : lastC (loP as ls) = wholeC as := by
 have z := h.zero
 unfold lastC loP
 rw [List.getLast?_map, List.getLast?_reverse, List.head?_eq_getElem?, z]
 show wholeC (lackV as 0) = _
 congr 1
 unfold lackV
 conv => rhs; rw [← List.map_id as]
 exact List.map_congr_left fun a ha => by show a - min a 0 = a; have := h.nn a ha; omega
theorem whole_ok (h : List Int) : (wholeC h).2.length = h.length ∧ sumQ (wholeC h).2 = (wholeC h).1 := ⟨List.length_map _, sumQ_cast h⟩
theorem evP_ok (as ls : List Int) : ∀ c ∈ evP as ls, c.2.length = as.length ∧ sumQ c.2 = c.1 := fun c hc => by
 obtain ⟨l, _, rfl⟩ := List.mem_map.mp hc
 have := whole_ok (minV as l)
 rwa [show (minV as l).length = as.length by unfold minV; rw [List.length_map]] at this
theorem loP_ok (as ls : List Int) : ∀ c ∈ loP as ls, c.2.length = as.length ∧ sumQ c.2 = c.1 := fun c hc => by
 obtain ⟨l, _, rfl⟩ := List.mem_map.mp hc
 have := whole_ok (lackV as l)
 rwa [show (lackV as l).length = as.length by unfold lackV; rw [List.length_map]] at this
theorem wholeZ (m : Nat) : wholeC (zeroV m) = (0, List.replicate m 0) := by
 unfold wholeC
 rw [zeroV_sum]
 unfold zeroV
 rw [List.map_replicate]
 rfl
theorem sum_path {P : List Corner} {m : Nat} {e : Rat} (r : List Corner) (hP : P = (0, List.replicate m 0) :: r) (rise : Rising P) (ok : ∀ c ∈ P, c.2.length = m ∧ sumQ c.2 = c.1) (h0 : 0 ≤ e) : sumQ (partsV P e) = mn e (lastC P).1 := by
 subst hP
 unfold mn
 split
 ·exact partsV_sumS rise ok h0 (by assumption)
 ·rename_i z
  have hl := Rat.not_le.mp z
  rw [partsV_past rise (Rat.le_of_lt hl)]
  have m : lastC ((0, List.replicate m 0) :: r) ∈ ((0 : Rat), List.replicate m (0 : Rat)) :: r := by
   unfold lastC
   rw [List.getLast?_eq_some_getLast (by simp)]
   exact List.getLast_mem _
  exact (ok _ m).2
theorem LvOk.sumE (h : LvOk as ls) {e : Rat} (h0 : 0 ≤ e) : sumQ (partsV (evP as ls) e) = mn e (as.sum : Int) := by
 obtain ⟨r, er⟩ := evP_ne h
 rw [wholeZ] at er
 have := sum_path (P := evP as ls) r er h.riseE (evP_ok as ls) h0
 rw [evP_last h] at this
 exact this
theorem LvOk.sumL (h : LvOk as ls) {e : Rat} (h0 : 0 ≤ e) : sumQ (partsV (loP as ls) e) = mn e (as.sum : Int) := by
 obtain ⟨r, er⟩ := loP_ne h
 rw [wholeZ] at er
 have := sum_path (P := loP as ls) r er h.riseL (loP_ok as ls) h0
 rw [loP_last h] at this
 exact this
def hfA (as ls : List Int) : List Corner := scaledV (1 / 2) (evP as ls)
def hfB (as ls : List Int) : List Corner := scaledV (1 / 2) (loP as ls)
theorem half_pos : (0 : Rat) < 1 / 2 := by decide +kernel
theorem scaled_rise {a : List Corner} {p : Rat} (hp : 0 < p) (h : Rising a) : Rising (scaledV p a) := by
 unfold Rising scaledV
 rw [List.pairwise_map]
 exact h.imp fun {x y} lt => Rat.mul_lt_mul_of_pos_right lt hp
theorem scaled_last {a : List Corner} {p : Rat} (h : a ≠ []) : lastC (scaledV p a) = ((lastC a).1 * p, (lastC a).2.map (· * p)) := by
 unfold lastC scaledV
 rw [List.getLast?_map, List.getLast?_eq_some_getLast h]
 rfl
theorem hf_rise (h : LvOk as ls) : Rising (hfA as ls ++ movedV (hfA as ls) (hfB as ls)) := by
 have rA : Rising (hfA as ls) := scaled_rise half_pos h.riseE
 have rB : Rising (hfB as ls) := scaled_rise half_pos h.riseL
 obtain ⟨ra, ea⟩ := evP_ne h
 obtain ⟨rb, eb⟩ := loP_ne h
 have neA : hfA as ls ≠ [] := by unfold hfA scaledV; rw [ea]; simp
 have tl : ∀ d ∈ (hfB as ls).tail, 0 < d.1 := fun d hd => by
  have e : hfB as ls = (0 * (1 / 2), (List.replicate as.length (0 : Rat)).map (· * (1 / 2))) :: (hfB as ls).tail := by
   unfold hfB scaledV; rw [eb, wholeZ]; rfl
  rw [e] at rB
  have := (List.pairwise_cons.mp rB).1 d hd
  rwa [Rat.zero_mul] at this
 unfold Rising movedV
 refine List.pairwise_append.mpr ⟨rA, ?_, fun c hc d hd => ?_⟩
 ·rw [List.pairwise_map]
  have rt : Rising (hfB as ls).tail := List.Pairwise.sublist (List.tail_sublist _) rB
  exact rt.imp fun {x y} lt => by show (lastC _).1 + x.1 < (lastC _).1 + y.1; grind
 ·obtain ⟨d', hd', rfl⟩ := List.mem_map.mp hd
  have p := tl d' hd'
  show c.1 < (lastC (hfA as ls)).1 + d'.1
  have le : c.1 ≤ (lastC (hfA as ls)).1 := by
   rw [← List.dropLast_concat_getLast neA] at hc rA
   have el : lastC (hfA as ls) = (hfA as ls).getLast neA := by unfold lastC; rw [List.getLast?_eq_some_getLast neA]; rfl
   rw [el]
   rcases List.mem_append.mp hc with z | z
   ·exact Rat.le_of_lt ((List.pairwise_append.mp rA).2.2 c z _ (by simp))
   ·rw [List.mem_singleton.mp z]; exact Rat.le_refl
  grind
theorem hf_len (as ls : List Int) : ∀ x ∈ hfA as ls ++ movedV (hfA as ls) (hfB as ls), lastC (hfA as ls) ∈ hfA as ls → x.2.length = as.length := fun x hx hm => by
 have lA : ∀ x ∈ hfA as ls, x.2.length = as.length := fun x hx => by
  obtain ⟨c, hc, rfl⟩ := List.mem_map.mp hx
  rw [List.length_map]; exact (evP_ok as ls c hc).1
 rcases List.mem_append.mp hx with z | z
 ·exact lA x z
 ·obtain ⟨d, hd, rfl⟩ := List.mem_map.mp z
  have ld : d.2.length = as.length := by
   have := List.mem_of_mem_tail hd
   obtain ⟨c, hc, rfl⟩ := List.mem_map.mp this
   rw [List.length_map]; exact (loP_ok as ls c hc).1
  show (List.zipWith _ _ _).length = _
  rw [List.length_zipWith, lA _ hm, ld]; exact Nat.min_self _
theorem hf_lastA (h : LvOk as ls) : lastC (hfA as ls) = (((as.sum : Int) : Rat) * (1 / 2), as.map fun (a : Int) => (a : Rat) * (1 / 2)) := by
 obtain ⟨r, er⟩ := evP_ne h
 unfold hfA
 rw [scaled_last (by rw [er]; simp), evP_last h]
 unfold wholeC
 rw [List.map_map]
 rfl
theorem hf_memA (h : LvOk as ls) : lastC (hfA as ls) ∈ hfA as ls := by
 obtain ⟨r, er⟩ := evP_ne h
 have ne : hfA as ls ≠ [] := by unfold hfA scaledV; rw [er]; simp
 unfold lastC
 rw [List.getLast?_eq_some_getLast ne]
 exact List.getLast_mem _
theorem halfZ (m : Nat) : (((0 : Rat) * (1 / 2), (List.replicate m (0 : Rat)).map (· * (1 / 2))) : Corner) = (0, List.replicate m 0) := by
 rw [Rat.zero_mul, List.map_replicate, Rat.zero_mul]
theorem hfA_ne (h : LvOk as ls) : ∃ t, hfA as ls = (0, List.replicate as.length 0) :: t := by
 obtain ⟨ra, ea⟩ := evP_ne h
 unfold hfA scaledV
 rw [ea, wholeZ]
 exact ⟨_, by rw [List.map_cons, halfZ]⟩
theorem hfB_ne (h : LvOk as ls) : ∃ t, hfB as ls = (0, List.replicate as.length 0) :: t := by
 obtain ⟨ra, ea⟩ := loP_ne h
 unfold hfB scaledV
 rw [ea, wholeZ]
 exact ⟨_, by rw [List.map_cons, halfZ]⟩
def hvP (as ls : List Int) : List Corner := hfA as ls ++ movedV (hfA as ls) (hfB as ls)
theorem hv_keep (h : LvOk as ls) {e : Rat} (h0 : 0 ≤ e) : partsV (keepAll (hvP as ls)) e = partsV (hvP as ls) e := by
 have r := hf_rise h
 have l := fun x hx => hf_len as ls x hx (hf_memA h)
 obtain ⟨t, et⟩ := hfA_ne h
 unfold hvP
 rw [et] at r l ⊢
 rw [List.cons_append] at r l ⊢
 exact keepAll_parts r l h0
theorem two_half (e : Rat) : e / (1 / 2) = 2 * e := by
 have : ((1 : Rat) / 2)⁻¹ = 2 := by decide +kernel
 rw [Rat.div_def, this]; grind
theorem LvOk.halves (h : LvOk as ls) {e : Rat} (h0 : 0 ≤ e) : ∃ z : Rat, 0 ≤ z ∧
 ((e ≤ ((as.sum : Int) : Rat) * (1 / 2) ∧ partsV (keepAll (hvP as ls)) e = as.map fun (a : Int) => mn (a : Rat) z * (1 / 2)) ∨
  (((as.sum : Int) : Rat) * (1 / 2) < e ∧ partsV (keepAll (hvP as ls)) e = as.map fun (a : Int) => (a : Rat) * (1 / 2) + ((a : Rat) - mn (a : Rat) z) * (1 / 2))) := by
 rw [hv_keep h h0]
 have eL := hf_lastA h
 have rA : Rising (hfA as ls) := scaled_rise half_pos h.riseE
 obtain ⟨t, et⟩ := hfA_ne h
 obtain ⟨tb, etb⟩ := hfB_ne h
 have e2 := two_half e
 unfold hvP
 by_cases c : e < ((as.sum : Int) : Rat) * (1 / 2)
 ·obtain ⟨z, z0, hz⟩ := h.evenly (e := 2 * e) (by grind)
  refine ⟨z, z0, .inl ⟨Rat.le_of_lt c, ?_⟩⟩
  have k : partsV (hfA as ls ++ movedV (hfA as ls) (hfB as ls)) e = partsV (hfA as ls) e := by
   have lt : e < (lastC (hfA as ls)).1 := by rw [eL]; exact c
   rw [et] at lt
   conv => lhs; rw [et]
   conv => rhs; rw [et]
   exact partsV_app_left h0 lt
  rw [k]
  unfold hfA
  rw [partsV_scale half_pos, e2, hz, List.map_map]
  rfl
 ·have c' := Rat.not_lt.mp c
  have k : partsV (hfA as ls ++ movedV (hfA as ls) (hfB as ls)) e = List.zipWith (· + ·) (lastC (hfA as ls)).2 (partsV (hfB as ls) (e - (lastC (hfA as ls)).1)) := by
   have le : (lastC (hfA as ls)).1 ≤ e := by rw [eL]; exact c'
   have k1 : partsV (hfA as ls ++ movedV (hfA as ls) (hfB as ls)) e = partsV (lastC (hfA as ls) :: movedV (hfA as ls) (hfB as ls)) e := by
    rw [et] at le rA
    have := partsV_app_right (M := movedV (hfA as ls) (hfB as ls)) rA le
    rw [← et] at this
    exact this
   have ll : (lastC (hfA as ls)).2.length = as.length := by rw [eL, List.length_map]
   have k2 : lastC (hfA as ls) :: movedV (hfA as ls) (hfB as ls) = (hfB as ls).map (plusC (lastC (hfA as ls))) := by
    unfold movedV
    rw [etb, List.tail_cons, List.map_cons]
    congr 1
    unfold plusC
    refine Prod.ext ?_ ?_
    ·show _ = _ + (0 : Rat); rw [Rat.add_zero]
    ·show _ = List.zipWith (· + ·) _ (List.replicate as.length (0 : Rat))
     apply List.ext_getElem
     ·simp [ll]
     ·intro i h1 h2
      simp only [List.getElem_zipWith, List.getElem_replicate]
      rw [Rat.add_zero]
   have lb : ∀ x ∈ hfB as ls, x.2.length = as.length := fun x hx => by
    obtain ⟨c, hc, rfl⟩ := List.mem_map.mp hx
    rw [List.length_map]; exact (loP_ok as ls c hc).1
   rw [k1, k2]
   rw [etb] at lb ⊢
   exact partsV_plus ll lb
  rw [k, eL]
  dsimp only
  obtain ⟨z, z0, hz⟩ := h.losses (e := 2 * (e - ((as.sum : Int) : Rat) * (1 / 2))) (by grind)
  have e3 := two_half (e - ((as.sum : Int) : Rat) * (1 / 2))
  have k3 : List.zipWith (· + ·) (as.map fun (a : Int) => (a : Rat) * (1 / 2)) (partsV (hfB as ls) (e - ((as.sum : Int) : Rat) * (1 / 2))) = as.map fun (a : Int) => (a : Rat) * (1 / 2) + ((a : Rat) - mn (a : Rat) z) * (1 / 2) := by
   unfold hfB
   rw [partsV_scale half_pos, e3, hz]
   apply List.ext_getElem
   ·simp
   ·intro i h1 h2
    simp only [List.getElem_zipWith, List.getElem_map]
  by_cases c2 : ((as.sum : Int) : Rat) * (1 / 2) < e
  ·exact ⟨z, z0, .inr ⟨c2, k3⟩⟩
  ·have ee : e = ((as.sum : Int) : Rat) * (1 / 2) := Rat.le_antisymm (Rat.not_lt.mp c2) c'
   obtain ⟨t, ht, top⟩ := h.top
   refine ⟨t, ?_, .inl ⟨by rw [ee]; exact Rat.le_refl, ?_⟩⟩
   ·exact Rat.intCast_nonneg.mpr (h.nnL t (List.mem_of_getLast? ht))
   ·rw [ee, Rat.sub_self]
    have : partsV (hfB as ls) 0 = List.replicate as.length 0 := by
     have rB : Rising (hfB as ls) := scaled_rise half_pos h.riseL
     have lb : ∀ x ∈ hfB as ls, x.2.length = as.length := fun x hx => by
      obtain ⟨c, hc, rfl⟩ := List.mem_map.mp hx
      rw [List.length_map]; exact (loP_ok as ls c hc).1
     rw [etb] at rB lb ⊢
     cases tb with
     | nil => rfl
     | cons d r =>
       rw [partsV, if_pos ((List.pairwise_cons.mp rB).1 d (List.mem_cons_self ..))]
       exact betw_start (by rw [lb _ (List.mem_cons_self ..), lb d (List.mem_cons_of_mem _ (List.mem_cons_self ..))])
    rw [this]
    apply List.ext_getElem
    ·simp
    ·intro i h1 h2
     simp only [List.getElem_zipWith, List.getElem_map, List.getElem_replicate]
     have : mn ((as[i]'(by simpa using h2)) : Rat) (t : Rat) = (as[i]'(by simpa using h2) : Rat) := by
      unfold mn
      rw [if_pos (Rat.intCast_le_intCast.mpr (top _ (List.getElem_mem _)))]
     rw [this, Rat.add_zero]
theorem sumQ_scale (p : Rat) : ∀ l : List Rat, sumQ (l.map (· * p)) = sumQ l * p
 | [] => by rw [List.map_nil, sumQ, Rat.zero_mul]
 | x :: l => by rw [List.map_cons, sumQ, sumQ, sumQ_scale p l]; grind
theorem sumQ_zip : ∀ {x y : List Rat}, x.length = y.length → sumQ (List.zipWith (· + ·) x y) = sumQ x + sumQ y
 | [], [], _ => by rw [List.zipWith_nil_left, sumQ]; grind
 | a :: x, b :: y, h => by rw [List.zipWith_cons_cons, sumQ, sumQ, sumQ, sumQ_zip (by simpa using h)]; grind
 | [], _ :: _, h => by simp at h
 | _ :: _, [], h => by simp at h
theorem hfA_ok (as ls : List Int) : ∀ c ∈ hfA as ls, c.2.length = as.length ∧ sumQ c.2 = c.1 := fun c hc => by
 obtain ⟨d, hd, rfl⟩ := List.mem_map.mp hc
 have := evP_ok as ls d hd
 exact ⟨by rw [List.length_map]; exact this.1, by rw [sumQ_scale, this.2]⟩
theorem hfB_ok (as ls : List Int) : ∀ c ∈ hfB as ls, c.2.length = as.length ∧ sumQ c.2 = c.1 := fun c hc => by
 obtain ⟨d, hd, rfl⟩ := List.mem_map.mp hc
 have := loP_ok as ls d hd
 exact ⟨by rw [List.length_map]; exact this.1, by rw [sumQ_scale, this.2]⟩
theorem hv_ok (h : LvOk as ls) : ∀ c ∈ hvP as ls, c.2.length = as.length ∧ sumQ c.2 = c.1 := fun c hc => by
 refine ⟨hf_len as ls c hc (hf_memA h), ?_⟩
 rcases List.mem_append.mp hc with z | z
 ·exact (hfA_ok as ls c z).2
 ·obtain ⟨d, hd, rfl⟩ := List.mem_map.mp z
  have a := hfA_ok as ls _ (hf_memA h)
  have b := hfB_ok as ls d (List.mem_of_mem_tail hd)
  show sumQ (List.zipWith (· + ·) _ _) = _ + _
  rw [sumQ_zip (by rw [a.1, b.1]), a.2, b.2]
theorem hv_last (h : LvOk as ls) : (lastC (hvP as ls)).1 = ((as.sum : Int) : Rat) := by
 obtain ⟨t, et⟩ := hfA_ne h
 obtain ⟨tb, etb⟩ := hfB_ne h
 have eL := hf_lastA h
 have eB : (lastC (hfB as ls)).1 = ((as.sum : Int) : Rat) * (1 / 2) := by
  obtain ⟨r, er⟩ := loP_ne h
  unfold hfB
  rw [scaled_last (by rw [er]; simp), loP_last h]
  rfl
 have k : (lastC (hvP as ls)).1 = (lastC (hfA as ls)).1 + (lastC (hfB as ls)).1 := by
  unfold hvP movedV
  rw [etb, List.tail_cons]
  cases tb with
  | nil =>
    rw [List.map_nil, List.append_nil]
    show _ = _ + (0 : Rat)
    rw [Rat.add_zero]
  | cons d r =>
    have ne : (d :: r).map (plusC (lastC (hfA as ls))) ≠ [] := by simp
    have e1 : lastC (hfA as ls ++ (d :: r).map (plusC (lastC (hfA as ls)))) = plusC (lastC (hfA as ls)) (lastC ((0, List.replicate as.length 0) :: d :: r)) := by
     rw [lastC_cons]
     have e2 : (hfA as ls ++ (d :: r).map (plusC (lastC (hfA as ls)))).getLast? = some (plusC (lastC (hfA as ls)) (lastC (d :: r))) := by
      rw [List.getLast?_append, List.getLast?_map]
      unfold lastC
      rw [List.getLast?_eq_some_getLast (show d :: r ≠ [] by simp)]
      rfl
     have e3 : lastC (hfA as ls ++ (d :: r).map (plusC (lastC (hfA as ls)))) = ((hfA as ls ++ (d :: r).map (plusC (lastC (hfA as ls)))).getLast?).getD (0, []) := rfl
     rw [e3, e2]
     rfl
    rw [e1]
    rfl
 rw [k, eL, eB]
 grind
theorem LvOk.sumH (h : LvOk as ls) {e : Rat} (h0 : 0 ≤ e) : sumQ (partsV (keepAll (hvP as ls)) e) = mn e ((as.sum : Int) : Rat) := by
 rw [hv_keep h h0]
 obtain ⟨t, et⟩ := hfA_ne h
 have eP : hvP as ls = (0, List.replicate as.length 0) :: (t ++ movedV (hfA as ls) (hfB as ls)) := by
  have : ∀ M : List Corner, hfA as ls ++ M = (0, List.replicate as.length 0) :: (t ++ M) := fun M => by rw [et]; rfl
  exact this _
 have := sum_path (P := hvP as ls) (t ++ movedV (hfA as ls) (hfB as ls)) eP (hf_rise h) (hv_ok h) h0
 rw [hv_last h] at this
 exact this
def shP (as : List Int) : List Corner := if as.sum = 0 then [wholeC (zeroV as.length)] else [wholeC (zeroV as.length), wholeC as]
theorem sum_rep0 : ∀ n : Nat, (List.replicate n (0 : Int)).sum = 0
 | 0 => rfl
 | n + 1 => by rw [List.replicate_succ, List.sum_cons, sum_rep0 n]; rfl
theorem sum_nn {as : List Int} (h : ∀ a ∈ as, 0 ≤ a) : 0 ≤ as.sum := by
 have := sum_map_le (f := fun _ => 0) (g := id) (as := as) fun a ha => h a ha
 rw [List.map_id, List.map_const', sum_rep0] at this
 simpa using this
theorem sum_zero {as : List Int} (h : ∀ a ∈ as, 0 ≤ a) (z : as.sum = 0) : ∀ a ∈ as, a = 0 := fun a ha => by
 rcases Int.lt_or_eq_of_le (h a ha) with lt | e
 ·have := sum_map_lt (f := fun _ => 0) (g := id) (as := as) (fun a ha => h a ha) ha lt
  rw [List.map_id, List.map_const', sum_rep0, z] at this
  simp at this
 ·exact e.symm
theorem sh_parts {as : List Int} (nn : ∀ a ∈ as, 0 ≤ a) {e : Rat} (h0 : 0 ≤ e) : ∃ z : Rat, (0 ≤ z ∧ z ≤ 1) ∧ partsV (shP as) e = (as.map fun (a : Int) => (a : Rat) * z) ∧ sumQ (partsV (shP as) e) = mn e ((as.sum : Int) : Rat) := by
 have s0 := sum_nn nn
 unfold shP
 by_cases c : as.sum = 0
 ·have az := sum_zero nn c
  rw [if_pos c, c]
  have k : partsV [wholeC (zeroV as.length)] e = as.map fun (a : Int) => (a : Rat) * 0 := by
   rw [wholeZ]
   show List.replicate as.length (0 : Rat) = _
   rw [← List.map_const']
   exact List.map_congr_left fun a ha => by rw [Rat.mul_zero]
  refine ⟨0, ⟨Rat.le_refl, by decide +kernel⟩, k, ?_⟩
  rw [wholeZ]
  show sumQ (List.replicate as.length 0) = _
  rw [sumQ_zeros]
  unfold mn
  split
  ·exact Rat.le_antisymm h0 (by assumption)
  ·rfl
 ·rw [if_neg c]
  have sp : (0 : Rat) < ((as.sum : Int) : Rat) := by exact_mod_cast Rat.intCast_lt_intCast.mpr (show 0 < as.sum by omega)
  have rise : Rising [wholeC (zeroV as.length), wholeC as] := by
   refine List.pairwise_cons.mpr ⟨fun d hd => ?_, List.pairwise_singleton _ _⟩
   rw [List.mem_singleton.mp hd, wholeZ]
   exact sp
  have ok : ∀ x ∈ [wholeC (zeroV as.length), wholeC as], x.2.length = as.length ∧ sumQ x.2 = x.1 := fun x hx => by
   rcases List.mem_cons.mp hx with rfl | hx
   ·have := whole_ok (zeroV as.length); rwa [zeroV_len] at this
   ·rw [List.mem_singleton.mp hx]; exact whole_ok as
  have sm := sum_path (P := [wholeC (zeroV as.length), wholeC as]) [wholeC as] (by rw [wholeZ]) rise ok h0
  have eT : (lastC [wholeC (zeroV as.length), wholeC as]).1 = ((as.sum : Int) : Rat) := rfl
  rw [eT] at sm
  by_cases c2 : e < ((as.sum : Int) : Rat)
  ·have hi := Rat.mul_inv_cancel _ (show ((as.sum : Int) : Rat) ≠ 0 from fun z => by rw [z] at sp; exact Rat.lt_irrefl sp)
   have ip : 0 < (((as.sum : Int) : Rat))⁻¹ := Rat.inv_pos.mpr sp
   refine ⟨e * (((as.sum : Int) : Rat))⁻¹, ⟨Rat.mul_nonneg h0 (Rat.le_of_lt ip), ?_⟩, ?_, sm⟩
   ·have := Rat.mul_nonneg (show 0 ≤ ((as.sum : Int) : Rat) - e by grind) (Rat.le_of_lt ip)
    generalize (((as.sum : Int) : Rat))⁻¹ = j at *
    grind
   ·rw [partsV, if_pos (show e < (wholeC as).1 from c2), wholeZ]
    unfold betw
    have et : (e - (0 : Rat)) / ((wholeC as).1 - (0 : Rat)) = e * (((as.sum : Int) : Rat))⁻¹ := by
     show (e - 0) / (((as.sum : Int) : Rat) - 0) = _
     rw [show e - 0 = e by grind, show ((as.sum : Int) : Rat) - 0 = ((as.sum : Int) : Rat) by grind, Rat.div_def]
    dsimp only
    rw [et]
    unfold wholeC
    apply List.ext_getElem
    ·simp
    ·intro i h1 h2
     simp only [List.getElem_zipWith, List.getElem_map, List.getElem_replicate]
     unfold mixR
     grind
  ·refine ⟨1, ⟨by decide +kernel, Rat.le_refl⟩, ?_, sm⟩
   rw [partsV_skip (show (wholeC as).1 ≤ e from Rat.not_lt.mp c2)]
   show (as.map fun (x : Int) => (x : Rat)) = _
   exact List.map_congr_left fun a _ => by rw [Rat.mul_one]
end
end S
namespace S
open PySem PySem.Spec PyProof.Rows L2
def InB (am tk : List Int) : Prop := tk.length = am.length ∧ ∀ (i : Nat) (a p : Int), am[i]? = some a → tk[i]? = some p → 0 ≤ p ∧ p ≤ a
def EvenOk (am tk : List Int) : Prop := tk.length = am.length ∧ ∀ (i : Nat) (a p : Int), am[i]? = some a → tk[i]? = some p → 0 ≤ p ∧ p ≤ a ∧ (p < a → ∀ q ∈ tk, q ≤ p)
def lessV (am tk : List Int) : List Int := List.zipWith (· - ·) am tk
def dblV (tk : List Int) : List Int := tk.map (2 * ·)
def Fits : Nat → List Int → List Int → Prop
 | 0, am, tk => tk.map (· * am.sum) = am.map (· * tk.sum)
 | 1, am, tk => EvenOk am tk
 | 2, am, tk => EvenOk am (lessV am tk)
 | _, am, tk => if (dblV tk).sum ≤ am.sum then EvenOk am (dblV tk) else InB am (lessV (dblV tk) am) ∧ EvenOk am (lessV am (lessV (dblV tk) am))
def TkOf (f : Rat → Rat) (B : Int) (as tk : List Int) : Prop := tk.length = as.length ∧ ∀ (i : Nat) (a p : Int), as[i]? = some a → tk[i]? = some p → (p : Rat) = f (a : Rat) * (B : Rat)
def mulV (B : Int) (as : List Int) : List Int := as.map (B * ·)
section
variable {as tk : List Int} {B : Int} {f : Rat → Rat} {z : Rat}
theorem mulV_at {i : Nat} {a : Int} (h : (mulV B as)[i]? = some a) : ∃ b, as[i]? = some b ∧ a = B * b := by
 unfold mulV at h
 rw [List.getElem?_map] at h
 cases e : as[i]? with
 | none => rw [e] at h; cases h
 | some b => rw [e] at h; exact ⟨b, rfl, (Option.some.inj h).symm⟩
theorem cast_le {a b : Int} (h : (a : Rat) ≤ (b : Rat)) : a ≤ b := Rat.intCast_le_intCast.mp h
theorem cast_lt {a b : Int} (h : a < b) : (a : Rat) < (b : Rat) := Rat.intCast_lt_intCast.mpr h
theorem cast_nn {a : Int} (h : 0 ≤ a) : (0 : Rat) ≤ (a : Rat) := by have := Rat.intCast_le_intCast.mpr h; exact this
theorem cast_pos {a : Int} (h : 0 < a) : (0 : Rat) < (a : Rat) := by have := Rat.intCast_lt_intCast.mpr h; exact this
theorem mul_mono {x y b : Rat} (h : x ≤ y) (hb : 0 ≤ b) : x * b ≤ y * b := by
 have := Rat.mul_nonneg (show 0 ≤ y - x by grind) hb
 grind
theorem TkOf.inB (hB : 0 < B) (h : TkOf f B as tk) (hf : ∀ a ∈ as, 0 ≤ f (a : Rat) ∧ f (a : Rat) ≤ (a : Rat)) : InB (mulV B as) tk := by
 refine ⟨by rw [h.1]; unfold mulV; rw [List.length_map], fun i a p ha hp => ?_⟩
 obtain ⟨b, hb, rfl⟩ := mulV_at ha
 have e := h.2 i b p hb hp
 have m := hf b (List.mem_of_getElem? hb)
 have b0 := Rat.le_of_lt (cast_pos hB)
 refine ⟨cast_le ?_, cast_le ?_⟩
 ·rw [e]; exact Rat.mul_nonneg m.1 b0
 ·rw [e, Rat.intCast_mul, Rat.mul_comm (B : Rat)]; exact mul_mono m.2 b0
theorem TkOf.even (hB : 0 < B) (nn : ∀ a ∈ as, 0 ≤ a) (z0 : 0 ≤ z) (h : TkOf (mn · z) B as tk) : EvenOk (mulV B as) tk := by
 have hf : ∀ a ∈ as, 0 ≤ mn (a : Rat) z ∧ mn (a : Rat) z ≤ (a : Rat) := fun a ha => by
  have a0 := cast_nn (nn a ha)
  unfold mn
  split <;> grind
 have ib := h.inB hB hf
 refine ⟨ib.1, fun i a p ha hp => ⟨(ib.2 i a p ha hp).1, (ib.2 i a p ha hp).2, fun lt q hq => ?_⟩⟩
 obtain ⟨b, hb, rfl⟩ := mulV_at ha
 have e := h.2 i b p hb hp
 obtain ⟨j, hj, ej⟩ := List.getElem_of_mem hq
 have hj' : j < as.length := by rw [← h.1]; exact hj
 have e2 := h.2 j _ q (List.getElem?_eq_getElem hj') (by rw [List.getElem?_eq_getElem hj, ej])
 have b0 := cast_pos hB
 dsimp only at e e2
 have l1 := cast_lt lt
 rw [e, Rat.intCast_mul] at l1
 apply cast_le
 rw [e, e2]
 refine mul_mono ?_ (Rat.le_of_lt b0)
 have k : mn (b : Rat) z = z := by
  unfold mn at l1 ⊢
  split
  ·rename_i c
   rw [if_pos c, Rat.mul_comm] at l1
   exact absurd l1 Rat.lt_irrefl
  ·rfl
 rw [k]
 unfold mn
 split <;> grind
theorem lessV_at {am tk : List Int} {i : Nat} {p : Int} (h : (lessV am tk)[i]? = some p) : ∃ a q, am[i]? = some a ∧ tk[i]? = some q ∧ p = a - q := by
 unfold lessV at h
 rw [List.getElem?_zipWith] at h
 cases e : am[i]? with
 | none => rw [e] at h; cases h
 | some a =>
   cases e2 : tk[i]? with
   | none => rw [e, e2] at h; cases h
   | some q => rw [e, e2] at h; exact ⟨a, q, rfl, rfl, (Option.some.inj h).symm⟩
theorem lessV_len {am tk : List Int} (h : tk.length = am.length) : (lessV am tk).length = am.length := by
 unfold lessV; rw [List.length_zipWith, h, Nat.min_self]
theorem TkOf.less (h : TkOf f B as tk) : TkOf (fun a => a - f a) B as (lessV (mulV B as) tk) := by
 have l : (mulV B as).length = as.length := List.length_map _
 refine ⟨by rw [lessV_len (by rw [l]; exact h.1), l], fun i a p ha hp => ?_⟩
 obtain ⟨x, q, hx, hq, rfl⟩ := lessV_at hp
 obtain ⟨b, hb, rfl⟩ := mulV_at hx
 rw [ha] at hb
 cases hb
 rw [Rat.intCast_sub, h.2 i a q ha hq, Rat.intCast_mul]
 grind
theorem TkOf.dbl (h : TkOf f B as tk) : TkOf (fun a => 2 * f a) B as (dblV tk) := by
 refine ⟨by unfold dblV; rw [List.length_map]; exact h.1, fun i a p ha hp => ?_⟩
 unfold dblV at hp
 rw [List.getElem?_map] at hp
 cases e : tk[i]? with
 | none => rw [e] at hp; cases hp
 | some q =>
   rw [e] at hp
   cases hp
   rw [Rat.intCast_mul, h.2 i a q ha e, Rat.mul_assoc]
   rfl
theorem TkOf.lessR (h : TkOf f B as tk) : TkOf (fun a => f a - a) B as (lessV tk (mulV B as)) := by
 have l : (mulV B as).length = as.length := List.length_map _
 refine ⟨by rw [lessV_len (by rw [l]; exact h.1.symm), h.1], fun i a p ha hp => ?_⟩
 obtain ⟨q, x, hq, hx, rfl⟩ := lessV_at hp
 obtain ⟨b, hb, rfl⟩ := mulV_at hx
 rw [ha] at hb
 cases hb
 rw [Rat.intCast_sub, h.2 i a q ha hq, Rat.intCast_mul]
 grind
theorem TkOf.congr {g : Rat → Rat} (h : TkOf f B as tk) (e : ∀ a ∈ as, f (a : Rat) = g (a : Rat)) : TkOf g B as tk :=
 ⟨h.1, fun i a p ha hp => by rw [h.2 i a p ha hp, e a (List.mem_of_getElem? ha)]⟩
theorem mn_two (a z : Rat) : 2 * (mn a z * (1 / 2)) = mn a z := by grind
theorem mn_nn {a z : Rat} (a0 : 0 ≤ a) (z0 : 0 ≤ z) : 0 ≤ mn a z ∧ mn a z ≤ a := by
 unfold mn
 split <;> grind
theorem TkOf.sum : ∀ {as tk : List Int}, TkOf f B as tk → ((tk.sum : Int) : Rat) = sumQ (as.map fun (a : Int) => f (a : Rat)) * (B : Rat)
 | [], [], _ => by rw [List.map_nil, sumQ, Rat.zero_mul]; rfl
 | [], _ :: _, h => by have := h.1; simp at this
 | _ :: _, [], h => by have := h.1; simp at this
 | a :: as, p :: tk, h => by
   have h' : TkOf f B as tk := ⟨by simpa using h.1, fun i x y hx hy => h.2 (i + 1) x y (by rw [List.getElem?_cons_succ]; exact hx) (by rw [List.getElem?_cons_succ]; exact hy)⟩
   rw [List.sum_cons, Rat.intCast_add, h'.sum, List.map_cons, sumQ, h.2 0 a p rfl rfl]
   grind
theorem mulV_sum : ∀ as : List Int, (mulV B as).sum = B * as.sum
 | [] => by show 0 = B * 0; rw [Int.mul_zero]
 | a :: as => by
   show (B * a :: mulV B as).sum = _
   rw [List.sum_cons, List.sum_cons, mulV_sum as, Int.mul_add]
theorem dblV_sum : ∀ tk : List Int, (dblV tk).sum = 2 * tk.sum
 | [] => rfl
 | a :: tk => by
   show (2 * a :: dblV tk).sum = _
   rw [List.sum_cons, List.sum_cons, dblV_sum tk]; omega
theorem TkOf.shares (h : TkOf (· * z) B as tk) : Fits 0 (mulV B as) tk := by
 have s := h.sum
 have s2 : sumQ (as.map fun (a : Int) => (a : Rat) * z) = ((as.sum : Int) : Rat) * z := by
  rw [← sumQ_cast, ← sumQ_scale, List.map_map]; rfl
 rw [s2] at s
 show tk.map (· * (mulV B as).sum) = (mulV B as).map (· * tk.sum)
 apply List.ext_getElem?
 intro i
 unfold mulV
 rw [List.getElem?_map, List.getElem?_map, List.getElem?_map]
 rcases Nat.lt_or_ge i as.length with c | c
 ·have c2 : i < tk.length := by rw [h.1]; exact c
  rw [List.getElem?_eq_getElem c, List.getElem?_eq_getElem c2]
  have e := h.2 i _ _ (List.getElem?_eq_getElem c) (List.getElem?_eq_getElem c2)
  generalize as[i] = a at *
  generalize tk[i] = p at *
  show some (p * (mulV B as).sum) = some (B * a * tk.sum)
  congr 1
  rw [mulV_sum]
  apply Rat.intCast_inj.mp
  rw [Rat.intCast_mul, Rat.intCast_mul, Rat.intCast_mul, Rat.intCast_mul, e, s]
  grind
 ·rw [List.getElem?_eq_none c, List.getElem?_eq_none (by rw [h.1]; exact c)]
  rfl
theorem tk_of {v : List Rat} (hv : v = as.map fun (a : Int) => f (a : Rat)) (l : tk.length = v.length) (h : ∀ (i : Nat) (q : Rat) (p : Int), v[i]? = some q → tk[i]? = some p → (p : Rat) = q * (B : Rat)) : TkOf f B as tk := by
 refine ⟨by rw [l, hv, List.length_map], fun i a p ha hp => ?_⟩
 exact h i _ p (by rw [hv, List.getElem?_map, ha]; rfl) hp
noncomputable def flatP (as ls : List Int) : Nat → List Corner
 | 0 => shP as
 | 1 => evP as ls
 | 2 => loP as ls
 | _ => keepAll (hvP as ls)
theorem mn_scale {e t b : Rat} (hb : 0 < b) : mn e t * b = mn (e * b) (t * b) := by
 unfold mn
 by_cases c : e ≤ t
 ·rw [if_pos c, if_pos (mul_mono c (Rat.le_of_lt hb))]
 ·rw [if_neg c, if_neg]
  intro h
  have lt := Rat.not_le.mp c
  have := Rat.mul_pos (show 0 < e - t by grind) hb
  grind
theorem flat_fits {ls : List Int} (h : LvOk as ls) (hB : 0 < B) {e : Rat} (h0 : 0 ≤ e) : ∀ {k : Nat}, k < 4 → tk.length = (partsV (flatP as ls k) e).length →
 (∀ (i : Nat) (q : Rat) (p : Int), (partsV (flatP as ls k) e)[i]? = some q → tk[i]? = some p → (p : Rat) = q * (B : Rat)) →
 (InB (mulV B as) tk ∧ Fits k (mulV B as) tk) ∧ ((tk.sum : Int) : Rat) = mn (e * (B : Rat)) (((as.sum : Int) : Rat) * (B : Rat)) := by
 have b0 := cast_pos hB
 have nn := h.nn
 intro k hk l ht
 rw [← mn_scale b0]
 match k, hk, l, ht with
 | 0, _, l, ht =>
   obtain ⟨z, ⟨z0, z1⟩, hv, hs⟩ := sh_parts nn h0
   have T : TkOf (· * z) B as tk := tk_of hv l ht
   refine ⟨⟨T.inB hB fun a ha => ?_, T.shares⟩, ?_⟩
   ·have a0 := cast_nn (nn a ha)
    refine ⟨Rat.mul_nonneg a0 z0, ?_⟩
    have := Rat.mul_nonneg a0 (show 0 ≤ 1 - z by grind)
    grind
   ·rw [T.sum, ← hs, hv]
 | 1, _, l, ht =>
   obtain ⟨z, z0, hv⟩ := h.evenly h0
   have T : TkOf (mn · z) B as tk := tk_of hv l ht
   refine ⟨⟨T.inB hB fun a ha => mn_nn (cast_nn (nn a ha)) z0, T.even hB nn z0⟩, ?_⟩
   rw [T.sum, ← h.sumE h0, hv]
 | 2, _, l, ht =>
   obtain ⟨z, z0, hv⟩ := h.losses h0
   have T : TkOf (fun a => a - mn a z) B as tk := tk_of hv l ht
   refine ⟨⟨T.inB hB fun a ha => ?_, ?_⟩, ?_⟩
   ·have := mn_nn (cast_nn (nn a ha)) z0
    grind
   ·exact (T.less.congr (g := (mn · z)) fun a _ => by grind).even hB nn z0
   ·rw [T.sum, ← h.sumL h0, hv]
 | 3, _, l, ht =>
   obtain ⟨z, z0, c⟩ := h.halves h0
   have hs := h.sumH h0
   have hl : ((dblV tk).sum ≤ (mulV B as).sum) ↔ sumQ (partsV (keepAll (hvP as ls)) e) ≤ ((as.sum : Int) : Rat) * (1 / 2) := by
    have T0 : ((tk.sum : Int) : Rat) = sumQ (partsV (keepAll (hvP as ls)) e) * (B : Rat) := by
     rcases c with ⟨_, hv⟩ | ⟨_, hv⟩
     ·have T : TkOf (fun a => mn a z * (1 / 2)) B as tk := tk_of hv l ht
      rw [T.sum, hv]
     ·have T : TkOf (fun a => a * (1 / 2) + (a - mn a z) * (1 / 2)) B as tk := tk_of hv l ht
      rw [T.sum, hv]
    rw [dblV_sum, mulV_sum, ← Rat.intCast_le_intCast, Rat.intCast_mul, Rat.intCast_mul, T0]
    generalize sumQ (partsV (keepAll (hvP as ls)) e) = s
    generalize ((as.sum : Int) : Rat) = t
    have e2 : (((2 : Int)) : Rat) = 2 := rfl
    rw [e2]
    constructor
    ·intro h1
     by_cases c2 : s ≤ t * (1 / 2)
     ·exact c2
     ·have := Rat.mul_pos (show 0 < s - t * (1 / 2) by grind) b0
      grind
    ·intro h1
     have := mul_mono h1 (Rat.le_of_lt b0)
     grind
   rcases c with ⟨le, hv⟩ | ⟨lt, hv⟩
   ·have T : TkOf (fun a => mn a z * (1 / 2)) B as tk := tk_of hv l ht
    have Z : (dblV tk).sum ≤ (mulV B as).sum := hl.mpr (by
     rw [hs]; unfold mn
     split
     ·exact le
     ·have := cast_nn (sum_nn nn); grind)
    refine ⟨⟨T.inB hB fun a ha => ?_, ?_⟩, ?_⟩
    ·have := mn_nn (cast_nn (nn a ha)) z0
     have := cast_nn (nn a ha)
     grind
    ·show if _ then _ else _
     rw [if_pos Z]
     exact (T.dbl.congr (g := (mn · z)) fun a _ => mn_two _ _).even hB nn z0
    ·rw [T.sum, ← hs, hv]
   ·have T : TkOf (fun a => a * (1 / 2) + (a - mn a z) * (1 / 2)) B as tk := tk_of hv l ht
    have T2 : TkOf (fun a => a - mn a z) B as (lessV (dblV tk) (mulV B as)) := T.dbl.lessR.congr fun a _ => by grind
    refine ⟨⟨T.inB hB fun a ha => ?_, ?_⟩, ?_⟩
    ·have := mn_nn (cast_nn (nn a ha)) z0
     have := cast_nn (nn a ha)
     grind
    ·show if _ then _ else _
     by_cases Z : (dblV tk).sum ≤ (mulV B as).sum
     ·rw [if_pos Z]
      have Z2 := hl.mp Z
      rw [hs] at Z2
      have t0 := cast_nn (sum_nn nn)
      have s0 : ((as.sum : Int) : Rat) = 0 := by
       unfold mn at Z2
       split at Z2 <;> grind
      have az := sum_zero nn (Rat.intCast_inj.mp s0)
      exact (T.dbl.congr (g := (mn · z)) fun a ha => by
       rw [az a ha]
       have : mn ((0 : Int) : Rat) z = 0 := by
        have := mn_nn (a := ((0 : Int) : Rat)) (z := z) (by decide +kernel) z0
        have e0 : ((0 : Int) : Rat) = 0 := rfl
        grind
       have e0 : ((0 : Int) : Rat) = 0 := rfl
       rw [this, e0]; grind).even hB nn z0
     ·rw [if_neg Z]
      refine ⟨T2.inB hB fun a ha => ?_, (T2.less.congr (g := (mn · z)) fun a _ => by grind).even hB nn z0⟩
      have := mn_nn (cast_nn (nn a ha)) z0
      grind
    ·rw [T.sum, ← hs, hv]
end
end S
namespace S
open PySem PySem.Spec PyProof.Rows L2
structure Bl3 (mg : Str → Option Value) : Prop where
 sorted : mg "sorted" = none
 set : mg "set" = none
section
variable {X : Cx} {e o : Expr} {es : List Expr} {ta : TE} {t : TA}
def tMethB (K : PySem.W.Frag) (m : Str) (f : Addr) (sp : Sp) (E : XK) (ta : TE) (t : TA) : TE := fun σ H Q => ta σ H fun x H1 => ∃ a C dx fs, x = .ref a ∧ H1 a = some (.ins C dx fs) ∧ Cls K C ∧ Meth K C m f ∧ fs.lookup m = none ∧ t σ H1 fun vs H2 => sp (x :: vs) H2 Q E
theorem pe_methB {CX : CXT} {k : Nat} {f : Addr} {fd : FuncData} {ps : List Str} {sp : Sp} {E : XK} {m : Str} {apos pos : Pos} {pl : Sem Bool} (he : PE X o ta) (F : FnOk X.prog X.w X.K X.mg X.base CX k f fd ps sp) (hr : Room k X.A) (hb : Binds X.K fd ps []) (hx : Passes CX X E) (ha : PA X (e :: es) t)
 (hst : starEach (e :: es) X.env = (false, eval e X.env) :: starEach es X.env := by rfl) (hpl : (backTo pos (starEach es X.env)).any (·.1) = false := by rfl)
 (ht : eval (.Call (.Attribute o m apos) (e :: es) [] pos) X.env = (do
  let ov ← eval o X.env
  standAt apos.atName
  let (f, first) ← holding [ov] (getMethod ov m pl)
  callWith pos f first (backTo pos (starEach (e :: es) X.env)) (backToKw pos (keywordEach [] X.env))) := by rfl) :
 PE X (.Call (.Attribute o m apos) (e :: es) [] pos) (tMethB X.K m f sp E ta t) := by
 intro pins s σ H Q I h
 refine PySem.W.methodCall_KW (pl := pl) (thn (he pins s σ H _ I h) fun u s1 ⟨x, H1, I1, rx, a, C, dx, fs, ex, ea, c, hm, l, q⟩ => ?_) ht
 subst ex
 obtain rfl : u = Value.ref a := rx
 refine getmeth_ok I1 ea c hm l ?_
 refine PySem.W.callWith_K (first := [.ref a]) (h₀ := X.base) I.ok.mod.kin hm.kp (thn (ha pos pins s1 σ H1 _ I1 q) fun us s2 ⟨vs, H2, I2, r, q2⟩ => ⟨I2.kIn, ?_⟩) hst hpl
 exact run_fn (us := .ref a :: us) (vs := .ref a :: vs) F hr hb .nil hx I2 (.cons rfl r) (by rw [List.append_nil]; exact q2)
end
section
variable {B G0 H : Hp} {cs : Cells} {ds : Dat} {Q : VK} {E : XK} {v w u : V} {K : PySem.W.Frag} {C L : Addr} {x : PyData} {σ : L2.St}
def kMB (K : PySem.W.Frag) (m : Str) (f : Addr) (sp : Sp) (E : XK) (t : TA) (σ : L2.St) (Q : VK) : VK := fun x H1 => ∃ a C dx fs, x = .ref a ∧ H1 a = some (.ins C dx fs) ∧ Cls K C ∧ Meth K C m f ∧ fs.lookup m = none ∧ t σ H1 fun vs H2 => sp (x :: vs) H2 Q E
theorem rd_methB {m : Str} {f : Addr} {sp : Sp} {ta : TE} {t : TA} (h : ta σ H (kMB K m f sp E t σ Q)) : tMethB K m f sp E ta t σ H Q := h
theorem rd_kMB {m : Str} {f : Addr} {sp : Sp} {t : TA} (S : Sta B G0 H cs ds) (h : Has ds (insD C x) v) (cl : Cls K C) (me : Meth K C m f) (hm : (m == ("form" : Str)) = false) (k : t σ H fun vs H2 => sp (v :: vs) H2 Q E) : kMB K m f sp E t σ Q v H := by
 obtain ⟨p, dx, w, rfl, hp, S'⟩ := S.ins h
 exact ⟨p, C, dx, _, rfl, hp, cl, me, by rw [List.lookup_cons, hm]; rfl, k⟩
def kSortS (K : PySem.W.Frag) (Q : VK) : VK := fun x H1 => rSortS K x H1 Q
theorem rd_sortS {te : TE} (h : te σ H (kSortS K Q)) : tSortS K te σ H Q := h
theorem rd_kSortS {ns : List Int} (S : Sta B G0 H cs ds) (h : (L, ns.map PyData.int) ∈ cs) (few : ns.length < 60) (k : ∀ (os : List Int) (l : Addr) (H' : Hp), os.Pairwise (· < ·) → (∀ z, z ∈ os ↔ z ∈ ns) → Same H H' → Sta B G0 H' ((l, os.map PyData.int) :: cs) ds → Q (.ref l) H') : kSortS K Q (.ref L) H := by
 obtain ⟨vs, hp, u⟩ := S.vwC h
 obtain ⟨G, S'⟩ := id S
 rw [isAll_ints (u G S')] at hp
 exact ⟨L, ns, rfl, SqL.of hp, few, fun os l h1 h2 hl => k os l _ h1 h2 (Same.new hl _) (S.newL hl fun G _ => isAll_of_ints os)⟩
theorem rd_minT {ns : List Int} (S : Sta B G0 H cs ds) (h : Has ds (.tuple (ns.map PyData.int)) v) (hn : 0 < ns.length) (k : ∀ m, m ∈ ns → (∀ x ∈ ns, m ≤ x) → Q (.int m) H) : rMinT K [v] H Q := by
 obtain ⟨p, vs, rfl, hp, hl, S', al⟩ := S.tupAll h
 obtain ⟨G, S2⟩ := id S'
 rw [isAll_ints (al G S2.2.2.2.2.2.2)] at hp
 exact ⟨p, ns, rfl, SqT.of hp, hn, k⟩
theorem rd_maxC {ns : List Int} (S : Sta B G0 H cs ds) (h : (L, ns.map PyData.int) ∈ cs) (hn : 0 < ns.length) (k : ∀ m, m ∈ ns → (∀ x ∈ ns, x ≤ m) → Q (.int m) H) : rMaxL K [.ref L] H Q := by
 obtain ⟨vs, hp, u⟩ := S.vwC h
 obtain ⟨G, S'⟩ := id S
 rw [isAll_ints (u G S')] at hp
 exact ⟨L, ns, rfl, SqL.of hp, hn, k⟩
theorem rep_one {α : Type} (a : α) : ∀ n : Nat, (List.replicate n [a]).flatten = List.replicate n a
 | 0 => rfl
 | n + 1 => by rw [List.replicate_succ, List.flatten_cons, rep_one a n]; rfl
theorem rd_rep1 {i : Int} {n : Nat} (S : Sta B G0 H cs ds) (h : (L, [PyData.int i]) ∈ cs) (hn : n ≤ 1000) (k : ∀ l H', Same H H' → Sta B G0 H' ((l, (List.replicate n i).map PyData.int) :: cs) ds → Q (.ref l) H') : rRep (.ref L) (.int (n : Int)) H Q := by
 obtain ⟨vs, hp, u⟩ := S.vwC h
 obtain ⟨G, S'⟩ := id S
 have e := isAll_ints (ns := [i]) (u G S')
 subst e
 refine ⟨L, (n : Int), _, rfl, rfl, hp, by omega, by omega, ?_, fun p hp' => ?_⟩
 ·show 1 * n ≤ sizeLine
  have : 1000 ≤ sizeLine := by decide
  omega
 ·rw [Int.toNat_natCast]
  show Q (.ref p) (upd H p (.lst (List.replicate n [V.int i]).flatten))
  rw [rep_one]
  refine k p _ (Same.new hp' _) ?_
  have := S.newL (vs := (List.replicate n i).map V.int) hp' fun G _ => isAll_of_ints (List.replicate n i)
  rw [List.map_replicate] at this
  rw [List.map_replicate] at this ⊢
  exact this
end
abbrev Cl := Int × Int × Int
def claimD (c : Cl) : PyData := .tuple [.int c.1, .int c.2.1, .int c.2.2]
def claimsD (l : List Cl) : PyData := .list (l.map claimD)
def amV (l : List Cl) : List Int := l.map fun c => c.1
structure ClOk (n : Nat) (l : List Cl) : Prop where
 pos : 0 < l.length
 few : l.length ≤ 8
 nn : ∀ c ∈ l, 0 ≤ c.1 ∧ 0 ≤ c.2.1 ∧ 0 ≤ c.2.2
 sz : ∀ c ∈ l, Sz n c.1
theorem amV_len (l : List Cl) : (amV l).length = l.length := List.length_map _
theorem lv_ex : ∀ as : List Int, ∃ ls : List Int, ls.Pairwise (· < ·) ∧ ∀ k, k ∈ ls ↔ k ∈ as
 | [] => ⟨[], List.Pairwise.nil, fun _ => Iff.rfl⟩
 | a :: as => by
   obtain ⟨ls, h1, h2⟩ := lv_ex as
   refine ⟨ls.filter (· < a) ++ a :: ls.filter (a < ·), ?_, fun k => ?_⟩
   ·refine List.pairwise_append.mpr ⟨h1.filter _, List.pairwise_cons.mpr ⟨fun y hy => ?_, h1.filter _⟩, fun x hx y hy => ?_⟩
    ·simpa using (List.mem_filter.mp hy).2
    ·have hxa : x < a := by simpa using (List.mem_filter.mp hx).2
     rcases List.mem_cons.mp hy with rfl | hy
     ·exact hxa
     ·have : a < y := by simpa using (List.mem_filter.mp hy).2
      omega
   ·rw [List.mem_append, List.mem_cons, List.mem_filter, List.mem_filter, List.mem_cons, h2]
    simp only [decide_eq_true_eq]
    constructor
    ·rintro (⟨h, _⟩ | h | ⟨h, _⟩)
     ·exact .inr h
     ·exact .inl h
     ·exact .inr h
    ·rintro (h | h)
     ·exact .inr (.inl h)
     ·rcases Int.lt_trichotomy k a with c | c | c
      ·exact .inl ⟨h, c⟩
      ·exact .inr (.inl c)
      ·exact .inr (.inr ⟨h, c⟩)
theorem sorted_eq : ∀ {x y : List Int}, x.Pairwise (· < ·) → y.Pairwise (· < ·) → (∀ k, k ∈ x ↔ k ∈ y) → x = y
 | [], [], _, _, _ => rfl
 | [], b :: y, _, _, h => absurd ((h b).mpr (List.mem_cons_self ..)) List.not_mem_nil
 | a :: x, [], _, _, h => absurd ((h a).mp (List.mem_cons_self ..)) List.not_mem_nil
 | a :: x, b :: y, h1, h2, h => by
   obtain ⟨a1, a2⟩ := List.pairwise_cons.mp h1
   obtain ⟨b1, b2⟩ := List.pairwise_cons.mp h2
   have e : a = b := by
    rcases List.mem_cons.mp ((h a).mp (List.mem_cons_self ..)) with e | e
    ·exact e
    ·rcases List.mem_cons.mp ((h b).mpr (List.mem_cons_self ..)) with e' | e'
     ·exact e'.symm
     ·have := b1 a e
      have := a1 b e'
      omega
   subst e
   rw [sorted_eq a2 b2 fun k => ?_]
   have hk := h k
   rw [List.mem_cons, List.mem_cons] at hk
   constructor
   ·intro m
    rcases hk.mp (.inr m) with e | e
    ·subst e; exact absurd (a1 k m) (Int.lt_irrefl _)
    ·exact e
   ·intro m
    rcases hk.mpr (.inr m) with e | e
    ·subst e; exact absurd (b1 k m) (Int.lt_irrefl _)
    ·exact e
noncomputable def lvV (as : List Int) : List Int := (lv_ex (0 :: as)).choose
theorem lvV_ok {as : List Int} (nn : ∀ a ∈ as, 0 ≤ a) : LvOk as (lvV as) :=
 ⟨(lv_ex (0 :: as)).choose_spec.1, fun k => by rw [lvV, (lv_ex (0 :: as)).choose_spec.2 k, List.mem_cons], nn⟩
theorem lvV_eq {as os : List Int} (h1 : os.Pairwise (· < ·)) (h2 : ∀ z, z ∈ os ↔ z ∈ 0 :: as) : os = lvV as :=
 sorted_eq h1 (lv_ex (0 :: as)).choose_spec.1 fun k => by rw [h2, lvV, (lv_ex (0 :: as)).choose_spec.2 k]
theorem lv_len : ∀ {ls as : List Int}, ls.Nodup → (∀ k ∈ ls, k ∈ as) → ls.length ≤ as.length
 | [], _, _, _ => Nat.zero_le _
 | a :: ls, as, nd, h => by
   obtain ⟨n1, n2⟩ := List.nodup_cons.mp nd
   have := lv_len (ls := ls) (as := as.erase a) n2 fun k hk => (List.mem_erase_of_ne (fun (e : k = a) => n1 (e ▸ hk))).mpr (h k (List.mem_cons_of_mem _ hk))
   have hl := List.length_erase_of_mem (h a (List.mem_cons_self ..))
   have := List.length_pos_of_mem (h a (List.mem_cons_self ..))
   rw [List.length_cons]; omega
theorem LvOk.few {as ls : List Int} (h : LvOk as ls) : ls.length ≤ as.length + 1 := by
 have := lv_len (ls := ls) (as := 0 :: as) (h.rise.imp fun {a b} (hab : a < b) => by omega) fun k hk => by rw [List.mem_cons]; exact (h.mem k).mp hk
 simpa using this
theorem sz_le {n : Nat} {x y : Int} (h0 : 0 ≤ x) (h : x ≤ y) (z : Sz n y) : Sz n x := by unfold Sz at *; omega
theorem sum_bound {b : Int} (hb : 0 ≤ b) : ∀ {l : List Int}, (∀ x ∈ l, 0 ≤ x ∧ x ≤ b) → 0 ≤ l.sum ∧ l.sum ≤ l.length * b
 | [], _ => by simp
 | x :: l, h => by
   have h1 := h x (List.mem_cons_self ..)
   have h2 := sum_bound hb (l := l) fun y hy => h y (List.mem_cons_of_mem _ hy)
   rw [List.sum_cons, List.length_cons]
   have e : (((l.length + 1 : Nat) : Int)) * b = l.length * b + b := by rw [Int.natCast_add, Int.add_mul]; omega
   omega
def In160 (l : List Int) : Prop := l.length ≤ 8 ∧ ∀ x ∈ l, 0 ≤ x ∧ Sz 160 x
theorem In160.sum {l : List Int} (h : In160 l) : 0 ≤ l.sum ∧ Sz 170 l.sum := by
 have h1 := sum_bound (b := 2 ^ 160) (by decide) (l := l) fun x hx => ⟨(h.2 x hx).1, by
  have := (h.2 x hx).2
  unfold Sz at this
  have := (h.2 x hx).1
  omega⟩
 refine ⟨h1.1, ?_⟩
 have l8 := h.1
 have : (l.length : Int) * 2 ^ 160 ≤ 8 * 2 ^ 160 := Int.mul_le_mul_of_nonneg_right (by omega) (by decide)
 unfold Sz
 have e : (8 : Int) * 2 ^ 160 < 2 ^ 170 := by decide +kernel
 omega
theorem whole_sz {l : List Int} (h : In160 l) : SzC 170 (wholeC l) := by
 refine ⟨⟨h.sum.2, by show Sz 170 1; unfold Sz; decide⟩, fun q hq => ?_⟩
 obtain ⟨x, hx, rfl⟩ := List.mem_map.mp hq
 exact ⟨Sz.mono (h.2 x hx).2 (by decide), by show Sz 170 1; unfold Sz; decide⟩
theorem ClOk.am {l : List Cl} (h : ClOk 160 l) : In160 (amV l) := by
 refine ⟨by rw [amV_len]; exact h.few, fun x hx => ?_⟩
 obtain ⟨c, hc, rfl⟩ := List.mem_map.mp hx
 exact ⟨(h.nn c hc).1, h.sz c hc⟩
theorem In160.min {as : List Int} {l : Int} (h : In160 as) (hl : 0 ≤ l) : In160 (minV as l) ∧ In160 (lackV as l) := by
 refine ⟨⟨by unfold minV; rw [List.length_map]; exact h.1, fun x hx => ?_⟩, ⟨by unfold lackV; rw [List.length_map]; exact h.1, fun x hx => ?_⟩⟩
 ·obtain ⟨a, ha, rfl⟩ := List.mem_map.mp hx
  have := h.2 a ha
  exact ⟨by omega, sz_le (by omega) (by omega) this.2⟩
 ·obtain ⟨a, ha, rfl⟩ := List.mem_map.mp hx
  have := h.2 a ha
  exact ⟨by omega, sz_le (by omega) (by omega) this.2⟩
theorem In160.zero {n : Nat} (h : n ≤ 8) : In160 (zeroV n) := ⟨by rw [zeroV_len]; exact h, fun x hx => by
 have := List.eq_of_mem_replicate hx
 subst this
 exact ⟨Int.le_refl _, by unfold Sz; decide⟩⟩
section
variable {as ls : List Int}
theorem LvOk.szE (h : LvOk as ls) (i : In160 as) : ∀ c ∈ evP as ls, SzC 170 c := fun c hc => by
 obtain ⟨l, hl, rfl⟩ := List.mem_map.mp hc
 exact whole_sz (i.min (h.nnL l hl)).1
theorem LvOk.szL (h : LvOk as ls) (i : In160 as) : ∀ c ∈ loP as ls, SzC 170 c := fun c hc => by
 obtain ⟨l, hl, rfl⟩ := List.mem_map.mp hc
 exact whole_sz (i.min (h.nnL l (List.mem_reverse.mp hl))).2
theorem LvOk.inE (h : LvOk as ls) (i : In160 as) : PathIn (evP as ls) := by
 obtain ⟨r, er⟩ := evP_ne h
 have f := h.few
 have i1 := i.1
 exact ⟨by rw [er]; simp, fun c hc => (h.szE i c hc).mono (by decide), fun c hc => by rw [(evP_ok as ls c hc).1]; omega, by unfold evP; rw [List.length_map]; omega⟩
theorem LvOk.inL (h : LvOk as ls) (i : In160 as) : PathIn (loP as ls) := by
 obtain ⟨r, er⟩ := loP_ne h
 have f := h.few
 have i1 := i.1
 exact ⟨by rw [er]; simp, fun c hc => (h.szL i c hc).mono (by decide), fun c hc => by rw [(loP_ok as ls c hc).1]; omega, by unfold loP; rw [List.length_map, List.length_reverse]; omega⟩
theorem half_sz : SzQ 2 ((1 : Rat) / 2) := by unfold SzQ Sz; decide +kernel
theorem scaled_sz {a : List Corner} (h : ∀ c ∈ a, SzC 170 c) : ∀ c ∈ scaledV (1 / 2) a, SzC 172 c := fun c hc => by
 obtain ⟨d, hd, rfl⟩ := List.mem_map.mp hc
 have := h d hd
 refine ⟨(this.1.mul half_sz).mono (by decide), fun q hq => ?_⟩
 obtain ⟨x, hx, rfl⟩ := List.mem_map.mp hq
 exact ((this.2 x hx).mul half_sz).mono (by decide)
theorem scaled_in {a : List Corner} (ok : PathIn a) (h : ∀ c ∈ a, SzC 170 c) : PathIn (scaledV (1 / 2) a) := by
 refine ⟨fun e => ok.ne (List.map_eq_nil_iff.mp e), fun c hc => (scaled_sz h c hc).mono (by decide), fun c hc => ?_, by unfold scaledV; rw [List.length_map]; exact ok.few⟩
 obtain ⟨d, hd, rfl⟩ := List.mem_map.mp hc
 rw [List.length_map]
 exact ok.len d hd
theorem LvOk.szH (h : LvOk as ls) (i : In160 as) : ∀ c ∈ hvP as ls, SzC 400 c := fun c hc => by
 have sA := scaled_sz (h.szE i)
 have sB := scaled_sz (h.szL i)
 rcases List.mem_append.mp hc with z | z
 ·exact (sA c z).mono (by decide)
 ·obtain ⟨d, hd, rfl⟩ := List.mem_map.mp z
  have x := sA _ (hf_memA h)
  have y := sB d (List.mem_of_mem_tail hd)
  refine ⟨(x.1.add y.1).mono (by decide), fun q hq => ?_⟩
  obtain ⟨j, hj, e⟩ := List.getElem_of_mem hq
  have hj' := hj
  simp only [plusC, List.length_zipWith] at hj'
  have e2 : q = (lastC (hfA as ls)).2[j]'(by omega) + d.2[j]'(by omega) := by
   rw [← e]
   simp only [plusC, List.getElem_zipWith]
  rw [e2]
  exact ((x.2 _ (List.getElem_mem _)).add (y.2 _ (List.getElem_mem _))).mono (by decide)
theorem LvOk.okH (h : LvOk as ls) (i : In160 as) : PathOk as.length (hvP as ls) := by
 have f := h.few
 have i1 := i.1
 refine ⟨fun c hc => (h.szH i c hc).mono (by decide), fun c hc => (hv_ok h c hc).1, by omega, ?_⟩
 unfold hvP hfA hfB movedV scaledV evP loP
 simp only [List.length_append, List.length_map, List.length_tail, List.length_reverse]
 omega
end
end S
namespace S
open PySem PySem.Spec PyProof.Rows L2
theorem keepFrom_sub : ∀ (a : Corner) (r : List Corner), (keepFrom a r).Sublist r
 | a, [] => by rw [keepFrom]; exact List.Sublist.refl _
 | a, [b] => by rw [keepFrom]; exact List.Sublist.refl _
 | a, b :: c :: r => by
   rw [keepFrom]
   split
   ·exact List.Sublist.cons _ (keepFrom_sub b (c :: r))
   ·exact List.Sublist.cons₂ _ (keepFrom_sub b (c :: r))
theorem keepAll_sub : ∀ r : List Corner, (keepAll r).Sublist r
 | [] => List.Sublist.refl _
 | c :: r => List.Sublist.cons₂ _ (keepFrom_sub c r)
theorem PathR.of {n m : Nat} {a : List Corner} {r : List Corner} (e : a = (0, List.replicate m 0) :: r) (sz : ∀ c ∈ a, SzC n c) (len : ∀ c ∈ a, c.2.length = m) (hm : m ≤ 8) (few : a.length ≤ 900) (rise : Rising a) : PathR n a :=
 ⟨by rw [e]; simp, sz, fun c hc => by rw [len c hc]; omega, few, rise, fun c hc => by rw [e] at hc; cases hc; rfl⟩
section
variable {as ls : List Int}
theorem flat_R (h : LvOk as ls) (i : In160 as) : ∀ {k : Nat}, k < 4 → PathR 400 (flatP as ls k) ∧ (∀ c ∈ flatP as ls k, c.2.length = as.length) ∧ (flatP as ls k).length ≤ 100 := by
 have f := h.few
 have i1 := i.1
 intro k hk
 match k, hk with
 | 0, _ =>
   have ok : ∀ x ∈ shP as, (SzC 400 x ∧ x.2.length = as.length) := fun x hx => by
    unfold shP at hx
    split at hx
    ·rw [List.mem_singleton.mp hx]
     exact ⟨(whole_sz (In160.zero i1)).mono (by decide), by rw [wholeZ]; exact List.length_replicate⟩
    ·rcases List.mem_cons.mp hx with rfl | hx
     ·exact ⟨(whole_sz (In160.zero i1)).mono (by decide), by rw [wholeZ]; exact List.length_replicate⟩
     ·rw [List.mem_singleton.mp hx]
      exact ⟨(whole_sz i).mono (by decide), (whole_ok as).1⟩
   have e : ∃ r, shP as = (0, List.replicate as.length 0) :: r := by
    unfold shP
    split
    ·exact ⟨_, by rw [wholeZ]⟩
    ·exact ⟨_, by rw [wholeZ]⟩
   have l : (shP as).length ≤ 2 := by unfold shP; split <;> simp
   have rise : Rising (shP as) := by
    unfold shP
    split
    ·exact List.pairwise_singleton _ _
    ·rename_i c
     have := sum_nn h.nn
     refine List.pairwise_cons.mpr ⟨fun d hd => ?_, List.pairwise_singleton _ _⟩
     rw [List.mem_singleton.mp hd, wholeZ]
     exact cast_pos (show 0 < as.sum by omega)
   obtain ⟨r, er⟩ := e
   exact ⟨PathR.of er (fun c hc => (ok c hc).1) (fun c hc => (ok c hc).2) i1 (by show (shP as).length ≤ 900; omega) rise, fun c hc => (ok c hc).2, by show (shP as).length ≤ 100; omega⟩
 | 1, _ =>
   obtain ⟨r, er⟩ := evP_ne h
   rw [wholeZ] at er
   have l : (evP as ls).length ≤ 100 := by unfold evP; rw [List.length_map]; omega
   exact ⟨PathR.of er (fun c hc => (h.szE i c hc).mono (by decide)) (fun c hc => (evP_ok as ls c hc).1) i1 (by show (evP as ls).length ≤ 900; omega) h.riseE, fun c hc => (evP_ok as ls c hc).1, l⟩
 | 2, _ =>
   obtain ⟨r, er⟩ := loP_ne h
   rw [wholeZ] at er
   have l : (loP as ls).length ≤ 100 := by unfold loP; rw [List.length_map, List.length_reverse]; omega
   exact ⟨PathR.of er (fun c hc => (h.szL i c hc).mono (by decide)) (fun c hc => (loP_ok as ls c hc).1) i1 (by show (loP as ls).length ≤ 900; omega) h.riseL, fun c hc => (loP_ok as ls c hc).1, l⟩
 | 3, _ =>
   have sub := keepAll_sub (hvP as ls)
   obtain ⟨t, et⟩ := hfA_ne h
   have eP : hvP as ls = (0, List.replicate as.length 0) :: (t ++ movedV (hfA as ls) (hfB as ls)) := by
    have : ∀ M : List Corner, hfA as ls ++ M = (0, List.replicate as.length 0) :: (t ++ M) := fun M => by rw [et]; rfl
    exact this _
   have l : (hvP as ls).length ≤ 100 := by
    unfold hvP hfA hfB movedV scaledV evP loP
    simp only [List.length_append, List.length_map, List.length_tail, List.length_reverse]
    omega
   have l2 := sub.length_le
   have ek : keepAll (hvP as ls) = (0, List.replicate as.length 0) :: keepFrom (0, List.replicate as.length 0) (t ++ movedV (hfA as ls) (hfB as ls)) := by rw [eP]; rfl
   have len : ∀ c ∈ keepAll (hvP as ls), c.2.length = as.length := fun c hc => (hv_ok h c (sub.subset hc)).1
   exact ⟨PathR.of ek (fun c hc => h.szH i c (sub.subset hc)) len i1 (by show (keepAll (hvP as ls)).length ≤ 900; omega) (List.Pairwise.sublist sub (hf_rise h)), len, by show (keepAll (hvP as ls)).length ≤ 100; omega⟩
end
theorem iteSY {a b : Str} {X Y : Prop} (hc : a = b) (h : X) : if decide (a = b) = true then X else Y := iteD (fun _ => h) fun n => absurd hc n
theorem iteSN {a b : Str} {X Y : Prop} (hc : ¬ a = b) (h : Y) : if decide (a = b) = true then X else Y := iteD (fun y => absurd y hc) fun _ => h
section
variable {B G0 H : Hp} {cs : Cells} {ds : Dat} {Q : VK} {E : XK} {v w u : V} {K : PySem.W.Frag}
def flatR : Nat → Rl
 | 0 => .shares
 | 1 => .evenly
 | 2 => .losses
 | _ => .halves
def spCheck : Sp := spB (α := List Cl) (fun l => [claimsD l]) (ClOk 160) (fun _ => .non)
theorem rd_check {l : List Cl} (S : Sta B G0 H cs ds) (h : Has ds (claimsD l) v) (ok : ClOk 160 l) (k : ∀ H', Same H H' → Sta B G0 H' cs ds → Q .non H') : spCheck [v] H Q E := rd_spB l (S.hpAll (.cons h .nil)) ok fun H' e => k H' e (S.same e)
def spWC : Sp := spT (α := List Int) (fun l => [.list (l.map PyData.int)]) (fun l => l.length ≤ 8) (fun l => cornD (wholeC l))
theorem rd_wc {l : List Int} (S : Sta B G0 H cs ds) (h : Has ds (.list (l.map PyData.int)) v) (ok : l.length ≤ 8) (k : ∀ w H', Same H H' → Sta B G0 H' cs ((cornD (wholeC l), w) :: ds) → Q w H') : spWC [v] H Q E := rd_spT l S (.cons h .nil) ok k
def spNothing : Sp := spL (α := Nat) (fun n => [.int (n : Int)]) (fun n => n ≤ 8) (fun n => [wholeC (zeroV n)].map cornD)
theorem rd_nothing {n : Nat} (S : Sta B G0 H cs ds) (ok : n ≤ 8) (k : ∀ p H', Same H H' → Sta B G0 H' ((p, [wholeC (zeroV n)].map cornD) :: cs) ds → Q (.ref p) H') : spNothing [.int (n : Int)] H Q E := rd_spL n S (.cons Has.int .nil) ok k
noncomputable def flV (k : Nat) (l : List Cl) : List Corner := flatP (amV l) (lvV (amV l)) k
noncomputable def spFlat (k : Nat) : Sp := spL (α := List Cl) (fun l => [claimsD l]) (ClOk 160) (fun l => (flV k l).map cornD)
theorem rd_flat {n : Nat} {l : List Cl} (S : Sta B G0 H cs ds) (h : Has ds (claimsD l) v) (ok : ClOk 160 l) (k : ∀ p H', Same H H' → Sta B G0 H' ((p, (flV n l).map cornD) :: cs) ds → Q (.ref p) H') : spFlat n [v] H Q E := rd_spL l S (.cons h .nil) ok k
theorem ClOk.lv {l : List Cl} (h : ClOk 160 l) : LvOk (amV l) (lvV (amV l)) := lvV_ok fun a ha => (h.am.2 a ha).1
noncomputable def uptoV (p : Rat) (a b : List Corner) : List Corner := keepAll (scaledV p a ++ movedV (scaledV p a) (scaledV (1 - p) b))
structure UpOk (p : Rat) (a b : List Corner) : Prop where
 sz : SzQ 1000 p
 pa : PathIn a
 pb : PathIn b
 sa : PathIn (scaledV p a)
 sb : PathIn (scaledV (1 - p) b)
 m : ∃ m, PathOk m (scaledV p a ++ movedV (scaledV p a) (scaledV (1 - p) b))
noncomputable def spUpto : Sp := spL (α := Rat × List Corner × List Corner) (fun a => [frD a.1, pathD a.2.1, pathD a.2.2]) (fun a => UpOk a.1 a.2.1 a.2.2) (fun a => (uptoV a.1 a.2.1 a.2.2).map cornD)
theorem rd_upto {p : Rat} {a b : List Corner} (S : Sta B G0 H cs ds) (h1 : Has ds (frD p) u) (h2 : Has ds (pathD a) v) (h3 : Has ds (pathD b) w) (ok : UpOk p a b) (k : ∀ q H', Same H H' → Sta B G0 H' ((q, (uptoV p a b).map cornD) :: cs) ds → Q (.ref q) H') : spUpto [u, v, w] H Q E := rd_spL (p, a, b) S (.cons h1 (.cons h2 (.cons h3 .nil))) ok k
noncomputable def spCourse : Sp := spL (α := Nat × List Cl) (fun a => [(flatR a.1).shape, claimsD a.2]) (fun a => a.1 < 4 ∧ ClOk 160 a.2) (fun a => (flV a.1 a.2).map cornD)
theorem rd_course {n : Nat} {l : List Cl} (S : Sta B G0 H cs ds) (h1 : Has ds (flatR n).shape v) (h : Has ds (claimsD l) w) (hn : n < 4) (ok : ClOk 160 l) (k : ∀ p H', Same H H' → Sta B G0 H' ((p, (flV n l).map cornD) :: cs) ds → Q (.ref p) H') : spCourse [v, w] H Q E := rd_spL (n, l) S (.cons h1 (.cons h .nil)) ⟨hn, ok⟩ k
noncomputable def spPath (A : RAd) : Sp := spL (α := Nat × List Cl) (fun a => [(flatR a.1).ins A, claimsD a.2]) (fun a => a.1 < 4 ∧ ClOk 160 a.2) (fun a => (flV a.1 a.2).map cornD)
theorem rd_path {A : RAd} {n : Nat} {l : List Cl} (S : Sta B G0 H cs ds) (h1 : Has ds ((flatR n).ins A) v) (h : Has ds (claimsD l) w) (hn : n < 4) (ok : ClOk 160 l) (k : ∀ p H', Same H H' → Sta B G0 H' ((p, (flV n l).map cornD) :: cs) ds → Q (.ref p) H') : spPath A [v, w] H Q E := rd_spL (n, l) S (.cons h1 (.cons h .nil)) ⟨hn, ok⟩ k
noncomputable def spParts (A : RAd) : Sp := spT (α := Nat × List Cl × Rat) (fun a => [(flatR a.1).ins A, claimsD a.2.1, frD a.2.2]) (fun a => (a.1 < 4 ∧ ClOk 160 a.2.1) ∧ SzQ 300 a.2.2 ∧ 0 ≤ a.2.2) (fun a => partsD (partsV (flV a.1 a.2.1) a.2.2))
theorem rd_parts {A : RAd} {n : Nat} {l : List Cl} {e : Rat} (S : Sta B G0 H cs ds) (h1 : Has ds ((flatR n).ins A) v) (h : Has ds (claimsD l) w) (h3 : Has ds (frD e) u) (hn : n < 4) (ok : ClOk 160 l) (ze : SzQ 300 e) (e0 : 0 ≤ e) (k : ∀ r H', Same H H' → Sta B G0 H' cs ((partsD (partsV (flV n l) e), r) :: ds) → Q r H') : spParts A [v, w, u] H Q E := rd_spT (n, l, e) S (.cons h1 (.cons h (.cons h3 .nil))) ⟨⟨hn, ok⟩, ze, e0⟩ k
theorem up_ok {l : List Cl} (h : ClOk 160 l) : UpOk (1 / 2) (flV 1 l) (flV 2 l) := by
 have L := h.lv
 have e : (1 : Rat) - 1 / 2 = 1 / 2 := by decide +kernel
 refine ⟨half_sz.mono (by decide), L.inE h.am, L.inL h.am, scaled_in (L.inE h.am) (L.szE h.am), ?_, (amV l).length, ?_⟩
 ·rw [e]; exact scaled_in (L.inL h.am) (L.szL h.am)
 ·rw [e]; exact L.okH h.am
theorem upto_half (l : List Cl) : uptoV (1 / 2) (flV 1 l) (flV 2 l) = flV 3 l := by
 have e : (1 : Rat) - 1 / 2 = 1 / 2 := by decide +kernel
 unfold uptoV
 rw [e]
 rfl
end
end S
namespace S
open PySem PySem.Spec PyProof.Rows L2
theorem lay_claim (c : Cl) : (claimD c).canLay0 = true := by unfold claimD; simp only [PyData.canLay0, PyData.canLayAll0]; rfl
theorem dep_claim (c : Cl) : (claimD c).depth ≤ 2 := by unfold claimD; simp only [PyData.depth, PyData.depthAll]; decide
theorem lay_claims (l : List Cl) : (claimsD l).canLay0 = true := by unfold claimsD; rw [PyData.canLay0]; exact lay_all lay_claim l
theorem shaped_claims (l : List Cl) : SeqAt.shaped (claimsD l) = true := shaped_of (lay_claims l) (n := 3) (by unfold claimsD; rw [PyData.depth]; exact Nat.succ_le_succ (dep_all dep_claim l)) (by decide)
def InS (n : Nat) (l : List Int) : Prop := l.length ≤ 8 ∧ ∀ x ∈ l, 0 ≤ x ∧ Sz n x
theorem InS.sum {n : Nat} {l : List Int} (h : InS n l) : 0 ≤ l.sum ∧ Sz (n + 4) l.sum := by
 have p : (0 : Int) < 2 ^ n := Int.pow_pos (by decide)
 have h1 := sum_bound (b := 2 ^ n) (Int.le_of_lt p) (l := l) fun x hx => ⟨(h.2 x hx).1, by
  have z := (h.2 x hx).2
  have z0 := (h.2 x hx).1
  unfold Sz at z
  have : (x.natAbs : Int) < ((2 ^ n : Nat) : Int) := Int.ofNat_lt.mpr z
  rw [Int.natCast_pow] at this
  have e : ((2 : Nat) : Int) = 2 := rfl
  rw [e] at this
  omega⟩
 refine ⟨h1.1, ?_⟩
 have l8 := h.1
 have le : (l.length : Int) * 2 ^ n ≤ 8 * 2 ^ n := Int.mul_le_mul_of_nonneg_right (by omega) (Int.le_of_lt p)
 unfold Sz
 have e : (2 : Nat) ^ (n + 4) = 2 ^ n * 16 := by rw [Nat.pow_add]
 rw [e]
 have e2 : ((2 ^ n : Nat) : Int) = 2 ^ n := by rw [Int.natCast_pow]; rfl
 omega
theorem InB.inS {n : Nat} {am tk : List Int} (h : InB am tk) (l : am.length ≤ 8) (z : ∀ x ∈ am, Sz n x) : InS n tk ∧ InS n am := by
 refine ⟨⟨by rw [h.1]; exact l, fun x hx => ?_⟩, ⟨l, fun x hx => ?_⟩⟩
 ·obtain ⟨i, hi, rfl⟩ := List.getElem_of_mem hx
  have hi' : i < am.length := by rw [← h.1]; exact hi
  have b := h.2 i _ _ (List.getElem?_eq_getElem hi') (List.getElem?_eq_getElem hi)
  exact ⟨b.1, sz_le b.1 b.2 (z _ (List.getElem_mem _))⟩
 ·obtain ⟨i, hi, rfl⟩ := List.getElem_of_mem hx
  have hi' : i < tk.length := by rw [h.1]; exact hi
  have b := h.2 i _ _ (List.getElem?_eq_getElem hi) (List.getElem?_eq_getElem hi')
  exact ⟨by omega, z _ (List.getElem_mem _)⟩
theorem EvenOk.inB {am tk : List Int} (h : EvenOk am tk) : InB am tk := ⟨h.1, fun i a p ha hp => ⟨(h.2 i a p ha hp).1, (h.2 i a p ha hp).2.1⟩⟩
def labV (n : Int) : List Int := if n % 5 = 0 then [7, 10, 2] else if n % 5 = 1 then [10 ^ 40 + 5, 9, 30] else if n % 5 = 2 then [2024, 10 ^ 20, 100] else [0, 1, 2]
theorem labV_at (n i : Int) : ∃ x, 0 ≤ x ∧ atI ((labV n).map PyData.int) (i % 3) = some (.int x) := by
 have hi : i % 3 = 0 ∨ i % 3 = 1 ∨ i % 3 = 2 := by omega
 unfold labV
 split
 ·rcases hi with h | h | h <;> rw [h] <;> exact ⟨_, by decide, rfl⟩
 ·split
  ·rcases hi with h | h | h <;> rw [h] <;> exact ⟨_, by decide, rfl⟩
  ·split
   ·rcases hi with h | h | h <;> rw [h] <;> exact ⟨_, by decide, rfl⟩
   ·rcases hi with h | h | h <;> rw [h] <;> exact ⟨_, by decide, rfl⟩
section
variable {B G0 H : Hp} {cs : Cells} {ds : Dat} {Q : VK} {E : XK} {v w u : V} {K : PySem.W.Frag} {xs ys : List PyData} {R : It → Hp → Prop}
theorem rd_kZiLL (S : Sta B G0 H cs ds) (h : Has ds (.list xs) v) (h2 : Has ds (.list ys) w) (k : ∀ J, Wk B G0 J (zipD xs ys) (fun cs ds => Has ds (.list xs) v ∧ (∀ x u, Has ds (.list ys) w → Has ((x, u) :: ds) (.list ys) w) ∧ Has ds (.list ys) w) → R J H) : kZi true true K R [v, w] H := by
 obtain ⟨p, vs, rfl, hp, _⟩ := S.lst h
 obtain ⟨q, ws, rfl, hq, _⟩ := S.lst h2
 exact ⟨p, q, rfl, ⟨_, SqL.of hp⟩, ⟨_, SqL.of hq⟩, k _ (wk_zip src_list src_list)⟩
def spLabels : Sp := spL (α := Int) (fun n => [.int n]) (fun _ => True) (fun n => (labV n).map PyData.int)
theorem rd_labels {n : Int} (S : Sta B G0 H cs ds) (k : ∀ p H', Same H H' → Sta B G0 H' ((p, (labV n).map PyData.int) :: cs) ds → Q (.ref p) H') : spLabels [.int n] H Q E := rd_spL n S (.cons Has.int .nil) trivial k
def spClaims (K : PySem.W.Frag) : Sp := fun vs H Q _ => ∃ (G : Hp) (a : Addr) (ns : List Int) (at' many size : Int), vs = [.ref a, .int at', .int many, .int size] ∧ Same G H ∧ SqL K H a (ns.map V.int) ∧ (0 ≤ at' ∧ 1 ≤ many ∧ many ≤ 8 ∧ 10 ≤ size ∧ size ≤ 10 ^ 46) ∧
 ∀ (l : List Cl) (p : Addr) (H' G' : Hp) (us : List V), l.length = many.toNat → ClOk 160 l → Grow G H G' H' → H p = none → G' p = none → H' p = some (.lst us) → IsAll G' (l.map claimD) us → Q (.ref p) H'
theorem rd_claims {a : Addr} {ns : List Int} {at' many size : Int} (S : Sta B G0 H cs ds) (hS : SqL K H a (ns.map V.int)) (hb : 0 ≤ at' ∧ 1 ≤ many ∧ many ≤ 8 ∧ 10 ≤ size ∧ size ≤ 10 ^ 46)
 (k : ∀ (l : List Cl) (p : Addr) (H' : Hp), l.length = many.toNat → ClOk 160 l → Same H H' → Sta B G0 H' ((p, l.map claimD) :: cs) ds → Q (.ref p) H') : spClaims K [.ref a, .int at', .int many, .int size] H Q E := by
 obtain ⟨G, S⟩ := S
 exact ⟨G, a, ns, at', many, size, rfl, S.2.1, hS, hb, fun l p H' G' us h1 h2 gr hp hg hu hv => k l p H' h1 h2 gr.h (Sta.put_call S gr hp hg hu hv)⟩
def spEven : Sp := spB (α := List Int × List Int) (fun a => [rowD a.1, rowD a.2]) (fun a => a.1.length ≤ 8 ∧ EvenOk a.1 a.2) (fun _ => .bl true)
theorem rd_even {am tk : List Int} (S : Sta B G0 H cs ds) (h1 : Has ds (rowD am) v) (h2 : Has ds (rowD tk) w) (l : am.length ≤ 8) (ok : EvenOk am tk) (k : ∀ H', Same H H' → Sta B G0 H' cs ds → Q (.bl true) H') : spEven [v, w] H Q E := rd_spB (am, tk) (S.hpAll (.cons h1 (.cons h2 .nil))) ⟨l, ok⟩ fun H' e => k H' e (S.same e)
structure FitOk (k : Nat) (l : List Cl) (tk : List Int) : Prop where
 few : l.length ≤ 8
 sz : ∀ x ∈ amV l, Sz 30000 x
 inb : InB (amV l) tk
 fit : Fits k (amV l) tk
def spFits (good : Nat → Prop) : Sp := spB (α := Nat × List Cl × List Int) (fun a => [(flatR a.1).shape, claimsD a.2.1, rowD a.2.2]) (fun a => good a.1 ∧ FitOk a.1 a.2.1 a.2.2) (fun _ => .bl true)
theorem rd_fits {good : Nat → Prop} {n : Nat} {l : List Cl} {tk : List Int} (S : Sta B G0 H cs ds) (h1 : Has ds (flatR n).shape u) (h2 : Has ds (claimsD l) v) (h3 : Has ds (rowD tk) w) (g : good n) (ok : FitOk n l tk) (k : ∀ H', Same H H' → Sta B G0 H' cs ds → Q (.bl true) H') : spFits good [u, v, w] H Q E := rd_spB (n, l, tk) (S.hpAll (.cons h1 (.cons h2 (.cons h3 .nil)))) ⟨g, ok⟩ fun H' e => k H' e (S.same e)
def upD : PyData := .tuple [.str "upto", .tuple [.int 1, .int 2], .tuple [.str "evenly"], .tuple [.str "losses"]]
def spFitsU : Sp := spB (α := List Cl × List Int) (fun a => [upD, claimsD a.1, rowD a.2]) (fun a => FitOk 3 a.1 a.2) (fun _ => .bl true)
theorem rd_fitsU {l : List Cl} {tk : List Int} (S : Sta B G0 H cs ds) (h1 : Has ds upD u) (h2 : Has ds (claimsD l) v) (h3 : Has ds (rowD tk) w) (ok : FitOk 3 l tk) (k : ∀ H', Same H H' → Sta B G0 H' cs ds → Q (.bl true) H') : spFitsU [u, v, w] H Q E := rd_spB (l, tk) (S.hpAll (.cons h1 (.cons h2 (.cons h3 .nil)))) ok fun H' e => k H' e (S.same e)
noncomputable def spRight : Sp := spB (α := Nat × List Cl × Rat) (fun a => [(flatR a.1).shape, claimsD a.2.1, frD a.2.2, partsD (partsV (flV a.1 a.2.1) a.2.2)]) (fun a => (a.1 < 4 ∧ ClOk 160 a.2.1) ∧ SzQ 300 a.2.2 ∧ 0 ≤ a.2.2) (fun _ => .bl true)
theorem rd_right {n : Nat} {l : List Cl} {e : Rat} {t : V} (S : Sta B G0 H cs ds) (h1 : Has ds (flatR n).shape u) (h2 : Has ds (claimsD l) v) (h3 : Has ds (frD e) w) (h4 : Has ds (partsD (partsV (flV n l) e)) t) (hn : n < 4) (ok : ClOk 160 l) (ze : SzQ 300 e) (e0 : 0 ≤ e) (k : ∀ H', Same H H' → Sta B G0 H' cs ds → Q (.bl true) H') : spRight [u, v, w, t] H Q E := rd_spB (n, l, e) (S.hpAll (.cons h1 (.cons h2 (.cons h3 (.cons h4 .nil))))) ⟨⟨hn, ok⟩, ze, e0⟩ fun H' e => k H' e (S.same e)
def spRuleL (A : RAd) : Sp := spT (α := Nat) (fun k => [(flatR k).shape]) (fun k => k < 4) (fun k => (flatR k).ins A)
theorem rd_rulel {A : RAd} {n : Nat} (S : Sta B G0 H cs ds) (h : Has ds (flatR n).shape v) (hn : n < 4) (k : ∀ r H', Same H H' → Sta B G0 H' cs (((flatR n).ins A, r) :: ds) → Q r H') : spRuleL A [v] H Q E := rd_spT n S (.cons h .nil) hn k
def spPurse : Sp := fun vs H Q _ => ∃ (G : Hp) (wh c : Int), vs = [.int wh, .int c] ∧ Same G H ∧ (0 ≤ wh ∧ Sz 180 wh) ∧ ∀ v H' G' (e : Rat), Grow G H G' H' → Is G' (frD e) v → 0 ≤ e ∧ SzQ 300 e → Q v H'
theorem rd_purse {wh c : Int} (S : Sta B G0 H cs ds) (hb : 0 ≤ wh ∧ Sz 180 wh) (k : ∀ v H' (e : Rat), 0 ≤ e ∧ SzQ 300 e → Same H H' → Sta B G0 H' cs ((frD e, v) :: ds) → Q v H') : spPurse [.int wh, .int c] H Q E := by
 obtain ⟨G, S⟩ := S
 refine ⟨G, wh, c, rfl, S.2.1, hb, fun v H' G' e gr hv good => k v H' e good gr.h ?_⟩
 obtain ⟨a', b', c', d', e', f', g'⟩ := S.grow gr
 exact ⟨G', a', b', c', d', e', f', g'.cons hv⟩
theorem ret_Pu {G H' : Hp} {e : Rat} (S : Sta H G H' cs ds) (k : ∀ v H' G' (e : Rat), Grow G H G' H' → Is G' (frD e) v → 0 ≤ e ∧ SzQ 300 e → Q v H') (h : Has ds (frD e) v) (hg : 0 ≤ e ∧ SzQ 300 e) : Q v H' :=
 let ⟨G', gr, al⟩ := S.leave; k v H' G' e gr (h G' al) hg
end
theorem lcm_step {b d : Int} (hb : 0 < b) (hd : 0 < d) : 0 < b.fdiv (Int.gcd b d : Nat) * d ∧ b ∣ b.fdiv (Int.gcd b d : Nat) * d ∧ d ∣ b.fdiv (Int.gcd b d : Nat) * d := by
 have gp : 0 < Int.gcd b d := Int.gcd_pos_of_ne_zero_left d (by omega)
 have g0 : (0 : Int) < ((Int.gcd b d : Nat) : Int) := by omega
 rw [Int.fdiv_eq_ediv_of_nonneg _ (Int.le_of_lt g0)]
 obtain ⟨x, hx⟩ := Int.gcd_dvd_left b d
 obtain ⟨y, hy⟩ := Int.gcd_dvd_right b d
 have ex : b / ((Int.gcd b d : Nat) : Int) = x := by
  conv => lhs; arg 1; rw [hx]
  exact Int.mul_ediv_cancel_left x (by omega)
 rw [ex]
 have x0 : 0 < x := by
  rcases Int.lt_or_le 0 x with h | h
  ·exact h
  ·have := Int.mul_nonpos_of_nonneg_of_nonpos (Int.le_of_lt g0) h
   omega
 refine ⟨Int.mul_pos x0 hd, ⟨y, ?_⟩, ⟨x, Int.mul_comm ..⟩⟩
 conv => rhs; rw [hx, Int.mul_comm ((Int.gcd b d : Nat) : Int) x, Int.mul_assoc, ← hy]
theorem told_cast {p : Rat} {B : Int} (hB : 0 < B) (hd : (p.den : Int) ∣ B) : ((p.num * B.fdiv (p.den : Int) : Int) : Rat) = p * (B : Rat) := by
 rw [Int.fdiv_eq_ediv_of_nonneg _ (Int.natCast_nonneg _)]
 obtain ⟨x, rfl⟩ := hd
 have d0 : (p.den : Int) ≠ 0 := by have := p.den_pos; omega
 rw [Int.mul_ediv_cancel_left _ d0, Rat.intCast_mul, Rat.intCast_mul, ← Rat.mul_assoc]
 congr 1
 have h1 : p = Rat.divInt p.num (p.den : Int) := (Rat.num_divInt_den p).symm
 have h3 : ∀ z : Int, (z : Rat) = Rat.divInt z 1 := fun z => by rw [← Rat.num_divInt_den (z : Rat)]; rfl
 have h2 := h3 (p.den : Int)
 conv => rhs; arg 1; rw [h1]
 rw [h2, Rat.divInt_mul_divInt, h3, Int.mul_one]
 exact ((Rat.divInt_eq_divInt_iff d0 (by decide)).mpr (by rw [Int.mul_one])).symm
noncomputable def tkV (B : Int) (v : List Rat) : List Int := v.map fun p => p.num * B.fdiv (p.den : Int)
theorem right_fits {l : List Cl} {B : Int} {e : Rat} {n : Nat} (ok : ClOk 160 l) (hn : n < 4) (hB : 0 < B) (zB : Sz 28000 B) (e0 : 0 ≤ e) (de : (e.den : Int) ∣ B) (hd : ∀ p ∈ partsV (flV n l) e, (p.den : Int) ∣ B) :
 (tkV B (partsV (flV n l) e)).sum = min (e.num * B.fdiv (e.den : Int)) (B * (amV l).sum) ∧ FitOk n (l.map fun c => (B * c.1, c.2)) (tkV B (partsV (flV n l) e)) := by
 have F := flat_fits (tk := tkV B (partsV (flV n l) e)) ok.lv hB e0 hn (by unfold tkV; rw [List.length_map]; rfl) fun i q p hq hp => by
  unfold tkV at hp
  rw [List.getElem?_map] at hp
  have hq' : (partsV (flV n l) e)[i]? = some q := hq
  rw [hq'] at hp
  cases hp
  exact told_cast hB (hd q (List.mem_of_getElem? hq'))
 have ea : amV (l.map fun c => (B * c.1, c.2)) = mulV B (amV l) := by
  unfold amV mulV
  rw [List.map_map, List.map_map]; rfl
 refine ⟨?_, by rw [List.length_map]; exact ok.few, fun x hx => ?_, by rw [ea]; exact F.1.1, by rw [ea]; exact F.1.2⟩
 ·apply Rat.intCast_inj.mp
  rw [F.2, mn_int, told_cast hB de, Rat.intCast_mul, Rat.mul_comm (B : Rat)]
 ·rw [ea] at hx
  obtain ⟨a, ha, rfl⟩ := List.mem_map.mp hx
  exact (zB.mul (ok.am.2 a ha).2).mono (by decide)
end S
namespace K
open PySem L2 S
local macro_rules | `(tactic| walk_at "m") => `(tactic| exact .mem (by walk_at "mem"))
local macro_rules | `(tactic| walk_at "l") => `(tactic| first | decide | exact Nat.le_refl _ | omega)
local macro_rules | `(tactic| walk_at "o") => `(tactic| first | exact Or.inl rfl | exact Or.inr rfl)
local macro_rules | `(tactic| walk_at "mem") => `(tactic| first | exact List.Mem.head _ | (refine List.Mem.tail _ ?_; walk_at "mem"))
local macro_rules | `(tactic| walk_at "has") => `(tactic| first | exact Has.int | exact Has.bl | exact Has.non | exact Has.str | exact Has.mem (by walk_at "mem"))
local macro_rules | `(tactic| walk_at "hasall") => `(tactic| first | exact HasAll.nil | ((refine' HasAll.cons ?a ?b); (case a => walk_at "has"); (case b => walk_at "hasall")))
local macro_rules | `(tactic| walk_at "sz") => `(tactic| first | assumption | exact SzQ.num (by assumption) | exact SzQ.den (by assumption) | exact Sz.mul (by walk_at "sz") (by walk_at "sz") | exact Sz.add' (by walk_at "sz") (by walk_at "sz") | exact Sz.sub' (by walk_at "sz") (by walk_at "sz") | exact Sz.lit (by decide))
local macro_rules | `(tactic| walk_at "mul") => `(tactic| first | assumption | exact IntMulOk.of_left (by decide) | exact IntMulOk.of_right (by decide) | exact mulModOk (by decide) | exact Sz.mulOk (by walk_at "sz") (by walk_at "sz") (by decide))
local macro_rules | `(tactic| walk_at "div") => `(tactic| exact ⟨by decide, by decide⟩)
local macro_rules | `(tactic| walk_at "mod") => `(tactic| first | (show (0 : Int) < _; decide) | (show (0 : Int) < _; omega) | decide | assumption)
local macro_rules | `(tactic| walk_at "rd") => `(tactic| first
 | ((with_reducible refine' rd_var ?e ?k); (case e => exact rfl))
 | with_reducible refine' rd_c ?_ | with_reducible refine' rd_op ?_ | with_reducible refine' rd_rI0 ?_ | with_reducible refine' rd_addI ?_
 | ((with_reducible refine' rd_ixTI ?S ?h ?i ?k); (case S => assumption); (case h => walk_at "has"); (case i => exact rfl))
 | ((with_reducible refine' rd_ixT ?S ?h ?i ?k); (case S => assumption); (case h => walk_at "has"); (case i => exact rfl); intro w S)
 | ((with_reducible refine' rd_ixLI ?S ?h ?i ?k); (case S => assumption); (case h => walk_at "has"); (case i => exact rfl))
 | ((with_reducible refine' rd_ixL ?S ?h ?i ?k); (case S => assumption); (case h => walk_at "has"); (case i => exact rfl); intro w S)
 | ((with_reducible refine' rd_mulB ?c ?k); (case c => walk_at "mul"))
 | ((with_reducible refine' rd_modL ?c ?k); (case c => first | decide | omega))
 | ((with_reducible refine' rd_modN ?c ?k); (case c => first | assumption | omega))
 | ((with_reducible refine' rd_fdivL ?c ?k); (case c => exact ⟨by decide, by decide⟩))
 | ((with_reducible refine' rd_fdivB ?c ?k); (case c => assumption))
 | ((with_reducible refine' rd_pow ?c ?k); (case c => exact ⟨by decide, by decide, by decide⟩))
 | with_reducible refine' rd_seq ?_ | with_reducible refine' rd_asg ?_ | with_reducible refine' rd_name ?_ | with_reducible refine' rd_nx ?_ | with_reducible refine' rd_rt ?_ | with_reducible refine' rd_ret ?_ | with_reducible refine' rd_rt0 ?_ | with_reducible refine' rd_nxL ?_ | with_reducible refine' rd_rtL ?_
 | with_reducible refine' rd_cons ?_ | with_reducible refine' rd_nil ?_ | with_reducible refine' rd_call ?_ | with_reducible refine' rd_cb ?_ | with_reducible refine' rd_tup ?_ | with_reducible refine' rd_lst ?_
 | ((with_reducible refine' rd_kTup ?S ?h ?l ?k); (case S => assumption); (case h => walk_at "hasall"); (case l => exact Nat.le_of_ble_eq_true rfl); intro p H' e S)
 | ((with_reducible refine' rd_kLst ?S ?h ?l ?k); (case S => assumption); (case h => walk_at "hasall"); (case l => exact Nat.le_of_ble_eq_true rfl); intro p H' e S)
 | with_reducible refine' rd_if ?_ | with_reducible refine' rd_test ?_ | with_reducible refine' rd_tB ?_ | with_reducible refine' rd_isbl ?_ | with_reducible refine' rd_eqI ?_ | with_reducible refine' rd_neI ?_
 | with_reducible refine' rd_not ?_ | with_reducible refine' rd_and ?_ | with_reducible refine' rd_or ?_ | with_reducible refine' rd_andV ?_ | with_reducible refine' rd_orV ?_ | with_reducible refine' rd_notV ?_ | with_reducible refine' rd_ifE ?_
 | with_reducible refine' rd_un ?_ | with_reducible refine' rd_rU ?_ | with_reducible refine' rd_drop ?_ | with_reducible refine' rd_next ?_ | with_reducible refine' rd_retN ?_
 | ((with_reducible refine' rd_lenT ?S ?h ?k); (case S => assumption); (case h => walk_at "has"))
 | ((with_reducible refine' rd_lenL ?S ?h ?k); (case S => assumption); (case h => walk_at "has"))
 | ((with_reducible refine' rd_lenC ?S ?h ?k); (case S => assumption); (case h => walk_at "mem"))
 | with_reducible refine' rd_abs ?_ | with_reducible refine' rd_min ?_ | with_reducible refine' rd_max ?_
 | with_reducible refine' rd_for ?_ | with_reducible refine' rd_comp ?_ | with_reducible refine' rd_iList ?_ | with_reducible refine' rd_iTup ?_ | with_reducible refine' rd_iR1 ?_ | with_reducible refine' rd_iR2 ?_ | with_reducible refine' rd_iEn ?_ | with_reducible refine' rd_iZi ?_
 | with_reducible refine' rd_gTup ?_ | with_reducible refine' rd_gCons ?_ | with_reducible refine' rd_gNil ?_
 | ((with_reducible refine' rd_kGT2 ?S ?h ?k); (case S => assumption); (case h => walk_at "has"); intro w1 w2 S)
 | ((with_reducible refine' rd_kGT3 ?S ?h ?k); (case S => assumption); (case h => walk_at "has"); intro w1 w2 w3 S)
 | with_reducible refine' rd_bm ?_ | with_reducible refine' rd_bm0 ?_
 | ((with_reducible refine' rd_kBM ?S ?h ?k); (case S => assumption); (case h => walk_at "mem"))
 | ((with_reducible refine' rd_kBM0 ?S ?h ?k); (case S => assumption); (case h => walk_at "mem"))
 | ((with_reducible refine' rd_listL ?S ?h ?k); (case S => assumption); (case h => walk_at "has"); intro p H' e S)
 | ((with_reducible refine' rd_listC ?S ?h ?k); (case S => assumption); (case h => walk_at "mem"); intro p H' e S)
 | ((with_reducible refine' rd_listT ?S ?h ?k); (case S => assumption); (case h => walk_at "has"); intro p H' e S)
 | ((with_reducible refine' rd_tupleL ?S ?h ?k); (case S => assumption); (case h => walk_at "has"); intro p H' e S)
 | ((with_reducible refine' rd_tupleC ?S ?h ?k); (case S => assumption); (case h => walk_at "mem"); intro p H' e S)
 | with_reducible refine' rd_par ?_ | with_reducible refine' rd_is2 ?_
 | ((with_reducible refine' rd_aug ?e ?k); (case e => exact rfl)) | with_reducible refine' rd_ipI ?_
 | with_reducible refine' iteT ?_ | with_reducible refine' iteF ?_ | with_reducible refine' iteNF ?_ | with_reducible refine' iteNT ?_
 | with_reducible refine' rd_nx0 ?_ | with_reducible refine' rd_ctL ?_ | with_reducible refine' rd_bkL ?_ | with_reducible refine' rd_ct ?_ | with_reducible refine' rd_bk ?_ | with_reducible refine' rd_eqB ?_ | with_reducible refine' rd_neB ?_)
local macro_rules | `(tactic| walk_at "sub") => `(tactic| first | exact List.Sublist.refl _ | exact List.nil_sublist _ | (refine List.Sublist.cons₂ _ ?_; walk_at "sub") | (refine List.Sublist.cons _ ?_; walk_at "sub"))
local macro_rules | `(tactic| walk_at "dats") => `(tactic| first | exact Dats.nil | ((refine' Dats.cons ?a ?b); (case a => walk_at "has"); (case b => walk_at "dats")))
local macro_rules | `(tactic| walk_at "walk") => `(tactic| repeat walk_at "rd")
local macro_rules | `(tactic| walk_at "szq") => `(tactic| first | assumption | exact SzQ.add (by walk_at "szq") (by walk_at "szq") | exact SzQ.sub (by walk_at "szq") (by walk_at "szq") | exact SzQ.mul (by walk_at "szq") (by walk_at "szq") | exact SzQ.div (by walk_at "szq") (by walk_at "szq"))
local macro_rules | `(tactic| walk_at "dom") => `(tactic| first | exact True.intro | assumption)
local macro_rules | `(tactic| walk_at "rd") => `(tactic| first
 | ((with_reducible refine' rd_q2 ?S ?h1 ?h2 ?s1 ?s2 ?l ?d ?k); (case S => assumption); (case h1 => walk_at "has"); (case h2 => walk_at "has"); (case s1 => walk_at "szq"); (case s2 => walk_at "szq"); (case l => decide); (case d => walk_at "dom"); intro r H' e S)
 | ((with_reducible refine' rd_before ?S ?h1 ?h2 ?s1 ?s2 ?l ?k); (case S => assumption); (case h1 => walk_at "has"); (case h2 => walk_at "has"); (case s1 => walk_at "szq"); (case s2 => walk_at "szq"); (case l => decide))
 | ((with_reducible refine' rd_cell ?S ?h ?k); (case S => assumption); (case h => omega))
 | ((with_reducible refine' rd_div2 ?h ?k); (case h => omega))
 | ((with_reducible refine' rd_isi ?h ?e ?k); (case h => assumption); (case e => first | exact kit_tt | exact kit_tl | exact kit_lt | exact kit_ll | exact kit_it | exact kit_il | exact kit_ib | exact kit_ii))
 | with_reducible refine' rd_sl ?_ | with_reducible refine' rd_noPart ?_ | with_reducible refine' rd_part ?_ | with_reducible refine' rd_kPart ?_
 | with_reducible refine' rd_iRv ?_
 | with_reducible refine' rd_true ?_ | with_reducible refine' rd_gsub ?_ | with_reducible refine' rd_mix ?_
 | ((with_reducible refine' rd_sumL ?S ?h ?k); (case S => assumption); (case h => walk_at "has"))
 | ((with_reducible refine' rd_sumC ?S ?h ?k); (case S => assumption); (case h => walk_at "mem")))
def spLaw (K : PySem.W.Frag) : Sp := fun vs H Q _ => ∃ (a : Addr) (ns : List Int), vs = [.ref a] ∧ SqL K H a (ns.map V.int) ∧ ns.length ≤ 63 ∧ Only H ∧ ∀ H', Q (.bl true) H'
theorem cal_mk {P : Program} {w : World} {K : PySem.W.Frag} {mg : Str → Option Value} {base : Heap} {f : Addr} {fd : FuncData} {k : Nat} {x : Str} {st : Stmt} {ps : List Str} {sp : Sp} (F : Fun K x x st f fd) (G : FnOk P w K mg base CX0 k f fd ps sp) (hm : mg x = some (.ref f)) (b : Binds K fd ps []) : Cal P w K mg base CX0 k x ps sp := ⟨f, fd, G, hm, F.kp, b⟩
section
variable {P : Program} {w : World} {K : PySem.W.Frag} {mg : Str → Option Value} {base : Heap} {f : Addr} {fd : FuncData}
local macro_rules | `(tactic| walk_at "rd") => `(tactic| first
 | ((with_reducible refine' rd_ixTS ?S ?h ?i ?k); (case S => assumption); (case h => walk_at "has"); (case i => exact rfl))
 | ((with_reducible refine' rd_strI ?z ?k); (case z => assumption)) | with_reducible refine' rd_rev ?_
 | ((with_reducible refine' rd_isi ?h ?e ?k ?nd); (case h => assumption); (case nd => exact rfl); (case e => first | exact kit_tt | exact kit_tl | exact kit_lt | exact kit_ll | exact kit_it | exact kit_il | exact kit_ib | exact kit_ii | exact kit_st | exact kit_sl | exact kit_sb | exact kit_si | exact kit_ss))
 | with_reducible refine' rd_jCons ?_ | with_reducible refine' rd_fmt ?_ | with_reducible refine' rd_fld ?_ | with_reducible refine' rd_methA ?_ | with_reducible refine' rd_make ?_ | with_reducible refine' rd_kBMs ?_ | with_reducible refine' rd_addSI ?_ | with_reducible refine' rd_eqS ?_ | with_reducible refine' rd_neS ?_
 | ((with_reducible refine' rd_kJ ?l ?k); (case l => first | assumption | omega | (simp only [str_len]; omega) | (simp only [str_len] at *; omega)))
 | ((with_reducible refine' rd_jNil ?l ?k); (case l => first | assumption | omega | (simp only [str_len]; omega) | (simp only [str_len] at *; omega)))
 | ((with_reducible refine' rd_kFmtS ?l ?k); (case l => first | assumption | omega | (simp only [str_len]; omega) | (simp only [str_len] at *; omega)))
 | ((with_reducible refine' rd_kFmtI ?l ?k); (case l => assumption))
 | ((with_reducible refine' rd_addS ?l ?k); (case l => first | assumption | omega | (simp only [str_len]; omega) | (simp only [str_len] at *; omega))))
def top (i : Nat) : Stmt := PySem.Challenge.pw_shortpurse_k24_flat_rules.main.body.getD i (.Pass ⟨0, 0, 0, 0⟩)
abbrev s_greatest_divisor : Stmt := top 20
theorem sc_greatest_divisor : FnScope ["one", "two", "rest"] ["one", "two"] (defScope s_greatest_divisor) := ⟨rfl, rfl, rfl, by decide +kernel, rfl, by decide +kernel, by decide +kernel⟩
abbrev s_lowest : Stmt := top 19
theorem sc_lowest : FnScope ["top", "bottom", "divisor"] ["top", "bottom"] (defScope s_lowest) := ⟨rfl, rfl, rfl, by decide +kernel, rfl, by decide +kernel, by decide +kernel⟩
def spGcd : Sp := fun vs H Q _ => ∃ a b : Int, vs = [.int a, .int b] ∧ 0 ≤ a ∧ 0 ≤ b ∧ Q (.int (Int.gcd a b : Nat)) H
theorem ok_gcd (F : Fun K "greatest_divisor" "greatest_divisor" s_greatest_divisor f fd) : FnOk P w K mg base CX0 1 f fd ["one", "two"] spGcd := by
 refine F.ok sc_greatest_divisor (fun vs H Q E h => ?_) (fun cdv A outer s H vs Q E hr h => ?_)
 ·obtain ⟨a, b, rfl, _⟩ := h
  rfl
 obtain ⟨a, b, rfl, ha, hb, q⟩ := h
 refine ⟨_, (pss_cons (ps_while PassesOwn.never (pt_cmpR (op_neA (units_of hr)) (pv 1) pe_int (nomark _)) (pss_cons (ps_set (i := 2) sc_greatest_divisor.nd rfl (by walk_at "o") (pe_op op_modN (pv 0) (pv 1))) (pss_cons (ps_set (i := 0) sc_greatest_divisor.nd rfl (by walk_at "o") (pv 1)) (pss_one (ps_set (i := 1) sc_greatest_divisor.nd rfl (by walk_at "o") (pv 2)))))) (pss_one (ps_ret (pv 0)))), rd_start ?_⟩
 refine while_h (fun m σ H2 => ∃ (x y : Int) (v : Option V), σ = [some (.int x), some (.int y), v] ∧ 0 ≤ x ∧ 0 ≤ y ∧ Int.gcd x y = Int.gcd a b ∧ H2 = H ∧ m = y.toNat) _ ⟨a, b, none, rfl, ha, hb, rfl, rfl, rfl⟩ ?_
 rintro m σ H2 ⟨x, y, v, rfl, hx, hy, hg, rfl, rfl⟩
 walk_at "walk"
 refine rd_wh (fun c => ?_) (fun c => ?_)
 ·have c : y ≠ 0 := by simpa using c
  walk_at "walk"
  have e : x.fmod y = x % y := Int.fmod_eq_emod_of_nonneg x hy
  have l1 := Int.emod_nonneg x c
  have l2 := Int.emod_lt_of_pos x (show 0 < y by omega)
  refine ⟨(x.fmod y).toNat, by rw [e]; omega, y, x.fmod y, _, rfl, hy, by rw [e]; exact l1, ?_, rfl, rfl⟩
  rw [e, gcd_step, hg]
 ·have c : y = 0 := by simpa using c
  subst c
  walk_at "walk"
  have e : x = ((Int.gcd a b : Nat) : Int) := by rw [← hg, Int.gcd_zero]; omega
  show Q (.int x) H2
  rw [e]
  exact q
theorem ok_lowest (B : Bl mg) (C_greatest_divisor : Cal P w K mg base CX0 1 "greatest_divisor" ["one", "two"] spGcd) (F : Fun K "lowest" "lowest" s_lowest f fd) : FnOk P w K mg base CX0 2 f fd ["top", "bottom"] spLowest := by
 refine F.ok sc_lowest (fun vs H Q E h => ?_) (fun cdv A outer s H vs Q E hr h => ?_)
 ·obtain ⟨G, a, _, h, _⟩ := h
  rw [← h.len]; rfl
 obtain ⟨G, ⟨a, b⟩, eG, hA, ⟨hb, sb⟩, k⟩ := h
 cases (isAll_ints (ns := [a, b]) hA)
 have S : Sta H G H [] [] := Sta.enter eG fun p hp => absurd hp List.not_mem_nil
 dsimp only at hb sb k
 refine ⟨_, (pss_cons (ps_set (i := 2) sc_lowest.nd rfl (by walk_at "o") (pe_cal C_greatest_divisor hr (by walk_at "l") pass0 rfl (pa_cons (pe_callB call_absA rfl B.abs bt_abs (pa_cons (pv 0) pa_nil)) (pa_cons (pe_callB call_absA rfl B.abs bt_abs (pa_cons (pv 1) pa_nil)) pa_nil)))) (pss_cons (ps_if (pt_cmpR op_lt (pv 1) pe_int (nomark _)) (pss_one (ps_set (i := 2) sc_lowest.nd rfl (by walk_at "o") (pe_un un_neg (pv 2)))) pss_nil) (pss_one (ps_ret (pe_tup (pa_cons (pe_op op_fdivB (pv 0) (pv 2)) (pa_cons (pe_op op_fdivB (pv 1) (pv 2)) pa_nil))))))), rd_start ?_⟩
 walk_at "walk"
 refine ⟨_, _, rfl, by omega, by omega, ?_⟩
 rw [show Int.gcd (a.natAbs : Int) (b.natAbs : Int) = Int.gcd a b by simp; rfl]
 have gp : 0 < Int.gcd a b := Int.gcd_pos_of_ne_zero_right a hb
 have gs : Sz 8999 (Int.gcd a b : Nat) := by
  refine Sz.le sb ?_
  have := Nat.le_of_dvd (by omega) (Int.gcd_dvd_natAbs_right a b)
  omega
 walk_at "walk"
 refine iteD (fun c => ?_) (fun c => ?_)
 ·have hc : CDv a (-((Int.gcd a b : Nat) : Int)) := ⟨by omega, gs.le (by omega)⟩
  walk_at "walk"
  refine ret_T (by assumption) k (.mem ?_)
  rw [show frD (Rat.divInt a b) = .tuple [.int (a.fdiv (-((Int.gcd a b : Nat) : Int))), .int (b.fdiv (-((Int.gcd a b : Nat) : Int)))] by unfold frD; rw [← (low_neg c).1, ← (low_neg c).2]]
  walk_at "mem"
 ·have hc : CDv a ((Int.gcd a b : Nat) : Int) := ⟨by omega, gs⟩
  walk_at "walk"
  refine ret_T (by assumption) k (.mem ?_)
  rw [show frD (Rat.divInt a b) = .tuple [.int (a.fdiv ((Int.gcd a b : Nat) : Int)), .int (b.fdiv ((Int.gcd a b : Nat) : Int))] by unfold frD; rw [← (low_pos (show 0 < b by omega)).1, ← (low_pos (show 0 < b by omega)).2]]
  walk_at "mem"
abbrev s_plus : Stmt := top 14
theorem sc_plus : FnScope ["one", "two"] ["one", "two"] (defScope s_plus) := ⟨rfl, rfl, rfl, by decide +kernel, rfl, by decide +kernel, by decide +kernel⟩
theorem ok_plus (C_lowest : Cal P w K mg base CX0 2 "lowest" ["top", "bottom"] spLowest) (F : Fun K "plus" "plus" s_plus f fd) : FnOk P w K mg base CX0 3 f fd ["one", "two"] spPlus := by
 refine F.ok sc_plus (fun vs H Q E h => ?_) (fun cdv A outer s H vs Q E hr h => ?_)
 ·obtain ⟨G, a, _, h, _⟩ := h
  rw [← h.len]; rfl
 obtain ⟨G, ⟨p, q⟩, eG, hA, ⟨⟨m, n, hp, hq, hmn⟩, _⟩, k⟩ := h
 obtain ⟨v, w', rfl, al⟩ := isAll2 hA
 have S : Sta H G H [] _ := Sta.enter eG al
 dsimp only at hp hq k S
 have o1 : IntMulOk p.num (q.den : Int) := hp.1.mulOk hq.2 (by omega)
 have o2 : IntMulOk q.num (p.den : Int) := hq.1.mulOk hp.2 (by omega)
 have o3 : IntMulOk (p.den : Int) (q.den : Int) := hp.2.mulOk hq.2 (by omega)
 have o4 : IntMulOk p.num q.num := hp.1.mulOk hq.1 (by omega)
 refine ⟨_, (pss_one (ps_ret (pe_cal C_lowest hr (by walk_at "l") pass0 rfl (pa_cons (pe_op op_addA (pe_op op_mulB (pe_ix ix_seq (pv 0) pe_int (fun _ _ => rfl)) (pe_ix ix_seq (pv 1) pe_int (fun _ _ => rfl))) (pe_op op_mulB (pe_ix ix_seq (pv 1) pe_int (fun _ _ => rfl)) (pe_ix ix_seq (pv 0) pe_int (fun _ _ => rfl)))) (pa_cons (pe_op op_mulB (pe_ix ix_seq (pv 0) pe_int (fun _ _ => rfl)) (pe_ix ix_seq (pv 1) pe_int (fun _ _ => rfl))) pa_nil))))), rd_start ?_⟩
 walk_at "walk"
 refine rd_lowest (by assumption) (den_mul_ne p q) ((hp.2.mul hq.2).mono hmn) fun r H' e S => ?_
 rw [add_div] at S
 exact ret_T S k (by walk_at "m")
abbrev s_minus : Stmt := top 15
theorem sc_minus : FnScope ["one", "two"] ["one", "two"] (defScope s_minus) := ⟨rfl, rfl, rfl, by decide +kernel, rfl, by decide +kernel, by decide +kernel⟩
theorem ok_minus (C_lowest : Cal P w K mg base CX0 2 "lowest" ["top", "bottom"] spLowest) (F : Fun K "minus" "minus" s_minus f fd) : FnOk P w K mg base CX0 3 f fd ["one", "two"] spMinus := by
 refine F.ok sc_minus (fun vs H Q E h => ?_) (fun cdv A outer s H vs Q E hr h => ?_)
 ·obtain ⟨G, a, _, h, _⟩ := h
  rw [← h.len]; rfl
 obtain ⟨G, ⟨p, q⟩, eG, hA, ⟨⟨m, n, hp, hq, hmn⟩, _⟩, k⟩ := h
 obtain ⟨v, w', rfl, al⟩ := isAll2 hA
 have S : Sta H G H [] _ := Sta.enter eG al
 dsimp only at hp hq k S
 have o1 : IntMulOk p.num (q.den : Int) := hp.1.mulOk hq.2 (by omega)
 have o2 : IntMulOk q.num (p.den : Int) := hq.1.mulOk hp.2 (by omega)
 have o3 : IntMulOk (p.den : Int) (q.den : Int) := hp.2.mulOk hq.2 (by omega)
 have o4 : IntMulOk p.num q.num := hp.1.mulOk hq.1 (by omega)
 refine ⟨_, (pss_one (ps_ret (pe_cal C_lowest hr (by walk_at "l") pass0 rfl (pa_cons (pe_op op_sub (pe_op op_mulB (pe_ix ix_seq (pv 0) pe_int (fun _ _ => rfl)) (pe_ix ix_seq (pv 1) pe_int (fun _ _ => rfl))) (pe_op op_mulB (pe_ix ix_seq (pv 1) pe_int (fun _ _ => rfl)) (pe_ix ix_seq (pv 0) pe_int (fun _ _ => rfl)))) (pa_cons (pe_op op_mulB (pe_ix ix_seq (pv 0) pe_int (fun _ _ => rfl)) (pe_ix ix_seq (pv 1) pe_int (fun _ _ => rfl))) pa_nil))))), rd_start ?_⟩
 walk_at "walk"
 refine rd_lowest (by assumption) (den_mul_ne p q) ((hp.2.mul hq.2).mono hmn) fun r H' e S => ?_
 rw [sub_div] at S
 exact ret_T S k (by walk_at "m")
abbrev s_times : Stmt := top 16
theorem sc_times : FnScope ["one", "two"] ["one", "two"] (defScope s_times) := ⟨rfl, rfl, rfl, by decide +kernel, rfl, by decide +kernel, by decide +kernel⟩
theorem ok_times (C_lowest : Cal P w K mg base CX0 2 "lowest" ["top", "bottom"] spLowest) (F : Fun K "times" "times" s_times f fd) : FnOk P w K mg base CX0 3 f fd ["one", "two"] spTimes := by
 refine F.ok sc_times (fun vs H Q E h => ?_) (fun cdv A outer s H vs Q E hr h => ?_)
 ·obtain ⟨G, a, _, h, _⟩ := h
  rw [← h.len]; rfl
 obtain ⟨G, ⟨p, q⟩, eG, hA, ⟨⟨m, n, hp, hq, hmn⟩, _⟩, k⟩ := h
 obtain ⟨v, w', rfl, al⟩ := isAll2 hA
 have S : Sta H G H [] _ := Sta.enter eG al
 dsimp only at hp hq k S
 have o1 : IntMulOk p.num (q.den : Int) := hp.1.mulOk hq.2 (by omega)
 have o2 : IntMulOk q.num (p.den : Int) := hq.1.mulOk hp.2 (by omega)
 have o3 : IntMulOk (p.den : Int) (q.den : Int) := hp.2.mulOk hq.2 (by omega)
 have o4 : IntMulOk p.num q.num := hp.1.mulOk hq.1 (by omega)
 refine ⟨_, (pss_one (ps_ret (pe_cal C_lowest hr (by walk_at "l") pass0 rfl (pa_cons (pe_op op_mulB (pe_ix ix_seq (pv 0) pe_int (fun _ _ => rfl)) (pe_ix ix_seq (pv 1) pe_int (fun _ _ => rfl))) (pa_cons (pe_op op_mulB (pe_ix ix_seq (pv 0) pe_int (fun _ _ => rfl)) (pe_ix ix_seq (pv 1) pe_int (fun _ _ => rfl))) pa_nil))))), rd_start ?_⟩
 walk_at "walk"
 refine rd_lowest (by assumption) (den_mul_ne p q) ((hp.2.mul hq.2).mono hmn) fun r H' e S => ?_
 rw [mul_div] at S
 exact ret_T S k (by walk_at "m")
abbrev s_over : Stmt := top 17
theorem sc_over : FnScope ["one", "two"] ["one", "two"] (defScope s_over) := ⟨rfl, rfl, rfl, by decide +kernel, rfl, by decide +kernel, by decide +kernel⟩
theorem ok_over (C_lowest : Cal P w K mg base CX0 2 "lowest" ["top", "bottom"] spLowest) (F : Fun K "over" "over" s_over f fd) : FnOk P w K mg base CX0 3 f fd ["one", "two"] spOver := by
 refine F.ok sc_over (fun vs H Q E h => ?_) (fun cdv A outer s H vs Q E hr h => ?_)
 ·obtain ⟨G, a, _, h, _⟩ := h
  rw [← h.len]; rfl
 obtain ⟨G, ⟨p, q⟩, eG, hA, ⟨⟨m, n, hp, hq, hmn⟩, h0⟩, k⟩ := h
 obtain ⟨v, w', rfl, al⟩ := isAll2 hA
 have S : Sta H G H [] _ := Sta.enter eG al
 dsimp only at hp hq k S h0
 have o1 : IntMulOk p.num (q.den : Int) := hp.1.mulOk hq.2 (by omega)
 have o2 : IntMulOk (p.den : Int) q.num := hp.2.mulOk hq.1 (by omega)
 have h1 := num_ne h0
 refine ⟨_, (pss_cons (ps_if (pt_cmpR (op_eqA (units_of hr)) (pe_ix ix_seq (pv 1) pe_int (fun _ _ => rfl)) pe_int (nomark _)) (pss_one ps_never) pss_nil) (pss_one (ps_ret (pe_cal C_lowest hr (by walk_at "l") pass0 rfl (pa_cons (pe_op op_mulB (pe_ix ix_seq (pv 0) pe_int (fun _ _ => rfl)) (pe_ix ix_seq (pv 1) pe_int (fun _ _ => rfl))) (pa_cons (pe_op op_mulB (pe_ix ix_seq (pv 0) pe_int (fun _ _ => rfl)) (pe_ix ix_seq (pv 1) pe_int (fun _ _ => rfl))) pa_nil)))))), rd_start ?_⟩
 walk_at "walk"
 refine iteD (fun c => absurd c h1) (fun _ => ?_)
 walk_at "walk"
 refine rd_lowest (by assumption) (Int.mul_ne_zero (Int.ne_of_gt (den_pos p)) h1) ((hp.2.mul hq.1).mono hmn) fun r H' e S => ?_
 rw [div_div p q h0] at S
 exact ret_T S k (by walk_at "m")
abbrev s_before : Stmt := top 18
theorem sc_before : FnScope ["one", "two"] ["one", "two"] (defScope s_before) := ⟨rfl, rfl, rfl, by decide +kernel, rfl, by decide +kernel, by decide +kernel⟩
theorem ok_before (F : Fun K "before" "before" s_before f fd) : FnOk P w K mg base CX0 1 f fd ["one", "two"] spBefore := by
 refine F.ok sc_before (fun vs H Q E h => ?_) (fun cdv A outer s H vs Q E hr h => ?_)
 ·obtain ⟨a, h, _⟩ := h
  rw [← h.len]; rfl
 obtain ⟨⟨p, q⟩, hA, ⟨m, n, hp, hq, hmn⟩, k⟩ := h
 obtain ⟨v, w', rfl, al⟩ := isAll2 hA
 have S : Sta H H H [] _ := Sta.enter (Same.refl _) al
 dsimp only at hp hq k S
 have o1 : IntMulOk p.num (q.den : Int) := hp.1.mulOk hq.2 (by omega)
 have o2 : IntMulOk q.num (p.den : Int) := hq.1.mulOk hp.2 (by omega)
 refine ⟨_, (pss_one (ps_ret (pe_cmpR op_lt (pe_op op_mulB (pe_ix ix_seq (pv 0) pe_int (fun _ _ => rfl)) (pe_ix ix_seq (pv 1) pe_int (fun _ _ => rfl))) (pe_op op_mulB (pe_ix ix_seq (pv 1) pe_int (fun _ _ => rfl)) (pe_ix ix_seq (pv 0) pe_int (fun _ _ => rfl))) (nomark _)))), rd_start ?_⟩
 walk_at "walk"
 rw [show decide (p < q) = decide (p.num * (q.den : Int) < q.num * (p.den : Int)) from decide_eq_decide.mpr (Rat.lt_iff p q)] at k
 exact k
abbrev s_last_reached : Stmt := top 35
theorem sc_last_reached : FnScope ["amounts", "amount", "low", "high", "middle"] ["amounts", "amount"] (defScope s_last_reached) := ⟨rfl, rfl, rfl, by decide +kernel, rfl, by decide +kernel, by decide +kernel⟩
theorem ok_last (B : Bl mg) (C_before : Cal P w K mg base CX0 1 "before" ["one", "two"] spBefore) (F : Fun K "last_reached" "last_reached" s_last_reached f fd) : FnOk P w K mg base CX0 2 f fd ["amounts", "amount"] spLast := by
 refine F.ok sc_last_reached (fun vs H Q E h => ?_) (fun cdv A outer s H vs Q E hr h => ?_)
 ·obtain ⟨qs, e, n, h, _⟩ := h
  rw [← h.len]; rfl
 obtain ⟨qs, e, n, hA, ⟨hq0, hq1, zq, ze, hn, hfst⟩, k⟩ := h
 obtain ⟨va, ve, rfl, al⟩ := isAll2 hA
 have S : Sta H H H [] [(.list (qs.map frD), va), (frD e, ve)] := Sta.enter (Same.refl _) al
 have h2n : n + n ≤ 100000000 := by omega
 refine ⟨_, (pss_cons (ps_set (i := 2) sc_last_reached.nd rfl (by walk_at "o") pe_int) (pss_cons (ps_set (i := 3) sc_last_reached.nd rfl (by walk_at "o") (pe_callB call_lenA rfl B.len bt_len (pa_cons (pv 0) pa_nil))) (pss_cons (ps_while PassesOwn.never (pt_cmpR op_gt (pe_op op_sub (pv 3) (pv 2)) pe_int (nomark _)) (pss_cons (ps_set (i := 4) sc_last_reached.nd rfl (by walk_at "o") (pe_op op_fdiv (pe_op op_addA (pv 2) (pv 3)) pe_int)) (pss_one (ps_if (pt_val (pe_cal C_before hr (by walk_at "l") pass0 rfl (pa_cons (pv 1) (pa_cons (pe_ix ix_seq (pv 0) (pv 4) (fun _ _ => rfl)) pa_nil)))) (pss_one (ps_set (i := 3) sc_last_reached.nd rfl (by walk_at "o") (pv 4))) (pss_one (ps_set (i := 2) sc_last_reached.nd rfl (by walk_at "o") (pv 4))))))) (pss_one (ps_ret (pv 2)))))), rd_start ?_⟩
 walk_at "walk"
 refine while_h (fun m σ H2 => ∃ (low high : Nat) (x4 : Option V) (q : Rat), σ = [some va, some ve, some (.int (low : Nat)), some (.int (high : Nat)), x4] ∧ H2 = H ∧ low < high ∧ high ≤ qs.length ∧ qs[low]? = some q ∧ q ≤ e ∧ (high = qs.length ∨ ∃ r, qs[high]? = some r ∧ e < r) ∧ m = high - low) (qs.length - 0) ⟨0, qs.length, none, qs[0], by
  rw [List.length_map]; rfl, rfl, hq0, Nat.le_refl _, List.getElem?_eq_getElem hq0, hfst _ (List.getElem?_eq_getElem hq0), .inl rfl, rfl⟩ ?_
 rintro m σ H2 ⟨low, high, x4, q, rfl, rfl, hlh, hhn, hq, hqe, hhi, rfl⟩
 walk_at "walk"
 refine rd_wh (fun c => ?_) (fun c => ?_)
 ·have c : 1 < (high : Int) - low := by simpa using c
  have em : ((low : Int) + high) / 2 = (((low + high) / 2 : Nat) : Int) := by omega
  have hm1 : low < (low + high) / 2 := by omega
  have hm2 : (low + high) / 2 < high := by omega
  walk_at "walk"
  rw [em]
  generalize (low + high) / 2 = mid at *
  have hmq : qs[mid]? = some (qs[mid]'(by omega)) := List.getElem?_eq_getElem _
  generalize (qs[mid]'(by omega)) = p at *
  refine rd_ixL (xs := qs.map frD) (x := frD p) S (by walk_at "m") (atI_nat (by rw [List.getElem?_map, hmq]; rfl)) fun wp S2 => ?_
  have zp := zq p (List.mem_of_getElem? hmq)
  refine rd_before (m := n) (n := n) S2 (by walk_at "m") (by walk_at "m") ze zp h2n ?_
  walk_at "walk"
  refine iteD (fun c1 => ?_) (fun c1 => ?_)
  ·walk_at "walk"
   exact ⟨mid - low, by omega, low, mid, _, q, rfl, rfl, hm1, by omega, hq, hqe, .inr ⟨p, hmq, c1⟩, rfl⟩
  ·walk_at "walk"
   exact ⟨high - mid, by omega, mid, high, _, p, rfl, rfl, hm2, hhn, hmq, Rat.not_lt.mp c1, hhi, rfl⟩
 ·have c : ¬ 1 < (high : Int) - low := by simpa using c
  have e1 : high = low + 1 := by omega
  subst e1
  walk_at "walk"
  exact k low q hq hqe hhi
abbrev s_portion_reached : Stmt := top 31
theorem sc_portion_reached : FnScope ["start", "end", "amount"] ["start", "end", "amount"] (defScope s_portion_reached) := ⟨rfl, rfl, rfl, by decide +kernel, rfl, by decide +kernel, by decide +kernel⟩
theorem ok_portion (C_minus : Cal P w K mg base CX0 3 "minus" ["one", "two"] spMinus) (C_over : Cal P w K mg base CX0 3 "over" ["one", "two"] spOver) (F : Fun K "portion_reached" "portion_reached" s_portion_reached f fd) : FnOk P w K mg base CX0 4 f fd ["start", "end", "amount"] spPortion := by
 refine F.ok sc_portion_reached (fun vs H Q E h => ?_) (fun cdv A outer s H vs Q E hr h => ?_)
 ·obtain ⟨G, a, _, h, _⟩ := h
  rw [← h.len]; rfl
 obtain ⟨G, ⟨s', e', x⟩, eG, hA, ⟨⟨m, n, z1, z2, z3, hz⟩, hne⟩, k⟩ := h
 obtain ⟨v1, v2, v3, rfl, al⟩ := isAll3 hA
 have S : Sta H G H [] _ := Sta.enter eG al
 dsimp only at z1 z2 z3 hne k S
 refine ⟨_, (pss_one (ps_ret (pe_cal C_over hr (by walk_at "l") pass0 rfl (pa_cons (pe_cal C_minus hr (by walk_at "l") pass0 rfl (pa_cons (pv 2) (pa_cons (pv 0) pa_nil))) (pa_cons (pe_cal C_minus hr (by walk_at "l") pass0 rfl (pa_cons (pv 1) (pa_cons (pv 0) pa_nil))) pa_nil))))), rd_start ?_⟩
 walk_at "walk"
 refine rd_q2 S (by walk_at "m") (by walk_at "m") z3 z1 (by omega) True.intro fun r1 H1 e1 S1 => ?_
 walk_at "walk"
 refine rd_q2 S1 (by walk_at "m") (by walk_at "m") z2 z1 (by omega) True.intro fun r2 H2 e2 S2 => ?_
 walk_at "walk"
 refine rd_q2 S2 (by walk_at "m") (by walk_at "m") (z3.sub z1) (z2.sub z1) (by omega) (fun z => hne (by grind)) fun r3 H3 e3 S3 => ?_
 exact ret_T S3 k (by walk_at "m")
abbrev s_amount_at : Stmt := top 32
theorem sc_amount_at : FnScope ["start", "end", "portion"] ["start", "end", "portion"] (defScope s_amount_at) := ⟨rfl, rfl, rfl, by decide +kernel, rfl, by decide +kernel, by decide +kernel⟩
theorem ok_amount (C_plus : Cal P w K mg base CX0 3 "plus" ["one", "two"] spPlus) (C_minus : Cal P w K mg base CX0 3 "minus" ["one", "two"] spMinus) (C_times : Cal P w K mg base CX0 3 "times" ["one", "two"] spTimes) (F : Fun K "amount_at" "amount_at" s_amount_at f fd) : FnOk P w K mg base CX0 4 f fd ["start", "end", "portion"] spAmount := by
 refine F.ok sc_amount_at (fun vs H Q E h => ?_) (fun cdv A outer s H vs Q E hr h => ?_)
 ·obtain ⟨G, a, _, h, _⟩ := h
  rw [← h.len]; rfl
 obtain ⟨G, ⟨s', e', t⟩, eG, hA, ⟨m, n, z1, z2, z3, hz⟩, k⟩ := h
 obtain ⟨v1, v2, v3, rfl, al⟩ := isAll3 hA
 have S : Sta H G H [] _ := Sta.enter eG al
 dsimp only at z1 z2 z3 k S
 refine ⟨_, (pss_one (ps_ret (pe_cal C_plus hr (by walk_at "l") pass0 rfl (pa_cons (pv 0) (pa_cons (pe_cal C_times hr (by walk_at "l") pass0 rfl (pa_cons (pv 2) (pa_cons (pe_cal C_minus hr (by walk_at "l") pass0 rfl (pa_cons (pv 1) (pa_cons (pv 0) pa_nil))) pa_nil))) pa_nil))))), rd_start ?_⟩
 walk_at "walk"
 refine rd_q2 S (by walk_at "m") (by walk_at "m") z2 z1 (by omega) True.intro fun r1 H1 e1 S1 => ?_
 walk_at "walk"
 refine rd_q2 S1 (by walk_at "m") (by walk_at "m") z3 (z2.sub z1) (by omega) True.intro fun r2 H2 e2 S2 => ?_
 walk_at "walk"
 refine rd_q2 S2 (by walk_at "m") (by walk_at "m") z1 (z3.mul (z2.sub z1)) (by omega) True.intro fun r3 H3 e3 S3 => ?_
 exact ret_T S3 k (by walk_at "m")
abbrev s_parts_between : Stmt := top 30
theorem sc_parts_between : FnScope ["start", "end", "purse", "portion"] ["start", "end", "purse"] (defScope s_parts_between) := ⟨rfl, rfl, rfl, by decide +kernel, rfl, by decide +kernel, by decide +kernel⟩
theorem ok_between (B : Bl mg) (C_portion_reached : Cal P w K mg base CX0 4 "portion_reached" ["start", "end", "amount"] spPortion) (C_amount_at : Cal P w K mg base CX0 4 "amount_at" ["start", "end", "portion"] spAmount) (F : Fun K "parts_between" "parts_between" s_parts_between f fd) : FnOk P w K mg base CX0 5 f fd ["start", "end", "purse"] spBetween := by
 refine F.ok sc_parts_between (fun vs H Q E h => ?_) (fun cdv A outer s H vs Q E hr h => ?_)
 ·obtain ⟨G, a, _, h, _⟩ := h
  rw [← h.len]; rfl
 obtain ⟨G, ⟨c, d, e⟩, eG, hA, ⟨⟨m, n, z1, z2, z3, hz⟩, hlt, hl⟩, k⟩ := h
 obtain ⟨v1, v2, v3, rfl, al⟩ := isAll3 hA
 have S : Sta H G H [] _ := Sta.enter eG al
 dsimp only at z1 z2 z3 hlt hl k S
 refine ⟨_, (pss_cons (ps_set (i := 3) sc_parts_between.nd rfl (by walk_at "o") (pe_cal C_portion_reached hr (by walk_at "l") pass0 rfl (pa_cons (pe_ix ix_seq (pv 0) pe_int (fun _ _ => rfl)) (pa_cons (pe_ix ix_seq (pv 1) pe_int (fun _ _ => rfl)) (pa_cons (pv 2) pa_nil))))) (pss_one (ps_ret (pe_callTy call_tupleA rfl B.tuple bt_tuple (pa_cons (pe_comp (N := ["one", "two", "portion"]) (n := 2) (fr := [3]) rfl ⟨rfl, by decide +kernel, rfl, by decide, rfl, rfl, rfl, rfl, rfl⟩ (pi_zip false false rfl B.zip (pa_cons (pe_ix ix_seq (pv 0) pe_int (fun _ _ => rfl)) (pa_cons (pe_ix ix_seq (pv 1) pe_int (fun _ _ => rfl)) pa_nil))) (fun _ _ _ _ => (pg_tup rfl (pgs_cons (pg_name (i := 0) (show (["one", "two", "portion"] : List Str).Nodup from by decide +kernel) rfl (by walk_at "o")) (pgs_cons (pg_name (i := 1) (show (["one", "two", "portion"] : List Str).Nodup from by decide +kernel) rfl (by walk_at "o")) pgs_nil)))) (fun _ _ _ _ => pif_nil) (fun _ _ _ _ => (pe_cal C_amount_at hr (by walk_at "l") pass0 rfl (pa_cons (pv 0) (pa_cons (pv 1) (pa_cons (pv 2) pa_nil)))))) pa_nil))))), rd_start ?_⟩
 walk_at "walk"
 rename_i w1 S1 w2 S2
 refine rd_portion S2 (by walk_at "m") (by walk_at "m") (by walk_at "m") z1.1 z2.1 z3 (by omega) (fun z => by rw [z] at hlt; exact Rat.lt_irrefl hlt) fun r3 H3 e3 S3 => ?_
 have zt : SzQ (m + 3 * n + 2) ((e - c.1) / (d.1 - c.1)) := ((z3.sub z1.1).div (z2.1.sub z1.1)).mono (by omega)
 walk_at "walk"
 rename_i w4 S4 w5 S5
 unfold betw at k
 generalize (e - c.1) / (d.1 - c.1) = t at *
 refine rd_kZiTT (xs := c.2.map frD) (ys := d.2.map frD) S5 (by walk_at "m") (by walk_at "m") fun J wk => ?_
 refine comp_map wk (fun j => frD ((List.zipWith (mixR t) c.2 d.2).getD j 0)) (ys := (List.zipWith (mixR t) c.2 d.2).map frD) ?_ S5 (fun _ _ => ⟨.mem (by walk_at "mem"), fun _ _ h => h.tail, .mem (by walk_at "mem")⟩) (by rw [zipD_len, List.length_map, List.length_map]; omega) (fun j x v B' G' Kd Kn hx t1 S hd C ex s0 H0 => ?_) fun D H1 e1 S1 => ?_
 ·rw [zipD_len, List.length_map, List.length_map, show min c.2.length d.2.length = (List.zipWith (mixR t) c.2 d.2).length by rw [List.length_zipWith]]
  exact range_getD frD 0 _
 ·obtain ⟨x1, x2, h1, h2, rfl⟩ := zipD_at hx
  obtain ⟨n1, hn1, rfl⟩ := mapAt h1
  obtain ⟨n2, hn2, rfl⟩ := mapAt h2
  refine rd_gTup (rd_kGT2 S (by walk_at "m") fun w1 w2 S => ?_)
  refine rd_gCons (rd_name (rd_gCons (rd_name (rd_gNil ⟨rfl, ?_⟩))))
  walk_at "walk"
  refine rd_amount S (by walk_at "m") (by walk_at "m") (by walk_at "m") (z1.2 n1 (List.mem_of_getElem? hn1)) (z2.2 n2 (List.mem_of_getElem? hn2)) zt (by omega) fun r6 H6 e6 S6 => ?_
  refine hd S6 ?_
  rw [getD_of (n := mixR t n1 n2) (by rw [List.getElem?_zipWith, hn1, hn2])]
  exact .mem (by walk_at "mem")
 walk_at "walk"
 exact ret_T (by assumption) k (by walk_at "m")
abbrev s_parts_at : Stmt := top 23
theorem sc_parts_at : FnScope ["path", "purse", "place"] ["path", "purse"] (defScope s_parts_at) := ⟨rfl, rfl, rfl, by decide +kernel, rfl, by decide +kernel, by decide +kernel⟩
theorem ok_partsat (B : Bl mg) (C_last_reached : Cal P w K mg base CX0 2 "last_reached" ["amounts", "amount"] spLast) (C_parts_between : Cal P w K mg base CX0 5 "parts_between" ["start", "end", "purse"] spBetween) (F : Fun K "parts_at" "parts_at" s_parts_at f fd) : FnOk P w K mg base CX0 6 f fd ["path", "purse"] spPartsAt := by
 refine F.ok sc_parts_at (fun vs H Q E h => ?_) (fun cdv A outer s H vs Q E hr h => ?_)
 ·obtain ⟨G, a, _, h, _⟩ := h
  rw [← h.len]; rfl
 obtain ⟨G, ⟨a, e⟩, eG, hA, ⟨m, n, ok, ze, hz, h0⟩, k⟩ := h
 obtain ⟨v1, v2, rfl, al⟩ := isAll2 hA
 have S : Sta H G H [] _ := Sta.enter eG al
 dsimp only at ok ze h0 k S
 have few := ok.few
 have hn0 : ¬ e.num < 0 := by
  have := Rat.num_nonneg.mpr h0
  omega
 have la : 0 < a.length := List.length_pos_iff.mpr ok.ne
 refine ⟨_, (pss_cons (ps_if (pt_cmpR op_lt (pe_ix ix_seq (pv 1) pe_int (fun _ _ => rfl)) pe_int (nomark _)) (pss_one ps_never) pss_nil) (pss_cons (ps_set (i := 2) sc_parts_at.nd rfl (by walk_at "o") (pe_cal C_last_reached hr (by walk_at "l") pass0 rfl (pa_cons (pe_comp (N := ["corner"]) (n := 1) (fr := []) rfl ⟨rfl, by decide +kernel, rfl, by decide, rfl, rfl, rfl, rfl, rfl⟩ (pi_list (pv 0)) (fun _ _ _ _ => (pg_name (i := 0) (show (["corner"] : List Str).Nodup from by decide +kernel) rfl (by walk_at "o"))) (fun _ _ _ _ => pif_nil) (fun _ _ _ _ => (pe_ix ix_seq (pv 0) pe_int (fun _ _ => rfl)))) (pa_cons (pv 1) pa_nil)))) (pss_cons (ps_if (pt_cmpR (op_eqA (units_of hr)) (pv 2) (pe_op op_sub (pe_callB call_lenA rfl B.len bt_len (pa_cons (pv 0) pa_nil)) pe_int) (nomark _)) (pss_one (ps_ret (pe_ix ix_seq (pe_ix ix_seq (pv 0) (pv 2) (fun _ _ => rfl)) pe_int (fun _ _ => rfl)))) pss_nil) (pss_one (ps_ret (pe_cal C_parts_between hr (by walk_at "l") pass0 rfl (pa_cons (pe_ix ix_seq (pv 0) (pv 2) (fun _ _ => rfl)) (pa_cons (pe_ix ix_seq (pv 0) (pe_op op_addA (pv 2) pe_int) (fun _ _ => rfl)) (pa_cons (pv 1) pa_nil))))))))), rd_start ?_⟩
 walk_at "walk"
 refine iteD (fun c => absurd c hn0) (fun _ => ?_)
 walk_at "walk"
 refine rd_kILd (xs := a.map cornD) S (by walk_at "m") fun J wk => ?_
 refine comp_map wk (fun j => frD ((fun c : Corner => c.1) (a.getD j (0, [])))) (ys := (a.map fun c => c.1).map frD) (by rw [List.length_map, List.map_map]; exact range_getD (fun c : Corner => frD c.1) (0, []) a) S (fun _ _ => .mem (by walk_at "mem")) (by rw [List.length_map]; omega) (fun j x v B' G' Kd Kn hx t1 S hd C ex s0 H0 => ?_) fun D H1 e1 S1 => ?_
 ·obtain ⟨c, hc, rfl⟩ := mapAt hx
  refine rd_name ⟨rfl, ?_⟩
  walk_at "walk"
  refine hd (by assumption) ?_
  rw [getD_of hc]
  exact .mem (by walk_at "mem")
 walk_at "walk"
 refine rd_last (qs := a.map fun c => c.1) (e := e) (n := 9000) S1 (S1.hpC (by walk_at "mem")) (S1.hp (by walk_at "m")) ⟨by rw [List.length_map]; exact la, by rw [List.length_map]; omega, fun q hq => ?_, ze.mono (by omega), by decide, fun q hq => ?_⟩ fun i q hi hqe hnx => ?_
 ·obtain ⟨c, hc, rfl⟩ := List.mem_map.mp hq
  exact (ok.sz c hc).1.mono (by omega)
 ·obtain ⟨c, hc, rfl⟩ := mapAt hq
  rw [ok.zero c hc]
  exact h0
 obtain ⟨c, hc, rfl⟩ := mapAt hi
 have hil : i < a.length := (List.getElem?_eq_some_iff.mp hc).1
 have key := partsV_at (E := e) ok.rise hc hqe (by
  rcases hnx with h | ⟨r, hr', h⟩
  ·left; simpa using h
  ·obtain ⟨d, hd, rfl⟩ := mapAt hr'
   exact .inr ⟨d, hd, h⟩)
 walk_at "walk"
 refine iteD (fun c1 => ?_) (fun c1 => ?_)
 ·rw [List.length_map] at c1
  rw [List.getElem?_eq_none (show a.length ≤ i + 1 by omega)] at key
  walk_at "walk"
  refine rd_ixL (xs := a.map cornD) (x := cornD c) S1 (by walk_at "m") (atI_nat (by rw [List.getElem?_map, hc]; rfl)) fun wc S2 => ?_
  walk_at "walk"
  rw [key] at k
  exact ret_T (by assumption) k (by walk_at "m")
 ·rw [List.length_map] at c1
  have hlt : i + 1 < a.length := by omega
  have hd := List.getElem?_eq_getElem hlt
  have hr' := ok.rise
  unfold Rising at hr'
  rw [List.pairwise_iff_getElem] at hr'
  have hcd := hr' i (i + 1) hil hlt (by omega)
  rw [List.getElem_eq_iff hil |>.mpr hc] at hcd
  generalize a[i + 1] = d at *
  rw [hd] at key
  walk_at "walk"
  refine rd_ixL (xs := a.map cornD) (x := cornD c) S1 (by walk_at "m") (atI_nat (by rw [List.getElem?_map, hc]; rfl)) fun wc S2 => ?_
  walk_at "walk"
  refine rd_ixL (xs := a.map cornD) (x := cornD d) S2 (by walk_at "m") (by rw [show ((i : Nat) : Int) + 1 = ((i + 1 : Nat) : Int) by omega]; exact atI_nat (by rw [List.getElem?_map, hd]; rfl)) fun wd S3 => ?_
  walk_at "walk"
  refine rd_between S3 (by walk_at "m") (by walk_at "m") (by walk_at "m") (ok.sz c (List.mem_of_getElem? hc)) (ok.sz d (List.mem_of_getElem? hd)) ze hz hcd (ok.len c (List.mem_of_getElem? hc)) fun r4 H4 e4 S4 => ?_
  rw [key] at k
  exact ret_T S4 k (by walk_at "m")
local macro_rules | `(tactic| walk_at "rd") => `(tactic| ((with_reducible refine' rd_gap ?S ?h1 ?h2 ?s1 ?s2 ?k); (case S => assumption); (case h1 => walk_at "has"); (case h2 => walk_at "has"); (case s1 => assumption); (case s2 => assumption); intro r H' e S))
abbrev s_gap : Stmt := top 29
theorem sc_gap : FnScope ["one", "two"] ["one", "two"] (defScope s_gap) := ⟨rfl, rfl, rfl, by decide +kernel, rfl, by decide +kernel, by decide +kernel⟩
abbrev s_is_straight : Stmt := top 28
theorem sc_is_straight : FnScope ["ahead", "corner", "following", "near", "far", "place", "start", "rise", "whole"] ["ahead", "corner", "following"] (defScope s_is_straight) := ⟨rfl, rfl, rfl, by decide +kernel, rfl, by decide +kernel, by decide +kernel⟩
abbrev s_thinned : Stmt := top 22
theorem sc_thinned : FnScope ["corners", "last"] ["corners"] (defScope s_thinned) := ⟨rfl, rfl, rfl, by decide +kernel, rfl, by decide +kernel, by decide +kernel⟩
theorem ok_gap (F : Fun K "gap" "gap" s_gap f fd) : FnOk P w K mg base CX0 1 f fd ["one", "two"] spGap := by
 refine F.ok sc_gap (fun vs H Q E h => ?_) (fun cdv A outer s H vs Q E hr h => ?_)
 ·obtain ⟨G, a, _, h, _⟩ := h
  rw [← h.len]; rfl
 obtain ⟨G, ⟨p, q⟩, eG, hA, ⟨hp, hq⟩, k⟩ := h
 obtain ⟨v, w', rfl, al⟩ := isAll2 hA
 have S : Sta H G H [] _ := Sta.enter eG al
 dsimp only at hp hq k S
 have o1 : IntMulOk q.num (p.den : Int) := hq.1.mulOk hp.2 (by decide)
 have o2 : IntMulOk p.num (q.den : Int) := hp.1.mulOk hq.2 (by decide)
 have o3 : IntMulOk (p.den : Int) (q.den : Int) := hp.2.mulOk hq.2 (by decide)
 refine ⟨_, (pss_one (ps_ret (pe_tup (pa_cons (pe_op op_sub (pe_op op_mulB (pe_ix ix_seq (pv 1) pe_int (fun _ _ => rfl)) (pe_ix ix_seq (pv 0) pe_int (fun _ _ => rfl))) (pe_op op_mulB (pe_ix ix_seq (pv 0) pe_int (fun _ _ => rfl)) (pe_ix ix_seq (pv 1) pe_int (fun _ _ => rfl)))) (pa_cons (pe_op op_mulB (pe_ix ix_seq (pv 0) pe_int (fun _ _ => rfl)) (pe_ix ix_seq (pv 1) pe_int (fun _ _ => rfl))) pa_nil))))), rd_start ?_⟩
 walk_at "walk"
 exact ret_T (by assumption) k (by walk_at "m")
theorem ok_straight (B : Bl mg) (C_gap : Cal P w K mg base CX0 1 "gap" ["one", "two"] spGap) (F : Fun K "is_straight" "is_straight" s_is_straight f fd) : FnOk P w K mg base CX0 2 f fd ["ahead", "corner", "following"] spStr := by
 refine F.ok sc_is_straight (fun vs H Q E h => ?_) (fun cdv A outer s H vs Q E hr h => ?_)
 ·obtain ⟨a, h, _⟩ := h
  rw [← h.len]; rfl
 obtain ⟨⟨a, b, c⟩, hA, ⟨sa, sb, sc, l1, l2, l3⟩, k⟩ := h
 obtain ⟨va, vb, vc, rfl, al⟩ := isAll3 hA
 have S : Sta H H H [] _ := Sta.enter (Same.refl _) al
 dsimp only at sa sb sc l1 l2 l3 k S
 have za := sa.1
 have zb := sb.1
 have zc := sc.1
 have zn := gap_sz za zb
 have zf := gap_sz za zc
 refine ⟨_, (pss_cons (ps_set (i := 3) sc_is_straight.nd rfl (by walk_at "o") (pe_cal C_gap hr (by walk_at "l") pass0 rfl (pa_cons (pe_ix ix_seq (pv 0) pe_int (fun _ _ => rfl)) (pa_cons (pe_ix ix_seq (pv 1) pe_int (fun _ _ => rfl)) pa_nil)))) (pss_cons (ps_set (i := 4) sc_is_straight.nd rfl (by walk_at "o") (pe_cal C_gap hr (by walk_at "l") pass0 rfl (pa_cons (pe_ix ix_seq (pv 0) pe_int (fun _ _ => rfl)) (pa_cons (pe_ix ix_seq (pv 2) pe_int (fun _ _ => rfl)) pa_nil)))) (pss_cons (ps_for PassesOwn.never rfl (pi_enum false rfl B.enumerate (pa_cons (pe_ix ix_seq (pv 0) pe_int (fun _ _ => rfl)) pa_nil)) (pg_tup rfl (pgs_cons (pg_name (i := 5) sc_is_straight.nd rfl (by walk_at "o")) (pgs_cons (pg_name (i := 6) sc_is_straight.nd rfl (by walk_at "o")) pgs_nil))) (pss_cons (ps_set (i := 7) sc_is_straight.nd rfl (by walk_at "o") (pe_cal C_gap hr (by walk_at "l") pass0 rfl (pa_cons (pv 6) (pa_cons (pe_ix ix_seq (pe_ix ix_seq (pv 1) pe_int (fun _ _ => rfl)) (pv 5) (fun _ _ => rfl)) pa_nil)))) (pss_cons (ps_set (i := 8) sc_is_straight.nd rfl (by walk_at "o") (pe_cal C_gap hr (by walk_at "l") pass0 rfl (pa_cons (pv 6) (pa_cons (pe_ix ix_seq (pe_ix ix_seq (pv 2) pe_int (fun _ _ => rfl)) (pv 5) (fun _ _ => rfl)) pa_nil)))) (pss_one (ps_if (pt_cmpR (op_neA (units_of hr)) (pe_op op_mulB (pe_op op_mulB (pe_op op_mulB (pe_ix ix_seq (pv 7) pe_int (fun _ _ => rfl)) (pe_ix ix_seq (pv 3) pe_int (fun _ _ => rfl))) (pe_ix ix_seq (pv 8) pe_int (fun _ _ => rfl))) (pe_ix ix_seq (pv 4) pe_int (fun _ _ => rfl))) (pe_op op_mulB (pe_op op_mulB (pe_op op_mulB (pe_ix ix_seq (pv 8) pe_int (fun _ _ => rfl)) (pe_ix ix_seq (pv 4) pe_int (fun _ _ => rfl))) (pe_ix ix_seq (pv 7) pe_int (fun _ _ => rfl))) (pe_ix ix_seq (pv 3) pe_int (fun _ _ => rfl))) (nomark _)) (pss_one (ps_ret pe_bl)) pss_nil))))) (pss_one (ps_ret pe_bl))))), rd_start ?_⟩
 walk_at "walk"
 rename_i w1 _ w2 _ vn H1 e1 S1 w3 _ w4 _ vf H2 e2 S2 w5 S3
 refine rd_kEnT (xs := a.2.map frD) S3 (by walk_at "m") fun J wk => ?_
 have S4 : Sta H H H2 [] [(partsD a.2, w5), (gapD a.1 b.1, vn), (gapD a.1 c.1, vf), (cornD a, va), (cornD b, vb), (cornD c, vc)] := S3.dat (by walk_at "dats")
 refine for_wk wk (fun i σ cs ds => ∃ (x5 x6 x7 x8 : Option V), σ = [some va, some vb, some vc, some vn, some vf, x5, x6, x7, x8] ∧ cs = [] ∧ ds = [(partsD a.2, w5), (gapD a.1 b.1, vn), (gapD a.1 c.1, vf), (cornD a, va), (cornD b, vb), (cornD c, vc)] ∧
  ∀ (j : Nat) (x y z : Rat), j < i → a.2[j]? = some x → b.2[j]? = some y → c.2[j]? = some z → (y - x) * (c.1 - a.1) = (z - x) * (b.1 - a.1)) S4 ⟨none, none, none, none, rfl, rfl, rfl, fun j x y z hj => absurd hj (Nat.not_lt_zero _)⟩ (fun i σ cs ds h => ?_) ?_ ?_
 ·obtain ⟨_, _, _, _, _, _, rfl, _⟩ := h
  exact .mem (by walk_at "mem")
 ·rintro i x u σ H5 cs ds hx ⟨x5, x6, x7, x8, rfl, rfl, rfl, inv⟩ S5
  obtain ⟨x0, hx0, rfl⟩ := enumD_at hx
  obtain ⟨p, hp, rfl⟩ := mapAt hx0
  have hi : i < a.2.length := (List.getElem?_eq_some_iff.mp hp).1
  have hqb : b.2[i]? = some (b.2[i]'(by omega)) := List.getElem?_eq_getElem _
  have hqc : c.2[i]? = some (c.2[i]'(by omega)) := List.getElem?_eq_getElem _
  generalize (b.2[i]'(by omega)) = q at *
  generalize (c.2[i]'(by omega)) = r at *
  have zp : SzQ 2000 p := sa.2 p (List.mem_of_getElem? hp)
  have zq : SzQ 2000 q := sb.2 q (List.mem_of_getElem? hqb)
  have zr : SzQ 2000 r := sc.2 r (List.mem_of_getElem? hqc)
  have zx := gap_sz zp zq
  have zw := gap_sz zp zr
  have ib : atI (b.2.map frD) ((i : Nat) : Int) = some (frD q) := atI_nat (by rw [List.getElem?_map, hqb]; rfl)
  have ic : atI (c.2.map frD) ((i : Nat) : Int) = some (frD r) := atI_nat (by rw [List.getElem?_map, hqc]; rfl)
  refine rd_gTup (rd_kGT2 S5 (by walk_at "m") fun u1 u2 S6 => ?_)
  cases S6.int1
  walk_at "walk"
  rename_i u3 S7
  refine rd_ixT (xs := b.2.map frD) S7 (by walk_at "m") ib fun u4 S8 => ?_
  walk_at "walk"
  rename_i vr H9 e9 S9 u5 S10
  refine rd_ixT (xs := c.2.map frD) S10 (by walk_at "m") ic fun u6 S11 => ?_
  have m1 := zx.1.mul zn.2
  have m2 := m1.mul zw.2
  have m3 := zw.1.mul zf.2
  have m4 := m3.mul zx.2
  have o1 := zx.1.mulOk zn.2 (by decide)
  have o2 := m1.mulOk zw.2 (by decide)
  have o3 := m2.mulOk zf.1 (by decide)
  have o4 := zw.1.mulOk zf.2 (by decide)
  have o5 := m3.mulOk zx.2 (by decide)
  have o6 := m4.mulOk zn.1 (by decide)
  walk_at "walk"
  have cr := cross_iff (rn := q.num * (p.den : Int) - p.num * (q.den : Int)) (rd := (p.den : Int) * (q.den : Int)) (nn := b.1.num * (a.1.den : Int) - a.1.num * (b.1.den : Int)) (nd := (a.1.den : Int) * (b.1.den : Int))
   (wn := r.num * (p.den : Int) - p.num * (r.den : Int)) (wd := (p.den : Int) * (r.den : Int)) (fn := c.1.num * (a.1.den : Int) - a.1.num * (c.1.den : Int)) (fd := (a.1.den : Int) * (c.1.den : Int)) (den_mul_ne _ _) (den_mul_ne _ _) (den_mul_ne _ _) (den_mul_ne _ _)
  rw [gap_rat, gap_rat, gap_rat, gap_rat] at cr
  refine iteNot (fun z => ?_) (fun z => ?_)
  ·walk_at "walk"
   have hst : ¬ straight a b c := fun st => z (cr.mp (st i _ _ _ hp hqb hqc))
   rw [show (@decide (straight a b c) (Classical.propDecidable _)) = false from @decide_eq_false _ (Classical.propDecidable _) hst] at k
   exact ret_B (by assumption) k
  ·walk_at "walk"
   rename_i vw H12 e12 S12
   refine rd_at (S12.dat (by walk_at "dats")) ⟨_, _, _, _, rfl, rfl, rfl, fun j x y z' hj hx1 hy1 hz1 => ?_⟩
   by_cases hji : j < i
   ·exact inv j x y z' hji hx1 hy1 hz1
   ·have : j = i := by omega
    subst this
    rw [hp] at hx1; rw [hqb] at hy1; rw [hqc] at hz1
    cases hx1; cases hy1; cases hz1
    exact cr.mpr z
 ·rintro σ H5 cs ds ⟨x5, x6, x7, x8, rfl, rfl, rfl, inv⟩ S5
  walk_at "walk"
  have hst : straight a b c := fun i x y z hx hy hz => inv i x y z (by
   have := (List.getElem?_eq_some_iff.mp hx).1
   rw [enumD_len, List.length_map]; exact this) hx hy hz
  rw [show (@decide (straight a b c) (Classical.propDecidable _)) = true from @decide_eq_true _ (Classical.propDecidable _) hst] at k
  exact ret_B S5 k
theorem ok_thinned (B : Bl mg) (C_is_straight : Cal P w K mg base CX0 2 "is_straight" ["ahead", "corner", "following"] spStr) (F : Fun K "thinned" "thinned" s_thinned f fd) : FnOk P w K mg base CX0 3 f fd ["corners"] spThinned := by
 refine F.ok sc_thinned (fun vs H Q E h => ?_) (fun cdv A outer s H vs Q E hr h => ?_)
 ·obtain ⟨G, a, _, h, _⟩ := h
  rw [← h.len]; rfl
 obtain ⟨G, a, eG, hA, ⟨m, ok⟩, k⟩ := h
 obtain ⟨v0, rfl, al⟩ := isAll1 hA
 have S : Sta H G H [] _ := Sta.enter eG al
 have few := ok.few
 refine ⟨_, (pss_cons (ps_set (i := 1) sc_thinned.nd rfl (by walk_at "o") (pe_op op_sub (pe_callB call_lenA rfl B.len bt_len (pa_cons (pv 0) pa_nil)) pe_int)) (pss_one (ps_ret (pe_comp (N := ["place", "corner", "corners", "last"]) (n := 2) (fr := [0, 1]) rfl ⟨rfl, by decide +kernel, rfl, by decide, rfl, rfl, rfl, rfl, rfl⟩ (pi_enum true rfl B.enumerate (pa_cons (pv 0) pa_nil)) (fun _ _ _ _ => (pg_tup rfl (pgs_cons (pg_name (i := 0) (show (["place", "corner", "corners", "last"] : List Str).Nodup from by decide +kernel) rfl (by walk_at "o")) (pgs_cons (pg_name (i := 1) (show (["place", "corner", "corners", "last"] : List Str).Nodup from by decide +kernel) rfl (by walk_at "o")) pgs_nil)))) (fun _ _ _ _ => (pif_one (PW.pt (pw_or (pt_cmpR (op_eqA (units_of hr)) (pv 0) pe_int (nomark _)) (pw_or (pt_cmpR (op_eqA (units_of hr)) (pv 0) (pv 3) (nomark _)) (pw_or1 (pt_not (pt_val (pe_cal C_is_straight hr (by walk_at "l") pass0 rfl (pa_cons (pe_ix ix_seq (pv 2) (pe_op op_sub (pv 0) pe_int) (fun _ _ => rfl)) (pa_cons (pv 1) (pa_cons (pe_ix ix_seq (pv 2) (pe_op op_addA (pv 0) pe_int) (fun _ _ => rfl)) pa_nil)))))))))))) (fun _ _ _ _ => (pv 1)))))), rd_start ?_⟩
 walk_at "walk"
 refine rd_kEnL (xs := a.map cornD) S (by walk_at "m") fun J wk => ?_
 refine comp_wk wk (fun j => if keptAt a j then (a[j]?).map cornD else none) S (fun _ _ => .mem (by walk_at "mem")) (by rw [enumD_len, List.length_map]; omega) (fun i x v B' G' Kd Kn hx t1 S hd hn C ex s0 H0 => ?_) fun D H1 e1 S1 => ?_
 ·obtain ⟨x0, hx0, rfl⟩ := enumD_at hx
  obtain ⟨c, hc, rfl⟩ := mapAt hx0
  have hi : i < a.length := (List.getElem?_eq_some_iff.mp hc).1
  refine rd_gTup (rd_kGT2 S (by walk_at "m") fun u1 u2 S2 => ?_)
  cases S2.int1
  refine rd_gCons (rd_name (rd_gCons (rd_name (rd_gNil ⟨rfl, ?_⟩))))
  rw [hc] at hd hn
  have yes : keptAt a i = true → ∀ {H5 : Hp} {cs' : Cells} {ds' : Dat}, Sta B' G' H5 cs' ds' → Has ds' (cornD c) u2 → Kd u2 H5 := fun hk {H5 cs' ds'} S5 h5 => hd (by rw [hk]; rfl) S5 h5
  have no : keptAt a i = false → ∀ {H5 : Hp} {cs' : Cells} {ds' : Dat}, Sta B' G' H5 cs' ds' → Kn H5 := fun hk {H5 cs' ds'} S5 => hn (by rw [hk]; rfl) S5
  walk_at "walk"
  refine iteD (fun c0 => ?_) (fun c0 => ?_)
  ·walk_at "walk"
   exact yes (kept_true (.inl (by omega))) S2 (by walk_at "m")
  ·walk_at "walk"
   refine iteD (fun c1 => ?_) (fun c1 => ?_)
   ·walk_at "walk"
    rw [List.length_map] at c1
    exact yes (kept_true (.inr (.inl (by omega)))) S2 (by walk_at "m")
   ·rw [List.length_map] at c1
    have h0 : i - 1 < a.length := by omega
    have h2 : i + 1 < a.length := by omega
    have g0 := List.getElem?_eq_getElem h0
    have g2 := List.getElem?_eq_getElem h2
    have y0 := List.getElem_mem h0
    have y2 := List.getElem_mem h2
    generalize a[i - 1] = c0' at *
    generalize a[i + 1] = c2' at *
    have y1 := List.mem_of_getElem? hc
    walk_at "walk"
    refine rd_ixL (xs := a.map cornD) (x := cornD c0') S2 (by walk_at "m") (atI_of (by omega) (by rw [show ((i : Int) - 1).toNat = i - 1 by omega, List.getElem?_map, g0]; rfl)) fun u3 S3 => ?_
    walk_at "walk"
    refine rd_ixL (xs := a.map cornD) (x := cornD c2') S3 (by walk_at "m") (atI_of (by omega) (by rw [show ((i : Int) + 1).toNat = i + 1 by omega, List.getElem?_map, g2]; rfl)) fun u4 S4 => ?_
    walk_at "walk"
    refine rd_str S4 (by walk_at "m") (by walk_at "m") (by walk_at "m") (ok.sz _ y0) (ok.sz _ y1) (ok.sz _ y2) (by rw [ok.len _ y1, ok.len _ y0]) (by rw [ok.len _ y2, ok.len _ y0]) (by rw [ok.len _ y0]; exact ok.m) fun H5 S5 => ?_
    walk_at "walk"
    refine @iteNot _ _ _ (_) (fun z => ?_) (fun z => ?_)
    ·walk_at "walk"
     exact yes (kept_true (.inr (.inr fun q => z (q _ _ _ g0 hc g2)))) S5 (by walk_at "m")
    ·refine no ?_ S5
     refine kept_false ?_
     rintro (q | q | q)
     ·omega
     ·omega
     ·refine q fun x y z' hx hy hz => ?_
      rw [g0] at hx; rw [hc] at hy; rw [g2] at hz
      cases hx; cases hy; cases hz
      exact z
 ·walk_at "walk"
  rw [enumD_len, List.length_map, keep_range] at S1
  exact ret_L S1 k
abbrev s_plus_each : Stmt := top 33
theorem sc_plus_each : FnScope ["ones", "twos"] ["ones", "twos"] (defScope s_plus_each) := ⟨rfl, rfl, rfl, by decide +kernel, rfl, by decide +kernel, by decide +kernel⟩
theorem ok_plus_each (B : Bl mg) (C_plus : Cal P w K mg base CX0 3 "plus" ["one", "two"] spPlus) (F : Fun K "plus_each" "plus_each" s_plus_each f fd) : FnOk P w K mg base CX0 4 f fd ["ones", "twos"] (spEach fun p q => p + q) := by
 refine F.ok sc_plus_each (fun vs H Q E h => ?_) (fun cdv A outer s H vs Q E hr h => ?_)
 ·obtain ⟨G, a, _, h, _⟩ := h
  rw [← h.len]; rfl
 obtain ⟨G, ⟨p, q⟩, eG, hA, ⟨s1, s2, hl⟩, k⟩ := h
 obtain ⟨v, w', rfl, al⟩ := isAll2 hA
 have S : Sta H G H [] _ := Sta.enter eG al
 dsimp only at s1 s2 hl k S
 refine ⟨_, (pss_one (ps_ret (pe_callTy call_tupleA rfl B.tuple bt_tuple (pa_cons (pe_comp (N := ["one", "two"]) (n := 2) (fr := []) rfl ⟨rfl, by decide +kernel, rfl, by decide, rfl, rfl, rfl, rfl, rfl⟩ (pi_zip false false rfl B.zip (pa_cons (pv 0) (pa_cons (pv 1) pa_nil))) (fun _ _ _ _ => (pg_tup rfl (pgs_cons (pg_name (i := 0) (show (["one", "two"] : List Str).Nodup from by decide +kernel) rfl (by walk_at "o")) (pgs_cons (pg_name (i := 1) (show (["one", "two"] : List Str).Nodup from by decide +kernel) rfl (by walk_at "o")) pgs_nil)))) (fun _ _ _ _ => pif_nil) (fun _ _ _ _ => (pe_cal C_plus hr (by walk_at "l") pass0 rfl (pa_cons (pv 0) (pa_cons (pv 1) pa_nil))))) pa_nil)))), rd_start ?_⟩
 walk_at "walk"
 refine rd_kZiTT (xs := p.map frD) (ys := q.map frD) S (by walk_at "m") (by walk_at "m") fun J wk => ?_
 refine comp_map wk (fun j => frD ((List.zipWith (fun p q => p + q) p q).getD j 0)) (ys := (List.zipWith (fun p q => p + q) p q).map frD) ?_ S (fun _ _ => ⟨.mem (by walk_at "mem"), fun _ _ h => h.tail, .mem (by walk_at "mem")⟩) (by rw [zipD_len, List.length_map, List.length_map]; omega) (fun j x v B' G' Kd Kn hx t1 S hd C ex s0 H0 => ?_) fun D H1 e1 S1 => ?_
 ·rw [zipD_len, List.length_map, List.length_map, show min p.length q.length = (List.zipWith (fun p q => p + q) p q).length by rw [List.length_zipWith]]
  exact range_getD frD 0 _
 ·obtain ⟨x1, x2, h1, h2, rfl⟩ := zipD_at hx
  obtain ⟨n1, hn1, rfl⟩ := mapAt h1
  obtain ⟨n2, hn2, rfl⟩ := mapAt h2
  have z1 := s1 n1 (List.mem_of_getElem? hn1)
  have z2 := s2 n2 (List.mem_of_getElem? hn2)
  refine rd_gTup (rd_kGT2 S (by walk_at "m") fun w1 w2 S => ?_)
  refine rd_gCons (rd_name (rd_gCons (rd_name (rd_gNil ⟨rfl, ?_⟩))))
  walk_at "walk"
  rename_i r H2 e2 S2
  refine hd S2 ?_
  rw [getD_of (n := n1 + n2) (by rw [List.getElem?_zipWith, hn1, hn2])]
  exact .mem (by walk_at "mem")
 walk_at "walk"
 exact ret_T (by assumption) k (by walk_at "m")
abbrev s_less_each : Stmt := top 34
theorem sc_less_each : FnScope ["ones", "twos"] ["ones", "twos"] (defScope s_less_each) := ⟨rfl, rfl, rfl, by decide +kernel, rfl, by decide +kernel, by decide +kernel⟩
theorem ok_less_each (B : Bl mg) (C_minus : Cal P w K mg base CX0 3 "minus" ["one", "two"] spMinus) (F : Fun K "less_each" "less_each" s_less_each f fd) : FnOk P w K mg base CX0 4 f fd ["ones", "twos"] (spEach fun p q => p - q) := by
 refine F.ok sc_less_each (fun vs H Q E h => ?_) (fun cdv A outer s H vs Q E hr h => ?_)
 ·obtain ⟨G, a, _, h, _⟩ := h
  rw [← h.len]; rfl
 obtain ⟨G, ⟨p, q⟩, eG, hA, ⟨s1, s2, hl⟩, k⟩ := h
 obtain ⟨v, w', rfl, al⟩ := isAll2 hA
 have S : Sta H G H [] _ := Sta.enter eG al
 dsimp only at s1 s2 hl k S
 refine ⟨_, (pss_one (ps_ret (pe_callTy call_tupleA rfl B.tuple bt_tuple (pa_cons (pe_comp (N := ["one", "two"]) (n := 2) (fr := []) rfl ⟨rfl, by decide +kernel, rfl, by decide, rfl, rfl, rfl, rfl, rfl⟩ (pi_zip false false rfl B.zip (pa_cons (pv 0) (pa_cons (pv 1) pa_nil))) (fun _ _ _ _ => (pg_tup rfl (pgs_cons (pg_name (i := 0) (show (["one", "two"] : List Str).Nodup from by decide +kernel) rfl (by walk_at "o")) (pgs_cons (pg_name (i := 1) (show (["one", "two"] : List Str).Nodup from by decide +kernel) rfl (by walk_at "o")) pgs_nil)))) (fun _ _ _ _ => pif_nil) (fun _ _ _ _ => (pe_cal C_minus hr (by walk_at "l") pass0 rfl (pa_cons (pv 0) (pa_cons (pv 1) pa_nil))))) pa_nil)))), rd_start ?_⟩
 walk_at "walk"
 refine rd_kZiTT (xs := p.map frD) (ys := q.map frD) S (by walk_at "m") (by walk_at "m") fun J wk => ?_
 refine comp_map wk (fun j => frD ((List.zipWith (fun p q => p - q) p q).getD j 0)) (ys := (List.zipWith (fun p q => p - q) p q).map frD) ?_ S (fun _ _ => ⟨.mem (by walk_at "mem"), fun _ _ h => h.tail, .mem (by walk_at "mem")⟩) (by rw [zipD_len, List.length_map, List.length_map]; omega) (fun j x v B' G' Kd Kn hx t1 S hd C ex s0 H0 => ?_) fun D H1 e1 S1 => ?_
 ·rw [zipD_len, List.length_map, List.length_map, show min p.length q.length = (List.zipWith (fun p q => p - q) p q).length by rw [List.length_zipWith]]
  exact range_getD frD 0 _
 ·obtain ⟨x1, x2, h1, h2, rfl⟩ := zipD_at hx
  obtain ⟨n1, hn1, rfl⟩ := mapAt h1
  obtain ⟨n2, hn2, rfl⟩ := mapAt h2
  have z1 := s1 n1 (List.mem_of_getElem? hn1)
  have z2 := s2 n2 (List.mem_of_getElem? hn2)
  refine rd_gTup (rd_kGT2 S (by walk_at "m") fun w1 w2 S => ?_)
  refine rd_gCons (rd_name (rd_gCons (rd_name (rd_gNil ⟨rfl, ?_⟩))))
  walk_at "walk"
  rename_i r H2 e2 S2
  refine hd S2 ?_
  rw [getD_of (n := n1 - n2) (by rw [List.getElem?_zipWith, hn1, hn2])]
  exact .mem (by walk_at "mem")
 walk_at "walk"
 exact ret_T (by assumption) k (by walk_at "m")
abbrev s_turned : Stmt := top 24
theorem sc_turned : FnScope ["path", "end"] ["path"] (defScope s_turned) := ⟨rfl, rfl, rfl, by decide +kernel, rfl, by decide +kernel, by decide +kernel⟩
theorem ok_turned (B : Bl mg) (C_minus : Cal P w K mg base CX0 3 "minus" ["one", "two"] spMinus) (C_less_each : Cal P w K mg base CX0 4 "less_each" ["ones", "twos"] (spEach fun p q => p - q)) (F : Fun K "turned" "turned" s_turned f fd) : FnOk P w K mg base CX0 5 f fd ["path"] spTurned := by
 refine F.ok sc_turned (fun vs H Q E h => ?_) (fun cdv A outer s H vs Q E hr h => ?_)
 ·obtain ⟨G, a, _, h, _⟩ := h
  rw [← h.len]; rfl
 obtain ⟨G, a, eG, hA, ok, k⟩ := h
 obtain ⟨v0, rfl, al⟩ := isAll1 hA
 have S : Sta H G H [] _ := Sta.enter eG al
 have few := ok.few
 obtain ⟨hlast, hmem⟩ := ok.last
 have zl := ok.sz _ hmem
 have zl1 := zl.1
 refine ⟨_, (pss_cons (ps_set (i := 1) sc_turned.nd rfl (by walk_at "o") (pe_ix ix_seq (pv 0) (pe_un un_neg pe_int) (fun _ _ => rfl))) (pss_one (ps_ret (pe_comp (N := ["corner", "end"]) (n := 1) (fr := [1]) rfl ⟨rfl, by decide +kernel, rfl, by decide, rfl, rfl, rfl, rfl, rfl⟩ (pi_rev rfl B.reversed (pa_cons (pv 0) pa_nil)) (fun _ _ _ _ => (pg_name (i := 0) (show (["corner", "end"] : List Str).Nodup from by decide +kernel) rfl (by walk_at "o"))) (fun _ _ _ _ => pif_nil) (fun _ _ _ _ => (pe_tup (pa_cons (pe_cal C_minus hr (by walk_at "l") pass0 rfl (pa_cons (pe_ix ix_seq (pv 1) pe_int (fun _ _ => rfl)) (pa_cons (pe_ix ix_seq (pv 0) pe_int (fun _ _ => rfl)) pa_nil))) (pa_cons (pe_cal C_less_each hr (by walk_at "l") pass0 rfl (pa_cons (pe_ix ix_seq (pv 1) pe_int (fun _ _ => rfl)) (pa_cons (pe_ix ix_seq (pv 0) pe_int (fun _ _ => rfl)) pa_nil))) pa_nil)))))))), rd_start ?_⟩
 walk_at "walk"
 refine rd_ixL (xs := a.map cornD) (x := cornD (lastC a)) S (by walk_at "m") (atI_neg1 (by rw [List.getLast?_map, hlast]; rfl)) fun ve S1 => ?_
 walk_at "walk"
 refine rd_kRvL (xs := a.map cornD) S1 (by walk_at "m") fun J wk => ?_
 refine comp_map wk (fun j => cornD (turnC (lastC a) (a.reverse.getD j (0, [])))) (ys := (turnedV a).map cornD) ?_ S1 (fun _ _ => .mem (by walk_at "mem")) (by rw [List.length_reverse, List.length_map]; omega) (fun j x v B' G' Kd Kn hx t1 S hd C ex s0 H0 => ?_) fun D H2 e2 S2 => ?_
 ·unfold turnedV
  rw [List.map_map, List.length_reverse, List.length_map, ← List.length_reverse]
  exact range_getD (fun c => cornD (turnC (lastC a) c)) (0, []) _
 ·rw [← List.map_reverse] at hx
  obtain ⟨c, hc, rfl⟩ := mapAt hx
  have cm : c ∈ a := List.mem_reverse.mp (List.mem_of_getElem? hc)
  have zc := ok.sz c cm
  have zc1 := zc.1
  refine rd_name ⟨rfl, ?_⟩
  walk_at "walk"
  refine rd_each (p := (lastC a).2) (q := c.2) (by assumption) (by walk_at "m") (by walk_at "m") zl.2 zc.2 (ok.len _ hmem) fun r H3 e3 S3 => ?_
  walk_at "walk"
  refine hd (by assumption) ?_
  rw [getD_of hc]
  exact .mem (by walk_at "mem")
 exact ret_L S2 k
abbrev s_scaled : Stmt := top 25
theorem sc_scaled : FnScope ["path", "portion"] ["path", "portion"] (defScope s_scaled) := ⟨rfl, rfl, rfl, by decide +kernel, rfl, by decide +kernel, by decide +kernel⟩
theorem ok_scaled (B : Bl mg) (C_times : Cal P w K mg base CX0 3 "times" ["one", "two"] spTimes) (F : Fun K "scaled" "scaled" s_scaled f fd) : FnOk P w K mg base CX0 4 f fd ["path", "portion"] spScaled := by
 refine F.ok sc_scaled (fun vs H Q E h => ?_) (fun cdv A outer s H vs Q E hr h => ?_)
 ·obtain ⟨G, a, _, h, _⟩ := h
  rw [← h.len]; rfl
 obtain ⟨G, ⟨a, p⟩, eG, hA, ⟨ok, zp⟩, k⟩ := h
 obtain ⟨v0, vp, rfl, al⟩ := isAll2 hA
 have S : Sta H G H [] _ := Sta.enter eG al
 dsimp only at ok zp k S
 have few := ok.few
 refine ⟨_, (pss_one (ps_ret (pe_comp (N := ["corner", "portion"]) (n := 1) (fr := [1]) rfl ⟨rfl, by decide +kernel, rfl, by decide, rfl, rfl, rfl, rfl, rfl⟩ (pi_list (pv 0)) (fun _ _ _ _ => (pg_name (i := 0) (show (["corner", "portion"] : List Str).Nodup from by decide +kernel) rfl (by walk_at "o"))) (fun _ _ _ _ => pif_nil) (fun _ _ _ _ => (pe_tup (pa_cons (pe_cal C_times hr (by walk_at "l") pass0 rfl (pa_cons (pe_ix ix_seq (pv 0) pe_int (fun _ _ => rfl)) (pa_cons (pv 1) pa_nil))) (pa_cons (pe_callTy call_tupleA rfl B.tuple bt_tuple (pa_cons (pe_comp (N := ["part", "portion"]) (n := 1) (fr := [1]) rfl ⟨rfl, by decide +kernel, rfl, by decide, rfl, rfl, rfl, rfl, rfl⟩ (pi_tup (pe_ix ix_seq (pv 0) pe_int (fun _ _ => rfl))) (fun _ _ _ _ => (pg_name (i := 0) (show (["part", "portion"] : List Str).Nodup from by decide +kernel) rfl (by walk_at "o"))) (fun _ _ _ _ => pif_nil) (fun _ _ _ _ => (pe_cal C_times hr (by walk_at "l") pass0 rfl (pa_cons (pv 0) (pa_cons (pv 1) pa_nil))))) pa_nil)) pa_nil))))))), rd_start ?_⟩
 walk_at "walk"
 refine rd_kILd (xs := a.map cornD) S (by walk_at "m") fun J wk => ?_
 refine comp_map wk (fun j => cornD ((fun c : Corner => (c.1 * p, c.2.map (· * p))) (a.getD j (0, [])))) (ys := (scaledV p a).map cornD) ?_ S (fun _ _ => .mem (by walk_at "mem")) (by rw [List.length_map]; omega) (fun j x v B' G' Kd Kn hx t1 S hd C ex s0 H0 => ?_) fun D H2 e2 S2 => ?_
 ·unfold scaledV
  rw [List.map_map, List.length_map]
  exact range_getD (fun c => cornD ((fun c : Corner => (c.1 * p, c.2.map (· * p))) c)) (0, []) _
 ·obtain ⟨c, hc, rfl⟩ := mapAt hx
  have zc := ok.sz c (List.mem_of_getElem? hc)
  have zc1 := zc.1
  have lc := ok.len c (List.mem_of_getElem? hc)
  refine rd_name ⟨rfl, ?_⟩
  walk_at "walk"
  rename_i w1 S1 r1 H1 e1 S2 w2 S3
  refine rd_kITd (xs := c.2.map frD) S3 (by walk_at "m") fun J2 wk2 => ?_
  refine comp_map wk2 (fun j => frD (c.2.getD j 0 * p)) (ys := (c.2.map (· * p)).map frD) (by rw [List.length_map, List.map_map]; exact range_getD (fun x => frD (x * p)) 0 c.2) S3 (fun _ _ => .mem (by walk_at "mem")) (by rw [List.length_map]; exact lc) (fun j x v B' G' Kd2 Kn2 hx2 t2 S hd2 C ex s0 H0 => ?_) fun D2 H4 e4 S4 => ?_
  ·obtain ⟨y, hy, rfl⟩ := mapAt hx2
   have zy := zc.2 y (List.mem_of_getElem? hy)
   refine rd_name ⟨rfl, ?_⟩
   walk_at "walk"
   rename_i r5 H5 e5 S5
   refine hd2 S5 ?_
   rw [getD_of hy]
   exact .mem (by walk_at "mem")
  walk_at "walk"
  refine hd (by assumption) ?_
  rw [getD_of hc]
  exact .mem (by walk_at "mem")
 exact ret_L S2 k
abbrev s_behind : Stmt := top 26
theorem sc_behind : FnScope ["path", "second", "end", "moved"] ["path", "second"] (defScope s_behind) := ⟨rfl, rfl, rfl, by decide +kernel, rfl, by decide +kernel, by decide +kernel⟩
theorem ok_behind (B : Bl mg) (C_plus : Cal P w K mg base CX0 3 "plus" ["one", "two"] spPlus) (C_plus_each : Cal P w K mg base CX0 4 "plus_each" ["ones", "twos"] (spEach fun p q => p + q)) (C_thinned : Cal P w K mg base CX0 3 "thinned" ["corners"] spThinned) (F : Fun K "behind" "behind" s_behind f fd) : FnOk P w K mg base CX0 5 f fd ["path", "second"] spBehind := by
 refine F.ok sc_behind (fun vs H Q E h => ?_) (fun cdv A outer s H vs Q E hr h => ?_)
 ·obtain ⟨G, a, _, h, _⟩ := h
  rw [← h.len]; rfl
 obtain ⟨G, ⟨a, b⟩, eG, hA, ⟨ok, ok2, m, ok3⟩, k⟩ := h
 obtain ⟨v0, v1, rfl, al⟩ := isAll2 hA
 have S : Sta H G H [] _ := Sta.enter eG al
 dsimp only at ok ok2 ok3 k S
 have few := ok.few
 have few2 := ok2.few
 obtain ⟨hlast, hmem⟩ := ok.last
 have zl := ok.sz _ hmem
 have zl1 := zl.1
 refine ⟨_, (pss_cons (ps_set (i := 2) sc_behind.nd rfl (by walk_at "o") (pe_ix ix_seq (pv 0) (pe_un un_neg pe_int) (fun _ _ => rfl))) (pss_cons (ps_setComp (i := 3) (N := ["corner", "end"]) (n := 1) (fr := [2]) sc_behind.nd rfl rfl rfl ⟨rfl, by decide +kernel, rfl, by decide, rfl, rfl, rfl, rfl, rfl⟩ (pi_list (pe_slice sl_list (pv 1) (po_some pe_int) po_none)) (fun _ _ _ _ => (pg_name (i := 0) (show (["corner", "end"] : List Str).Nodup from by decide +kernel) rfl (by walk_at "o"))) (fun _ _ _ _ => pif_nil) (fun _ _ _ _ => (pe_tup (pa_cons (pe_cal C_plus hr (by walk_at "l") pass0 rfl (pa_cons (pe_ix ix_seq (pv 1) pe_int (fun _ _ => rfl)) (pa_cons (pe_ix ix_seq (pv 0) pe_int (fun _ _ => rfl)) pa_nil))) (pa_cons (pe_cal C_plus_each hr (by walk_at "l") pass0 rfl (pa_cons (pe_ix ix_seq (pv 1) pe_int (fun _ _ => rfl)) (pa_cons (pe_ix ix_seq (pv 0) pe_int (fun _ _ => rfl)) pa_nil))) pa_nil))))) (pss_one (ps_ret (pe_cal C_thinned hr (by walk_at "l") pass0 rfl (pa_cons (pe_op op_addA (pv 0) (pv 3)) pa_nil)))))), rd_start ?_⟩
 walk_at "walk"
 refine rd_ixL (xs := a.map cornD) (x := cornD (lastC a)) S (by walk_at "m") (atI_neg1 (by rw [List.getLast?_map, hlast]; rfl)) fun ve S1 => ?_
 walk_at "walk"
 refine rd_slL (xs := b.map cornD) S1 (by walk_at "m") fun l2 H2 e2 S2 => ?_
 have ec : cutD (b.map cornD) (some 1) none = b.tail.map cornD := by
  unfold cutD
  rw [HT.sIx_none, show (some (1 : Int)) = some ((1 : Nat) : Int) from rfl, HT.sIx_nat, List.length_map]
  have hb : 1 ≤ b.length := List.length_pos_iff.mpr ok2.ne
  rw [Nat.min_eq_left hb, List.take_of_length_le (by rw [List.length_drop, List.length_map]; exact Nat.le_refl _), ← List.map_drop, List.drop_one]
 rw [ec] at S2
 refine rd_kILc (xs := b.tail.map cornD) S2 (by walk_at "mem") fun J wk => ?_
 refine comp_map wk (fun j => cornD (plusC (lastC a) (b.tail.getD j (0, [])))) (ys := (movedV a b).map cornD) ?_ S2 (fun _ _ => List.mem_cons_of_mem _ (by walk_at "mem")) (by rw [List.length_map, List.length_tail]; omega) (fun j x v B' G' Kd Kn hx t1 S hd C ex s0 H0 => ?_) fun D H3 e3 S3 => ?_
 ·unfold movedV
  rw [List.map_map, List.length_map]
  exact range_getD (fun c => cornD (plusC (lastC a) c)) (0, []) _
 ·obtain ⟨c, hc, rfl⟩ := mapAt hx
  have cm : c ∈ b := List.mem_of_mem_tail (List.mem_of_getElem? hc)
  have zc := ok2.sz c cm
  have zc1 := zc.1
  refine rd_name ⟨rfl, ?_⟩
  walk_at "walk"
  refine rd_each (p := (lastC a).2) (q := c.2) (by assumption) (by walk_at "m") (by walk_at "m") zl.2 zc.2 (ok.len _ hmem) fun r H3 e3 S3 => ?_
  walk_at "walk"
  refine hd (by assumption) ?_
  rw [getD_of hc]
  exact .mem (by walk_at "mem")
 walk_at "walk"
 obtain ⟨pa, rfl⟩ := S3.refL (xs := a.map cornD) (v := v0) (by walk_at "m")
 refine rd_addL S3 (S3.vwL (xs := a.map cornD) (by walk_at "m")) (S3.vwC (by walk_at "mem")) (by
  rw [List.length_map, List.length_map]
  unfold movedV
  rw [List.length_map, List.length_tail]; omega) fun p4 H4 e4 S4 => ?_
 rw [← List.map_append] at S4
 have S5 := S4.freeze
 walk_at "walk"
 refine rd_thinned (a := a ++ movedV a b) S5 (by walk_at "m") ok3 fun p6 H6 e6 S6 => ?_
 exact ret_L (S6.weak (cs' := [_]) (by walk_at "sub") Dats.nil) k
section
variable {fS fT Ru : Addr} {A : RAd}
abbrev s_Rule___init__ : Stmt := inClass (top 52) 0
theorem sc_Rule___init__ : FnScope ["self", "form"] ["self", "form"] (defScope s_Rule___init__) := ⟨rfl, rfl, rfl, by decide +kernel, rfl, by decide +kernel, by decide +kernel⟩
theorem ok_rinit (F : Fun K "__init__" "Rule.__init__" s_Rule___init__ f fd) : FnOk P w K mg base CX0 1 f fd ["self", "form"] (spRInit K fS fT Ru) := by
 refine F.ok sc_Rule___init__ (fun vs H Q E h => ?_) (fun cdv A outer s H vs Q E hr h => ?_)
 ·obtain ⟨C, ok, G, d, x, dx, us, rfl, _, _, _, hA, _⟩ := h
  rw [List.length_cons, ← hA.len]; rfl
 obtain ⟨C, ok, G, d, x, dx, us, rfl, eG, gx, hx, hA, k⟩ := h
 obtain ⟨v, rfl, al⟩ := isAll1 hA
 refine ⟨_, (pss_one (ps_fld (pv 0) (pv 1) rfl)), rd_start ?_⟩
 refine ⟨v, rfl, .ref x, rfl, x, C, dx, [], rfl, hx, ok.cl, ok.na, by decide, ?_⟩
 refine k _ G v (fun p o hp ho => by rw [upd_ne hp]; exact ho) (Same.refl _) (fun p o hp => ?_) (fun _ _ => rfl) ?_ (al _ (List.mem_singleton.mpr rfl))
 ·rw [upd_ne (ne_of_none hp gx)]; exact eG p o hp
 ·rw [upd_same]; rfl
abbrev s_Rule_shape : Stmt := inClass (top 52) 1
theorem sc_Rule_shape : FnScope ["self"] ["self"] (defScope s_Rule_shape) := ⟨rfl, rfl, rfl, by decide +kernel, rfl, by decide +kernel, by decide +kernel⟩
abbrev s_Shares___init__ : Stmt := inClass (top 53) 0
theorem sc_Shares___init__ : FnScope ["self"] ["self"] (defScope s_Shares___init__) := ⟨rfl, rfl, rfl, by decide +kernel, rfl, by decide +kernel, by decide +kernel⟩
theorem ok_init_Shares (g_Rule : mg "Rule" = some (.ref Ru)) (s_Rule : PySem.W.specialIn K (.ref Ru) "__getattribute__" = some (some (.builtin "type.__getattribute__"))) (r_Rule : PySem.W.readsIn K Ru (.type "type") = true) {fI : Addr} {fdI : FuncData} (f_Rule_init : PySem.W.findCls K (.ref Ru) (.type "type") "__init__" = some (.val (.ref fI))) (F_Rule_init : FnOk P w K mg base CX0 1 fI fdI ["self", "form"] (spRInit K fS fT Ru)) (k_Rule_init : PySem.W.keepIn K (.ref fI) = true) (b_Rule_init : Binds K fdI ["self", "form"] []) (ok : ROk K fS fT Ru (A.cls .shares)) (F : Fun K "__init__" "Shares.__init__" s_Shares___init__ f fd) : FnOk P w K mg base CX0 2 f fd ["self"] (spInit (A.cls .shares) (α := Unit) (fun _ => []) (fun _ => Rl.shares.shape)) := by
 refine F.ok sc_Shares___init__ (fun vs H Q E h => ?_) (fun cdv A outer s H vs Q E hr h => ?_)
 ·obtain ⟨G, d, x, dx, us, rfl, _, _, _, hA, _⟩ := h
  rw [List.length_cons, ← hA.len]; rfl
 obtain ⟨G, d, x, dx, us, rfl, eG, gx, hx, hA, k⟩ := h
 rw [IsAll] at hA
 subst hA
 have S : Sta H G H [] [] := Sta.enter eG fun p hp => absurd hp List.not_mem_nil
 refine ⟨_, (pss_one (ps_expr (pe_ccall rfl g_Rule s_Rule r_Rule f_Rule_init (F_Rule_init.mono (by walk_at "l")) hr k_Rule_init b_Rule_init pass0 (pa_cons (pv 0) (pa_cons (pe_tup (pa_cons pe_str pa_nil)) pa_nil))))), rd_start ?_⟩
 walk_at "walk"
 refine rd_rinit (d := Rl.shares.shape) (by assumption) gx hx ok (by walk_at "m") fun H' G' w h1 h2 h3 h4 h5 h6 => ?_
 exact k H' G' w h1 h2 h3 h4 h5 h6
abbrev s_Evenly___init__ : Stmt := inClass (top 54) 0
theorem sc_Evenly___init__ : FnScope ["self"] ["self"] (defScope s_Evenly___init__) := ⟨rfl, rfl, rfl, by decide +kernel, rfl, by decide +kernel, by decide +kernel⟩
theorem ok_init_Evenly (g_Rule : mg "Rule" = some (.ref Ru)) (s_Rule : PySem.W.specialIn K (.ref Ru) "__getattribute__" = some (some (.builtin "type.__getattribute__"))) (r_Rule : PySem.W.readsIn K Ru (.type "type") = true) {fI : Addr} {fdI : FuncData} (f_Rule_init : PySem.W.findCls K (.ref Ru) (.type "type") "__init__" = some (.val (.ref fI))) (F_Rule_init : FnOk P w K mg base CX0 1 fI fdI ["self", "form"] (spRInit K fS fT Ru)) (k_Rule_init : PySem.W.keepIn K (.ref fI) = true) (b_Rule_init : Binds K fdI ["self", "form"] []) (ok : ROk K fS fT Ru (A.cls .evenly)) (F : Fun K "__init__" "Evenly.__init__" s_Evenly___init__ f fd) : FnOk P w K mg base CX0 2 f fd ["self"] (spInit (A.cls .evenly) (α := Unit) (fun _ => []) (fun _ => Rl.evenly.shape)) := by
 refine F.ok sc_Evenly___init__ (fun vs H Q E h => ?_) (fun cdv A outer s H vs Q E hr h => ?_)
 ·obtain ⟨G, d, x, dx, us, rfl, _, _, _, hA, _⟩ := h
  rw [List.length_cons, ← hA.len]; rfl
 obtain ⟨G, d, x, dx, us, rfl, eG, gx, hx, hA, k⟩ := h
 rw [IsAll] at hA
 subst hA
 have S : Sta H G H [] [] := Sta.enter eG fun p hp => absurd hp List.not_mem_nil
 refine ⟨_, (pss_one (ps_expr (pe_ccall rfl g_Rule s_Rule r_Rule f_Rule_init (F_Rule_init.mono (by walk_at "l")) hr k_Rule_init b_Rule_init pass0 (pa_cons (pv 0) (pa_cons (pe_tup (pa_cons pe_str pa_nil)) pa_nil))))), rd_start ?_⟩
 walk_at "walk"
 refine rd_rinit (d := Rl.evenly.shape) (by assumption) gx hx ok (by walk_at "m") fun H' G' w h1 h2 h3 h4 h5 h6 => ?_
 exact k H' G' w h1 h2 h3 h4 h5 h6
abbrev s_Losses___init__ : Stmt := inClass (top 55) 0
theorem sc_Losses___init__ : FnScope ["self"] ["self"] (defScope s_Losses___init__) := ⟨rfl, rfl, rfl, by decide +kernel, rfl, by decide +kernel, by decide +kernel⟩
theorem ok_init_Losses (g_Rule : mg "Rule" = some (.ref Ru)) (s_Rule : PySem.W.specialIn K (.ref Ru) "__getattribute__" = some (some (.builtin "type.__getattribute__"))) (r_Rule : PySem.W.readsIn K Ru (.type "type") = true) {fI : Addr} {fdI : FuncData} (f_Rule_init : PySem.W.findCls K (.ref Ru) (.type "type") "__init__" = some (.val (.ref fI))) (F_Rule_init : FnOk P w K mg base CX0 1 fI fdI ["self", "form"] (spRInit K fS fT Ru)) (k_Rule_init : PySem.W.keepIn K (.ref fI) = true) (b_Rule_init : Binds K fdI ["self", "form"] []) (ok : ROk K fS fT Ru (A.cls .losses)) (F : Fun K "__init__" "Losses.__init__" s_Losses___init__ f fd) : FnOk P w K mg base CX0 2 f fd ["self"] (spInit (A.cls .losses) (α := Unit) (fun _ => []) (fun _ => Rl.losses.shape)) := by
 refine F.ok sc_Losses___init__ (fun vs H Q E h => ?_) (fun cdv A outer s H vs Q E hr h => ?_)
 ·obtain ⟨G, d, x, dx, us, rfl, _, _, _, hA, _⟩ := h
  rw [List.length_cons, ← hA.len]; rfl
 obtain ⟨G, d, x, dx, us, rfl, eG, gx, hx, hA, k⟩ := h
 rw [IsAll] at hA
 subst hA
 have S : Sta H G H [] [] := Sta.enter eG fun p hp => absurd hp List.not_mem_nil
 refine ⟨_, (pss_one (ps_expr (pe_ccall rfl g_Rule s_Rule r_Rule f_Rule_init (F_Rule_init.mono (by walk_at "l")) hr k_Rule_init b_Rule_init pass0 (pa_cons (pv 0) (pa_cons (pe_tup (pa_cons pe_str pa_nil)) pa_nil))))), rd_start ?_⟩
 walk_at "walk"
 refine rd_rinit (d := Rl.losses.shape) (by assumption) gx hx ok (by walk_at "m") fun H' G' w h1 h2 h3 h4 h5 h6 => ?_
 exact k H' G' w h1 h2 h3 h4 h5 h6
abbrev s_Halves___init__ : Stmt := inClass (top 56) 0
theorem sc_Halves___init__ : FnScope ["self"] ["self"] (defScope s_Halves___init__) := ⟨rfl, rfl, rfl, by decide +kernel, rfl, by decide +kernel, by decide +kernel⟩
theorem ok_init_Halves (g_Rule : mg "Rule" = some (.ref Ru)) (s_Rule : PySem.W.specialIn K (.ref Ru) "__getattribute__" = some (some (.builtin "type.__getattribute__"))) (r_Rule : PySem.W.readsIn K Ru (.type "type") = true) {fI : Addr} {fdI : FuncData} (f_Rule_init : PySem.W.findCls K (.ref Ru) (.type "type") "__init__" = some (.val (.ref fI))) (F_Rule_init : FnOk P w K mg base CX0 1 fI fdI ["self", "form"] (spRInit K fS fT Ru)) (k_Rule_init : PySem.W.keepIn K (.ref fI) = true) (b_Rule_init : Binds K fdI ["self", "form"] []) (ok : ROk K fS fT Ru (A.cls .halves)) (F : Fun K "__init__" "Halves.__init__" s_Halves___init__ f fd) : FnOk P w K mg base CX0 2 f fd ["self"] (spInit (A.cls .halves) (α := Unit) (fun _ => []) (fun _ => Rl.halves.shape)) := by
 refine F.ok sc_Halves___init__ (fun vs H Q E h => ?_) (fun cdv A outer s H vs Q E hr h => ?_)
 ·obtain ⟨G, d, x, dx, us, rfl, _, _, _, hA, _⟩ := h
  rw [List.length_cons, ← hA.len]; rfl
 obtain ⟨G, d, x, dx, us, rfl, eG, gx, hx, hA, k⟩ := h
 rw [IsAll] at hA
 subst hA
 have S : Sta H G H [] [] := Sta.enter eG fun p hp => absurd hp List.not_mem_nil
 refine ⟨_, (pss_one (ps_expr (pe_ccall rfl g_Rule s_Rule r_Rule f_Rule_init (F_Rule_init.mono (by walk_at "l")) hr k_Rule_init b_Rule_init pass0 (pa_cons (pv 0) (pa_cons (pe_tup (pa_cons pe_str pa_nil)) pa_nil))))), rd_start ?_⟩
 walk_at "walk"
 refine rd_rinit (d := Rl.halves.shape) (by assumption) gx hx ok (by walk_at "m") fun H' G' w h1 h2 h3 h4 h5 h6 => ?_
 exact k H' G' w h1 h2 h3 h4 h5 h6
abbrev s_Other___init__ : Stmt := inClass (top 57) 0
abbrev s_Ranks___init__ : Stmt := inClass (top 58) 0
abbrev s_Groups___init__ : Stmt := inClass (top 59) 0
abbrev s_Upto___init__ : Stmt := inClass (top 60) 0
end
abbrev s_Rule_text : Stmt := inClass (top 52) 2
local macro_rules | `(tactic| walk_at "rd") => `(tactic| first
 | ((with_reducible refine' iteSY ?c ?k); (case c => exact rfl))
 | ((with_reducible refine' iteSN ?c ?k); (case c => decide +kernel))
 | with_reducible refine' rd_sortS ?_ | with_reducible refine' rd_methB ?_)
section
variable {A : RAd}
abbrev s_check_claims : Stmt := top 8
theorem sc_check_claims : FnScope ["claims", "claim"] ["claims"] (defScope s_check_claims) := ⟨rfl, rfl, rfl, by decide +kernel, rfl, by decide +kernel, by decide +kernel⟩
theorem ok_check (B : Bl mg) (g_MOST : mg "MOST" = some (.int 8 tM)) (F : Fun K "check_claims" "check_claims" s_check_claims f fd) : FnOk P w K mg base CX0 1 f fd ["claims"] spCheck := by
 refine F.ok sc_check_claims (fun vs H Q E h => ?_) (fun cdv A outer s H vs Q E hr h => ?_)
 ·obtain ⟨l, h, _⟩ := h
  rw [← h.len]; rfl
 obtain ⟨l, hA, ok, k⟩ := h
 obtain ⟨v, rfl, al⟩ := isAll1 hA
 have S : Sta H H H [] [(claimsD l, v)] := Sta.enter (Same.refl _) al
 have pos := ok.pos
 have few := ok.few
 refine ⟨_, (pss_cons (ps_if (PW.pt (pw_or (pt_cmpR (op_eqA (units_of hr)) (pe_callB call_lenA rfl B.len bt_len (pa_cons (pv 0) pa_nil)) pe_int (nomark _)) (pw_or1 (pt_cmpR op_gt (pe_callB call_lenA rfl B.len bt_len (pa_cons (pv 0) pa_nil)) (pe_glob (v := .int 8) rfl g_MOST ⟨_, rfl⟩) (nomark _))))) (pss_one ps_never) pss_nil) (pss_one (ps_for PassesOwn.never rfl (pi_list (pv 0)) (pg_name (i := 1) sc_check_claims.nd rfl (by walk_at "o")) (pss_one (ps_if (pt_cmpR op_lt (pe_callB (call_minT rfl) rfl B.min bt_min (pa_cons (pv 1) pa_nil)) pe_int (nomark _)) (pss_one ps_never) pss_nil))))), rd_start ?_⟩
 walk_at "walk"
 refine iteD (fun c => absurd c (by rw [List.length_map]; omega)) (fun _ => ?_)
 walk_at "walk"
 refine iteD (fun c => absurd c (by rw [List.length_map]; omega)) (fun _ => ?_)
 walk_at "walk"
 refine rd_kILd (xs := l.map claimD) S (by walk_at "m") fun J wk => ?_
 refine for_wk wk (fun i σ cs ds => (∃ x, σ = [some v, x]) ∧ cs = [] ∧ ds = [(claimsD l, v)]) S ⟨⟨none, rfl⟩, rfl, rfl⟩ (fun i σ cs ds h => ?_) ?_ ?_
 ·obtain ⟨_, rfl, rfl⟩ := h
  exact .mem (by walk_at "mem")
 ·rintro i x u σ H2 cs ds hx ⟨⟨x1, rfl⟩, rfl, rfl⟩ S2
  obtain ⟨c, hc, rfl⟩ := mapAt hx
  have nn := ok.nn c (List.mem_of_getElem? hc)
  walk_at "walk"
  refine rd_minT (ns := [c.1, c.2.1, c.2.2]) S2 (by walk_at "m") (Nat.zero_lt_succ _) fun m hm _ => ?_
  have m0 : ¬ m < 0 := by
   simp only [List.mem_cons, List.not_mem_nil, or_false] at hm
   rcases hm with rfl | rfl | rfl <;> omega
  walk_at "walk"
  refine iteD (fun c => absurd c m0) (fun _ => ?_)
  walk_at "walk"
  exact rd_at (S2.dat (by walk_at "dats")) ⟨⟨_, rfl⟩, rfl, rfl⟩
 ·rintro σ H2 cs ds ⟨⟨x1, rfl⟩, rfl, rfl⟩ S2
  exact k _ S2.base
abbrev s_whole_corner : Stmt := top 48
theorem sc_whole_corner : FnScope ["parts"] ["parts"] (defScope s_whole_corner) := ⟨rfl, rfl, rfl, by decide +kernel, rfl, by decide +kernel, by decide +kernel⟩
theorem ok_wc (B : Bl mg) (F : Fun K "whole_corner" "whole_corner" s_whole_corner f fd) : FnOk P w K mg base CX0 1 f fd ["parts"] spWC := by
 refine F.ok sc_whole_corner (fun vs H Q E h => ?_) (fun cdv A outer s H vs Q E hr h => ?_)
 ·obtain ⟨G, a, _, h, _⟩ := h
  rw [← h.len]; rfl
 obtain ⟨G, l, eG, hA, ok, k⟩ := h
 obtain ⟨v, rfl, al⟩ := isAll1 hA
 have S : Sta H G H [] _ := Sta.enter eG al
 refine ⟨_, (pss_one (ps_ret (pe_tup (pa_cons (pe_tup (pa_cons (pe_callB (call_sumA rfl) rfl B.sum bt_sum (pa_cons (pv 0) pa_nil)) (pa_cons pe_int pa_nil))) (pa_cons (pe_callTy call_tupleA rfl B.tuple bt_tuple (pa_cons (pe_comp (N := ["part"]) (n := 1) (fr := []) rfl ⟨rfl, by decide +kernel, rfl, by decide, rfl, rfl, rfl, rfl, rfl⟩ (pi_list (pv 0)) (fun _ _ _ _ => (pg_name (i := 0) (show (["part"] : List Str).Nodup from by decide +kernel) rfl (by walk_at "o"))) (fun _ _ _ _ => pif_nil) (fun _ _ _ _ => (pe_tup (pa_cons (pv 0) (pa_cons pe_int pa_nil))))) pa_nil)) pa_nil))))), rd_start ?_⟩
 walk_at "walk"
 rename_i p1 H1 e1 S1
 refine rd_kILd (xs := l.map PyData.int) S1 (by walk_at "m") fun J wk => ?_
 refine comp_map wk (fun j => frD ((l.getD j 0 : Int) : Rat)) (ys := (wholeC l).2.map frD) (by unfold wholeC; rw [List.length_map, List.map_map]; exact range_getD (fun x : Int => frD ((x : Int) : Rat)) 0 l) S1 (fun _ _ => .mem (by walk_at "mem")) (by rw [List.length_map]; omega) (fun j x v B' G' Kd Kn hx t1 S hd C ex s0 H0 => ?_) fun D H2 e2 S2 => ?_
 ·obtain ⟨y, hy, rfl⟩ := mapAt hx
  cases S.int1
  refine rd_name ⟨rfl, ?_⟩
  walk_at "walk"
  refine hd (by assumption) ?_
  rw [getD_of hy]
  exact .mem (by walk_at "mem")
 walk_at "walk"
 exact ret_T (by assumption) k (by walk_at "m")
abbrev s_nothing : Stmt := top 47
theorem sc_nothing : FnScope ["count"] ["count"] (defScope s_nothing) := ⟨rfl, rfl, rfl, by decide +kernel, rfl, by decide +kernel, by decide +kernel⟩
theorem ok_nothing (C_whole_corner : Cal P w K mg base CX0 1 "whole_corner" ["parts"] spWC) (F : Fun K "nothing" "nothing" s_nothing f fd) : FnOk P w K mg base CX0 2 f fd ["count"] spNothing := by
 refine F.ok sc_nothing (fun vs H Q E h => ?_) (fun cdv A outer s H vs Q E hr h => ?_)
 ·obtain ⟨G, a, _, h, _⟩ := h
  rw [← h.len]; rfl
 obtain ⟨G, n, eG, hA, ok, k⟩ := h
 cases (isAll_ints (ns := [(n : Int)]) hA)
 have S : Sta H G H [] [] := Sta.enter eG fun p hp => absurd hp List.not_mem_nil
 refine ⟨_, (pss_one (ps_ret (pe_lst (pa_cons (pe_cal C_whole_corner hr (by walk_at "l") pass0 rfl (pa_cons (pe_op op_rep (pe_lst (pa_cons pe_int pa_nil)) (pv 0)) pa_nil)) pa_nil)))), rd_start ?_⟩
 walk_at "walk"
 rename_i p1 H1 e1 S1
 refine rd_rep1 S1 (by walk_at "mem") (by omega) fun l2 H2 e2 S2 => ?_
 have S3 : Sta H G H2 [] [(.list ((zeroV n).map PyData.int), .ref l2)] := S2.freeze.weak (by walk_at "sub") (by walk_at "dats")
 refine rd_wc S3 (by walk_at "m") (by rw [zeroV_len]; exact ok) fun w4 H4 e4 S4 => ?_
 walk_at "walk"
 exact ret_L (by assumption) k
abbrev s_shares : Stmt := top 41
theorem sc_shares : FnScope ["claims", "amounts"] ["claims"] (defScope s_shares) := ⟨rfl, rfl, rfl, by decide +kernel, rfl, by decide +kernel, by decide +kernel⟩
theorem ok_shares (B : Bl mg) (C_nothing : Cal P w K mg base CX0 2 "nothing" ["count"] spNothing) (C_whole_corner : Cal P w K mg base CX0 1 "whole_corner" ["parts"] spWC) (F : Fun K "shares" "shares" s_shares f fd) : FnOk P w K mg base CX0 3 f fd ["claims"] (spFlat 0) := by
 refine F.ok sc_shares (fun vs H Q E h => ?_) (fun cdv A outer s H vs Q E hr h => ?_)
 ·obtain ⟨G, a, _, h, _⟩ := h
  rw [← h.len]; rfl
 obtain ⟨G, l, eG, hA, ok, k⟩ := h
 obtain ⟨v, rfl, al⟩ := isAll1 hA
 have S : Sta H G H [] _ := Sta.enter eG al
 have few := ok.few
 refine ⟨_, (pss_cons (ps_setComp (i := 1) (N := ["claim"]) (n := 1) (fr := []) sc_shares.nd rfl rfl rfl ⟨rfl, by decide +kernel, rfl, by decide, rfl, rfl, rfl, rfl, rfl⟩ (pi_list (pv 0)) (fun _ _ _ _ => (pg_name (i := 0) (show (["claim"] : List Str).Nodup from by decide +kernel) rfl (by walk_at "o"))) (fun _ _ _ _ => pif_nil) (fun _ _ _ _ => (pe_ix ix_seq (pv 0) pe_int (fun _ _ => rfl)))) (pss_cons (ps_if (pt_cmpR (op_eqA (units_of hr)) (pe_callB (call_sumA rfl) rfl B.sum bt_sum (pa_cons (pv 1) pa_nil)) pe_int (nomark _)) (pss_one (ps_ret (pe_cal C_nothing hr (by walk_at "l") pass0 rfl (pa_cons (pe_callB call_lenA rfl B.len bt_len (pa_cons (pv 1) pa_nil)) pa_nil)))) pss_nil) (pss_one (ps_ret (pe_op op_addA (pe_cal C_nothing hr (by walk_at "l") pass0 rfl (pa_cons (pe_callB call_lenA rfl B.len bt_len (pa_cons (pv 1) pa_nil)) pa_nil)) (pe_lst (pa_cons (pe_cal C_whole_corner hr (by walk_at "l") pass0 rfl (pa_cons (pv 1) pa_nil)) pa_nil))))))), rd_start ?_⟩
 walk_at "walk"
 refine rd_kILd (xs := l.map claimD) S (by walk_at "m") fun J wk => ?_
 refine comp_map wk (fun j => .int (l.getD j (0, 0, 0)).1) (ys := (amV l).map PyData.int) (by unfold amV; rw [List.length_map, List.map_map]; exact range_getD (fun c : Cl => PyData.int c.1) (0, 0, 0) l) S (fun _ _ => .mem (by walk_at "mem")) (by rw [List.length_map]; omega) (fun j x v B' G' Kd Kn hx t1 S hd C ex s0 H0 => ?_) fun D H1 e1 S1 => ?_
 ·obtain ⟨c, hc, rfl⟩ := mapAt hx
  refine rd_name ⟨rfl, ?_⟩
  walk_at "walk"
  refine hd (by assumption) ?_
  rw [getD_of hc]
  exact Has.int
 have S2 : Sta H G H1 [] [(.list ((amV l).map PyData.int), .ref D)] := S1.freeze.weak (by walk_at "sub") (by walk_at "dats")
 clear S1
 have l8 : (amV l).length ≤ 8 := by rw [amV_len]; omega
 dsimp only at k
 unfold flV at k
 have ek : flatP (amV l) (lvV (amV l)) 0 = shP (amV l) := rfl
 rw [ek] at k
 generalize amV l = as at *
 unfold shP at k
 walk_at "walk"
 refine iteD (fun c => ?_) (fun c => ?_)
 ·rw [if_pos c] at k
  walk_at "walk"
  rw [List.length_map]
  refine rd_nothing S2 l8 fun p3 H3 e3 S3 => ?_
  exact ret_L S3 k
 ·rw [if_neg c] at k
  walk_at "walk"
  rw [List.length_map]
  refine rd_nothing S2 l8 fun p3 H3 e3 S3 => ?_
  walk_at "walk"
  refine rd_wc S3 (by walk_at "m") l8 fun w4 H4 e4 S4 => ?_
  walk_at "walk"
  rename_i p5 H5 e5 S5
  refine rd_addL S5 (S5.vwC (by walk_at "mem")) (S5.vwC (by walk_at "mem")) (by show 1 + 1 ≤ 1000; decide) fun p6 H6 e6 S6 => ?_
  exact ret_L S6 k
abbrev s_evenly : Stmt := top 42
theorem sc_evenly : FnScope ["claims", "amounts"] ["claims"] (defScope s_evenly) := ⟨rfl, rfl, rfl, by decide +kernel, rfl, by decide +kernel, by decide +kernel⟩
theorem ok_evenly (B : Bl mg) (B2 : Bl3 mg) (C_whole_corner : Cal P w K mg base CX0 1 "whole_corner" ["parts"] spWC) (F : Fun K "evenly" "evenly" s_evenly f fd) : FnOk P w K mg base CX0 2 f fd ["claims"] (spFlat 1) := by
 refine F.ok sc_evenly (fun vs H Q E h => ?_) (fun cdv A outer s H vs Q E hr h => ?_)
 ·obtain ⟨G, a, _, h, _⟩ := h
  rw [← h.len]; rfl
 obtain ⟨G, l, eG, hA, ok, k⟩ := h
 obtain ⟨v, rfl, al⟩ := isAll1 hA
 have S : Sta H G H [] _ := Sta.enter eG al
 have few := ok.few
 refine ⟨_, (pss_cons (ps_set (i := 1) sc_evenly.nd rfl (by walk_at "o") (pe_comp (N := ["claim"]) (n := 1) (fr := []) rfl ⟨rfl, by decide +kernel, rfl, by decide, rfl, rfl, rfl, rfl, rfl⟩ (pi_list (pv 0)) (fun _ _ _ _ => (pg_name (i := 0) (show (["claim"] : List Str).Nodup from by decide +kernel) rfl (by walk_at "o"))) (fun _ _ _ _ => pif_nil) (fun _ _ _ _ => (pe_ix ix_seq (pv 0) pe_int (fun _ _ => rfl))))) (pss_one (ps_ret (pe_comp1 (N := ["level", "amounts"]) (n := 1) (fr := [1]) (y := "level") rfl ⟨rfl, by decide +kernel, rfl, by decide, rfl, rfl, fun _ _ => rfl, fun _ => rfl, rfl, rfl, rfl, rfl⟩ (pi_list (pe_sortS rfl rfl B2.sorted rfl B2.set (pe_op op_addA (pe_lst (pa_cons pe_int pa_nil)) (pv 1)))) (fun _ _ _ _ => (pg_name (i := 0) (show (["level", "amounts"] : List Str).Nodup from by decide +kernel) rfl (by walk_at "o"))) (fun _ _ _ _ => pif_nil) (fun _ _ _ _ => (pe_cal C_whole_corner hr (by walk_at "l") pass0 rfl (pa_cons (pe_comp (N := ["amount", "level"]) (n := 1) (fr := [0]) rfl ⟨rfl, by decide +kernel, rfl, by decide, rfl, rfl, rfl, rfl, rfl⟩ (pi_list (pv 1)) (fun _ _ _ _ => (pg_name (i := 0) (show (["amount", "level"] : List Str).Nodup from by decide +kernel) rfl (by walk_at "o"))) (fun _ _ _ _ => pif_nil) (fun _ _ _ _ => (pe_callB (call_minA rfl) rfl B.min bt_min (pa_cons (pv 0) (pa_cons (pv 1) pa_nil))))) pa_nil))))))), rd_start ?_⟩
 walk_at "walk"
 refine rd_kILd (xs := l.map claimD) S (by walk_at "m") fun J wk => ?_
 refine comp_map wk (fun j => .int (l.getD j (0, 0, 0)).1) (ys := (amV l).map PyData.int) (by unfold amV; rw [List.length_map, List.map_map]; exact range_getD (fun c : Cl => PyData.int c.1) (0, 0, 0) l) S (fun _ _ => .mem (by walk_at "mem")) (by rw [List.length_map]; omega) (fun j x v B' G' Kd Kn hx t1 S hd C ex s0 H0 => ?_) fun D H1 e1 S1 => ?_
 ·obtain ⟨c, hc, rfl⟩ := mapAt hx
  refine rd_name ⟨rfl, ?_⟩
  walk_at "walk"
  refine hd (by assumption) ?_
  rw [getD_of hc]
  exact Has.int
 have S2 : Sta H G H1 [] [(.list ((amV l).map PyData.int), .ref D)] := S1.freeze.weak (by walk_at "sub") (by walk_at "dats")
 clear S1
 have l8 : (amV l).length ≤ 8 := by rw [amV_len]; omega
 have L := ok.lv
 have Lf := L.few
 dsimp only at k
 unfold flV at k
 have ek : flatP (amV l) (lvV (amV l)) 1 = evP (amV l) (lvV (amV l)) := rfl
 rw [ek] at k
 generalize amV l = as at *
 walk_at "walk"
 rename_i p3 H3 e3 S3
 refine rd_addL S3 (S3.vwC (by walk_at "mem")) (S3.vwL (by walk_at "m")) (by rw [List.length_map]; show 1 + _ ≤ 1000; omega) fun p4 H4 e4 S4 => ?_
 rw [show [PyData.int 0] ++ as.map PyData.int = (0 :: as).map PyData.int from rfl] at S4
 refine rd_kSortS S4 (by walk_at "mem") (by rw [List.length_cons]; omega) fun os l5 H5 h1 h2 e5 S5 => ?_
 cases lvV_eq h1 h2
 generalize lvV as = ls at *
 refine rd_kILc (xs := ls.map PyData.int) S5 (by walk_at "mem") fun J2 wk2 => ?_
 refine comp_map wk2 (fun j => cornD (wholeC (minV as (ls.getD j 0)))) (ys := (evP as ls).map cornD) (by unfold evP; rw [List.length_map, List.map_map]; exact range_getD (fun z : Int => cornD (wholeC (minV as z))) 0 ls) S5 (fun _ _ => List.mem_cons_of_mem _ (by walk_at "mem")) (by rw [List.length_map]; omega) (fun j x v B' G' Kd Kn hx t1 S hd C ex s0 H0 => ?_) fun D6 H6 e6 S6 => ?_
 ·obtain ⟨z, hz, rfl⟩ := mapAt hx
  cases S.int1
  refine rd_name ⟨rfl, ?_⟩
  walk_at "walk"
  refine rd_kILd (xs := as.map PyData.int) S (by walk_at "m") fun J3 wk3 => ?_
  refine comp_map wk3 (fun i => .int (min (as.getD i 0) z)) (ys := (minV as z).map PyData.int) (by unfold minV; rw [List.length_map, List.map_map]; exact range_getD (fun a : Int => PyData.int (min a z)) 0 as) S (fun _ _ => .mem (by walk_at "mem")) (by rw [List.length_map]; omega) (fun i x u B3 G3 Kd2 Kn2 hx2 t2 S2 hd2 C2 ex2 s2 H2 => ?_) fun D7 H7 e7 S7 => ?_
  ·obtain ⟨a, ha, rfl⟩ := mapAt hx2
   cases S2.int1
   refine rd_name ⟨rfl, ?_⟩
   walk_at "walk"
   refine hd2 S2 ?_
   rw [getD_of ha]
   exact Has.int
  walk_at "walk"
  refine rd_wc S7.freeze (by walk_at "m") (by unfold minV; rw [List.length_map]; exact l8) fun w8 H8 e8 S8 => ?_
  refine hd S8 ?_
  rw [getD_of hz]
  exact .mem (by walk_at "mem")
 exact ret_L S6 k
abbrev s_losses : Stmt := top 43
theorem sc_losses : FnScope ["claims"] ["claims"] (defScope s_losses) := ⟨rfl, rfl, rfl, by decide +kernel, rfl, by decide +kernel, by decide +kernel⟩
theorem ok_losses (C_evenly : Cal P w K mg base CX0 2 "evenly" ["claims"] (spFlat 1)) (C_turned : Cal P w K mg base CX0 5 "turned" ["path"] spTurned) (F : Fun K "losses" "losses" s_losses f fd) : FnOk P w K mg base CX0 6 f fd ["claims"] (spFlat 2) := by
 refine F.ok sc_losses (fun vs H Q E h => ?_) (fun cdv A outer s H vs Q E hr h => ?_)
 ·obtain ⟨G, a, _, h, _⟩ := h
  rw [← h.len]; rfl
 obtain ⟨G, l, eG, hA, ok, k⟩ := h
 obtain ⟨v, rfl, al⟩ := isAll1 hA
 have S : Sta H G H [] _ := Sta.enter eG al
 refine ⟨_, (pss_one (ps_ret (pe_cal C_turned hr (by walk_at "l") pass0 rfl (pa_cons (pe_cal C_evenly hr (by walk_at "l") pass0 rfl (pa_cons (pv 0) pa_nil)) pa_nil)))), rd_start ?_⟩
 walk_at "walk"
 refine rd_flat S (by walk_at "m") ok fun p1 H1 e1 S1 => ?_
 walk_at "walk"
 refine rd_turned (a := flV 1 l) S1.freeze (by walk_at "m") (ok.lv.inE ok.am) fun p2 H2 e2 S2 => ?_
 rw [show turnedV (flV 1 l) = flV 2 l from turned_ev ok.lv] at S2
 exact ret_L S2 k
abbrev s_upto : Stmt := top 46
theorem sc_upto : FnScope ["portion", "first", "last"] ["portion", "first", "last"] (defScope s_upto) := ⟨rfl, rfl, rfl, by decide +kernel, rfl, by decide +kernel, by decide +kernel⟩
theorem ok_upto (C_behind : Cal P w K mg base CX0 5 "behind" ["path", "second"] spBehind) (C_scaled : Cal P w K mg base CX0 4 "scaled" ["path", "portion"] spScaled) (C_minus : Cal P w K mg base CX0 3 "minus" ["one", "two"] spMinus) (F : Fun K "upto" "upto" s_upto f fd) : FnOk P w K mg base CX0 6 f fd ["portion", "first", "last"] spUpto := by
 refine F.ok sc_upto (fun vs H Q E h => ?_) (fun cdv A outer s H vs Q E hr h => ?_)
 ·obtain ⟨G, a, _, h, _⟩ := h
  rw [← h.len]; rfl
 obtain ⟨G, ⟨p, a, b⟩, eG, hA, ok, k⟩ := h
 obtain ⟨v0, v1, v2, rfl, al⟩ := isAll3 hA
 have S : Sta H G H [] _ := Sta.enter eG al
 dsimp only at ok k S
 have zp := ok.sz
 have one : SzQ 1 (1 : Rat) := by unfold SzQ Sz; decide +kernel
 obtain ⟨m, pm⟩ := ok.m
 refine ⟨_, (pss_one (ps_ret (pe_cal C_behind hr (by walk_at "l") pass0 rfl (pa_cons (pe_cal C_scaled hr (by walk_at "l") pass0 rfl (pa_cons (pv 1) (pa_cons (pv 0) pa_nil))) (pa_cons (pe_cal C_scaled hr (by walk_at "l") pass0 rfl (pa_cons (pv 2) (pa_cons (pe_cal C_minus hr (by walk_at "l") pass0 rfl (pa_cons (pe_tup (pa_cons pe_int (pa_cons pe_int pa_nil))) (pa_cons (pv 0) pa_nil))) pa_nil))) pa_nil))))), rd_start ?_⟩
 walk_at "walk"
 refine rd_scaled (a := a) (p := p) S (by walk_at "m") (by walk_at "m") ok.pa (zp.mono (by decide)) fun p1 H1 e1 S1 => ?_
 have S2 := S1.freeze
 walk_at "walk"
 rename_i p3 H3 e3 S3
 refine rd_q2 (p := (1 : Rat)) (q := p) S3 (by walk_at "m") (by walk_at "m") one zp (by decide) True.intro fun w4 H4 e4 S4 => ?_
 walk_at "walk"
 refine rd_scaled (a := b) (p := 1 - p) S4 (by walk_at "m") (by walk_at "m") ok.pb ((one.sub zp).mono (by decide)) fun p5 H5 e5 S5 => ?_
 walk_at "walk"
 refine rd_behind (a := scaledV p a) (b := scaledV (1 - p) b) S5.freeze (by walk_at "m") (by walk_at "m") ok.sa ok.sb pm fun p6 H6 e6 S6 => ?_
 exact ret_L S6 k
abbrev s_course : Stmt := top 40
theorem sc_course : FnScope ["shape", "claims", "word"] ["shape", "claims"] (defScope s_course) := ⟨rfl, rfl, rfl, by decide +kernel, rfl, by decide +kernel, by decide +kernel⟩
theorem ok_course (C_shares : Cal P w K mg base CX0 3 "shares" ["claims"] (spFlat 0)) (C_evenly : Cal P w K mg base CX0 2 "evenly" ["claims"] (spFlat 1)) (C_losses : Cal P w K mg base CX0 6 "losses" ["claims"] (spFlat 2)) (C_upto : Cal P w K mg base CX0 6 "upto" ["portion", "first", "last"] spUpto) (F : Fun K "course" "course" s_course f fd) : FnOk P w K mg base CX0 7 f fd ["shape", "claims"] spCourse := by
 refine F.ok sc_course (fun vs H Q E h => ?_) (fun cdv A outer s H vs Q E hr h => ?_)
 ·obtain ⟨G, a, _, h, _⟩ := h
  rw [← h.len]; rfl
 obtain ⟨G, ⟨n, l⟩, eG, hA, ⟨hn, ok⟩, k⟩ := h
 obtain ⟨v0, v1, rfl, al⟩ := isAll2 hA
 have S : Sta H G H [] _ := Sta.enter eG al
 dsimp only at hn ok k S
 refine ⟨_, (pss_cons (ps_set (i := 2) sc_course.nd rfl (by walk_at "o") (pe_ix ix_seq (pv 0) pe_int (fun _ _ => rfl))) (pss_cons (ps_if (pt_cmpR (op_eqA (units_of hr)) (pv 2) pe_str (nomark _)) (pss_one (ps_ret (pe_cal C_shares hr (by walk_at "l") pass0 rfl (pa_cons (pv 1) pa_nil)))) pss_nil) (pss_cons (ps_if (pt_cmpR (op_eqA (units_of hr)) (pv 2) pe_str (nomark _)) (pss_one (ps_ret (pe_cal C_evenly hr (by walk_at "l") pass0 rfl (pa_cons (pv 1) pa_nil)))) pss_nil) (pss_cons (ps_if (pt_cmpR (op_eqA (units_of hr)) (pv 2) pe_str (nomark _)) (pss_one (ps_ret (pe_cal C_losses hr (by walk_at "l") pass0 rfl (pa_cons (pv 1) pa_nil)))) pss_nil) (pss_cons (ps_if (pt_cmpR (op_eqA (units_of hr)) (pv 2) pe_str (nomark _)) (pss_one (ps_ret (pe_cal C_upto hr (by walk_at "l") pass0 rfl (pa_cons (pe_tup (pa_cons pe_int (pa_cons pe_int pa_nil))) (pa_cons (pe_cal C_evenly hr (by walk_at "l") pass0 rfl (pa_cons (pv 1) pa_nil)) (pa_cons (pe_cal C_losses hr (by walk_at "l") pass0 rfl (pa_cons (pv 1) pa_nil)) pa_nil)))))) pss_nil) (pss_cons (ps_if (pt_cmpR (op_eqA (units_of hr)) (pv 2) pe_str (nomark _)) (pss_one ps_never) pss_nil) (pss_cons (ps_if (pt_cmpR (op_eqA (units_of hr)) (pv 2) pe_str (nomark _)) (pss_one ps_never) pss_nil) (pss_cons (ps_if (pt_cmpR (op_eqA (units_of hr)) (pv 2) pe_str (nomark _)) (pss_one ps_never) pss_nil) (pss_one ps_never))))))))), rd_start ?_⟩
 match n, hn, k, S with
 | 0, _, k, S =>
   simp only [flatR, Rl.shape] at S
   walk_at "walk"
   refine rd_flat S (by walk_at "m") ok fun p1 H1 e1 S1 => ?_
   exact ret_L S1 k
 | 1, _, k, S =>
   simp only [flatR, Rl.shape] at S
   walk_at "walk"
   refine rd_flat S (by walk_at "m") ok fun p1 H1 e1 S1 => ?_
   exact ret_L S1 k
 | 2, _, k, S =>
   simp only [flatR, Rl.shape] at S
   walk_at "walk"
   refine rd_flat S (by walk_at "m") ok fun p1 H1 e1 S1 => ?_
   exact ret_L S1 k
 | 3, _, k, S =>
   simp only [flatR, Rl.shape] at S
   walk_at "walk"
   rename_i p0 H0 e0 S0
   have eh : PyData.tuple [.int 1, .int 2] = frD (1 / 2) := by
    unfold frD
    rw [show ((1 : Rat) / 2).num = 1 by decide +kernel, show ((1 : Rat) / 2).den = 2 by decide +kernel]
    rfl
   rw [eh] at S0
   refine rd_flat (n := 1) S0 (by walk_at "m") ok fun p1 H1 e1 S1 => ?_
   have S2 := S1.freeze
   walk_at "walk"
   refine rd_flat (n := 2) S2 (by walk_at "m") ok fun p3 H3 e3 S3 => ?_
   have S4 := S3.freeze
   walk_at "walk"
   refine rd_upto (p := 1 / 2) (a := flV 1 l) (b := flV 2 l) S4 (by walk_at "m") (by walk_at "m") (by walk_at "m") (up_ok ok) fun p5 H5 e5 S5 => ?_
   rw [upto_half] at S5
   exact ret_L S5 k
abbrev s_Rule_path : Stmt := inClass (top 52) 3
theorem sc_Rule_path : FnScope ["self", "claims"] ["self", "claims"] (defScope s_Rule_path) := ⟨rfl, rfl, rfl, by decide +kernel, rfl, by decide +kernel, by decide +kernel⟩
theorem ok_path {fS fT Ru : Addr} (okA : ∀ r : Rl, ROk K fS fT Ru (A.cls r)) (C_check_claims : Cal P w K mg base CX0 1 "check_claims" ["claims"] spCheck) (C_course : Cal P w K mg base CX0 7 "course" ["shape", "claims"] spCourse) (F : Fun K "path" "Rule.path" s_Rule_path f fd) : FnOk P w K mg base CX0 8 f fd ["self", "claims"] (spPath A) := by
 refine F.ok sc_Rule_path (fun vs H Q E h => ?_) (fun cdv A' outer s H vs Q E hr h => ?_)
 ·obtain ⟨G, a, _, h, _⟩ := h
  rw [← h.len]; rfl
 obtain ⟨G, ⟨n, l⟩, eG, hA, ⟨hn, ok⟩, k⟩ := h
 obtain ⟨v0, v1, rfl, al⟩ := isAll2 hA
 have S : Sta H G H [] _ := Sta.enter eG al
 dsimp only at hn ok k S
 refine ⟨_, (pss_cons (ps_expr (pe_cal C_check_claims hr (by walk_at "l") pass0 rfl (pa_cons (pv 1) pa_nil))) (pss_one (ps_ret (pe_cal C_course hr (by walk_at "l") pass0 rfl (pa_cons (pe_fld (pv 0) rfl) (pa_cons (pv 1) pa_nil)))))), rd_start ?_⟩
 walk_at "walk"
 refine rd_check S (by walk_at "m") ok fun H1 e1 S1 => ?_
 walk_at "walk"
 refine rd_kFld S1 (by walk_at "m") (okA (flatR n)) fun w2 S2 => ?_
 walk_at "walk"
 refine rd_course S2 (by walk_at "m") (by walk_at "m") hn ok fun p3 H3 e3 S3 => ?_
 exact ret_L S3 k
abbrev s_Rule_parts : Stmt := inClass (top 52) 4
theorem sc_Rule_parts : FnScope ["self", "claims", "purse"] ["self", "claims", "purse"] (defScope s_Rule_parts) := ⟨rfl, rfl, rfl, by decide +kernel, rfl, by decide +kernel, by decide +kernel⟩
theorem ok_parts {fS fT Ru fP : Addr} {fdP : FuncData} (okA : ∀ r : Rl, ROk K fS fT Ru (A.cls r)) (okP : ∀ r : Rl, Meth K (A.cls r) "path" fP) (F_Rule_path : FnOk P w K mg base CX0 8 fP fdP ["self", "claims"] (spPath A)) (b_Rule_path : Binds K fdP ["self", "claims"] []) (C_parts_at : Cal P w K mg base CX0 6 "parts_at" ["path", "purse"] spPartsAt) (F : Fun K "parts" "Rule.parts" s_Rule_parts f fd) : FnOk P w K mg base CX0 9 f fd ["self", "claims", "purse"] (spParts A) := by
 refine F.ok sc_Rule_parts (fun vs H Q E h => ?_) (fun cdv A' outer s H vs Q E hr h => ?_)
 ·obtain ⟨G, a, _, h, _⟩ := h
  rw [← h.len]; rfl
 obtain ⟨G, ⟨n, l, e⟩, eG, hA, ⟨⟨hn, ok⟩, ze, e0⟩, k⟩ := h
 obtain ⟨v0, v1, v2, rfl, al⟩ := isAll3 hA
 have S : Sta H G H [] _ := Sta.enter eG al
 dsimp only at hn ok ze e0 k S
 refine ⟨_, (pss_one (ps_ret (pe_cal C_parts_at hr (by walk_at "l") pass0 rfl (pa_cons (pe_methB (pv 0) (F_Rule_path.mono (by walk_at "l")) hr b_Rule_path pass0 (pa_cons (pv 1) pa_nil)) (pa_cons (pv 2) pa_nil))))), rd_start ?_⟩
 walk_at "walk"
 refine rd_kMB (C := A.cls (flatR n)) S (by walk_at "m") (okA (flatR n)).cl (okP (flatR n)) (by decide +kernel) ?_
 walk_at "walk"
 refine rd_path (n := n) S (by walk_at "m") (by walk_at "m") hn ok fun p1 H1 e1 S1 => ?_
 walk_at "walk"
 refine rd_partsat (a := flV n l) (e := e) (m := 300) (n := 400) S1.freeze (by walk_at "m") (by walk_at "m") (flat_R ok.lv ok.am hn).1 ze (by decide) e0 fun w2 H2 e2 S2 => ?_
 exact ret_T S2 k (by walk_at "m")
end
abbrev s_law_cell_at : Stmt := top 62
theorem sc_law_cell_at : FnScope ["_law_script", "_law_k"] ["_law_script", "_law_k"] (defScope s_law_cell_at) := ⟨rfl, rfl, rfl, by decide +kernel, rfl, by decide +kernel, by decide +kernel⟩
theorem ok_cell (B : Bl mg) (F : Fun K "_law_cell_at" "_law_cell_at" s_law_cell_at f fd) : FnOk P w K mg base CX0 1 f fd ["_law_script", "_law_k"] (spCell K) := by
 refine F.ok sc_law_cell_at (fun vs H Q E h => ?_) (fun cdv A outer s H vs Q E hr h => ?_)
 ·obtain ⟨a, ns, k, rfl, _⟩ := h
  rfl
 obtain ⟨a, ns, k, rfl, hS, h0, q⟩ := h
 refine ⟨_, (pss_cons (ps_if (pt_cmpR op_lt (pv 1) (pe_callB call_lenA rfl B.len bt_len (pa_cons (pv 0) pa_nil)) (nomark _)) (pss_one (ps_ret (pe_ix ix_seq (pv 0) (pv 1) (fun _ _ => rfl)))) pss_nil) (pss_one (ps_ret pe_int))), rd_start ?_⟩
 walk_at "walk"
 refine rd_lenS hS ?_
 walk_at "walk"
 refine iteD (fun c => ?_) (fun c => ?_)
 ·walk_at "walk"
  refine rd_ixS hS h0 c ?_
  unfold cellAt at q
  rw [if_pos c] at q
  exact q
 ·walk_at "walk"
  unfold cellAt at q
  rw [if_neg c] at q
  exact q
abbrev s_law_mixed : Stmt := top 63
theorem sc_law_mixed : FnScope ["_law_cell", "_law_place", "_law_number"] ["_law_cell", "_law_place"] (defScope s_law_mixed) := ⟨rfl, rfl, rfl, by decide +kernel, rfl, by decide +kernel, by decide +kernel⟩
theorem ok_mixed (F : Fun K "_law_mixed" "_law_mixed" s_law_mixed f fd) : FnOk P w K mg base CX0 1 f fd ["_law_cell", "_law_place"] spMix := by
 refine F.ok sc_law_mixed (fun vs H Q E h => ?_) (fun cdv A outer s H vs Q E hr h => ?_)
 ·obtain ⟨c, p, rfl, _⟩ := h
  rfl
 obtain ⟨c, p, rfl, q⟩ := h
 refine ⟨_, (pss_cons (ps_set (i := 2) sc_law_mixed.nd rfl (by walk_at "o") (pe_op op_mod (pe_op op_addA (pe_op op_addA (pe_op op_mulB (pe_op op_mod (pv 0) pe_int) pe_int) (pe_op op_mulB pe_int (pv 1))) pe_int) pe_int)) (pss_cons (ps_set (i := 2) sc_law_mixed.nd rfl (by walk_at "o") (pe_op op_mod (pe_op op_addA (pe_op op_addA (pe_op op_mulB (pv 2) (pv 2)) (pe_op op_mulB pe_int (pv 1))) pe_int) pe_int)) (pss_one (ps_ret (pe_op op_mod (pe_op op_mulB (pv 2) pe_int) pe_int))))), rd_start ?_⟩
 walk_at "walk"
 exact q
abbrev s_law_divisor : Stmt := top 64
theorem sc_law_divisor : FnScope ["_law_one", "_law_two"] ["_law_one", "_law_two"] (defScope s_law_divisor) := ⟨rfl, rfl, rfl, by decide +kernel, rfl, by decide +kernel, by decide +kernel⟩
theorem ok_divisor (B : Bl mg) (F : Fun K "_law_divisor" "_law_divisor" s_law_divisor f fd) : FnOk P w K mg base CX0 1 f fd ["_law_one", "_law_two"] spDiv2 := by
 refine F.ok sc_law_divisor (fun vs H Q E h => ?_) (fun cdv A outer s H vs Q E hr h => ?_)
 ·obtain ⟨a, b, rfl, _⟩ := h
  rfl
 obtain ⟨a, b, rfl, hb, q⟩ := h
 refine ⟨_, (pss_cons (ps_while PassesOwn.never (pt_cmpR (op_neA (units_of hr)) (pv 1) pe_int (nomark _)) (pss_one (ps_par (i := 0) (j := 1) rfl sc_law_divisor.nd rfl rfl (by decide) rfl rfl (pa_cons (pv 1) (pa_cons (pe_op op_modN (pv 0) (pv 1)) pa_nil)) rfl))) (pss_one (ps_ret (pe_callB call_absA rfl B.abs bt_abs (pa_cons (pv 0) pa_nil))))), rd_start ?_⟩
 refine while_h (fun m σ H2 => ∃ (x y : Int), σ = [some (.int x), some (.int y)] ∧ 0 ≤ y ∧ Int.gcd x y = Int.gcd a b ∧ H2 = H ∧ m = y.toNat) _ ⟨a, b, rfl, hb, rfl, rfl, rfl⟩ ?_
 rintro m σ H2 ⟨x, y, rfl, hy, hg, rfl, rfl⟩
 walk_at "walk"
 refine rd_wh (fun c => ?_) (fun c => ?_)
 ·have c : y ≠ 0 := by simpa using c
  walk_at "walk"
  have e : x.fmod y = x % y := Int.fmod_eq_emod_of_nonneg x hy
  have l1 := Int.emod_nonneg x c
  have l2 := Int.emod_lt_of_pos x (show 0 < y by omega)
  refine ⟨(x.fmod y).toNat, by rw [e]; omega, y, x.fmod y, rfl, by rw [e]; exact l1, ?_, rfl, rfl⟩
  rw [e, gcd_step, hg]
 ·have c : y = 0 := by simpa using c
  subst c
  walk_at "walk"
  have e : (x.natAbs : Int) = ((Int.gcd a b : Nat) : Int) := by
   rw [← hg, Int.gcd_zero]
  rw [e]
  exact q
abbrev s_law_lowest : Stmt := top 65
theorem sc_law_lowest : FnScope ["_law_top", "_law_bottom", "_law_by"] ["_law_top", "_law_bottom"] (defScope s_law_lowest) := ⟨rfl, rfl, rfl, by decide +kernel, rfl, by decide +kernel, by decide +kernel⟩
theorem ok_lawlow (C_law_divisor : Cal P w K mg base CX0 1 "_law_divisor" ["_law_one", "_law_two"] spDiv2) (F : Fun K "_law_lowest" "_law_lowest" s_law_lowest f fd) : FnOk P w K mg base CX0 2 f fd ["_law_top", "_law_bottom"] spLawLow := by
 refine F.ok sc_law_lowest (fun vs H Q E h => ?_) (fun cdv A outer s H vs Q E hr h => ?_)
 ·obtain ⟨G, a, _, h, _⟩ := h
  rw [← h.len]; rfl
 obtain ⟨G, ⟨a, b⟩, eG, hA, ⟨hb, sb⟩, k⟩ := h
 cases (isAll_ints (ns := [a, b]) hA)
 have S : Sta H G H [] [] := Sta.enter eG fun p hp => absurd hp List.not_mem_nil
 dsimp only at hb sb k
 have gp : 0 < Int.gcd a b := Int.gcd_pos_of_ne_zero_right a (by omega)
 have hc : CDv a ((Int.gcd a b : Nat) : Int) := ⟨by omega, by
  refine Sz.le sb ?_
  have := Nat.le_of_dvd (by omega) (Int.gcd_dvd_natAbs_right a b)
  omega⟩
 refine ⟨_, (pss_cons (ps_set (i := 2) sc_law_lowest.nd rfl (by walk_at "o") (pe_cal C_law_divisor hr (by walk_at "l") pass0 rfl (pa_cons (pv 0) (pa_cons (pv 1) pa_nil)))) (pss_one (ps_ret (pe_tup (pa_cons (pe_op op_fdivB (pv 0) (pv 2)) (pa_cons (pe_op op_fdivB (pv 1) (pv 2)) pa_nil)))))), rd_start ?_⟩
 walk_at "walk"
 refine ret_T (by assumption) k (.mem ?_)
 rw [show frD (Rat.divInt a b) = .tuple [.int (a.fdiv ((Int.gcd a b : Nat) : Int)), .int (b.fdiv ((Int.gcd a b : Nat) : Int))] by unfold frD; rw [← (low_pos hb).1, ← (low_pos hb).2]]
 walk_at "mem"
local macro_rules | `(tactic| walk_at "rd") => `(tactic| with_reducible refine' rd_whole ?_)
abbrev s_law_whole : Stmt := top 66
theorem sc_law_whole : FnScope ["_law_found"] ["_law_found"] (defScope s_law_whole) := ⟨rfl, rfl, rfl, by decide +kernel, rfl, by decide +kernel, by decide +kernel⟩
theorem ok_whole (B : Bl mg) (F : Fun K "_law_whole" "_law_whole" s_law_whole f fd) : FnOk P w K mg base CX0 1 f fd ["_law_found"] spWhole := by
 refine F.ok sc_law_whole (fun vs H Q E h => ?_) (fun cdv A outer s H vs Q E hr h => ?_)
 ·obtain ⟨n, rfl, _⟩ := h
  rfl
 obtain ⟨n, rfl, q⟩ := h
 have S : Sta H H H [] [] := Sta.enter (Same.refl _) fun p hp => absurd hp List.not_mem_nil
 have hi : Is H (.int n) (.int n) := S.hp Has.int
 refine ⟨_, (pss_one (ps_ret (pe_and (pe_callB call_isi rfl B.isinstance bt_isinstance (pa_cons (pv 0) (pa_cons (pe_bltn (v := .ty "int") rfl B.int bt_int rfl) pa_nil))) (pe_one (pe_not (pe_callB call_isi rfl B.isinstance bt_isinstance (pa_cons (pv 0) (pa_cons (pe_bltn (v := .ty "bool") rfl B.bool bt_bool rfl) pa_nil)))))))), rd_start ?_⟩
 walk_at "walk"
 exact q
abbrev s_law_is_fraction : Stmt := top 67
theorem sc_law_is_fraction : FnScope ["_law_found"] ["_law_found"] (defScope s_law_is_fraction) := ⟨rfl, rfl, rfl, by decide +kernel, rfl, by decide +kernel, by decide +kernel⟩
theorem ok_frac (B : Bl mg) (C_law_whole : Cal P w K mg base CX0 1 "_law_whole" ["_law_found"] spWhole) (C_law_divisor : Cal P w K mg base CX0 1 "_law_divisor" ["_law_one", "_law_two"] spDiv2) (F : Fun K "_law_is_fraction" "_law_is_fraction" s_law_is_fraction f fd) : FnOk P w K mg base CX0 2 f fd ["_law_found"] spFrac := by
 refine F.ok sc_law_is_fraction (fun vs H Q E h => ?_) (fun cdv A outer s H vs Q E hr h => ?_)
 ·obtain ⟨a, h, _⟩ := h
  rw [← h.len]; rfl
 obtain ⟨a, hA, _, k⟩ := h
 obtain ⟨v, rfl, al⟩ := isAll1 hA
 have S : Sta H H H [] [(frD a, v)] := Sta.enter (Same.refl _) al
 have hv := S.hp (x := frD a) (v := v) (by walk_at "m")
 refine ⟨_, (pss_cons (ps_if (PW.pt (pw_or (pt_not (pt_val (pe_callB call_isi rfl B.isinstance bt_isinstance (pa_cons (pv 0) (pa_cons (pe_bltn (v := .ty "tuple") rfl B.tuple bt_tuple rfl) pa_nil))))) (pw_or (pt_cmpR (op_neA (units_of hr)) (pe_callB call_lenA rfl B.len bt_len (pa_cons (pv 0) pa_nil)) pe_int (nomark _)) (pw_or (pt_not (pt_val (pe_cal C_law_whole hr (by walk_at "l") pass0 rfl (pa_cons (pe_ix ix_seq (pv 0) pe_int (fun _ _ => rfl)) pa_nil)))) (pw_or1 (pt_not (pt_val (pe_cal C_law_whole hr (by walk_at "l") pass0 rfl (pa_cons (pe_ix ix_seq (pv 0) pe_int (fun _ _ => rfl)) pa_nil))))))))) (pss_one (ps_ret pe_bl)) pss_nil) (pss_one (ps_ret (pe_and (pe_cmpR op_gt (pe_ix ix_seq (pv 0) pe_int (fun _ _ => rfl)) pe_int (nomark _)) (pe_one (pe_cmpR (op_eqA (units_of hr)) (pe_cal C_law_divisor hr (by walk_at "l") pass0 rfl (pa_cons (pe_ix ix_seq (pv 0) pe_int (fun _ _ => rfl)) (pa_cons (pe_ix ix_seq (pv 0) pe_int (fun _ _ => rfl)) pa_nil))) pe_int (nomark _))))))), rd_start ?_⟩
 walk_at "walk"
 refine iteNS rfl ?_
 walk_at "walk"
 refine iteD (fun _ => ?_) (fun c => absurd (by have := a.den_pos; omega) c)
 walk_at "walk"
 have hg : ((a.num.gcd (a.den : Int) : Nat) : Int) = 1 := by
  have := a.reduced
  unfold Nat.Coprime at this
  rw [Int.gcd, Int.natAbs_natCast, this]
  rfl
 rw [decide_eq_true hg]
 exact k H (Same.refl _)
section
variable {A : RAd}
abbrev s_law_labels : Stmt := top 68
theorem sc_law_labels : FnScope ["_law_number"] ["_law_number"] (defScope s_law_labels) := ⟨rfl, rfl, rfl, by decide +kernel, rfl, by decide +kernel, by decide +kernel⟩
theorem ok_labels (F : Fun K "_law_labels" "_law_labels" s_law_labels f fd) : FnOk P w K mg base CX0 1 f fd ["_law_number"] spLabels := by
 refine F.ok sc_law_labels (fun vs H Q E h => ?_) (fun cdv A outer s H vs Q E hr h => ?_)
 ·obtain ⟨G, a, _, h, _⟩ := h
  rw [← h.len]; rfl
 obtain ⟨G, n, eG, hA, _, k⟩ := h
 cases (isAll_ints (ns := [n]) hA)
 have S : Sta H G H [] [] := Sta.enter eG fun p hp => absurd hp List.not_mem_nil
 dsimp only at k
 unfold labV at k
 refine ⟨_, (pss_cons (ps_if (pt_cmpR (op_eqA (units_of hr)) (pe_op op_mod (pv 0) pe_int) pe_int (nomark _)) (pss_one (ps_ret (pe_lst (pa_cons pe_int (pa_cons pe_int (pa_cons pe_int pa_nil)))))) pss_nil) (pss_cons (ps_if (pt_cmpR (op_eqA (units_of hr)) (pe_op op_mod (pv 0) pe_int) pe_int (nomark _)) (pss_one (ps_ret (pe_lst (pa_cons (pe_op op_addA (pe_op op_pow pe_int pe_int) pe_int) (pa_cons pe_int (pa_cons pe_int pa_nil)))))) pss_nil) (pss_cons (ps_if (pt_cmpR (op_eqA (units_of hr)) (pe_op op_mod (pv 0) pe_int) pe_int (nomark _)) (pss_one (ps_ret (pe_lst (pa_cons pe_int (pa_cons (pe_op op_pow pe_int pe_int) (pa_cons pe_int pa_nil)))))) pss_nil) (pss_one (ps_ret (pe_lst (pa_cons pe_int (pa_cons pe_int (pa_cons pe_int pa_nil))))))))), rd_start ?_⟩
 walk_at "walk"
 refine iteD (fun c => ?_) (fun c => ?_)
 ·rw [if_pos c] at k
  walk_at "walk"
  exact ret_L (by assumption) k
 rw [if_neg c] at k
 walk_at "walk"
 refine iteD (fun c => ?_) (fun c => ?_)
 ·rw [if_pos c] at k
  walk_at "walk"
  exact ret_L (by assumption) k
 rw [if_neg c] at k
 walk_at "walk"
 refine iteD (fun c => ?_) (fun c => ?_)
 ·rw [if_pos c] at k
  walk_at "walk"
  exact ret_L (by assumption) k
 rw [if_neg c] at k
 walk_at "walk"
 exact ret_L (by assumption) k
abbrev s_law_even : Stmt := top 70
theorem sc_law_even : FnScope ["_law_amounts", "_law_parts", "_law_level", "_law_amount", "_law_part"] ["_law_amounts", "_law_parts"] (defScope s_law_even) := ⟨rfl, rfl, rfl, by decide +kernel, rfl, by decide +kernel, by decide +kernel⟩
theorem ok_even (B : Bl mg) (F : Fun K "_law_even" "_law_even" s_law_even f fd) : FnOk P w K mg base CX0 1 f fd ["_law_amounts", "_law_parts"] spEven := by
 refine F.ok sc_law_even (fun vs H Q E h => ?_) (fun cdv A outer s H vs Q E hr h => ?_)
 ·obtain ⟨a, h, _⟩ := h
  rw [← h.len]; rfl
 obtain ⟨⟨am, tk⟩, hA, ⟨l8, ok⟩, k⟩ := h
 obtain ⟨v0, v1, rfl, al⟩ := isAll2 hA
 have S : Sta H H H [] [(rowD am, v0), (rowD tk, v1)] := Sta.enter (Same.refl _) al
 dsimp only at l8 ok
 have lt := ok.1
 refine ⟨_, (pss_cons (ps_set (i := 2) sc_law_even.nd rfl (by walk_at "o") (pe_callB (call_maxL rfl) rfl B.max bt_max (pa_cons (pe_op op_addA (pe_lst (pa_cons pe_int pa_nil)) (pv 1)) pa_nil))) (pss_cons (ps_for PassesOwn.never rfl (pi_zip true true rfl B.zip (pa_cons (pv 0) (pa_cons (pv 1) pa_nil))) (pg_tup rfl (pgs_cons (pg_name (i := 3) sc_law_even.nd rfl (by walk_at "o")) (pgs_cons (pg_name (i := 4) sc_law_even.nd rfl (by walk_at "o")) pgs_nil))) (pss_one (ps_if (PW.pt (pw_or (pt_cmpR op_lt (pv 4) pe_int (nomark _)) (pw_or (pt_cmpR op_gt (pv 4) (pv 3) (nomark _)) (pw_or1 (PW.pt (pw_and (pt_cmpR op_lt (pv 4) (pv 3) (nomark _)) (pw_and1 (pt_cmpR (op_neA (units_of hr)) (pv 4) (pv 2) (nomark _))))))))) (pss_one (ps_ret pe_bl)) pss_nil))) (pss_one (ps_ret pe_bl)))), rd_start ?_⟩
 walk_at "walk"
 rename_i p1 H1 e1 S1
 obtain ⟨a1, rfl⟩ := S1.refL (xs := tk.map PyData.int) (v := v1) (by walk_at "m")
 refine rd_addL S1 (S1.vwC (by walk_at "mem")) (S1.vwL (by walk_at "m")) (by rw [List.length_map]; show 1 + _ ≤ 1000; omega) fun p2 H2 e2 S2 => ?_
 walk_at "walk"
 refine rd_maxC (ns := 0 :: tk) S2 (by walk_at "mem") (Nat.zero_lt_succ _) fun m hm top => ?_
 have S3 : Sta H H H2 [] [(rowD am, v0), (rowD tk, .ref a1)] := S2.weak (by walk_at "sub") (by walk_at "dats")
 clear S2 S1
 walk_at "walk"
 refine rd_kZiLL (xs := am.map PyData.int) (ys := tk.map PyData.int) S3 (by walk_at "m") (by walk_at "m") fun J wk => ?_
 refine for_wk wk (fun i σ cs ds => (∃ x3 x4, σ = [some v0, some (.ref a1), some (.int m), x3, x4]) ∧ cs = [] ∧ ds = [(rowD am, v0), (rowD tk, .ref a1)]) S3 ⟨⟨none, none, rfl⟩, rfl, rfl⟩ (fun i σ cs ds h => ?_) ?_ ?_
 ·obtain ⟨_, rfl, rfl⟩ := h
  exact ⟨.mem (by walk_at "mem"), fun _ _ h => h.tail, .mem (by walk_at "mem")⟩
 ·rintro i x u σ H4 cs ds hx ⟨⟨x3, x4, rfl⟩, rfl, rfl⟩ S4
  obtain ⟨xa, xb, h1, h2, rfl⟩ := zipD_at hx
  obtain ⟨a, ha, rfl⟩ := mapAt h1
  obtain ⟨p, hp, rfl⟩ := mapAt h2
  obtain ⟨b1, b2, b3⟩ := ok.2 i a p ha hp
  refine rd_gTup (rd_kGT2 S4 (by walk_at "m") fun w1 w2 S5 => ?_)
  cases S5.int1
  cases S5.drop1.int1
  walk_at "walk"
  refine iteD (fun c => absurd c (by omega)) (fun _ => ?_)
  walk_at "walk"
  refine iteD (fun c => absurd c (by omega)) (fun _ => ?_)
  walk_at "walk"
  have fin : ∀ σ', (∃ x3 x4, σ' = [some v0, some (.ref a1), some (.int m), x3, x4]) → AtP H H (fun σ cs ds => (∃ x3 x4, σ = [some v0, some (.ref a1), some (.int m), x3, x4]) ∧ cs = [] ∧ ds = [(rowD am, v0), (rowD tk, .ref a1)]) σ' H4 := fun σ' h => rd_at (S5.dat (by walk_at "dats")) ⟨h, rfl, rfl⟩
  refine iteD (fun c => ?_) (fun c => ?_)
  ·have e : p = m := by
    have t1 := top p (List.mem_cons_of_mem _ (List.mem_of_getElem? hp))
    rcases List.mem_cons.mp hm with z | z
    ·omega
    ·have := b3 c m z
     omega
   walk_at "walk"
   refine iteNS e ?_
   walk_at "walk"
   exact fin _ ⟨_, _, rfl⟩
  ·walk_at "walk"
   exact fin _ ⟨_, _, rfl⟩
 ·rintro σ H4 cs ds ⟨⟨x3, x4, rfl⟩, rfl, rfl⟩ S4
  walk_at "walk"
  exact k _ S4.base
abbrev s_law_fits : Stmt := top 71
theorem sc_law_fits : FnScope ["_law_shape", "_law_claims_here", "_law_parts", "_law_amounts", "_law_whole_here", "_law_purse_here", "_law_amount", "_law_part"] ["_law_shape", "_law_claims_here", "_law_parts"] (defScope s_law_fits) := ⟨rfl, rfl, rfl, by decide +kernel, rfl, by decide +kernel, by decide +kernel⟩
theorem ok_fits3 (B : Bl mg) (C_law_even : Cal P w K mg base CX0 1 "_law_even" ["_law_amounts", "_law_parts"] spEven) (F : Fun K "_law_fits" "_law_fits" s_law_fits f fd) : FnOk P w K mg base CX0 2 f fd ["_law_shape", "_law_claims_here", "_law_parts"] (spFits (· < 3)) := by
 refine F.ok sc_law_fits (fun vs H Q E h => ?_) (fun cdv A outer s H vs Q E hr h => ?_)
 ·obtain ⟨a, h, _⟩ := h
  rw [← h.len]; rfl
 obtain ⟨⟨n, l, tk⟩, hA, ⟨hn, ok⟩, k⟩ := h
 obtain ⟨v0, v1, v2, rfl, al⟩ := isAll3 hA
 have S : Sta H H H [] [((flatR n).shape, v0), (claimsD l, v1), (rowD tk, v2)] := Sta.enter (Same.refl _) al
 dsimp only at hn ok
 have few := ok.few
 refine ⟨_, (pss_cons (ps_setComp (i := 3) (N := ["_law_claim"]) (n := 1) (fr := []) sc_law_fits.nd rfl rfl rfl ⟨rfl, by decide +kernel, rfl, by decide, rfl, rfl, rfl, rfl, rfl⟩ (pi_list (pv 1)) (fun _ _ _ _ => (pg_name (i := 0) (show (["_law_claim"] : List Str).Nodup from by decide +kernel) rfl (by walk_at "o"))) (fun _ _ _ _ => pif_nil) (fun _ _ _ _ => (pe_ix ix_seq (pv 0) pe_int (fun _ _ => rfl)))) (pss_cons (ps_set (i := 4) sc_law_fits.nd rfl (by walk_at "o") (pe_callB (call_sumA rfl) rfl B.sum bt_sum (pa_cons (pv 3) pa_nil))) (pss_cons (ps_set (i := 5) sc_law_fits.nd rfl (by walk_at "o") (pe_callB (call_sumA rfl) rfl B.sum bt_sum (pa_cons (pv 2) pa_nil))) (pss_cons (ps_for PassesOwn.never rfl (pi_zip true true rfl B.zip (pa_cons (pv 3) (pa_cons (pv 2) pa_nil))) (pg_tup rfl (pgs_cons (pg_name (i := 6) sc_law_fits.nd rfl (by walk_at "o")) (pgs_cons (pg_name (i := 7) sc_law_fits.nd rfl (by walk_at "o")) pgs_nil))) (pss_one (ps_if (PW.pt (pw_or (pt_cmpR op_lt (pv 7) pe_int (nomark _)) (pw_or1 (pt_cmpR op_gt (pv 7) (pv 6) (nomark _))))) (pss_one (ps_ret pe_bl)) pss_nil))) (pss_cons (ps_if (pt_cmpR (op_eqA (units_of hr)) (pe_ix ix_seq (pv 0) pe_int (fun _ _ => rfl)) pe_str (nomark _)) (pss_one (ps_ret (pe_cmpR (op_eqA (units_of hr)) (pe_comp (N := ["_law_part", "_law_whole_here"]) (n := 1) (fr := [4]) rfl ⟨rfl, by decide +kernel, rfl, by decide, rfl, rfl, rfl, rfl, rfl⟩ (pi_list (pv 2)) (fun _ _ _ _ => (pg_name (i := 0) (show (["_law_part", "_law_whole_here"] : List Str).Nodup from by decide +kernel) rfl (by walk_at "o"))) (fun _ _ _ _ => pif_nil) (fun _ _ _ _ => (pe_op op_mulB (pv 0) (pv 1)))) (pe_comp (N := ["_law_amount", "_law_purse_here"]) (n := 1) (fr := [5]) rfl ⟨rfl, by decide +kernel, rfl, by decide, rfl, rfl, rfl, rfl, rfl⟩ (pi_list (pv 3)) (fun _ _ _ _ => (pg_name (i := 0) (show (["_law_amount", "_law_purse_here"] : List Str).Nodup from by decide +kernel) rfl (by walk_at "o"))) (fun _ _ _ _ => pif_nil) (fun _ _ _ _ => (pe_op op_mulB (pv 0) (pv 1)))) (nomark _)))) pss_nil) (pss_cons (ps_if (pt_cmpR (op_eqA (units_of hr)) (pe_ix ix_seq (pv 0) pe_int (fun _ _ => rfl)) pe_str (nomark _)) (pss_one (ps_ret (pe_cal C_law_even hr (by walk_at "l") pass0 rfl (pa_cons (pv 3) (pa_cons (pv 2) pa_nil))))) pss_nil) (pss_cons (ps_if (pt_cmpR (op_eqA (units_of hr)) (pe_ix ix_seq (pv 0) pe_int (fun _ _ => rfl)) pe_str (nomark _)) (pss_one (ps_ret (pe_cal C_law_even hr (by walk_at "l") pass0 rfl (pa_cons (pv 3) (pa_cons (pe_comp (N := ["_law_amount", "_law_part"]) (n := 2) (fr := []) rfl ⟨rfl, by decide +kernel, rfl, by decide, rfl, rfl, rfl, rfl, rfl⟩ (pi_zip true true rfl B.zip (pa_cons (pv 3) (pa_cons (pv 2) pa_nil))) (fun _ _ _ _ => (pg_tup rfl (pgs_cons (pg_name (i := 0) (show (["_law_amount", "_law_part"] : List Str).Nodup from by decide +kernel) rfl (by walk_at "o")) (pgs_cons (pg_name (i := 1) (show (["_law_amount", "_law_part"] : List Str).Nodup from by decide +kernel) rfl (by walk_at "o")) pgs_nil)))) (fun _ _ _ _ => pif_nil) (fun _ _ _ _ => (pe_op op_sub (pv 0) (pv 1)))) pa_nil))))) pss_nil) (pss_cons (ps_if (pt_cmpR (op_eqA (units_of hr)) (pe_ix ix_seq (pv 0) pe_int (fun _ _ => rfl)) pe_str (nomark _)) (pss_one ps_never) pss_nil) (pss_cons (ps_if (pt_cmpR (op_eqA (units_of hr)) (pe_ix ix_seq (pv 0) pe_int (fun _ _ => rfl)) pe_str (nomark _)) (pss_one ps_never) pss_nil) (pss_cons (ps_if (pt_cmpR (op_eqA (units_of hr)) (pe_ix ix_seq (pv 0) pe_int (fun _ _ => rfl)) pe_str (nomark _)) (pss_one ps_never) pss_nil) (pss_cons (ps_if (pt_cmpR (op_eqA (units_of hr)) (pe_ix ix_seq (pv 0) pe_int (fun _ _ => rfl)) pe_str (nomark _)) (pss_one ps_never) pss_nil) (pss_one ps_never)))))))))))), rd_start ?_⟩
 walk_at "walk"
 refine rd_kILd (xs := l.map claimD) S (by walk_at "m") fun J wk => ?_
 refine comp_map wk (fun j => .int (l.getD j (0, 0, 0)).1) (ys := (amV l).map PyData.int) (by unfold amV; rw [List.length_map, List.map_map]; exact range_getD (fun c : Cl => PyData.int c.1) (0, 0, 0) l) S (fun _ _ => .mem (by walk_at "mem")) (by rw [List.length_map]; omega) (fun j x v B' G' Kd Kn hx t1 S hd C ex s0 H0 => ?_) fun D H1 e1 S1 => ?_
 ·obtain ⟨c, hc, rfl⟩ := mapAt hx
  refine rd_name ⟨rfl, ?_⟩
  walk_at "walk"
  refine hd (by assumption) ?_
  rw [getD_of hc]
  exact Has.int
 have S2 : Sta H H H1 [] [(rowD (amV l), .ref D), ((flatR n).shape, v0), (claimsD l, v1), (rowD tk, v2)] := S1.freeze
 clear S1
 have l8 : (amV l).length ≤ 8 := by rw [amV_len]; exact few
 have hsz := ok.sz
 have inb := ok.inb
 have fit := ok.fit
 walk_at "walk"
 refine rd_kZiLL (xs := (amV l).map PyData.int) (ys := tk.map PyData.int) S2 (by walk_at "m") (by walk_at "m") fun J2 wk2 => ?_
 refine for_wk wk2 (fun i σ cs ds => (∃ x6 x7, σ = [some v0, some v1, some v2, some (.ref D), some (.int (amV l).sum), some (.int tk.sum), x6, x7]) ∧ cs = [] ∧ ds = [(rowD (amV l), .ref D), ((flatR n).shape, v0), (claimsD l, v1), (rowD tk, v2)]) S2 ⟨⟨none, none, rfl⟩, rfl, rfl⟩ (fun i σ cs ds h => ?_) ?_ ?_
 ·obtain ⟨_, rfl, rfl⟩ := h
  exact ⟨.mem (by walk_at "mem"), fun _ _ h => h.tail, .mem (by walk_at "mem")⟩
 ·rintro i x u σ H2 cs ds hx ⟨⟨x6, x7, rfl⟩, rfl, rfl⟩ S3
  obtain ⟨xa, xb, h1, h2, rfl⟩ := zipD_at hx
  obtain ⟨a, ha, rfl⟩ := mapAt h1
  obtain ⟨p, hp, rfl⟩ := mapAt h2
  have b := inb.2 i a p ha hp
  refine rd_gTup (rd_kGT2 S3 (by walk_at "m") fun w1 w2 S4 => ?_)
  cases S4.int1
  cases S4.drop1.int1
  walk_at "walk"
  refine iteD (fun c => absurd c (by omega)) (fun _ => ?_)
  walk_at "walk"
  refine iteD (fun c => absurd c (by omega)) (fun _ => ?_)
  walk_at "walk"
  exact rd_at (S4.dat (by walk_at "dats")) ⟨⟨_, _, rfl⟩, rfl, rfl⟩
 rintro σ H2 cs ds ⟨⟨x6, x7, rfl⟩, rfl, rfl⟩ S3
 clear S2 wk wk2
 match n, hn, fit, S3 with
 | 0, _, fit, S3 =>
   simp only [flatR, Rl.shape] at S3
   obtain ⟨it, ia⟩ := inb.inS l8 hsz
   have st := it.sum.2
   have sa := ia.sum.2
   walk_at "walk"
   refine rd_kILd (xs := tk.map PyData.int) S3 (by walk_at "m") fun J3 wk3 => ?_
   refine comp_map wk3 (fun j => .int (tk.getD j 0 * (amV l).sum)) (ys := (tk.map (· * (amV l).sum)).map PyData.int) (by rw [List.length_map, List.map_map]; exact range_getD (fun x : Int => PyData.int (x * (amV l).sum)) 0 tk) S3 (fun _ _ => .mem (by walk_at "mem")) (by rw [List.length_map, inb.1]; omega) (fun j x v B' G' Kd Kn hx t1 S hd C ex s0 H0 => ?_) fun D4 H4 e4 S4 => ?_
   ·obtain ⟨y, hy, rfl⟩ := mapAt hx
    cases S.int1
    have o : IntMulOk y (amV l).sum := (it.2 y (List.mem_of_getElem? hy)).2.mulOk sa (by decide)
    refine rd_name ⟨rfl, ?_⟩
    walk_at "walk"
    refine hd S ?_
    rw [getD_of hy]
    exact Has.int
   walk_at "walk"
   refine rd_kILd (xs := (amV l).map PyData.int) S4 (by walk_at "m") fun J5 wk5 => ?_
   refine comp_map wk5 (fun j => .int ((amV l).getD j 0 * tk.sum)) (ys := ((amV l).map (· * tk.sum)).map PyData.int) (by rw [List.length_map, List.map_map]; exact range_getD (fun x : Int => PyData.int (x * tk.sum)) 0 (amV l)) S4 (fun _ _ => .mem (by walk_at "mem")) (by rw [List.length_map]; omega) (fun j x v B' G' Kd Kn hx t1 S hd C ex s0 H0 => ?_) fun D6 H6 e6 S6 => ?_
   ·obtain ⟨y, hy, rfl⟩ := mapAt hx
    cases S.int1
    have o : IntMulOk y tk.sum := (ia.2 y (List.mem_of_getElem? hy)).2.mulOk st (by decide)
    refine rd_name ⟨rfl, ?_⟩
    walk_at "walk"
    refine hd S ?_
    rw [getD_of hy]
    exact Has.int
   refine rd_eqD (x := rowD (tk.map (· * (amV l).sum))) (y := rowD ((amV l).map (· * tk.sum))) (S6.hpC (by walk_at "mem")) (S6.hpC (by walk_at "mem")) (shaped_row _) (shaped_row _) ?_
   rw [eqv_row, decide_eq_true (show tk.map (· * (amV l).sum) = (amV l).map (· * tk.sum) from fit)]
   exact k _ S6.base
 | 1, _, fit, S3 =>
   simp only [flatR, Rl.shape] at S3
   walk_at "walk"
   refine rd_even S3 (by walk_at "m") (by walk_at "m") l8 fit fun H4 e4 S4 => ?_
   exact k _ S4.base
 | 2, _, fit, S3 =>
   simp only [flatR, Rl.shape] at S3
   walk_at "walk"
   refine rd_kZiLL (xs := (amV l).map PyData.int) (ys := tk.map PyData.int) S3 (by walk_at "m") (by walk_at "m") fun J3 wk3 => ?_
   have ll : (lessV (amV l) tk).length = (amV l).length := lessV_len inb.1
   refine comp_map wk3 (fun j => .int ((lessV (amV l) tk).getD j 0)) (ys := (lessV (amV l) tk).map PyData.int) ?_ S3 (fun _ _ => ⟨.mem (by walk_at "mem"), fun _ _ h => h.tail, .mem (by walk_at "mem")⟩) ?_ (fun j x v B' G' Kd Kn hx t1 S hd C ex s0 H0 => ?_) fun D4 H4 e4 S4 => ?_
   ·rw [zipD_len, List.length_map, List.length_map, inb.1, Nat.min_self, ← ll]
    exact range_getD (fun x => PyData.int x) 0 _
   ·rw [zipD_len, List.length_map, List.length_map]; omega
   ·obtain ⟨x1, x2, h1, h2, rfl⟩ := zipD_at hx
    obtain ⟨n1, hn1, rfl⟩ := mapAt h1
    obtain ⟨n2, hn2, rfl⟩ := mapAt h2
    refine rd_gTup (rd_kGT2 S (by walk_at "m") fun w1 w2 S => ?_)
    cases S.int1
    cases S.drop1.int1
    refine rd_gCons (rd_name (rd_gCons (rd_name (rd_gNil ⟨rfl, ?_⟩))))
    walk_at "walk"
    refine hd S ?_
    rw [getD_of (show (lessV (amV l) tk)[j]? = some (n1 - n2) by unfold lessV; rw [List.getElem?_zipWith, hn1, hn2])]
    exact Has.int
   walk_at "walk"
   refine rd_even (am := amV l) (tk := lessV (amV l) tk) S4.freeze (by walk_at "m") (by walk_at "m") l8 fit fun H5 e5 S5 => ?_
   exact k _ S5.base
abbrev s_law_upto_fit : Stmt := top 72
theorem sc_law_upto_fit : FnScope ["_law_shape", "_law_claims_here", "_law_parts", "_law_top", "_law_bottom", "_law_many", "_law_here", "_law_there"] ["_law_shape", "_law_claims_here", "_law_parts"] (defScope s_law_upto_fit) := ⟨rfl, rfl, rfl, by decide +kernel, rfl, by decide +kernel, by decide +kernel⟩
theorem ok_upfit (B : Bl mg) (C_law_fits : Cal P w K mg base CX0 2 "_law_fits" ["_law_shape", "_law_claims_here", "_law_parts"] (spFits (· < 3))) (F : Fun K "_law_upto_fit" "_law_upto_fit" s_law_upto_fit f fd) : FnOk P w K mg base CX0 3 f fd ["_law_shape", "_law_claims_here", "_law_parts"] spFitsU := by
 refine F.ok sc_law_upto_fit (fun vs H Q E h => ?_) (fun cdv A outer s H vs Q E hr h => ?_)
 ·obtain ⟨a, h, _⟩ := h
  rw [← h.len]; rfl
 obtain ⟨⟨l, tk⟩, hA, ok, k⟩ := h
 obtain ⟨v0, v1, v2, rfl, al⟩ := isAll3 hA
 have S : Sta H H H [] [(upD, v0), (claimsD l, v1), (rowD tk, v2)] := Sta.enter (Same.refl _) al
 dsimp only at ok
 have few := ok.few
 have inb := ok.inb
 have fit : if (dblV tk).sum ≤ (amV l).sum then EvenOk (amV l) (dblV tk) else InB (amV l) (lessV (dblV tk) (amV l)) ∧ EvenOk (amV l) (lessV (amV l) (lessV (dblV tk) (amV l))) := ok.fit
 have l8 : (amV l).length ≤ 8 := by rw [amV_len]; exact few
 refine ⟨_, (pss_cons (ps_asg (pe_ix ix_seq (pv 0) pe_int (fun _ _ => rfl)) (pg_tup rfl (pgs_cons (pg_name (i := 3) sc_law_upto_fit.nd rfl (by walk_at "o")) (pgs_cons (pg_name (i := 4) sc_law_upto_fit.nd rfl (by walk_at "o")) pgs_nil)))) (pss_cons (ps_setComp (i := 5) (N := ["_law_part", "_law_bottom"]) (n := 1) (fr := [4]) sc_law_upto_fit.nd rfl rfl rfl ⟨rfl, by decide +kernel, rfl, by decide, rfl, rfl, rfl, rfl, rfl⟩ (pi_list (pv 2)) (fun _ _ _ _ => (pg_name (i := 0) (show (["_law_part", "_law_bottom"] : List Str).Nodup from by decide +kernel) rfl (by walk_at "o"))) (fun _ _ _ _ => pif_nil) (fun _ _ _ _ => (pe_op op_mulB (pv 1) (pv 0)))) (pss_cons (ps_setComp (i := 6) (N := ["_law_claim", "_law_top"]) (n := 1) (fr := [3]) sc_law_upto_fit.nd rfl rfl rfl ⟨rfl, by decide +kernel, rfl, by decide, rfl, rfl, rfl, rfl, rfl⟩ (pi_list (pv 1)) (fun _ _ _ _ => (pg_name (i := 0) (show (["_law_claim", "_law_top"] : List Str).Nodup from by decide +kernel) rfl (by walk_at "o"))) (fun _ _ _ _ => pif_nil) (fun _ _ _ _ => (pe_tup (pa_cons (pe_op op_mulB (pv 1) (pe_ix ix_seq (pv 0) pe_int (fun _ _ => rfl))) (pa_cons (pe_ix ix_seq (pv 0) pe_int (fun _ _ => rfl)) (pa_cons (pe_ix ix_seq (pv 0) pe_int (fun _ _ => rfl)) pa_nil)))))) (pss_cons (ps_if (pt_cmpR op_le (pe_callB (call_sumA rfl) rfl B.sum bt_sum (pa_cons (pv 5) pa_nil)) (pe_callB (call_sumA rfl) rfl B.sum bt_sum (pa_cons (pe_comp (N := ["_law_claim"]) (n := 1) (fr := []) rfl ⟨rfl, by decide +kernel, rfl, by decide, rfl, rfl, rfl, rfl, rfl⟩ (pi_list (pv 6)) (fun _ _ _ _ => (pg_name (i := 0) (show (["_law_claim"] : List Str).Nodup from by decide +kernel) rfl (by walk_at "o"))) (fun _ _ _ _ => pif_nil) (fun _ _ _ _ => (pe_ix ix_seq (pv 0) pe_int (fun _ _ => rfl)))) pa_nil)) (nomark _)) (pss_one (ps_ret (pe_cal C_law_fits hr (by walk_at "l") pass0 rfl (pa_cons (pe_ix ix_seq (pv 0) pe_int (fun _ _ => rfl)) (pa_cons (pv 6) (pa_cons (pv 5) pa_nil)))))) pss_nil) (pss_cons (ps_setComp (i := 7) (N := ["_law_claim", "_law_top", "_law_bottom"]) (n := 1) (fr := [3, 4]) sc_law_upto_fit.nd rfl rfl rfl ⟨rfl, by decide +kernel, rfl, by decide, rfl, rfl, rfl, rfl, rfl⟩ (pi_list (pv 1)) (fun _ _ _ _ => (pg_name (i := 0) (show (["_law_claim", "_law_top", "_law_bottom"] : List Str).Nodup from by decide +kernel) rfl (by walk_at "o"))) (fun _ _ _ _ => pif_nil) (fun _ _ _ _ => (pe_tup (pa_cons (pe_op op_mulB (pe_op op_sub (pv 2) (pv 1)) (pe_ix ix_seq (pv 0) pe_int (fun _ _ => rfl))) (pa_cons (pe_ix ix_seq (pv 0) pe_int (fun _ _ => rfl)) (pa_cons (pe_ix ix_seq (pv 0) pe_int (fun _ _ => rfl)) pa_nil)))))) (pss_one (ps_ret (pe_cal C_law_fits hr (by walk_at "l") pass0 rfl (pa_cons (pe_ix ix_seq (pv 0) pe_int (fun _ _ => rfl)) (pa_cons (pv 7) (pa_cons (pe_comp (N := ["_law_part", "_law_claim"]) (n := 2) (fr := []) rfl ⟨rfl, by decide +kernel, rfl, by decide, rfl, rfl, rfl, rfl, rfl⟩ (pi_zip true true rfl B.zip (pa_cons (pv 5) (pa_cons (pv 6) pa_nil))) (fun _ _ _ _ => (pg_tup rfl (pgs_cons (pg_name (i := 0) (show (["_law_part", "_law_claim"] : List Str).Nodup from by decide +kernel) rfl (by walk_at "o")) (pgs_cons (pg_name (i := 1) (show (["_law_part", "_law_claim"] : List Str).Nodup from by decide +kernel) rfl (by walk_at "o")) pgs_nil)))) (fun _ _ _ _ => pif_nil) (fun _ _ _ _ => (pe_op op_sub (pv 0) (pe_ix ix_seq (pv 1) pe_int (fun _ _ => rfl))))) pa_nil))))))))))), rd_start ?_⟩
 unfold upD at S
 walk_at "walk"
 rename_i w1 S1
 refine rd_gTup (rd_kGT2 S1 (by walk_at "m") fun w2 w3 S2 => ?_)
 cases S2.int1
 cases S2.drop1.int1
 walk_at "walk"
 refine rd_kILd (xs := tk.map PyData.int) S2 (by walk_at "m") fun J wk => ?_
 refine comp_map wk (fun j => .int (2 * tk.getD j 0)) (ys := (dblV tk).map PyData.int) (by unfold dblV; rw [List.length_map, List.map_map]; exact range_getD (fun x : Int => PyData.int (2 * x)) 0 tk) S2 (fun _ _ => .mem (by walk_at "mem")) (by rw [List.length_map, inb.1]; omega) (fun j x v B' G' Kd Kn hx t1 S hd C ex s0 H0 => ?_) fun D3 H3 e3 S3 => ?_
 ·obtain ⟨y, hy, rfl⟩ := mapAt hx
  cases S.int1
  refine rd_name ⟨rfl, ?_⟩
  walk_at "walk"
  refine hd S ?_
  rw [getD_of hy]
  exact Has.int
 have S4 := S3.freeze
 walk_at "walk"
 refine rd_kILd (xs := l.map claimD) S4 (by walk_at "m") fun J wk => ?_
 have one : ∀ b : Int, b = 1 → (l.map fun c : Cl => ((b * c.1, c.2) : Cl)) = l := fun b hb => by
  subst hb
  conv => rhs; rw [← List.map_id l]
  exact List.map_congr_left fun c _ => by rw [Int.one_mul]; rfl
 refine comp_map wk (fun j => claimD ((fun c : Cl => ((1 * c.1, c.2) : Cl)) (l.getD j (0, 0, 0)))) (ys := l.map claimD) (by
  conv => rhs; rw [← one 1 rfl, List.map_map]
  rw [List.length_map]; exact range_getD (fun c : Cl => claimD ((1 * c.1, c.2) : Cl)) (0, 0, 0) l) S4 (fun _ _ => .mem (by walk_at "mem")) (by rw [List.length_map]; omega) (fun j x v B' G' Kd Kn hx t1 S hd C ex s0 H0 => ?_) fun D5 H5 e5 S5 => ?_
 ·obtain ⟨c, hc, rfl⟩ := mapAt hx
  refine rd_name ⟨rfl, ?_⟩
  walk_at "walk"
  refine hd (by assumption) ?_
  rw [getD_of hc]
  exact .mem (by walk_at "mem")
 have S6 := S5.freeze
 walk_at "walk"
 refine rd_kILd (xs := l.map claimD) S6 (by walk_at "m") fun J wk => ?_
 refine comp_map wk (fun j => .int (l.getD j (0, 0, 0)).1) (ys := (amV l).map PyData.int) (by unfold amV; rw [List.length_map, List.map_map]; exact range_getD (fun c : Cl => PyData.int c.1) (0, 0, 0) l) S6 (fun _ _ => .mem (by walk_at "mem")) (by rw [List.length_map]; omega) (fun j x v B' G' Kd Kn hx t1 S hd C ex s0 H0 => ?_) fun D7 H7 e7 S7 => ?_
 ·obtain ⟨c, hc, rfl⟩ := mapAt hx
  refine rd_name ⟨rfl, ?_⟩
  walk_at "walk"
  refine hd (by assumption) ?_
  rw [getD_of hc]
  exact Has.int
 walk_at "walk"
 refine iteD (fun c => ?_) (fun c => ?_)
 ·rw [if_pos c] at fit
  walk_at "walk"
  rename_i w8 S8
  refine rd_fits (n := 1) (l := l) (tk := dblV tk) S8 (by walk_at "m") (by walk_at "m") (by walk_at "m") (by decide) ⟨few, ok.sz, fit.inB, fit⟩ fun H9 e9 S9 => ?_
  exact k _ S9.base
 ·rw [if_neg c] at fit
  have S8 := S7.freeze
  walk_at "walk"
  refine rd_kILd (xs := l.map claimD) S8 (by walk_at "m") fun J wk => ?_
  refine comp_map wk (fun j => claimD ((fun c : Cl => (((2 - 1) * c.1, c.2) : Cl)) (l.getD j (0, 0, 0)))) (ys := l.map claimD) (by
   conv => rhs; rw [← one (2 - 1) (by decide), List.map_map]
   rw [List.length_map]; exact range_getD (fun c : Cl => claimD (((2 - 1) * c.1, c.2) : Cl)) (0, 0, 0) l) S8 (fun _ _ => .mem (by walk_at "mem")) (by rw [List.length_map]; omega) (fun j x v B' G' Kd Kn hx t1 S hd C ex s0 H0 => ?_) fun D9 H9 e9 S9 => ?_
  ·obtain ⟨c, hc, rfl⟩ := mapAt hx
   refine rd_name ⟨rfl, ?_⟩
   walk_at "walk"
   refine hd (by assumption) ?_
   rw [getD_of hc]
   exact .mem (by walk_at "mem")
  have S10 := S9.freeze
  walk_at "walk"
  rename_i w11 S11
  have ld : (dblV tk).length = (amV l).length := by unfold dblV; rw [List.length_map]; exact inb.1
  have ll : (lessV (dblV tk) (amV l)).length = (amV l).length := by rw [lessV_len ld.symm, ld]
  refine rd_kZiLL (xs := (dblV tk).map PyData.int) (ys := l.map claimD) S11 (by walk_at "m") (by walk_at "m") fun J3 wk3 => ?_
  refine comp_map wk3 (fun j => .int ((lessV (dblV tk) (amV l)).getD j 0)) (ys := (lessV (dblV tk) (amV l)).map PyData.int) ?_ S11 (fun _ _ => ⟨.mem (by walk_at "mem"), fun _ _ h => h.tail, .mem (by walk_at "mem")⟩) ?_ (fun j x v B' G' Kd Kn hx t1 S hd C ex s0 H0 => ?_) fun D12 H12 e12 S12 => ?_
  ·rw [zipD_len, List.length_map, List.length_map, ld, amV_len, Nat.min_self, ← amV_len, ← ll]
   exact range_getD (fun x => PyData.int x) 0 _
  ·rw [zipD_len, List.length_map, List.length_map]; omega
  ·obtain ⟨x1, x2, h1, h2, rfl⟩ := zipD_at hx
   obtain ⟨n1, hn1, rfl⟩ := mapAt h1
   obtain ⟨c2, hc2, rfl⟩ := mapAt h2
   refine rd_gTup (rd_kGT2 S (by walk_at "m") fun w1 w2 S => ?_)
   cases S.int1
   refine rd_gCons (rd_name (rd_gCons (rd_name (rd_gNil ⟨rfl, ?_⟩))))
   walk_at "walk"
   refine hd (by assumption) ?_
   rw [getD_of (show (lessV (dblV tk) (amV l))[j]? = some (n1 - c2.1) by unfold lessV amV; rw [List.getElem?_zipWith, hn1, List.getElem?_map, hc2]; rfl)]
   exact Has.int
  walk_at "walk"
  refine rd_fits (n := 2) (l := l) (tk := lessV (dblV tk) (amV l)) S12.freeze (by walk_at "m") (by walk_at "m") (by walk_at "m") (by decide) ⟨few, ok.sz, fit.1, fit.2⟩ fun H13 e13 S13 => ?_
  exact k _ S13.base
theorem ok_fitsU (B : Bl mg) (C_law_upto_fit : Cal P w K mg base CX0 3 "_law_upto_fit" ["_law_shape", "_law_claims_here", "_law_parts"] spFitsU) (F : Fun K "_law_fits" "_law_fits" s_law_fits f fd) : FnOk P w K mg base CX0 4 f fd ["_law_shape", "_law_claims_here", "_law_parts"] spFitsU := by
 refine F.ok sc_law_fits (fun vs H Q E h => ?_) (fun cdv A outer s H vs Q E hr h => ?_)
 ·obtain ⟨a, h, _⟩ := h
  rw [← h.len]; rfl
 obtain ⟨⟨l, tk⟩, hA, ok, k⟩ := h
 obtain ⟨v0, v1, v2, rfl, al⟩ := isAll3 hA
 have S : Sta H H H [] [(upD, v0), (claimsD l, v1), (rowD tk, v2)] := Sta.enter (Same.refl _) al
 dsimp only at ok
 have few := ok.few
 refine ⟨_, (pss_cons (ps_setComp (i := 3) (N := ["_law_claim"]) (n := 1) (fr := []) sc_law_fits.nd rfl rfl rfl ⟨rfl, by decide +kernel, rfl, by decide, rfl, rfl, rfl, rfl, rfl⟩ (pi_list (pv 1)) (fun _ _ _ _ => (pg_name (i := 0) (show (["_law_claim"] : List Str).Nodup from by decide +kernel) rfl (by walk_at "o"))) (fun _ _ _ _ => pif_nil) (fun _ _ _ _ => (pe_ix ix_seq (pv 0) pe_int (fun _ _ => rfl)))) (pss_cons (ps_set (i := 4) sc_law_fits.nd rfl (by walk_at "o") (pe_callB (call_sumA rfl) rfl B.sum bt_sum (pa_cons (pv 3) pa_nil))) (pss_cons (ps_set (i := 5) sc_law_fits.nd rfl (by walk_at "o") (pe_callB (call_sumA rfl) rfl B.sum bt_sum (pa_cons (pv 2) pa_nil))) (pss_cons (ps_for PassesOwn.never rfl (pi_zip true true rfl B.zip (pa_cons (pv 3) (pa_cons (pv 2) pa_nil))) (pg_tup rfl (pgs_cons (pg_name (i := 6) sc_law_fits.nd rfl (by walk_at "o")) (pgs_cons (pg_name (i := 7) sc_law_fits.nd rfl (by walk_at "o")) pgs_nil))) (pss_one (ps_if (PW.pt (pw_or (pt_cmpR op_lt (pv 7) pe_int (nomark _)) (pw_or1 (pt_cmpR op_gt (pv 7) (pv 6) (nomark _))))) (pss_one (ps_ret pe_bl)) pss_nil))) (pss_cons (ps_if (pt_cmpR (op_eqA (units_of hr)) (pe_ix ix_seq (pv 0) pe_int (fun _ _ => rfl)) pe_str (nomark _)) (pss_one ps_never) pss_nil) (pss_cons (ps_if (pt_cmpR (op_eqA (units_of hr)) (pe_ix ix_seq (pv 0) pe_int (fun _ _ => rfl)) pe_str (nomark _)) (pss_one ps_never) pss_nil) (pss_cons (ps_if (pt_cmpR (op_eqA (units_of hr)) (pe_ix ix_seq (pv 0) pe_int (fun _ _ => rfl)) pe_str (nomark _)) (pss_one ps_never) pss_nil) (pss_cons (ps_if (pt_cmpR (op_eqA (units_of hr)) (pe_ix ix_seq (pv 0) pe_int (fun _ _ => rfl)) pe_str (nomark _)) (pss_one ps_never) pss_nil) (pss_cons (ps_if (pt_cmpR (op_eqA (units_of hr)) (pe_ix ix_seq (pv 0) pe_int (fun _ _ => rfl)) pe_str (nomark _)) (pss_one ps_never) pss_nil) (pss_cons (ps_if (pt_cmpR (op_eqA (units_of hr)) (pe_ix ix_seq (pv 0) pe_int (fun _ _ => rfl)) pe_str (nomark _)) (pss_one ps_never) pss_nil) (pss_cons (ps_if (pt_cmpR (op_eqA (units_of hr)) (pe_ix ix_seq (pv 0) pe_int (fun _ _ => rfl)) pe_str (nomark _)) (pss_one ps_never) pss_nil) (pss_one (ps_ret (pe_cal C_law_upto_fit hr (by walk_at "l") pass0 rfl (pa_cons (pv 0) (pa_cons (pv 1) (pa_cons (pv 2) pa_nil))))))))))))))))), rd_start ?_⟩
 walk_at "walk"
 refine rd_kILd (xs := l.map claimD) S (by walk_at "m") fun J wk => ?_
 refine comp_map wk (fun j => .int (l.getD j (0, 0, 0)).1) (ys := (amV l).map PyData.int) (by unfold amV; rw [List.length_map, List.map_map]; exact range_getD (fun c : Cl => PyData.int c.1) (0, 0, 0) l) S (fun _ _ => .mem (by walk_at "mem")) (by rw [List.length_map]; omega) (fun j x v B' G' Kd Kn hx t1 S hd C ex s0 H0 => ?_) fun D H1 e1 S1 => ?_
 ·obtain ⟨c, hc, rfl⟩ := mapAt hx
  refine rd_name ⟨rfl, ?_⟩
  walk_at "walk"
  refine hd (by assumption) ?_
  rw [getD_of hc]
  exact Has.int
 have S2 : Sta H H H1 [] [(rowD (amV l), .ref D), (upD, v0), (claimsD l, v1), (rowD tk, v2)] := S1.freeze
 clear S1
 have l8 : (amV l).length ≤ 8 := by rw [amV_len]; exact few
 have hsz := ok.sz
 have inb := ok.inb
 have fit := ok.fit
 walk_at "walk"
 refine rd_kZiLL (xs := (amV l).map PyData.int) (ys := tk.map PyData.int) S2 (by walk_at "m") (by walk_at "m") fun J2 wk2 => ?_
 refine for_wk wk2 (fun i σ cs ds => (∃ x6 x7, σ = [some v0, some v1, some v2, some (.ref D), some (.int (amV l).sum), some (.int tk.sum), x6, x7]) ∧ cs = [] ∧ ds = [(rowD (amV l), .ref D), (upD, v0), (claimsD l, v1), (rowD tk, v2)]) S2 ⟨⟨none, none, rfl⟩, rfl, rfl⟩ (fun i σ cs ds h => ?_) ?_ ?_
 ·obtain ⟨_, rfl, rfl⟩ := h
  exact ⟨.mem (by walk_at "mem"), fun _ _ h => h.tail, .mem (by walk_at "mem")⟩
 ·rintro i x u σ H2 cs ds hx ⟨⟨x6, x7, rfl⟩, rfl, rfl⟩ S3
  obtain ⟨xa, xb, h1, h2, rfl⟩ := zipD_at hx
  obtain ⟨a, ha, rfl⟩ := mapAt h1
  obtain ⟨p, hp, rfl⟩ := mapAt h2
  have b := inb.2 i a p ha hp
  refine rd_gTup (rd_kGT2 S3 (by walk_at "m") fun w1 w2 S4 => ?_)
  cases S4.int1
  cases S4.drop1.int1
  walk_at "walk"
  refine iteD (fun c => absurd c (by omega)) (fun _ => ?_)
  walk_at "walk"
  refine iteD (fun c => absurd c (by omega)) (fun _ => ?_)
  walk_at "walk"
  exact rd_at (S4.dat (by walk_at "dats")) ⟨⟨_, _, rfl⟩, rfl, rfl⟩
 rintro σ H2 cs ds ⟨⟨x6, x7, rfl⟩, rfl, rfl⟩ S3
 clear S2 wk wk2
 have S4 := S3
 unfold upD at S3
 walk_at "walk"
 refine rd_fitsU S4 (by walk_at "m") (by walk_at "m") (by walk_at "m") ok fun H5 e5 S5 => ?_
 exact k _ S5.base
theorem ok_fitsN (B : Bl mg) (C_law_even : Cal P w K mg base CX0 1 "_law_even" ["_law_amounts", "_law_parts"] spEven) (C_law_fits : Cal P w K mg base CX0 4 "_law_fits" ["_law_shape", "_law_claims_here", "_law_parts"] spFitsU) (F : Fun K "_law_fits" "_law_fits" s_law_fits f fd) : FnOk P w K mg base CX0 5 f fd ["_law_shape", "_law_claims_here", "_law_parts"] (spFits (· < 4)) := by
 refine F.ok sc_law_fits (fun vs H Q E h => ?_) (fun cdv A outer s H vs Q E hr h => ?_)
 ·obtain ⟨a, h, _⟩ := h
  rw [← h.len]; rfl
 obtain ⟨⟨n, l, tk⟩, hA, ⟨hn, ok⟩, k⟩ := h
 obtain ⟨v0, v1, v2, rfl, al⟩ := isAll3 hA
 have S : Sta H H H [] [((flatR n).shape, v0), (claimsD l, v1), (rowD tk, v2)] := Sta.enter (Same.refl _) al
 dsimp only at hn ok
 have few := ok.few
 refine ⟨_, (pss_cons (ps_setComp (i := 3) (N := ["_law_claim"]) (n := 1) (fr := []) sc_law_fits.nd rfl rfl rfl ⟨rfl, by decide +kernel, rfl, by decide, rfl, rfl, rfl, rfl, rfl⟩ (pi_list (pv 1)) (fun _ _ _ _ => (pg_name (i := 0) (show (["_law_claim"] : List Str).Nodup from by decide +kernel) rfl (by walk_at "o"))) (fun _ _ _ _ => pif_nil) (fun _ _ _ _ => (pe_ix ix_seq (pv 0) pe_int (fun _ _ => rfl)))) (pss_cons (ps_set (i := 4) sc_law_fits.nd rfl (by walk_at "o") (pe_callB (call_sumA rfl) rfl B.sum bt_sum (pa_cons (pv 3) pa_nil))) (pss_cons (ps_set (i := 5) sc_law_fits.nd rfl (by walk_at "o") (pe_callB (call_sumA rfl) rfl B.sum bt_sum (pa_cons (pv 2) pa_nil))) (pss_cons (ps_for PassesOwn.never rfl (pi_zip true true rfl B.zip (pa_cons (pv 3) (pa_cons (pv 2) pa_nil))) (pg_tup rfl (pgs_cons (pg_name (i := 6) sc_law_fits.nd rfl (by walk_at "o")) (pgs_cons (pg_name (i := 7) sc_law_fits.nd rfl (by walk_at "o")) pgs_nil))) (pss_one (ps_if (PW.pt (pw_or (pt_cmpR op_lt (pv 7) pe_int (nomark _)) (pw_or1 (pt_cmpR op_gt (pv 7) (pv 6) (nomark _))))) (pss_one (ps_ret pe_bl)) pss_nil))) (pss_cons (ps_if (pt_cmpR (op_eqA (units_of hr)) (pe_ix ix_seq (pv 0) pe_int (fun _ _ => rfl)) pe_str (nomark _)) (pss_one (ps_ret (pe_cmpR (op_eqA (units_of hr)) (pe_comp (N := ["_law_part", "_law_whole_here"]) (n := 1) (fr := [4]) rfl ⟨rfl, by decide +kernel, rfl, by decide, rfl, rfl, rfl, rfl, rfl⟩ (pi_list (pv 2)) (fun _ _ _ _ => (pg_name (i := 0) (show (["_law_part", "_law_whole_here"] : List Str).Nodup from by decide +kernel) rfl (by walk_at "o"))) (fun _ _ _ _ => pif_nil) (fun _ _ _ _ => (pe_op op_mulB (pv 0) (pv 1)))) (pe_comp (N := ["_law_amount", "_law_purse_here"]) (n := 1) (fr := [5]) rfl ⟨rfl, by decide +kernel, rfl, by decide, rfl, rfl, rfl, rfl, rfl⟩ (pi_list (pv 3)) (fun _ _ _ _ => (pg_name (i := 0) (show (["_law_amount", "_law_purse_here"] : List Str).Nodup from by decide +kernel) rfl (by walk_at "o"))) (fun _ _ _ _ => pif_nil) (fun _ _ _ _ => (pe_op op_mulB (pv 0) (pv 1)))) (nomark _)))) pss_nil) (pss_cons (ps_if (pt_cmpR (op_eqA (units_of hr)) (pe_ix ix_seq (pv 0) pe_int (fun _ _ => rfl)) pe_str (nomark _)) (pss_one (ps_ret (pe_cal C_law_even hr (by walk_at "l") pass0 rfl (pa_cons (pv 3) (pa_cons (pv 2) pa_nil))))) pss_nil) (pss_cons (ps_if (pt_cmpR (op_eqA (units_of hr)) (pe_ix ix_seq (pv 0) pe_int (fun _ _ => rfl)) pe_str (nomark _)) (pss_one (ps_ret (pe_cal C_law_even hr (by walk_at "l") pass0 rfl (pa_cons (pv 3) (pa_cons (pe_comp (N := ["_law_amount", "_law_part"]) (n := 2) (fr := []) rfl ⟨rfl, by decide +kernel, rfl, by decide, rfl, rfl, rfl, rfl, rfl⟩ (pi_zip true true rfl B.zip (pa_cons (pv 3) (pa_cons (pv 2) pa_nil))) (fun _ _ _ _ => (pg_tup rfl (pgs_cons (pg_name (i := 0) (show (["_law_amount", "_law_part"] : List Str).Nodup from by decide +kernel) rfl (by walk_at "o")) (pgs_cons (pg_name (i := 1) (show (["_law_amount", "_law_part"] : List Str).Nodup from by decide +kernel) rfl (by walk_at "o")) pgs_nil)))) (fun _ _ _ _ => pif_nil) (fun _ _ _ _ => (pe_op op_sub (pv 0) (pv 1)))) pa_nil))))) pss_nil) (pss_cons (ps_if (pt_cmpR (op_eqA (units_of hr)) (pe_ix ix_seq (pv 0) pe_int (fun _ _ => rfl)) pe_str (nomark _)) (pss_one (ps_ret (pe_cal C_law_fits hr (by walk_at "l") pass0 rfl (pa_cons (pe_tup (pa_cons pe_str (pa_cons (pe_tup (pa_cons pe_int (pa_cons pe_int pa_nil))) (pa_cons (pe_tup (pa_cons pe_str pa_nil)) (pa_cons (pe_tup (pa_cons pe_str pa_nil)) pa_nil))))) (pa_cons (pv 1) (pa_cons (pv 2) pa_nil)))))) pss_nil) (pss_cons (ps_if (pt_cmpR (op_eqA (units_of hr)) (pe_ix ix_seq (pv 0) pe_int (fun _ _ => rfl)) pe_str (nomark _)) (pss_one ps_never) pss_nil) (pss_cons (ps_if (pt_cmpR (op_eqA (units_of hr)) (pe_ix ix_seq (pv 0) pe_int (fun _ _ => rfl)) pe_str (nomark _)) (pss_one ps_never) pss_nil) (pss_cons (ps_if (pt_cmpR (op_eqA (units_of hr)) (pe_ix ix_seq (pv 0) pe_int (fun _ _ => rfl)) pe_str (nomark _)) (pss_one ps_never) pss_nil) (pss_one ps_never)))))))))))), rd_start ?_⟩
 walk_at "walk"
 refine rd_kILd (xs := l.map claimD) S (by walk_at "m") fun J wk => ?_
 refine comp_map wk (fun j => .int (l.getD j (0, 0, 0)).1) (ys := (amV l).map PyData.int) (by unfold amV; rw [List.length_map, List.map_map]; exact range_getD (fun c : Cl => PyData.int c.1) (0, 0, 0) l) S (fun _ _ => .mem (by walk_at "mem")) (by rw [List.length_map]; omega) (fun j x v B' G' Kd Kn hx t1 S hd C ex s0 H0 => ?_) fun D H1 e1 S1 => ?_
 ·obtain ⟨c, hc, rfl⟩ := mapAt hx
  refine rd_name ⟨rfl, ?_⟩
  walk_at "walk"
  refine hd (by assumption) ?_
  rw [getD_of hc]
  exact Has.int
 have S2 : Sta H H H1 [] [(rowD (amV l), .ref D), ((flatR n).shape, v0), (claimsD l, v1), (rowD tk, v2)] := S1.freeze
 clear S1
 have l8 : (amV l).length ≤ 8 := by rw [amV_len]; exact few
 have hsz := ok.sz
 have inb := ok.inb
 have okk := ok
 have fit := ok.fit
 walk_at "walk"
 refine rd_kZiLL (xs := (amV l).map PyData.int) (ys := tk.map PyData.int) S2 (by walk_at "m") (by walk_at "m") fun J2 wk2 => ?_
 refine for_wk wk2 (fun i σ cs ds => (∃ x6 x7, σ = [some v0, some v1, some v2, some (.ref D), some (.int (amV l).sum), some (.int tk.sum), x6, x7]) ∧ cs = [] ∧ ds = [(rowD (amV l), .ref D), ((flatR n).shape, v0), (claimsD l, v1), (rowD tk, v2)]) S2 ⟨⟨none, none, rfl⟩, rfl, rfl⟩ (fun i σ cs ds h => ?_) ?_ ?_
 ·obtain ⟨_, rfl, rfl⟩ := h
  exact ⟨.mem (by walk_at "mem"), fun _ _ h => h.tail, .mem (by walk_at "mem")⟩
 ·rintro i x u σ H2 cs ds hx ⟨⟨x6, x7, rfl⟩, rfl, rfl⟩ S3
  obtain ⟨xa, xb, h1, h2, rfl⟩ := zipD_at hx
  obtain ⟨a, ha, rfl⟩ := mapAt h1
  obtain ⟨p, hp, rfl⟩ := mapAt h2
  have b := inb.2 i a p ha hp
  refine rd_gTup (rd_kGT2 S3 (by walk_at "m") fun w1 w2 S4 => ?_)
  cases S4.int1
  cases S4.drop1.int1
  walk_at "walk"
  refine iteD (fun c => absurd c (by omega)) (fun _ => ?_)
  walk_at "walk"
  refine iteD (fun c => absurd c (by omega)) (fun _ => ?_)
  walk_at "walk"
  exact rd_at (S4.dat (by walk_at "dats")) ⟨⟨_, _, rfl⟩, rfl, rfl⟩
 rintro σ H2 cs ds ⟨⟨x6, x7, rfl⟩, rfl, rfl⟩ S3
 clear S2 wk wk2
 match n, hn, okk, fit, S3 with
 | 0, _, okk, fit, S3 =>
   simp only [flatR, Rl.shape] at S3
   obtain ⟨it, ia⟩ := inb.inS l8 hsz
   have st := it.sum.2
   have sa := ia.sum.2
   walk_at "walk"
   refine rd_kILd (xs := tk.map PyData.int) S3 (by walk_at "m") fun J3 wk3 => ?_
   refine comp_map wk3 (fun j => .int (tk.getD j 0 * (amV l).sum)) (ys := (tk.map (· * (amV l).sum)).map PyData.int) (by rw [List.length_map, List.map_map]; exact range_getD (fun x : Int => PyData.int (x * (amV l).sum)) 0 tk) S3 (fun _ _ => .mem (by walk_at "mem")) (by rw [List.length_map, inb.1]; omega) (fun j x v B' G' Kd Kn hx t1 S hd C ex s0 H0 => ?_) fun D4 H4 e4 S4 => ?_
   ·obtain ⟨y, hy, rfl⟩ := mapAt hx
    cases S.int1
    have o : IntMulOk y (amV l).sum := (it.2 y (List.mem_of_getElem? hy)).2.mulOk sa (by decide)
    refine rd_name ⟨rfl, ?_⟩
    walk_at "walk"
    refine hd S ?_
    rw [getD_of hy]
    exact Has.int
   walk_at "walk"
   refine rd_kILd (xs := (amV l).map PyData.int) S4 (by walk_at "m") fun J5 wk5 => ?_
   refine comp_map wk5 (fun j => .int ((amV l).getD j 0 * tk.sum)) (ys := ((amV l).map (· * tk.sum)).map PyData.int) (by rw [List.length_map, List.map_map]; exact range_getD (fun x : Int => PyData.int (x * tk.sum)) 0 (amV l)) S4 (fun _ _ => .mem (by walk_at "mem")) (by rw [List.length_map]; omega) (fun j x v B' G' Kd Kn hx t1 S hd C ex s0 H0 => ?_) fun D6 H6 e6 S6 => ?_
   ·obtain ⟨y, hy, rfl⟩ := mapAt hx
    cases S.int1
    have o : IntMulOk y tk.sum := (ia.2 y (List.mem_of_getElem? hy)).2.mulOk st (by decide)
    refine rd_name ⟨rfl, ?_⟩
    walk_at "walk"
    refine hd S ?_
    rw [getD_of hy]
    exact Has.int
   refine rd_eqD (x := rowD (tk.map (· * (amV l).sum))) (y := rowD ((amV l).map (· * tk.sum))) (S6.hpC (by walk_at "mem")) (S6.hpC (by walk_at "mem")) (shaped_row _) (shaped_row _) ?_
   rw [eqv_row, decide_eq_true (show tk.map (· * (amV l).sum) = (amV l).map (· * tk.sum) from fit)]
   exact k _ S6.base
 | 1, _, okk, fit, S3 =>
   simp only [flatR, Rl.shape] at S3
   walk_at "walk"
   refine rd_even S3 (by walk_at "m") (by walk_at "m") l8 fit fun H4 e4 S4 => ?_
   exact k _ S4.base
 | 2, _, okk, fit, S3 =>
   simp only [flatR, Rl.shape] at S3
   walk_at "walk"
   refine rd_kZiLL (xs := (amV l).map PyData.int) (ys := tk.map PyData.int) S3 (by walk_at "m") (by walk_at "m") fun J3 wk3 => ?_
   have ll : (lessV (amV l) tk).length = (amV l).length := lessV_len inb.1
   refine comp_map wk3 (fun j => .int ((lessV (amV l) tk).getD j 0)) (ys := (lessV (amV l) tk).map PyData.int) ?_ S3 (fun _ _ => ⟨.mem (by walk_at "mem"), fun _ _ h => h.tail, .mem (by walk_at "mem")⟩) ?_ (fun j x v B' G' Kd Kn hx t1 S hd C ex s0 H0 => ?_) fun D4 H4 e4 S4 => ?_
   ·rw [zipD_len, List.length_map, List.length_map, inb.1, Nat.min_self, ← ll]
    exact range_getD (fun x => PyData.int x) 0 _
   ·rw [zipD_len, List.length_map, List.length_map]; omega
   ·obtain ⟨x1, x2, h1, h2, rfl⟩ := zipD_at hx
    obtain ⟨n1, hn1, rfl⟩ := mapAt h1
    obtain ⟨n2, hn2, rfl⟩ := mapAt h2
    refine rd_gTup (rd_kGT2 S (by walk_at "m") fun w1 w2 S => ?_)
    cases S.int1
    cases S.drop1.int1
    refine rd_gCons (rd_name (rd_gCons (rd_name (rd_gNil ⟨rfl, ?_⟩))))
    walk_at "walk"
    refine hd S ?_
    rw [getD_of (show (lessV (amV l) tk)[j]? = some (n1 - n2) by unfold lessV; rw [List.getElem?_zipWith, hn1, hn2])]
    exact Has.int
   walk_at "walk"
   refine rd_even (am := amV l) (tk := lessV (amV l) tk) S4.freeze (by walk_at "m") (by walk_at "m") l8 fit fun H5 e5 S5 => ?_
   exact k _ S5.base
 | 3, _, okk, fit, S3 =>
   simp only [flatR, Rl.shape] at S3
   walk_at "walk"
   rename_i p4 H4 e4 S4
   refine rd_fitsU (l := l) (tk := tk) S4 (by walk_at "m") (by walk_at "m") (by walk_at "m") okk fun H5 e5 S5 => ?_
   exact k _ S5.base
end
section
variable {A : RAd}
abbrev s_law_claims : Stmt := top 69
theorem sc_law_claims : FnScope ["_law_script", "_law_at", "_law_many", "_law_size", "_law_labels_here", "_law_ranks", "_law_groups", "_law_claims_here", "_law_k", "_law_cell", "_law_amount"] ["_law_script", "_law_at", "_law_many", "_law_size"] (defScope s_law_claims) := ⟨rfl, rfl, rfl, by decide +kernel, rfl, by decide +kernel, by decide +kernel⟩
theorem ok_claims (B : Bl mg) (C_law_cell_at : Cal P w K mg base CX0 1 "_law_cell_at" ["_law_script", "_law_k"] (spCell K)) (C_law_mixed : Cal P w K mg base CX0 1 "_law_mixed" ["_law_cell", "_law_place"] spMix) (C_law_labels : Cal P w K mg base CX0 1 "_law_labels" ["_law_number"] spLabels) (F : Fun K "_law_claims" "_law_claims" s_law_claims f fd) : FnOk P w K mg base CX0 2 f fd ["_law_script", "_law_at", "_law_many", "_law_size"] (spClaims K) := by
 refine F.ok sc_law_claims (fun vs H Q E h => ?_) (fun cdv A outer s H vs Q E hr h => ?_)
 ·obtain ⟨G, a, ns, at', many, size, rfl, _⟩ := h
  rfl
 obtain ⟨G, a, ns, at', many, size, rfl, eG, hS, ⟨ha0, hm1, hm8, hs0, hs1⟩, k⟩ := h
 have S : Sta H G H [] [] := Sta.enter eG fun p hp => absurd hp List.not_mem_nil
 have hz : Sz 160 size := by
  unfold Sz
  have : (10 : Int) ^ 46 < 2 ^ 160 := by decide +kernel
  omega
 have h5 : Sz 160 5 := by unfold Sz; decide
 refine ⟨_, (pss_cons (ps_set (i := 4) sc_law_claims.nd rfl (by walk_at "o") (pe_cal C_law_mixed hr (by walk_at "l") pass0 rfl (pa_cons (pe_cal C_law_cell_at hr (by walk_at "l") pass0 rfl (pa_cons (pv 0) (pa_cons (pv 1) pa_nil))) (pa_cons pe_int pa_nil)))) (pss_cons (ps_set (i := 5) sc_law_claims.nd rfl (by walk_at "o") (pe_cal C_law_labels hr (by walk_at "l") pass0 rfl (pa_cons (pv 4) pa_nil))) (pss_cons (ps_set (i := 6) sc_law_claims.nd rfl (by walk_at "o") (pe_cal C_law_labels hr (by walk_at "l") pass0 rfl (pa_cons (pe_op op_fdiv (pv 4) pe_int) pa_nil))) (pss_cons (ps_set (i := 7) sc_law_claims.nd rfl (by walk_at "o") (pe_lst pa_nil)) (pss_cons (ps_for PassesOwn.never rfl (pi_range1 rfl B.range (pa_cons (pv 2) pa_nil)) (pg_name (i := 8) sc_law_claims.nd rfl (by walk_at "o")) (pss_cons (ps_set (i := 9) sc_law_claims.nd rfl (by walk_at "o") (pe_cal C_law_cell_at hr (by walk_at "l") pass0 rfl (pa_cons (pv 0) (pa_cons (pe_op op_addA (pv 1) (pv 8)) pa_nil)))) (pss_cons (ps_set (i := 10) sc_law_claims.nd rfl (by walk_at "o") (pe_op op_modN (pe_op op_fdiv (pv 9) pe_int) (pv 3))) (pss_cons (ps_if (pt_cmpR (op_eqA (units_of hr)) (pe_op op_mod (pv 9) pe_int) pe_int (nomark _)) (pss_one (ps_set (i := 10) sc_law_claims.nd rfl (by walk_at "o") (pe_op op_mod (pe_op op_fdiv (pv 9) pe_int) pe_int))) pss_nil) (pss_cons (ps_if (PW.pt (pw_and (pt_cmpR (op_eqA (units_of hr)) (pe_op op_mod (pv 9) pe_int) pe_int (nomark _)) (pw_and1 (pt_cmpR op_gt (pv 8) pe_int (nomark _))))) (pss_one (ps_set (i := 10) sc_law_claims.nd rfl (by walk_at "o") (pe_ix ix_seq (pe_ix ix_seq (pv 7) (pe_op op_modN (pe_op op_fdiv (pv 9) pe_int) (pv 8)) (fun _ _ => rfl)) pe_int (fun _ _ => rfl)))) pss_nil) (pss_one (ps_expr (pe_bm PySem.F.plainAttrs_list PySem.F.slot_list_append PySem.F.type_list_append mt_append (pv 7) (pa_cons (pe_tup (pa_cons (pv 10) (pa_cons (pe_ix ix_seq (pv 5) (pe_op op_mod (pe_cal C_law_mixed hr (by walk_at "l") pass0 rfl (pa_cons (pv 9) (pa_cons pe_int pa_nil))) pe_int) (fun _ _ => rfl)) (pa_cons (pe_ix ix_seq (pv 6) (pe_op op_mod (pe_cal C_law_mixed hr (by walk_at "l") pass0 rfl (pa_cons (pv 9) (pa_cons pe_int pa_nil))) pe_int) (fun _ _ => rfl)) pa_nil)))) pa_nil))))))))) (pss_one (ps_ret (pv 7)))))))), rd_start ?_⟩
 walk_at "walk"
 generalize mixV (cellAt ns at') 3 = lab at *
 refine rd_labels S fun p1 H1 e1 S1 => ?_
 have S1' := S1.freeze
 walk_at "walk"
 refine rd_labels S1' fun p2 H2 e2 S2 => ?_
 have S2' := S2.freeze
 walk_at "walk"
 rename_i p3 H3 e3 S3
 refine rd_kR1 H G (by omega) (by omega) fun J wk => ?_
 refine for_wk wk (fun i σ cs ds => ∃ (l : List Cl) (x8 x9 x10 : Option V), σ = [some (.ref a), some (.int at'), some (.int many), some (.int size), some (.int lab), some (.ref p1), some (.ref p2), some (.ref p3), x8, x9, x10] ∧ cs = [(p3, l.map claimD)] ∧ ds = [(rowD (labV (lab / 5)), .ref p2), (rowD (labV lab), .ref p1)] ∧ l.length = i ∧ ∀ c ∈ l, (0 ≤ c.1 ∧ 0 ≤ c.2.1 ∧ 0 ≤ c.2.2) ∧ Sz 160 c.1) S3
  ⟨[], none, none, none, rfl, rfl, rfl, rfl, fun c hc => absurd hc List.not_mem_nil⟩ (fun _ _ _ _ _ => trivial) ?_ ?_
 ·rintro i x v σ H4 cs ds hx ⟨l, x8, x9, x10, rfl, rfl, rfl, hlen, hok⟩ S4
  obtain ⟨hi, rfl⟩ := rangeD_at hx
  cases S4.int1
  have hS4 : SqL K H4 a (ns.map V.int) := S4.base.seq hS
  have S4 := S4.drop1
  walk_at "walk"
  generalize cellAt ns (at' + (0 + (i : Int))) = c at *
  have fin : ∀ (am : Int) (y8 y9 y10 : Option V) (r g : Int) (H5 : Hp), 0 ≤ am → Sz 160 am → 0 ≤ r → 0 ≤ g → Sta H G H5 [(p3, l.map claimD ++ [claimD (am, r, g)])] [(rowD (labV (lab / 5)), .ref p2), (rowD (labV lab), .ref p1)] →
   AtP H G (fun σ cs ds => ∃ (l : List Cl) (x8 x9 x10 : Option V), σ = [some (.ref a), some (.int at'), some (.int many), some (.int size), some (.int lab), some (.ref p1), some (.ref p2), some (.ref p3), x8, x9, x10] ∧ cs = [(p3, l.map claimD)] ∧ ds = [(rowD (labV (lab / 5)), .ref p2), (rowD (labV lab), .ref p1)] ∧ l.length = i + 1 ∧ ∀ c ∈ l, (0 ≤ c.1 ∧ 0 ≤ c.2.1 ∧ 0 ≤ c.2.2) ∧ Sz 160 c.1) [some (.ref a), some (.int at'), some (.int many), some (.int size), some (.int lab), some (.ref p1), some (.ref p2), some (.ref p3), y8, y9, y10] H5 := by
   intro am y8 y9 y10 r g H5 h0 hz hr hg S5
   refine rd_at S5 ⟨l ++ [(am, r, g)], y8, y9, y10, rfl, by rw [List.map_append]; rfl, rfl, by rw [List.length_append, hlen]; rfl, fun c hc => ?_⟩
   rcases List.mem_append.mp hc with z | z
   ·exact hok c z
   ·rw [List.mem_singleton.mp z]
    exact ⟨⟨h0, hr, hg⟩, hz⟩
  have lmem : (l.map claimD).length ≤ 1000 := by rw [List.length_map]; omega
  obtain ⟨r, hr0, hr1⟩ := labV_at lab (mixV c 1)
  obtain ⟨g, hg0, hg1⟩ := labV_at (lab / 5) (mixV c 2)
  have sz0 : size ≠ 0 := by omega
  have f0 : (c / 9).fmod size = c / 9 % size := Int.fmod_eq_emod_of_nonneg _ (by omega)
  have m1 := Int.emod_nonneg (c / 9) sz0
  have m2 := Int.emod_lt_of_pos (c / 9) (show 0 < size by omega)
  walk_at "walk"
  refine iteD (fun c1 => ?_) (fun c1 => ?_)
  ·walk_at "walk"
   refine iteD (fun c2 => absurd c2 (by omega)) (fun _ => ?_)
   walk_at "walk"
   refine rd_ixLI (xs := (labV lab).map PyData.int) S4 (by walk_at "m") hr1 ?_
   walk_at "walk"
   refine rd_ixLI (xs := (labV (lab / 5)).map PyData.int) S4 (by walk_at "m") hg1 ?_
   walk_at "walk"
   rename_i q5 H5 e5 S5
   refine rd_append (y := claimD (c / 9 % 5, r, g)) S5 (by walk_at "m") lmem fun H6 S6 => ?_
   walk_at "walk"
   exact fin (c / 9 % 5) _ _ _ r g H6 (by omega) (by unfold Sz; omega) hr0 hg0 (S6.dat (by walk_at "dats"))
  ·have q0 : 0 ≤ (c / 9).fmod size := by rw [f0]; exact m1
   have qz : Sz 160 ((c / 9).fmod size) := by rw [f0]; exact sz_le m1 (Int.le_of_lt m2) hz
   walk_at "walk"
   refine iteD (fun c2 => ?_) (fun _ => ?_)
   ·walk_at "walk"
    refine iteD (fun c3 => ?_) (fun _ => ?_)
    ·have i0 : 0 + (i : Int) ≠ 0 := by omega
     have e1 := Int.fmod_eq_emod_of_nonneg (c / 9) (show 0 ≤ 0 + (i : Int) by omega)
     have n1 := Int.emod_nonneg (c / 9) i0
     have n2 := Int.emod_lt_of_pos (c / 9) (show 0 < 0 + (i : Int) by omega)
     rw [← e1] at n1 n2
     walk_at "walk"
     have hj : ((c / 9).fmod (0 + (i : Int))).toNat < l.length := by omega
     have hc' := List.getElem?_eq_getElem hj
     have hat : atI (l.map claimD) ((c / 9).fmod (0 + (i : Int))) = some (claimD (l[((c / 9).fmod (0 + (i : Int))).toNat])) := by
      have := atI_nat (xs := l.map claimD) (j := ((c / 9).fmod (0 + (i : Int))).toNat) (v := claimD (l[((c / 9).fmod (0 + (i : Int))).toNat])) (by rw [List.getElem?_map, hc']; rfl)
      rwa [Int.toNat_of_nonneg n1] at this
     have okc := hok _ (List.getElem_mem hj)
     generalize l[((c / 9).fmod (0 + (i : Int))).toNat] = c' at *
     refine rd_ixC (x := claimD c') S4 (by walk_at "mem") hat fun w7 S7 => ?_
     walk_at "walk"
     refine rd_ixLI (xs := (labV lab).map PyData.int) S7 (by walk_at "m") hr1 ?_
     walk_at "walk"
     refine rd_ixLI (xs := (labV (lab / 5)).map PyData.int) S7 (by walk_at "m") hg1 ?_
     walk_at "walk"
     rename_i q5 H5 e5 S5
     refine rd_append (y := claimD (c'.1, r, g)) S5 (by walk_at "m") lmem fun H6 S6 => ?_
     walk_at "walk"
     exact fin (c'.1) _ _ _ r g H6 okc.1.1 okc.2 hr0 hg0 (S6.dat (by walk_at "dats"))
    ·skip
     walk_at "walk"
     refine rd_ixLI (xs := (labV lab).map PyData.int) S4 (by walk_at "m") hr1 ?_
     walk_at "walk"
     refine rd_ixLI (xs := (labV (lab / 5)).map PyData.int) S4 (by walk_at "m") hg1 ?_
     walk_at "walk"
     rename_i q5 H5 e5 S5
     refine rd_append (y := claimD ((c / 9).fmod size, r, g)) S5 (by walk_at "m") lmem fun H6 S6 => ?_
     walk_at "walk"
     exact fin ((c / 9).fmod size) _ _ _ r g H6 q0 qz hr0 hg0 (S6.dat (by walk_at "dats"))
   ·skip
    walk_at "walk"
    refine rd_ixLI (xs := (labV lab).map PyData.int) S4 (by walk_at "m") hr1 ?_
    walk_at "walk"
    refine rd_ixLI (xs := (labV (lab / 5)).map PyData.int) S4 (by walk_at "m") hg1 ?_
    walk_at "walk"
    rename_i q5 H5 e5 S5
    refine rd_append (y := claimD ((c / 9).fmod size, r, g)) S5 (by walk_at "m") lmem fun H6 S6 => ?_
    walk_at "walk"
    exact fin ((c / 9).fmod size) _ _ _ r g H6 q0 qz hr0 hg0 (S6.dat (by walk_at "dats"))
 ·rintro σ H4 cs ds ⟨l, x8, x9, x10, rfl, rfl, rfl, hlen, hok⟩ S4
  walk_at "walk"
  rw [rangeD_len] at hlen
  obtain ⟨G', a', b', c', d', e', f', g'⟩ := S4
  obtain ⟨z1, z2, us, z3, z4⟩ := e' _ (List.mem_cons_self ..)
  exact k l p3 H4 G' us hlen ⟨by omega, by omega, fun c hc => (hok c hc).1, fun c hc => (hok c hc).2⟩ ⟨c', a', b', d'⟩ z1 z2 z3 z4
abbrev s_law_rule : Stmt := top 76
theorem sc_law_rule : FnScope ["_law_shape"] ["_law_shape"] (defScope s_law_rule) := ⟨rfl, rfl, rfl, by decide +kernel, rfl, by decide +kernel, by decide +kernel⟩
theorem ok_rulel (mShares : Maker P w K mg base "Shares" (A.cls .shares) ["self"] (spInit (A.cls .shares) (α := Unit) (fun _ => []) (fun _ => Rl.shares.shape))) (mEvenly : Maker P w K mg base "Evenly" (A.cls .evenly) ["self"] (spInit (A.cls .evenly) (α := Unit) (fun _ => []) (fun _ => Rl.evenly.shape))) (mLosses : Maker P w K mg base "Losses" (A.cls .losses) ["self"] (spInit (A.cls .losses) (α := Unit) (fun _ => []) (fun _ => Rl.losses.shape))) (mHalves : Maker P w K mg base "Halves" (A.cls .halves) ["self"] (spInit (A.cls .halves) (α := Unit) (fun _ => []) (fun _ => Rl.halves.shape))) (F : Fun K "_law_rule" "_law_rule" s_law_rule f fd) : FnOk P w K mg base CX0 4 f fd ["_law_shape"] (spRuleL A) := by
 obtain ⟨f_Shares, fd_Shares, MK_Shares, F_Shares__init, b_Shares__init, g_Shares⟩ := mShares
 obtain ⟨f_Evenly, fd_Evenly, MK_Evenly, F_Evenly__init, b_Evenly__init, g_Evenly⟩ := mEvenly
 obtain ⟨f_Losses, fd_Losses, MK_Losses, F_Losses__init, b_Losses__init, g_Losses⟩ := mLosses
 obtain ⟨f_Halves, fd_Halves, MK_Halves, F_Halves__init, b_Halves__init, g_Halves⟩ := mHalves
 refine F.ok sc_law_rule (fun vs H Q E h => ?_) (fun cdv A' outer s H vs Q E hr h => ?_)
 ·obtain ⟨G, a, _, h, _⟩ := h
  rw [← h.len]; rfl
 obtain ⟨G, n, eG, hA, hn, k⟩ := h
 obtain ⟨v, rfl, al⟩ := isAll1 hA
 have S : Sta H G H [] [((flatR n).shape, v)] := Sta.enter eG al
 refine ⟨_, (pss_cons (ps_if (pt_cmpR (op_eqA (units_of hr)) (pe_ix ix_seq (pv 0) pe_int (fun _ _ => rfl)) pe_str (nomark _)) (pss_one (ps_ret (pe_make0 MK_Shares (F_Shares__init.mono (by walk_at "l")) hr rfl g_Shares b_Shares__init .nil pass0))) pss_nil) (pss_cons (ps_if (pt_cmpR (op_eqA (units_of hr)) (pe_ix ix_seq (pv 0) pe_int (fun _ _ => rfl)) pe_str (nomark _)) (pss_one (ps_ret (pe_make0 MK_Evenly (F_Evenly__init.mono (by walk_at "l")) hr rfl g_Evenly b_Evenly__init .nil pass0))) pss_nil) (pss_cons (ps_if (pt_cmpR (op_eqA (units_of hr)) (pe_ix ix_seq (pv 0) pe_int (fun _ _ => rfl)) pe_str (nomark _)) (pss_one (ps_ret (pe_make0 MK_Losses (F_Losses__init.mono (by walk_at "l")) hr rfl g_Losses b_Losses__init .nil pass0))) pss_nil) (pss_cons (ps_if (pt_cmpR (op_eqA (units_of hr)) (pe_ix ix_seq (pv 0) pe_int (fun _ _ => rfl)) pe_str (nomark _)) (pss_one (ps_ret (pe_make0 MK_Halves (F_Halves__init.mono (by walk_at "l")) hr rfl g_Halves b_Halves__init .nil pass0))) pss_nil) (pss_cons (ps_if (pt_cmpR (op_eqA (units_of hr)) (pe_ix ix_seq (pv 0) pe_int (fun _ _ => rfl)) pe_str (nomark _)) (pss_one ps_never) pss_nil) (pss_cons (ps_if (pt_cmpR (op_eqA (units_of hr)) (pe_ix ix_seq (pv 0) pe_int (fun _ _ => rfl)) pe_str (nomark _)) (pss_one ps_never) pss_nil) (pss_cons (ps_if (pt_cmpR (op_eqA (units_of hr)) (pe_ix ix_seq (pv 0) pe_int (fun _ _ => rfl)) pe_str (nomark _)) (pss_one ps_never) pss_nil) (pss_one ps_never)))))))), rd_start ?_⟩
 match n, hn, k, S with
 | 0, _, k, S =>
   simp only [flatR, Rl.shape] at S
   walk_at "walk"
   refine rd_kMake () S HasAll.nil fun x1 H1 e1 S1 => ?_
   exact ret_T S1 k (by walk_at "m")
 | 1, _, k, S =>
   simp only [flatR, Rl.shape] at S
   walk_at "walk"
   refine rd_kMake () S HasAll.nil fun x1 H1 e1 S1 => ?_
   exact ret_T S1 k (by walk_at "m")
 | 2, _, k, S =>
   simp only [flatR, Rl.shape] at S
   walk_at "walk"
   refine rd_kMake () S HasAll.nil fun x1 H1 e1 S1 => ?_
   exact ret_T S1 k (by walk_at "m")
 | 3, _, k, S =>
   simp only [flatR, Rl.shape] at S
   walk_at "walk"
   refine rd_kMake () S HasAll.nil fun x1 H1 e1 S1 => ?_
   exact ret_T S1 k (by walk_at "m")
abbrev s_law_purse : Stmt := top 77
theorem sc_law_purse : FnScope ["_law_whole_here", "_law_cell", "_law_kind", "_law_number"] ["_law_whole_here", "_law_cell"] (defScope s_law_purse) := ⟨rfl, rfl, rfl, by decide +kernel, rfl, by decide +kernel, by decide +kernel⟩
theorem ok_purse (C_law_lowest : Cal P w K mg base CX0 2 "_law_lowest" ["_law_top", "_law_bottom"] spLawLow) (F : Fun K "_law_purse" "_law_purse" s_law_purse f fd) : FnOk P w K mg base CX0 3 f fd ["_law_whole_here", "_law_cell"] spPurse := by
 refine F.ok sc_law_purse (fun vs H Q E h => ?_) (fun cdv A' outer s H vs Q E hr h => ?_)
 ·obtain ⟨G, wh, c, rfl, _⟩ := h
  rfl
 obtain ⟨G, wh, c, rfl, eG, ⟨w0, wz⟩, k⟩ := h
 have S : Sta H G H [] [] := Sta.enter eG fun p hp => absurd hp List.not_mem_nil
 have good : ∀ (i j : Int), 0 ≤ i → 0 < j → Sz 300 i → Sz 300 j → 0 ≤ Rat.divInt i j ∧ SzQ 300 (Rat.divInt i j) := fun i j h1 h2 z1 z2 => ⟨Rat.divInt_nonneg h1 (by omega), SzQ.divInt z1 z2 (by omega)⟩
 have n3 : wh + 3 ≠ 0 := by omega
 have n5 : 2 * wh + 5 ≠ 0 := by omega
 have b0 : wh < 2 ^ 180 := by unfold Sz at wz; omega
 have p12 : (0 : Int) < 10 ^ Int.toNat 12 := by decide
 refine ⟨_, (pss_cons (ps_set (i := 2) sc_law_purse.nd rfl (by walk_at "o") (pe_op op_mod (pv 1) pe_int)) (pss_cons (ps_set (i := 3) sc_law_purse.nd rfl (by walk_at "o") (pe_op op_fdiv (pv 1) pe_int)) (pss_cons (ps_if (pt_cmpR (op_eqA (units_of hr)) (pv 2) pe_int (nomark _)) (pss_one (ps_ret (pe_tup (pa_cons (pe_op op_modN (pv 3) (pe_op op_addA (pv 0) pe_int)) (pa_cons pe_int pa_nil))))) pss_nil) (pss_cons (ps_if (pt_cmpR (op_eqA (units_of hr)) (pv 2) pe_int (nomark _)) (pss_one (ps_ret (pe_cal C_law_lowest hr (by walk_at "l") pass0 rfl (pa_cons (pv 0) (pa_cons pe_int pa_nil))))) pss_nil) (pss_cons (ps_if (pt_cmpR (op_eqA (units_of hr)) (pv 2) pe_int (nomark _)) (pss_one (ps_ret (pe_cal C_law_lowest hr (by walk_at "l") pass0 rfl (pa_cons (pe_op op_modN (pv 3) (pe_op op_addA (pe_op op_mulB pe_int (pv 0)) pe_int)) (pa_cons pe_int pa_nil))))) pss_nil) (pss_cons (ps_if (pt_cmpR (op_eqA (units_of hr)) (pv 2) pe_int (nomark _)) (pss_one (ps_ret (pe_cal C_law_lowest hr (by walk_at "l") pass0 rfl (pa_cons (pe_op op_mulB (pv 0) (pe_op op_mod (pv 3) pe_int)) (pa_cons pe_int pa_nil))))) pss_nil) (pss_one (ps_ret (pe_cal C_law_lowest hr (by walk_at "l") pass0 rfl (pa_cons (pe_op op_modN (pv 3) (pe_op op_mulB (pe_op op_addA (pv 0) pe_int) (pe_op op_pow pe_int pe_int))) (pa_cons (pe_op op_pow pe_int pe_int) pa_nil))))))))))), rd_start ?_⟩
 walk_at "walk"
 refine iteD (fun _ => ?_) (fun _ => ?_)
 ·walk_at "walk"
  rename_i p1 H1 e1 S1
  have e := Int.fmod_eq_emod_of_nonneg (c / 5) (show 0 ≤ wh + 3 by omega)
  have m1 := Int.emod_nonneg (c / 5) n3
  have m2 := Int.emod_lt_of_pos (c / 5) (show 0 < wh + 3 by omega)
  rw [← e] at m1 m2
  have hq : PyData.tuple [.int ((c / 5).fmod (wh + 3)), .int 1] = frD (((c / 5).fmod (wh + 3) : Int) : Rat) := rfl
  rw [hq] at S1
  exact ret_Pu S1 k (by walk_at "m") ⟨cast_nn m1, by show Sz 300 ((c / 5).fmod (wh + 3)); unfold Sz; omega, by show Sz 300 1; unfold Sz; decide⟩
 walk_at "walk"
 refine iteD (fun _ => ?_) (fun _ => ?_)
 ·walk_at "walk"
  refine rd_lawlow S (by decide) (by unfold Sz; decide +kernel) fun r H1 e1 S1 => ?_
  exact ret_Pu S1 k (by walk_at "m") (good _ _ w0 (by decide) (wz.mono (by decide)) (by unfold Sz; decide))
 walk_at "walk"
 refine iteD (fun _ => ?_) (fun _ => ?_)
 ·walk_at "walk"
  have e := Int.fmod_eq_emod_of_nonneg (c / 5) (show 0 ≤ 2 * wh + 5 by omega)
  have m1 := Int.emod_nonneg (c / 5) n5
  have m2 := Int.emod_lt_of_pos (c / 5) (show 0 < 2 * wh + 5 by omega)
  rw [← e] at m1 m2
  refine rd_lawlow S (by decide) (by unfold Sz; decide +kernel) fun r H1 e1 S1 => ?_
  exact ret_Pu S1 k (by walk_at "m") (good _ _ m1 (by decide) (by unfold Sz; omega) (by unfold Sz; decide))
 walk_at "walk"
 refine iteD (fun _ => ?_) (fun _ => ?_)
 ·have o : IntMulOk wh (c / 5 % 1009) := wz.mulOk (n := 10) (by unfold Sz; omega) (by decide)
  walk_at "walk"
  refine rd_lawlow S (by decide) (by unfold Sz; decide +kernel) fun r H1 e1 S1 => ?_
  exact ret_Pu S1 k (by walk_at "m") (good _ _ (Int.mul_nonneg w0 (by omega)) (by decide) ((wz.mul (n := 10) (by unfold Sz; omega)).mono (by decide)) (by unfold Sz; decide))
 have z1 : Sz 181 (wh + 1) := by unfold Sz; omega
 have z2 : Sz 60 ((10 : Int) ^ Int.toNat 12) := by unfold Sz; decide
 have o2 : IntMulOk (wh + 1) (10 ^ Int.toNat 12) := z1.mulOk z2 (by decide)
 have zz := z1.mul z2
 have pp : 0 < (wh + 1) * (10 : Int) ^ Int.toNat 12 := Int.mul_pos (by omega) p12
 have nz : (wh + 1) * (10 : Int) ^ Int.toNat 12 ≠ 0 := by omega
 have e := Int.fmod_eq_emod_of_nonneg (c / 5) (show 0 ≤ (wh + 1) * (10 : Int) ^ Int.toNat 12 by omega)
 have m1 := Int.emod_nonneg (c / 5) nz
 have m2 := Int.emod_lt_of_pos (c / 5) pp
 rw [← e] at m1 m2
 walk_at "walk"
 refine rd_lawlow S p12 (z2.mono (by decide)) fun r H1 e1 S1 => ?_
 exact ret_Pu S1 k (by walk_at "m") (good _ _ m1 p12 ((sz_le m1 (Int.le_of_lt m2) zz).mono (by decide)) (z2.mono (by decide)))
end
section
variable {A : RAd}
abbrev s_law_right : Stmt := top 75
theorem sc_law_right : FnScope ["_law_shape", "_law_claims_here", "_law_purse_here", "_law_parts", "_law_by", "_law_part", "_law_told", "_law_due"] ["_law_shape", "_law_claims_here", "_law_purse_here", "_law_parts"] (defScope s_law_right) := ⟨rfl, rfl, rfl, by decide +kernel, rfl, by decide +kernel, by decide +kernel⟩
theorem ok_right (B : Bl mg) (C_law_is_fraction : Cal P w K mg base CX0 2 "_law_is_fraction" ["_law_found"] spFrac) (C_law_divisor : Cal P w K mg base CX0 1 "_law_divisor" ["_law_one", "_law_two"] spDiv2) (C_law_fits : Cal P w K mg base CX0 5 "_law_fits" ["_law_shape", "_law_claims_here", "_law_parts"] (spFits (· < 4))) (F : Fun K "_law_right" "_law_right" s_law_right f fd) : FnOk P w K mg base CX0 6 f fd ["_law_shape", "_law_claims_here", "_law_purse_here", "_law_parts"] spRight := by
 refine F.ok sc_law_right (fun vs H Q E h => ?_) (fun cdv A outer s H vs Q E hr h => ?_)
 ·obtain ⟨a, h, _⟩ := h
  rw [← h.len]; rfl
 obtain ⟨⟨n, l, e⟩, hA, ⟨⟨hn, ok⟩, ze, e0⟩, k⟩ := h
 obtain ⟨v0, v1, v2, v3, rfl, al⟩ := isAll4R hA
 dsimp only at hn ok ze e0 al
 have S : Sta H H H [] [((flatR n).shape, v0), (claimsD l, v1), (frD e, v2), (partsD (partsV (flV n l) e), v3)] := Sta.enter (Same.refl _) al
 have fl := flat_R ok.lv ok.am hn
 have hsz : ∀ p ∈ partsV (flV n l) e, SzQ 2704 p := partsV_sz ze fl.1.sz
 have hlen : (partsV (flV n l) e).length = l.length := by
  have ne := fl.1.ne
  have ln := fl.2.1
  unfold flV
  cases hP : flatP (amV l) (lvV (amV l)) n with
  | nil => exact absurd hP ne
  | cons c r => rw [hP] at ln; rw [partsV_len ln, amV_len]
 have key := fun B (hB : 0 < B) (zB : Sz 28000 B) de hd => right_fits (B := B) (e := e) ok hn hB zB e0 de hd
 have few := ok.few
 generalize partsV (flV n l) e = ps at *
 have hv := S.hp (x := partsD ps) (v := v3) (by walk_at "m")
 refine ⟨_, (pss_cons (ps_if (PW.pt (pw_or (pt_not (pt_val (pe_callB call_isi rfl B.isinstance bt_isinstance (pa_cons (pv 3) (pa_cons (pe_bltn (v := .ty "tuple") rfl B.tuple bt_tuple rfl) pa_nil))))) (pw_or1 (pt_cmpR (op_neA (units_of hr)) (pe_callB call_lenA rfl B.len bt_len (pa_cons (pv 3) pa_nil)) (pe_callB call_lenA rfl B.len bt_len (pa_cons (pv 1) pa_nil)) (nomark _))))) (pss_one (ps_ret pe_bl)) pss_nil) (pss_cons (ps_set (i := 4) sc_law_right.nd rfl (by walk_at "o") (pe_ix ix_seq (pv 2) pe_int (fun _ _ => rfl))) (pss_cons (ps_for PassesOwn.never rfl (pi_tup (pv 3)) (pg_name (i := 5) sc_law_right.nd rfl (by walk_at "o")) (pss_cons (ps_if (pt_not (pt_val (pe_cal C_law_is_fraction hr (by walk_at "l") pass0 rfl (pa_cons (pv 5) pa_nil)))) (pss_one (ps_ret pe_bl)) pss_nil) (pss_one (ps_set (i := 4) sc_law_right.nd rfl (by walk_at "o") (pe_op op_mulB (pe_op op_fdivB (pv 4) (pe_cal C_law_divisor hr (by walk_at "l") pass0 rfl (pa_cons (pv 4) (pa_cons (pe_ix ix_seq (pv 5) pe_int (fun _ _ => rfl)) pa_nil)))) (pe_ix ix_seq (pv 5) pe_int (fun _ _ => rfl))))))) (pss_cons (ps_setComp (i := 6) (N := ["_law_part", "_law_by"]) (n := 1) (fr := [4]) sc_law_right.nd rfl rfl rfl ⟨rfl, by decide +kernel, rfl, by decide, rfl, rfl, rfl, rfl, rfl⟩ (pi_tup (pv 3)) (fun _ _ _ _ => (pg_name (i := 0) (show (["_law_part", "_law_by"] : List Str).Nodup from by decide +kernel) rfl (by walk_at "o"))) (fun _ _ _ _ => pif_nil) (fun _ _ _ _ => (pe_op op_mulB (pe_ix ix_seq (pv 0) pe_int (fun _ _ => rfl)) (pe_op op_fdivB (pv 1) (pe_ix ix_seq (pv 0) pe_int (fun _ _ => rfl)))))) (pss_cons (ps_set (i := 7) sc_law_right.nd rfl (by walk_at "o") (pe_callB (call_minA rfl) rfl B.min bt_min (pa_cons (pe_op op_mulB (pe_ix ix_seq (pv 2) pe_int (fun _ _ => rfl)) (pe_op op_fdivB (pv 4) (pe_ix ix_seq (pv 2) pe_int (fun _ _ => rfl)))) (pa_cons (pe_op op_mulB (pv 4) (pe_callB (call_sumA rfl) rfl B.sum bt_sum (pa_cons (pe_comp (N := ["_law_claim"]) (n := 1) (fr := []) rfl ⟨rfl, by decide +kernel, rfl, by decide, rfl, rfl, rfl, rfl, rfl⟩ (pi_list (pv 1)) (fun _ _ _ _ => (pg_name (i := 0) (show (["_law_claim"] : List Str).Nodup from by decide +kernel) rfl (by walk_at "o"))) (fun _ _ _ _ => pif_nil) (fun _ _ _ _ => (pe_ix ix_seq (pv 0) pe_int (fun _ _ => rfl)))) pa_nil))) pa_nil)))) (pss_cons (ps_if (pt_cmpR (op_neA (units_of hr)) (pe_callB (call_sumA rfl) rfl B.sum bt_sum (pa_cons (pv 6) pa_nil)) (pv 7) (nomark _)) (pss_one (ps_ret pe_bl)) pss_nil) (pss_one (ps_ret (pe_cal C_law_fits hr (by walk_at "l") pass0 rfl (pa_cons (pv 0) (pa_cons (pe_comp (N := ["_law_claim", "_law_by"]) (n := 1) (fr := [4]) rfl ⟨rfl, by decide +kernel, rfl, by decide, rfl, rfl, rfl, rfl, rfl⟩ (pi_list (pv 1)) (fun _ _ _ _ => (pg_name (i := 0) (show (["_law_claim", "_law_by"] : List Str).Nodup from by decide +kernel) rfl (by walk_at "o"))) (fun _ _ _ _ => pif_nil) (fun _ _ _ _ => (pe_tup (pa_cons (pe_op op_mulB (pv 1) (pe_ix ix_seq (pv 0) pe_int (fun _ _ => rfl))) (pa_cons (pe_ix ix_seq (pv 0) pe_int (fun _ _ => rfl)) (pa_cons (pe_ix ix_seq (pv 0) pe_int (fun _ _ => rfl)) pa_nil)))))) (pa_cons (pv 6) pa_nil)))))))))))), rd_start ?_⟩
 walk_at "walk"
 refine iteNS (by rw [List.length_map, List.length_map, hlen]) ?_
 walk_at "walk"
 refine rd_kITd (xs := ps.map frD) S (by walk_at "m") fun J wk => ?_
 refine for_wk wk (fun i σ cs ds => ∃ (b : Int) (x5 x6 x7 : Option V), σ = [some v0, some v1, some v2, some v3, some (.int b), x5, x6, x7] ∧ cs = [] ∧ ds = [((flatR n).shape, v0), (claimsD l, v1), (frD e, v2), (partsD ps, v3)] ∧ 0 < b ∧ Sz (300 + i * 2704) b ∧ (e.den : Int) ∣ b ∧ ∀ j p, j < i → ps[j]? = some p → (p.den : Int) ∣ b) S
  ⟨(e.den : Int), none, none, none, rfl, rfl, rfl, den_pos e, ze.2.mono (by omega), ⟨1, by rw [Int.mul_one]⟩, fun j p hj => absurd hj (Nat.not_lt_zero _)⟩ (fun i σ cs ds h => ?_) ?_ ?_
 ·obtain ⟨_, _, _, _, _, _, rfl, _⟩ := h
  exact .mem (by walk_at "mem")
 ·rintro i x u σ H2 cs ds hx ⟨b, x5, x6, x7, rfl, rfl, rfl, b0, zb, de, hd⟩ S2
  obtain ⟨p, hp, rfl⟩ := mapAt hx
  have zp := hsz p (List.mem_of_getElem? hp)
  have pd := den_pos p
  have st := lcm_step b0 pd
  walk_at "walk"
  refine rd_frac S2 (by walk_at "m") fun H3 S3 => ?_
  have gp : 0 < Int.gcd b (p.den : Int) := Int.gcd_pos_of_ne_zero_right b (by omega)
  have hc : CDv b ((Int.gcd b (p.den : Int) : Nat) : Int) := ⟨by omega, by
   refine (Sz.le zp.2 ?_).mono (by decide)
   have := Nat.le_of_dvd (by omega) (Int.gcd_dvd_natAbs_right b (p.den : Int))
   omega⟩
  have qn : 0 ≤ b.fdiv ((Int.gcd b (p.den : Int) : Nat) : Int) := by
   rw [Int.fdiv_eq_ediv_of_nonneg _ (by omega)]
   exact Int.ediv_nonneg (by omega) (by omega)
  have ql : b.fdiv ((Int.gcd b (p.den : Int) : Nat) : Int) ≤ b := by
   rw [Int.fdiv_eq_ediv_of_nonneg _ (by omega)]
   exact Int.ediv_le_self _ (by omega)
  have zq := sz_le qn ql zb
  have hi : i < ps.length := (List.getElem?_eq_some_iff.mp hp).1
  have o : IntMulOk (b.fdiv ((Int.gcd b (p.den : Int) : Nat) : Int)) (p.den : Int) := zq.mulOk zp.2 (by omega)
  walk_at "walk"
  refine rd_at ((by assumption : Sta H H H3 [] _).dat (by walk_at "dats")) ⟨_, _, _, _, rfl, rfl, rfl, st.1, (zq.mul zp.2).mono (by omega), Int.dvd_trans de st.2.1, fun j q hj hq => ?_⟩
  by_cases hji : j < i
  ·exact Int.dvd_trans (hd j q hji hq) st.2.1
  ·have : j = i := by omega
   subst this
   rw [hp] at hq
   cases hq
   exact st.2.2
 rintro σ H2 cs ds ⟨b, x5, x6, x7, rfl, rfl, rfl, b0, zb, de, hd⟩ S2
 rw [List.length_map, hlen] at zb
 have zb : Sz 28000 b := zb.mono (by omega)
 have hdv : ∀ p ∈ ps, (p.den : Int) ∣ b := fun p hp => by
  obtain ⟨j, hj, rfl⟩ := List.getElem_of_mem hp
  exact hd j _ (by rw [List.length_map]; exact hj) (List.getElem?_eq_getElem hj)
 obtain ⟨ks, kf⟩ := key b b0 zb de hdv
 have dq : ∀ d : Int, 0 < d → 0 ≤ b.fdiv d ∧ b.fdiv d ≤ b := fun d hd0 => by
  rw [Int.fdiv_eq_ediv_of_nonneg _ (by omega)]
  exact ⟨Int.ediv_nonneg (by omega) (by omega), Int.ediv_le_self _ (by omega)⟩
 walk_at "walk"
 refine rd_kITd (xs := ps.map frD) S2 (by walk_at "m") fun J3 wk3 => ?_
 refine comp_map wk3 (fun j => .int ((tkV b ps).getD j 0)) (ys := (tkV b ps).map PyData.int) (by rw [List.length_map, show ps.length = (tkV b ps).length by unfold tkV; rw [List.length_map]]; exact range_getD (fun x => PyData.int x) 0 _) S2 (fun _ _ => .mem (by walk_at "mem")) (by rw [List.length_map]; omega) (fun j x v B' G' Kd Kn hx t1 S hd C ex s0 H0 => ?_) fun D4 H4 e4 S4 => ?_
 ·obtain ⟨p, hp, rfl⟩ := mapAt hx
  have zp := hsz p (List.mem_of_getElem? hp)
  have pd := den_pos p
  have hc : CDv b (p.den : Int) := ⟨by omega, zp.2.mono (by decide)⟩
  have o : IntMulOk p.num (b.fdiv (p.den : Int)) := zp.1.mulOk (sz_le (dq _ pd).1 (dq _ pd).2 zb) (by decide)
  refine rd_name ⟨rfl, ?_⟩
  walk_at "walk"
  refine hd (by assumption) ?_
  rw [getD_of (show (tkV b ps)[j]? = some (p.num * b.fdiv (p.den : Int)) by unfold tkV; rw [List.getElem?_map, hp]; rfl)]
  exact Has.int
 have S5 := S4.freeze
 have ed := den_pos e
 have hce : CDv b (e.den : Int) := ⟨by omega, ze.2.mono (by decide)⟩
 have o1 : IntMulOk e.num (b.fdiv (e.den : Int)) := ze.1.mulOk (sz_le (dq _ ed).1 (dq _ ed).2 zb) (by decide)
 have o2 : IntMulOk b (amV l).sum := zb.mulOk ok.am.sum.2 (by decide)
 walk_at "walk"
 refine rd_kILd (xs := l.map claimD) (by assumption) (by walk_at "m") fun J6 wk6 => ?_
 refine comp_map wk6 (fun j => .int (l.getD j (0, 0, 0)).1) (ys := (amV l).map PyData.int) (by unfold amV; rw [List.length_map, List.map_map]; exact range_getD (fun c : Cl => PyData.int c.1) (0, 0, 0) l) (by assumption) (fun _ _ => .mem (by walk_at "mem")) (by rw [List.length_map]; omega) (fun j x v B' G' Kd Kn hx t1 S hd C ex s0 H0 => ?_) fun D6 H6 e6 S6 => ?_
 ·obtain ⟨c, hc, rfl⟩ := mapAt hx
  refine rd_name ⟨rfl, ?_⟩
  walk_at "walk"
  refine hd (by assumption) ?_
  rw [getD_of hc]
  exact Has.int
 walk_at "walk"
 refine iteNS ks ?_
 have S7 := S6.freeze
 walk_at "walk"
 refine rd_kILd (xs := l.map claimD) S7 (by walk_at "m") fun J8 wk8 => ?_
 refine comp_map wk8 (fun j => claimD ((fun c : Cl => ((b * c.1, c.2) : Cl)) (l.getD j (0, 0, 0)))) (ys := (l.map fun c : Cl => ((b * c.1, c.2) : Cl)).map claimD) (by
  rw [List.map_map, List.length_map]; exact range_getD (fun c : Cl => claimD ((b * c.1, c.2) : Cl)) (0, 0, 0) l) S7 (fun _ _ => .mem (by walk_at "mem")) (by rw [List.length_map]; omega) (fun j x v B' G' Kd Kn hx t1 S hd C ex s0 H0 => ?_) fun D8 H8 e8 S8 => ?_
 ·obtain ⟨c, hc, rfl⟩ := mapAt hx
  have o : IntMulOk b c.1 := zb.mulOk (ok.sz c (List.mem_of_getElem? hc)) (by decide)
  refine rd_name ⟨rfl, ?_⟩
  walk_at "walk"
  refine hd (by assumption) ?_
  rw [getD_of hc]
  exact .mem (by walk_at "mem")
 walk_at "walk"
 refine rd_fits (n := n) (l := l.map fun c : Cl => ((b * c.1, c.2) : Cl)) (tk := tkV b ps) S8.freeze (by walk_at "m") (by walk_at "m") (by walk_at "m") hn kf fun H9 e9 S9 => ?_
 exact k _ S9.base
end
local macro_rules | `(tactic| walk_at "rd") => `(tactic| with_reducible refine' rd_methB ?_)
section
variable {A : RAd}
abbrev s_law : Stmt := top 78
theorem sc_law : FnScope ["_law_script", "_law_first", "_law_many", "_law_claims_here", "_law_flat", "_law_shape", "_law_rule_here", "_law_handed", "_law_whole_here", "_law_cell", "_law_purse_here", "_law_parts"] ["_law_script"] (defScope s_law) := ⟨rfl, rfl, rfl, by decide +kernel, rfl, by decide +kernel, by decide +kernel⟩
theorem ok_law {fS fT fQ c_Rule : Addr} {fdQ : FuncData} (B : Bl mg) (okA : ∀ r : Rl, ROk K fS fT c_Rule (A.cls r)) (okP : ∀ r : Rl, Meth K (A.cls r) "parts" fQ) (g_Rule : mg "Rule" = some (.ref c_Rule)) (F_Rule_parts : FnOk P w K mg base CX0 9 fQ fdQ ["self", "claims", "purse"] (spParts A)) (b_Rule_parts : Binds K fdQ ["self", "claims", "purse"] [])
 (C_law_cell_at : Cal P w K mg base CX0 1 "_law_cell_at" ["_law_script", "_law_k"] (spCell K)) (C_law_claims : Cal P w K mg base CX0 2 "_law_claims" ["_law_script", "_law_at", "_law_many", "_law_size"] (spClaims K)) (C_law_rule : Cal P w K mg base CX0 4 "_law_rule" ["_law_shape"] (spRuleL A)) (C_law_purse : Cal P w K mg base CX0 3 "_law_purse" ["_law_whole_here", "_law_cell"] spPurse) (C_law_right : Cal P w K mg base CX0 6 "_law_right" ["_law_shape", "_law_claims_here", "_law_purse_here", "_law_parts"] spRight) (F : Fun K "law" "law" s_law f fd) : FnOk P w K mg base CX0 10 f fd ["_law_script"] (spLaw K) := by
 refine F.ok sc_law (fun vs H Q E h => ?_) (fun cdv A' outer s H vs Q E hr h => ?_)
 ·obtain ⟨a, ns, rfl, _⟩ := h
  rfl
 obtain ⟨a, ns, rfl, hS, hlen, _, q⟩ := h
 have S : Sta H H H [] [] := Sta.enter (Same.refl _) fun p hp => absurd hp List.not_mem_nil
 refine ⟨_, (pss_cons (ps_set (i := 1) sc_law.nd rfl (by walk_at "o") (pe_cal C_law_cell_at hr (by walk_at "l") pass0 rfl (pa_cons (pv 0) (pa_cons pe_int pa_nil)))) (pss_cons (ps_set (i := 2) sc_law.nd rfl (by walk_at "o") (pe_op op_addA pe_int (pe_op op_mod (pv 1) pe_int))) (pss_cons (ps_set (i := 3) sc_law.nd rfl (by walk_at "o") (pe_cal C_law_claims hr (by walk_at "l") pass0 rfl (pa_cons (pv 0) (pa_cons pe_int (pa_cons (pv 2) (pa_cons (pe_ix ix_seq (pe_lst (pa_cons pe_int (pa_cons (pe_op op_pow pe_int pe_int) (pa_cons (pe_op op_pow pe_int pe_int) pa_nil)))) (pe_op op_mod (pe_op op_fdiv (pv 1) pe_int) pe_int) (fun _ _ => rfl)) pa_nil)))))) (pss_cons (ps_set (i := 4) sc_law.nd rfl (by walk_at "o") (pe_lst (pa_cons (pe_tup (pa_cons pe_str pa_nil)) (pa_cons (pe_tup (pa_cons pe_str pa_nil)) (pa_cons (pe_tup (pa_cons pe_str pa_nil)) (pa_cons (pe_tup (pa_cons pe_str pa_nil)) pa_nil)))))) (pss_cons (ps_set (i := 5) sc_law.nd rfl (by walk_at "o") (pe_ix ix_seq (pv 4) (pe_op op_mod (pe_op op_fdiv (pv 1) pe_int) pe_int) (fun _ _ => rfl))) (pss_cons (ps_set (i := 6) sc_law.nd rfl (by walk_at "o") (pe_cal C_law_rule hr (by walk_at "l") pass0 rfl (pa_cons (pv 5) pa_nil))) (pss_cons (ps_if (pt_not (pt_val (pe_callB call_isC rfl B.isinstance bt_isinstance (pa_cons (pv 6) (pa_cons (pe_glob (v := .ref c_Rule) rfl g_Rule rfl) pa_nil))))) (pss_one (ps_ret pe_bl)) pss_nil) (pss_cons (ps_set (i := 7) sc_law.nd rfl (by walk_at "o") (pe_callTy call_listA rfl B.list bt_list (pa_cons (pv 3) pa_nil))) (pss_cons (ps_set (i := 8) sc_law.nd rfl (by walk_at "o") (pe_callB (call_sumA rfl) rfl B.sum bt_sum (pa_cons (pe_comp (N := ["_law_claim"]) (n := 1) (fr := []) rfl ⟨rfl, by decide +kernel, rfl, by decide, rfl, rfl, rfl, rfl, rfl⟩ (pi_list (pv 3)) (fun _ _ _ _ => (pg_name (i := 0) (show (["_law_claim"] : List Str).Nodup from by decide +kernel) rfl (by walk_at "o"))) (fun _ _ _ _ => pif_nil) (fun _ _ _ _ => (pe_ix ix_seq (pv 0) pe_int (fun _ _ => rfl)))) pa_nil))) (pss_cons (ps_for PassesOwn.never rfl (pi_list (pe_op op_addA (pe_lst (pa_cons pe_int (pa_cons pe_int pa_nil))) (pe_slice sl_list (pv 0) (po_some (pe_op op_addA pe_int (pv 2))) (po_some (pe_op op_addA pe_int (pv 2)))))) (pg_name (i := 9) sc_law.nd rfl (by walk_at "o")) (pss_cons (ps_set (i := 10) sc_law.nd rfl (by walk_at "o") (pe_cal C_law_purse hr (by walk_at "l") pass0 rfl (pa_cons (pv 8) (pa_cons (pv 9) pa_nil)))) (pss_cons (ps_set (i := 11) sc_law.nd rfl (by walk_at "o") (pe_methB (pv 6) (F_Rule_parts.mono (by walk_at "l")) hr b_Rule_parts pass0 (pa_cons (pv 7) (pa_cons (pv 10) pa_nil)))) (pss_one (ps_if (PW.pt (pw_or (pt_cmpR (op_neA (units_of hr)) (pv 7) (pv 3) (nomark _)) (pw_or1 (pt_not (pt_val (pe_cal C_law_right hr (by walk_at "l") pass0 rfl (pa_cons (pv 5) (pa_cons (pv 3) (pa_cons (pv 10) (pa_cons (pv 11) pa_nil)))))))))) (pss_one (ps_ret pe_bl)) pss_nil))))) (pss_one (ps_ret pe_bl)))))))))))), rd_start ?_⟩
 walk_at "walk"
 generalize cellAt ns 0 = c at *
 rename_i p1 H1 e1 S1
 obtain ⟨size, hat, hs1, hs2⟩ : ∃ n : Int, atI [PyData.int 10, .int (10 ^ Int.toNat 9), .int (10 ^ Int.toNat 46)] (c / 8 % 3) = some (.int n) ∧ 10 ≤ n ∧ n ≤ 10 ^ 46 := by
  rcases (by omega : c / 8 % 3 = 0 ∨ c / 8 % 3 = 1 ∨ c / 8 % 3 = 2) with h | h | h <;> rw [h]
  ·exact ⟨10, rfl, by decide, by decide⟩
  ·exact ⟨10 ^ Int.toNat 9, rfl, by decide, by decide⟩
  ·exact ⟨10 ^ Int.toNat 46, rfl, by decide, by decide⟩
 refine rd_ixCI S1 (by walk_at "mem") hat ?_
 have S2 : Sta H H H1 [] [] := S1.dropC
 clear S1
 have hS1 : SqL K H1 a (ns.map V.int) := S2.base.seq hS
 walk_at "walk"
 refine rd_claims S2 hS1 ⟨by decide, by omega, by omega, hs1, hs2⟩ fun l p3 H3 hl ok e3 S3 => ?_
 have S4 : Sta H H H3 [] [(claimsD l, .ref p3)] := S3.freeze
 clear S3 S2
 have few := ok.few
 walk_at "walk"
 rename_i q1 G1 i1 T1 q2 G2 i2 T2 q3 G3 i3 T3 q4 G4 i4 T4 q5 G5 i5 T5
 obtain ⟨n, hn, hat2⟩ : ∃ n, n < 4 ∧ atI [PyData.tuple [.str "shares"], .tuple [.str "evenly"], .tuple [.str "losses"], .tuple [.str "halves"]] (c / 24 % 4) = some (flatR n).shape := by
  rcases (by omega : c / 24 % 4 = 0 ∨ c / 24 % 4 = 1 ∨ c / 24 % 4 = 2 ∨ c / 24 % 4 = 3) with h | h | h | h <;> rw [h]
  ·exact ⟨0, by decide, rfl⟩
  ·exact ⟨1, by decide, rfl⟩
  ·exact ⟨2, by decide, rfl⟩
  ·exact ⟨3, by decide, rfl⟩
 refine rd_ixC (x := (flatR n).shape) T5 (by walk_at "mem") hat2 fun w6 T6 => ?_
 have S5 : Sta H H G5 [] [((flatR n).shape, w6), (claimsD l, .ref p3)] := T6.weak (by walk_at "sub") (by walk_at "dats")
 clear T1 T2 T3 T4 T5 T6
 walk_at "walk"
 refine rd_rulel (A := A) (n := n) S5 (by walk_at "m") hn fun w7 H7 e7 S7 => ?_
 walk_at "walk"
 refine rd_isC (C := A.cls (flatR n)) S7 (by walk_at "m") (okA (flatR n)) ?_
 walk_at "walk"
 rename_i p8 H8 e8 S8
 have S9 : Sta H H H8 [] [(claimsD l, .ref p8), ((flatR n).ins A, w7), ((flatR n).shape, w6), (claimsD l, .ref p3)] := S8.freeze.dat (by walk_at "dats")
 clear S8 S7 S5
 refine rd_kILd (xs := l.map claimD) S9 (by walk_at "m") fun J9 wk9 => ?_
 refine comp_map wk9 (fun j => .int (l.getD j (0, 0, 0)).1) (ys := (amV l).map PyData.int) (by unfold amV; rw [List.length_map, List.map_map]; exact range_getD (fun c : Cl => PyData.int c.1) (0, 0, 0) l) S9 (fun _ _ => .mem (by walk_at "mem")) (by rw [List.length_map]; omega) (fun j x v B' G' Kd Kn hx t1 S hd C ex s0 H0 => ?_) fun D10 H10 e10 S10 => ?_
 ·obtain ⟨c, hc, rfl⟩ := mapAt hx
  refine rd_name ⟨rfl, ?_⟩
  walk_at "walk"
  refine hd (by assumption) ?_
  rw [getD_of hc]
  exact Has.int
 have sm := ok.am.sum
 walk_at "walk"
 have S11 : Sta H H H10 [] [(claimsD l, .ref p8), ((flatR n).ins A, w7), ((flatR n).shape, w6), (claimsD l, .ref p3)] := S10.dropC
 clear S10 S9
 generalize (amV l).sum = wh at *
 rename_i p12 H12 e12 S12
 have hS12 : SqL K H12 a (ns.map V.int) := S12.base.seq hS
 refine rd_slS S12 hS12 fun p13 H13 e13 S13 => ?_
 have hcl : (cutI ns (some (1 + (1 + c % 8))) (some (21 + (1 + c % 8)))).length ≤ 63 := by unfold cutI; rw [List.length_take, List.length_drop]; omega
 generalize cutI ns (some (1 + (1 + c % 8))) (some (21 + (1 + c % 8))) = cells at *
 refine rd_addL S13 (S13.vwC (by walk_at "mem")) (S13.vwC (by walk_at "mem")) (by rw [List.length_map]; show 2 + _ ≤ 1000; omega) fun p14 H14 e14 S14 => ?_
 rw [show [PyData.int 0, .int 1] ++ cells.map PyData.int = (0 :: 1 :: cells).map PyData.int from rfl] at S14
 have S15 : Sta H H H14 [] [(rowD (0 :: 1 :: cells), .ref p14), (claimsD l, .ref p8), ((flatR n).ins A, w7), ((flatR n).shape, w6), (claimsD l, .ref p3)] := S14.freeze.weak (by walk_at "sub") (by walk_at "dats")
 clear S14 S13 S12
 refine rd_kILd (xs := (0 :: 1 :: cells).map PyData.int) S15 (by walk_at "m") fun J wk => ?_
 refine for_wk wk (fun i σ cs ds => (∃ x9 x10 x11, σ = [some (.ref a), some (.int c), some (.int (1 + c % 8)), some (.ref p3), some (.ref q5), some w6, some w7, some (.ref p8), some (.int wh), x9, x10, x11]) ∧ cs = [] ∧ ds = [(rowD (0 :: 1 :: cells), .ref p14), (claimsD l, .ref p8), ((flatR n).ins A, w7), ((flatR n).shape, w6), (claimsD l, .ref p3)]) S15 ⟨⟨none, none, none, rfl⟩, rfl, rfl⟩ (fun i σ cs ds h => ?_) ?_ ?_
 ·obtain ⟨_, rfl, rfl⟩ := h
  exact .mem (by walk_at "mem")
 ·rintro i x u σ H16 cs ds hx ⟨⟨x9, x10, x11, rfl⟩, rfl, rfl⟩ S16
  obtain ⟨y, hy, rfl⟩ := mapAt hx
  cases S16.int1
  walk_at "walk"
  refine rd_purse S16 ⟨sm.1, sm.2.mono (by decide)⟩ fun w17 H17 e ⟨g0, gz⟩ e17 S17 => ?_
  walk_at "walk"
  refine rd_kMB (C := A.cls (flatR n)) S17 (by walk_at "m") (okA (flatR n)).cl (okP (flatR n)) (by decide +kernel) ?_
  walk_at "walk"
  refine rd_parts (n := n) (l := l) S17 (by walk_at "m") (by walk_at "m") (by walk_at "m") hn ok gz g0 fun w18 H18 e18 S18 => ?_
  walk_at "walk"
  refine rd_neD (x := claimsD l) (y := claimsD l) (S18.hp (by walk_at "m")) (S18.hp (by walk_at "m")) (shaped_claims _) (shaped_claims _) ?_
  rw [SeqAt.eqv_refl _ (lay_claims l)]
  walk_at "walk"
  refine rd_right (n := n) (l := l) (e := e) S18 (by walk_at "m") (by walk_at "m") (by walk_at "m") (by walk_at "m") hn ok gz g0 fun H19 e19 S19 => ?_
  walk_at "walk"
  exact rd_at (S19.dat (by walk_at "dats")) ⟨⟨_, _, _, rfl⟩, rfl, rfl⟩
 ·rintro σ H16 cs ds ⟨⟨x9, x10, x11, rfl⟩, rfl, rfl⟩ S16
  walk_at "walk"
  exact q _
end
end
theorem all_mk {l : PySem.W.OpenLaw} {w : World} {K : PySem.W.Frag} {h : Heap} {mg : Str → Option Value} {fa : Addr} (X : K.In h) (G : h.Ns mainGlobals mg) (hfa : mg "law" = some (.ref fa))
 {f1 f2 f3 f4 f5 f6 f7 f8 f9 f10 f11 f12 f13 f14 f15 f16 f17 f18 f19 f20 f21 f22 f23 f24 f25 f26 f27 f28 f29 f30 f31 f32 f33 f34 f35 f36 f37 f38 f39 f40 f41 f42 f43 : Addr} {od1 od2 od3 od4 od5 od6 od7 od8 od9 od10 od11 od12 od13 od14 od15 od16 od17 od18 od19 od20 od21 od22 od23 od24 od25 od26 od27 od28 od29 od30 od31 od32 od33 od34 od35 od36 od37 od38 od39 od40 od41 od42 od43 an1 an2 an3 an4 an5 an6 an7 an8 an9 an10 an11 an12 an13 an14 an15 an16 an17 an18 an19 an20 an21 an22 an23 an24 an25 an26 an27 an28 an29 an30 an31 an32 an33 an34 an35 an36 an37 an38 an39 an40 an41 an42 an43 : Option Addr} {sl1 sl2 sl3 sl4 sl5 sl6 sl7 sl8 sl9 sl10 sl11 sl12 sl13 sl14 sl15 sl16 sl17 sl18 sl19 sl20 sl21 sl22 sl23 sl24 sl25 sl26 sl27 sl28 sl29 sl30 sl31 sl32 sl33 sl34 sl35 sl36 sl37 sl38 sl39 sl40 sl41 sl42 sl43 : Array (Option Value)} {oc1 oc2 oc3 oc4 oc5 oc6 oc7 oc8 oc9 oc10 oc11 oc12 oc13 oc14 oc15 oc16 oc17 oc18 oc19 oc20 oc21 oc22 oc23 oc24 oc25 oc26 oc27 oc28 oc29 oc30 oc31 oc32 oc33 oc34 oc35 oc36 oc37 oc38 oc39 oc40 oc41 oc42 oc43 kV1 kV2 kV3 kV4 kV5 kV6 kV7 kV8 kV9 kV10 kV11 kV12 kV13 kV14 kV15 kV16 kV17 kV18 kV19 kV20 kV21 kV22 kV23 kV24 kV25 kV26 kV27 kV28 kV29 kV30 kV31 kV32 kV33 kV34 kV35 kV36 kV37 kV38 kV39 kV40 kV41 kV42 kV43 dc1 dc2 dc3 dc4 dc5 dc6 dc7 dc8 dc9 dc10 dc11 dc12 dc13 dc14 dc15 dc16 dc17 dc18 dc19 dc20 dc21 dc22 dc23 dc24 dc25 dc26 dc27 dc28 dc29 dc30 dc31 dc32 dc33 dc34 dc35 dc36 dc37 dc38 dc39 dc40 dc41 dc42 dc43 pm1 pm2 pm3 pm4 pm5 pm6 pm7 pm8 pm9 pm10 pm11 pm12 pm13 pm14 pm15 pm16 pm17 pm18 pm19 pm20 pm21 pm22 pm23 pm24 pm25 pm26 pm27 pm28 pm29 pm30 pm31 pm32 pm33 pm34 pm35 pm36 pm37 pm38 pm39 pm40 pm41 pm42 pm43 cd1 cd2 cd3 cd4 cd5 cd6 cd7 cd8 cd9 cd10 cd11 cd12 cd13 cd14 cd15 cd16 cd17 cd18 cd19 cd20 cd21 cd22 cd23 cd24 cd25 cd26 cd27 cd28 cd29 cd30 cd31 cd32 cd33 cd34 cd35 cd36 cd37 cd38 cd39 cd40 cd41 cd42 cd43 ct1 ct2 ct3 ct4 ct5 ct6 ct7 ct8 ct9 ct10 ct11 ct12 ct13 ct14 ct15 ct16 ct17 ct18 ct19 ct20 ct21 ct22 ct23 ct24 ct25 ct26 ct27 ct28 ct29 ct30 ct31 ct32 ct33 ct34 ct35 ct36 ct37 ct38 ct39 ct40 ct41 ct42 ct43 : Value}
 (a1 : PySem.W.nsIn K mainGlobals "check_claims" = some (some (.ref f1))) (l1 : K.lookup f1 = some ⟨oc1, od1, .func (PySem.W.fnOf "check_claims" "check_claims" (defArgs s_check_claims) (defBody s_check_claims) (defScope s_check_claims) .none kV1 dc1 pm1 an1 cd1 ct1), sl1⟩) (c1 : PySem.W.codeIn K cd1 "check_claims" = true) (k1 : PySem.W.keepIn K (.ref f1) = true)
 (a2 : PySem.W.nsIn K mainGlobals "plus" = some (some (.ref f2))) (l2 : K.lookup f2 = some ⟨oc2, od2, .func (PySem.W.fnOf "plus" "plus" (defArgs s_plus) (defBody s_plus) (defScope s_plus) .none kV2 dc2 pm2 an2 cd2 ct2), sl2⟩) (c2 : PySem.W.codeIn K cd2 "plus" = true) (k2 : PySem.W.keepIn K (.ref f2) = true)
 (a3 : PySem.W.nsIn K mainGlobals "minus" = some (some (.ref f3))) (l3 : K.lookup f3 = some ⟨oc3, od3, .func (PySem.W.fnOf "minus" "minus" (defArgs s_minus) (defBody s_minus) (defScope s_minus) .none kV3 dc3 pm3 an3 cd3 ct3), sl3⟩) (c3 : PySem.W.codeIn K cd3 "minus" = true) (k3 : PySem.W.keepIn K (.ref f3) = true)
 (a4 : PySem.W.nsIn K mainGlobals "times" = some (some (.ref f4))) (l4 : K.lookup f4 = some ⟨oc4, od4, .func (PySem.W.fnOf "times" "times" (defArgs s_times) (defBody s_times) (defScope s_times) .none kV4 dc4 pm4 an4 cd4 ct4), sl4⟩) (c4 : PySem.W.codeIn K cd4 "times" = true) (k4 : PySem.W.keepIn K (.ref f4) = true)
 (a5 : PySem.W.nsIn K mainGlobals "over" = some (some (.ref f5))) (l5 : K.lookup f5 = some ⟨oc5, od5, .func (PySem.W.fnOf "over" "over" (defArgs s_over) (defBody s_over) (defScope s_over) .none kV5 dc5 pm5 an5 cd5 ct5), sl5⟩) (c5 : PySem.W.codeIn K cd5 "over" = true) (k5 : PySem.W.keepIn K (.ref f5) = true)
 (a6 : PySem.W.nsIn K mainGlobals "before" = some (some (.ref f6))) (l6 : K.lookup f6 = some ⟨oc6, od6, .func (PySem.W.fnOf "before" "before" (defArgs s_before) (defBody s_before) (defScope s_before) .none kV6 dc6 pm6 an6 cd6 ct6), sl6⟩) (c6 : PySem.W.codeIn K cd6 "before" = true) (k6 : PySem.W.keepIn K (.ref f6) = true)
 (a7 : PySem.W.nsIn K mainGlobals "lowest" = some (some (.ref f7))) (l7 : K.lookup f7 = some ⟨oc7, od7, .func (PySem.W.fnOf "lowest" "lowest" (defArgs s_lowest) (defBody s_lowest) (defScope s_lowest) .none kV7 dc7 pm7 an7 cd7 ct7), sl7⟩) (c7 : PySem.W.codeIn K cd7 "lowest" = true) (k7 : PySem.W.keepIn K (.ref f7) = true)
 (a8 : PySem.W.nsIn K mainGlobals "greatest_divisor" = some (some (.ref f8))) (l8 : K.lookup f8 = some ⟨oc8, od8, .func (PySem.W.fnOf "greatest_divisor" "greatest_divisor" (defArgs s_greatest_divisor) (defBody s_greatest_divisor) (defScope s_greatest_divisor) .none kV8 dc8 pm8 an8 cd8 ct8), sl8⟩) (c8 : PySem.W.codeIn K cd8 "greatest_divisor" = true) (k8 : PySem.W.keepIn K (.ref f8) = true)
 (a9 : PySem.W.nsIn K mainGlobals "thinned" = some (some (.ref f9))) (l9 : K.lookup f9 = some ⟨oc9, od9, .func (PySem.W.fnOf "thinned" "thinned" (defArgs s_thinned) (defBody s_thinned) (defScope s_thinned) .none kV9 dc9 pm9 an9 cd9 ct9), sl9⟩) (c9 : PySem.W.codeIn K cd9 "thinned" = true) (k9 : PySem.W.keepIn K (.ref f9) = true)
 (a10 : PySem.W.nsIn K mainGlobals "parts_at" = some (some (.ref f10))) (l10 : K.lookup f10 = some ⟨oc10, od10, .func (PySem.W.fnOf "parts_at" "parts_at" (defArgs s_parts_at) (defBody s_parts_at) (defScope s_parts_at) .none kV10 dc10 pm10 an10 cd10 ct10), sl10⟩) (c10 : PySem.W.codeIn K cd10 "parts_at" = true) (k10 : PySem.W.keepIn K (.ref f10) = true)
 (a11 : PySem.W.nsIn K mainGlobals "turned" = some (some (.ref f11))) (l11 : K.lookup f11 = some ⟨oc11, od11, .func (PySem.W.fnOf "turned" "turned" (defArgs s_turned) (defBody s_turned) (defScope s_turned) .none kV11 dc11 pm11 an11 cd11 ct11), sl11⟩) (c11 : PySem.W.codeIn K cd11 "turned" = true) (k11 : PySem.W.keepIn K (.ref f11) = true)
 (a12 : PySem.W.nsIn K mainGlobals "scaled" = some (some (.ref f12))) (l12 : K.lookup f12 = some ⟨oc12, od12, .func (PySem.W.fnOf "scaled" "scaled" (defArgs s_scaled) (defBody s_scaled) (defScope s_scaled) .none kV12 dc12 pm12 an12 cd12 ct12), sl12⟩) (c12 : PySem.W.codeIn K cd12 "scaled" = true) (k12 : PySem.W.keepIn K (.ref f12) = true)
 (a13 : PySem.W.nsIn K mainGlobals "behind" = some (some (.ref f13))) (l13 : K.lookup f13 = some ⟨oc13, od13, .func (PySem.W.fnOf "behind" "behind" (defArgs s_behind) (defBody s_behind) (defScope s_behind) .none kV13 dc13 pm13 an13 cd13 ct13), sl13⟩) (c13 : PySem.W.codeIn K cd13 "behind" = true) (k13 : PySem.W.keepIn K (.ref f13) = true)
 (a14 : PySem.W.nsIn K mainGlobals "is_straight" = some (some (.ref f14))) (l14 : K.lookup f14 = some ⟨oc14, od14, .func (PySem.W.fnOf "is_straight" "is_straight" (defArgs s_is_straight) (defBody s_is_straight) (defScope s_is_straight) .none kV14 dc14 pm14 an14 cd14 ct14), sl14⟩) (c14 : PySem.W.codeIn K cd14 "is_straight" = true) (k14 : PySem.W.keepIn K (.ref f14) = true)
 (a15 : PySem.W.nsIn K mainGlobals "gap" = some (some (.ref f15))) (l15 : K.lookup f15 = some ⟨oc15, od15, .func (PySem.W.fnOf "gap" "gap" (defArgs s_gap) (defBody s_gap) (defScope s_gap) .none kV15 dc15 pm15 an15 cd15 ct15), sl15⟩) (c15 : PySem.W.codeIn K cd15 "gap" = true) (k15 : PySem.W.keepIn K (.ref f15) = true)
 (a16 : PySem.W.nsIn K mainGlobals "parts_between" = some (some (.ref f16))) (l16 : K.lookup f16 = some ⟨oc16, od16, .func (PySem.W.fnOf "parts_between" "parts_between" (defArgs s_parts_between) (defBody s_parts_between) (defScope s_parts_between) .none kV16 dc16 pm16 an16 cd16 ct16), sl16⟩) (c16 : PySem.W.codeIn K cd16 "parts_between" = true) (k16 : PySem.W.keepIn K (.ref f16) = true)
 (a17 : PySem.W.nsIn K mainGlobals "portion_reached" = some (some (.ref f17))) (l17 : K.lookup f17 = some ⟨oc17, od17, .func (PySem.W.fnOf "portion_reached" "portion_reached" (defArgs s_portion_reached) (defBody s_portion_reached) (defScope s_portion_reached) .none kV17 dc17 pm17 an17 cd17 ct17), sl17⟩) (c17 : PySem.W.codeIn K cd17 "portion_reached" = true) (k17 : PySem.W.keepIn K (.ref f17) = true)
 (a18 : PySem.W.nsIn K mainGlobals "amount_at" = some (some (.ref f18))) (l18 : K.lookup f18 = some ⟨oc18, od18, .func (PySem.W.fnOf "amount_at" "amount_at" (defArgs s_amount_at) (defBody s_amount_at) (defScope s_amount_at) .none kV18 dc18 pm18 an18 cd18 ct18), sl18⟩) (c18 : PySem.W.codeIn K cd18 "amount_at" = true) (k18 : PySem.W.keepIn K (.ref f18) = true)
 (a19 : PySem.W.nsIn K mainGlobals "plus_each" = some (some (.ref f19))) (l19 : K.lookup f19 = some ⟨oc19, od19, .func (PySem.W.fnOf "plus_each" "plus_each" (defArgs s_plus_each) (defBody s_plus_each) (defScope s_plus_each) .none kV19 dc19 pm19 an19 cd19 ct19), sl19⟩) (c19 : PySem.W.codeIn K cd19 "plus_each" = true) (k19 : PySem.W.keepIn K (.ref f19) = true)
 (a20 : PySem.W.nsIn K mainGlobals "less_each" = some (some (.ref f20))) (l20 : K.lookup f20 = some ⟨oc20, od20, .func (PySem.W.fnOf "less_each" "less_each" (defArgs s_less_each) (defBody s_less_each) (defScope s_less_each) .none kV20 dc20 pm20 an20 cd20 ct20), sl20⟩) (c20 : PySem.W.codeIn K cd20 "less_each" = true) (k20 : PySem.W.keepIn K (.ref f20) = true)
 (a21 : PySem.W.nsIn K mainGlobals "last_reached" = some (some (.ref f21))) (l21 : K.lookup f21 = some ⟨oc21, od21, .func (PySem.W.fnOf "last_reached" "last_reached" (defArgs s_last_reached) (defBody s_last_reached) (defScope s_last_reached) .none kV21 dc21 pm21 an21 cd21 ct21), sl21⟩) (c21 : PySem.W.codeIn K cd21 "last_reached" = true) (k21 : PySem.W.keepIn K (.ref f21) = true)
 (a22 : PySem.W.nsIn K mainGlobals "course" = some (some (.ref f22))) (l22 : K.lookup f22 = some ⟨oc22, od22, .func (PySem.W.fnOf "course" "course" (defArgs s_course) (defBody s_course) (defScope s_course) .none kV22 dc22 pm22 an22 cd22 ct22), sl22⟩) (c22 : PySem.W.codeIn K cd22 "course" = true) (k22 : PySem.W.keepIn K (.ref f22) = true)
 (a23 : PySem.W.nsIn K mainGlobals "shares" = some (some (.ref f23))) (l23 : K.lookup f23 = some ⟨oc23, od23, .func (PySem.W.fnOf "shares" "shares" (defArgs s_shares) (defBody s_shares) (defScope s_shares) .none kV23 dc23 pm23 an23 cd23 ct23), sl23⟩) (c23 : PySem.W.codeIn K cd23 "shares" = true) (k23 : PySem.W.keepIn K (.ref f23) = true)
 (a24 : PySem.W.nsIn K mainGlobals "evenly" = some (some (.ref f24))) (l24 : K.lookup f24 = some ⟨oc24, od24, .func (PySem.W.fnOf "evenly" "evenly" (defArgs s_evenly) (defBody s_evenly) (defScope s_evenly) .none kV24 dc24 pm24 an24 cd24 ct24), sl24⟩) (c24 : PySem.W.codeIn K cd24 "evenly" = true) (k24 : PySem.W.keepIn K (.ref f24) = true)
 (a25 : PySem.W.nsIn K mainGlobals "losses" = some (some (.ref f25))) (l25 : K.lookup f25 = some ⟨oc25, od25, .func (PySem.W.fnOf "losses" "losses" (defArgs s_losses) (defBody s_losses) (defScope s_losses) .none kV25 dc25 pm25 an25 cd25 ct25), sl25⟩) (c25 : PySem.W.codeIn K cd25 "losses" = true) (k25 : PySem.W.keepIn K (.ref f25) = true)
 (a26 : PySem.W.nsIn K mainGlobals "upto" = some (some (.ref f26))) (l26 : K.lookup f26 = some ⟨oc26, od26, .func (PySem.W.fnOf "upto" "upto" (defArgs s_upto) (defBody s_upto) (defScope s_upto) .none kV26 dc26 pm26 an26 cd26 ct26), sl26⟩) (c26 : PySem.W.codeIn K cd26 "upto" = true) (k26 : PySem.W.keepIn K (.ref f26) = true)
 (a27 : PySem.W.nsIn K mainGlobals "nothing" = some (some (.ref f27))) (l27 : K.lookup f27 = some ⟨oc27, od27, .func (PySem.W.fnOf "nothing" "nothing" (defArgs s_nothing) (defBody s_nothing) (defScope s_nothing) .none kV27 dc27 pm27 an27 cd27 ct27), sl27⟩) (c27 : PySem.W.codeIn K cd27 "nothing" = true) (k27 : PySem.W.keepIn K (.ref f27) = true)
 (a28 : PySem.W.nsIn K mainGlobals "whole_corner" = some (some (.ref f28))) (l28 : K.lookup f28 = some ⟨oc28, od28, .func (PySem.W.fnOf "whole_corner" "whole_corner" (defArgs s_whole_corner) (defBody s_whole_corner) (defScope s_whole_corner) .none kV28 dc28 pm28 an28 cd28 ct28), sl28⟩) (c28 : PySem.W.codeIn K cd28 "whole_corner" = true) (k28 : PySem.W.keepIn K (.ref f28) = true)
 (a29 : PySem.W.nsIn K mainGlobals "_law_cell_at" = some (some (.ref f29))) (l29 : K.lookup f29 = some ⟨oc29, od29, .func (PySem.W.fnOf "_law_cell_at" "_law_cell_at" (defArgs s_law_cell_at) (defBody s_law_cell_at) (defScope s_law_cell_at) .none kV29 dc29 pm29 an29 cd29 ct29), sl29⟩) (c29 : PySem.W.codeIn K cd29 "_law_cell_at" = true) (k29 : PySem.W.keepIn K (.ref f29) = true)
 (a30 : PySem.W.nsIn K mainGlobals "_law_mixed" = some (some (.ref f30))) (l30 : K.lookup f30 = some ⟨oc30, od30, .func (PySem.W.fnOf "_law_mixed" "_law_mixed" (defArgs s_law_mixed) (defBody s_law_mixed) (defScope s_law_mixed) .none kV30 dc30 pm30 an30 cd30 ct30), sl30⟩) (c30 : PySem.W.codeIn K cd30 "_law_mixed" = true) (k30 : PySem.W.keepIn K (.ref f30) = true)
 (a31 : PySem.W.nsIn K mainGlobals "_law_divisor" = some (some (.ref f31))) (l31 : K.lookup f31 = some ⟨oc31, od31, .func (PySem.W.fnOf "_law_divisor" "_law_divisor" (defArgs s_law_divisor) (defBody s_law_divisor) (defScope s_law_divisor) .none kV31 dc31 pm31 an31 cd31 ct31), sl31⟩) (c31 : PySem.W.codeIn K cd31 "_law_divisor" = true) (k31 : PySem.W.keepIn K (.ref f31) = true)
 (a32 : PySem.W.nsIn K mainGlobals "_law_lowest" = some (some (.ref f32))) (l32 : K.lookup f32 = some ⟨oc32, od32, .func (PySem.W.fnOf "_law_lowest" "_law_lowest" (defArgs s_law_lowest) (defBody s_law_lowest) (defScope s_law_lowest) .none kV32 dc32 pm32 an32 cd32 ct32), sl32⟩) (c32 : PySem.W.codeIn K cd32 "_law_lowest" = true) (k32 : PySem.W.keepIn K (.ref f32) = true)
 (a33 : PySem.W.nsIn K mainGlobals "_law_whole" = some (some (.ref f33))) (l33 : K.lookup f33 = some ⟨oc33, od33, .func (PySem.W.fnOf "_law_whole" "_law_whole" (defArgs s_law_whole) (defBody s_law_whole) (defScope s_law_whole) .none kV33 dc33 pm33 an33 cd33 ct33), sl33⟩) (c33 : PySem.W.codeIn K cd33 "_law_whole" = true) (k33 : PySem.W.keepIn K (.ref f33) = true)
 (a34 : PySem.W.nsIn K mainGlobals "_law_is_fraction" = some (some (.ref f34))) (l34 : K.lookup f34 = some ⟨oc34, od34, .func (PySem.W.fnOf "_law_is_fraction" "_law_is_fraction" (defArgs s_law_is_fraction) (defBody s_law_is_fraction) (defScope s_law_is_fraction) .none kV34 dc34 pm34 an34 cd34 ct34), sl34⟩) (c34 : PySem.W.codeIn K cd34 "_law_is_fraction" = true) (k34 : PySem.W.keepIn K (.ref f34) = true)
 (a35 : PySem.W.nsIn K mainGlobals "_law_labels" = some (some (.ref f35))) (l35 : K.lookup f35 = some ⟨oc35, od35, .func (PySem.W.fnOf "_law_labels" "_law_labels" (defArgs s_law_labels) (defBody s_law_labels) (defScope s_law_labels) .none kV35 dc35 pm35 an35 cd35 ct35), sl35⟩) (c35 : PySem.W.codeIn K cd35 "_law_labels" = true) (k35 : PySem.W.keepIn K (.ref f35) = true)
 (a36 : PySem.W.nsIn K mainGlobals "_law_claims" = some (some (.ref f36))) (l36 : K.lookup f36 = some ⟨oc36, od36, .func (PySem.W.fnOf "_law_claims" "_law_claims" (defArgs s_law_claims) (defBody s_law_claims) (defScope s_law_claims) .none kV36 dc36 pm36 an36 cd36 ct36), sl36⟩) (c36 : PySem.W.codeIn K cd36 "_law_claims" = true) (k36 : PySem.W.keepIn K (.ref f36) = true)
 (a37 : PySem.W.nsIn K mainGlobals "_law_even" = some (some (.ref f37))) (l37 : K.lookup f37 = some ⟨oc37, od37, .func (PySem.W.fnOf "_law_even" "_law_even" (defArgs s_law_even) (defBody s_law_even) (defScope s_law_even) .none kV37 dc37 pm37 an37 cd37 ct37), sl37⟩) (c37 : PySem.W.codeIn K cd37 "_law_even" = true) (k37 : PySem.W.keepIn K (.ref f37) = true)
 (a38 : PySem.W.nsIn K mainGlobals "_law_fits" = some (some (.ref f38))) (l38 : K.lookup f38 = some ⟨oc38, od38, .func (PySem.W.fnOf "_law_fits" "_law_fits" (defArgs s_law_fits) (defBody s_law_fits) (defScope s_law_fits) .none kV38 dc38 pm38 an38 cd38 ct38), sl38⟩) (c38 : PySem.W.codeIn K cd38 "_law_fits" = true) (k38 : PySem.W.keepIn K (.ref f38) = true)
 (a39 : PySem.W.nsIn K mainGlobals "_law_upto_fit" = some (some (.ref f39))) (l39 : K.lookup f39 = some ⟨oc39, od39, .func (PySem.W.fnOf "_law_upto_fit" "_law_upto_fit" (defArgs s_law_upto_fit) (defBody s_law_upto_fit) (defScope s_law_upto_fit) .none kV39 dc39 pm39 an39 cd39 ct39), sl39⟩) (c39 : PySem.W.codeIn K cd39 "_law_upto_fit" = true) (k39 : PySem.W.keepIn K (.ref f39) = true)
 (a40 : PySem.W.nsIn K mainGlobals "_law_right" = some (some (.ref f40))) (l40 : K.lookup f40 = some ⟨oc40, od40, .func (PySem.W.fnOf "_law_right" "_law_right" (defArgs s_law_right) (defBody s_law_right) (defScope s_law_right) .none kV40 dc40 pm40 an40 cd40 ct40), sl40⟩) (c40 : PySem.W.codeIn K cd40 "_law_right" = true) (k40 : PySem.W.keepIn K (.ref f40) = true)
 (a41 : PySem.W.nsIn K mainGlobals "_law_rule" = some (some (.ref f41))) (l41 : K.lookup f41 = some ⟨oc41, od41, .func (PySem.W.fnOf "_law_rule" "_law_rule" (defArgs s_law_rule) (defBody s_law_rule) (defScope s_law_rule) .none kV41 dc41 pm41 an41 cd41 ct41), sl41⟩) (c41 : PySem.W.codeIn K cd41 "_law_rule" = true) (k41 : PySem.W.keepIn K (.ref f41) = true)
 (a42 : PySem.W.nsIn K mainGlobals "_law_purse" = some (some (.ref f42))) (l42 : K.lookup f42 = some ⟨oc42, od42, .func (PySem.W.fnOf "_law_purse" "_law_purse" (defArgs s_law_purse) (defBody s_law_purse) (defScope s_law_purse) .none kV42 dc42 pm42 an42 cd42 ct42), sl42⟩) (c42 : PySem.W.codeIn K cd42 "_law_purse" = true) (k42 : PySem.W.keepIn K (.ref f42) = true)
 (a43 : PySem.W.nsIn K mainGlobals "law" = some (some (.ref f43))) (l43 : K.lookup f43 = some ⟨oc43, od43, .func (PySem.W.fnOf "law" "law" (defArgs s_law) (defBody s_law) (defScope s_law) .none kV43 dc43 pm43 an43 cd43 ct43), sl43⟩) (c43 : PySem.W.codeIn K cd43 "law" = true) (k43 : PySem.W.keepIn K (.ref f43) = true)
 {c_Rule c_Shares c_Evenly c_Losses c_Halves c_Other c_Ranks c_Groups c_Upto : Addr} {f_Rule___init__ f_Rule_shape f_Rule_text f_Rule_path f_Rule_parts f_Shares___init__ f_Evenly___init__ f_Losses___init__ f_Halves___init__ f_Other___init__ f_Ranks___init__ f_Groups___init__ f_Upto___init__ : Addr} {od_Rule___init__ an_Rule___init__ od_Rule_shape an_Rule_shape od_Rule_text an_Rule_text od_Rule_path an_Rule_path od_Rule_parts an_Rule_parts od_Shares___init__ an_Shares___init__ od_Evenly___init__ an_Evenly___init__ od_Losses___init__ an_Losses___init__ od_Halves___init__ an_Halves___init__ od_Other___init__ an_Other___init__ od_Ranks___init__ an_Ranks___init__ od_Groups___init__ an_Groups___init__ od_Upto___init__ an_Upto___init__ : Option Addr} {sl_Rule___init__ sl_Rule_shape sl_Rule_text sl_Rule_path sl_Rule_parts sl_Shares___init__ sl_Evenly___init__ sl_Losses___init__ sl_Halves___init__ sl_Other___init__ sl_Ranks___init__ sl_Groups___init__ sl_Upto___init__ : Array (Option Value)} {oc_Rule___init__ kV_Rule___init__ dc_Rule___init__ pm_Rule___init__ cd_Rule___init__ ct_Rule___init__ oc_Rule_shape kV_Rule_shape dc_Rule_shape pm_Rule_shape cd_Rule_shape ct_Rule_shape oc_Rule_text kV_Rule_text dc_Rule_text pm_Rule_text cd_Rule_text ct_Rule_text oc_Rule_path kV_Rule_path dc_Rule_path pm_Rule_path cd_Rule_path ct_Rule_path oc_Rule_parts kV_Rule_parts dc_Rule_parts pm_Rule_parts cd_Rule_parts ct_Rule_parts oc_Shares___init__ kV_Shares___init__ dc_Shares___init__ pm_Shares___init__ cd_Shares___init__ ct_Shares___init__ oc_Evenly___init__ kV_Evenly___init__ dc_Evenly___init__ pm_Evenly___init__ cd_Evenly___init__ ct_Evenly___init__ oc_Losses___init__ kV_Losses___init__ dc_Losses___init__ pm_Losses___init__ cd_Losses___init__ ct_Losses___init__ oc_Halves___init__ kV_Halves___init__ dc_Halves___init__ pm_Halves___init__ cd_Halves___init__ ct_Halves___init__ oc_Other___init__ kV_Other___init__ dc_Other___init__ pm_Other___init__ cd_Other___init__ ct_Other___init__ oc_Ranks___init__ kV_Ranks___init__ dc_Ranks___init__ pm_Ranks___init__ cd_Ranks___init__ ct_Ranks___init__ oc_Groups___init__ kV_Groups___init__ dc_Groups___init__ pm_Groups___init__ cd_Groups___init__ ct_Groups___init__ oc_Upto___init__ kV_Upto___init__ dc_Upto___init__ pm_Upto___init__ cd_Upto___init__ ct_Upto___init__ : Value} (x_Rule : PySem.W.nsIn K mainGlobals "Rule" = some (some (.ref c_Rule))) (x_Shares : PySem.W.nsIn K mainGlobals "Shares" = some (some (.ref c_Shares))) (x_Evenly : PySem.W.nsIn K mainGlobals "Evenly" = some (some (.ref c_Evenly))) (x_Losses : PySem.W.nsIn K mainGlobals "Losses" = some (some (.ref c_Losses))) (x_Halves : PySem.W.nsIn K mainGlobals "Halves" = some (some (.ref c_Halves))) (x_Other : PySem.W.nsIn K mainGlobals "Other" = some (some (.ref c_Other))) (x_Ranks : PySem.W.nsIn K mainGlobals "Ranks" = some (some (.ref c_Ranks))) (x_Groups : PySem.W.nsIn K mainGlobals "Groups" = some (some (.ref c_Groups))) (x_Upto : PySem.W.nsIn K mainGlobals "Upto" = some (some (.ref c_Upto)))
 (e_Rule___init__ : PySem.W.findCls K (.ref c_Rule) (.type "type") "__init__" = some (.val (.ref f_Rule___init__))) (e_Shares___init__ : PySem.W.findIn K (.ref c_Shares) "__init__" = some (some (.ref f_Shares___init__))) (e_Evenly___init__ : PySem.W.findIn K (.ref c_Evenly) "__init__" = some (some (.ref f_Evenly___init__))) (e_Losses___init__ : PySem.W.findIn K (.ref c_Losses) "__init__" = some (some (.ref f_Losses___init__))) (e_Halves___init__ : PySem.W.findIn K (.ref c_Halves) "__init__" = some (some (.ref f_Halves___init__))) (e_Other___init__ : PySem.W.findIn K (.ref c_Other) "__init__" = some (some (.ref f_Other___init__))) (e_Ranks___init__ : PySem.W.findIn K (.ref c_Ranks) "__init__" = some (some (.ref f_Ranks___init__))) (e_Groups___init__ : PySem.W.findIn K (.ref c_Groups) "__init__" = some (some (.ref f_Groups___init__))) (e_Upto___init__ : PySem.W.findIn K (.ref c_Upto) "__init__" = some (some (.ref f_Upto___init__))) (es_Shares : PySem.W.findIn K (.ref c_Shares) "shape" = some (some (.ref f_Rule_shape))) (et_Shares : PySem.W.findIn K (.ref c_Shares) "text" = some (some (.ref f_Rule_text))) (es_Evenly : PySem.W.findIn K (.ref c_Evenly) "shape" = some (some (.ref f_Rule_shape))) (et_Evenly : PySem.W.findIn K (.ref c_Evenly) "text" = some (some (.ref f_Rule_text))) (es_Losses : PySem.W.findIn K (.ref c_Losses) "shape" = some (some (.ref f_Rule_shape))) (et_Losses : PySem.W.findIn K (.ref c_Losses) "text" = some (some (.ref f_Rule_text))) (es_Halves : PySem.W.findIn K (.ref c_Halves) "shape" = some (some (.ref f_Rule_shape))) (et_Halves : PySem.W.findIn K (.ref c_Halves) "text" = some (some (.ref f_Rule_text))) (es_Other : PySem.W.findIn K (.ref c_Other) "shape" = some (some (.ref f_Rule_shape))) (et_Other : PySem.W.findIn K (.ref c_Other) "text" = some (some (.ref f_Rule_text))) (es_Ranks : PySem.W.findIn K (.ref c_Ranks) "shape" = some (some (.ref f_Rule_shape))) (et_Ranks : PySem.W.findIn K (.ref c_Ranks) "text" = some (some (.ref f_Rule_text))) (es_Groups : PySem.W.findIn K (.ref c_Groups) "shape" = some (some (.ref f_Rule_shape))) (et_Groups : PySem.W.findIn K (.ref c_Groups) "text" = some (some (.ref f_Rule_text))) (es_Upto : PySem.W.findIn K (.ref c_Upto) "shape" = some (some (.ref f_Rule_shape))) (et_Upto : PySem.W.findIn K (.ref c_Upto) "text" = some (some (.ref f_Rule_text))) (ep_Shares : PySem.W.findIn K (.ref c_Shares) "path" = some (some (.ref f_Rule_path))) (eq_Shares : PySem.W.findIn K (.ref c_Shares) "parts" = some (some (.ref f_Rule_parts))) (ep_Evenly : PySem.W.findIn K (.ref c_Evenly) "path" = some (some (.ref f_Rule_path))) (eq_Evenly : PySem.W.findIn K (.ref c_Evenly) "parts" = some (some (.ref f_Rule_parts))) (ep_Losses : PySem.W.findIn K (.ref c_Losses) "path" = some (some (.ref f_Rule_path))) (eq_Losses : PySem.W.findIn K (.ref c_Losses) "parts" = some (some (.ref f_Rule_parts))) (ep_Halves : PySem.W.findIn K (.ref c_Halves) "path" = some (some (.ref f_Rule_path))) (eq_Halves : PySem.W.findIn K (.ref c_Halves) "parts" = some (some (.ref f_Rule_parts))) (ep_Other : PySem.W.findIn K (.ref c_Other) "path" = some (some (.ref f_Rule_path))) (eq_Other : PySem.W.findIn K (.ref c_Other) "parts" = some (some (.ref f_Rule_parts))) (ep_Ranks : PySem.W.findIn K (.ref c_Ranks) "path" = some (some (.ref f_Rule_path))) (eq_Ranks : PySem.W.findIn K (.ref c_Ranks) "parts" = some (some (.ref f_Rule_parts))) (ep_Groups : PySem.W.findIn K (.ref c_Groups) "path" = some (some (.ref f_Rule_path))) (eq_Groups : PySem.W.findIn K (.ref c_Groups) "parts" = some (some (.ref f_Rule_parts))) (ep_Upto : PySem.W.findIn K (.ref c_Upto) "path" = some (some (.ref f_Rule_path))) (eq_Upto : PySem.W.findIn K (.ref c_Upto) "parts" = some (some (.ref f_Rule_parts)))
 (l_Rule___init__ : K.lookup f_Rule___init__ = some ⟨oc_Rule___init__, od_Rule___init__, .func (PySem.W.fnOf "__init__" "Rule.__init__" (defArgs s_Rule___init__) (defBody s_Rule___init__) (defScope s_Rule___init__) .none kV_Rule___init__ dc_Rule___init__ pm_Rule___init__ an_Rule___init__ cd_Rule___init__ ct_Rule___init__), sl_Rule___init__⟩) (c2_Rule___init__ : PySem.W.codeIn K cd_Rule___init__ "Rule.__init__" = true) (k_Rule___init__ : PySem.W.keepIn K (.ref f_Rule___init__) = true)
 (l_Rule_shape : K.lookup f_Rule_shape = some ⟨oc_Rule_shape, od_Rule_shape, .func (PySem.W.fnOf "shape" "Rule.shape" (defArgs s_Rule_shape) (defBody s_Rule_shape) (defScope s_Rule_shape) .none kV_Rule_shape dc_Rule_shape pm_Rule_shape an_Rule_shape cd_Rule_shape ct_Rule_shape), sl_Rule_shape⟩) (c2_Rule_shape : PySem.W.codeIn K cd_Rule_shape "Rule.shape" = true) (k_Rule_shape : PySem.W.keepIn K (.ref f_Rule_shape) = true)
 (l_Rule_text : K.lookup f_Rule_text = some ⟨oc_Rule_text, od_Rule_text, .func (PySem.W.fnOf "text" "Rule.text" (defArgs s_Rule_text) (defBody s_Rule_text) (defScope s_Rule_text) .none kV_Rule_text dc_Rule_text pm_Rule_text an_Rule_text cd_Rule_text ct_Rule_text), sl_Rule_text⟩) (c2_Rule_text : PySem.W.codeIn K cd_Rule_text "Rule.text" = true) (k_Rule_text : PySem.W.keepIn K (.ref f_Rule_text) = true)
 (l_Rule_path : K.lookup f_Rule_path = some ⟨oc_Rule_path, od_Rule_path, .func (PySem.W.fnOf "path" "Rule.path" (defArgs s_Rule_path) (defBody s_Rule_path) (defScope s_Rule_path) .none kV_Rule_path dc_Rule_path pm_Rule_path an_Rule_path cd_Rule_path ct_Rule_path), sl_Rule_path⟩) (c2_Rule_path : PySem.W.codeIn K cd_Rule_path "Rule.path" = true) (k_Rule_path : PySem.W.keepIn K (.ref f_Rule_path) = true)
 (l_Rule_parts : K.lookup f_Rule_parts = some ⟨oc_Rule_parts, od_Rule_parts, .func (PySem.W.fnOf "parts" "Rule.parts" (defArgs s_Rule_parts) (defBody s_Rule_parts) (defScope s_Rule_parts) .none kV_Rule_parts dc_Rule_parts pm_Rule_parts an_Rule_parts cd_Rule_parts ct_Rule_parts), sl_Rule_parts⟩) (c2_Rule_parts : PySem.W.codeIn K cd_Rule_parts "Rule.parts" = true) (k_Rule_parts : PySem.W.keepIn K (.ref f_Rule_parts) = true)
 (l_Shares___init__ : K.lookup f_Shares___init__ = some ⟨oc_Shares___init__, od_Shares___init__, .func (PySem.W.fnOf "__init__" "Shares.__init__" (defArgs s_Shares___init__) (defBody s_Shares___init__) (defScope s_Shares___init__) .none kV_Shares___init__ dc_Shares___init__ pm_Shares___init__ an_Shares___init__ cd_Shares___init__ ct_Shares___init__), sl_Shares___init__⟩) (c2_Shares___init__ : PySem.W.codeIn K cd_Shares___init__ "Shares.__init__" = true) (k_Shares___init__ : PySem.W.keepIn K (.ref f_Shares___init__) = true)
 (l_Evenly___init__ : K.lookup f_Evenly___init__ = some ⟨oc_Evenly___init__, od_Evenly___init__, .func (PySem.W.fnOf "__init__" "Evenly.__init__" (defArgs s_Evenly___init__) (defBody s_Evenly___init__) (defScope s_Evenly___init__) .none kV_Evenly___init__ dc_Evenly___init__ pm_Evenly___init__ an_Evenly___init__ cd_Evenly___init__ ct_Evenly___init__), sl_Evenly___init__⟩) (c2_Evenly___init__ : PySem.W.codeIn K cd_Evenly___init__ "Evenly.__init__" = true) (k_Evenly___init__ : PySem.W.keepIn K (.ref f_Evenly___init__) = true)
 (l_Losses___init__ : K.lookup f_Losses___init__ = some ⟨oc_Losses___init__, od_Losses___init__, .func (PySem.W.fnOf "__init__" "Losses.__init__" (defArgs s_Losses___init__) (defBody s_Losses___init__) (defScope s_Losses___init__) .none kV_Losses___init__ dc_Losses___init__ pm_Losses___init__ an_Losses___init__ cd_Losses___init__ ct_Losses___init__), sl_Losses___init__⟩) (c2_Losses___init__ : PySem.W.codeIn K cd_Losses___init__ "Losses.__init__" = true) (k_Losses___init__ : PySem.W.keepIn K (.ref f_Losses___init__) = true)
 (l_Halves___init__ : K.lookup f_Halves___init__ = some ⟨oc_Halves___init__, od_Halves___init__, .func (PySem.W.fnOf "__init__" "Halves.__init__" (defArgs s_Halves___init__) (defBody s_Halves___init__) (defScope s_Halves___init__) .none kV_Halves___init__ dc_Halves___init__ pm_Halves___init__ an_Halves___init__ cd_Halves___init__ ct_Halves___init__), sl_Halves___init__⟩) (c2_Halves___init__ : PySem.W.codeIn K cd_Halves___init__ "Halves.__init__" = true) (k_Halves___init__ : PySem.W.keepIn K (.ref f_Halves___init__) = true)
 (l_Other___init__ : K.lookup f_Other___init__ = some ⟨oc_Other___init__, od_Other___init__, .func (PySem.W.fnOf "__init__" "Other.__init__" (defArgs s_Other___init__) (defBody s_Other___init__) (defScope s_Other___init__) .none kV_Other___init__ dc_Other___init__ pm_Other___init__ an_Other___init__ cd_Other___init__ ct_Other___init__), sl_Other___init__⟩) (c2_Other___init__ : PySem.W.codeIn K cd_Other___init__ "Other.__init__" = true) (k_Other___init__ : PySem.W.keepIn K (.ref f_Other___init__) = true)
 (l_Ranks___init__ : K.lookup f_Ranks___init__ = some ⟨oc_Ranks___init__, od_Ranks___init__, .func (PySem.W.fnOf "__init__" "Ranks.__init__" (defArgs s_Ranks___init__) (defBody s_Ranks___init__) (defScope s_Ranks___init__) .none kV_Ranks___init__ dc_Ranks___init__ pm_Ranks___init__ an_Ranks___init__ cd_Ranks___init__ ct_Ranks___init__), sl_Ranks___init__⟩) (c2_Ranks___init__ : PySem.W.codeIn K cd_Ranks___init__ "Ranks.__init__" = true) (k_Ranks___init__ : PySem.W.keepIn K (.ref f_Ranks___init__) = true)
 (l_Groups___init__ : K.lookup f_Groups___init__ = some ⟨oc_Groups___init__, od_Groups___init__, .func (PySem.W.fnOf "__init__" "Groups.__init__" (defArgs s_Groups___init__) (defBody s_Groups___init__) (defScope s_Groups___init__) .none kV_Groups___init__ dc_Groups___init__ pm_Groups___init__ an_Groups___init__ cd_Groups___init__ ct_Groups___init__), sl_Groups___init__⟩) (c2_Groups___init__ : PySem.W.codeIn K cd_Groups___init__ "Groups.__init__" = true) (k_Groups___init__ : PySem.W.keepIn K (.ref f_Groups___init__) = true)
 (l_Upto___init__ : K.lookup f_Upto___init__ = some ⟨oc_Upto___init__, od_Upto___init__, .func (PySem.W.fnOf "__init__" "Upto.__init__" (defArgs s_Upto___init__) (defBody s_Upto___init__) (defScope s_Upto___init__) .none kV_Upto___init__ dc_Upto___init__ pm_Upto___init__ an_Upto___init__ cd_Upto___init__ ct_Upto___init__), sl_Upto___init__⟩) (c2_Upto___init__ : PySem.W.codeIn K cd_Upto___init__ "Upto.__init__" = true) (k_Upto___init__ : PySem.W.keepIn K (.ref f_Upto___init__) = true) (n_Rule_shape : PySem.W.isFn K (.ref f_Rule_shape) = true) (n_Rule_text : PySem.W.isFn K (.ref f_Rule_text) = true) (n_Rule_path : PySem.W.isFn K (.ref f_Rule_path) = true) (n_Rule_parts : PySem.W.isFn K (.ref f_Rule_parts) = true) {t_MOST : Tok} (x_MOST : PySem.W.nsIn K mainGlobals "MOST" = some (some (.int 8 t_MOST)))
 (sp_Rule : PySem.W.specialIn K (.ref c_Rule) "__getattribute__" = some (some (.builtin "type.__getattribute__"))) (rd_Rule : PySem.W.readsIn K c_Rule (.type "type") = true) (hn0 : PySem.W.specialIn K (.builtin "object.__class__") "__get__" = some (some (.builtin "getset_descriptor.__get__"))) (ht0 : PySem.W.takesIn K (.builtin "object.__class__") = some true)
 (pg_Shares : PySem.W.plainGet K c_Shares Str.empty = true) (hd_Shares : PySem.W.hasDictIn K c_Shares = true) (po_Shares : PySem.W.plainOver K c_Shares = true) (sa_Shares : PySem.W.findIn K (.ref c_Shares) "__setattr__" = some (some (.builtin "object.__setattr__"))) (na_Shares : PySem.W.findIn K (.ref c_Shares) "form" = some none) (ha_Shares : PySem.W.findIn K (.ref c_Shares) "__class__" = some (some (.builtin "object.__class__"))) (mo_Shares : PySem.W.mroIn K c_Shares (.type "object") = some true) (kt_Shares : PySem.W.kitOne K (.ref c_Shares) (.ref c_Rule) = some true) (mk_Shares : PySem.W.makesIn K c_Shares = true) (nf_Shares : PySem.W.isFn K (.ref f_Shares___init__) = true) (kc_Shares : PySem.W.keepIn K (.ref c_Shares) = true)
 (pg_Evenly : PySem.W.plainGet K c_Evenly Str.empty = true) (hd_Evenly : PySem.W.hasDictIn K c_Evenly = true) (po_Evenly : PySem.W.plainOver K c_Evenly = true) (sa_Evenly : PySem.W.findIn K (.ref c_Evenly) "__setattr__" = some (some (.builtin "object.__setattr__"))) (na_Evenly : PySem.W.findIn K (.ref c_Evenly) "form" = some none) (ha_Evenly : PySem.W.findIn K (.ref c_Evenly) "__class__" = some (some (.builtin "object.__class__"))) (mo_Evenly : PySem.W.mroIn K c_Evenly (.type "object") = some true) (kt_Evenly : PySem.W.kitOne K (.ref c_Evenly) (.ref c_Rule) = some true) (mk_Evenly : PySem.W.makesIn K c_Evenly = true) (nf_Evenly : PySem.W.isFn K (.ref f_Evenly___init__) = true) (kc_Evenly : PySem.W.keepIn K (.ref c_Evenly) = true)
 (pg_Losses : PySem.W.plainGet K c_Losses Str.empty = true) (hd_Losses : PySem.W.hasDictIn K c_Losses = true) (po_Losses : PySem.W.plainOver K c_Losses = true) (sa_Losses : PySem.W.findIn K (.ref c_Losses) "__setattr__" = some (some (.builtin "object.__setattr__"))) (na_Losses : PySem.W.findIn K (.ref c_Losses) "form" = some none) (ha_Losses : PySem.W.findIn K (.ref c_Losses) "__class__" = some (some (.builtin "object.__class__"))) (mo_Losses : PySem.W.mroIn K c_Losses (.type "object") = some true) (kt_Losses : PySem.W.kitOne K (.ref c_Losses) (.ref c_Rule) = some true) (mk_Losses : PySem.W.makesIn K c_Losses = true) (nf_Losses : PySem.W.isFn K (.ref f_Losses___init__) = true) (kc_Losses : PySem.W.keepIn K (.ref c_Losses) = true)
 (pg_Halves : PySem.W.plainGet K c_Halves Str.empty = true) (hd_Halves : PySem.W.hasDictIn K c_Halves = true) (po_Halves : PySem.W.plainOver K c_Halves = true) (sa_Halves : PySem.W.findIn K (.ref c_Halves) "__setattr__" = some (some (.builtin "object.__setattr__"))) (na_Halves : PySem.W.findIn K (.ref c_Halves) "form" = some none) (ha_Halves : PySem.W.findIn K (.ref c_Halves) "__class__" = some (some (.builtin "object.__class__"))) (mo_Halves : PySem.W.mroIn K c_Halves (.type "object") = some true) (kt_Halves : PySem.W.kitOne K (.ref c_Halves) (.ref c_Rule) = some true) (mk_Halves : PySem.W.makesIn K c_Halves = true) (nf_Halves : PySem.W.isFn K (.ref f_Halves___init__) = true) (kc_Halves : PySem.W.keepIn K (.ref c_Halves) = true)
 (pg_Other : PySem.W.plainGet K c_Other Str.empty = true) (hd_Other : PySem.W.hasDictIn K c_Other = true) (po_Other : PySem.W.plainOver K c_Other = true) (sa_Other : PySem.W.findIn K (.ref c_Other) "__setattr__" = some (some (.builtin "object.__setattr__"))) (na_Other : PySem.W.findIn K (.ref c_Other) "form" = some none) (ha_Other : PySem.W.findIn K (.ref c_Other) "__class__" = some (some (.builtin "object.__class__"))) (mo_Other : PySem.W.mroIn K c_Other (.type "object") = some true) (kt_Other : PySem.W.kitOne K (.ref c_Other) (.ref c_Rule) = some true) (mk_Other : PySem.W.makesIn K c_Other = true) (nf_Other : PySem.W.isFn K (.ref f_Other___init__) = true) (kc_Other : PySem.W.keepIn K (.ref c_Other) = true)
 (pg_Ranks : PySem.W.plainGet K c_Ranks Str.empty = true) (hd_Ranks : PySem.W.hasDictIn K c_Ranks = true) (po_Ranks : PySem.W.plainOver K c_Ranks = true) (sa_Ranks : PySem.W.findIn K (.ref c_Ranks) "__setattr__" = some (some (.builtin "object.__setattr__"))) (na_Ranks : PySem.W.findIn K (.ref c_Ranks) "form" = some none) (ha_Ranks : PySem.W.findIn K (.ref c_Ranks) "__class__" = some (some (.builtin "object.__class__"))) (mo_Ranks : PySem.W.mroIn K c_Ranks (.type "object") = some true) (kt_Ranks : PySem.W.kitOne K (.ref c_Ranks) (.ref c_Rule) = some true) (mk_Ranks : PySem.W.makesIn K c_Ranks = true) (nf_Ranks : PySem.W.isFn K (.ref f_Ranks___init__) = true) (kc_Ranks : PySem.W.keepIn K (.ref c_Ranks) = true)
 (pg_Groups : PySem.W.plainGet K c_Groups Str.empty = true) (hd_Groups : PySem.W.hasDictIn K c_Groups = true) (po_Groups : PySem.W.plainOver K c_Groups = true) (sa_Groups : PySem.W.findIn K (.ref c_Groups) "__setattr__" = some (some (.builtin "object.__setattr__"))) (na_Groups : PySem.W.findIn K (.ref c_Groups) "form" = some none) (ha_Groups : PySem.W.findIn K (.ref c_Groups) "__class__" = some (some (.builtin "object.__class__"))) (mo_Groups : PySem.W.mroIn K c_Groups (.type "object") = some true) (kt_Groups : PySem.W.kitOne K (.ref c_Groups) (.ref c_Rule) = some true) (mk_Groups : PySem.W.makesIn K c_Groups = true) (nf_Groups : PySem.W.isFn K (.ref f_Groups___init__) = true) (kc_Groups : PySem.W.keepIn K (.ref c_Groups) = true)
 (pg_Upto : PySem.W.plainGet K c_Upto Str.empty = true) (hd_Upto : PySem.W.hasDictIn K c_Upto = true) (po_Upto : PySem.W.plainOver K c_Upto = true) (sa_Upto : PySem.W.findIn K (.ref c_Upto) "__setattr__" = some (some (.builtin "object.__setattr__"))) (na_Upto : PySem.W.findIn K (.ref c_Upto) "form" = some none) (ha_Upto : PySem.W.findIn K (.ref c_Upto) "__class__" = some (some (.builtin "object.__class__"))) (mo_Upto : PySem.W.mroIn K c_Upto (.type "object") = some true) (kt_Upto : PySem.W.kitOne K (.ref c_Upto) (.ref c_Rule) = some true) (mk_Upto : PySem.W.makesIn K c_Upto = true) (nf_Upto : PySem.W.isFn K (.ref f_Upto___init__) = true) (kc_Upto : PySem.W.keepIn K (.ref c_Upto) = true)
 (z_len : PySem.W.nsIn K mainGlobals "len" = some none) (z_abs : PySem.W.nsIn K mainGlobals "abs" = some none) (z_min : PySem.W.nsIn K mainGlobals "min" = some none) (z_max : PySem.W.nsIn K mainGlobals "max" = some none) (z_isinstance : PySem.W.nsIn K mainGlobals "isinstance" = some none) (z_range : PySem.W.nsIn K mainGlobals "range" = some none) (z_int : PySem.W.nsIn K mainGlobals "int" = some none) (z_bool : PySem.W.nsIn K mainGlobals "bool" = some none) (z_tuple : PySem.W.nsIn K mainGlobals "tuple" = some none) (z_list : PySem.W.nsIn K mainGlobals "list" = some none) (z_enumerate : PySem.W.nsIn K mainGlobals "enumerate" = some none) (z_zip : PySem.W.nsIn K mainGlobals "zip" = some none) (z_reversed : PySem.W.nsIn K mainGlobals "reversed" = some none) (z_ValueError : PySem.W.nsIn K mainGlobals "ValueError" = some none) (z_sum : PySem.W.nsIn K mainGlobals "sum" = some none) (z_str : PySem.W.nsIn K mainGlobals "str" = some none) (z_sorted : PySem.W.nsIn K mainGlobals "sorted" = some none) (z_set : PySem.W.nsIn K mainGlobals "set" = some none) :
 ∃ fd : FuncData, (∀ (s : Shared) (v : Value), BindsTo s fd ⟨[v], []⟩ [("_law_script", v)]) ∧ ∀ base : Heap, K.In base → base.Ns mainGlobals mg → FnOk l.prog w K mg base CX0 10 fa fd ["_law_script"] (spLaw K) := by
 have e := hfa.symm.trans (PySem.W.mg_of X G a43)
 cases e
 have F_check_claims := fun_mk (st := s_check_claims) l1 c1 k1
 have b_check_claims := F_check_claims.binds (ps := ["claims"]) fun _ _ _ _ _ _ us hl => match us, hl with | [_], _ => rfl
 have m_check_claims := PySem.W.mg_of X G a1
 have F_plus := fun_mk (st := s_plus) l2 c2 k2
 have b_plus := F_plus.binds (ps := ["one", "two"]) fun _ _ _ _ _ _ us hl => match us, hl with | [_, _], _ => rfl
 have m_plus := PySem.W.mg_of X G a2
 have F_minus := fun_mk (st := s_minus) l3 c3 k3
 have b_minus := F_minus.binds (ps := ["one", "two"]) fun _ _ _ _ _ _ us hl => match us, hl with | [_, _], _ => rfl
 have m_minus := PySem.W.mg_of X G a3
 have F_times := fun_mk (st := s_times) l4 c4 k4
 have b_times := F_times.binds (ps := ["one", "two"]) fun _ _ _ _ _ _ us hl => match us, hl with | [_, _], _ => rfl
 have m_times := PySem.W.mg_of X G a4
 have F_over := fun_mk (st := s_over) l5 c5 k5
 have b_over := F_over.binds (ps := ["one", "two"]) fun _ _ _ _ _ _ us hl => match us, hl with | [_, _], _ => rfl
 have m_over := PySem.W.mg_of X G a5
 have F_before := fun_mk (st := s_before) l6 c6 k6
 have b_before := F_before.binds (ps := ["one", "two"]) fun _ _ _ _ _ _ us hl => match us, hl with | [_, _], _ => rfl
 have m_before := PySem.W.mg_of X G a6
 have F_lowest := fun_mk (st := s_lowest) l7 c7 k7
 have b_lowest := F_lowest.binds (ps := ["top", "bottom"]) fun _ _ _ _ _ _ us hl => match us, hl with | [_, _], _ => rfl
 have m_lowest := PySem.W.mg_of X G a7
 have F_greatest_divisor := fun_mk (st := s_greatest_divisor) l8 c8 k8
 have b_greatest_divisor := F_greatest_divisor.binds (ps := ["one", "two"]) fun _ _ _ _ _ _ us hl => match us, hl with | [_, _], _ => rfl
 have m_greatest_divisor := PySem.W.mg_of X G a8
 have F_thinned := fun_mk (st := s_thinned) l9 c9 k9
 have b_thinned := F_thinned.binds (ps := ["corners"]) fun _ _ _ _ _ _ us hl => match us, hl with | [_], _ => rfl
 have m_thinned := PySem.W.mg_of X G a9
 have F_parts_at := fun_mk (st := s_parts_at) l10 c10 k10
 have b_parts_at := F_parts_at.binds (ps := ["path", "purse"]) fun _ _ _ _ _ _ us hl => match us, hl with | [_, _], _ => rfl
 have m_parts_at := PySem.W.mg_of X G a10
 have F_turned := fun_mk (st := s_turned) l11 c11 k11
 have b_turned := F_turned.binds (ps := ["path"]) fun _ _ _ _ _ _ us hl => match us, hl with | [_], _ => rfl
 have m_turned := PySem.W.mg_of X G a11
 have F_scaled := fun_mk (st := s_scaled) l12 c12 k12
 have b_scaled := F_scaled.binds (ps := ["path", "portion"]) fun _ _ _ _ _ _ us hl => match us, hl with | [_, _], _ => rfl
 have m_scaled := PySem.W.mg_of X G a12
 have F_behind := fun_mk (st := s_behind) l13 c13 k13
 have b_behind := F_behind.binds (ps := ["path", "second"]) fun _ _ _ _ _ _ us hl => match us, hl with | [_, _], _ => rfl
 have m_behind := PySem.W.mg_of X G a13
 have F_is_straight := fun_mk (st := s_is_straight) l14 c14 k14
 have b_is_straight := F_is_straight.binds (ps := ["ahead", "corner", "following"]) fun _ _ _ _ _ _ us hl => match us, hl with | [_, _, _], _ => rfl
 have m_is_straight := PySem.W.mg_of X G a14
 have F_gap := fun_mk (st := s_gap) l15 c15 k15
 have b_gap := F_gap.binds (ps := ["one", "two"]) fun _ _ _ _ _ _ us hl => match us, hl with | [_, _], _ => rfl
 have m_gap := PySem.W.mg_of X G a15
 have F_parts_between := fun_mk (st := s_parts_between) l16 c16 k16
 have b_parts_between := F_parts_between.binds (ps := ["start", "end", "purse"]) fun _ _ _ _ _ _ us hl => match us, hl with | [_, _, _], _ => rfl
 have m_parts_between := PySem.W.mg_of X G a16
 have F_portion_reached := fun_mk (st := s_portion_reached) l17 c17 k17
 have b_portion_reached := F_portion_reached.binds (ps := ["start", "end", "amount"]) fun _ _ _ _ _ _ us hl => match us, hl with | [_, _, _], _ => rfl
 have m_portion_reached := PySem.W.mg_of X G a17
 have F_amount_at := fun_mk (st := s_amount_at) l18 c18 k18
 have b_amount_at := F_amount_at.binds (ps := ["start", "end", "portion"]) fun _ _ _ _ _ _ us hl => match us, hl with | [_, _, _], _ => rfl
 have m_amount_at := PySem.W.mg_of X G a18
 have F_plus_each := fun_mk (st := s_plus_each) l19 c19 k19
 have b_plus_each := F_plus_each.binds (ps := ["ones", "twos"]) fun _ _ _ _ _ _ us hl => match us, hl with | [_, _], _ => rfl
 have m_plus_each := PySem.W.mg_of X G a19
 have F_less_each := fun_mk (st := s_less_each) l20 c20 k20
 have b_less_each := F_less_each.binds (ps := ["ones", "twos"]) fun _ _ _ _ _ _ us hl => match us, hl with | [_, _], _ => rfl
 have m_less_each := PySem.W.mg_of X G a20
 have F_last_reached := fun_mk (st := s_last_reached) l21 c21 k21
 have b_last_reached := F_last_reached.binds (ps := ["amounts", "amount"]) fun _ _ _ _ _ _ us hl => match us, hl with | [_, _], _ => rfl
 have m_last_reached := PySem.W.mg_of X G a21
 have F_course := fun_mk (st := s_course) l22 c22 k22
 have b_course := F_course.binds (ps := ["shape", "claims"]) fun _ _ _ _ _ _ us hl => match us, hl with | [_, _], _ => rfl
 have m_course := PySem.W.mg_of X G a22
 have F_shares := fun_mk (st := s_shares) l23 c23 k23
 have b_shares := F_shares.binds (ps := ["claims"]) fun _ _ _ _ _ _ us hl => match us, hl with | [_], _ => rfl
 have m_shares := PySem.W.mg_of X G a23
 have F_evenly := fun_mk (st := s_evenly) l24 c24 k24
 have b_evenly := F_evenly.binds (ps := ["claims"]) fun _ _ _ _ _ _ us hl => match us, hl with | [_], _ => rfl
 have m_evenly := PySem.W.mg_of X G a24
 have F_losses := fun_mk (st := s_losses) l25 c25 k25
 have b_losses := F_losses.binds (ps := ["claims"]) fun _ _ _ _ _ _ us hl => match us, hl with | [_], _ => rfl
 have m_losses := PySem.W.mg_of X G a25
 have F_upto := fun_mk (st := s_upto) l26 c26 k26
 have b_upto := F_upto.binds (ps := ["portion", "first", "last"]) fun _ _ _ _ _ _ us hl => match us, hl with | [_, _, _], _ => rfl
 have m_upto := PySem.W.mg_of X G a26
 have F_nothing := fun_mk (st := s_nothing) l27 c27 k27
 have b_nothing := F_nothing.binds (ps := ["count"]) fun _ _ _ _ _ _ us hl => match us, hl with | [_], _ => rfl
 have m_nothing := PySem.W.mg_of X G a27
 have F_whole_corner := fun_mk (st := s_whole_corner) l28 c28 k28
 have b_whole_corner := F_whole_corner.binds (ps := ["parts"]) fun _ _ _ _ _ _ us hl => match us, hl with | [_], _ => rfl
 have m_whole_corner := PySem.W.mg_of X G a28
 have F_law_cell_at := fun_mk (st := s_law_cell_at) l29 c29 k29
 have b_law_cell_at := F_law_cell_at.binds (ps := ["_law_script", "_law_k"]) fun _ _ _ _ _ _ us hl => match us, hl with | [_, _], _ => rfl
 have m_law_cell_at := PySem.W.mg_of X G a29
 have F_law_mixed := fun_mk (st := s_law_mixed) l30 c30 k30
 have b_law_mixed := F_law_mixed.binds (ps := ["_law_cell", "_law_place"]) fun _ _ _ _ _ _ us hl => match us, hl with | [_, _], _ => rfl
 have m_law_mixed := PySem.W.mg_of X G a30
 have F_law_divisor := fun_mk (st := s_law_divisor) l31 c31 k31
 have b_law_divisor := F_law_divisor.binds (ps := ["_law_one", "_law_two"]) fun _ _ _ _ _ _ us hl => match us, hl with | [_, _], _ => rfl
 have m_law_divisor := PySem.W.mg_of X G a31
 have F_law_lowest := fun_mk (st := s_law_lowest) l32 c32 k32
 have b_law_lowest := F_law_lowest.binds (ps := ["_law_top", "_law_bottom"]) fun _ _ _ _ _ _ us hl => match us, hl with | [_, _], _ => rfl
 have m_law_lowest := PySem.W.mg_of X G a32
 have F_law_whole := fun_mk (st := s_law_whole) l33 c33 k33
 have b_law_whole := F_law_whole.binds (ps := ["_law_found"]) fun _ _ _ _ _ _ us hl => match us, hl with | [_], _ => rfl
 have m_law_whole := PySem.W.mg_of X G a33
 have F_law_is_fraction := fun_mk (st := s_law_is_fraction) l34 c34 k34
 have b_law_is_fraction := F_law_is_fraction.binds (ps := ["_law_found"]) fun _ _ _ _ _ _ us hl => match us, hl with | [_], _ => rfl
 have m_law_is_fraction := PySem.W.mg_of X G a34
 have F_law_labels := fun_mk (st := s_law_labels) l35 c35 k35
 have b_law_labels := F_law_labels.binds (ps := ["_law_number"]) fun _ _ _ _ _ _ us hl => match us, hl with | [_], _ => rfl
 have m_law_labels := PySem.W.mg_of X G a35
 have F_law_claims := fun_mk (st := s_law_claims) l36 c36 k36
 have b_law_claims := F_law_claims.binds (ps := ["_law_script", "_law_at", "_law_many", "_law_size"]) fun _ _ _ _ _ _ us hl => match us, hl with | [_, _, _, _], _ => rfl
 have m_law_claims := PySem.W.mg_of X G a36
 have F_law_even := fun_mk (st := s_law_even) l37 c37 k37
 have b_law_even := F_law_even.binds (ps := ["_law_amounts", "_law_parts"]) fun _ _ _ _ _ _ us hl => match us, hl with | [_, _], _ => rfl
 have m_law_even := PySem.W.mg_of X G a37
 have F_law_fits := fun_mk (st := s_law_fits) l38 c38 k38
 have b_law_fits := F_law_fits.binds (ps := ["_law_shape", "_law_claims_here", "_law_parts"]) fun _ _ _ _ _ _ us hl => match us, hl with | [_, _, _], _ => rfl
 have m_law_fits := PySem.W.mg_of X G a38
 have F_law_upto_fit := fun_mk (st := s_law_upto_fit) l39 c39 k39
 have b_law_upto_fit := F_law_upto_fit.binds (ps := ["_law_shape", "_law_claims_here", "_law_parts"]) fun _ _ _ _ _ _ us hl => match us, hl with | [_, _, _], _ => rfl
 have m_law_upto_fit := PySem.W.mg_of X G a39
 have F_law_right := fun_mk (st := s_law_right) l40 c40 k40
 have b_law_right := F_law_right.binds (ps := ["_law_shape", "_law_claims_here", "_law_purse_here", "_law_parts"]) fun _ _ _ _ _ _ us hl => match us, hl with | [_, _, _, _], _ => rfl
 have m_law_right := PySem.W.mg_of X G a40
 have F_law_rule := fun_mk (st := s_law_rule) l41 c41 k41
 have b_law_rule := F_law_rule.binds (ps := ["_law_shape"]) fun _ _ _ _ _ _ us hl => match us, hl with | [_], _ => rfl
 have m_law_rule := PySem.W.mg_of X G a41
 have F_law_purse := fun_mk (st := s_law_purse) l42 c42 k42
 have b_law_purse := F_law_purse.binds (ps := ["_law_whole_here", "_law_cell"]) fun _ _ _ _ _ _ us hl => match us, hl with | [_, _], _ => rfl
 have m_law_purse := PySem.W.mg_of X G a42
 have F_law := fun_mk (st := s_law) l43 c43 k43
 have b_law := F_law.binds (ps := ["_law_script"]) fun _ _ _ _ _ _ us hl => match us, hl with | [_], _ => rfl
 have m_law := PySem.W.mg_of X G a43
 have B : Bl mg := ⟨PySem.W.mg_none_of X G z_len, PySem.W.mg_none_of X G z_abs, PySem.W.mg_none_of X G z_min, PySem.W.mg_none_of X G z_max, PySem.W.mg_none_of X G z_isinstance, PySem.W.mg_none_of X G z_range, PySem.W.mg_none_of X G z_int, PySem.W.mg_none_of X G z_bool, PySem.W.mg_none_of X G z_tuple, PySem.W.mg_none_of X G z_list, PySem.W.mg_none_of X G z_enumerate, PySem.W.mg_none_of X G z_zip, PySem.W.mg_none_of X G z_reversed, PySem.W.mg_none_of X G z_ValueError, PySem.W.mg_none_of X G z_sum, PySem.W.mg_none_of X G z_str⟩
 have B2 : Bl3 mg := ⟨PySem.W.mg_none_of X G z_sorted, PySem.W.mg_none_of X G z_set⟩
 refine ⟨PySem.W.fnOf "law" "law" (defArgs s_law) (defBody s_law) (defScope s_law) .none kV43 dc43 pm43 an43 cd43 ct43, fun s v => .of_eq rfl, fun base XB GB => ?_⟩
 have F_Rule___init__ := fun_mk (st := s_Rule___init__) l_Rule___init__ c2_Rule___init__ k_Rule___init__
 have b_Rule___init__ := F_Rule___init__.binds (ps := ["self", "form"]) fun _ _ _ _ _ _ us hl => match us, hl with | [_, _], _ => rfl
 have F_Rule_shape := fun_mk (st := s_Rule_shape) l_Rule_shape c2_Rule_shape k_Rule_shape
 have b_Rule_shape := F_Rule_shape.binds (ps := ["self"]) fun _ _ _ _ _ _ us hl => match us, hl with | [_], _ => rfl
 have F_Rule_text := fun_mk (st := s_Rule_text) l_Rule_text c2_Rule_text k_Rule_text
 have b_Rule_text := F_Rule_text.binds (ps := ["self"]) fun _ _ _ _ _ _ us hl => match us, hl with | [_], _ => rfl
 have F_Rule_path := fun_mk (st := s_Rule_path) l_Rule_path c2_Rule_path k_Rule_path
 have b_Rule_path := F_Rule_path.binds (ps := ["self", "claims"]) fun _ _ _ _ _ _ us hl => match us, hl with | [_, _], _ => rfl
 have F_Rule_parts := fun_mk (st := s_Rule_parts) l_Rule_parts c2_Rule_parts k_Rule_parts
 have b_Rule_parts := F_Rule_parts.binds (ps := ["self", "claims", "purse"]) fun _ _ _ _ _ _ us hl => match us, hl with | [_, _, _], _ => rfl
 have F_Shares___init__ := fun_mk (st := s_Shares___init__) l_Shares___init__ c2_Shares___init__ k_Shares___init__
 have b_Shares___init__ := F_Shares___init__.binds (ps := ["self"]) fun _ _ _ _ _ _ us hl => match us, hl with | [_], _ => rfl
 have F_Evenly___init__ := fun_mk (st := s_Evenly___init__) l_Evenly___init__ c2_Evenly___init__ k_Evenly___init__
 have b_Evenly___init__ := F_Evenly___init__.binds (ps := ["self"]) fun _ _ _ _ _ _ us hl => match us, hl with | [_], _ => rfl
 have F_Losses___init__ := fun_mk (st := s_Losses___init__) l_Losses___init__ c2_Losses___init__ k_Losses___init__
 have b_Losses___init__ := F_Losses___init__.binds (ps := ["self"]) fun _ _ _ _ _ _ us hl => match us, hl with | [_], _ => rfl
 have F_Halves___init__ := fun_mk (st := s_Halves___init__) l_Halves___init__ c2_Halves___init__ k_Halves___init__
 have b_Halves___init__ := F_Halves___init__.binds (ps := ["self"]) fun _ _ _ _ _ _ us hl => match us, hl with | [_], _ => rfl
 have F_Other___init__ := fun_mk (st := s_Other___init__) l_Other___init__ c2_Other___init__ k_Other___init__
 have b_Other___init__ := F_Other___init__.binds (ps := ["self", "inner"]) fun _ _ _ _ _ _ us hl => match us, hl with | [_, _], _ => rfl
 have F_Ranks___init__ := fun_mk (st := s_Ranks___init__) l_Ranks___init__ c2_Ranks___init__ k_Ranks___init__
 have b_Ranks___init__ := F_Ranks___init__.binds (ps := ["self", "inner"]) fun _ _ _ _ _ _ us hl => match us, hl with | [_, _], _ => rfl
 have F_Groups___init__ := fun_mk (st := s_Groups___init__) l_Groups___init__ c2_Groups___init__ k_Groups___init__
 have b_Groups___init__ := F_Groups___init__.binds (ps := ["self", "outer", "inner"]) fun _ _ _ _ _ _ us hl => match us, hl with | [_, _, _], _ => rfl
 have F_Upto___init__ := fun_mk (st := s_Upto___init__) l_Upto___init__ c2_Upto___init__ k_Upto___init__
 have b_Upto___init__ := F_Upto___init__.binds (ps := ["self", "portion", "first", "last"]) fun _ _ _ _ _ _ us hl => match us, hl with | [_, _, _, _], _ => rfl
 have g_Rule := PySem.W.mg_of XB GB x_Rule
 have g_Shares := PySem.W.mg_of XB GB x_Shares
 have ok_Shares : ROk K f_Rule_shape f_Rule_text c_Rule c_Shares := ⟨⟨pg_Shares, hd_Shares, po_Shares, sa_Shares⟩, na_Shares, ⟨es_Shares, n_Rule_shape, k_Rule_shape⟩, ⟨et_Shares, n_Rule_text, k_Rule_text⟩, ha_Shares, hn0, ht0, mo_Shares, kt_Shares⟩
 have MK_Shares : Mk K c_Shares f_Shares___init__ := ⟨mk_Shares, e_Shares___init__, nf_Shares, kc_Shares⟩
 have g_Evenly := PySem.W.mg_of XB GB x_Evenly
 have ok_Evenly : ROk K f_Rule_shape f_Rule_text c_Rule c_Evenly := ⟨⟨pg_Evenly, hd_Evenly, po_Evenly, sa_Evenly⟩, na_Evenly, ⟨es_Evenly, n_Rule_shape, k_Rule_shape⟩, ⟨et_Evenly, n_Rule_text, k_Rule_text⟩, ha_Evenly, hn0, ht0, mo_Evenly, kt_Evenly⟩
 have MK_Evenly : Mk K c_Evenly f_Evenly___init__ := ⟨mk_Evenly, e_Evenly___init__, nf_Evenly, kc_Evenly⟩
 have g_Losses := PySem.W.mg_of XB GB x_Losses
 have ok_Losses : ROk K f_Rule_shape f_Rule_text c_Rule c_Losses := ⟨⟨pg_Losses, hd_Losses, po_Losses, sa_Losses⟩, na_Losses, ⟨es_Losses, n_Rule_shape, k_Rule_shape⟩, ⟨et_Losses, n_Rule_text, k_Rule_text⟩, ha_Losses, hn0, ht0, mo_Losses, kt_Losses⟩
 have MK_Losses : Mk K c_Losses f_Losses___init__ := ⟨mk_Losses, e_Losses___init__, nf_Losses, kc_Losses⟩
 have g_Halves := PySem.W.mg_of XB GB x_Halves
 have ok_Halves : ROk K f_Rule_shape f_Rule_text c_Rule c_Halves := ⟨⟨pg_Halves, hd_Halves, po_Halves, sa_Halves⟩, na_Halves, ⟨es_Halves, n_Rule_shape, k_Rule_shape⟩, ⟨et_Halves, n_Rule_text, k_Rule_text⟩, ha_Halves, hn0, ht0, mo_Halves, kt_Halves⟩
 have MK_Halves : Mk K c_Halves f_Halves___init__ := ⟨mk_Halves, e_Halves___init__, nf_Halves, kc_Halves⟩
 have g_Other := PySem.W.mg_of XB GB x_Other
 have ok_Other : ROk K f_Rule_shape f_Rule_text c_Rule c_Other := ⟨⟨pg_Other, hd_Other, po_Other, sa_Other⟩, na_Other, ⟨es_Other, n_Rule_shape, k_Rule_shape⟩, ⟨et_Other, n_Rule_text, k_Rule_text⟩, ha_Other, hn0, ht0, mo_Other, kt_Other⟩
 have MK_Other : Mk K c_Other f_Other___init__ := ⟨mk_Other, e_Other___init__, nf_Other, kc_Other⟩
 have g_Ranks := PySem.W.mg_of XB GB x_Ranks
 have ok_Ranks : ROk K f_Rule_shape f_Rule_text c_Rule c_Ranks := ⟨⟨pg_Ranks, hd_Ranks, po_Ranks, sa_Ranks⟩, na_Ranks, ⟨es_Ranks, n_Rule_shape, k_Rule_shape⟩, ⟨et_Ranks, n_Rule_text, k_Rule_text⟩, ha_Ranks, hn0, ht0, mo_Ranks, kt_Ranks⟩
 have MK_Ranks : Mk K c_Ranks f_Ranks___init__ := ⟨mk_Ranks, e_Ranks___init__, nf_Ranks, kc_Ranks⟩
 have g_Groups := PySem.W.mg_of XB GB x_Groups
 have ok_Groups : ROk K f_Rule_shape f_Rule_text c_Rule c_Groups := ⟨⟨pg_Groups, hd_Groups, po_Groups, sa_Groups⟩, na_Groups, ⟨es_Groups, n_Rule_shape, k_Rule_shape⟩, ⟨et_Groups, n_Rule_text, k_Rule_text⟩, ha_Groups, hn0, ht0, mo_Groups, kt_Groups⟩
 have MK_Groups : Mk K c_Groups f_Groups___init__ := ⟨mk_Groups, e_Groups___init__, nf_Groups, kc_Groups⟩
 have g_Upto := PySem.W.mg_of XB GB x_Upto
 have ok_Upto : ROk K f_Rule_shape f_Rule_text c_Rule c_Upto := ⟨⟨pg_Upto, hd_Upto, po_Upto, sa_Upto⟩, na_Upto, ⟨es_Upto, n_Rule_shape, k_Rule_shape⟩, ⟨et_Upto, n_Rule_text, k_Rule_text⟩, ha_Upto, hn0, ht0, mo_Upto, kt_Upto⟩
 have MK_Upto : Mk K c_Upto f_Upto___init__ := ⟨mk_Upto, e_Upto___init__, nf_Upto, kc_Upto⟩
 have okA : ∀ r : Rl, ROk K f_Rule_shape f_Rule_text c_Rule ((⟨c_Shares, c_Evenly, c_Losses, c_Halves, c_Other, c_Ranks, c_Groups, c_Upto⟩ : RAd).cls r) := fun r => by cases r <;> assumption
 have g_MOST := PySem.W.mg_of XB GB x_MOST
 have mp_Shares : Meth K c_Shares "path" f_Rule_path := ⟨ep_Shares, n_Rule_path, k_Rule_path⟩
 have mq_Shares : Meth K c_Shares "parts" f_Rule_parts := ⟨eq_Shares, n_Rule_parts, k_Rule_parts⟩
 have mp_Evenly : Meth K c_Evenly "path" f_Rule_path := ⟨ep_Evenly, n_Rule_path, k_Rule_path⟩
 have mq_Evenly : Meth K c_Evenly "parts" f_Rule_parts := ⟨eq_Evenly, n_Rule_parts, k_Rule_parts⟩
 have mp_Losses : Meth K c_Losses "path" f_Rule_path := ⟨ep_Losses, n_Rule_path, k_Rule_path⟩
 have mq_Losses : Meth K c_Losses "parts" f_Rule_parts := ⟨eq_Losses, n_Rule_parts, k_Rule_parts⟩
 have mp_Halves : Meth K c_Halves "path" f_Rule_path := ⟨ep_Halves, n_Rule_path, k_Rule_path⟩
 have mq_Halves : Meth K c_Halves "parts" f_Rule_parts := ⟨eq_Halves, n_Rule_parts, k_Rule_parts⟩
 have mp_Other : Meth K c_Other "path" f_Rule_path := ⟨ep_Other, n_Rule_path, k_Rule_path⟩
 have mq_Other : Meth K c_Other "parts" f_Rule_parts := ⟨eq_Other, n_Rule_parts, k_Rule_parts⟩
 have mp_Ranks : Meth K c_Ranks "path" f_Rule_path := ⟨ep_Ranks, n_Rule_path, k_Rule_path⟩
 have mq_Ranks : Meth K c_Ranks "parts" f_Rule_parts := ⟨eq_Ranks, n_Rule_parts, k_Rule_parts⟩
 have mp_Groups : Meth K c_Groups "path" f_Rule_path := ⟨ep_Groups, n_Rule_path, k_Rule_path⟩
 have mq_Groups : Meth K c_Groups "parts" f_Rule_parts := ⟨eq_Groups, n_Rule_parts, k_Rule_parts⟩
 have mp_Upto : Meth K c_Upto "path" f_Rule_path := ⟨ep_Upto, n_Rule_path, k_Rule_path⟩
 have mq_Upto : Meth K c_Upto "parts" f_Rule_parts := ⟨eq_Upto, n_Rule_parts, k_Rule_parts⟩
 have okP : ∀ r : Rl, Meth K ((⟨c_Shares, c_Evenly, c_Losses, c_Halves, c_Other, c_Ranks, c_Groups, c_Upto⟩ : RAd).cls r) "path" f_Rule_path ∧ Meth K ((⟨c_Shares, c_Evenly, c_Losses, c_Halves, c_Other, c_Ranks, c_Groups, c_Upto⟩ : RAd).cls r) "parts" f_Rule_parts := fun r => by cases r <;> constructor <;> assumption
 generalize hAA : (⟨c_Shares, c_Evenly, c_Losses, c_Halves, c_Other, c_Ranks, c_Groups, c_Upto⟩ : RAd) = A at okA okP
 have F_rinit := ok_rinit (P := l.prog) (w := w) (mg := mg) (base := base) (fS := f_Rule_shape) (fT := f_Rule_text) (Ru := c_Rule) F_Rule___init__
 have i_Shares := ok_init_Shares (A := A) g_Rule sp_Rule rd_Rule e_Rule___init__ F_rinit k_Rule___init__ b_Rule___init__ (okA .shares) F_Shares___init__
 have m_Shares : Maker l.prog w K mg base "Shares" (A.cls .shares) ["self"] (spInit (A.cls .shares) (α := Unit) (fun _ => []) (fun _ => Rl.shares.shape)) := by
  subst hAA
  exact ⟨_, _, MK_Shares, i_Shares, b_Shares___init__, g_Shares⟩
 have i_Evenly := ok_init_Evenly (A := A) g_Rule sp_Rule rd_Rule e_Rule___init__ F_rinit k_Rule___init__ b_Rule___init__ (okA .evenly) F_Evenly___init__
 have m_Evenly : Maker l.prog w K mg base "Evenly" (A.cls .evenly) ["self"] (spInit (A.cls .evenly) (α := Unit) (fun _ => []) (fun _ => Rl.evenly.shape)) := by
  subst hAA
  exact ⟨_, _, MK_Evenly, i_Evenly, b_Evenly___init__, g_Evenly⟩
 have i_Losses := ok_init_Losses (A := A) g_Rule sp_Rule rd_Rule e_Rule___init__ F_rinit k_Rule___init__ b_Rule___init__ (okA .losses) F_Losses___init__
 have m_Losses : Maker l.prog w K mg base "Losses" (A.cls .losses) ["self"] (spInit (A.cls .losses) (α := Unit) (fun _ => []) (fun _ => Rl.losses.shape)) := by
  subst hAA
  exact ⟨_, _, MK_Losses, i_Losses, b_Losses___init__, g_Losses⟩
 have i_Halves := ok_init_Halves (A := A) g_Rule sp_Rule rd_Rule e_Rule___init__ F_rinit k_Rule___init__ b_Rule___init__ (okA .halves) F_Halves___init__
 have m_Halves : Maker l.prog w K mg base "Halves" (A.cls .halves) ["self"] (spInit (A.cls .halves) (α := Unit) (fun _ => []) (fun _ => Rl.halves.shape)) := by
  subst hAA
  exact ⟨_, _, MK_Halves, i_Halves, b_Halves___init__, g_Halves⟩
 have C_gcd := cal_mk (P := l.prog) (w := w) (base := base) F_greatest_divisor (ok_gcd F_greatest_divisor) m_greatest_divisor b_greatest_divisor
 have C_lowest := cal_mk (P := l.prog) (w := w) (base := base) F_lowest (ok_lowest B C_gcd F_lowest) m_lowest b_lowest
 have C_plus := cal_mk (P := l.prog) (w := w) (base := base) F_plus (ok_plus C_lowest F_plus) m_plus b_plus
 have C_minus := cal_mk (P := l.prog) (w := w) (base := base) F_minus (ok_minus C_lowest F_minus) m_minus b_minus
 have C_times := cal_mk (P := l.prog) (w := w) (base := base) F_times (ok_times C_lowest F_times) m_times b_times
 have C_over := cal_mk (P := l.prog) (w := w) (base := base) F_over (ok_over C_lowest F_over) m_over b_over
 have C_before := cal_mk (P := l.prog) (w := w) (base := base) F_before (ok_before F_before) m_before b_before
 have C_last := cal_mk (P := l.prog) (w := w) (base := base) F_last_reached (ok_last B C_before F_last_reached) m_last_reached b_last_reached
 have C_portion := cal_mk (P := l.prog) (w := w) (base := base) F_portion_reached (ok_portion C_minus C_over F_portion_reached) m_portion_reached b_portion_reached
 have C_amount := cal_mk (P := l.prog) (w := w) (base := base) F_amount_at (ok_amount C_plus C_minus C_times F_amount_at) m_amount_at b_amount_at
 have C_between := cal_mk (P := l.prog) (w := w) (base := base) F_parts_between (ok_between B C_portion C_amount F_parts_between) m_parts_between b_parts_between
 have C_partsat := cal_mk (P := l.prog) (w := w) (base := base) F_parts_at (ok_partsat B C_last C_between F_parts_at) m_parts_at b_parts_at
 have C_gap := cal_mk (P := l.prog) (w := w) (base := base) F_gap (ok_gap F_gap) m_gap b_gap
 have C_straight := cal_mk (P := l.prog) (w := w) (base := base) F_is_straight (ok_straight B C_gap F_is_straight) m_is_straight b_is_straight
 have C_thinned := cal_mk (P := l.prog) (w := w) (base := base) F_thinned (ok_thinned B C_straight F_thinned) m_thinned b_thinned
 have C_pe := cal_mk (P := l.prog) (w := w) (base := base) F_plus_each (ok_plus_each B C_plus F_plus_each) m_plus_each b_plus_each
 have C_le := cal_mk (P := l.prog) (w := w) (base := base) F_less_each (ok_less_each B C_minus F_less_each) m_less_each b_less_each
 have C_turned := cal_mk (P := l.prog) (w := w) (base := base) F_turned (ok_turned B C_minus C_le F_turned) m_turned b_turned
 have C_scaled := cal_mk (P := l.prog) (w := w) (base := base) F_scaled (ok_scaled B C_times F_scaled) m_scaled b_scaled
 have C_behind := cal_mk (P := l.prog) (w := w) (base := base) F_behind (ok_behind B C_plus C_pe C_thinned F_behind) m_behind b_behind
 have C_check := cal_mk (P := l.prog) (w := w) (base := base) F_check_claims (ok_check B g_MOST F_check_claims) m_check_claims b_check_claims
 have C_wc := cal_mk (P := l.prog) (w := w) (base := base) F_whole_corner (ok_wc B F_whole_corner) m_whole_corner b_whole_corner
 have C_nothing := cal_mk (P := l.prog) (w := w) (base := base) F_nothing (ok_nothing C_wc F_nothing) m_nothing b_nothing
 have C_shares := cal_mk (P := l.prog) (w := w) (base := base) F_shares (ok_shares B C_nothing C_wc F_shares) m_shares b_shares
 have C_evenly := cal_mk (P := l.prog) (w := w) (base := base) F_evenly (ok_evenly B B2 C_wc F_evenly) m_evenly b_evenly
 have C_losses := cal_mk (P := l.prog) (w := w) (base := base) F_losses (ok_losses C_evenly C_turned F_losses) m_losses b_losses
 have C_upto := cal_mk (P := l.prog) (w := w) (base := base) F_upto (ok_upto C_behind C_scaled C_minus F_upto) m_upto b_upto
 have C_course := cal_mk (P := l.prog) (w := w) (base := base) F_course (ok_course C_shares C_evenly C_losses C_upto F_course) m_course b_course
 have F_path := ok_path (A := A) okA C_check C_course F_Rule_path
 have F_parts := ok_parts (A := A) okA (fun r => (okP r).1) F_path b_Rule_path C_partsat F_Rule_parts
 have C_cell := cal_mk (P := l.prog) (w := w) (base := base) F_law_cell_at (ok_cell B F_law_cell_at) m_law_cell_at b_law_cell_at
 have C_mix := cal_mk (P := l.prog) (w := w) (base := base) F_law_mixed (ok_mixed F_law_mixed) m_law_mixed b_law_mixed
 have C_div := cal_mk (P := l.prog) (w := w) (base := base) F_law_divisor (ok_divisor B F_law_divisor) m_law_divisor b_law_divisor
 have C_low := cal_mk (P := l.prog) (w := w) (base := base) F_law_lowest (ok_lawlow C_div F_law_lowest) m_law_lowest b_law_lowest
 have C_whole := cal_mk (P := l.prog) (w := w) (base := base) F_law_whole (ok_whole B F_law_whole) m_law_whole b_law_whole
 have C_frac := cal_mk (P := l.prog) (w := w) (base := base) F_law_is_fraction (ok_frac B C_whole C_div F_law_is_fraction) m_law_is_fraction b_law_is_fraction
 have C_labels := cal_mk (P := l.prog) (w := w) (base := base) F_law_labels (ok_labels F_law_labels) m_law_labels b_law_labels
 have C_claims := cal_mk (P := l.prog) (w := w) (base := base) F_law_claims (ok_claims B C_cell C_mix C_labels F_law_claims) m_law_claims b_law_claims
 have C_even := cal_mk (P := l.prog) (w := w) (base := base) F_law_even (ok_even B F_law_even) m_law_even b_law_even
 have C_fits3 := cal_mk (P := l.prog) (w := w) (base := base) F_law_fits (ok_fits3 B C_even F_law_fits) m_law_fits b_law_fits
 have C_upfit := cal_mk (P := l.prog) (w := w) (base := base) F_law_upto_fit (ok_upfit B C_fits3 F_law_upto_fit) m_law_upto_fit b_law_upto_fit
 have C_fitsU := cal_mk (P := l.prog) (w := w) (base := base) F_law_fits (ok_fitsU B C_upfit F_law_fits) m_law_fits b_law_fits
 have C_fits := cal_mk (P := l.prog) (w := w) (base := base) F_law_fits (ok_fitsN B C_even C_fitsU F_law_fits) m_law_fits b_law_fits
 have C_right := cal_mk (P := l.prog) (w := w) (base := base) F_law_right (ok_right B C_frac C_div C_fits F_law_right) m_law_right b_law_right
 have C_rule := cal_mk (P := l.prog) (w := w) (base := base) F_law_rule (ok_rulel m_Shares m_Evenly m_Losses m_Halves F_law_rule) m_law_rule b_law_rule
 have C_purse := cal_mk (P := l.prog) (w := w) (base := base) F_law_purse (ok_purse C_low F_law_purse) m_law_purse b_law_purse
 exact ok_law (A := A) B okA (fun r => (okP r).2) g_Rule F_parts b_Rule_parts C_cell C_claims C_rule C_purse C_right F_law
theorem walk {l : PySem.W.OpenLaw} {q : Program} {loose : List Str} {XP : (Str → Option Value) → Heap → Prop} {YP : World → Heap → Prop} {d : DefRec} {K : Params → PySem.W.Frag} (hn : l.most = some 63) (hdf : d.params.defaults = [])
 (hY : ∀ (w : World) (h : Heap), YP w h → (K w.params).In h)
 (F : ∀ (w : World) (mg : Str → Option Value) (fa : Addr) (h : Heap), (K w.params).In h → h.Ns mainGlobals mg → mg d.name = some (.ref fa) →
  ∃ fd : FuncData, (∀ (s : Shared) (u : Value), BindsTo s fd ⟨[u], []⟩ [("_law_script", u)]) ∧ ∀ base : Heap, (K w.params).In base → base.Ns mainGlobals mg → FnOk l.prog w (K w.params) mg base CX0 10 fa fd ["_law_script"] (spLaw (K w.params))) :
 PySem.W.WalkO q loose XP YP l.row.toRowW d [] (fun f vs => PySem.call f vs) :=
 L2.walk_of (n := 63) (k := 10) (x := "_law_script") (CX := fun _ => CX0) (sp := fun w => spLaw (K w.params)) hn (by decide) hdf ⟨rfl, by decide, by decide⟩ hY F (fun _ _ a ns hl hO hS => ⟨a, ns, rfl, hS, hl, hO, fun _ => rfl⟩) fun _ _ _ _ _ z => z
end K
namespace PySem.W.Fast
def tw10022412244399245395 : Unit := ()
def tw10025803816794530519 : Unit := ()
def tw10139474130415884494 : Unit := ()
def tw10310130950404054030 : Unit := ()
def tw10341143895808988874 : Unit := ()
def tw10384466808517329074 : Unit := ()
def tw10582196840300212914 : Unit := ()
def tw1062880111391316320 : Unit := ()
def tw10848145991881657417 : Unit := ()
def tw10866414090056286623 : Unit := ()
def tw10960239773193484092 : Unit := ()
def tw11002130524439024838 : Unit := ()
def tw11179232045767587150 : Unit := ()
def tw11209088460033542933 : Unit := ()
def tw11309599648747592419 : Unit := ()
def tw11353990334213983394 : Unit := ()
def tw11796555082455137965 : Unit := ()
def tw11840682206647163607 : Unit := ()
def tw11904020435287400404 : Unit := ()
def tw12075739662253227399 : Unit := ()
def tw12405334728773373459 : Unit := ()
def tw12450376311849658079 : Unit := ()
def tw12499254922378785194 : Unit := ()
def tw12553307485097181011 : Unit := ()
def tw12688506108619951478 : Unit := ()
def tw12946282939782111533 : Unit := ()
def tw12946458034483863407 : Unit := ()
def tw13116302239270874167 : Unit := ()
def tw13125620105910501864 : Unit := ()
def tw13143572782212749157 : Unit := ()
def tw1319272686162829959 : Unit := ()
def tw13255972961376337 : Unit := ()
def tw13318670853329124663 : Unit := ()
def tw13383718890364593185 : Unit := ()
def tw13648486405887511693 : Unit := ()
def tw13653047211405610073 : Unit := ()
def tw13799473686307477719 : Unit := ()
def tw13937336160898223379 : Unit := ()
def tw14149969331581519930 : Unit := ()
def tw14218404192583126512 : Unit := ()
def tw14222236602673474913 : Unit := ()
def tw14244119701839554463 : Unit := ()
def tw14354667085750264664 : Unit := ()
def tw14410681152839137110 : Unit := ()
def tw14511235158022632815 : Unit := ()
def tw14585789334769756476 : Unit := ()
def tw14601907838166184072 : Unit := ()
def tw14726272270408170502 : Unit := ()
def tw14954942695195316688 : Unit := ()
def tw15055437946835514543 : Unit := ()
def tw15350312865894836263 : Unit := ()
def tw15371073169681570555 : Unit := ()
def tw15435058369165081948 : Unit := ()
def tw15478741775876034197 : Unit := ()
def tw15584967509988667716 : Unit := ()
def tw15680279013793366584 : Unit := ()
def tw15963119458910842792 : Unit := ()
def tw16047203781600961485 : Unit := ()
def tw16122497478002835049 : Unit := ()
def tw16169050607875639195 : Unit := ()
def tw1620757827359533565 : Unit := ()
def tw16242948872547449975 : Unit := ()
def tw16328393970211079336 : Unit := ()
def tw16517286723004130049 : Unit := ()
def tw16551532464804345722 : Unit := ()
def tw16613943311974997003 : Unit := ()
def tw16623751784545573434 : Unit := ()
def tw16845565587200165128 : Unit := ()
def tw16850077568116979196 : Unit := ()
def tw16899333348594175446 : Unit := ()
def tw17125760474370142050 : Unit := ()
def tw17157879091490208415 : Unit := ()
def tw17601221800466284368 : Unit := ()
def tw17662556148782178886 : Unit := ()
def tw1773880356158982303 : Unit := ()
def tw17758702165938935479 : Unit := ()
def tw178474912083923809 : Unit := ()
def tw18052513553873751031 : Unit := ()
def tw1817625380954825406 : Unit := ()
def tw18216393482529859406 : Unit := ()
def tw18255986494817701167 : Unit := ()
def tw18353855118454681001 : Unit := ()
def tw18361375242273908482 : Unit := ()
def tw1838102120030682703 : Unit := ()
def tw1851503162508962877 : Unit := ()
def tw1896235717086800398 : Unit := ()
def tw1933833108239917548 : Unit := ()
def tw2021694798566912421 : Unit := ()
def tw2099460331381805929 : Unit := ()
def tw2243221773291354251 : Unit := ()
def tw2337320369693285900 : Unit := ()
def tw2382217998068777913 : Unit := ()
def tw2500967204497639987 : Unit := ()
def tw2505877147603455005 : Unit := ()
def tw2522735139102133980 : Unit := ()
def tw2627591213300411294 : Unit := ()
def tw2724268644389198432 : Unit := ()
def tw2787689532030447677 : Unit := ()
def tw2930890715227311806 : Unit := ()
def tw3043759385534847921 : Unit := ()
def tw3060334219615147696 : Unit := ()
def tw3066717542539298087 : Unit := ()
def tw3186543010104237554 : Unit := ()
def tw3264676193684398064 : Unit := ()
def tw3280717443121085994 : Unit := ()
def tw3281061971347984067 : Unit := ()
def tw3364588740403701607 : Unit := ()
def tw3789672419247231082 : Unit := ()
def tw3926910287964700828 : Unit := ()
def tw4218559997689821483 : Unit := ()
def tw4399146115771115186 : Unit := ()
def tw4551632933811250556 : Unit := ()
def tw4604201555906090940 : Unit := ()
def tw4609607845451771476 : Unit := ()
def tw4790870654403879621 : Unit := ()
def tw5165669847897563472 : Unit := ()
def tw5531335998199574295 : Unit := ()
def tw573622601942600135 : Unit := ()
def tw622861171023876105 : Unit := ()
def tw6229221462964729395 : Unit := ()
def tw6265997560637305890 : Unit := ()
def tw635927299564669489 : Unit := ()
def tw6364466786508572262 : Unit := ()
def tw6400625958562330758 : Unit := ()
def tw6473230475185098508 : Unit := ()
def tw6591064067126180295 : Unit := ()
def tw6739498421625664771 : Unit := ()
def tw7122555383637201239 : Unit := ()
def tw7153051740598252581 : Unit := ()
def tw7482635177035279961 : Unit := ()
def tw7497500779375748849 : Unit := ()
def tw7587176411863483250 : Unit := ()
def tw7653992368542104607 : Unit := ()
def tw7657385262820062883 : Unit := ()
def tw7692029444356047908 : Unit := ()
def tw7813236802692470689 : Unit := ()
def tw7845438419366884312 : Unit := ()
def tw7858852193890805018 : Unit := ()
def tw7870478183531378117 : Unit := ()
def tw7874166002141546157 : Unit := ()
def tw789749282495798476 : Unit := ()
def tw7966163267180003392 : Unit := ()
def tw8022958839298736980 : Unit := ()
def tw8098005525727821847 : Unit := ()
def tw8162177108836963976 : Unit := ()
def tw8223266425847972869 : Unit := ()
def tw8386982285635156243 : Unit := ()
def tw8438273143701734438 : Unit := ()
def tw8469731298993891037 : Unit := ()
def tw8480098421493842142 : Unit := ()
def tw8697171240488512467 : Unit := ()
def tw90566972512800152 : Unit := ()
def tw9059355157187607809 : Unit := ()
def tw9068748899119495396 : Unit := ()
def tw915907893353734685 : Unit := ()
def tw9173871144814877293 : Unit := ()
def tw9429036746909295863 : Unit := ()
def tw9546276211807985026 : Unit := ()
def tw9666710471110315781 : Unit := ()
def tw9708371189639711688 : Unit := ()
def tw9960271905333618507 : Unit := ()
end PySem.W.Fast
open PySem PySem.W PyProof.Rows
set_option maxRecDepth 100000 in
set_option maxHeartbeats 0 in
theorem PySem.Challenge.cw_shortpurse_k24_flat_rules_holds : PySem.Challenge.rw_shortpurse_k24_flat_rules.Holds := by
 w_on; o_law; k_head; (case hw => w_witness2)
 k_fill
 refine K.walk (l := PySem.Challenge.rw_shortpurse_k24_flat_rules) rfl rfl (fun w h Y => PySem.W.kIn_of Y) ?F
 case F =>
  intro w mg fa h KX G hmg
  refine' K.all_mk KX G hmg ?a1 ?l1 ?c1 ?k1 ?a2 ?l2 ?c2 ?k2 ?a3 ?l3 ?c3 ?k3 ?a4 ?l4 ?c4 ?k4 ?a5 ?l5 ?c5 ?k5 ?a6 ?l6 ?c6 ?k6 ?a7 ?l7 ?c7 ?k7 ?a8 ?l8 ?c8 ?k8 ?a9 ?l9 ?c9 ?k9 ?a10 ?l10 ?c10 ?k10 ?a11 ?l11 ?c11 ?k11 ?a12 ?l12 ?c12 ?k12 ?a13 ?l13 ?c13 ?k13 ?a14 ?l14 ?c14 ?k14 ?a15 ?l15 ?c15 ?k15 ?a16 ?l16 ?c16 ?k16 ?a17 ?l17 ?c17 ?k17 ?a18 ?l18 ?c18 ?k18 ?a19 ?l19 ?c19 ?k19 ?a20 ?l20 ?c20 ?k20 ?a21 ?l21 ?c21 ?k21 ?a22 ?l22 ?c22 ?k22 ?a23 ?l23 ?c23 ?k23 ?a24 ?l24 ?c24 ?k24 ?a25 ?l25 ?c25 ?k25 ?a26 ?l26 ?c26 ?k26 ?a27 ?l27 ?c27 ?k27 ?a28 ?l28 ?c28 ?k28 ?a29 ?l29 ?c29 ?k29 ?a30 ?l30 ?c30 ?k30 ?a31 ?l31 ?c31 ?k31 ?a32 ?l32 ?c32 ?k32 ?a33 ?l33 ?c33 ?k33 ?a34 ?l34 ?c34 ?k34 ?a35 ?l35 ?c35 ?k35 ?a36 ?l36 ?c36 ?k36 ?a37 ?l37 ?c37 ?k37 ?a38 ?l38 ?c38 ?k38 ?a39 ?l39 ?c39 ?k39 ?a40 ?l40 ?c40 ?k40 ?a41 ?l41 ?c41 ?k41 ?a42 ?l42 ?c42 ?k42 ?a43 ?l43 ?c43 ?k43 ?x_Rule ?x_Shares ?x_Evenly ?x_Losses ?x_Halves ?x_Other ?x_Ranks ?x_Groups ?x_Upto ?e_Rule___init__ ?e_Shares___init__ ?e_Evenly___init__ ?e_Losses___init__ ?e_Halves___init__ ?e_Other___init__ ?e_Ranks___init__ ?e_Groups___init__ ?e_Upto___init__ ?es_Shares ?et_Shares ?es_Evenly ?et_Evenly ?es_Losses ?et_Losses ?es_Halves ?et_Halves ?es_Other ?et_Other ?es_Ranks ?et_Ranks ?es_Groups ?et_Groups ?es_Upto ?et_Upto ?ep_Shares ?eq_Shares ?ep_Evenly ?eq_Evenly ?ep_Losses ?eq_Losses ?ep_Halves ?eq_Halves ?ep_Other ?eq_Other ?ep_Ranks ?eq_Ranks ?ep_Groups ?eq_Groups ?ep_Upto ?eq_Upto ?l_Rule___init__ ?c2_Rule___init__ ?k_Rule___init__ ?l_Rule_shape ?c2_Rule_shape ?k_Rule_shape ?l_Rule_text ?c2_Rule_text ?k_Rule_text ?l_Rule_path ?c2_Rule_path ?k_Rule_path ?l_Rule_parts ?c2_Rule_parts ?k_Rule_parts ?l_Shares___init__ ?c2_Shares___init__ ?k_Shares___init__ ?l_Evenly___init__ ?c2_Evenly___init__ ?k_Evenly___init__ ?l_Losses___init__ ?c2_Losses___init__ ?k_Losses___init__ ?l_Halves___init__ ?c2_Halves___init__ ?k_Halves___init__ ?l_Other___init__ ?c2_Other___init__ ?k_Other___init__ ?l_Ranks___init__ ?c2_Ranks___init__ ?k_Ranks___init__ ?l_Groups___init__ ?c2_Groups___init__ ?k_Groups___init__ ?l_Upto___init__ ?c2_Upto___init__ ?k_Upto___init__ ?n_Rule_shape ?n_Rule_text ?n_Rule_path ?n_Rule_parts ?x_MOST ?sp_Rule ?rd_Rule ?hn0 ?ht0 ?pg_Shares ?hd_Shares ?po_Shares ?sa_Shares ?na_Shares ?ha_Shares ?mo_Shares ?kt_Shares ?mk_Shares ?nf_Shares ?kc_Shares ?pg_Evenly ?hd_Evenly ?po_Evenly ?sa_Evenly ?na_Evenly ?ha_Evenly ?mo_Evenly ?kt_Evenly ?mk_Evenly ?nf_Evenly ?kc_Evenly ?pg_Losses ?hd_Losses ?po_Losses ?sa_Losses ?na_Losses ?ha_Losses ?mo_Losses ?kt_Losses ?mk_Losses ?nf_Losses ?kc_Losses ?pg_Halves ?hd_Halves ?po_Halves ?sa_Halves ?na_Halves ?ha_Halves ?mo_Halves ?kt_Halves ?mk_Halves ?nf_Halves ?kc_Halves ?pg_Other ?hd_Other ?po_Other ?sa_Other ?na_Other ?ha_Other ?mo_Other ?kt_Other ?mk_Other ?nf_Other ?kc_Other ?pg_Ranks ?hd_Ranks ?po_Ranks ?sa_Ranks ?na_Ranks ?ha_Ranks ?mo_Ranks ?kt_Ranks ?mk_Ranks ?nf_Ranks ?kc_Ranks ?pg_Groups ?hd_Groups ?po_Groups ?sa_Groups ?na_Groups ?ha_Groups ?mo_Groups ?kt_Groups ?mk_Groups ?nf_Groups ?kc_Groups ?pg_Upto ?hd_Upto ?po_Upto ?sa_Upto ?na_Upto ?ha_Upto ?mo_Upto ?kt_Upto ?mk_Upto ?nf_Upto ?kc_Upto ?z_len ?z_abs ?z_min ?z_max ?z_isinstance ?z_range ?z_int ?z_bool ?z_tuple ?z_list ?z_enumerate ?z_zip ?z_reversed ?z_ValueError ?z_sum ?z_str ?z_sorted ?z_set
  (case a1 => k_is)
  (case l1 => k_is)
  (case c1 => k_is)
  (case k1 => k_is)
  (case a2 => k_is)
  (case l2 => k_is)
  (case c2 => k_is)
  (case k2 => k_is)
  (case a3 => k_is)
  (case l3 => k_is)
  (case c3 => k_is)
  (case k3 => k_is)
  (case a4 => k_is)
  (case l4 => k_is)
  (case c4 => k_is)
  (case k4 => k_is)
  (case a5 => k_is)
  (case l5 => k_is)
  (case c5 => k_is)
  (case k5 => k_is)
  (case a6 => k_is)
  (case l6 => k_is)
  (case c6 => k_is)
  (case k6 => k_is)
  (case a7 => k_is)
  (case l7 => k_is)
  (case c7 => k_is)
  (case k7 => k_is)
  (case a8 => k_is)
  (case l8 => k_is)
  (case c8 => k_is)
  (case k8 => k_is)
  (case a9 => k_is)
  (case l9 => k_is)
  (case c9 => k_is)
  (case k9 => k_is)
  (case a10 => k_is)
  (case l10 => k_is)
  (case c10 => k_is)
  (case k10 => k_is)
  (case a11 => k_is)
  (case l11 => k_is)
  (case c11 => k_is)
  (case k11 => k_is)
  (case a12 => k_is)
  (case l12 => k_is)
  (case c12 => k_is)
  (case k12 => k_is)
  (case a13 => k_is)
  (case l13 => k_is)
  (case c13 => k_is)
  (case k13 => k_is)
  (case a14 => k_is)
  (case l14 => k_is)
  (case c14 => k_is)
  (case k14 => k_is)
  (case a15 => k_is)
  (case l15 => k_is)
  (case c15 => k_is)
  (case k15 => k_is)
  (case a16 => k_is)
  (case l16 => k_is)
  (case c16 => k_is)
  (case k16 => k_is)
  (case a17 => k_is)
  (case l17 => k_is)
  (case c17 => k_is)
  (case k17 => k_is)
  (case a18 => k_is)
  (case l18 => k_is)
  (case c18 => k_is)
  (case k18 => k_is)
  (case a19 => k_is)
  (case l19 => k_is)
  (case c19 => k_is)
  (case k19 => k_is)
  (case a20 => k_is)
  (case l20 => k_is)
  (case c20 => k_is)
  (case k20 => k_is)
  (case a21 => k_is)
  (case l21 => k_is)
  (case c21 => k_is)
  (case k21 => k_is)
  (case a22 => k_is)
  (case l22 => k_is)
  (case c22 => k_is)
  (case k22 => k_is)
  (case a23 => k_is)
  (case l23 => k_is)
  (case c23 => k_is)
  (case k23 => k_is)
  (case a24 => k_is)
  (case l24 => k_is)
  (case c24 => k_is)
  (case k24 => k_is)
  (case a25 => k_is)
  (case l25 => k_is)
  (case c25 => k_is)
  (case k25 => k_is)
  (case a26 => k_is)
  (case l26 => k_is)
  (case c26 => k_is)
  (case k26 => k_is)
  (case a27 => k_is)
  (case l27 => k_is)
  (case c27 => k_is)
  (case k27 => k_is)
  (case a28 => k_is)
  (case l28 => k_is)
  (case c28 => k_is)
  (case k28 => k_is)
  (case a29 => k_is)
  (case l29 => k_is)
  (case c29 => k_is)
  (case k29 => k_is)
  (case a30 => k_is)
  (case l30 => k_is)
  (case c30 => k_is)
  (case k30 => k_is)
  (case a31 => k_is)
  (case l31 => k_is)
  (case c31 => k_is)
  (case k31 => k_is)
  (case a32 => k_is)
  (case l32 => k_is)
  (case c32 => k_is)
  (case k32 => k_is)
  (case a33 => k_is)
  (case l33 => k_is)
  (case c33 => k_is)
  (case k33 => k_is)
  (case a34 => k_is)
  (case l34 => k_is)
  (case c34 => k_is)
  (case k34 => k_is)
  (case a35 => k_is)
  (case l35 => k_is)
  (case c35 => k_is)
  (case k35 => k_is)
  (case a36 => k_is)
  (case l36 => k_is)
  (case c36 => k_is)
  (case k36 => k_is)
  (case a37 => k_is)
  (case l37 => k_is)
  (case c37 => k_is)
  (case k37 => k_is)
  (case a38 => k_is)
  (case l38 => k_is)
  (case c38 => k_is)
  (case k38 => k_is)
  (case a39 => k_is)
  (case l39 => k_is)
  (case c39 => k_is)
  (case k39 => k_is)
  (case a40 => k_is)
  (case l40 => k_is)
  (case c40 => k_is)
  (case k40 => k_is)
  (case a41 => k_is)
  (case l41 => k_is)
  (case c41 => k_is)
  (case k41 => k_is)
  (case a42 => k_is)
  (case l42 => k_is)
  (case c42 => k_is)
  (case k42 => k_is)
  (case a43 => k_is)
  (case l43 => k_is)
  (case c43 => k_is)
  (case k43 => k_is)
  (case x_Rule => k_is)
  (case x_Shares => k_is)
  (case x_Evenly => k_is)
  (case x_Losses => k_is)
  (case x_Halves => k_is)
  (case x_Other => k_is)
  (case x_Ranks => k_is)
  (case x_Groups => k_is)
  (case x_Upto => k_is)
  (case e_Rule___init__ => k_is)
  (case e_Shares___init__ => k_is)
  (case e_Evenly___init__ => k_is)
  (case e_Losses___init__ => k_is)
  (case e_Halves___init__ => k_is)
  (case e_Other___init__ => k_is)
  (case e_Ranks___init__ => k_is)
  (case e_Groups___init__ => k_is)
  (case e_Upto___init__ => k_is)
  (case es_Shares => k_is)
  (case et_Shares => k_is)
  (case es_Evenly => k_is)
  (case et_Evenly => k_is)
  (case es_Losses => k_is)
  (case et_Losses => k_is)
  (case es_Halves => k_is)
  (case et_Halves => k_is)
  (case es_Other => k_is)
  (case et_Other => k_is)
  (case es_Ranks => k_is)
  (case et_Ranks => k_is)
  (case es_Groups => k_is)
  (case et_Groups => k_is)
  (case es_Upto => k_is)
  (case et_Upto => k_is)
  (case ep_Shares => k_is)
  (case eq_Shares => k_is)
  (case ep_Evenly => k_is)
  (case eq_Evenly => k_is)
  (case ep_Losses => k_is)
  (case eq_Losses => k_is)
  (case ep_Halves => k_is)
  (case eq_Halves => k_is)
  (case ep_Other => k_is)
  (case eq_Other => k_is)
  (case ep_Ranks => k_is)
  (case eq_Ranks => k_is)
  (case ep_Groups => k_is)
  (case eq_Groups => k_is)
  (case ep_Upto => k_is)
  (case eq_Upto => k_is)
  (case l_Rule___init__ => k_is)
  (case c2_Rule___init__ => k_is)
  (case k_Rule___init__ => k_is)
  (case l_Rule_shape => k_is)
  (case c2_Rule_shape => k_is)
  (case k_Rule_shape => k_is)
  (case l_Rule_text => k_is)
  (case c2_Rule_text => k_is)
  (case k_Rule_text => k_is)
  (case l_Rule_path => k_is)
  (case c2_Rule_path => k_is)
  (case k_Rule_path => k_is)
  (case l_Rule_parts => k_is)
  (case c2_Rule_parts => k_is)
  (case k_Rule_parts => k_is)
  (case l_Shares___init__ => k_is)
  (case c2_Shares___init__ => k_is)
  (case k_Shares___init__ => k_is)
  (case l_Evenly___init__ => k_is)
  (case c2_Evenly___init__ => k_is)
  (case k_Evenly___init__ => k_is)
  (case l_Losses___init__ => k_is)
  (case c2_Losses___init__ => k_is)
  (case k_Losses___init__ => k_is)
  (case l_Halves___init__ => k_is)
  (case c2_Halves___init__ => k_is)
  (case k_Halves___init__ => k_is)
  (case l_Other___init__ => k_is)
  (case c2_Other___init__ => k_is)
  (case k_Other___init__ => k_is)
  (case l_Ranks___init__ => k_is)
  (case c2_Ranks___init__ => k_is)
  (case k_Ranks___init__ => k_is)
  (case l_Groups___init__ => k_is)
  (case c2_Groups___init__ => k_is)
  (case k_Groups___init__ => k_is)
  (case l_Upto___init__ => k_is)
  (case c2_Upto___init__ => k_is)
  (case k_Upto___init__ => k_is)
  (case n_Rule_shape => k_is)
  (case n_Rule_text => k_is)
  (case n_Rule_path => k_is)
  (case n_Rule_parts => k_is)
  (case x_MOST => k_is)
  (case sp_Rule => k_is)
  (case rd_Rule => k_is)
  (case hn0 => k_is)
  (case ht0 => k_is)
  (case pg_Shares => k_is)
  (case hd_Shares => k_is)
  (case po_Shares => k_is)
  (case sa_Shares => k_is)
  (case na_Shares => k_is)
  (case ha_Shares => k_is)
  (case mo_Shares => k_is)
  (case kt_Shares => kit_is)
  (case mk_Shares => k_is)
  (case nf_Shares => k_is)
  (case kc_Shares => k_is)
  (case pg_Evenly => k_is)
  (case hd_Evenly => k_is)
  (case po_Evenly => k_is)
  (case sa_Evenly => k_is)
  (case na_Evenly => k_is)
  (case ha_Evenly => k_is)
  (case mo_Evenly => k_is)
  (case kt_Evenly => kit_is)
  (case mk_Evenly => k_is)
  (case nf_Evenly => k_is)
  (case kc_Evenly => k_is)
  (case pg_Losses => k_is)
  (case hd_Losses => k_is)
  (case po_Losses => k_is)
  (case sa_Losses => k_is)
  (case na_Losses => k_is)
  (case ha_Losses => k_is)
  (case mo_Losses => k_is)
  (case kt_Losses => kit_is)
  (case mk_Losses => k_is)
  (case nf_Losses => k_is)
  (case kc_Losses => k_is)
  (case pg_Halves => k_is)
  (case hd_Halves => k_is)
  (case po_Halves => k_is)
  (case sa_Halves => k_is)
  (case na_Halves => k_is)
  (case ha_Halves => k_is)
  (case mo_Halves => k_is)
  (case kt_Halves => kit_is)
  (case mk_Halves => k_is)
  (case nf_Halves => k_is)
  (case kc_Halves => k_is)
  (case pg_Other => k_is)
  (case hd_Other => k_is)
  (case po_Other => k_is)
  (case sa_Other => k_is)
  (case na_Other => k_is)
  (case ha_Other => k_is)
  (case mo_Other => k_is)
  (case kt_Other => kit_is)
  (case mk_Other => k_is)
  (case nf_Other => k_is)
  (case kc_Other => k_is)
  (case pg_Ranks => k_is)
  (case hd_Ranks => k_is)
  (case po_Ranks => k_is)
  (case sa_Ranks => k_is)
  (case na_Ranks => k_is)
  (case ha_Ranks => k_is)
  (case mo_Ranks => k_is)
  (case kt_Ranks => kit_is)
  (case mk_Ranks => k_is)
  (case nf_Ranks => k_is)
  (case kc_Ranks => k_is)
  (case pg_Groups => k_is)
  (case hd_Groups => k_is)
  (case po_Groups => k_is)
  (case sa_Groups => k_is)
  (case na_Groups => k_is)
  (case ha_Groups => k_is)
  (case mo_Groups => k_is)
  (case kt_Groups => kit_is)
  (case mk_Groups => k_is)
  (case nf_Groups => k_is)
  (case kc_Groups => k_is)
  (case pg_Upto => k_is)
  (case hd_Upto => k_is)
  (case po_Upto => k_is)
  (case sa_Upto => k_is)
  (case na_Upto => k_is)
  (case ha_Upto => k_is)
  (case mo_Upto => k_is)
  (case kt_Upto => kit_is)
  (case mk_Upto => k_is)
  (case nf_Upto => k_is)
  (case kc_Upto => k_is)
  (case z_len => k_is)
  (case z_abs => k_is)
  (case z_min => k_is)
  (case z_max => k_is)
  (case z_isinstance => k_is)
  (case z_range => k_is)
  (case z_int => k_is)
  (case z_bool => k_is)
  (case z_tuple => k_is)
  (case z_list => k_is)
  (case z_enumerate => k_is)
  (case z_zip => k_is)
  (case z_reversed => k_is)
  (case z_ValueError => k_is)
  (case z_sum => k_is)
  (case z_str => k_is)
  (case z_sorted => k_is)
  (case z_set => k_is)
